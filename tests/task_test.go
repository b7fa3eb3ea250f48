package tests

import (
	"slices"
	"strconv"
	"testing"

	"loop.example/stint/impl"
)

// callWorld is handWorld with room in it.
func callWorld() impl.World {
	w := handWorld()
	w.Tasks[7].V = 0
	return w
}

func wantTask(t *testing.T, name string, got, want impl.Task) {
	t.Helper()
	if got != want {
		t.Errorf("%s: %+v, want %+v", name, got, want)
	}
}

// A new task is ready at the floor of its queue, all else of it 0; its groups come to be On, the stay there ends, and nothing else is changed.
func TestForkMakes(t *testing.T) {
	w := groupedWorld(2, 0, 1)
	w.Groups[0].Shelves[1].Floor, w.Groups[1].Shelves[1].Floor, w.Groups[2].Shelves[1].Floor = 40, 50, 77
	w.Groups[1].Shelves[1].V, w.Groups[2].Shelves[1].V = 0, 60
	putReady(w, 0, 0, 1, 0, 40+5*step(10))
	putReady(w, 2, 0, 0, 0, 6*step(10))
	w.Cpus[0].Cur, w.Cpus[0].Ran, w.Cpus[1].Cur, w.Cpus[1].Ran = 2, 6, 0, 5
	w.Groups[0].Shelves[0].Floor = 6 * step(10)
	out, place, code := impl.TaskFork(w, 2, -4, 2)
	want := cloneWorld(w)
	want.Tasks[1] = impl.Task{State: impl.TaskReady, Group: 2, Cpu: 1, Nice: -4, Mask: 2, V: 77}
	want.Cpus[1].Cur, want.Cpus[1].Ran = -1, 0
	want.Groups[1].Shelves[1] = impl.Shelf{Floor: 60, On: true, V: 40, W: 10}
	want.Groups[2].Shelves[1] = impl.Shelf{Floor: 77, On: true, V: 60, W: 10}
	if place != 1 || code != impl.CodeDone || !sameWorld(out, want) {
		t.Errorf("%d, %d, %+v, want %+v", place, code, out, want)
	}
}

// A task is made with any niceness and any set; the set is kept as it is told, whoever is up.
func TestForkOfEachNicenessAndSet(t *testing.T) {
	w := pinnedWorld(4, 11, []int{6}, 1, 0)
	w.Tasks[4] = impl.Task{}
	for nice := -10; nice <= 9; nice++ {
		for mask := 1; mask <= everyCpu; mask++ {
			out, place, code := impl.TaskFork(w, 1, nice, mask)
			// Of the group's processors only 1 is up.
			if code != impl.CodeDone || place != 0 || out.Tasks[0] != (impl.Task{State: impl.TaskReady, Group: 1, Cpu: 1, Nice: nice, Mask: mask}) {
				t.Errorf("nice %d, mask %b: %d, %+v", nice, mask, code, out.Tasks[0])
			}
		}
	}
}

// crowdCase is what is ready on processors, and which of them is the best of a set.
type crowdCase struct {
	name string
	// loads are those of the tasks that are ready on each processor.
	loads [4][]int
	up    int
	mask  int
	want  int
}

func crowdCases() []crowdCase {
	return []crowdCase{
		{"nobody", [4][]int{}, 15, 15, 0},
		{"nobody, of a set", [4][]int{}, 15, 12, 2},
		{"nobody, of one", [4][]int{}, 15, 8, 3},
		{"nobody, the first one down", [4][]int{}, 14, 15, 1},
		{"somebody on the first", [4][]int{{5}}, 15, 15, 1},
		{"somebody without a load", [4][]int{{0}}, 15, 15, 1},
		{"nobody on the last alone", [4][]int{{1}, {0}, {2}}, 15, 15, 3},
		{"the least load", [4][]int{{5}, {4}, {3}, {6}}, 15, 15, 2},
		{"the least load by one", [4][]int{{7999999}, {8000000}}, 3, 15, 0},
		{"the least load of a set", [4][]int{{5}, {4}, {3}, {6}}, 15, 11, 1},
		{"the least load of who is up", [4][]int{{5}, {4}, {}, {6}}, 11, 15, 1},
		{"the first of several", [4][]int{{5}, {3}, {4}, {3}}, 15, 15, 1},
		{"fewer tasks", [4][]int{{5}, {1, 2}, {4}, {3}}, 15, 15, 3},
		{"fewer tasks, the first of several", [4][]int{{1, 1, 1}, {1, 2}, {3, 0}, {0, 0, 3}}, 15, 15, 1},
		{"loads go ahead of tasks", [4][]int{{0, 0, 0, 0}, {1}, {1}, {1}}, 15, 15, 0},
		{"loads go together", [4][]int{{4, 4}, {7}, {3, 5}, {2, 2, 2, 2}}, 15, 15, 1},
		{"the greatest loads", [4][]int{{8000000, 8000000}, {8000000, 8000000, 8000000}, {8000000, 7999999}}, 7, 15, 2},
		{"all alike", [4][]int{{2, 2}, {2, 2}, {2, 2}, {2, 2}}, 15, 14, 1},
		{"a set that is all down", [4][]int{{3}, {2}}, 3, 12, 1},
	}
}

// world is a world of four processors with these tasks; the places 0 and 11 are free.
func (c crowdCase) world() impl.World {
	w := emptyWorld(4)
	at := 1
	for cpu, loads := range c.loads {
		w.Cpus[cpu].Up = c.up>>cpu&1 == 1
		for _, load := range loads {
			putReady(w, at, 0, cpu, at%5-2, 0)
			w.Tasks[at].Load = load
			at++
		}
	}
	return w
}

// The best processor has the least loads, of several the fewest tasks, of several it is the first.
func TestForkOnTheBest(t *testing.T) {
	for _, c := range crowdCases() {
		out := mustCall(t, c.world(), taskCall{what: callFork, mask: c.mask})
		wantTask(t, c.name, out.Tasks[0], impl.Task{State: impl.TaskReady, Cpu: c.want, Mask: c.mask})
	}
}

// Who waits for something is no crowd; who is held back by a quota, or is current, is.
func TestForkCountsWhoIsReady(t *testing.T) {
	w := groupedWorld(2, 0)
	putReady(w, 3, 0, 0, 0, 0)
	w.Tasks[3].State, w.Tasks[3].Load = impl.TaskBlocked, 9
	if out := mustCall(t, w, taskCall{what: callFork, mask: 3}); out.Tasks[0].Cpu != 0 {
		t.Errorf("somebody waits there: on %d", out.Tasks[0].Cpu)
	}
	limitTo(w, 1, 5)
	spendAll(w, 1)
	w.Groups[1].Band.Dry[0] = true
	putReady(w, 4, 1, 0, 0, 0)
	modelSettle(w)
	if out := mustCall(t, w, taskCall{what: callFork, mask: 3}); impl.WorldLine(w, 4) || out.Tasks[0].Cpu != 1 {
		t.Errorf("somebody is held back there: on %d", out.Tasks[0].Cpu)
	}
	if out := mustCall(t, rivalsOfTwo(), taskCall{what: callFork, mask: 3}); out.Tasks[2].Cpu != 1 {
		t.Errorf("somebody is current there: on %d", out.Tasks[2].Cpu)
	}
}

// rivalsOfTwo is rivals on two processors, with nobody on the second one.
func rivalsOfTwo() impl.World {
	w := emptyWorld(2)
	putReady(w, 0, 0, 0, 0, 30*step(10))
	putReady(w, 1, 0, 0, 0, 0)
	w.Cpus[0].Cur, w.Cpus[0].Ran = 0, 30
	return w
}

// Who blocks keeps all but their state; what was theirs alone is not On any more.
func TestBlock(t *testing.T) {
	w := callWorld()
	out := mustCall(t, w, taskCall{what: callBlock, task: 1})
	want := cloneWorld(w)
	want.Tasks[1].State = impl.TaskBlocked
	want.Cpus[1].Cur, want.Cpus[1].Ran = -1, 0
	for _, g := range []int{1, 2, 3} {
		want.Groups[g].Shelves[1].On = false
	}
	want.Groups[1].Band.Pool, want.Groups[1].Band.Locals[1] = 70, 0
	if !sameWorld(out, want) {
		t.Errorf("who is current: %+v, want %+v", out, want)
	}
	w = rivals(30)
	out = mustCall(t, w, taskCall{what: callBlock, task: 1})
	wantCpu(t, "another one blocks", out.Cpus[0], w.Cpus[0])
	if floor := out.Groups[0].Shelves[0].Floor; floor != 30*step(10) {
		t.Errorf("another one blocks: the floor is at %d", floor)
	}
	out = mustCall(t, rivals(30), taskCall{what: callBlock, task: 0})
	wantCpu(t, "who is current", out.Cpus[0], impl.Cpu{Up: true, Cur: -1})
	if floor := out.Groups[0].Shelves[0].Floor; floor != 0 {
		t.Errorf("who is current: the floor is at %d", floor)
	}
}

// sleeperWorld is a world of four processors with the task 9 blocked on the second one.
func sleeperWorld() impl.World {
	w := emptyWorld(4)
	putReady(w, 9, 0, 1, 0, 0)
	w.Tasks[9].State, w.Tasks[9].Load = impl.TaskBlocked, loadLimit
	return w
}

// Who wakes where nobody is ready stays there, whatever goes on elsewhere; else they go where there is least to do.
func TestWakeWhere(t *testing.T) {
	for name, c := range map[string]struct {
		change func(w impl.World)
		want   int
	}{
		"nobody anywhere": {func(impl.World) {}, 1},
		"nobody there, somebody elsewhere": {func(w impl.World) {
			putReady(w, 0, 0, 0, 0, 0)
			putReady(w, 1, 0, 2, 0, 0)
		}, 1},
		"somebody waits there":  {func(w impl.World) { w.Tasks[4] = impl.Task{State: impl.TaskBlocked, Cpu: 1, Mask: 2, Load: 7} }, 1},
		"somebody there":        {func(w impl.World) { putReady(w, 4, 0, 1, 0, 0) }, 0},
		"somebody there and on": {func(w impl.World) { putReady(w, 4, 0, 1, 0, 0); putReady(w, 5, 0, 0, 0, 0) }, 2},
		"somebody in all, less there": {func(w impl.World) {
			for cpu := range 4 {
				putReady(w, cpu, 0, cpu, 0, 0)
				w.Tasks[cpu].Load = 5 - cpu%2
			}
			w.Tasks[1].Load = 3
		}, 1},
		"somebody there, its mask": {func(w impl.World) { putReady(w, 4, 0, 1, 0, 0); w.Tasks[9].Mask = 10 }, 3},
		"somebody there, its mask of one": {func(w impl.World) {
			putReady(w, 4, 0, 1, 0, 0)
			w.Tasks[9].Mask = 2
		}, 1},
		"somebody there, others down": {func(w impl.World) {
			putReady(w, 4, 0, 1, 0, 0)
			w.Cpus[0].Up, w.Cpus[2].Up = false, false
		}, 3},
		"somebody held back there": {func(w impl.World) {
			w.Groups[1] = groupedWorld(4, 0).Groups[1]
			limitTo(w, 1, 5)
			spendAll(w, 1)
			w.Groups[1].Band.Dry[1] = true
			putReady(w, 4, 1, 1, 0, 0)
		}, 0},
	} {
		w := sleeperWorld()
		c.change(w)
		modelSettle(w)
		out := mustCall(t, w, taskCall{what: callWake, task: 9})
		want := w.Tasks[9]
		want.State, want.Cpu = impl.TaskReady, c.want
		wantTask(t, name, out.Tasks[9], want)
	}
}

// Who wakes goes where a new task would, if somebody is ready where they are; what they are themselves does not count.
func TestWakeOnTheBest(t *testing.T) {
	for _, c := range crowdCases() {
		for cpu, loads := range c.loads {
			if len(loads) == 0 || c.up>>cpu&1 == 0 || c.mask>>cpu&1 == 0 {
				continue
			}
			w := c.world()
			w.Tasks[11] = impl.Task{State: impl.TaskBlocked, Cpu: cpu, Mask: c.mask, Load: loadLimit}
			out := mustCall(t, w, taskCall{what: callWake, task: 11})
			wantTask(t, c.name+", from "+strconv.Itoa(cpu), out.Tasks[11], impl.Task{State: impl.TaskReady, Cpu: c.want, Mask: c.mask, Load: loadLimit})
		}
	}
}

// A wake ends the stay where it leads to, and no other one.
func TestWakeEndsTheStay(t *testing.T) {
	w := rivalsOfTwo()
	putReady(w, 5, 0, 1, 0, 4*step(10))
	w.Cpus[1].Cur, w.Cpus[1].Ran = 5, 4
	w.Tasks[7] = impl.Task{State: impl.TaskBlocked, Cpu: 0, Mask: 3}
	out := mustCall(t, w, taskCall{what: callWake, task: 7})
	if out.Tasks[7].Cpu != 1 {
		t.Fatalf("%+v", out.Tasks[7])
	}
	wantCpu(t, "where it was", out.Cpus[0], w.Cpus[0])
	wantCpu(t, "where it is", out.Cpus[1], impl.Cpu{Up: true, Cur: -1})
	w.Tasks[7].Mask = 1
	out = mustCall(t, w, taskCall{what: callWake, task: 7})
	wantCpu(t, "where it stays", out.Cpus[0], impl.Cpu{Up: true, Cur: -1})
	wantCpu(t, "elsewhere", out.Cpus[1], w.Cpus[1])
}

// Who exits leaves nothing behind in their place; their stay ends, another one's does not.
func TestExit(t *testing.T) {
	w := callWorld()
	for at, task := range w.Tasks {
		if task.State == impl.TaskNone {
			continue
		}
		out := mustCall(t, w, taskCall{what: callExit, task: at})
		want := slices.Clone(w.Tasks)
		want[at] = impl.Task{}
		if !slices.Equal(out.Tasks, want) {
			t.Errorf("%d: %+v", at, out.Tasks)
		}
		cpu := w.Cpus[1]
		if at == 1 {
			cpu.Cur, cpu.Ran = -1, 0
		}
		wantCpu(t, "behind "+strconv.Itoa(at), out.Cpus[1], cpu)
		for g := range w.Groups {
			if out.Groups[g].Sum != w.Groups[g].Sum {
				t.Errorf("behind %d the group %d has %d", at, g, out.Groups[g].Sum)
			}
		}
	}
	// A group whose last task goes gives back what it has here.
	out := mustCall(t, w, taskCall{what: callExit, task: 1})
	if b := out.Groups[1].Band; b.Locals[1] != 0 || b.Pool != 70 || out.Groups[3].Shelves[1].On || out.Groups[1].Shelves[1].On {
		t.Errorf("the group: %+v", out.Groups[1])
	}
}

// Another niceness ends the stay of who is current, and of nobody else; who waits keeps their time.
func TestNice(t *testing.T) {
	w := rivals(30)
	w.Tasks[2] = impl.Task{State: impl.TaskBlocked, Mask: 1, V: 40 * unitStep}
	for _, nice := range []int{-10, 0, 9} {
		out := mustCall(t, w, taskCall{what: callNice, task: 0, nice: nice})
		wantCpu(t, "who is current", out.Cpus[0], impl.Cpu{Up: true, Cur: -1})
		want := w.Tasks[0]
		want.Nice = nice
		wantTask(t, "who is current", out.Tasks[0], want)
		out = mustCall(t, w, taskCall{what: callNice, task: 1, nice: nice})
		wantCpu(t, "another one", out.Cpus[0], w.Cpus[0])
		out = mustCall(t, w, taskCall{what: callNice, task: 2, nice: nice})
		wantCpu(t, "one who waits", out.Cpus[0], w.Cpus[0])
		want = w.Tasks[2]
		want.Nice = nice
		wantTask(t, "one who waits", out.Tasks[2], want)
	}
}

// A pin that leaves a task where it is changes its mask alone; another one brings it to the first processor where it may be.
func TestPinWhere(t *testing.T) {
	for _, c := range []struct {
		up, pins, from, mask int
		want                 int
	}{
		{15, 15, 1, 15, 1}, {15, 15, 1, 2, 1}, {15, 15, 1, 10, 1}, {15, 15, 1, 1, 0}, {15, 15, 1, 12, 2}, {15, 15, 1, 13, 0}, {15, 15, 1, 8, 3}, {15, 15, 0, 12, 2},
		{15, 6, 1, 12, 2}, {15, 6, 1, 4, 2}, {15, 6, 2, 9, 2}, {15, 6, 1, 9, 1}, {15, 6, 1, 14, 1}, {15, 6, 2, 3, 1},
		{11, 6, 1, 4, 1}, {11, 14, 1, 4, 1}, {11, 14, 3, 6, 1}, {11, 14, 3, 1, 3}, {10, 5, 3, 2, 3}, {10, 5, 1, 15, 1}, {10, 5, 3, 5, 3},
	} {
		for state := 1; state <= 2; state++ {
			w := pinnedWorld(4, c.up, []int{c.pins}, 1<<c.from, state)
			putOn(w, c.from)
			modelSettle(w)
			out := mustCall(t, w, taskCall{what: callPin, task: 4, mask: c.mask})
			want := w.Tasks[4]
			want.Mask, want.Cpu = c.mask, c.want
			wantTask(t, "up "+strconv.Itoa(c.up)+", pins "+strconv.Itoa(c.pins)+", mask "+strconv.Itoa(c.mask), out.Tasks[4], want)
			if on := out.Groups[1].Shelves[c.want].On; on != (state == 1) || c.want != c.from && out.Groups[1].Shelves[c.from].On {
				t.Errorf("%+v: %+v", c, out.Groups[1].Shelves)
			}
		}
	}
}

// A pin that brings a task elsewhere ends the stay there, if the task is ready, and its own; one that leaves it where it is ends none, not even its own.
func TestPinEndsTheStay(t *testing.T) {
	w := rivalsOfTwo()
	putReady(w, 5, 0, 1, 0, 4*step(10))
	w.Cpus[1].Cur, w.Cpus[1].Ran = 5, 4
	w.Tasks[6] = impl.Task{State: impl.TaskBlocked, Cpu: 0, Mask: 15}
	none := impl.Cpu{Up: true, Cur: -1}
	for _, c := range []struct {
		name          string
		task, mask    int
		first, second impl.Cpu
	}{
		{"who is current stays", 0, 1, w.Cpus[0], w.Cpus[1]},
		{"who is current stays, of two", 0, 3, w.Cpus[0], w.Cpus[1]},
		{"who is current goes", 0, 2, none, none},
		{"another one stays", 1, 5, w.Cpus[0], w.Cpus[1]},
		{"another one goes", 1, 6, w.Cpus[0], none},
		{"one who waits stays", 6, 9, w.Cpus[0], w.Cpus[1]},
		{"one who waits goes", 6, 2, w.Cpus[0], w.Cpus[1]},
		{"who is current on the second goes", 5, 1, none, none},
	} {
		out := mustCall(t, w, taskCall{what: callPin, task: c.task, mask: c.mask})
		wantCpu(t, c.name+": the first", out.Cpus[0], c.first)
		wantCpu(t, c.name+": the second", out.Cpus[1], c.second)
	}
}

// A move leads to the task's processor, if it may be there as a task of that group, else to the first one where it may be then.
func TestMoveWhere(t *testing.T) {
	for _, c := range []struct {
		up, from, mask int
		pins           int
		want           int
	}{
		{15, 1, 15, 15, 1}, {15, 1, 2, 15, 1}, {15, 1, 15, 2, 1}, {15, 1, 15, 12, 2}, {15, 1, 15, 9, 0}, {15, 1, 15, 8, 3}, {15, 1, 2, 12, 2}, {15, 1, 10, 12, 3},
		{15, 3, 8, 6, 1}, {15, 3, 12, 6, 2}, {11, 3, 12, 6, 1}, {11, 3, 8, 4, 3}, {11, 1, 15, 4, 1}, {11, 1, 15, 12, 3}, {11, 0, 5, 4, 0}, {10, 3, 12, 5, 3},
	} {
		for state := 1; state <= 2; state++ {
			w := pinnedWorld(4, c.up, []int{c.pins}, c.mask, state)
			w.Tasks[4].Group, w.Tasks[4].Cpu = 0, c.from
			modelSettle(w)
			out := mustCall(t, w, taskCall{what: callMove, task: 4, group: 1})
			want := w.Tasks[4]
			want.Group, want.Cpu = 1, c.want
			wantTask(t, "up "+strconv.Itoa(c.up)+", mask "+strconv.Itoa(c.mask)+", pins "+strconv.Itoa(c.pins), out.Tasks[4], want)
			if on := out.Groups[1].Shelves[c.want].On; on != (state == 1) {
				t.Errorf("%+v: %+v", c, out.Groups[1].Shelves)
			}
		}
	}
}

// A move ends the stay of who is current, and where somebody ready comes to; the sums of groups stay with them.
func TestMoveEndsTheStay(t *testing.T) {
	w := groupedWorld(2, 0, 0)
	w.Groups[2].Cpus = 2
	putReady(w, 0, 0, 0, 0, 0)
	putReady(w, 1, 0, 0, 0, 30*step(10))
	putReady(w, 5, 0, 1, 0, 4*step(10))
	w.Tasks[6] = impl.Task{State: impl.TaskBlocked, Cpu: 0, Mask: 15}
	w.Cpus[0].Cur, w.Cpus[0].Ran, w.Cpus[1].Cur, w.Cpus[1].Ran = 1, 30, 5, 4
	w.Tasks[1].Sum, w.Groups[0].Sum, w.Groups[0].Shelves[0].Sum = 30, 30, 30
	none := impl.Cpu{Up: true, Cur: -1}
	for _, c := range []struct {
		name          string
		task, group   int
		first, second impl.Cpu
	}{
		{"who is current, here", 1, 1, none, w.Cpus[1]},
		{"who is current, elsewhere", 1, 2, none, none},
		{"who is current, to where it is", 1, 0, w.Cpus[0], w.Cpus[1]},
		{"another one, here", 0, 1, none, w.Cpus[1]},
		{"another one, elsewhere", 0, 2, w.Cpus[0], none},
		{"another one, to where it is", 0, 0, w.Cpus[0], w.Cpus[1]},
		{"one who waits, here", 6, 1, w.Cpus[0], w.Cpus[1]},
		{"one who waits, elsewhere", 6, 2, w.Cpus[0], w.Cpus[1]},
	} {
		out := mustCall(t, w, taskCall{what: callMove, task: c.task, group: c.group})
		wantCpu(t, c.name+": the first", out.Cpus[0], c.first)
		wantCpu(t, c.name+": the second", out.Cpus[1], c.second)
		if out.Groups[0].Sum != 30 || out.Groups[c.group].Sum != w.Groups[c.group].Sum || out.Groups[0].Shelves[0].Sum != 30 || out.Tasks[c.task].Sum != w.Tasks[c.task].Sum {
			t.Errorf("%s: %+v", c.name, out.Groups)
		}
	}
}

// A move to the group where the task is does nothing, not even what other calls do at their end.
func TestMoveToTheSameGroup(t *testing.T) {
	w := unusedWorld()
	w.Tasks[3] = impl.Task{State: impl.TaskBlocked, Mask: 2, Cpu: 1, V: 8}
	if !impl.WorldOk(w) || isSettled(w) {
		t.Fatalf("%v", worldFaults(w))
	}
	for task, group := range map[int]int{0: 1, 3: 0} {
		out := mustCall(t, w, taskCall{what: callMove, task: task, group: group})
		if !sameWorld(out, w) {
			t.Errorf("%d: %+v", task, out)
		}
	}
}

// All calls but that settle at their end.
func TestCallsSettle(t *testing.T) {
	for _, c := range []taskCall{
		{what: callFork, mask: 1}, {what: callBlock, task: 1}, {what: callWake, task: 3}, {what: callExit, task: 3}, {what: callNice, task: 1},
		{what: callNice, task: 3}, {what: callPin, task: 1, mask: everyCpu}, {what: callPin, task: 3, mask: 3}, {what: callMove, task: 3, group: 1},
	} {
		w := unusedWorld()
		putReady(w, 1, 0, 0, 0, 9)
		w.Tasks[3] = impl.Task{State: impl.TaskBlocked, Mask: 1, V: 8}
		if !impl.WorldOk(w) || isSettled(w) {
			t.Fatalf("%v", worldFaults(w))
		}
		if out := mustCall(t, w, c); !isSettled(out) || out.Groups[1].Band.Locals[1] != 0 {
			t.Errorf("%+v: %+v", c, out)
		}
	}
}
