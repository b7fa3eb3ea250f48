package tests

import (
	"strconv"
	"testing"

	"loop.example/stint/impl"
)

// wantNext holds who is told to be next against the promise, without looking for it by itself; it tells whether somebody is in the midst of a stay.
func wantNext(t *testing.T, w impl.World, cpu int) bool {
	t.Helper()
	next := impl.WorldPick(w, cpu)
	if next == -1 {
		if w.Cpus[cpu].Up && inLineOn(w, cpu) {
			t.Fatalf("nobody is next on %d, but somebody is in line: %+v", cpu, w)
		}
		return false
	}
	if !impl.WorldLine(w, next) || w.Tasks[next].Cpu != cpu || !w.Cpus[cpu].Up {
		t.Fatalf("%d is next on %d: %+v", next, cpu, w)
	}
	if c := w.Cpus[cpu]; c.Cur >= 0 && c.Ran < shortStay {
		if next != c.Cur {
			t.Fatalf("%d is next on %d in the midst of a stay of %d: %+v", next, cpu, c.Cur, w)
		}
		return true
	}
	wantNobodyBehind(t, w, w.Tasks[next].Group, cpu, w.Tasks[next].V)
	for g := w.Tasks[next].Group; g != 0; g = w.Groups[g].Parent {
		wantNobodyBehind(t, w, w.Groups[g].Parent, cpu, w.Groups[g].Shelves[cpu].V)
	}
	return false
}

// wantNobodyBehind fails if somebody stands in a queue with less time.
func wantNobodyBehind(t *testing.T, w impl.World, group, cpu, v int) {
	t.Helper()
	for _, s := range standersOf(w, group, cpu) {
		if s.v < v {
			t.Fatalf("next on %d is at %d in the queue of %d, but somebody at %d: %+v", cpu, v, group, s.v, w)
		}
	}
}

// P10: of thrown worlds, with and without room, settled or not, on all processors.
func TestNextIsFurthestBehind(t *testing.T) {
	d := &dice{state: 10}
	seen := map[string]int{}
	for round := range 3000 {
		w := thrownWorld(d, []int{timeLimit, timeLimit / 2, 10 * unitStep, 0}[round%4])
		if round%2 == 0 {
			modelSettle(w)
		}
		for cpu := range w.Cpus {
			midst := wantNext(t, w, cpu)
			switch next := impl.WorldPick(w, cpu); {
			case next == -1:
				seen["nobody"]++
			case midst:
				seen["in the midst of a stay"]++
			default:
				seen["at depth "+strconv.Itoa(len(outOf(w.Groups, w.Tasks[next].Group))-1)]++
			}
		}
	}
	for _, sight := range []string{"nobody", "in the midst of a stay", "at depth 0", "at depth 1", "at depth 2", "at depth 3"} {
		if seen[sight] < 100 {
			t.Errorf("%v: the worlds try too little", seen)
		}
	}
}

// P10: behind each run, too, and it is who a run of one unit goes to, if no quota holds it back.
func TestNextBehindRuns(t *testing.T) {
	d := &dice{state: 101}
	for range 500 {
		w := thrownSettled(d)
		for range 8 {
			cpu := d.below(len(w.Cpus))
			next := impl.WorldPick(w, cpu)
			one, code := impl.WorldRun(w, cpu, 1)
			if _, _, pieces := modelWorldRun(w, cpu, 1); code == impl.CodeDone && len(pieces) == 1 && next >= 0 {
				if one.Tasks[next].Sum != w.Tasks[next].Sum+1 || one.Cpus[cpu].Cur != next {
					t.Fatalf("%d is next on %d: %+v: %+v", next, cpu, one, w)
				}
			}
			w, _ = impl.WorldRun(w, cpu, d.oneOf(1, 49, 50, 100, 1+d.below(100)))
			for other := range w.Cpus {
				wantNext(t, w, other)
			}
		}
	}
}

// tied is a world of one processor with the groups 1 to 3 in the root, and 4 and 5 in 3; all stand at one time but who is told to be ahead by one.
func tied(tasks map[int]int, ahead ...int) impl.World {
	w := groupedWorld(1, 0, 0, 0, 3, 3)
	for at, group := range tasks {
		putReady(w, at, group, 0, at%5, 0)
	}
	modelSettle(w)
	for _, g := range ahead {
		w.Groups[g].Shelves[0].V++
	}
	return w
}

// P10: of several as far behind it is first the tasks, by their places, then the groups, by theirs.
func TestNextOfTies(t *testing.T) {
	for _, c := range []struct {
		name  string
		world impl.World
		want  int
	}{
		{"tasks", tied(map[int]int{2: 0, 5: 0, 11: 0}), 2},
		{"all tasks", tied(map[int]int{0: 0, 1: 0, 2: 0, 3: 0, 4: 0, 5: 0, 6: 0, 7: 0, 8: 0, 9: 0, 10: 0, 11: 0}), 0},
		{"tasks in a group", tied(map[int]int{7: 4, 4: 4, 9: 4}), 4},
		{"groups", tied(map[int]int{9: 1, 3: 2, 5: 3}), 9},
		{"groups, the first one ahead", tied(map[int]int{9: 1, 3: 2, 0: 3}, 1), 3},
		{"groups, two ahead", tied(map[int]int{9: 1, 3: 2, 7: 4}, 1, 2), 7},
		{"groups inside", tied(map[int]int{8: 4, 6: 5}), 8},
		{"groups inside, the first one ahead", tied(map[int]int{8: 4, 6: 5}, 4), 6},
		{"a task with a group", tied(map[int]int{11: 0, 0: 1}), 11},
		{"a task with a group of an earlier place", tied(map[int]int{3: 0, 2: 2, 1: 1}), 3},
		{"a task with a group, inside", tied(map[int]int{10: 3, 0: 4, 1: 5}), 10},
		{"a task with groups, all ahead", tied(map[int]int{10: 0, 0: 1, 1: 2, 2: 3}, 1, 2, 3), 10},
		{"a group whose task has a later place", tied(map[int]int{11: 1, 0: 2}), 11},
	} {
		if !impl.WorldOk(c.world) {
			t.Fatalf("%s: %v", c.name, worldFaults(c.world))
		}
		if got := impl.WorldPick(c.world, 0); got != c.want {
			t.Errorf("%s: %d, want %d", c.name, got, c.want)
		}
		out := mustRun(t, c.world, 0, 1)
		if out.Cpus[0].Cur != c.want || out.Tasks[c.want].Sum != 1 {
			t.Errorf("%s: a run goes to %d", c.name, out.Cpus[0].Cur)
		}
	}
}

// P10: less by one is less, of a task and a group either way.
func TestNextByOne(t *testing.T) {
	for _, c := range []struct{ task, group, inner, want int }{
		{5, 5, 9, 0}, {6, 5, 9, 1}, {5, 6, 0, 0}, {0, 1, 0, 0}, {1, 0, 7, 1},
	} {
		w := groupedWorld(1, 0)
		putReady(w, 0, 0, 0, -10, c.task)
		putReady(w, 1, 1, 0, 9, c.inner)
		modelSettle(w)
		w.Groups[0].Shelves[0].Floor, w.Groups[1].Shelves[0].V = 0, c.group
		if got := impl.WorldPick(w, 0); got != c.want || !impl.WorldOk(w) {
			t.Errorf("a task at %d, a group at %d: %d, ok %v", c.task, c.group, got, impl.WorldOk(w))
		}
	}
}

// P10: the way goes from queue to queue: who is furthest behind of all is not next if their group is ahead.
func TestNextGoesDown(t *testing.T) {
	w := groupedWorld(1, 0, 0, 1, 2, 3)
	putReady(w, 0, 3, 0, 0, 900)
	putReady(w, 1, 5, 0, 0, 800)
	putReady(w, 2, 2, 0, 0, 0)
	putReady(w, 3, 4, 0, 0, 5)
	modelSettle(w)
	for _, c := range []struct{ first, second, third, fourth, fifth, want int }{
		{10, 20, 0, 0, 901, 0}, {10, 20, 0, 0, 899, 1}, {20, 10, 0, 0, 0, 2}, {20, 10, 0, 1, 0, 2}, {10, 10, 0, 0, 900, 0},
	} {
		x := cloneWorld(w)
		for g, v := range map[int]int{1: c.first, 2: c.second, 3: c.third, 4: c.fourth, 5: c.fifth} {
			x.Groups[g].Shelves[0].V = v
		}
		for g := range 6 {
			x.Groups[g].Shelves[0].Floor = 0
		}
		if got := impl.WorldPick(x, 0); got != c.want || !impl.WorldOk(x) {
			t.Errorf("%+v: %d, ok %v", c, got, impl.WorldOk(x))
		}
	}
}

// P10: who is in the midst of a stay is next, however far ahead; behind StayMin units no more.
func TestNextInTheMidstOfAStay(t *testing.T) {
	for ran, want := range map[int]int{1: 0, 2: 0, 48: 0, 49: 0, 50: 1, 51: 1, 100: 1, 149: 1} {
		if got := impl.WorldPick(rivals(ran), 0); got != want {
			t.Errorf("behind %d units: %d, want %d", ran, got, want)
		}
		w := groupedWorld(1, 0)
		putReady(w, 0, 1, 0, 0, ran*step(10))
		putReady(w, 1, 1, 0, 0, 0)
		modelSettle(w)
		w.Cpus[0].Cur, w.Cpus[0].Ran = 0, ran
		if got := impl.WorldPick(w, 0); got != want {
			t.Errorf("behind %d units, in a group: %d, want %d", ran, got, want)
		}
	}
	same := rivals(50)
	same.Tasks[1].V = same.Tasks[0].V
	if got := impl.WorldPick(same, 0); got != 0 {
		t.Errorf("behind a stay, as far as the other one: %d", got)
	}
}

// P10: who waits, is elsewhere or is held back does not count, however far behind they are.
func TestNextIsInLine(t *testing.T) {
	w := groupedWorld(2, 0)
	putReady(w, 0, 1, 0, 0, 0)
	putReady(w, 1, 0, 1, 0, 0)
	putReady(w, 2, 0, 0, 0, 50)
	putReady(w, 3, 0, 0, 0, 60)
	w.Tasks[3].State = impl.TaskBlocked
	limitTo(w, 1, 5)
	spendAll(w, 1)
	w.Groups[1].Band.Dry[0] = true
	modelSettle(w)
	for cpu, want := range []int{2, 1} {
		if got := impl.WorldPick(w, cpu); got != want {
			t.Errorf("on %d: %d, want %d", cpu, got, want)
		}
	}
	// Nothing is left of the quota, but nobody has asked for it yet: the task is in line still.
	w.Groups[1].Band.Dry[0] = false
	modelSettle(w)
	if got := impl.WorldPick(w, 0); got != 2 || !impl.WorldLine(w, 0) {
		t.Errorf("not asked for yet: %d", got)
	}
}

// P10 speaks of processors that are up, in ok worlds: of others nobody is told.
func TestNextOfNothing(t *testing.T) {
	w := handWorld()
	for _, cpu := range processorsToTry(w) {
		want := -1
		if cpu >= 0 && cpu < 3 {
			want = []int{0, 1, 4}[cpu]
		}
		if got := impl.WorldPick(w, cpu); got != want {
			t.Errorf("on %d: %d, want %d", cpu, got, want)
		}
	}
	for cpus := 1; cpus <= cpuLimit; cpus++ {
		for cpu := -1; cpu <= cpuLimit; cpu++ {
			if got := impl.WorldPick(emptyWorld(cpus), cpu); got != -1 {
				t.Errorf("nobody stands on %d of %d: %d", cpu, cpus, got)
			}
		}
	}
	for _, c := range brokenWorlds() {
		for cpu := -1; cpu <= cpuLimit; cpu++ {
			if got := impl.WorldPick(c.world, cpu); got != -1 {
				t.Errorf("%s: on %d: %d", c.name, cpu, got)
			}
		}
	}
}
