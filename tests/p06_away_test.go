package tests

import (
	"slices"
	"strconv"
	"testing"

	"loop.example/stint/impl"
)

// wantNobodyLost holds a call that takes a processor away, or brings one back, against the promise: every task is there with all that it had but its processor and virtual time, nobody is on a processor that is down, and one is up.
func wantNobodyLost(t *testing.T, c cpuCall, was impl.World) (impl.World, int) {
	t.Helper()
	is, _, code := c.do(was)
	if len(is.Tasks) != taskLimit || len(is.Cpus) != len(was.Cpus) || !impl.WorldOk(is) {
		t.Fatalf("%+v: %d, %+v: %+v", c, code, is, was)
	}
	for at, task := range is.Tasks {
		had := was.Tasks[at]
		had.Cpu, had.V = task.Cpu, task.V
		if task != had {
			t.Fatalf("%+v: the task %d is %+v, it was %+v", c, at, task, was.Tasks[at])
		}
		if task.State != impl.TaskNone && !is.Cpus[task.Cpu].Up {
			t.Fatalf("%+v: the task %d is on %d, which is down: %+v", c, at, task.Cpu, was)
		}
	}
	ups := 0
	for cpu, x := range is.Cpus {
		had := was.Cpus[cpu]
		if code == impl.CodeDone && cpu == c.cpu {
			had.Up = c.what == callOn
		}
		if x.Up != had.Up || x.Busy != had.Busy || x.Idle != had.Idle || !x.Up && (x.Cur != -1 || x.Ran != 0) {
			t.Fatalf("%+v: the processor %d is %+v, it was %+v", c, cpu, x, was.Cpus[cpu])
		}
		if x.Up {
			ups++
		}
	}
	if ups == 0 {
		t.Fatalf("%+v: none is up: %+v", c, was)
	}
	return is, code
}

// P6: of thrown worlds, with and without room, settled or not, processors go and come, one behind the other.
func TestNobodyIsLost(t *testing.T) {
	t.Parallel()
	d := &dice{state: 6}
	seen := map[string]int{}
	for range 4000 {
		w := thrownToBalance(d)
		for range 8 {
			c := cpuCall{[]string{callOff, callOn}[d.below(2)], d.below(len(w.Cpus))}
			out, code := wantNobodyLost(t, c, w)
			cpuSights(c, w, out, -1, code, seen)
			w = out
		}
	}
	for _, sight := range []string{
		"off code 0", "off code 5", "off code 6", "off code 10", "on code 0", "on code 6", "on code 10",
		"off relocates who is current", "off relocates who is blocked", "off relocates who is in line", "off relocates who is held back", "off relocates who is pinned to it", "off relocates nobody", "off gives back",
		"on relocates who is blocked", "on relocates who is in line", "on relocates who is pinned to it", "on relocates nobody",
	} {
		if seen[sight] < 100 {
			t.Errorf("%s: %d times: the worlds try too little", sight, seen[sight])
		}
	}
}

// orders are all orders of so many processors.
func orders(n int) [][]int {
	if n == 0 {
		return [][]int{{}}
	}
	var list [][]int
	for _, order := range orders(n - 1) {
		for at := range n {
			list = append(list, slices.Insert(slices.Clone(order), at, n-1))
		}
	}
	return list
}

// crowdedWorld is a world with a task at each place, on all processors: in groups at all depths, ready and blocked, some pinned to one alone, and one current on each.
func crowdedWorld(cpus int) impl.World {
	w := groupedWorld(cpus, 0, 1, 2, 0)
	limitTo(w, 4, 30)
	w.Groups[2].Cpus = 7
	for at := range taskLimit {
		putReady(w, at, at%5, at%cpus, at-5, at*unitStep)
		if at%3 == 0 {
			w.Tasks[at].Mask = 1 << (at % cpus)
		}
		if at%4 == 3 {
			w.Tasks[at].State = impl.TaskBlocked
		}
		if where := modelWhere(w, w.Tasks[at].Mask, w.Tasks[at].Group); !slices.Contains(where, at%cpus) {
			w.Tasks[at].Cpu = where[0]
		}
		w.Tasks[at].Sum, w.Tasks[at].Used, w.Tasks[at].Load = at, at+1, at+2
	}
	modelSettle(w)
	for cpu := range cpus {
		w, _ = impl.WorldRun(w, cpu, 7)
	}
	return w
}

// P6: in whatever order all processors but one go, and come back, nobody is lost; whoever goes last has all of them.
func TestNobodyIsLostInAnyOrder(t *testing.T) {
	for cpus := 1; cpus <= cpuLimit; cpus++ {
		start := crowdedWorld(cpus)
		if !impl.WorldOk(start) {
			t.Fatalf("%d processors: %v", cpus, worldFaults(start))
		}
		for _, order := range orders(cpus) {
			w, code := start, impl.CodeDone
			for i, cpu := range order {
				want := impl.CodeDone
				if i == cpus-1 {
					want = impl.CodeLast
				}
				if w, code = wantNobodyLost(t, cpuCall{callOff, cpu}, w); code != want {
					t.Fatalf("%v: %d goes: %d", order, cpu, code)
				}
			}
			for at, task := range w.Tasks {
				if task.Cpu != order[cpus-1] {
					t.Errorf("%v: the task %d is on %d", order, at, task.Cpu)
				}
			}
			for _, cpu := range order[:cpus-1] {
				if w, code = wantNobodyLost(t, cpuCall{callOn, cpu}, w); code != impl.CodeDone {
					t.Fatalf("%v: %d comes: %d", order, cpu, code)
				}
			}
			wantWhereTheyMay(t, w)
		}
	}
}

// wantWhereTheyMay holds each task against where the program tells that it may be.
func wantWhereTheyMay(t *testing.T, w impl.World) {
	t.Helper()
	for at, task := range w.Tasks {
		if task.State != impl.TaskNone && !impl.MaskHas(impl.WorldMask(w, at), task.Cpu) {
			t.Errorf("the task %d is on %d: %+v", at, task.Cpu, w)
		}
	}
}

// P6: all places are taken on the one that goes, by tasks that are pinned to it alone; they come back with it.
func TestNobodyIsLostOfManyPinned(t *testing.T) {
	for cpu := range cpuLimit {
		w := emptyWorld(4)
		for at := range w.Tasks {
			w.Tasks[at] = impl.Task{State: 1 + at%2, Cpu: cpu, Mask: 1 << cpu, Nice: at - 6, V: at, Sum: at, Used: at, Load: at}
		}
		modelSettle(w)
		goOnWith(w, 0)
		away, code := wantNobodyLost(t, cpuCall{callOff, cpu}, w)
		back, again := wantNobodyLost(t, cpuCall{callOn, cpu}, away)
		first := map[bool]int{true: 1, false: 0}[cpu == 0]
		for at := range w.Tasks {
			if away.Tasks[at].Cpu != first {
				t.Errorf("the task %d goes from %d to %d", at, cpu, away.Tasks[at].Cpu)
			}
			if back.Tasks[at].Cpu != cpu {
				t.Errorf("the task %d comes back to %d, not %d", at, back.Tasks[at].Cpu, cpu)
			}
		}
		if code != impl.CodeDone || again != impl.CodeDone || away.Cpus[cpu].Cur != -1 {
			t.Errorf("%d: %d, %d: %+v", cpu, code, again, away.Cpus)
		}
	}
}

// P6: what tasks and groups have got, and quotas, are as they were; no more of a quota lies on one that is gone.
func TestNobodyIsLostWithTheirSums(t *testing.T) {
	for cpus := 2; cpus <= cpuLimit; cpus++ {
		w := crowdedWorld(cpus)
		for cpu := range cpus {
			out, _ := wantNobodyLost(t, cpuCall{callOff, cpu}, w)
			for g, group := range w.Groups {
				is := out.Groups[g]
				if is.Sum != group.Sum || is.Weight != group.Weight || is.Cpus != group.Cpus || is.Band.Quota != group.Band.Quota || is.Band.Spent != group.Band.Spent || is.Next != group.Next {
					t.Errorf("%d of %d: the group %d: %+v, it was %+v", cpu, cpus, g, is, group)
				}
				for other := range is.Shelves {
					if is.Shelves[other].Sum != group.Shelves[other].Sum || is.Shelves[other].Floor < group.Shelves[other].Floor {
						t.Errorf("%d of %d: the group %d on %d: %+v", cpu, cpus, g, other, is.Shelves[other])
					}
				}
				if is.Used && (is.Shelves[cpu].On || is.Band.Quota > 0 && is.Band.Locals[cpu] > 0) {
					t.Errorf("%d of %d: the group %d is there still: %+v", cpu, cpus, g, is)
				}
			}
		}
	}
}

// P6: whoever was taken along goes on elsewhere.
func TestNobodyIsLostAndAllGoOn(t *testing.T) {
	w := crowdedWorld(4)
	for _, cpu := range []int{0, 3, 1} {
		w, _ = wantNobodyLost(t, cpuCall{callOff, cpu}, w)
	}
	w = mustCall(t, w, groupCall{what: callLimit, group: 4})
	was := sumsOf(w)
	for range 200 {
		w = mustRun(t, w, 2, 100)
	}
	for at, sum := range sumsOf(w) {
		if ready := w.Tasks[at].State == impl.TaskReady; ready != (sum > was[at]) {
			t.Errorf("the task %d has got %d", at, sum-was[at])
		}
	}
}

// P6: what is refused, or is no world, loses nobody either.
func TestNobodyIsLostByWhatIsRefused(t *testing.T) {
	for name, w := range map[string]impl.World{"no room": handWorld(), "room": callWorld(), "one processor": crowdedWorld(1)} {
		for _, what := range []string{callOff, callOn} {
			for _, cpu := range processorsToTry(w) {
				if out, code := wantNobodyLost(t, cpuCall{what, cpu}, w); code != impl.CodeDone && !sameWorld(out, w) {
					t.Errorf("%s: %s %s: %d, %+v", name, what, strconv.Itoa(cpu), code, out)
				}
			}
		}
	}
	for _, c := range brokenWorlds() {
		for cpu := range cpuLimit {
			out, code := impl.CpuOff(c.world, cpu)
			again, codeOn := impl.CpuOn(c.world, cpu)
			if code != impl.CodeBad || codeOn != impl.CodeBad || !isNoWorld(out) || !isNoWorld(again) {
				t.Errorf("%s: on %d: %d, %d", c.name, cpu, code, codeOn)
			}
		}
	}
}
