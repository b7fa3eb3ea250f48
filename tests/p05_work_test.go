package tests

import (
	"strconv"
	"testing"

	"loop.example/stint/impl"
)

// couldRunOn says whether a task could run on a processor, by what the program tells of it.
func couldRunOn(w impl.World, task, cpu int) bool {
	x := w.Tasks[task]
	if !impl.WorldLine(w, task) || x.Cpu == cpu || w.Cpus[x.Cpu].Cur == task || !impl.MaskHas(impl.WorldMask(w, task), cpu) {
		return false
	}
	for g := range w.Groups {
		if impl.WorldDry(w, g, cpu) && impl.TreeUnder(w.Groups, g, x.Group) {
			return false
		}
	}
	return true
}

// hasWorkFor says whether some task could run on a processor.
func hasWorkFor(w impl.World, cpu int) bool {
	for task, x := range w.Tasks {
		if x.State != impl.TaskNone && couldRunOn(w, task, cpu) {
			return true
		}
	}
	return false
}

// wantWork holds balancing against the promise, and tells whether that speaks of this processor: it is up, nobody is in line on it, a task could run there, and there is room.
func wantWork(t *testing.T, w impl.World, cpu int) bool {
	t.Helper()
	out, code := impl.CpuBalance(w, cpu)
	if !w.Cpus[cpu].Up || inLineOn(w, cpu) || !hasWorkFor(w, cpu) || !impl.WorldRoom(w) {
		return false
	}
	if code != impl.CodeDone || !impl.WorldOk(out) || !inLineOn(out, cpu) {
		t.Fatalf("on %d: %d, nobody is in line: %+v: %+v", cpu, code, out, w)
	}
	return true
}

// P5: of thrown worlds, settled or not, each processor.
func TestIdleFindsWork(t *testing.T) {
	t.Parallel()
	d := &dice{state: 5}
	seen := map[string]int{}
	for range 6000 {
		w := thrownToBalance(d)
		for cpu := range w.Cpus {
			if !wantWork(t, w, cpu) {
				continue
			}
			seen["of "+strconv.Itoa(len(w.Cpus))]++
			task, level, _ := modelPull(w, cpu)
			seen["at level "+strconv.Itoa(level)]++
			seen["at depth "+strconv.Itoa(len(outOf(w.Groups, w.Tasks[task].Group))-1)]++
			for at, x := range w.Tasks {
				if x.State == impl.TaskReady && x.Cpu != cpu {
					seen[modelHeld(w, at, cpu)]++
				}
			}
		}
	}
	for _, sight := range []string{"of 2", "of 3", "of 4", "at level 0", "at level 1", "at depth 0", "at depth 1", "at depth 2", "at depth 3", isCurrent, mayNotCome, isDryHere} {
		if seen[sight] < 30 {
			t.Errorf("%s: %v: the worlds try too little", sight, seen)
		}
	}
}

// The ways for a task to be on another processor.
const (
	nobodyThere = iota
	waitsThere
	currentThere
	blockedThere
	pinnedThere
	groupPinnedThere
	dryThere
	dryHereAlone
	waysThere
)

// neighbourWorld is a world in which nobody is on one processor, and on each other one a task in one of these ways.
func neighbourWorld(cpu int, ways []int) impl.World {
	w := groupedWorld(len(ways), 0, 1, 0, 1)
	for other, way := range ways {
		if other == cpu || way == nobodyThere {
			continue
		}
		// The groups 2 and 4 are in 1, where nobody is; 3 is beside it.
		putReady(w, other, 2, other, other, 0)
		switch way {
		case blockedThere:
			w.Tasks[other].State = impl.TaskBlocked
		case pinnedThere:
			w.Tasks[other].Mask = 1 << other
		case groupPinnedThere:
			w.Tasks[other].Group, w.Groups[4].Cpus = 4, everyCpu-1<<cpu
		case dryThere, dryHereAlone:
			w.Tasks[other].Group = 3
		}
	}
	for other, way := range ways {
		if other == cpu || way != dryThere && way != dryHereAlone {
			continue
		}
		if w.Groups[3].Band.Quota == 0 {
			dryOn(w, 3, cpu)
		}
		w.Groups[3].Band.Dry[other] = way == dryThere
	}
	modelSettle(w)
	for other, way := range ways {
		if other != cpu && way == currentThere {
			goOnWith(w, other)
		}
	}
	return w
}

// P5: of all ways in which a task can be on each other processor: there is work just if one waits for nothing but its turn; and then a run is busy.
func TestIdleFindsWorkAmongNeighbours(t *testing.T) {
	for cpus := 1; cpus <= cpuLimit; cpus++ {
		all := 1
		for range cpus {
			all *= waysThere
		}
		for cpu := range cpus {
			for code := range all {
				ways, waits := make([]int, cpus), false
				for i, rest := 0, code; i < cpus; i, rest = i+1, rest/waysThere {
					ways[i] = rest % waysThere
					waits = waits || i != cpu && ways[i] == waitsThere
				}
				if ways[cpu] == nobodyThere {
					wantNeighbours(t, cpu, ways, waits)
				}
			}
		}
	}
}

func wantNeighbours(t *testing.T, cpu int, ways []int, waits bool) {
	t.Helper()
	w := neighbourWorld(cpu, ways)
	if spoke := wantWork(t, w, cpu); spoke != waits {
		t.Fatalf("on %d, %v: work %v: %+v", cpu, ways, spoke, w)
	}
	out := mustRun(t, mustCall(t, w, cpuCall{callBalance, cpu}), cpu, 1)
	if busy := out.Cpus[cpu].Busy == 1; busy != waits || out.Cpus[cpu].Idle == 1 == waits {
		t.Fatalf("on %d, %v: %+v", cpu, ways, out.Cpus[cpu])
	}
}

// P5 speaks of one that is up, where there is room: else nothing is done.
func TestNoWorkOfWhatIsRefused(t *testing.T) {
	w := linedWorld(nil, []int{5, 5}, []int{7})
	late := cloneWorld(w)
	late.Tasks[2].Used = timeLimit/2 + 1
	wantRefusedCall(t, "no room", late, cpuCall{callBalance, 0}, impl.CodeEnd)
	late.Tasks[2].Used--
	if !wantWork(t, late, 0) {
		t.Error("just room: nothing is promised")
	}
	w.Cpus[0].Up = false
	wantRefusedCall(t, "down", w, cpuCall{callBalance, 0}, impl.CodeState)
	for _, cpu := range append([]int{-1, 3, 4, 1 << 32}, farInts()...) {
		wantRefusedCall(t, "no processor", w, cpuCall{callBalance, cpu}, impl.CodeBad)
	}
	for _, c := range brokenWorlds() {
		for cpu := range cpuLimit {
			if out, code := impl.CpuBalance(c.world, cpu); code != impl.CodeBad || !isNoWorld(out) {
				t.Errorf("%s: on %d: %d, %+v", c.name, cpu, code, out)
			}
		}
	}
}
