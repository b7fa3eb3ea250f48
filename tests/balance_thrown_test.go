package tests

import (
	"slices"
	"strconv"
	"testing"

	"loop.example/stint/impl"
)

// wantLoadsAsModel holds all that the chapter tells of an ok world against its second writing, at these arguments.
func wantLoadsAsModel(t *testing.T, w impl.World, cpus, levels, groups []int) {
	t.Helper()
	for _, cpu := range cpus {
		load, waiting, task, pulls := 0, 0, 0, false
		isThere := isIn(cpu, 0, len(w.Cpus)-1)
		if isThere {
			load, waiting = modelLoad(w, cpu), modelWaiting(w, cpu)
		}
		if modelUp(w, cpu) {
			task, _, pulls = modelPull(w, cpu)
		}
		if got, gotWaiting := impl.CpuLoad(w, cpu), impl.CpuWaiting(w, cpu); got != load || gotWaiting != waiting {
			t.Fatalf("the load of %d: %d, want %d; waiting %d, want %d: %+v", cpu, got, load, gotWaiting, waiting, w)
		}
		if got, ok := impl.CpuPull(w, cpu); got != task || ok != pulls {
			t.Fatalf("the pull of %d: %d, %v, want %d, %v: %+v", cpu, got, ok, task, pulls, w)
		}
		for _, level := range levels {
			if got, want := impl.CpuBusiest(w, cpu, level), modelBusiest(w, cpu, level); got != want {
				t.Fatalf("the busiest for %d at %d: %d, want %d: %+v", cpu, level, got, want, w)
			}
		}
		for _, g := range groups {
			inside, share := 0, 0
			if isThere && modelUsed(w, g) {
				inside = modelInside(w, g, cpu)
				if g != 0 {
					share = modelShare(w, g, cpu)
				}
			}
			if got, gotShare := impl.GroupInside(w, g, cpu), impl.GroupShare(w, g, cpu); got != inside || gotShare != share {
				t.Fatalf("the group %d on %d: inside %d, want %d; share %d, want %d: %+v", g, cpu, got, inside, gotShare, share, w)
			}
		}
	}
}

// cpuSights counts what a call did, by the world ahead of it and behind it.
func cpuSights(c cpuCall, was, is impl.World, _, code int, seen map[string]int) {
	seen[c.what+" code "+strconv.Itoa(code)]++
	if code != impl.CodeDone {
		return
	}
	if !isSettled(was) {
		seen[c.what+" of what was not settled"]++
	}
	for cpu := range was.Cpus {
		switch cur := was.Cpus[cpu].Cur; {
		case cur >= 0 && is.Cpus[cpu] == was.Cpus[cpu]:
			seen[c.what+" leaves a stay alone"]++
		case cur >= 0 && cpu == c.cpu:
			seen[c.what+" ends the stay here"]++
		case cur >= 0:
			seen[c.what+" ends a stay elsewhere"]++
		}
	}
	if c.what == callBalance {
		pullSights(c.cpu, was, is, seen)
		shareSights(c.cpu, was, is, seen)
		return
	}
	relocateSights(c, was, is, seen)
}

// pullSights counts what became of tasks that are in line elsewhere, and who was taken over.
func pullSights(cpu int, was, is impl.World, seen map[string]int) {
	for other := range was.Cpus {
		for _, at := range modelLineOn(was, other) {
			seen["a task that "+modelHeld(was, at, cpu)]++
		}
	}
	moved := slices.IndexFunc(is.Tasks, func(t impl.Task) bool {
		return t.State == 1 && t.Cpu == cpu && was.Tasks[slices.Index(is.Tasks, t)].Cpu != cpu
	})
	task, level, pulls := modelPull(was, cpu)
	switch {
	case moved == -1 && modelLoad(was, cpu) == 0:
		seen["nobody to take for an idle one"]++
		return
	case moved == -1:
		seen["nobody to take"]++
		return
	case modelLoad(was, cpu) == 0:
		seen["takes for an idle one"]++
	default:
		seen["takes"]++
	}
	if !pulls || moved != task {
		seen["takes who is told behind the settling alone"]++
		return
	}
	seen["takes at level "+strconv.Itoa(level)]++
	from := was.Tasks[task].Cpu
	if first := modelGives(was, from, cpu)[0]; first != task {
		seen["takes another one than the first"]++
	}
	if level > 0 && modelBusiest(was, cpu, 0) >= 0 {
		seen["takes from afar, though somebody near could run"]++
	}
	if here, there := modelLoad(was, cpu), modelLoad(was, from); here > 0 && here+2*(10-was.Tasks[task].Nice) == there {
		seen["takes till both loads are alike"]++
	}
}

// shareSights counts what weights became.
func shareSights(cpu int, was, is impl.World, seen map[string]int) {
	for g := 1; g < groupLimit; g++ {
		if !was.Groups[g].Used {
			continue
		}
		all := 0
		for other := range was.Cpus {
			all += modelInside(was, g, other)
		}
		inside, share := modelInside(was, g, cpu), is.Groups[g].Shelves[cpu].W
		switch due := was.Groups[g].Weight * inside; {
		case all == 0:
			seen["the whole weight for nobody"]++
		case inside == 0:
			seen["a share raised from nothing"]++
		case due < all:
			seen["a share raised to one"]++
		case inside == all:
			seen["the whole weight"]++
		case due%all == 0:
			seen["a share that is even"]++
		default:
			seen["a share that is rounded down"]++
		}
		if cur := was.Cpus[cpu].Cur; cur >= 0 && share != was.Groups[g].Shelves[cpu].W && slices.Contains(outOf(was.Groups, was.Tasks[cur].Group), g) {
			seen["another share of who is current here"]++
		}
		if s := was.Groups[g].Shelves[cpu]; s.On && share < s.W {
			seen["a lesser share, On"]++
		}
	}
}

// relocateSights counts who went, and where from.
func relocateSights(c cpuCall, was, is impl.World, seen map[string]int) {
	gone := 0
	for at, task := range was.Tasks {
		if task.State == 0 || is.Tasks[at].Cpu == task.Cpu {
			continue
		}
		gone++
		switch {
		case was.Cpus[task.Cpu].Cur == at:
			seen[c.what+" relocates who is current"]++
		case task.State == 2:
			seen[c.what+" relocates who is blocked"]++
		case modelLine(was, at):
			seen[c.what+" relocates who is in line"]++
		default:
			seen[c.what+" relocates who is held back"]++
		}
		if task.Mask == 1<<c.cpu {
			seen[c.what+" relocates who is pinned to it"]++
		}
	}
	if gone == 0 {
		seen[c.what+" relocates nobody"]++
	}
	for g, group := range was.Groups {
		if group.Band.Quota > 0 && group.Band.Locals[c.cpu] > 0 && is.Groups[g].Band.Locals[c.cpu] == 0 {
			seen[c.what+" gives back"]++
		}
	}
}

// cpuSightsToSee are what thrown calls must have done, so that they are worth something.
func cpuSightsToSee() []string {
	list := []string{
		"1 processors", "2 processors", "3 processors", "4 processors", "down", "dry", "blocked", "in line", "held back", "by its mask", "by its pins", "by the ups",
		"current at depth 0", "current at depth 1", "current at depth 2", "current at depth 3", "off code 5",
		"a task that " + couldRun, "a task that " + isHere, "a task that " + isCurrent, "a task that " + mayNotCome, "a task that " + isDryHere,
		"nobody to take for an idle one", "nobody to take", "takes for an idle one", "takes", "takes at level 0", "takes at level 1", "takes another one than the first",
		"takes from afar, though somebody near could run", "takes till both loads are alike",
		"the whole weight for nobody", "a share raised from nothing", "a share raised to one", "the whole weight", "a share that is even", "a share that is rounded down",
		"another share of who is current here", "a lesser share, On",
		"off relocates who is current", "off relocates who is pinned to it", "off gives back", "on relocates who is current", "on relocates who is pinned to it",
		"balance ends the stay here", "off ends the stay here", "off ends a stay elsewhere", "on ends a stay elsewhere",
	}
	for _, what := range cpuKinds() {
		list = append(list, what+" code 0", what+" code 1", what+" code 6", what+" code 10", what+" leaves a stay alone", what+" of what was not settled")
	}
	for _, what := range []string{callOff, callOn} {
		list = append(list, what+" relocates nobody", what+" relocates who is blocked", what+" relocates who is in line", what+" relocates who is held back")
	}
	return list
}

// Of thrown worlds, settled or not, calls do what the list says, step by step, and what is ok stays so.
func TestBalanceThrown(t *testing.T) {
	t.Parallel()
	thrower := callThrower[cpuCall]{thrownToBalance, thrownCpuCall, cpuSights}
	thrower.wantAsModel(t, &dice{state: 121}, 6000, cpuSightsToSee())
}

// Of thrown worlds, settled or not, all is told as the words say, at places that there are and at others.
func TestLoadsThrown(t *testing.T) {
	t.Parallel()
	d := &dice{state: 122}
	for range 3000 {
		wantLoadsAsModel(t, thrownToBalance(d), []int{-1, 0, 1, 2, 3, 4}, []int{-1, 0, 1, 2}, []int{-1, 0, 1, 2, 3, 4, 5, 6, 7, 8})
	}
}

// Of thrown worlds, with and without room, all that may be asked is told as the words say.
func TestBalanceThrownAtAnything(t *testing.T) {
	d := &dice{state: 123}
	for range 60 {
		w := thrownToBalance(d)
		wantLoadsAsModel(t, w, processorsToTry(w), levelsToTry(), placesToTry())
		for _, cpu := range processorsToTry(w) {
			for _, what := range cpuKinds() {
				wantAsModel(t, w, cpuCall{what, cpu})
			}
		}
	}
}

// From a new world on, with runs and calls of tasks and groups between them, calls do what the list says, and all is told as the words say.
func TestBalancePlayed(t *testing.T) {
	t.Parallel()
	d := &dice{state: 124}
	taken, down := 0, 0
	for range 60 {
		w := emptyWorld(1 + d.below(cpuLimit))
		got := spendings{}
		for range 300 {
			was := w
			if d.below(3) > 0 {
				w = thrownStep(t, d, w)
			} else {
				c := thrownCpuCall(d, w)
				if _, _, ok := modelPull(w, c.cpu%len(w.Cpus)); ok && c.what == callBalance {
					taken++
				}
				w, _, _ = wantAsModel(t, w, c)
			}
			got.see(t, was, w)
			if !isSettled(w) {
				t.Fatalf("not settled: %+v", w)
			}
			down += len(w.Cpus) - len(modelUps(w))
			wantLoadsAsModel(t, w, []int{0, 1, 2, 3}, []int{0, 1}, []int{1, 2, 3})
		}
	}
	if taken < 200 || down < 2000 {
		t.Errorf("%d taken over, %d times down: the plays try too little", taken, down)
	}
}
