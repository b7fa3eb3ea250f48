package tests

import (
	"strconv"
	"testing"

	"loop.example/stint/impl"
)

func unlike(a, b int) int { return max(a-b, b-a) }

// wantFairPull holds the task that is told to a processor against the promise: it does not run, could run here, and with it here both loads differ by no more than before, unless nobody was in line here.
func wantFairPull(t *testing.T, w impl.World, cpu int) (int, bool) {
	t.Helper()
	task, ok := impl.CpuPull(w, cpu)
	if !ok {
		if task != 0 {
			t.Fatalf("nobody is told to %d, but %d: %+v", cpu, task, w)
		}
		return task, ok
	}
	if !isIn(task, 0, taskLimit-1) || !couldRunOn(w, task, cpu) || !w.Cpus[cpu].Up {
		t.Fatalf("%d is told to %d, where it could not run: %+v", task, cpu, w)
	}
	for other := range w.Cpus {
		if w.Cpus[other].Cur == task {
			t.Fatalf("%d is told to %d, but runs on %d: %+v", task, cpu, other, w)
		}
	}
	from, weight := w.Tasks[task].Cpu, impl.WeightOf(w.Tasks[task].Nice)
	here, there := impl.CpuLoad(w, cpu), impl.CpuLoad(w, from)
	if inLineOn(w, cpu) && unlike(here+weight, there-weight) > unlike(here, there) {
		t.Fatalf("%d is told to %d, but the loads are %d and %d, its weight is %d: %+v", task, cpu, here, there, weight, w)
	}
	return task, ok
}

// wantNoMoreUnlike holds balancing against the promise by what it does: nobody but who is told goes anywhere, and the loads differ by no more than before.
func wantNoMoreUnlike(t *testing.T, was impl.World, cpu int) {
	t.Helper()
	task, ok := impl.CpuPull(was, cpu)
	is := mustCall(t, was, cpuCall{callBalance, cpu})
	for at, x := range is.Tasks {
		if came := ok && at == task; came != (x.Cpu != was.Tasks[at].Cpu) || came && x.Cpu != cpu {
			t.Fatalf("the task %d comes to %d; %d is told, %v: %+v", at, x.Cpu, task, ok, was)
		}
	}
	if !ok {
		return
	}
	from := was.Tasks[task].Cpu
	if inLineOn(was, cpu) && unlike(impl.CpuLoad(is, cpu), impl.CpuLoad(is, from)) > unlike(impl.CpuLoad(was, cpu), impl.CpuLoad(was, from)) {
		t.Fatalf("on %d, from %d: %+v: %+v", cpu, from, is, was)
	}
	for other := range was.Cpus {
		if other != cpu && other != from && impl.CpuLoad(is, other) != impl.CpuLoad(was, other) {
			t.Fatalf("on %d: the load of %d: %+v", cpu, other, was)
		}
	}
}

// P36: of thrown worlds, with and without room, settled or not, each processor.
func TestPullMakesNothingMoreUnlike(t *testing.T) {
	t.Parallel()
	d := &dice{state: 36}
	seen := map[string]int{}
	for range 6000 {
		w := thrownToBalance(d)
		quotas := false
		for _, group := range w.Groups {
			quotas = quotas || group.Band.Quota > 0
		}
		for cpu := range w.Cpus {
			task, ok := wantFairPull(t, w, cpu)
			switch {
			case !ok:
				seen["nobody"]++
			case !inLineOn(w, cpu):
				seen["for an idle one"]++
			case impl.CpuLoad(w, cpu)+2*impl.WeightOf(w.Tasks[task].Nice) == impl.CpuLoad(w, w.Tasks[task].Cpu):
				seen["till they are alike"]++
			default:
				seen["for a busy one"]++
			}
			// With a quota somebody may come in line by what is given back.
			if !quotas && w.Cpus[cpu].Up && impl.WorldRoom(w) {
				seen["by what it does"]++
				wantNoMoreUnlike(t, w, cpu)
			}
		}
	}
	for _, sight := range []string{"nobody", "for an idle one", "for a busy one", "till they are alike", "by what it does"} {
		if seen[sight] < 30 {
			t.Errorf("%s: %v: the worlds try too little", sight, seen)
		}
	}
}

// P36: the edges of the loads, written out: the weights here, there, and who is told.
func TestPullAtTheEdgesOfTheLoads(t *testing.T) {
	for _, c := range []struct {
		here, there []int
		told        int
	}{
		{nil, []int{20}, 0}, {nil, []int{20, 1}, 0}, {nil, []int{1, 20}, 0}, {nil, nil, -1},
		{[]int{10}, []int{5, 15}, 0}, {[]int{10}, []int{5, 14}, -1}, {[]int{10}, []int{5, 5, 10}, 0}, {[]int{10}, []int{5, 5, 9}, -1},
		{[]int{1}, []int{1, 1}, -1}, {[]int{1}, []int{1, 2}, 0}, {[]int{1}, []int{2, 1}, 1}, {[]int{1}, []int{2, 3}, 0}, {[]int{1}, []int{3, 2}, 1}, {[]int{1}, []int{3, 4}, 0}, {[]int{1}, []int{4, 4}, -1},
		{[]int{20}, []int{20}, -1}, {[]int{20}, []int{20, 20}, -1}, {[]int{20}, []int{20, 20, 20}, 0}, {[]int{20}, []int{20, 20, 19}, 2}, {[]int{20}, []int{20, 19, 20}, 1}, {[]int{20}, []int{20, 18, 1}, 2}, {[]int{20}, []int{20, 1}, -1}, {[]int{20}, []int{20, 1, 1}, 1},
		{[]int{5, 5}, []int{20}, -1}, {[]int{5, 5}, []int{5, 5}, -1}, {[]int{5, 5}, []int{5, 5, 5}, -1}, {[]int{5, 5}, []int{5, 5, 5, 5}, 0}, {[]int{1, 1, 1, 1}, []int{20, 20}, -1}, {[]int{1, 1, 1, 1}, []int{20, 20, 4}, 0},
	} {
		w := linedWorld(c.there, c.here)
		for _, cur := range []bool{false, true} {
			name := "here " + intsText(c.here) + ", there " + intsText(c.there)
			if cur && len(c.here) > 0 {
				// Who is current here counts here.
				goOnWith(w, len(c.there))
			}
			task, ok := wantFairPull(t, w, 1)
			if ok != (c.told >= 0) || task != max(c.told, 0) {
				t.Errorf("%s: %d, %v, want %d", name, task, ok, c.told)
			}
			wantNoMoreUnlike(t, w, 1)
		}
	}
}

func intsText(list []int) string {
	text := ""
	for _, n := range list {
		text += strconv.Itoa(n) + " "
	}
	return text
}

// P36: with up to three tasks on each of two processors, each of one of these weights, one of them current or none, either way.
func TestPullOfAllSmallWorlds(t *testing.T) {
	sides := [][]int{nil}
	for _, a := range []int{1, 2, 3, 20} {
		sides = append(sides, []int{a})
		for _, b := range []int{1, 2, 5, 19} {
			sides = append(sides, []int{a, b}, []int{a, b, 4})
		}
	}
	told := 0
	for _, here := range sides {
		for _, there := range sides {
			for cur := -1; cur < len(here)+len(there); cur++ {
				w := linedWorld(here, there)
				if cur >= 0 {
					goOnWith(w, cur)
				}
				for cpu := range 2 {
					if _, ok := wantFairPull(t, w, cpu); ok {
						told++
					}
					wantNoMoreUnlike(t, w, cpu)
				}
			}
		}
	}
	if told < 1000 {
		t.Errorf("%d are told: the worlds try too little", told)
	}
}

// P36: balanced again and again, with runs between, busy processors never come to differ by more than they did.
func TestBalancingAgainAndAgain(t *testing.T) {
	d := &dice{state: 361}
	for range 400 {
		cpus := 2 + d.below(3)
		w := emptyWorld(cpus)
		for at := range taskLimit {
			// One stays on each processor, so that none is ever idle.
			cpu := d.oneOf(0, 0, d.below(cpus))
			if at < cpus {
				cpu = at
			}
			putReady(w, at, 0, cpu, d.below(20)-10, 0)
			if at < cpus {
				w.Tasks[at].Mask = 1 << at
			}
		}
		most := mostUnlike(w)
		for round := range 8 * cpus {
			wantNoMoreUnlike(t, w, round%cpus)
			w = mustCall(t, w, cpuCall{callBalance, round % cpus})
			if is := mostUnlike(w); is > most {
				t.Fatalf("by %d, it was by %d: %+v", is, most, w)
			} else {
				most = is
			}
			w = mustRun(t, w, round%cpus, 1+d.below(100))
		}
	}
}

// mostUnlike is how much the greatest load is above the least one.
func mostUnlike(w impl.World) int {
	most, least := 0, taskLimit*weightLimit
	for cpu := range w.Cpus {
		most, least = max(most, impl.CpuLoad(w, cpu)), min(least, impl.CpuLoad(w, cpu))
	}
	return most - least
}

// P36 speaks of a task that is told: of processors that there are not, or are down, and of what is no world none is.
func TestPullOfWhatThereIsNot(t *testing.T) {
	w := linedWorld([]int{20, 20}, nil)
	w.Cpus[1].Up = false
	for _, cpu := range append([]int{-1, 0, 1, 2, 4, 1 << 32}, farInts()...) {
		if task, ok := impl.CpuPull(w, cpu); task != 0 || ok {
			t.Errorf("to %d: %d, %v", cpu, task, ok)
		}
	}
	for _, c := range brokenWorlds() {
		for cpu := range cpuLimit {
			if task, ok := impl.CpuPull(c.world, cpu); task != 0 || ok {
				t.Errorf("%s: to %d: %d, %v", c.name, cpu, task, ok)
			}
		}
	}
}
