package tests

import (
	"slices"
	"strconv"
	"testing"

	"loop.example/stint/impl"
)

// linedWorld is a new world with tasks of these weights in line on each processor, in the root, their places ascending.
func linedWorld(lines ...[]int) impl.World {
	w := emptyWorld(len(lines))
	at := 0
	for cpu, weights := range lines {
		for _, weight := range weights {
			putReady(w, at, 0, cpu, 10-weight, 0)
			at++
		}
	}
	return w
}

// goOnWith lets a task at its queue's floor be current.
func goOnWith(w impl.World, task int) {
	c := &w.Cpus[w.Tasks[task].Cpu]
	c.Cur, c.Ran = task, 1
}

// dryOn lets a group be dry on a processor, with all of its quota spent.
func dryOn(w impl.World, group, cpu int) {
	limitTo(w, group, 5)
	spendAll(w, group)
	w.Groups[group].Band.Dry[cpu] = true
}

// A load is the weights of all that are in line: not of who waits for something, nor of who is held back, however deep; who is current does not wait.
func TestLoadAndWaiting(t *testing.T) {
	w := handWorld()
	outer := cloneWorld(w)
	outer.Groups[1].Band = impl.Band{Quota: 100, Spent: 100, Locals: make([]int, 4), Dry: []bool{false, true, false, false}}
	outer.Groups[1].Shelves[1].On, outer.Cpus[1].Cur, outer.Cpus[1].Ran = false, -1, 0
	current := linedWorld([]int{1, 20, 7})
	goOnWith(current, 1)
	for _, c := range []struct {
		name    string
		world   impl.World
		loads   []int
		waiting []int
	}{
		{"something of everything", w, []int{10 + 13, 5, 7, 0}, []int{2, 0, 1, 0}},
		{"a dry group around", outer, []int{10 + 13, 0, 7, 0}, []int{2, 0, 1, 0}},
		{"nobody", emptyWorld(3), []int{0, 0, 0}, []int{0, 0, 0}},
		{"all places on one", linedWorld(nil, slices.Repeat([]int{20}, taskLimit)), []int{0, 240}, []int{0, 12}},
		{"one is current", current, []int{28}, []int{2}},
		{"without room", handWorld(), []int{23, 5, 7, 0}, []int{2, 0, 1, 0}},
	} {
		if !impl.WorldOk(c.world) {
			t.Fatalf("%s: %v", c.name, worldFaults(c.world))
		}
		for cpu := range c.loads {
			if load, waiting := impl.CpuLoad(c.world, cpu), impl.CpuWaiting(c.world, cpu); load != c.loads[cpu] || waiting != c.waiting[cpu] {
				t.Errorf("%s: on %d: %d, %d waiting", c.name, cpu, load, waiting)
			}
		}
	}
}

// waiterWorld is a world of two processors with the task 3 in line on 0, in the group 2 in 1; the group 3 is beside them.
func waiterWorld() impl.World {
	w := groupedWorld(2, 0, 1, 0)
	putReady(w, 3, 2, 0, 4, 0)
	modelSettle(w)
	return w
}

// A task could run elsewhere if it is in line, not current, may be there and none of its groups is dry there.
func TestWhoCouldRun(t *testing.T) {
	for name, c := range map[string]struct {
		change func(w impl.World)
		could  bool
	}{
		"as it is":                        {func(impl.World) {}, true},
		"blocked":                         {func(w impl.World) { w.Tasks[3].State = impl.TaskBlocked }, false},
		"current there":                   {func(w impl.World) { goOnWith(w, 3) }, false},
		"another one is current there":    {func(w impl.World) { putReady(w, 0, 0, 0, 0, 0); goOnWith(w, 0) }, true},
		"a mask of both":                  {func(w impl.World) { w.Tasks[3].Mask = 3 }, true},
		"a mask of the other one":         {func(w impl.World) { w.Tasks[3].Mask = 1 }, false},
		"a mask of none that there is":    {func(w impl.World) { w.Tasks[3].Mask = 12 }, true},
		"its group elsewhere":             {func(w impl.World) { w.Groups[2].Cpus = 1 }, false},
		"an outer group elsewhere":        {func(w impl.World) { w.Groups[1].Cpus = 5 }, false},
		"a mask that its group has not":   {func(w impl.World) { w.Tasks[3].Mask, w.Groups[2].Cpus = 2, 1 }, false},
		"groups with nothing in common":   {func(w impl.World) { w.Groups[1].Cpus, w.Groups[2].Cpus, w.Tasks[3].Mask = 1, 2, 1 }, true},
		"another group elsewhere":         {func(w impl.World) { w.Groups[3].Cpus = 1 }, true},
		"its group is dry there":          {func(w impl.World) { dryOn(w, 2, 0) }, false},
		"an outer group is dry there":     {func(w impl.World) { dryOn(w, 1, 0) }, false},
		"its group is dry here":           {func(w impl.World) { dryOn(w, 2, 1) }, false},
		"an outer group is dry here":      {func(w impl.World) { dryOn(w, 1, 1) }, false},
		"another group is dry here":       {func(w impl.World) { dryOn(w, 3, 1) }, true},
		"all is spent, but not dry here":  {func(w impl.World) { limitTo(w, 1, 5); spendAll(w, 1) }, true},
		"a quota of which nothing is had": {func(w impl.World) { limitTo(w, 1, 1); limitTo(w, 2, 1) }, true},
	} {
		w := waiterWorld()
		c.change(w)
		modelSettle(w)
		busiest, task := -1, 0
		if c.could {
			busiest, task = 0, 3
		}
		if got := impl.CpuBusiest(w, 1, 0); got != busiest || !impl.WorldOk(w) {
			t.Errorf("%s: the busiest is %d: %v", name, got, worldFaults(w))
		}
		if got, ok := impl.CpuPull(w, 1); got != task || ok != c.could {
			t.Errorf("%s: the pull is %d, %v", name, got, ok)
		}
		out := mustCall(t, w, cpuCall{callBalance, 1})
		if got := out.Tasks[3].Cpu; (got == 1) != c.could {
			t.Errorf("%s: behind balancing on %d", name, got)
		}
	}
}

// The busiest is who has the greatest load among those of the level that have somebody who could run here; of several the first.
func TestBusiest(t *testing.T) {
	for _, c := range []struct {
		name  string
		lines [][]int
		// current are tasks that are, down processors that are not up.
		current, down []int
		cpu           int
		want          [3]int
	}{
		{"one processor", [][]int{{5, 5}}, nil, nil, 0, [3]int{-1, -1, -1}},
		{"two", [][]int{{5, 5}, {}}, nil, nil, 1, [3]int{0, -1, -1}},
		{"two, the other way round", [][]int{{5, 5}, {}}, nil, nil, 0, [3]int{-1, -1, -1}},
		{"two, this one is busier", [][]int{{1}, {20, 20}}, nil, nil, 1, [3]int{0, -1, -1}},
		{"two, this one is down", [][]int{{1}, {}}, nil, []int{1}, 1, [3]int{-1, -1, -1}},
		{"three, for the first", [][]int{{}, {2}, {3}}, nil, nil, 0, [3]int{1, 2, -1}},
		{"three, for the second", [][]int{{2}, {}, {1}}, nil, nil, 1, [3]int{0, 0, -1}},
		{"three, for the third", [][]int{{2}, {3}, {}}, nil, nil, 2, [3]int{-1, 1, -1}},
		{"three, alike for the third", [][]int{{1, 2}, {3}, {}}, nil, nil, 2, [3]int{-1, 0, -1}},
		{"four, for the first", [][]int{{}, {1}, {2}, {3}}, nil, nil, 0, [3]int{1, 3, -1}},
		{"four, for the second", [][]int{{4}, {}, {2}, {3}}, nil, nil, 1, [3]int{0, 0, -1}},
		{"four, for the third", [][]int{{4}, {5}, {}, {3}}, nil, nil, 2, [3]int{3, 1, -1}},
		{"four, for the last", [][]int{{4}, {5}, {6}, {}}, nil, nil, 3, [3]int{2, 2, -1}},
		{"all alike", [][]int{{7}, {7}, {7}, {7}}, nil, nil, 1, [3]int{0, 0, -1}},
		{"alike but this one", [][]int{{7}, {3, 4}, {1, 6}, {2, 5}}, nil, nil, 0, [3]int{1, 1, -1}},
		{"more by one", [][]int{{}, {7}, {7}, {8}}, nil, nil, 0, [3]int{1, 3, -1}},
		{"more tasks, less load", [][]int{{}, {1, 1, 1}, {4}, {1, 1}}, nil, nil, 0, [3]int{1, 2, -1}},
		{"who is current alone gives nobody", [][]int{{}, {5}, {20}, {6}}, []int{1}, nil, 0, [3]int{1, 3, -1}},
		{"who is current counts", [][]int{{}, {5}, {20, 1}, {6}}, []int{1}, nil, 0, [3]int{1, 2, -1}},
		{"all are current", [][]int{{}, {5}, {20}, {6}}, []int{0, 1, 2}, nil, 0, [3]int{-1, -1, -1}},
		{"nobody anywhere", [][]int{{}, {}, {}, {}}, nil, nil, 2, [3]int{-1, -1, -1}},
		{"others are down", [][]int{{}, {}, {2}, {}}, nil, []int{1, 3}, 0, [3]int{-1, 2, -1}},
		{"the last one alone", [][]int{{1, 1}, {}, {}, {}}, nil, []int{1, 2}, 3, [3]int{-1, 0, -1}},
	} {
		w := linedWorld(c.lines...)
		for _, task := range c.current {
			goOnWith(w, task)
		}
		for _, cpu := range c.down {
			w.Cpus[cpu].Up = false
		}
		for level, want := range c.want {
			if got := impl.CpuBusiest(w, c.cpu, level); got != want || !impl.WorldOk(w) {
				t.Errorf("%s: at the level %d: %d, want %d", c.name, level, got, want)
			}
		}
		for _, level := range append([]int{-2, -1, 3, 64, 1 << 32}, farInts()...) {
			if got := impl.CpuBusiest(w, c.cpu, level); got != -1 {
				t.Errorf("%s: at the level %d: %d", c.name, level, got)
			}
		}
	}
}

// Who is pinned elsewhere does not make a processor one to take from, however busy it is.
func TestBusiestOfWhoMayCome(t *testing.T) {
	w := linedWorld(nil, []int{5}, []int{20, 20}, []int{6, 6})
	for _, task := range []int{1, 2} {
		w.Tasks[task].Mask = 14
	}
	if near, far := impl.CpuBusiest(w, 0, 0), impl.CpuBusiest(w, 0, 1); near != 1 || far != 3 {
		t.Errorf("%d, %d", near, far)
	}
	w.Tasks[2].Mask = 5
	if far := impl.CpuBusiest(w, 0, 1); far != 2 {
		t.Errorf("with one that may come: %d", far)
	}
	if task, ok := impl.CpuPull(w, 0); task != 0 || !ok {
		t.Errorf("the pull: %d, %v", task, ok)
	}
}

// pullCase is who is in line, and which task is told.
type pullCase struct {
	name    string
	lines   [][]int
	current []int
	cpu     int
	// task is -1 if none is told.
	task int
}

func pullCases() []pullCase {
	return []pullCase{
		{"nobody anywhere", [][]int{{}, {}}, nil, 0, -1},
		{"one processor", [][]int{{1, 2, 3}}, nil, 0, -1},
		{"nobody here: whoever is first", [][]int{{20, 1}, {}}, nil, 1, 0},
		{"nobody here: who is alone there", [][]int{{20}, {}}, nil, 1, 0},
		{"nobody here: not who is current", [][]int{{20, 1}, {}}, []int{0}, 1, 1},
		{"nobody here: who is current is alone", [][]int{{20}, {}}, []int{0}, 1, -1},
		{"just at most", [][]int{{5, 10}, {5}}, nil, 1, 0},
		{"one more there", [][]int{{5, 11}, {5}}, nil, 1, 0},
		{"one less there", [][]int{{5, 9}, {5}}, nil, 1, -1},
		{"one more here", [][]int{{5, 10}, {6}}, nil, 1, -1},
		{"one less here", [][]int{{5, 10}, {4}}, nil, 1, 0},
		{"just at most, by one", [][]int{{1, 1, 1}, {1}}, nil, 1, 0},
		{"alike", [][]int{{7, 7}, {14}}, nil, 1, -1},
		{"less there", [][]int{{1, 1}, {14}}, nil, 1, -1},
		{"a little one here, a great one there", [][]int{{20}, {1}}, nil, 1, -1},
		{"not the first, the second is light", [][]int{{20, 1}, {5}}, nil, 1, 1},
		{"not the first two", [][]int{{9, 8, 7}, {10}}, nil, 1, 2},
		{"the first of two that are alike", [][]int{{20, 3, 3}, {5}}, nil, 1, 1},
		{"the first, though another one is better", [][]int{{1, 5}, {1}}, nil, 1, 0},
		{"who is current counts there", [][]int{{20, 5}, {5}}, []int{0}, 1, 1},
		{"who is current counts here", [][]int{{5, 10}, {6}}, []int{2}, 1, -1},
		{"near goes ahead of far", [][]int{{}, {1}, {20, 20}, {}}, nil, 0, 0},
		{"near goes ahead of far, for the last", [][]int{{20, 20}, {}, {1}, {}}, nil, 3, 2},
		{"far, nobody is near", [][]int{{}, {}, {20, 20}, {}}, nil, 0, 0},
		{"far, who is near is current", [][]int{{}, {1}, {20, 20}, {}}, []int{0}, 0, 1},
		{"far, near is no more loaded", [][]int{{10}, {10}, {10, 10, 10}, {}}, nil, 0, 2},
		{"near at most, far much more", [][]int{{4}, {4, 8}, {20, 20}, {}}, nil, 0, 1},
		{"the busiest alone is asked", [][]int{{10}, {}, {20}, {1, 18}}, nil, 0, -1},
		{"the busiest by one alone is asked", [][]int{{10}, {}, {20}, {1, 20}}, nil, 0, 2},
		{"of two alike the first alone is asked", [][]int{{10}, {}, {20}, {1, 19}}, nil, 0, -1},
		{"the busiest is near, nobody suits", [][]int{{10}, {20}, {1, 18}, {}}, nil, 0, -1},
		{"three, the third has no level of its own", [][]int{{3}, {4, 4}, {}}, nil, 2, 1},
		{"three, the third to the first", [][]int{{}, {}, {5}}, nil, 0, 0},
		{"the greatest load there can be", [][]int{slices.Repeat([]int{20}, taskLimit), {}}, nil, 1, 0},
	}
}

func (c pullCase) world() impl.World {
	w := linedWorld(c.lines...)
	for _, task := range c.current {
		goOnWith(w, task)
	}
	return w
}

// The task that is told is the first of the busiest's that leaves this one no busier than that, or any if nobody is in line here; and balancing takes it over, and nobody else.
func TestPull(t *testing.T) {
	for _, c := range pullCases() {
		w := c.world()
		task, ok := impl.CpuPull(w, c.cpu)
		if want := max(c.task, 0); task != want || ok != (c.task >= 0) || !impl.WorldOk(w) {
			t.Errorf("%s: %d, %v", c.name, task, ok)
		}
		want := cloneWorld(w)
		if c.task >= 0 {
			want.Tasks[c.task].Cpu = c.cpu
			want.Cpus[c.cpu].Cur, want.Cpus[c.cpu].Ran = -1, 0
		}
		if out := mustCall(t, w, cpuCall{callBalance, c.cpu}); !sameWorld(out, want) {
			t.Errorf("%s: %+v, want %+v", c.name, out, want)
		}
	}
}

// With any weight here, or nobody, and any two there it is the first one that suits.
func TestPullOfAllWeights(t *testing.T) {
	for here := 0; here <= weightLimit; here++ {
		for first := 1; first <= weightLimit; first++ {
			for second := 1; second <= weightLimit; second++ {
				lines := [][]int{{first, second}, {}}
				if here > 0 {
					lines[1] = []int{here}
				}
				w := linedWorld(lines...)
				want, told := 0, here == 0 || here+first <= second
				if !told && here+second <= first {
					want, told = 1, true
				}
				if task, ok := impl.CpuPull(w, 1); task != want || ok != told {
					t.Fatalf("%d here, %d and %d there: %d, %v", here, first, second, task, ok)
				}
			}
		}
	}
}

// Of a group all count that are ready in it or within it, whether they are in line or not, on this processor; of the root all that are ready.
func TestInside(t *testing.T) {
	w := handWorld()
	for g, want := range [][]int{{10 + 20 + 13, 5, 7, 0}, {0, 5, 7, 0}, {0, 5, 0, 0}, {0, 5, 0, 0}, {}, {20, 0, 0, 0}, {13, 0, 0, 0}, {}} {
		for cpu := range cpuLimit {
			inside := 0
			if len(want) > 0 {
				inside = want[cpu]
			}
			if got := impl.GroupInside(w, g, cpu); got != inside {
				t.Errorf("the group %d on %d: %d, want %d", g, cpu, got, inside)
			}
		}
	}
	// The groups 3 in 2 in 1, and 4 in 1; each task has another bit as its weight.
	w = groupedWorld(2, 0, 1, 2, 1)
	for at := range 5 {
		putReady(w, at, at, at%2, 10-1<<at, 0)
	}
	w.Tasks[5] = impl.Task{State: impl.TaskBlocked, Group: 3, Mask: everyCpu}
	modelSettle(w)
	for g, want := range [][2]int{{21, 10}, {20, 10}, {4, 8}, {0, 8}, {16, 0}} {
		for cpu := range 2 {
			if got := impl.GroupInside(w, g, cpu); got != want[cpu] {
				t.Errorf("one in the other: %d on %d: %d, want %d", g, cpu, got, want[cpu])
			}
		}
	}
}

// insideWorld is a world with the group 1 of a weight, and tasks of these weights ready in it on each processor; one of 0 is none.
func insideWorld(weight int, insides ...int) impl.World {
	w := groupedWorld(len(insides), 0)
	w.Groups[1].Weight = weight
	at := 0
	for cpu, inside := range insides {
		for ; inside > 0; inside -= min(inside, weightLimit) {
			putReady(w, at, 1, cpu, 10-min(inside, weightLimit), 0)
			at++
		}
	}
	modelSettle(w)
	return w
}

// A share is the part of the weight that is ready here, down, but at least 1; the whole weight, if nobody is ready anywhere.
func TestShare(t *testing.T) {
	for _, c := range []struct {
		weight  int
		insides []int
		want    []int
	}{
		{10, []int{0, 0, 0, 0}, []int{10, 10, 10, 10}}, {1, []int{0}, []int{1}}, {20, []int{0, 0}, []int{20, 20}},
		{10, []int{7}, []int{10}}, {20, []int{60}, []int{20}}, {1, []int{1}, []int{1}},
		{10, []int{5, 5}, []int{5, 5}}, {10, []int{1, 19}, []int{1, 9}}, {10, []int{2, 18}, []int{1, 9}}, {10, []int{3, 17}, []int{1, 8}}, {10, []int{4, 16}, []int{2, 8}},
		{10, []int{5, 0}, []int{10, 1}}, {1, []int{5, 0, 0}, []int{1, 1, 1}}, {20, []int{0, 0, 3, 0}, []int{1, 1, 20, 1}},
		{10, []int{1, 1, 1}, []int{3, 3, 3}}, {10, []int{7, 7, 7, 7}, []int{2, 2, 2, 2}}, {1, []int{7, 7, 7, 7}, []int{1, 1, 1, 1}}, {3, []int{1, 1, 1, 1}, []int{1, 1, 1, 1}},
		{19, []int{1, 1}, []int{9, 9}}, {20, []int{1, 2}, []int{6, 13}}, {20, []int{60, 60, 60, 60}, []int{5, 5, 5, 5}}, {20, []int{1, 220}, []int{1, 19}}, {20, []int{1, 19}, []int{1, 19}}, {20, []int{1, 20}, []int{1, 19}},
		{7, []int{3, 4, 5, 8}, []int{1, 1, 1, 2}}, {7, []int{0, 4, 0, 8}, []int{1, 2, 1, 4}},
	} {
		w := insideWorld(c.weight, c.insides...)
		if !impl.WorldOk(w) {
			t.Fatalf("%v", worldFaults(w))
		}
		for cpu, want := range c.want {
			if got := impl.GroupShare(w, 1, cpu); got != want || impl.GroupInside(w, 1, cpu) != c.insides[cpu] {
				t.Errorf("a weight of %d, inside %v: on %d: %d, want %d", c.weight, c.insides, cpu, got, want)
			}
			if got := impl.GroupShare(w, 0, cpu); got != 0 {
				t.Errorf("the root's share on %d: %d", cpu, got)
			}
			if got := impl.GroupShare(w, 2, cpu); got != 0 {
				t.Errorf("the share of no group on %d: %d", cpu, got)
			}
		}
	}
}

// Who is blocked has no share; who is held back by a quota has.
func TestShareOfWhoIsReady(t *testing.T) {
	w := insideWorld(10, 5, 15)
	w.Tasks[1].State = impl.TaskBlocked
	modelSettle(w)
	if a, b := impl.GroupShare(w, 1, 0), impl.GroupShare(w, 1, 1); a != 10 || b != 1 {
		t.Errorf("blocked on the second: %d, %d", a, b)
	}
	w = insideWorld(10, 5, 15)
	dryOn(w, 1, 1)
	modelSettle(w)
	if a, b := impl.GroupShare(w, 1, 0), impl.GroupShare(w, 1, 1); a != 2 || b != 7 || impl.CpuLoad(w, 1) != 0 {
		t.Errorf("dry on the second: %d, %d", a, b)
	}
}

// Nothing is told of processors, groups and levels that there are not, nor of one that is down.
func TestLoadsOfWhatThereIsNot(t *testing.T) {
	for _, w := range []impl.World{handWorld(), linedWorld([]int{5}, []int{5, 5}), emptyWorld(1)} {
		wantLoadsAsModel(t, w, processorsToTry(w), levelsToTry(), placesToTry())
		for _, cpu := range processorsToTry(w) {
			if isIn(cpu, 0, len(w.Cpus)-1) {
				continue
			}
			task, ok := impl.CpuPull(w, cpu)
			told := []int{impl.CpuLoad(w, cpu), impl.CpuWaiting(w, cpu), impl.CpuBusiest(w, cpu, 0) + 1, impl.GroupInside(w, 0, cpu), impl.GroupInside(w, 1, cpu), impl.GroupShare(w, 1, cpu), task}
			if slices.Max(told) != 0 || slices.Min(told) != 0 || ok {
				t.Errorf("of %d: %v, %v", cpu, told, ok)
			}
		}
	}
	if task, ok := impl.CpuPull(handWorld(), 3); task != 0 || ok || impl.CpuBusiest(handWorld(), 3, 1) != -1 {
		t.Errorf("of one that is down: %d, %v", task, ok)
	}
}

// sharedWorld is a world of two processors with the groups 1, and 2 in 1, and 3 beside them, all ahead of the floor where they stand; on 0 a task of 2 is current.
func sharedWorld() impl.World {
	w := groupedWorld(2, 0, 1, 0)
	putReady(w, 0, 2, 0, 0, 40*step(10))
	putReady(w, 1, 2, 0, 0, 0)
	putReady(w, 2, 1, 0, 5, 0)
	putReady(w, 3, 2, 1, 0, 0)
	putReady(w, 4, 3, 1, 0, 0)
	putReady(w, 5, 0, 0, 0, 0)
	modelSettle(w)
	w.Groups[1].Shelves[0].V, w.Groups[2].Shelves[0].V = 40*step(10), 40*step(10)
	w.Cpus[0].Cur, w.Cpus[0].Ran = 0, 40
	return w
}

// Balancing gives each group its share on that processor, and on no other one; its Weight stays. Whose weight is another one is as far ahead as before, up to what that allows.
func TestBalanceShares(t *testing.T) {
	w := sharedWorld()
	out := mustCall(t, w, cpuCall{callBalance, 0})
	want := cloneWorld(w)
	// Of 1 there are 25 of 35 ready here, of 2 20 of 30, of 3 nothing of 10.
	for g, weight := range map[int]int{1: 7, 2: 6, 3: 1} {
		want.Groups[g].Shelves[0].W = weight
	}
	want.Cpus[0].Cur, want.Cpus[0].Ran = -1, 0
	if !sameWorld(out, want) {
		t.Errorf("%+v, want %+v", out, want)
	}
	w.Groups[2].Shelves[0].V, w.Cpus[0].Cur, w.Cpus[0].Ran = longStay*step(1), -1, 0
	w.Groups[2].Shelves[0].W = 1
	out = mustCall(t, w, cpuCall{callBalance, 0})
	if s := out.Groups[2].Shelves[0]; s.W != 6 || s.V != longStay*step(6) {
		t.Errorf("cut: %+v", s)
	}
}

// Another share ends the stay of who is current in the group or within it, and of nobody else; where nothing is another one the stay goes on.
func TestBalanceEndsTheStayByShares(t *testing.T) {
	none := impl.Cpu{Up: true, Cur: -1}
	for name, c := range map[string]struct {
		change func(w impl.World)
		ends   bool
	}{
		"all shares are new":     {func(impl.World) {}, true},
		"no share is new":        {func(w impl.World) { w.Groups[1].Shelves[0].W, w.Groups[2].Shelves[0].W = 7, 6 }, false},
		"that of its group":      {func(w impl.World) { w.Groups[1].Shelves[0].W = 7 }, true},
		"that of an outer group": {func(w impl.World) { w.Groups[2].Shelves[0].W = 6 }, true},
		"that of another group": {func(w impl.World) {
			w.Groups[1].Shelves[0].W, w.Groups[2].Shelves[0].W, w.Groups[3].Shelves[0].W = 7, 6, 9
		}, false},
		"that of a group within":        {func(w impl.World) { goOnInRoot(w, 2, 7, 5) }, false},
		"that of its group, not inside": {func(w impl.World) { goOnInRoot(w, 2, 9, 6) }, true},
		"nobody's: it is in the root":   {func(w impl.World) { goOnInRoot(w, 5, 3, 4) }, false},
	} {
		w := sharedWorld()
		c.change(w)
		if !impl.WorldOk(w) {
			t.Fatalf("%s: %v", name, worldFaults(w))
		}
		want := w.Cpus[0]
		if c.ends {
			want = none
		}
		out := mustCall(t, w, cpuCall{callBalance, 0})
		wantCpu(t, name, out.Cpus[0], want)
		wantCpu(t, name+", elsewhere", out.Cpus[1], w.Cpus[1])
	}
}

// goOnInRoot lets a task that is at all floors be current in sharedWorld, with these weights of its groups.
func goOnInRoot(w impl.World, task, outer, inner int) {
	w.Groups[1].Shelves[0].V, w.Groups[1].Shelves[0].W, w.Groups[2].Shelves[0].W = 0, outer, inner
	w.Cpus[0].Cur, w.Cpus[0].Ran = task, 1
}

// Shares are those of the world ahead of the move: whoever is taken over counts where they were.
func TestBalanceSharesAheadOfTheMove(t *testing.T) {
	w := insideWorld(10, 20, 0)
	putReady(w, 1, 1, 0, 0, 0)
	w.Tasks[0].Nice = 0
	out := mustCall(t, w, cpuCall{callBalance, 1})
	if out.Tasks[0].Cpu != 1 || out.Groups[1].Shelves[1].W != 1 || out.Groups[1].Shelves[0].W != 10 || !out.Groups[1].Shelves[1].On {
		t.Errorf("%+v", out)
	}
	// The next time it counts here.
	out = mustCall(t, out, cpuCall{callBalance, 1})
	if out.Groups[1].Shelves[1].W != 5 || out.Groups[1].Shelves[0].W != 10 || out.Tasks[0].Cpu != 1 || out.Tasks[1].Cpu != 0 {
		t.Errorf("once more: %+v", out)
	}
	if out = mustCall(t, out, cpuCall{callBalance, 0}); out.Groups[1].Shelves[0].W != 5 {
		t.Errorf("there: %+v", out.Groups[1])
	}
}

// Who is taken over is as far ahead here as there; the stay here ends, that there goes on.
func TestBalanceTakesWithTheLag(t *testing.T) {
	for _, floors := range [][2]int{{oldFloor, newFloor}, {newFloor, oldFloor}} {
		for _, lag := range []int{0, 1, 20 * step(5), longStay * step(5)} {
			w := groupedWorld(2, 0)
			for cpu, floor := range floors {
				w.Groups[0].Shelves[cpu].Floor, w.Groups[1].Shelves[cpu].Floor, w.Groups[1].Shelves[cpu].V = floor, floor, floor
			}
			// The first of them is current, and the last one may not leave.
			putReady(w, 0, 1, 0, 0, floors[0])
			putReady(w, 1, 1, 0, 5, floors[0]+lag)
			putReady(w, 2, 1, 0, 0, floors[0])
			w.Tasks[2].Mask = 1
			putReady(w, 3, 1, 1, 9, floors[1])
			// That is its share already, so that no stay ends by it.
			w.Groups[1].Shelves[1].W = 1
			modelSettle(w)
			goOnWith(w, 0)
			goOnWith(w, 3)
			want := cloneWorld(w)
			want.Tasks[1].Cpu, want.Tasks[1].V = 1, floors[1]+lag
			want.Cpus[1].Cur, want.Cpus[1].Ran = -1, 0
			if out := mustCall(t, w, cpuCall{callBalance, 1}); !sameWorld(out, want) {
				t.Errorf("a lag of %d: %+v, want %+v", lag, out, want)
			}
		}
	}
}

// Who is held back here by a quota of which the rest lies where nobody can use it may come: the world is settled ahead of the move.
func TestBalanceSettlesAheadOfTheMove(t *testing.T) {
	w := groupedWorld(3, 0)
	limitTo(w, 1, 40)
	putReady(w, 0, 1, 0, 0, 0)
	modelSettle(w)
	w.Groups[1].Band = impl.Band{Quota: 40, Spent: 20, Locals: []int{0, 0, 20}, Dry: []bool{false, true, false}}
	if !impl.WorldOk(w) || isSettled(w) {
		t.Fatalf("%v", worldFaults(w))
	}
	if _, ok := impl.CpuPull(w, 1); ok {
		t.Error("it is told ahead of it")
	}
	out := mustCall(t, w, cpuCall{callBalance, 1})
	if out.Tasks[0].Cpu != 1 || !impl.WorldLine(out, 0) || out.Groups[1].Band.Pool != 20 || !isSettled(out) {
		t.Errorf("%+v", out)
	}
}

// A group whose last task goes gives back what it had there, so that it can be spent here.
func TestBalanceGivesBackThere(t *testing.T) {
	w := groupedWorld(2, 0)
	putReady(w, 0, 0, 0, 0, 0)
	putReady(w, 1, 1, 0, 0, 0)
	limitTo(w, 1, 30)
	modelSettle(w)
	w.Groups[1].Band.Pool, w.Groups[1].Band.Locals[0] = 15, 15
	w.Tasks[0].Mask = 1
	out := mustCall(t, w, cpuCall{callBalance, 1})
	if b := out.Groups[1].Band; out.Tasks[1].Cpu != 1 || b.Pool != 30 || b.Locals[0] != 0 || out.Groups[1].Shelves[0].On || !out.Groups[1].Shelves[1].On {
		t.Errorf("%+v", out)
	}
}

// Balancing one processor behind the other, with all of them going on, comes to loads that are alike, and then nobody is told any more.
func TestBalanceTillNobodyIsTold(t *testing.T) {
	for cpus := 1; cpus <= cpuLimit; cpus++ {
		w := linedWorld(append([][]int{slices.Repeat([]int{rootWeight}, taskLimit)}, make([][]int, cpus-1)...)...)
		for round := range 10 * cpus {
			w = mustCall(t, w, cpuCall{callBalance, round % cpus})
			w = mustRun(t, w, round%cpus, 1)
		}
		for cpu := range cpus {
			if load := impl.CpuLoad(w, cpu); load != taskLimit*rootWeight/cpus {
				t.Errorf("%d processors: %d on %d", cpus, load, cpu)
			}
			if task, ok := impl.CpuPull(w, cpu); ok {
				t.Errorf("%d processors: %d is told to %d", cpus, task, cpu)
			}
		}
	}
}

// An idle processor takes whoever waits, though that leaves another one idle: the words ask for nothing else.
func TestBalanceOfIdleOnes(t *testing.T) {
	w := linedWorld([]int{10}, nil)
	for round := range 6 {
		w = mustCall(t, w, cpuCall{callBalance, 1 - round%2})
		if w.Tasks[0].Cpu != 1-round%2 {
			t.Errorf("%d: on %d", round, w.Tasks[0].Cpu)
		}
	}
	w = mustRun(t, w, 0, 1)
	if out := mustCall(t, w, cpuCall{callBalance, 1}); !sameWorld(out, w) {
		t.Errorf("who is current is taken over: %+v", out)
	}
}

// What both processors give then is by the weights: a group's share on each is what its tasks there are to it.
func TestBalanceGivesByTheShares(t *testing.T) {
	w := groupedWorld(2, 0, 0)
	for at := range 6 {
		// Of the group 1 there is one on 0 and two on 1, of the group 2 the other way round.
		putReady(w, at, 1+at/3, (at+1)/2%2, 0, 0)
		w.Tasks[at].Mask = 1 << w.Tasks[at].Cpu
	}
	modelSettle(w)
	w = mustCall(t, mustCall(t, w, cpuCall{callBalance, 0}), cpuCall{callBalance, 1})
	for g := 1; g <= 2; g++ {
		for cpu := range 2 {
			if got, want := w.Groups[g].Shelves[cpu].W, impl.GroupShare(w, g, cpu); got != want {
				t.Fatalf("the group %d on %d: %d, want %d", g, cpu, got, want)
			}
		}
	}
	for range 200 {
		w = mustRun(t, mustRun(t, w, 0, 100), 1, 100)
	}
	for cpu := range 2 {
		a, b := w.Groups[1].Shelves[cpu], w.Groups[2].Shelves[cpu]
		if apart := a.Sum*b.W - b.Sum*a.W; max(apart, -apart) > impl.QueueApart(a.W, b.W) {
			t.Errorf("on %d: %+v, %+v: apart by %d", cpu, a, b, apart)
		}
	}
}

// goingWorld is a world of four processors, of which 2 goes or has gone; there are tasks of all kinds on it, in the groups 1 and 2.
func goingWorld() impl.World {
	w := groupedWorld(4, 0, 1)
	for cpu := range 4 {
		for g := range 3 {
			w.Groups[g].Shelves[cpu].Floor = (cpu + 1) * 1000
			if g > 0 {
				w.Groups[g].Shelves[cpu].V = (cpu + 1) * 1000
			}
		}
	}
	putReady(w, 0, 1, 2, 0, 3000+7*step(10))
	putReady(w, 1, 2, 2, 3, 3000)
	putReady(w, 2, 0, 2, -4, 3000+5)
	w.Tasks[3] = impl.Task{State: impl.TaskBlocked, Group: 2, Cpu: 2, Mask: everyCpu, V: 3000 + 9, Load: 4}
	w.Tasks[4] = impl.Task{State: impl.TaskBlocked, Cpu: 2, Mask: 4, V: 10}
	putReady(w, 5, 0, 0, 0, 1000)
	putReady(w, 6, 0, 1, 0, 2000)
	putReady(w, 7, 0, 3, 0, 4000)
	w.Tasks[0].Mask, w.Tasks[1].Mask, w.Tasks[2].Mask = 4, 14, 12
	modelSettle(w)
	w.Cpus[2] = impl.Cpu{Up: true, Cur: 0, Ran: 7, Busy: 50, Idle: 60}
	for task := 5; task <= 7; task++ {
		goOnWith(w, task)
	}
	return w
}

// Whoever is on a processor that goes is put, with their lag, where they may be first: by their mask, or by their group's, or anywhere; the stays where somebody ready comes to end, others go on.
func TestOff(t *testing.T) {
	w := goingWorld()
	out := mustCall(t, w, cpuCall{callOff, 2})
	want := cloneWorld(w)
	want.Cpus[2] = impl.Cpu{Cur: -1, Busy: 50, Idle: 60}
	for task, to := range map[int]struct{ cpu, v int }{0: {0, 1000 + 7*step(10)}, 1: {1, 2000}, 2: {3, 4005}, 3: {0, 1009}, 4: {0, 1000}} {
		want.Tasks[task].Cpu, want.Tasks[task].V = to.cpu, to.v
	}
	for _, cpu := range []int{0, 1, 3} {
		want.Cpus[cpu].Cur, want.Cpus[cpu].Ran = -1, 0
	}
	// The group 1 stands where its tasks are, and those within it.
	for cpu, on := range []bool{true, true, false, false} {
		want.Groups[1].Shelves[cpu].On = on
	}
	want.Groups[2].Shelves[2].On, want.Groups[2].Shelves[1].On = false, true
	want.Groups[1].Shelves[0].Floor = 1000 + 7*step(10)
	if !sameWorld(out, want) {
		t.Errorf("%+v, want %+v", out, want)
	}
}

// A stay goes on where nobody comes to, and where just somebody who waits for something does.
func TestOffLeavesStaysAlone(t *testing.T) {
	for name, c := range map[string]struct {
		gone []int
		ends []bool
	}{
		"nobody is there":       {[]int{0, 1, 2, 3, 4}, []bool{false, false, false, false}},
		"blocked ones alone":    {[]int{0, 1, 2}, []bool{false, false, false, false}},
		"one for the first":     {[]int{1, 2, 3, 4}, []bool{true, false, false, false}},
		"one for the second":    {[]int{0, 2, 3}, []bool{false, true, false, false}},
		"one for the last":      {[]int{0, 1}, []bool{false, false, false, true}},
		"two, and blocked ones": {[]int{1}, []bool{true, false, false, true}},
	} {
		w := goingWorld()
		for _, task := range c.gone {
			w.Tasks[task] = impl.Task{}
		}
		modelSettle(w)
		out := mustCall(t, w, cpuCall{callOff, 2})
		for cpu, ends := range c.ends {
			want := w.Cpus[cpu]
			if ends {
				want.Cur, want.Ran = -1, 0
			}
			if cpu == 2 {
				want = impl.Cpu{Cur: -1, Busy: 50, Idle: 60}
			}
			wantCpu(t, name+": "+strconv.Itoa(cpu), out.Cpus[cpu], want)
		}
	}
}

// What a processor that goes has of a quota is given back, and who was dry elsewhere goes on; a group that is dry on it stays dry, if there is nothing more.
func TestOffGivesBack(t *testing.T) {
	w := groupedWorld(2, 0)
	limitTo(w, 1, 40)
	putReady(w, 0, 1, 0, 0, 0)
	putReady(w, 1, 1, 1, 0, 0)
	modelSettle(w)
	w.Groups[1].Band = impl.Band{Quota: 40, Spent: 28, Locals: []int{0, 12}, Dry: []bool{true, false}}
	modelSettle(w)
	out := mustCall(t, w, cpuCall{callOff, 1})
	if b := out.Groups[1].Band; b.Pool != 12 || b.Locals[1] != 0 || b.Dry[0] || b.Spent != 28 || !impl.WorldLine(out, 0) || !impl.WorldLine(out, 1) {
		t.Errorf("%+v", out)
	}
	w.Groups[1].Band = impl.Band{Quota: 40, Spent: 28, Locals: []int{12, 0}, Dry: []bool{false, true}}
	modelSettle(w)
	out = mustCall(t, w, cpuCall{callOff, 1})
	if b := out.Groups[1].Band; b.Pool != 0 || b.Locals[0] != 12 || !b.Dry[1] || !impl.WorldLine(out, 1) || out.Tasks[1].Cpu != 0 {
		t.Errorf("dry on the one that goes: %+v", out)
	}
	w.Groups[1].Band = impl.Band{Quota: 40, Spent: 40, Locals: []int{0, 0}, Dry: []bool{true, false}}
	modelSettle(w)
	out = mustCall(t, w, cpuCall{callOff, 1})
	if b := out.Groups[1].Band; !b.Dry[0] || impl.WorldLine(out, 1) || out.Groups[1].Shelves[0].On || out.Groups[1].Shelves[1].On {
		t.Errorf("dry where they come to: %+v", out)
	}
}

// A processor that comes gets those, with their lag, who may be nowhere else then; others stay, and stays go on but where somebody leaves or comes to.
func TestOn(t *testing.T) {
	w := goingWorld()
	w = mustCall(t, w, cpuCall{callOff, 2})
	goOnWith(w, 5)
	w.Tasks[2].Mask = 4
	w.Cpus[3].Cur, w.Cpus[3].Ran = 7, 1
	out := mustCall(t, w, cpuCall{callOn, 2})
	want := cloneWorld(w)
	want.Cpus[2] = impl.Cpu{Up: true, Cur: -1, Busy: 50, Idle: 60}
	for task, v := range map[int]int{0: 3000, 2: 3005, 4: 3000} {
		want.Tasks[task].Cpu, want.Tasks[task].V = 2, v
	}
	want.Groups[1].Shelves[0].On, want.Groups[1].Shelves[2].On = false, true
	if !sameWorld(out, want) {
		t.Errorf("%+v, want %+v", out, want)
	}
	// Who is current, and is to go, is not current any more.
	w = linedWorld([]int{5, 5}, []int{5})
	w.Cpus[1].Up, w.Tasks[2].Cpu = false, 0
	w.Tasks[1].Mask = 2
	goOnWith(w, 1)
	out = mustCall(t, w, cpuCall{callOn, 1})
	wantCpu(t, "where it was", out.Cpus[0], impl.Cpu{Up: true, Cur: -1})
	if out.Tasks[1].Cpu != 1 || out.Tasks[0].Cpu != 0 || out.Tasks[2].Cpu != 0 {
		t.Errorf("%+v", out.Tasks[:3])
	}
}

// Off and on again everybody who is pinned there is back, and nobody else.
func TestOffAndOn(t *testing.T) {
	d := &dice{state: 125}
	back := 0
	for range 3000 {
		w := thrownToBalance(d)
		cpu := d.below(len(w.Cpus))
		out, code := impl.CpuOff(w, cpu)
		if code != impl.CodeDone {
			continue
		}
		// A lag may have led beyond what leaves room.
		out, code = impl.CpuOn(out, cpu)
		if code != impl.CodeDone {
			continue
		}
		for at, task := range w.Tasks {
			where := modelWhere(w, task.Mask, task.Group)
			switch is := out.Tasks[at].Cpu; {
			case task.State == 0:
			case len(where) == 1 && is != where[0] || task.Cpu != cpu && is != task.Cpu:
				t.Fatalf("the task %d is on %d: %+v", at, is, w)
			case task.Cpu == cpu && len(where) == 1:
				back++
			}
		}
	}
	if back < 500 {
		t.Errorf("%d are back: the worlds try too little", back)
	}
}

// All of them settle at their end.
func TestBalanceSettles(t *testing.T) {
	w := unusedWorld()
	w.Cpus = append(w.Cpus, impl.Cpu{Cur: -1})
	for g := range 2 {
		w.Groups[g].Shelves = append(w.Groups[g].Shelves, impl.Shelf{W: rootWeight})
	}
	w.Groups[1].Band.Locals, w.Groups[1].Band.Dry = append(w.Groups[1].Band.Locals, 0), append(w.Groups[1].Band.Dry, false)
	for _, c := range []cpuCall{{callBalance, 0}, {callBalance, 1}, {callOff, 0}, {callOff, 1}, {callOn, 2}} {
		if !impl.WorldOk(w) || isSettled(w) {
			t.Fatalf("%v", worldFaults(w))
		}
		if out := mustCall(t, w, c); !isSettled(out) {
			t.Errorf("%+v: %+v", c, out)
		}
	}
}
