package tests

import (
	"slices"
	"strconv"
	"testing"

	"loop.example/stint/impl"
)

// pinnedWorld is a world of so many processors of which these are up, with groups one in the other that have these processors, and a task in the last one.
func pinnedWorld(cpus, up int, pins []int, mask, state int) impl.World {
	w := emptyWorld(cpus)
	for cpu := range w.Cpus {
		w.Cpus[cpu].Up = up>>cpu&1 == 1
	}
	for i, set := range pins {
		g := impl.Group{Used: true, Parent: i, Name: "n" + strconv.Itoa(i), Weight: rootWeight, Cpus: set}
		for range cpus {
			g.Shelves = append(g.Shelves, impl.Shelf{W: rootWeight})
		}
		w.Groups[i+1] = g
	}
	w.Tasks[4] = impl.Task{State: state, Group: len(pins), Mask: mask}
	return w
}

// putOn lets the task of pinnedWorld be on a processor, with its groups On there if it is ready.
func putOn(w impl.World, cpu int) {
	w.Tasks[4].Cpu = cpu
	for g := 1; g <= w.Tasks[4].Group; g++ {
		for place := range w.Groups[g].Shelves {
			w.Groups[g].Shelves[place].On = place == cpu && w.Tasks[4].State == 1
		}
	}
}

// commonOf is what the processors that are up, those of the groups and a mask have in common.
func commonOf(up int, pins []int, mask int) int {
	for _, set := range pins {
		up &= set
	}
	return up & mask
}

func firstNotEmpty(sets ...int) int {
	for _, set := range sets {
		if set != 0 {
			return set
		}
	}
	return 0
}

// wantWhere holds the task of a pinned world against the promise: it is told where it may be, and the world is ok just with it there.
func wantWhere(t *testing.T, cpus, up int, pins []int, mask, state int) {
	t.Helper()
	want := firstNotEmpty(commonOf(up, pins, mask), commonOf(up, pins, everyCpu), up)
	w := pinnedWorld(cpus, up, pins, mask, state)
	for cpu := -1; cpu <= cpus; cpu++ {
		putOn(w, cpu)
		may := cpu >= 0 && want>>cpu&1 == 1
		if got := impl.WorldOk(w); got != may {
			t.Fatalf("%d processors, up %b, pins %b, mask %b, state %d, on %d: ok %v", cpus, up, pins, mask, state, cpu, got)
		}
		told := 0
		if may {
			told = want
		}
		if got := impl.WorldMask(w, 4); got != told {
			t.Fatalf("%d processors, up %b, pins %b, mask %b, state %d, on %d: %b, want %b", cpus, up, pins, mask, state, cpu, got, told)
		}
		if got := impl.WorldLine(w, 4); got != (may && state == 1) {
			t.Fatalf("up %b, pins %b, mask %b, state %d, on %d: in line %v", up, pins, mask, state, cpu, got)
		}
	}
}

// P37: of all masks in all sets of one group, with all processors that can be up.
func TestTaskIsWhereItMayBeInOneGroup(t *testing.T) {
	for cpus := 1; cpus <= cpuLimit; cpus++ {
		for up := 1; up < 1<<cpus; up++ {
			for mask := 1; mask <= everyCpu; mask++ {
				wantWhere(t, cpus, up, nil, mask, 1+mask%2)
				for set := 1; set <= everyCpu; set++ {
					wantWhere(t, cpus, up, []int{set}, mask, 1+(mask+set)%2)
				}
			}
		}
	}
}

// P37: of groups at all depths, each with processors of its own, thrown.
func TestTaskIsWhereItMayBeInDeepGroups(t *testing.T) {
	d := &dice{state: 37}
	seen := map[int]int{}
	for range 12000 {
		cpus := 1 + d.below(cpuLimit)
		pins := []int{1 + d.below(everyCpu), d.oneOf(everyCpu, 1+d.below(everyCpu)), d.oneOf(everyCpu, 1+d.below(everyCpu))}[:2+d.below(2)]
		up, mask := 1+d.below(1<<cpus-1), 1+d.below(everyCpu)
		wantWhere(t, cpus, up, pins, mask, 1+d.below(2))
		switch {
		case commonOf(up, pins, mask) != 0:
			seen[0]++
		case commonOf(up, pins, everyCpu) != 0:
			seen[1]++
		default:
			seen[2]++
		}
	}
	for i := range 3 {
		if seen[i] < 1000 {
			t.Errorf("%v: the groups try too little", seen)
		}
	}
}

// P37: the edges that the document names, written out.
func TestTaskIsWhereItMayBeAtTheEdges(t *testing.T) {
	for _, c := range []struct {
		name     string
		cpus, up int
		pins     []int
		mask     int
		where    int
	}{
		{"all", 4, 15, nil, 15, 15},
		{"its mask", 4, 15, nil, 5, 5},
		{"its mask in its group", 4, 15, []int{6}, 12, 4},
		{"its mask in both groups", 4, 15, []int{7, 14}, 6, 6},
		{"nothing in common with the group", 4, 15, []int{3}, 12, 3},
		{"nothing in common with the outer group", 4, 15, []int{3, 15, 15}, 12, 3},
		{"nothing in common with the middle one", 4, 15, []int{15, 3, 15}, 4, 3},
		{"nothing in common with what both have", 4, 15, []int{7, 14}, 9, 6},
		{"in common just with one that is down", 4, 7, []int{14}, 9, 6},
		{"a mask that is all down", 4, 3, nil, 12, 3},
		{"a mask that is all down, a group", 4, 3, []int{14}, 12, 2},
		{"pins that are all down", 4, 3, []int{12}, 1, 3},
		{"pins that are all down, mask and all", 4, 3, []int{12}, 12, 3},
		{"groups with nothing in common", 4, 15, []int{3, 12}, 1, 15},
		{"groups with nothing in common, mask of one", 4, 13, []int{8, 1, 15}, 8, 13},
		{"groups that leave nothing with who is up", 4, 9, []int{6, 14}, 8, 9},
		{"one is up", 4, 4, nil, 11, 4},
		{"one is up, a group elsewhere", 4, 4, []int{3}, 11, 4},
		{"one is up, groups and mask there", 4, 4, []int{6, 12}, 4, 4},
		{"one processor", 1, 1, nil, 15, 1},
		{"one processor, none of its mask", 1, 1, nil, 14, 1},
		{"one processor, none of its group's", 1, 1, []int{14}, 1, 1},
		{"processors beyond those that there are", 2, 3, []int{14}, 13, 2},
		{"just processors that there are not", 2, 3, []int{12}, 12, 3},
		{"mask of processors that there are not", 3, 5, []int{6}, 8, 4},
	} {
		for state := 1; state <= 2; state++ {
			w := pinnedWorld(c.cpus, c.up, c.pins, c.mask, state)
			for cpu := range c.cpus {
				putOn(w, cpu)
				may := slices.Contains(setMembers(c.where), cpu)
				if got := impl.WorldOk(w); got != may {
					t.Errorf("%s: state %d, on %d: ok %v", c.name, state, cpu, got)
				}
				if got := impl.WorldMask(w, 4); may && got != c.where || !may && got != 0 {
					t.Errorf("%s: state %d, on %d: %b, want %b", c.name, state, cpu, got, c.where)
				}
			}
		}
	}
}

// P37: of thrown worlds: each task is among the processors that are told, all of these are up, and elsewhere the world is not ok.
func TestTaskIsWhereItMayBeInThrownWorlds(t *testing.T) {
	d := &dice{state: 371}
	for range 600 {
		w := thrownWorld(d, timeLimit)
		for at := range w.Tasks {
			mask := impl.WorldMask(w, at)
			if w.Tasks[at].State == impl.TaskNone {
				if mask != 0 {
					t.Fatalf("no task at %d, but %b", at, mask)
				}
				continue
			}
			if !impl.MaskHas(mask, w.Tasks[at].Cpu) || setOf(inBoth(setMembers(mask), modelUps(w))) != mask {
				t.Fatalf("the task %d may be at %b: %+v", at, mask, w)
			}
			wantNotElsewhere(t, w, at, mask)
		}
	}
}

// wantNotElsewhere puts a task wherever it may not be; a blocked one may be anywhere else.
func wantNotElsewhere(t *testing.T, w impl.World, at, mask int) {
	t.Helper()
	for cpu := -1; cpu <= cpuLimit; cpu++ {
		moved := cloneWorld(w)
		moved.Tasks[at].Cpu = cpu
		may := impl.MaskHas(mask, cpu)
		got := impl.WorldOk(moved)
		if got && !may || !got && may && w.Tasks[at].State == impl.TaskBlocked {
			t.Fatalf("the task %d may be at %b, on %d: ok %v: %+v", at, mask, cpu, got, moved)
		}
	}
}

// P37: another mask, other processors of a group, one that goes or comes: where a task may be follows.
func TestTaskIsWhereItMayBeWhenThingsChange(t *testing.T) {
	w := pinnedWorld(4, 15, []int{15}, 6, 2)
	putOn(w, 1)
	want := func(name string, where int) {
		t.Helper()
		if got := impl.WorldMask(w, 4); got != where {
			t.Errorf("%s: %b, want %b", name, got, where)
		}
	}
	want("at first", 6)
	w.Cpus[2].Up = false
	want("one of its mask goes", 2)
	w.Cpus[1].Up = false
	want("where it is goes", 0)
	w.Tasks[4].Cpu = 3
	want("nothing of its mask is left", 9)
	w.Groups[1].Cpus = 8
	want("the group has one of these", 8)
	w.Groups[1].Cpus = 6
	want("nothing of the group is left", 9)
	w.Cpus[2].Up = true
	want("one of the group's comes, and it is not there", 0)
	w.Tasks[4].Cpu = 2
	want("it is there", 4)
	w.Tasks[4].Mask = 9
	want("nothing of its mask is in its group", 4)
	w.Tasks[4].Group = 0
	want("in the root, and not where its mask is", 0)
	w.Tasks[4].Cpu = 0
	want("in the root", 9)
}

// P37 speaks of tasks in ok worlds: of a place that has none, and of what is no world, nothing is told.
func TestTaskIsNowhere(t *testing.T) {
	w := handWorld()
	for at, want := range []int{7, 2, 1, 2, 7, 7, 0, 4, 0, 0, 0, 0} {
		if got := impl.WorldMask(w, at); got != want {
			t.Errorf("the task %d: %b, want %b", at, got, want)
		}
	}
	for _, at := range append([]int{-12, -1, 12, 13, 64, 1 << 32, 1<<32 + 1}, farInts()...) {
		if got := impl.WorldMask(w, at); got != 0 {
			t.Errorf("the task %d: %b", at, got)
		}
	}
	for _, c := range brokenWorlds() {
		for at := range taskLimit {
			if got := impl.WorldMask(c.world, at); got != 0 {
				t.Errorf("%s: the task %d: %b", c.name, at, got)
			}
		}
	}
}
