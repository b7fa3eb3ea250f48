package tests

import (
	"strconv"
	"testing"

	"loop.example/stint/impl"
)

func TestGroupLimits(t *testing.T) {
	if limits := [...]int{impl.GroupMax, impl.DepthMax, impl.ShareStart, impl.BandMaxQuota, impl.BandMaxPeriod}; limits != [...]int{groupLimit, depthLimit, rootWeight, quotaLimit, periodLimit} {
		t.Error("limits", limits)
	}
}

// A new group is at the first free place, in its parent, by its name, all else as the root of a new world; nothing else is changed, not even what other calls do at their end.
func TestGroupMakes(t *testing.T) {
	for cpus := 1; cpus <= cpuLimit; cpus++ {
		w := emptyWorld(cpus)
		w.Groups[2] = groupedWorld(cpus, 0).Groups[1]
		for _, c := range []struct{ at, parent int }{{1, 0}, {3, 2}, {4, 1}} {
			at, parent := c.at, c.parent
			out, place, code := impl.GroupMake(w, parent, "new")
			want := cloneWorld(w)
			want.Groups[at] = emptyWorld(cpus).Groups[0]
			want.Groups[at].Parent, want.Groups[at].Name = parent, "new"
			if place != at || code != impl.CodeDone || !sameWorld(out, want) || !impl.WorldOk(out) {
				t.Errorf("%d processors: %d, %d, %+v", cpus, place, code, out)
			}
			if found := impl.TreeFind(out.Groups, pathIn(impl.TreePath(w.Groups, parent), "new")); found != at {
				t.Errorf("%d processors: found at %d", cpus, found)
			}
			w = out
		}
	}
	w := unusedWorld()
	out, _, _ := impl.GroupMake(w, 1, "new")
	out.Groups[2] = impl.Group{}
	if isSettled(w) || !sameWorld(out, w) {
		t.Errorf("%+v", out)
	}
}

// Whichever places are free, it is the first of them.
func TestGroupMakeAtTheFirstOfAnyFreePlaces(t *testing.T) {
	full := groupedWorld(2, 0, 0, 0, 0, 0, 0, 0)
	for free := range 1 << (groupLimit - 1) {
		w, first := cloneWorld(full), -1
		for at := groupLimit - 1; at > 0; at-- {
			if free>>(at-1)&1 == 1 {
				w.Groups[at], first = impl.Group{}, at
			}
		}
		out, place, code := impl.GroupMake(w, 0, "new")
		if want := map[bool]int{true: impl.CodeFull, false: impl.CodeDone}[free == 0]; place != first || code != want || !impl.WorldOk(out) {
			t.Errorf("free %b: %d, %d, want %d", free, place, code, first)
		}
	}
}

// Groups are made up to DepthMax, and by names that the parent has not; another one may have them.
func TestGroupMakeDepthsAndNames(t *testing.T) {
	w := emptyWorld(1)
	for _, c := range []struct {
		parent int
		name   string
		code   int
	}{
		{0, "a", impl.CodeDone}, {0, "a", impl.CodeThere}, {1, "a", impl.CodeDone}, {2, "a", impl.CodeDone}, {3, "a", impl.CodeDeep}, {3, "b", impl.CodeDeep},
		{2, "a", impl.CodeThere}, {1, "a", impl.CodeThere}, {2, "b", impl.CodeDone}, {4, "a", impl.CodeDeep}, {0, "b", impl.CodeDone}, {5, "b", impl.CodeDone}, {5, "a", impl.CodeDone},
		{5, "a", impl.CodeThere}, {7, "a", impl.CodeFull}, {3, "a", impl.CodeDeep}, {0, "c", impl.CodeFull},
	} {
		out, place, code := impl.GroupMake(w, c.parent, c.name)
		if code != c.code || (place == -1) != (code != impl.CodeDone) || !impl.WorldOk(out) {
			t.Errorf("%+v: %d, %d", c, place, code)
		}
		w = out
	}
	if depth := impl.TreeDepth(w.Groups, 3); depth != depthLimit || impl.TreeFind(w.Groups, "/b/a") != 7 {
		t.Errorf("depth %d: %+v", depth, w.Groups)
	}
}

// weighedWorld is a world of two processors with the group 1 at a weight and a lag in the root's queue on 0, or not On there but at that time; on 1 it is as it was made. Somebody else stands at the floor of the root's queue on 0.
func weighedWorld(weight, lag int, on bool) impl.World {
	w := groupedWorld(2, 0)
	w.Groups[0].Shelves[0].Floor = oldFloor
	putReady(w, 5, 0, 0, 0, oldFloor)
	w.Groups[1].Shelves[0].V, w.Groups[1].Shelves[0].W, w.Groups[1].Shelves[0].On = oldFloor+lag, weight, on
	if on {
		putReady(w, 3, 1, 0, 0, 0)
	}
	return w
}

// With another weight a group is ahead by at most what that allows, where it is On; less, and the time of one that is not, is kept.
func TestWeighAtEachLag(t *testing.T) {
	for was := 1; was <= weightLimit; was++ {
		for weight := 1; weight <= weightLimit; weight++ {
			old, most := longStay*step(was), longStay*step(weight)
			for _, lag := range []int{0, 1, old / 2, old - 1, old, old + 1, most - 1, most, most + 1} {
				for _, on := range []bool{true, false} {
					if on && lag > old {
						continue
					}
					want := impl.Shelf{On: on, V: oldFloor + lag, W: weight}
					if on && was != weight {
						want.V = oldFloor + min(lag, most)
					}
					out := mustCall(t, weighedWorld(was, lag, on), groupCall{what: callWeigh, group: 1, n: weight})
					if got := out.Groups[1].Shelves; got[0] != want || got[1] != (impl.Shelf{W: weight}) || out.Groups[1].Weight != weight {
						t.Fatalf("from %d to %d, a lag of %d, On %v: %+v, weight %d", was, weight, lag, on, got, out.Groups[1].Weight)
					}
				}
			}
		}
	}
}

// currentWorld is a world of four processors with groups one in the other, 3 in 2 in 1, and 4 beside them: on 0 a task of 3 is current, on 1 one of 2, on 2 one of 4, on 3 one of the root.
func currentWorld() impl.World {
	w := groupedWorld(4, 0, 1, 2, 0)
	for cpu, group := range []int{3, 2, 4, 0} {
		putReady(w, cpu, group, cpu, 0, 30*step(rootWeight))
		w.Cpus[cpu].Cur, w.Cpus[cpu].Ran = cpu, 30
	}
	// Somebody is ready in each group everywhere, so that all are On.
	for at, group := range []int{3, 4, 3, 4, 3, 4} {
		putReady(w, 4+at, group, at%4, 0, 0)
	}
	modelSettle(w)
	return w
}

// Another weight ends the stay of who is current in the group or within it, and of nobody else; where it is the weight already it ends none.
func TestWeighEndsTheStay(t *testing.T) {
	w := currentWorld()
	for group, ended := range map[int][]bool{1: {true, true, false, false}, 2: {true, true, false, false}, 3: {true, false, false, false}, 4: {false, false, true, false}} {
		for same := range 1 << 4 {
			is := cloneWorld(w)
			for cpu := range is.Cpus {
				if same>>cpu&1 == 1 {
					is.Groups[group].Shelves[cpu].W = 3
				}
			}
			out := mustCall(t, is, groupCall{what: callWeigh, group: group, n: 3})
			for cpu := range is.Cpus {
				want := is.Cpus[cpu]
				if ended[cpu] && same>>cpu&1 == 0 {
					want.Cur, want.Ran = -1, 0
				}
				wantCpu(t, "the group "+strconv.Itoa(group)+", the same on "+strconv.Itoa(same)+": "+strconv.Itoa(cpu), out.Cpus[cpu], want)
				if out.Groups[group].Shelves[cpu].W != 3 {
					t.Errorf("the group %d on %d: %+v", group, cpu, out.Groups[group].Shelves[cpu])
				}
			}
		}
	}
}

// What a group gets from then on is by its new weight.
func TestWeighGivesByTheWeight(t *testing.T) {
	for _, c := range []struct{ weight, nice int }{{1, -10}, {20, 9}, {7, 3}} {
		w := groupedWorld(1, 0)
		putReady(w, 0, 1, 0, -3, 0)
		putReady(w, 1, 0, 0, c.nice, 0)
		modelSettle(w)
		w = mustCall(t, mustRun(t, w, 0, 77), groupCall{what: callWeigh, group: 1, n: c.weight})
		was := sumsOf(w)
		for range 300 {
			w = mustRun(t, w, 0, 100)
			is := sumsOf(w)
			apart := (is[0]-was[0])*(10-c.nice) - (is[1]-was[1])*c.weight
			if max(apart, -apart) > impl.QueueApart(c.weight, 10-c.nice) {
				t.Fatalf("%+v: apart by %d", c, apart)
			}
		}
	}
}

// Another set brings each task of the group, and of those in it, that may not be where it is to the first processor where it may be; others stay.
func TestGroupPinWhere(t *testing.T) {
	for _, c := range []struct {
		up, inner, from, mask, set int
		want                       int
	}{
		{15, 15, 1, 15, 15, 1}, {15, 15, 1, 15, 2, 1}, {15, 15, 1, 15, 10, 1}, {15, 15, 1, 15, 1, 0}, {15, 15, 1, 15, 12, 2}, {15, 15, 1, 15, 8, 3}, {15, 15, 0, 15, 14, 1},
		{15, 15, 1, 2, 13, 0}, {15, 15, 1, 10, 13, 3}, {15, 6, 1, 15, 12, 2}, {15, 6, 1, 15, 9, 1}, {15, 6, 2, 15, 3, 1}, {15, 6, 2, 4, 3, 1},
		{7, 15, 1, 15, 8, 1}, {7, 15, 2, 15, 8, 2}, {7, 15, 1, 3, 8, 1}, {11, 15, 3, 15, 6, 1}, {11, 12, 3, 15, 4, 3}, {11, 12, 3, 4, 4, 3}, {10, 15, 3, 15, 5, 3}, {10, 15, 3, 15, 7, 1}, {8, 15, 3, 15, 1, 3},
	} {
		for state := 1; state <= 2; state++ {
			w := pinnedWorld(4, c.up, []int{15, c.inner}, c.mask, state)
			w.Tasks[4].Cpu = c.from
			w.Tasks[6], w.Tasks[8] = w.Tasks[4], w.Tasks[4]
			w.Tasks[6].Group, w.Tasks[8].Group, w.Tasks[8].Mask = 1, 0, everyCpu
			modelSettle(w)
			out, _, code := wantAsModel(t, w, groupCall{what: callCpus, group: 1, n: c.set})
			want := w.Tasks[4]
			want.Cpu = c.want
			wantTask(t, "within, set "+strconv.Itoa(c.set)+", mask "+strconv.Itoa(c.mask), out.Tasks[4], want)
			wantTask(t, "in the root", out.Tasks[8], w.Tasks[8])
			if code != impl.CodeDone || out.Groups[1].Cpus != c.set || out.Groups[2].Cpus != c.inner || impl.WorldMask(out, 6) == 0 {
				t.Errorf("%+v: %d, %+v", c, code, out)
			}
		}
	}
}

// A group whose tasks go to another processor is not On any more where they were, and is where they are; each goes with its lag.
func TestGroupPinBringsAll(t *testing.T) {
	w := groupedWorld(2, 0, 1)
	for g, floor := range map[int]int{0: 500, 1: 700, 2: 900} {
		w.Groups[g].Shelves[1].Floor = floor
	}
	w.Groups[1].Shelves[0].V = 12
	putReady(w, 0, 0, 0, 0, 0)
	putReady(w, 1, 1, 0, 0, 40)
	putReady(w, 2, 2, 0, 0, 0)
	putReady(w, 3, 2, 0, 5, 60)
	w.Tasks[4] = impl.Task{State: impl.TaskBlocked, Group: 2, Mask: 1, V: 70}
	modelSettle(w)
	w.Cpus[0].Cur, w.Cpus[0].Ran = 3, 20
	out := mustCall(t, w, groupCall{what: callCpus, group: 1, n: 2})
	want := cloneWorld(w)
	want.Groups[1].Cpus = 2
	want.Groups[1].Shelves[0].On, want.Groups[2].Shelves[0].On = false, false
	want.Groups[1].Shelves[1] = impl.Shelf{Floor: 700, On: true, V: 500, W: 10}
	want.Groups[2].Shelves[1] = impl.Shelf{Floor: 900, On: true, V: 700, W: 10}
	for task, v := range map[int]int{1: 740, 2: 900, 3: 960, 4: 970} {
		want.Tasks[task].Cpu, want.Tasks[task].V = 1, v
	}
	want.Cpus[0].Cur, want.Cpus[0].Ran = -1, 0
	if !sameWorld(out, want) {
		t.Errorf("%+v, want %+v", out, want)
	}
	back := mustCall(t, out, groupCall{what: callCpus, group: 1, n: everyCpu})
	want.Groups[1].Cpus = everyCpu
	// Whose mask leads back goes back: the task that waits.
	want.Tasks[4].Cpu, want.Tasks[4].V = 0, 70
	if !sameWorld(back, want) {
		t.Errorf("wide again: %+v, want %+v", back, want)
	}
}

// A set that relocates a ready task ends the stay where it comes to; one that relocates nobody ends none.
func TestGroupPinEndsTheStay(t *testing.T) {
	w := currentWorld()
	none := impl.Cpu{Up: true, Cur: -1}
	for _, c := range []struct {
		group, set int
		ended      []bool
	}{
		{1, 15, []bool{false, false, false, false}}, {4, 15, []bool{false, false, false, false}},
		// Of 3 and 4 there are tasks on all but one processor each.
		{1, 1, []bool{true, true, false, false}}, {2, 13, []bool{true, true, false, false}}, {3, 14, []bool{true, true, false, false}}, {4, 8, []bool{false, false, true, true}},
	} {
		out := mustCall(t, w, groupCall{what: callCpus, group: c.group, n: c.set})
		for cpu, ended := range c.ended {
			want := w.Cpus[cpu]
			if ended {
				want = none
			}
			wantCpu(t, "the group "+strconv.Itoa(c.group)+", set "+strconv.Itoa(c.set)+": "+strconv.Itoa(cpu), out.Cpus[cpu], want)
		}
	}
}

// A quota is all in the pool, for the period that begins now; none of both takes it away. Nothing else is changed.
func TestGroupLimit(t *testing.T) {
	for cpus := 1; cpus <= cpuLimit; cpus++ {
		for _, quota := range []int{1, 19, 20, 21, 10000} {
			for _, period := range []int{1, 2, 999, 1000} {
				w := groupedWorld(cpus, 0, 1)
				w.Now = 12345
				putReady(w, 0, 2, 0, 0, 0)
				modelSettle(w)
				w = mustRun(t, w, 0, 10)
				out := mustCall(t, w, groupCall{what: callLimit, group: 1, n: quota, period: period})
				want := cloneWorld(w)
				g := &want.Groups[1]
				g.Band = impl.Band{Quota: quota, Pool: quota, Locals: make([]int, cpus), Dry: make([]bool, cpus)}
				g.Period, g.Next = period, 12345+period
				if !sameWorld(out, want) {
					t.Errorf("%d in %d: %+v", quota, period, out)
				}
				if gone := mustCall(t, out, groupCall{what: callLimit, group: 1}); !sameWorld(gone, w) {
					t.Errorf("%d in %d, taken away: %+v", quota, period, gone)
				}
			}
		}
	}
}

// A quota that is set anew is all there again, whatever was spent and wherever the rest lay; who was dry goes on, from the floor at least.
func TestGroupLimitAnew(t *testing.T) {
	w := groupedWorld(2, 0)
	limitTo(w, 1, 30)
	putReady(w, 0, 1, 0, 0, 0)
	putReady(w, 1, 1, 1, 0, 0)
	putReady(w, 2, 0, 0, 0, 0)
	modelSettle(w)
	w = mustRun(t, w, 1, 5)
	w.Now += 7
	some := mustCall(t, w, groupCall{what: callLimit, group: 1, n: 25, period: 3})
	if b := some.Groups[1].Band; b.Quota != 25 || b.Pool != 25 || b.Spent != 0 || b.Locals[1] != 0 || some.Groups[1].Next != 10 || some.Groups[1].Period != 3 {
		t.Errorf("spent in part: %+v", some.Groups[1])
	}
	wantCpu(t, "spent in part", some.Cpus[1], w.Cpus[1])
	for range 3 {
		w = mustRun(t, mustRun(t, w, 0, 100), 1, 100)
	}
	floor := w.Groups[0].Shelves[0].Floor
	if !w.Groups[1].Band.Dry[0] || !w.Groups[1].Band.Dry[1] || floor == 0 {
		t.Fatalf("not dry: %+v", w)
	}
	for _, c := range []groupCall{{what: callLimit, group: 1}, {what: callLimit, group: 1, n: 1, period: 1}, {what: callLimit, group: 1, n: 30, period: 1000}} {
		out := mustCall(t, w, c)
		for cpu := range 2 {
			if impl.WorldDry(out, 1, cpu) || !impl.WorldLine(out, cpu) || !out.Groups[1].Shelves[cpu].On {
				t.Errorf("%+v: on %d: %+v", c, cpu, out.Groups[1])
			}
		}
		if s := out.Groups[1].Shelves[0]; s.V != floor {
			t.Errorf("%+v: at %d, the floor is at %d", c, s.V, floor)
		}
	}
}

// Behind a quota's end its group gets what it likes.
func TestGroupLimitTakenAway(t *testing.T) {
	w := nestedWorld(20, 30)
	w = mustRun(t, w, 0, 100)
	wantCpu(t, "at first", w.Cpus[0], impl.Cpu{Up: true, Cur: -1, Busy: 20, Idle: 80})
	w = mustRun(t, mustCall(t, w, groupCall{what: callLimit, group: 1}), 0, 100)
	wantCpu(t, "the outer one gone", w.Cpus[0], impl.Cpu{Up: true, Cur: -1, Busy: 30, Idle: 170})
	w = mustRun(t, mustCall(t, w, groupCall{what: callLimit, group: 2}), 0, 100)
	wantCpu(t, "both gone", w.Cpus[0], impl.Cpu{Up: true, Cur: 3, Ran: 100, Busy: 130, Idle: 170})
}

// All calls but those that make and drop settle at their end; these leave all else as it is.
func TestGroupCallsSettle(t *testing.T) {
	w := unusedWorld()
	w.Groups[2] = groupedWorld(2, 0, 0).Groups[2]
	putReady(w, 1, 0, 0, 0, 9)
	if !impl.WorldOk(w) || isSettled(w) {
		t.Fatalf("%v", worldFaults(w))
	}
	for _, c := range []groupCall{
		{what: callWeigh, group: 1, n: 10}, {what: callWeigh, group: 2, n: 1}, {what: callCpus, group: 1, n: 15}, {what: callCpus, group: 2, n: 1},
		{what: callLimit, group: 2}, {what: callLimit, group: 2, n: 1, period: 1}, {what: callTime, n: 1}, {what: callTime, n: 1000},
	} {
		if out := mustCall(t, w, c); !isSettled(out) || out.Groups[1].Band.Locals[1] != 0 {
			t.Errorf("%+v: %+v", c, out)
		}
	}
	out := mustCall(t, w, groupCall{what: callDrop, group: 2})
	want := cloneWorld(w)
	want.Groups[2] = impl.Group{}
	if !sameWorld(out, want) {
		t.Errorf("drop: %+v", out)
	}
}
