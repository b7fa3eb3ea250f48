package tests

import (
	"slices"
	"strconv"
	"testing"

	"loop.example/stint/impl"
)

// isEmptyByPaths says whether no task is in a group, and no path leads through it.
func isEmptyByPaths(w impl.World, group int) bool {
	paths, _ := modelPaths(w.Groups)
	for at, path := range paths {
		if at != group && path != "" && isInPath(paths[group], path) {
			return false
		}
	}
	return !slices.ContainsFunc(w.Tasks, func(t impl.Task) bool { return t.State != impl.TaskNone && t.Group == group })
}

// wantDropped holds a drop against the promise: it is done just if the group is there, not the root, and empty; and all others stay.
func wantDropped(t *testing.T, w impl.World, group int) (impl.World, int) {
	t.Helper()
	out, code := impl.GroupDrop(w, group)
	may := group > 0 && group < groupLimit && w.Groups[group].Used && isEmptyByPaths(w, group) && impl.WorldRoom(w)
	if may != (code == impl.CodeDone) {
		t.Fatalf("the group %d: %d, but it may go: %v: %+v", group, code, may, w)
	}
	want := cloneWorld(w)
	if may {
		want.Groups[group] = impl.Group{}
	}
	if !sameWorld(out, want) || !impl.WorldOk(out) {
		t.Fatalf("the group %d: %d, %+v: %+v", group, code, out, w)
	}
	return out, code
}

// P41: of thrown worlds, with and without room, settled or not, each group, one behind the other.
func TestDropJustOfEmptyGroups(t *testing.T) {
	t.Parallel()
	d := &dice{state: 41}
	seen := map[int]int{}
	depths := map[int]int{}
	for range 3000 {
		w := thrownToGroup(d)
		for group := groupLimit; group >= -1; group-- {
			out, code := wantDropped(t, w, group)
			if seen[code]++; code == impl.CodeDone {
				depths[len(outOf(w.Groups, group))-1]++
				w = out
			}
		}
	}
	for _, code := range []int{impl.CodeDone, impl.CodeBad, impl.CodeNone, impl.CodeBusy, impl.CodeEnd} {
		if seen[code] < 200 {
			t.Errorf("codes %v: the drops try too little", seen)
		}
	}
	for depth := 1; depth <= depthLimit; depth++ {
		if depths[depth] < 100 {
			t.Errorf("depths %v: the drops try too little", depths)
		}
	}
}

// P41: a task that is in a group keeps it there, whatever it does, till it exits or goes to another one; so do all that it is in.
func TestDropOfAGroupWithATask(t *testing.T) {
	for depth := 1; depth <= depthLimit; depth++ {
		w := groupedWorld(2, 0, 1, 2)
		for g := depth + 1; g <= 3; g++ {
			w.Groups[g] = impl.Group{}
		}
		w, task, _ := impl.TaskFork(w, depth, 0, 2)
		states := map[string]impl.World{
			"ready": w, "current": mustRun(t, w, 1, 10), "blocked": mustCall(t, w, taskCall{what: callBlock, task: task}),
			"dry": mustRun(t, mustCall(t, w, groupCall{what: callLimit, group: 1, n: 5, period: 5}), 1, 10),
		}
		for name, is := range states {
			for g := 1; g <= depth; g++ {
				wantRefusedCall(t, name+" at depth "+strconv.Itoa(depth), is, groupCall{what: callDrop, group: g}, impl.CodeBusy)
			}
			for _, c := range []taskCall{{what: callExit, task: task}, {what: callMove, task: task, group: 0}} {
				free := mustCall(t, is, c)
				for g := depth; g >= 1; g-- {
					if g > 1 {
						wantRefusedCall(t, name+", "+c.what, free, groupCall{what: callDrop, group: 1}, impl.CodeBusy)
					}
					free, _ = wantDropped(t, free, g)
				}
				if left := slices.IndexFunc(free.Groups[1:], func(g impl.Group) bool { return g.Used }); left >= 0 {
					t.Errorf("%s, %s: %+v", name, c.what, free.Groups)
				}
			}
		}
	}
}

// P41: of groups one in the other, and side by side, just those go in which no group is.
func TestDropOfAGroupWithAGroup(t *testing.T) {
	for _, parents := range [][]int{{0}, {0, 1}, {0, 1, 2}, {0, 0, 0}, {0, 1, 1}, {2, 0}, {3, 1, 0}, {0, 1, 2, 2, 1, 0, 6}, {0, 0, 1, 2, 3, 4, 0}} {
		w := groupedWorld(1, parents...)
		for g := range parents {
			want := impl.CodeDone
			if slices.Contains(parents, g+1) {
				want = impl.CodeBusy
			}
			if _, code := wantDropped(t, w, g+1); code != want {
				t.Errorf("%v: the group %d: %d", parents, g+1, code)
			}
		}
		// From the inside out all of them go.
		for range parents {
			for g := range parents {
				if w.Groups[g+1].Used {
					w, _ = wantDropped(t, w, g+1)
				}
			}
		}
		if !sameWorld(w, emptyWorld(1)) {
			t.Errorf("%v: %+v", parents, w)
		}
	}
}

// P41: all that a group had goes with it, whatever that was; in its place another one begins anew.
func TestDropLeavesNothing(t *testing.T) {
	w := groupedWorld(2, 0)
	w, task, _ := impl.TaskFork(w, 1, 0, 3)
	for _, c := range []groupCall{{what: callWeigh, group: 1, n: 3}, {what: callCpus, group: 1, n: 2}, {what: callLimit, group: 1, n: 40, period: 9}} {
		w = mustCall(t, w, c)
	}
	w = mustCall(t, mustRun(t, w, 1, 50), taskCall{what: callMove, task: task})
	if g := w.Groups[1]; g.Sum != 40 || g.Band.Spent != 40 || g.Shelves[1].V == 0 || g.Shelves[1].Floor == 0 {
		t.Fatalf("%+v", g)
	}
	w, code := wantDropped(t, w, 1)
	if _, again := impl.GroupDrop(w, 1); code != impl.CodeDone || again != impl.CodeNone {
		t.Errorf("%d, then %d", code, again)
	}
	out, place, code := impl.GroupMake(w, 0, "g1")
	if want := groupedWorld(2, 0).Groups[1]; place != 1 || code != impl.CodeDone || !sameGroup(out.Groups[1], want) {
		t.Errorf("at %d, %d: %+v", place, code, out.Groups)
	}
}

// P41: a group that is made and dropped at once leaves the world as it was, settled or not.
func TestDropOfWhatWasMade(t *testing.T) {
	d := &dice{state: 411}
	for range 1000 {
		w := thrownToGroup(d)
		for parent := range groupLimit {
			made, place, code := impl.GroupMake(w, parent, "fresh")
			if code != impl.CodeDone {
				continue
			}
			if out, _ := wantDropped(t, made, place); !sameWorld(out, w) {
				t.Fatalf("in %d: %+v: %+v", parent, out, w)
			}
			if _, code := wantDropped(t, made, parent); code == impl.CodeDone {
				t.Fatalf("the parent %d goes: %+v", parent, w)
			}
		}
	}
}

// P41: the root, a place without a group, and anything of what is no world, do not go.
func TestDropOfWhatIsNoGroup(t *testing.T) {
	for _, w := range []impl.World{groupWorld(), handWorld(), emptyWorld(3)} {
		for _, group := range append([]int{-1, 0, 1, 4, 7, 8, 9, 64, 1 << 32, 1<<32 + 7}, farInts()...) {
			wantDropped(t, w, group)
		}
	}
	wantRefusedCall(t, "the root", emptyWorld(1), groupCall{what: callDrop}, impl.CodeBad)
	wantRefusedCall(t, "a free place", emptyWorld(1), groupCall{what: callDrop, group: 1}, impl.CodeNone)
	for _, c := range brokenWorlds() {
		for group := range groupLimit {
			if out, code := impl.GroupDrop(c.world, group); code != impl.CodeBad || !isNoWorld(out) {
				t.Errorf("%s: %d: %d, %+v", c.name, group, code, out)
			}
		}
	}
}
