package tests

import (
	"slices"
	"testing"

	"loop.example/stint/impl"
)

// wantWhereAllMay holds a world behind an item against the promise, word by word.
func wantWhereAllMay(t *testing.T, s itemStep) {
	t.Helper()
	if !impl.WorldOk(s.is) || !modelWorldOk(s.is) {
		t.Fatalf("not ok: %v: %s", worldFaults(s.is), s.text())
	}
	for cpu, c := range s.is.Cpus {
		if c.Cur < 0 {
			continue
		}
		x := s.is.Tasks[c.Cur]
		if !c.Up || x.State != impl.TaskReady || x.Cpu != cpu || !impl.WorldLine(s.is, c.Cur) {
			t.Fatalf("%+v is current on %d: %s", x, cpu, s.text())
		}
		for _, g := range outOf(s.is.Groups, x.Group) {
			if impl.WorldDry(s.is, g, cpu) {
				t.Fatalf("%d is current on %d, where the group %d is dry: %s", c.Cur, cpu, g, s.text())
			}
		}
	}
	for at, x := range s.is.Tasks {
		if x.State != impl.TaskNone && (!slices.Contains(modelWhere(s.is, x.Mask, x.Group), x.Cpu) || !impl.MaskHas(impl.WorldMask(s.is, at), x.Cpu)) {
			t.Fatalf("the task %d is on %d: %s", at, x.Cpu, s.text())
		}
	}
}

// P2: of plays on new worlds, behind each item: all kinds, at all depths, with quotas and without, while processors go and come.
func TestNobodyRunsWhereTheyMayNot(t *testing.T) {
	t.Parallel()
	d := &dice{state: 2}
	seen := map[string]int{}
	for range 120 {
		playOn(d, newWorld(d), playLimit, anyItem, func(s itemStep) {
			wantWhereAllMay(t, s)
			worldSights(s.is, seen)
			countEnded(s, seen)
		})
	}
	for _, sight := range []string{
		"1 processors", "2 processors", "3 processors", "4 processors", "down", "dry", "blocked", "in line", "held back", "by its mask", "by its pins", "by the ups",
		"current at depth 0", "current at depth 1", "current at depth 2", "current at depth 3",
		"current goes elsewhere", "current sleeps", "current ends", "the processor of who is current goes", "current is held back",
	} {
		if seen[sight] < 50 {
			t.Errorf("%s: %d times: the plays try too little", sight, seen[sight])
		}
	}
}

// countEnded counts who was current and may not be any more.
func countEnded(s itemStep, seen map[string]int) {
	for cpu, c := range s.was.Cpus {
		if c.Cur < 0 || s.is.Cpus[cpu].Cur == c.Cur {
			continue
		}
		switch x := s.is.Tasks[c.Cur]; {
		case !s.is.Cpus[cpu].Up:
			seen["the processor of who is current goes"]++
		case x.State == impl.TaskNone:
			seen["current ends"]++
		case x.State == impl.TaskBlocked:
			seen["current sleeps"]++
		case x.Cpu != cpu:
			seen["current goes elsewhere"]++
		case !impl.WorldLine(s.is, c.Cur):
			seen["current is held back"]++
		}
	}
}

// P2: of thrown worlds, settled or not, with room and without, behind each item.
func TestNobodyRunsWhereTheyMayNotInThrownWorlds(t *testing.T) {
	t.Parallel()
	d := &dice{state: 2002}
	settled := 0
	for range 2500 {
		w := thrownToPlay(d)
		if isSettled(w) {
			settled++
		}
		playOn(d, w, 12, anyItem, func(s itemStep) { wantWhereAllMay(t, s) })
	}
	if settled < 500 || settled > 2000 {
		t.Errorf("%d of 2500 are settled: the worlds try too little", settled)
	}
}

// P2: also where a part of a quota lies unused, as no call leaves it: behind every item but a run at once, and behind a run as well, once something has settled the world.
func TestNobodyRunsWhereTheyMayNotWithUnusedQuota(t *testing.T) {
	t.Parallel()
	d := &dice{state: 2003}
	unused := 0
	for range 4000 {
		w := thrownWorld(d, d.oneOf(timeLimit/2, 20*unitStep))
		if !liesUnused(w) {
			continue
		}
		unused++
		x := anyItem(d, w)
		for x.Kind == kindRun {
			x = anyItem(d, w)
		}
		playOn(d, w, 1, func(*dice, impl.World) impl.Item { return x }, func(s itemStep) { wantWhereAllMay(t, s) })
		settled, code := impl.WorldDo(w, impl.Item{Kind: kindTime, N: 1})
		if code == impl.CodeDone {
			playOn(d, settled, 3, anyItem, func(s itemStep) { wantWhereAllMay(t, s) })
		}
	}
	if unused < 500 {
		t.Errorf("%d worlds: they try too little", unused)
	}
}

// P2: whoever is current, at each depth, and what takes that from them: behind each of these nobody is current there, and who was is where they may be.
func TestWhoIsCurrentLeaves(t *testing.T) {
	for depth := range depthLimit + 1 {
		w := groupedWorld(2, []int{0, 1, 2}[:depth]...)
		for at := range 3 {
			putReady(w, at, depth, at%2, 0, 0)
		}
		modelSettle(w)
		goOnWith(w, 0)
		if w.Cpus[0].Cur != 0 {
			t.Fatalf("depth %d: %+v", depth, w.Cpus)
		}
		items := []impl.Item{{Kind: kindYield}, {Kind: kindBlock}, {Kind: kindExit}, {Kind: kindPin, N: 2}, {Kind: kindOff}}
		if depth > 0 {
			items = append(items, impl.Item{Kind: kindCpus, At: depth, N: 2}, impl.Item{Kind: kindCpus, At: 1, N: 2}, impl.Item{Kind: kindMove})
		}
		for _, x := range items {
			playOn(nil, w, 1, func(*dice, impl.World) impl.Item { return x }, func(s itemStep) {
				wantWhereAllMay(t, s)
				if s.code != impl.CodeDone || s.is.Cpus[0].Cur != -1 {
					t.Errorf("depth %d: %s", depth, s.text())
				}
			})
		}
	}
}

// P2: a quota that ends in the midst of a run holds back who was current, at the depth where it is and below it.
func TestWhoIsCurrentIsHeldBack(t *testing.T) {
	for depth := 1; depth <= depthLimit; depth++ {
		for limited := 1; limited <= depth; limited++ {
			for _, quota := range []int{1, 20, 21, 99, 100} {
				w := groupedWorld(2, []int{0, 1, 2}[:depth]...)
				putReady(w, 0, depth, 0, 0, 0)
				modelSettle(w)
				items := []impl.Item{{Kind: kindRun, N: 5}, {Kind: kindLimit, At: limited, N: quota, M: 7}, {Kind: kindRun, N: 100}, {Kind: kindRun, N: 1}, {Kind: kindTime, N: 7}, {Kind: kindRun, N: quota}, {Kind: kindRun, N: 1}}
				i := 0
				end := playOn(nil, w, len(items), func(*dice, impl.World) impl.Item { i++; return items[i-1] }, func(s itemStep) { wantWhereAllMay(t, s) })
				if end.Tasks[0].Sum != 5+2*quota || end.Cpus[0].Cur != -1 || !impl.WorldDry(end, limited, 0) {
					t.Errorf("depth %d, %d of the group %d: %+v", depth, quota, limited, end)
				}
			}
		}
	}
}

// P2: a task is where it may be whatever is pinned, to all sets, of itself and of its groups, whoever is up.
func TestAllPinsLeaveAPlace(t *testing.T) {
	t.Parallel()
	for up := 1; up <= everyCpu; up++ {
		w := groupedWorld(4, 0)
		putReady(w, 0, 1, 0, 0, 0)
		putReady(w, 1, 1, 0, 0, 0)
		w.Tasks[1].State = impl.TaskBlocked
		modelSettle(w)
		for cpu := range cpuLimit {
			if up>>cpu&1 == 0 {
				w, _ = impl.WorldDo(w, impl.Item{Kind: kindOff, At: cpu})
			}
		}
		for mask := 1; mask <= everyCpu; mask++ {
			for pins := 1; pins <= everyCpu; pins++ {
				items := []impl.Item{{Kind: kindPin, N: mask}, {Kind: kindPin, At: 1, N: mask}, {Kind: kindCpus, At: 1, N: pins}, {Kind: kindRun, At: 3, N: 10}, {Kind: kindWake, At: 1}, {Kind: kindFork, At: 1, M: mask}}
				i := 0
				playOn(nil, w, len(items), func(*dice, impl.World) impl.Item { i++; return items[i-1] }, func(s itemStep) { wantWhereAllMay(t, s) })
			}
		}
	}
}

// P2: of what is refused the world is as it was, so still ok; of what is no world nothing is given, and nobody runs in nothing.
func TestNobodyRunsInNothing(t *testing.T) {
	for _, broken := range brokenWorlds() {
		for kind := kindRun; kind <= kindOn; kind++ {
			if out, code := impl.WorldDo(broken.world, impl.Item{Kind: kind, N: 1, M: 1, Name: "a"}); code != impl.CodeBad || !isNoWorld(out) {
				t.Errorf("%s: the kind %d: %d, %+v", broken.name, kind, code, out)
			}
		}
	}
	for _, w := range []impl.World{groupWorld(), crowdedWorld(4)} {
		for _, kind := range noKinds() {
			playOn(nil, w, 1, func(*dice, impl.World) impl.Item { return impl.Item{Kind: kind} }, func(s itemStep) { wantWhereAllMay(t, s) })
		}
	}
}
