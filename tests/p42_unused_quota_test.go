package tests

import (
	"slices"
	"strconv"
	"testing"

	"loop.example/stint/impl"
)

// readyWithin says whether a task that is ready on a processor is in a group or within it.
func readyWithin(w impl.World, group, cpu int) bool {
	for _, x := range w.Tasks {
		if x.State == impl.TaskReady && x.Cpu == cpu && slices.Contains(outOf(w.Groups, x.Group), group) {
			return true
		}
	}
	return false
}

// wantNoneUnused holds a world against the promise: no group holds any quota on a processor on which no task in it is ready.
func wantNoneUnused(t *testing.T, s itemStep) {
	t.Helper()
	for g, group := range s.is.Groups {
		for cpu, local := range group.Band.Locals {
			if local != 0 && !readyWithin(s.is, g, cpu) {
				t.Fatalf("the group %d holds %d on %d: %s", g, local, cpu, s.text())
			}
		}
	}
}

// countReturns counts what brought a part of a quota back from a processor.
func countReturns(s itemStep, seen map[string]int) {
	for g, group := range s.was.Groups {
		for cpu, local := range group.Band.Locals {
			is := s.is.Groups[g].Band
			if local == 0 || s.code != impl.CodeDone || is.Quota == 0 || is.Locals[cpu] > 0 || is.Spent != group.Band.Spent {
				continue
			}
			if s.item.Kind != kindLimit && s.item.Kind != kindTime {
				seen["comes back by a "+strconv.Itoa(s.item.Kind)]++
			}
			if slices.Contains(group.Band.Dry, true) && !slices.Contains(is.Dry, true) {
				seen["who was dry goes on by it"]++
			}
			if len(outOf(s.was.Groups, g)) > 2 {
				seen["of an inner group"]++
			}
		}
	}
}

// leavingItem is some item; many take somebody who has just gone on away from where a part of a quota may lie.
func leavingItem(d *dice, w impl.World) impl.Item {
	cur := w.Cpus[d.below(len(w.Cpus))].Cur
	if cur < 0 || d.below(5) > 0 {
		return limitingItem(d, w)
	}
	switch x := w.Tasks[cur]; d.below(5) {
	case 0:
		return impl.Item{Kind: kindBlock, At: cur}
	case 1:
		return impl.Item{Kind: kindExit, At: cur}
	case 2:
		return impl.Item{Kind: kindPin, At: cur, N: max(1, everyCpu&^(1<<x.Cpu))}
	case 3:
		return impl.Item{Kind: kindMove, At: cur, N: d.below(groupLimit)}
	default:
		return impl.Item{Kind: kindCpus, At: x.Group, N: max(1, everyCpu&^(1<<x.Cpu))}
	}
}

// P42: of plays on new worlds, behind each item.
func TestNoQuotaLiesUnused(t *testing.T) {
	t.Parallel()
	d := &dice{state: 42}
	seen := map[string]int{}
	for round := range 400 {
		w := newWorld(d)
		if round%4 > 0 {
			w = builtWorld(d)
		}
		playOn(d, w, playLimit, leavingItem, func(s itemStep) {
			wantNoneUnused(t, s)
			countReturns(s, seen)
			for _, group := range s.is.Groups {
				if slices.ContainsFunc(group.Band.Locals, func(local int) bool { return local > 0 }) {
					seen["a part lies with a processor"]++
				}
			}
		})
	}
	sights := []string{"a part lies with a processor", "of an inner group", "who was dry goes on by it"}
	for _, kind := range []int{kindBlock, kindExit, kindPin, kindMove, kindCpus, kindOff, kindOn} {
		sights = append(sights, "comes back by a "+strconv.Itoa(kind))
	}
	for _, sight := range sights {
		if seen[sight] < 10 {
			t.Errorf("%s: %d times: the plays try too little: %v", sight, seen[sight], seen)
		}
	}
}

// unusedCase is what takes the last ready task from a group on a processor.
type unusedCase struct {
	name  string
	items []impl.Item
}

func unusedCases() []unusedCase {
	return []unusedCase{
		{"sleeps", []impl.Item{{Kind: kindBlock}}}, {"ends", []impl.Item{{Kind: kindExit}}}, {"is pinned elsewhere", []impl.Item{{Kind: kindPin, N: 2}}}, {"goes to the root", []impl.Item{{Kind: kindMove}}},
		{"its group is pinned elsewhere", []impl.Item{{Kind: kindCpus, At: 1, N: 2}}}, {"its processor goes", []impl.Item{{Kind: kindOff}}}, {"goes to another group", []impl.Item{{Kind: kindMove, N: 4}}},
		{"is taken over", []impl.Item{{Kind: kindPin, N: 15}, {Kind: kindYield}, {Kind: kindBalance, At: 1}}},
	}
}

// P42: whatever takes the last ready task from a group on a processor, at each depth, with quotas at all of them: all that lay there is in the pool again, and can be spent elsewhere to the unit.
func TestQuotaComesBack(t *testing.T) {
	for depth := 1; depth <= depthLimit; depth++ {
		for _, c := range unusedCases() {
			w := groupedWorld(2, 0, 1, 2, 0)
			putReady(w, 0, depth, 0, 0, 0)
			w.Tasks[0].Mask = 1
			modelSettle(w)
			w, _ = impl.WorldGo(w, []impl.Item{{Kind: kindLimit, At: 1, N: 50, M: 9}, {Kind: kindLimit, At: 2, N: 50, M: 9}, {Kind: kindLimit, At: 3, N: 50, M: 9}, {Kind: kindRun, N: 7}})
			if b := w.Groups[depth].Band; b.Locals[0] != 13 || b.Pool != 30 {
				t.Fatalf("depth %d: %+v", depth, b)
			}
			out, codes := impl.WorldGo(w, c.items)
			wantNoneUnused(t, itemStep{was: w, is: out})
			for g := 1; g <= depth; g++ {
				if b := out.Groups[g].Band; slices.Max(codes) != impl.CodeDone || b.Locals[0] != 0 || b.Pool != 43 || b.Spent != 7 {
					t.Errorf("%s, depth %d: the group %d: %+v, %v", c.name, depth, g, b, codes)
				}
			}
			out, _ = impl.WorldGo(out, []impl.Item{{Kind: kindFork, At: depth, M: 2}, {Kind: kindRun, At: 1, N: 100}, {Kind: kindYield, At: 1}, {Kind: kindRun, At: 1, N: 100}, {Kind: kindYield, At: 1}, {Kind: kindRun, At: 1, N: 100}})
			if got := out.Groups[depth].Sum; got != 50 {
				t.Errorf("%s, depth %d: %d of 50", c.name, depth, got)
			}
		}
	}
}

// P42: as long as another task of the group is ready there, also further within it, what lies there stays.
func TestQuotaStaysWhereItIsUsed(t *testing.T) {
	for depth := 1; depth <= depthLimit; depth++ {
		for other := depth; other <= depthLimit; other++ {
			w := groupedWorld(2, 0, 1, 2)
			putReady(w, 0, depth, 0, 0, 0)
			putReady(w, 1, other, 0, 9, 5)
			modelSettle(w)
			w, _ = impl.WorldGo(w, []impl.Item{{Kind: kindLimit, At: depth, N: 60, M: 9}, {Kind: kindRun, N: 7}, {Kind: kindBlock}})
			wantNoneUnused(t, itemStep{is: w})
			if b := w.Groups[depth].Band; b.Locals[0] != 13 || b.Pool != 40 {
				t.Errorf("depth %d, another one at %d: %+v", depth, other, b)
			}
			w, _ = impl.WorldDo(w, impl.Item{Kind: kindBlock, At: 1})
			wantNoneUnused(t, itemStep{is: w})
			if b := w.Groups[depth].Band; b.Locals[0] != 0 || b.Pool != 53 {
				t.Errorf("depth %d, nobody: %+v", depth, b)
			}
		}
	}
}

// P42: what comes back lets those go on who were dry elsewhere, and they can spend it.
func TestQuotaThatComesBackIsSpent(t *testing.T) {
	w := groupedWorld(2, 0)
	putReady(w, 0, 1, 0, 0, 0)
	putReady(w, 1, 1, 1, 0, 0)
	w.Tasks[0].Mask, w.Tasks[1].Mask = 1, 2
	modelSettle(w)
	w, _ = impl.WorldGo(w, []impl.Item{{Kind: kindLimit, At: 1, N: 30, M: 9}, {Kind: kindRun, N: 1}, {Kind: kindRun, At: 1, N: 100}})
	if !impl.WorldDry(w, 1, 1) || w.Tasks[1].Sum != 10 {
		t.Fatalf("%+v", w)
	}
	w, _ = impl.WorldGo(w, []impl.Item{{Kind: kindBlock}, {Kind: kindRun, At: 1, N: 100}})
	if w.Tasks[1].Sum != 29 || w.Groups[1].Sum != 30 || !impl.WorldDry(w, 1, 1) {
		t.Errorf("%+v", w)
	}
}

// P42: what is refused leaves what lies there, and a play that is none holds nothing.
func TestQuotaLiesAsItWasWhenRefused(t *testing.T) {
	w := greedyWorld(2)
	w, _ = impl.WorldGo(w, []impl.Item{{Kind: kindLimit, At: 1, N: 50, M: 9}, {Kind: kindBlock, At: 1}, {Kind: kindRun, N: 3}})
	if w.Groups[1].Band.Locals[0] != 17 {
		t.Fatalf("%+v", w.Groups[1])
	}
	for _, x := range []impl.Item{{Kind: kindBlock, At: 12}, {Kind: kindPin, N: 16}, {Kind: kindMove, N: 7}, {Kind: kindOff, At: 2}, {Kind: kindCpus, At: 1, N: 0}, {Kind: 0}} {
		s := itemStep{was: w, item: x}
		if s.is, s.code = impl.WorldDo(w, x); s.code == impl.CodeDone || s.is.Groups[1].Band.Locals[0] != 17 {
			t.Error(s.text())
		}
		wantNoneUnused(t, s)
	}
}
