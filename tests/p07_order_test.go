package tests

import (
	"slices"
	"testing"

	"loop.example/stint/impl"
)

// withoutQuotas is a world in which no group has a quota, settled or not as it was.
func withoutQuotas(w impl.World) impl.World {
	w = cloneWorld(w)
	dry := false
	for g := range w.Groups {
		group := &w.Groups[g]
		dry = dry || slices.Contains(group.Band.Dry, true)
		group.Band, group.Period, group.Next = impl.Band{}, 0, 0
	}
	if dry {
		// Who was dry is to be On now, or it is no world.
		modelSettle(w)
	}
	return w
}

// wantEitherOrder holds runs, each of another processor, against the promise: in all orders they come to the same world.
func wantEitherOrder(t *testing.T, w impl.World, runs []impl.Item) impl.World {
	t.Helper()
	want, wantCodes := impl.WorldGo(w, runs)
	for _, order := range orders(len(runs)) {
		var items []impl.Item
		var told []int
		for _, at := range order {
			items, told = append(items, runs[at]), append(told, wantCodes[at])
		}
		if got, codes := impl.WorldGo(w, items); !sameWorld(got, want) || !slices.Equal(codes, told) {
			t.Fatalf("%+v: %v, %+v; %+v: %v, %+v: %+v", runs, wantCodes, want, items, codes, got, w)
		}
	}
	return want
}

// P7: of thrown worlds without quotas, settled or not: two runs of any two processors, and one of each processor.
func TestEitherGoesOnFirst(t *testing.T) {
	t.Parallel()
	d := &dice{state: 7}
	seen := map[string]int{}
	for range 3000 {
		w := withoutQuotas(thrownToPlay(d))
		if !impl.WorldRoom(w) || modelLatest(w) > timeLimit/2-400*unitStep {
			// Who goes on first may leave no room for the other one then.
			continue
		}
		var all []impl.Item
		for cpu := range w.Cpus {
			all = append(all, impl.Item{Kind: kindRun, At: cpu, N: d.oneOf(1, 49, 50, 100, 1+d.below(tickLimit))})
		}
		if isSettled(w) {
			seen["settled"]++
		} else {
			seen["not settled"]++
		}
		for a := range all {
			for b := range a {
				wantEitherOrder(t, w, []impl.Item{all[a], all[b]})
				seen["two"]++
			}
		}
		if is := wantEitherOrder(t, w, all); len(all) > 2 {
			seen["more"]++
			countRan(w, is, seen)
		}
	}
	for _, sight := range []string{"settled", "not settled", "two", "more", "all go on", "some idle", "some down"} {
		if seen[sight] < 50 {
			t.Errorf("%s: %d times: the worlds try too little", sight, seen[sight])
		}
	}
}

// modelLatest is the greatest of all times, sums and floors that WorldRoom looks at.
func modelLatest(w impl.World) int {
	latest := w.Now
	for _, c := range w.Cpus {
		latest = max(latest, c.Busy, c.Idle)
	}
	for _, x := range w.Tasks {
		latest = max(latest, x.V, x.Sum, x.Used)
	}
	for _, g := range w.Groups {
		latest = max(latest, g.Sum)
		for _, s := range g.Shelves {
			latest = max(latest, s.Floor, s.V, s.Sum)
		}
	}
	return latest
}

func countRan(was, is impl.World, seen map[string]int) {
	busy, idle, down := 0, 0, 0
	for cpu, c := range is.Cpus {
		switch {
		case !c.Up:
			down++
		case c.Busy > was.Cpus[cpu].Busy:
			busy++
		default:
			idle++
		}
	}
	switch {
	case down > 0:
		seen["some down"]++
	case idle > 0 && busy > 0:
		seen["some idle"]++
	case idle == 0:
		seen["all go on"]++
	}
}

// P7: many runs of all processors, in turns or one processor behind the other: as long as each has the same runs in the same order, it is one world.
func TestManyRunsInAnyOrder(t *testing.T) {
	d := &dice{state: 77}
	for range 60 {
		w := withoutQuotas(crowdedWorld(2 + d.below(3)))
		modelSettle(w)
		var inTurns []impl.Item
		for range 90 {
			inTurns = append(inTurns, impl.Item{Kind: kindRun, At: d.below(len(w.Cpus)), N: 1 + d.below(tickLimit)})
		}
		want, _ := impl.WorldGo(w, inTurns)
		for range 4 {
			items := slices.Clone(inTurns)
			switch d.below(3) {
			case 0:
				slices.SortStableFunc(items, func(a, b impl.Item) int { return a.At - b.At })
			case 1:
				slices.SortStableFunc(items, func(a, b impl.Item) int { return b.At - a.At })
			default:
				for range 2000 {
					if i := 1 + d.below(len(items)-1); items[i].At != items[i-1].At {
						items[i], items[i-1] = items[i-1], items[i]
					}
				}
			}
			if got, codes := impl.WorldGo(w, items); !sameWorld(got, want) || slices.Max(codes) != impl.CodeDone {
				t.Fatalf("%+v: %+v, want %+v: %+v", items, got, want, w)
			}
		}
	}
}

// P7: of two processors with up to two tasks each, in the root and in a group that is on both, at all pairs of some numbers of units.
func TestEitherOrderOfSmallWorlds(t *testing.T) {
	for set := range 81 {
		w := groupedWorld(2, 0)
		for at, kind := 0, set; at < 4; at, kind = at+1, kind/3 {
			if kind%3 > 0 {
				putReady(w, at, kind%3-1, at%2, at, 0)
			}
		}
		modelSettle(w)
		for _, a := range []int{1, 49, 50, 51, 100} {
			for _, b := range []int{1, 50, 99} {
				out := wantEitherOrder(t, w, []impl.Item{{Kind: kindRun, N: a}, {Kind: kindRun, At: 1, N: b}})
				wantEitherOrder(t, out, []impl.Item{{Kind: kindRun, N: b}, {Kind: kindRun, At: 1, N: a}})
			}
		}
	}
}

// P7: a run that is refused makes no difference either; what is refused hangs on that run alone.
func TestEitherOrderOfWhatIsRefused(t *testing.T) {
	for _, w := range []impl.World{withoutQuotas(crowdedWorld(3)), roomyWorld(), handWorld()} {
		for _, a := range []impl.Item{{At: 0, N: 0}, {At: 0, N: 101}, {At: 3, N: 5}, {At: -1, N: 5}, {At: 64, N: -5}} {
			a.Kind = kindRun
			for _, n := range []int{0, 1, 100, 101} {
				wantEitherOrder(t, withoutQuotas(w), []impl.Item{a, {Kind: kindRun, At: 1, N: n}})
			}
		}
	}
}

// P7 speaks of two runs that are done: up to the last units for which there is room either may be first; where the first one leaves none, the other one is refused, as of all calls.
func TestEitherOrderAtTheEndOfTime(t *testing.T) {
	const half = timeLimit / 2
	runs := []impl.Item{{Kind: kindRun, N: 60}, {Kind: kindRun, At: 1, N: 40}}
	for sum, code := range map[int]int{half - 60: impl.CodeDone, half - 59: impl.CodeEnd} {
		w := groupedWorld(2, 0)
		putReady(w, 0, 0, 0, 0, 0)
		putReady(w, 1, 0, 1, 0, 0)
		w.Groups[0].Sum = sum
		modelSettle(w)
		out, codes := impl.WorldGo(w, runs)
		if !slices.Equal(codes, []int{impl.CodeDone, code}) {
			t.Errorf("%v: %+v", codes, out)
		}
		if code == impl.CodeDone {
			wantEitherOrder(t, w, runs)
		}
	}
	over := groupedWorld(2, 0)
	over.Groups[0].Sum = half + 1
	wantEitherOrder(t, over, runs)
}
