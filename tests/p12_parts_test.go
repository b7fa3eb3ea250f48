package tests

import (
	"slices"
	"testing"

	"loop.example/stint/impl"
)

// wantInParts holds items against the promise: in two parts, cut at a place, they come to the same as at once, world and codes.
func wantInParts(t *testing.T, w impl.World, items []impl.Item, cut int) {
	t.Helper()
	want, wantCodes := impl.WorldGo(w, items)
	first, codes := impl.WorldGo(w, items[:cut])
	got, more := impl.WorldGo(first, items[cut:])
	if all := slices.Concat(codes, more); !sameWorld(got, want) || !slices.Equal(all, wantCodes) {
		t.Fatalf("%+v, cut at %d: %v, %+v, at once %v, %+v: %+v", items, cut, all, got, wantCodes, want, w)
	}
}

// P12: of thrown worlds, and of what are none, at all places where a play may be cut.
func TestPartsComeToTheSame(t *testing.T) {
	t.Parallel()
	d := &dice{state: 12}
	broken := brokenWorlds()
	for round := range 120 {
		w := thrownToPlay(d)
		var items []impl.Item
		playOn(d, w, d.oneOf(0, 1, 5, 30), refusableItem, func(s itemStep) { items = append(items, s.item) })
		for cut := range len(items) + 1 {
			wantInParts(t, w, items, cut)
		}
		wantInParts(t, broken[round%len(broken)].world, items, len(items)/2)
	}
}

// P12: of plays of PlayMax items on new worlds, cut in two, or in many; the first part may be a play by itself.
func TestPartsOfLongPlays(t *testing.T) {
	t.Parallel()
	d := &dice{state: 1212}
	for round := range 24 {
		cpus := 1 + round%cpuLimit
		start, _ := impl.WorldNew(cpus)
		var items []impl.Item
		playOn(d, start, playLimit, refusableItem, func(s itemStep) { items = append(items, s.item) })
		want, wantCodes := impl.WorldPlay(cpus, items)
		for _, cut := range []int{0, 1, d.below(playLimit), playLimit - 1, playLimit} {
			wantInParts(t, start, items, cut)
			first, codes := impl.WorldPlay(cpus, items[:cut])
			got, more := impl.WorldGo(first, items[cut:])
			if !sameWorld(got, want) || !slices.Equal(slices.Concat(codes, more), wantCodes) {
				t.Fatalf("%d processors, cut at %d: %+v, want %+v", cpus, cut, got, want)
			}
		}
		w, codes := start, []int(nil)
		for part := range slices.Chunk(items, 1+d.below(50)) {
			out, more := impl.WorldGo(w, part)
			w, codes = out, append(codes, more...)
		}
		if !sameWorld(w, want) || !slices.Equal(codes, wantCodes) {
			t.Fatalf("%d processors, in many parts: %+v, want %+v", cpus, w, want)
		}
	}
}

// P12: more than PlayMax items are just to be had in parts: at once they are nothing.
func TestPartsOfTooManyItems(t *testing.T) {
	w := groupWorld()
	items := repeated(impl.Item{Kind: kindRun, N: 7}, playLimit+1)
	if out, codes := impl.WorldGo(w, items); !isNoWorld(out) || len(codes) != 0 {
		t.Errorf("%d codes, %+v", len(codes), out)
	}
	first, codes := impl.WorldGo(w, items[:playLimit])
	out, more := impl.WorldGo(first, items[playLimit:])
	if len(codes) != playLimit || len(more) != 1 || out.Cpus[0].Busy+out.Cpus[0].Idle != w.Cpus[0].Busy+w.Cpus[0].Idle+7*(playLimit+1) {
		t.Errorf("%d and %d codes, %+v", len(codes), len(more), out.Cpus)
	}
	wantInParts(t, w, items[:playLimit], 1)
	wantInParts(t, w, items[:playLimit], playLimit-1)
}

// P12: cut where something hangs on what was ahead: a stay, a quota that is taken from, a period, a place that is free for once, a processor that is away.
func TestPartsWhereTheyHangTogether(t *testing.T) {
	items := []impl.Item{
		{Kind: kindMake, Name: "a"}, {Kind: kindFork, At: 1, M: 15}, {Kind: kindFork, N: 3, M: 15}, {Kind: kindLimit, At: 1, N: 35, M: 10}, {Kind: kindRun, N: 30}, {Kind: kindRun, N: 10}, {Kind: kindRun, N: 100},
		{Kind: kindTime, N: 4}, {Kind: kindTime, N: 6}, {Kind: kindRun, N: 49}, {Kind: kindRun, N: 1}, {Kind: kindRun, N: 1}, {Kind: kindExit}, {Kind: kindFork, At: 1, N: -3, M: 2}, {Kind: kindOff, At: 1}, {Kind: kindRun, N: 20}, {Kind: kindOff},
		{Kind: kindOn, At: 1}, {Kind: kindBlock}, {Kind: kindRun, At: 1, N: 9}, {Kind: kindWake}, {Kind: kindBalance, At: 1}, {Kind: kindYield, At: 1}, {Kind: kindExit}, {Kind: kindDrop, At: 1}, {Kind: kindMake, Name: "b"}, {Kind: 0},
	}
	for cpus := 1; cpus <= cpuLimit; cpus++ {
		w, _ := impl.WorldNew(cpus)
		for cut := range len(items) + 1 {
			wantInParts(t, w, items, cut)
		}
	}
}
