package tests

import (
	"slices"
	"strconv"
	"testing"

	"loop.example/stint/impl"
)

// wantItemAsModel holds an item against the document's words on it, and an ok world against staying so.
func wantItemAsModel(t *testing.T, w impl.World, x impl.Item) (impl.World, int) {
	t.Helper()
	want, wantCode := modelItem(w, x)
	got, code := impl.WorldDo(w, x)
	if code != wantCode || !sameWorld(got, want) {
		t.Fatalf("%+v: %d, %+v, want %d, %+v: %+v", x, code, got, wantCode, want, w)
	}
	if impl.WorldOk(w) && !impl.WorldOk(got) {
		t.Fatalf("%+v: %v: %+v", x, worldFaults(got), w)
	}
	return got, code
}

// wantItemsAsModel holds items one behind the other against the document's words on them, and against as many by themselves.
func wantItemsAsModel(t *testing.T, w impl.World, items []impl.Item) (impl.World, []int) {
	t.Helper()
	want, wantCodes := modelItems(w, items)
	got, codes := impl.WorldGo(w, items)
	if !slices.Equal(codes, wantCodes) || !sameWorld(got, want) {
		t.Fatalf("%+v: %v, %+v, want %v, %+v: %+v", items, codes, got, wantCodes, want, w)
	}
	if len(codes) == 0 {
		return got, codes
	}
	one, at := w, 0
	for i, x := range items {
		if one, at = impl.WorldDo(one, x); at != codes[i] {
			t.Fatalf("%+v: the code %d is %d, by itself %d: %+v", items, i, codes[i], at, w)
		}
	}
	if !sameWorld(one, got) {
		t.Fatalf("%+v: %+v, one by one %+v: %+v", items, got, one, w)
	}
	return got, codes
}

// thrownToPlay is some world, settled or not, in which no part of a quota lies where nobody can use it.
func thrownToPlay(d *dice) impl.World {
	w := thrownToBalance(d)
	if d.below(2) == 0 {
		w = thrownWorld(d, d.oneOf(timeLimit, timeLimit/2, timeLimit/4, 20*unitStep, 20*unitStep))
	}
	spendUnused(w)
	return w
}

// spendUnused lets what lies of quotas where nobody can use it be spent; who is On, or dry, hangs on nothing of that.
func spendUnused(w impl.World) {
	for g := range w.Groups {
		b := &w.Groups[g].Band
		for cpu := range b.Locals {
			if len(standersOf(w, g, cpu)) == 0 {
				b.Spent, b.Locals[cpu] = b.Spent+b.Locals[cpu], 0
			}
		}
	}
}

// codesOfKinds are all codes that the document names for each kind, in worlds that are ok.
func codesOfKinds() map[int][]int {
	return map[int][]int{
		kindRun: {0, 1, 6, 10}, kindYield: {0, 1, 6}, kindFork: {0, 1, 2, 3, 10}, kindBlock: {0, 2, 6, 10}, kindWake: {0, 2, 6, 10}, kindExit: {0, 2, 10},
		kindNice: {0, 1, 2, 10}, kindPin: {0, 1, 2, 10}, kindMove: {0, 2, 10}, kindMake: {0, 1, 2, 3, 7, 9, 10}, kindDrop: {0, 1, 2, 4, 10}, kindWeigh: {0, 1, 2, 10},
		kindCpus: {0, 1, 2, 10}, kindLimit: {0, 1, 2, 10}, kindTime: {0, 1, 10}, kindBalance: {0, 1, 6, 10}, kindOff: {0, 1, 5, 6, 10}, kindOn: {0, 1, 6, 10}, 0: {1},
	}
}

// anyItem is some item, now and then of no kind, or at numbers that are none, with something in all fields.
func anyItem(d *dice, w impl.World) impl.Item {
	x := thrownItem(d, w)
	switch d.below(30) {
	case 0:
		x.Kind = noKinds()[d.below(len(noKinds()))]
	case 1:
		x.At = d.oneOf(-1, len(w.Cpus), groupLimit, taskLimit)
	case 2:
		x.N = d.oneOf(-11, 0, 16, 101, periodLimit+1)
	}
	return withOthers(d, x)
}

// Of thrown worlds, settled or not, with room and without, items of each kind do what their calls do, with each code that there is for them.
func TestItemsThrown(t *testing.T) {
	t.Parallel()
	d := &dice{state: 138}
	seen := map[[2]int]int{}
	for range 5000 {
		w := thrownToPlay(d)
		for range 12 {
			x := anyItem(d, w)
			out, code := wantItemAsModel(t, w, x)
			if callOf(x) == nil {
				x.Kind = 0
			}
			seen[[2]int{x.Kind, code}]++
			if d.below(2) == 0 {
				w = out
			}
		}
	}
	for kind, codes := range codesOfKinds() {
		for code := range 11 {
			switch n := seen[[2]int{kind, code}]; {
			case slices.Contains(codes, code) && n < 3:
				t.Errorf("the kind %d tells %d only %d times: the worlds try too little", kind, code, n)
			case !slices.Contains(codes, code) && n > 0:
				t.Errorf("the kind %d tells %d", kind, code)
			}
		}
	}
}

// Of thrown worlds, at numbers around all bounds and far beyond them, items of each kind do what their calls do.
func TestItemsThrownAtAnything(t *testing.T) {
	t.Parallel()
	d := &dice{state: 139}
	numbers := append([]int{-11, -10, -1, 0, 1, 2, 3, 4, 7, 8, 9, 10, 11, 12, 15, 16, 20, 21, 100, 101, 1000, 1001, 10000, 10001, 1 << 32}, farInts()...)
	pick := func() int { return numbers[d.below(len(numbers))] }
	for range 40 {
		w := thrownToPlay(d)
		for _, kind := range append(noKinds(), 1, 2, 3, 4, 5, 6, 7, 8, 9, 10, 11, 12, 13, 14, 15, 16, 17, 18) {
			for range 40 {
				x := impl.Item{Kind: kind, At: d.oneOf(pick(), d.below(13)), N: d.oneOf(pick(), d.below(16)), M: d.oneOf(pick(), 1+d.below(15))}
				x.Name = []string{"", "a", "zz", "stat", "123456789", "\x00", "é", w.Groups[d.below(groupLimit)].Name}[d.below(8)]
				wantItemAsModel(t, w, x)
			}
		}
	}
}

// Of thrown worlds, and of what are none, plays of all lengths come to what so many items do, one behind the other; what is refused in the midst changes nothing, and the rest is done.
func TestPlaysThrown(t *testing.T) {
	t.Parallel()
	d := &dice{state: 140}
	seen := map[string]int{}
	broken := brokenWorlds()
	for round := range 1000 {
		w := thrownToPlay(d)
		var items []impl.Item
		playOn(d, w, d.oneOf(0, 1, 2, 10, 40), anyItem, func(s itemStep) { items = append(items, s.item) })
		out, codes := wantItemsAsModel(t, w, items)
		if len(codes) != len(items) {
			t.Fatalf("%d codes of %d items", len(codes), len(items))
		}
		countRefused(items, codes, seen)
		if !sameWorld(out, w) {
			seen["another world"]++
		}
		wantItemsAsModel(t, broken[round%len(broken)].world, items)
	}
	for _, sight := range []string{"refused in the midst", "of no kind in the midst", "all done", "another world"} {
		if seen[sight] < 20 {
			t.Errorf("%s: %d times: the plays try too little", sight, seen[sight])
		}
	}
}

// countRefused counts what is refused between two that are done.
func countRefused(items []impl.Item, codes []int, seen map[string]int) {
	first, last := slices.Index(codes, 0), len(codes)-1
	for last >= 0 && codes[last] != 0 {
		last--
	}
	if first == 0 && len(codes) > 1 && !slices.ContainsFunc(codes, func(code int) bool { return code != 0 }) {
		seen["all done"]++
	}
	for i := first + 1; first >= 0 && i < last; i++ {
		if codes[i] != 0 && callOf(items[i]) == nil {
			seen["of no kind in the midst"]++
		} else if codes[i] != 0 {
			seen["refused in the midst"]++
		}
	}
}

// Plays of up to PlayMax items on new worlds of one to CpuMax processors: all kinds are done, at all depths, with quotas and without, while processors go and come.
func TestPlaysOfNewWorlds(t *testing.T) {
	t.Parallel()
	d := &dice{state: 141}
	seen := map[string]int{}
	for round := range 48 {
		cpus := 1 + round%cpuLimit
		start, _ := impl.WorldNew(cpus)
		var items []impl.Item
		playOn(d, start, d.oneOf(playLimit, playLimit, 1+d.below(playLimit)), anyItem, func(s itemStep) {
			items = append(items, s.item)
			seen["kind "+strconv.Itoa(s.item.Kind)+" code "+strconv.Itoa(s.code)]++
			worldSights(s.is, seen)
		})
		out, codes := wantItemsAsModel(t, start, items)
		played, told := impl.WorldPlay(cpus, items)
		if !sameWorld(played, out) || !slices.Equal(told, codes) {
			t.Fatalf("%d processors: %v, %+v, want %v, %+v", cpus, told, played, codes, out)
		}
	}
	sights := []string{
		"1 processors", "2 processors", "3 processors", "4 processors", "down", "dry", "blocked", "in line", "held back", "by its mask", "by its pins", "by the ups",
		"current at depth 0", "current at depth 1", "current at depth 2", "current at depth 3",
	}
	for kind := kindRun; kind <= kindOn; kind++ {
		sights = append(sights, "kind "+strconv.Itoa(kind)+" code 0")
	}
	for _, sight := range sights {
		if seen[sight] < 50 {
			t.Errorf("%s: %d times: the plays try too little", sight, seen[sight])
		}
	}
}

// Of small plays, all of up to three items of some that hang on one another: each comes to what the words say.
func TestAllSmallPlays(t *testing.T) {
	t.Parallel()
	few := []impl.Item{
		{Kind: kindFork, M: 15}, {Kind: kindFork, At: 1, N: -10, M: 2}, {Kind: kindMake, Name: "a"}, {Kind: kindLimit, At: 1, N: 25, M: 3}, {Kind: kindRun, N: 60}, {Kind: kindRun, At: 1, N: 100},
		{Kind: kindMove, N: 1}, {Kind: kindBlock}, {Kind: kindWake}, {Kind: kindTime, N: 3}, {Kind: kindOff, At: 1}, {Kind: kindBalance, At: 1}, {Kind: kindYield}, {Kind: 19}, {Kind: kindDrop, At: 1}, {Kind: kindExit},
	}
	starts := []impl.World{emptyWorld(2), limitedRival(30)}
	for _, w := range starts {
		for _, a := range few {
			for _, b := range few {
				wantItemsAsModel(t, w, []impl.Item{a, b})
				for _, c := range few {
					wantItemsAsModel(t, w, []impl.Item{a, b, c})
				}
			}
		}
	}
}
