package tests

import (
	"fmt"
	"slices"
	"testing"

	"loop.example/stint/impl"
)

// The numbers stand in items that others write, so each is what the document says.
func TestItemNumbers(t *testing.T) {
	got := []int{
		impl.PlayMax, impl.ItemRun, impl.ItemYield, impl.ItemFork, impl.ItemBlock, impl.ItemWake, impl.ItemExit, impl.ItemNice, impl.ItemPin, impl.ItemMove,
		impl.ItemMake, impl.ItemDrop, impl.ItemWeigh, impl.ItemCpus, impl.ItemLimit, impl.ItemTime, impl.ItemBalance, impl.ItemOff, impl.ItemOn,
	}
	if want := []int{400, 1, 2, 3, 4, 5, 6, 7, 8, 9, 10, 11, 12, 13, 14, 15, 16, 17, 18}; !slices.Equal(got, want) {
		t.Errorf("%v, want %v", got, want)
	}
}

// itemCase is an item and the call that the chapter names for it.
type itemCase struct {
	item impl.Item
	call func(w impl.World) (impl.World, int)
}

// withoutPlace is a call that makes something, but for the place that it tells.
func withoutPlace(call func(w impl.World) (impl.World, int, int)) func(w impl.World) (impl.World, int) {
	return func(w impl.World) (impl.World, int) {
		out, _, code := call(w)
		return out, code
	}
}

// itemCases are items of each kind at these numbers, whatever comes of them, written out call by call.
func itemCases(at, n, m int, name string) []itemCase {
	item := func(kind int) impl.Item { return impl.Item{Kind: kind, At: at, N: n, M: m, Name: name} }
	type w = impl.World
	return []itemCase{
		{item(1), func(w w) (w, int) { return impl.WorldRun(w, at, n) }},
		{item(2), func(w w) (w, int) { return impl.WorldYield(w, at) }},
		{item(3), withoutPlace(func(w w) (w, int, int) { return impl.TaskFork(w, at, n, m) })},
		{item(4), func(w w) (w, int) { return impl.TaskBlock(w, at) }},
		{item(5), func(w w) (w, int) { return impl.TaskWake(w, at) }},
		{item(6), func(w w) (w, int) { return impl.TaskExit(w, at) }},
		{item(7), func(w w) (w, int) { return impl.TaskNice(w, at, n) }},
		{item(8), func(w w) (w, int) { return impl.TaskPin(w, at, n) }},
		{item(9), func(w w) (w, int) { return impl.TaskMove(w, at, n) }},
		{item(10), withoutPlace(func(w w) (w, int, int) { return impl.GroupMake(w, at, name) })},
		{item(11), func(w w) (w, int) { return impl.GroupDrop(w, at) }},
		{item(12), func(w w) (w, int) { return impl.GroupWeigh(w, at, n) }},
		{item(13), func(w w) (w, int) { return impl.GroupPin(w, at, n) }},
		{item(14), func(w w) (w, int) { return impl.GroupLimit(w, at, n, m) }},
		{item(15), func(w w) (w, int) { return impl.TimePass(w, n) }},
		{item(16), func(w w) (w, int) { return impl.CpuBalance(w, at) }},
		{item(17), func(w w) (w, int) { return impl.CpuOff(w, at) }},
		{item(18), func(w w) (w, int) { return impl.CpuOn(w, at) }},
	}
}

// Each kind is the call that the chapter names for it, its world and its code, done or refused; each is done at some of these numbers.
func TestItemsAreTheCalls(t *testing.T) {
	t.Parallel()
	d := &dice{state: 131}
	worlds := []impl.World{callWorld(), groupWorld(), handWorld(), roomyWorld(), crowdedWorld(4), crowdedWorld(1), emptyWorld(2), thrownSettled(d), thrownSettled(d)}
	worlds = append(worlds, brokenWorlds()[3].world, impl.World{})
	done := map[int]int{}
	for _, w := range worlds {
		for at := -1; at <= taskLimit; at++ {
			for _, n := range []int{-11, -10, -1, 0, 1, 6, 9, 15, 20, 100} {
				for _, m := range []int{0, 1, 12, 16} {
					for _, c := range itemCases(at, n, m, []string{"new", "a", "stat", ""}[(at+n+m+12)%4]) {
						want, wantCode := c.call(w)
						got, code := impl.WorldDo(w, c.item)
						if code != wantCode || !sameWorld(got, want) {
							t.Fatalf("%+v: %d, %+v, want %d, %+v: %+v", c.item, code, got, wantCode, want, w)
						}
						if code == impl.CodeDone {
							done[c.item.Kind]++
						}
					}
				}
			}
		}
	}
	for kind := kindRun; kind <= kindOn; kind++ {
		if done[kind] < 4 {
			t.Errorf("the kind %d is done %d times", kind, done[kind])
		}
	}
}

// doneItems are items that are done in groupWorld, one or more of each kind, each by itself.
func doneItems() []impl.Item {
	return []impl.Item{
		{Kind: 1, At: 0, N: 1}, {Kind: 1, At: 1, N: 100}, {Kind: 2, At: 1}, {Kind: 3, At: 2, N: 3, M: 9}, {Kind: 3, At: 0, N: -10, M: 1}, {Kind: 4, At: 1}, {Kind: 5, At: 3}, {Kind: 6, At: 1},
		{Kind: 7, At: 1, N: -10}, {Kind: 8, At: 1, N: 4}, {Kind: 9, At: 1, N: 6}, {Kind: 9, At: 4, N: 0}, {Kind: 10, At: 2, Name: "new"}, {Kind: 10, At: 0, Name: "b"}, {Kind: 11, At: 7},
		{Kind: 12, At: 1, N: 3}, {Kind: 13, At: 2, N: 4}, {Kind: 14, At: 5, N: 1, M: 1000}, {Kind: 14, At: 1}, {Kind: 15, N: 1}, {Kind: 15, N: 1000}, {Kind: 16, At: 0}, {Kind: 17, At: 1}, {Kind: 18, At: 3},
	}
}

// An item that looks at fewer fields than are set: the others make no difference.
func TestItemsLookAtTheirFieldsAlone(t *testing.T) {
	d := &dice{state: 132}
	w := groupWorld()
	for _, x := range doneItems() {
		want, code := impl.WorldDo(w, x)
		if code != impl.CodeDone || sameWorld(want, w) && x.Kind != kindBalance {
			t.Fatalf("%+v: %d", x, code)
		}
		for range 60 {
			y := withOthers(d, x)
			if got, code := impl.WorldDo(w, y); code != impl.CodeDone || !sameWorld(got, want) {
				t.Errorf("%+v: %d, %+v, want that of %+v: %+v", y, code, got, x, want)
			}
		}
	}
}

// Each field that an item looks at makes a difference: with another number there it is refused, or the world is another one.
func TestItemsLookAtAllTheirFields(t *testing.T) {
	w := groupWorld()
	for _, x := range []struct{ was, is impl.Item }{
		{impl.Item{Kind: 1, At: 0, N: 7}, impl.Item{Kind: 1, At: 1, N: 7}}, {impl.Item{Kind: 1, At: 0, N: 7}, impl.Item{Kind: 1, At: 0, N: 8}},
		{impl.Item{Kind: 2, At: 1}, impl.Item{Kind: 2, At: 0}},
		{impl.Item{Kind: 3, At: 0, M: 1}, impl.Item{Kind: 3, At: 1, M: 1}}, {impl.Item{Kind: 3, M: 1}, impl.Item{Kind: 3, N: 1, M: 1}}, {impl.Item{Kind: 3, M: 1}, impl.Item{Kind: 3, M: 2}},
		{impl.Item{Kind: 4, At: 1}, impl.Item{Kind: 4, At: 0}}, {impl.Item{Kind: 5, At: 3}, impl.Item{Kind: 5, At: 7}}, {impl.Item{Kind: 6, At: 1}, impl.Item{Kind: 6, At: 0}},
		{impl.Item{Kind: 7, At: 1, N: 1}, impl.Item{Kind: 7, At: 0, N: 1}}, {impl.Item{Kind: 7, At: 1, N: 1}, impl.Item{Kind: 7, At: 1, N: 2}},
		{impl.Item{Kind: 8, At: 1, N: 4}, impl.Item{Kind: 8, At: 0, N: 4}}, {impl.Item{Kind: 8, At: 1, N: 4}, impl.Item{Kind: 8, At: 1, N: 6}},
		{impl.Item{Kind: 9, At: 1, N: 6}, impl.Item{Kind: 9, At: 0, N: 6}}, {impl.Item{Kind: 9, At: 1, N: 6}, impl.Item{Kind: 9, At: 1, N: 2}},
		{impl.Item{Kind: 10, At: 2, Name: "n"}, impl.Item{Kind: 10, At: 1, Name: "n"}}, {impl.Item{Kind: 10, At: 2, Name: "n"}, impl.Item{Kind: 10, At: 2, Name: "m"}},
		{impl.Item{Kind: 11, At: 7}, impl.Item{Kind: 11, At: 6}}, {impl.Item{Kind: 12, At: 1, N: 3}, impl.Item{Kind: 12, At: 2, N: 3}}, {impl.Item{Kind: 12, At: 1, N: 3}, impl.Item{Kind: 12, At: 1, N: 4}},
		{impl.Item{Kind: 13, At: 2, N: 4}, impl.Item{Kind: 13, At: 1, N: 4}}, {impl.Item{Kind: 13, At: 2, N: 4}, impl.Item{Kind: 13, At: 2, N: 5}},
		{impl.Item{Kind: 14, At: 2, N: 4, M: 9}, impl.Item{Kind: 14, At: 1, N: 4, M: 9}}, {impl.Item{Kind: 14, At: 2, N: 4, M: 9}, impl.Item{Kind: 14, At: 2, N: 5, M: 9}}, {impl.Item{Kind: 14, At: 2, N: 4, M: 9}, impl.Item{Kind: 14, At: 2, N: 4, M: 8}},
		{impl.Item{Kind: 15, N: 4}, impl.Item{Kind: 15, N: 5}}, {impl.Item{Kind: 16, At: 1}, impl.Item{Kind: 16, At: 3}}, {impl.Item{Kind: 17, At: 1}, impl.Item{Kind: 17, At: 0}}, {impl.Item{Kind: 18, At: 3}, impl.Item{Kind: 18, At: 2}},
	} {
		a, code := impl.WorldDo(w, x.was)
		b, other := impl.WorldDo(w, x.is)
		if code != impl.CodeDone || code == other && sameWorld(a, b) {
			t.Errorf("%+v: %d, and %+v: %d: %+v", x.was, code, x.is, other, a)
		}
	}
}

// What is forked or made stands at the first free place; the item tells the code alone.
func TestItemsTellNoPlace(t *testing.T) {
	w, codes := impl.WorldPlay(2, []impl.Item{
		{Kind: kindMake, Name: "a"}, {Kind: kindMake, At: 1, Name: "b"}, {Kind: kindFork, At: 2, N: 4, M: 2}, {Kind: kindFork, M: 15}, {Kind: kindFork, M: 15}, {Kind: kindExit, At: 1}, {Kind: kindFork, At: 1, M: 1},
	})
	if !slices.Equal(codes, make([]int, 7)) {
		t.Errorf("codes: %v", codes)
	}
	if w.Groups[1].Name != "a" || w.Groups[2].Name != "b" || w.Groups[2].Parent != 1 {
		t.Errorf("groups: %+v", w.Groups[:3])
	}
	wantTask(t, "the first", w.Tasks[0], impl.Task{State: 1, Group: 2, Cpu: 1, Nice: 4, Mask: 2})
	wantTask(t, "the second, gone and forked anew", w.Tasks[1], impl.Task{State: 1, Group: 1, Cpu: 0, Mask: 1})
	wantTask(t, "the third", w.Tasks[2], impl.Task{State: 1, Cpu: 0, Mask: 15})
}

// A play, item by item, by the document's words: what each gets, what is refused in the midst of it, and what that leaves.
func TestPlayByHand(t *testing.T) {
	items := []impl.Item{
		{Kind: kindFork, At: 1, M: 15},          // no such group
		{Kind: kindMake, Name: "web"},           // the group 1
		{Kind: kindMake, Name: "web"},           // there already
		{Kind: kindFork, At: 1, M: 15},          // the task 0 on 0
		{Kind: kindFork, N: -5, M: 15},          // the task 1 on 1, where nobody is
		{Kind: kindRun, At: 1, N: 60},           // to the task 1
		{Kind: kindPin, At: 1, N: 1},            // the task 1 goes to 0
		{Kind: kindRun, At: 0, N: 60},           // to the task 1: it stands beside the group, at its floor
		{Kind: 0},                               // no kind
		{Kind: kindLimit, At: 1, N: 30, M: 100}, // 30 of each 100
		{Kind: kindRun, At: 0, N: 100},          // to the group, which is behind: 20 and 10, then it is dry; 70 to the task 1
		{Kind: kindTime, N: 100},                // the next period
		{Kind: kindRun, At: 0, N: 101},          // too many
		{Kind: kindYield, At: 1},                // nobody is current there
		{Kind: kindRun, At: 0, N: 25},           // to the task 1: the group comes back at the floor, where the task stands
		{Kind: kindDrop, At: 1},                 // the task 0 is in it
		{Kind: kindOff, At: 1}, {Kind: kindOff}, // 1 goes, 0 is the last
		{Kind: kindBlock}, {Kind: kindRun, N: 10}, // to the task 1
		{Kind: kindMove, At: 0, N: 0}, {Kind: 19}, // the task 0 leaves the group, still blocked; no kind
		{Kind: kindDrop, At: 1}, {Kind: kindOn, At: 1}, // the group goes, 1 comes
	}
	w, codes := impl.WorldPlay(2, items)
	if want := []int{2, 0, 7, 0, 0, 0, 0, 0, 1, 0, 0, 0, 1, 6, 0, 4, 0, 5, 0, 0, 0, 1, 0, 0}; !slices.Equal(codes, want) {
		t.Fatalf("%v, want %v", codes, want)
	}
	sums := sumsOf(w)
	if sums[0] != 30 || sums[1] != 60+60+70+25+10 || w.Groups[0].Sum != 255 || w.Groups[1].Used {
		t.Errorf("%v: %+v", sums[:2], w.Groups[0])
	}
	wantCpu(t, "0", w.Cpus[0], impl.Cpu{Up: true, Cur: 1, Ran: 35, Busy: 195})
	wantCpu(t, "1", w.Cpus[1], impl.Cpu{Up: true, Cur: -1, Busy: 60})
}

// What no item comes to is as it was; a play of none is a new world.
func TestNoItems(t *testing.T) {
	for _, w := range append(worldsToKeep(&dice{state: 133}), callWorld()) {
		for _, items := range [][]impl.Item{nil, {}} {
			want := w
			if !modelWorldOk(w) {
				want = impl.World{}
			}
			if got, codes := impl.WorldGo(w, items); len(codes) != 0 || !sameWorld(got, want) {
				t.Errorf("%v, %+v, want %+v", codes, got, want)
			}
		}
	}
	for cpus := 1; cpus <= cpuLimit; cpus++ {
		for _, items := range [][]impl.Item{nil, {}} {
			if got, codes := impl.WorldPlay(cpus, items); len(codes) != 0 || !sameWorld(got, emptyWorld(cpus)) {
				t.Errorf("%d: %v, %+v", cpus, codes, got)
			}
		}
	}
}

// A play of so many processors as there can't be is nothing, whatever is played.
func TestPlayOfNoWorld(t *testing.T) {
	for _, cpus := range append([]int{-4, -1, 0, cpuLimit + 1, 64, 1 << 32, 1<<32 + 1}, farInts()...) {
		for _, items := range [][]impl.Item{nil, {}, doneItems(), {{Kind: -1}}, make([]impl.Item, playLimit+1)} {
			if w, codes := impl.WorldPlay(cpus, items); len(codes) != 0 || !isNoWorld(w) {
				t.Errorf("%d: %v, %+v", cpus, codes, w)
			}
		}
	}
}

// repeated is an item so many times.
func repeated(x impl.Item, n int) []impl.Item { return slices.Repeat([]impl.Item{x}, n) }

// PlayMax may be met exactly; of one item more nothing is done, whatever the items are.
func TestPlayMaxItems(t *testing.T) {
	for _, x := range append(doneItems(), impl.Item{}, impl.Item{Kind: -1}) {
		for _, n := range []int{playLimit - 1, playLimit, playLimit + 1, playLimit + 2, 3 * playLimit} {
			items := repeated(x, n)
			w, codes := impl.WorldGo(groupWorld(), items)
			p, played := impl.WorldPlay(3, items)
			if n > playLimit {
				if len(codes) != 0 || len(played) != 0 || !isNoWorld(w) || !isNoWorld(p) {
					t.Errorf("%d of %+v: %d codes, %+v; %d codes, %+v", n, x, len(codes), w, len(played), p)
				}
			} else if len(codes) != n || len(played) != n || isNoWorld(w) || isNoWorld(p) {
				t.Errorf("%d of %+v: %d codes, %+v; %d codes, %+v", n, x, len(codes), w, len(played), p)
			}
		}
	}
	w, _ := impl.WorldPlay(1, repeated(impl.Item{Kind: kindRun, N: 3}, playLimit))
	if w.Cpus[0].Idle != 3*playLimit {
		t.Errorf("idle for %d", w.Cpus[0].Idle)
	}
	// How many there are is held against the bound, not how many are done, nor how much room there is.
	if w, codes := impl.WorldGo(handWorld(), make([]impl.Item, playLimit)); len(codes) != playLimit || !sameWorld(w, handWorld()) {
		t.Errorf("%d codes, %+v", len(codes), w)
	}
}

// Of what is no world nothing is told, and nothing is done with it, whatever comes.
func TestItemsOfBrokenWorlds(t *testing.T) {
	var kinds []impl.Item
	for kind := -1; kind <= kindOn+1; kind++ {
		kinds = append(kinds, impl.Item{Kind: kind, N: 1, M: 1, Name: "a"})
	}
	kinds = append(append(kinds, doneItems()...), impl.Item{Kind: farInts()[0]}, impl.Item{Kind: farInts()[5]})
	for _, broken := range brokenWorlds() {
		for _, x := range kinds {
			if out, code := impl.WorldDo(broken.world, x); code != impl.CodeBad || !isNoWorld(out) {
				t.Errorf("%s: %+v: %d, %+v", broken.name, x, code, out)
			}
		}
		for _, items := range [][]impl.Item{nil, kinds, kinds[:1], make([]impl.Item, playLimit), make([]impl.Item, playLimit+1)} {
			if out, codes := impl.WorldGo(broken.world, items); len(codes) != 0 || !isNoWorld(out) {
				t.Errorf("%s: %v, %+v", broken.name, codes, out)
			}
		}
	}
}

// Of every other kind the world is as it was, with room and without, whatever its fields are.
func TestItemsOfNoKind(t *testing.T) {
	d := &dice{state: 134}
	for _, w := range []impl.World{handWorld(), groupWorld(), emptyWorld(1), thrownToRun(d), thrownWorld(d, timeLimit)} {
		for _, kind := range noKinds() {
			for range 20 {
				x := withOthers(d, impl.Item{Kind: kind, At: d.below(5), Name: "a"})
				if out, code := impl.WorldDo(w, x); code != impl.CodeBad || !sameWorld(out, w) {
					t.Errorf("%+v: %d, %+v, it was %+v", x, code, out, w)
				}
			}
		}
	}
}

// playsToKeep are items, done and refused, with marks in their spare room.
func playsToKeep(d *dice) [][]impl.Item {
	list := [][]impl.Item{doneItems(), {{Kind: 1, N: 5}, {Kind: 0}, {Kind: 10, Name: "zz"}}, {{Kind: 19}}, nil}
	for range 4 {
		list = append(list, thrownItems(d, newWorld(d), 40))
	}
	for i := range list {
		list[i] = withMarks(list[i], markItem)
	}
	return list
}

// markItem stands in the spare room of items; one that is done there would show.
var markItem = impl.Item{Kind: kindExit, At: 1}

// What is handed in is as it was, spare room and all; what is answered shares no memory with it, nor do any two of its lists.
func TestItemsMemory(t *testing.T) {
	t.Parallel()
	d := &dice{state: 135}
	for _, world := range worldsToCall(d) {
		for _, x := range append(doneItems(), impl.Item{}, impl.Item{Kind: 1, At: -1}) {
			name := fmt.Sprintf("%+v", x)
			do := func(w impl.World) (impl.World, int) { return impl.WorldDo(w, x) }
			wantKept(t, name, world, do)
			out, _ := do(world)
			wantListsApart(t, name, out)
		}
		for i, items := range playsToKeep(d) {
			name, was := fmt.Sprintf("the items %d", i), slices.Clone(items)
			wantKept(t, name, world, func(w impl.World) (impl.World, int) {
				out, codes := impl.WorldGo(w, items)
				return out, len(codes)
			})
			out, codes := impl.WorldGo(world, items)
			wantListsApart(t, name, out)
			wantCodesApart(t, name, out, codes)
			if !slices.Equal(items, was) || !isMarked(items, markItem) {
				t.Fatalf("%s: written into %+v", name, items)
			}
		}
	}
}

// wantCodesApart holds the codes against what is said of memory: what is written over them is seen in no other list.
func wantCodesApart(t *testing.T, name string, w impl.World, codes []int) {
	t.Helper()
	was, told := cloneWorld(w), slices.Clone(codes)
	for i := range codes[:cap(codes)] {
		codes[:cap(codes)][i] = -99
	}
	if !sameWorld(w, was) {
		t.Fatalf("%s: the codes lie in the world: %+v", name, w)
	}
	copy(codes, told)
	scribbleWorld(w)
	if !slices.Equal(codes, told) {
		t.Fatalf("%s: the world lies in the codes: %v", name, codes)
	}
}

// No play leaves anything behind for the next one, and none shares memory with another.
func TestPlaysAreApart(t *testing.T) {
	for _, items := range playsToKeep(&dice{state: 136}) {
		for cpus := 1; cpus <= cpuLimit; cpus++ {
			want, wantCodes := impl.WorldPlay(cpus, items)
			was, wasCodes := cloneWorld(want), slices.Clone(wantCodes)
			got, codes := impl.WorldPlay(cpus, items)
			scribbleWorld(got)
			clear(codes[:cap(codes)])
			again, againCodes := impl.WorldPlay(cpus, items)
			if !sameWorld(want, was) || !slices.Equal(wantCodes, wasCodes) || !sameWorld(again, was) || !slices.Equal(againCodes, wasCodes) {
				t.Fatalf("%d: %+v, %v, then %+v, %v", cpus, was, wasCodes, again, againCodes)
			}
			wantListsApart(t, "a play", again)
		}
	}
}

// However often it is asked, and by how many at the same time, the same is told.
func TestItemsAreTheSameEachTime(t *testing.T) {
	t.Parallel()
	d := &dice{state: 137}
	worlds := []impl.World{groupWorld(), crowdedWorld(3), thrownSettled(d), impl.World{}}
	plays := playsToKeep(d)
	wantSameEachTime(t, worlds, func(w impl.World) string {
		told := ""
		for _, items := range plays {
			out, codes := impl.WorldGo(w, items)
			told += fmt.Sprintf("%v %+v ", codes, out)
		}
		for _, x := range doneItems() {
			out, code := impl.WorldDo(w, x)
			told += fmt.Sprintf("%d %+v ", code, out)
		}
		return told
	})
}
