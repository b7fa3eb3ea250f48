package tests

import (
	"slices"
	"testing"

	"loop.example/stint/impl"
)

// wantNothingChanged holds an item against the promise: behind one that is refused the world is as it was, or nothing if it is none.
func wantNothingChanged(t *testing.T, s itemStep) {
	t.Helper()
	want := s.was
	if !modelWorldOk(s.was) {
		want = impl.World{}
	}
	if s.code != impl.CodeDone && !sameWorld(s.is, want) {
		t.Fatalf("refused: %s", s.text())
	}
}

// refusableItem is some item; one in three is at numbers that are often none.
func refusableItem(d *dice, w impl.World) impl.Item {
	x := anyItem(d, w)
	if d.below(3) > 0 {
		return x
	}
	far := farInts()
	field := []*int{&x.Kind, &x.At, &x.N, &x.M}[d.below(4)]
	*field = d.oneOf(-1, 0, 1, 5, 11, 16, 101, 1001, 10001, far[d.below(len(far))])
	return x
}

// P11: of plays on new worlds and of thrown worlds, with room and without: each kind with each code.
func TestRefusedChangesNothing(t *testing.T) {
	t.Parallel()
	d := &dice{state: 11}
	seen := map[[2]int]int{}
	see := func(s itemStep) {
		wantNothingChanged(t, s)
		if callOf(s.item) == nil {
			s.item.Kind = 0
		}
		seen[[2]int{s.item.Kind, s.code}]++
	}
	for range 60 {
		playOn(d, builtWorld(d), playLimit, refusableItem, see)
	}
	for range 3000 {
		playOn(d, thrownToPlay(d), 12, refusableItem, see)
	}
	for kind, codes := range codesOfKinds() {
		for _, code := range codes {
			if seen[[2]int{kind, code}] < 3 {
				t.Errorf("the kind %d tells %d only %d times: the worlds try too little", kind, code, seen[[2]int{kind, code}])
			}
		}
	}
}

// P11: what is refused in a play is as if it had not been in it: the rest comes to the same, with the same codes.
func TestRefusedIsAsIfItWereNotThere(t *testing.T) {
	d := &dice{state: 1111}
	refused := 0
	for range 200 {
		w := thrownToPlay(d)
		var all, done []impl.Item
		playOn(d, w, 60, refusableItem, func(s itemStep) {
			all = append(all, s.item)
			if s.code == impl.CodeDone {
				done = append(done, s.item)
			}
		})
		refused += len(all) - len(done)
		want, codes := impl.WorldGo(w, done)
		got, told := impl.WorldGo(w, all)
		told = slices.DeleteFunc(told, func(code int) bool { return code != impl.CodeDone })
		if !sameWorld(got, want) || !slices.Equal(told, codes) {
			t.Fatalf("%+v: %+v, want %+v: %+v", all, got, want, w)
		}
	}
	if refused < 1000 {
		t.Errorf("%d refused: the plays try too little", refused)
	}
}

// P11: each way to be refused, in the midst of a stay, with quotas taken from, loads and groups: written out.
func TestRefusedByEachCode(t *testing.T) {
	w := crowdedWorld(3)
	w, _ = impl.WorldGo(w, []impl.Item{{Kind: kindOff, At: 2}, {Kind: kindMake, At: 0, Name: "flat"}, {Kind: kindRun, N: 13}, {Kind: kindRun, At: 1, N: 60}})
	if !impl.WorldOk(w) || w.Cpus[0].Cur < 0 || w.Cpus[1].Cur < 0 {
		t.Fatalf("%v: %+v", worldFaults(w), w)
	}
	for _, c := range []struct {
		item impl.Item
		code int
	}{
		{impl.Item{Kind: kindRun, N: 101}, impl.CodeBad}, {impl.Item{Kind: kindRun, At: 2, N: 1}, impl.CodeState}, {impl.Item{Kind: kindRun, At: 3, N: 1}, impl.CodeBad},
		{impl.Item{Kind: kindYield, At: 2}, impl.CodeState}, {impl.Item{Kind: kindYield, At: 3}, impl.CodeBad}, {impl.Item{Kind: kindFork, N: 10, M: 1}, impl.CodeBad},
		{impl.Item{Kind: kindFork, At: 7, M: 1}, impl.CodeNone}, {impl.Item{Kind: kindFork, M: 1}, impl.CodeFull}, {impl.Item{Kind: kindBlock, At: 3}, impl.CodeState}, {impl.Item{Kind: kindBlock, At: 12}, impl.CodeNone},
		{impl.Item{Kind: kindWake, At: 0}, impl.CodeState}, {impl.Item{Kind: kindWake, At: -1}, impl.CodeNone}, {impl.Item{Kind: kindExit, At: 12}, impl.CodeNone}, {impl.Item{Kind: kindNice, N: -11}, impl.CodeBad},
		{impl.Item{Kind: kindNice, At: 12}, impl.CodeNone}, {impl.Item{Kind: kindPin, N: 0}, impl.CodeBad}, {impl.Item{Kind: kindPin, At: 12, N: 1}, impl.CodeNone}, {impl.Item{Kind: kindMove, N: 7}, impl.CodeNone},
		{impl.Item{Kind: kindMove, At: 12}, impl.CodeNone}, {impl.Item{Kind: kindMake, Name: "stat"}, impl.CodeBad}, {impl.Item{Kind: kindMake, At: 7, Name: "a"}, impl.CodeNone}, {impl.Item{Kind: kindMake, Name: "g1"}, impl.CodeThere},
		{impl.Item{Kind: kindMake, At: 3, Name: "a"}, impl.CodeDeep}, {impl.Item{Kind: kindDrop}, impl.CodeBad}, {impl.Item{Kind: kindDrop, At: 7}, impl.CodeNone}, {impl.Item{Kind: kindDrop, At: 1}, impl.CodeBusy},
		{impl.Item{Kind: kindWeigh, At: 1, N: 21}, impl.CodeBad}, {impl.Item{Kind: kindWeigh, At: 7, N: 1}, impl.CodeNone}, {impl.Item{Kind: kindCpus, At: 1, N: 16}, impl.CodeBad}, {impl.Item{Kind: kindCpus, N: 1}, impl.CodeBad},
		{impl.Item{Kind: kindLimit, At: 1, N: 5}, impl.CodeBad}, {impl.Item{Kind: kindLimit, At: 7, N: 5, M: 5}, impl.CodeNone}, {impl.Item{Kind: kindTime}, impl.CodeBad}, {impl.Item{Kind: kindTime, N: 1001}, impl.CodeBad},
		{impl.Item{Kind: kindBalance, At: 2}, impl.CodeState}, {impl.Item{Kind: kindBalance, At: -1}, impl.CodeBad}, {impl.Item{Kind: kindOff, At: 2}, impl.CodeState}, {impl.Item{Kind: kindOn, At: 0}, impl.CodeState}, {impl.Item{Kind: kindOn, At: 3}, impl.CodeBad},
		{impl.Item{}, impl.CodeBad}, {impl.Item{Kind: 19}, impl.CodeBad}, {impl.Item{Kind: -1}, impl.CodeBad},
	} {
		s := itemStep{was: w, item: c.item}
		if s.is, s.code = impl.WorldDo(w, c.item); s.code != c.code {
			t.Errorf("%+v: %d, want %d", c.item, s.code, c.code)
		}
		wantNothingChanged(t, s)
	}
	one, _ := impl.WorldDo(w, impl.Item{Kind: kindOff, At: 1})
	s := itemStep{was: one, item: impl.Item{Kind: kindOff}}
	if s.is, s.code = impl.WorldDo(one, s.item); s.code != impl.CodeLast {
		t.Errorf("the last one: %d", s.code)
	}
	wantNothingChanged(t, s)
}

// P11: groups in all places, so that a ninth finds none.
func TestRefusedForWantOfPlaces(t *testing.T) {
	var items []impl.Item
	for i := range groupLimit {
		items = append(items, impl.Item{Kind: kindMake, Name: string(rune('a' + i))})
	}
	for range taskLimit + 1 {
		items = append(items, impl.Item{Kind: kindFork, M: 15})
	}
	w, codes := impl.WorldPlay(2, items)
	want, _ := impl.WorldPlay(2, slices.Concat(items[:groupLimit-1], items[groupLimit:groupLimit+taskLimit]))
	if codes[groupLimit-1] != impl.CodeFull || codes[len(codes)-1] != impl.CodeFull || !sameWorld(w, want) {
		t.Errorf("%v: %+v, want %+v", codes, w, want)
	}
}

// P11: nothing comes of what is refused as a whole: too many items, no world, no number of processors.
func TestRefusedAsAWhole(t *testing.T) {
	w, asItWas := worldWithRoom(groupWorld())
	if out, codes := impl.WorldGo(w, repeated(impl.Item{Kind: kindRun, N: 1}, playLimit+1)); !isNoWorld(out) || len(codes) != 0 || !asItWas() {
		t.Errorf("%v, %+v", codes, out)
	}
	for _, broken := range brokenWorlds() {
		for kind := range kindOn + 2 {
			s := itemStep{was: broken.world, item: impl.Item{Kind: kind, N: 1, M: 1, Name: "a"}}
			if s.is, s.code = impl.WorldDo(s.was, s.item); s.code != impl.CodeBad {
				t.Errorf("%s: %s", broken.name, s.text())
			}
			wantNothingChanged(t, s)
		}
	}
}
