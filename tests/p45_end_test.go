package tests

import (
	"testing"

	"loop.example/stint/impl"
)

// wantNothingDone holds an item in a world without room against the promise: it is refused, but for a yield, which ends a stay as ever.
func wantNothingDone(t *testing.T, w impl.World, x impl.Item) int {
	t.Helper()
	out, code := impl.WorldDo(w, x)
	if impl.WorldRoom(w) || !impl.WorldOk(w) {
		t.Fatalf("there is room, or no world: %+v", w)
	}
	if x.Kind == kindYield {
		if want, wantCode := modelYield(w, x.At); code != wantCode || !sameWorld(out, want) {
			t.Fatalf("%+v: %d, %+v: %+v", x, code, out, w)
		}
		return code
	}
	if code == impl.CodeDone || !sameWorld(out, w) {
		t.Fatalf("%+v: %d, %+v: %+v", x, code, out, w)
	}
	return code
}

// P45: of thrown worlds without room, settled or not: each kind, also where it would do nothing.
func TestNothingIsDoneAnyMore(t *testing.T) {
	t.Parallel()
	d := &dice{state: 45}
	codes := map[[2]int]int{}
	for range 3000 {
		w := thrownToPlay(d)
		if impl.WorldRoom(w) {
			late := lateFields(&w)
			*late[d.below(len(late))] = d.oneOf(timeLimit/2+1, timeLimit)
		}
		if !impl.WorldOk(w) || impl.WorldRoom(w) {
			continue
		}
		for range 10 {
			x := anyItem(d, w)
			codes[[2]int{x.Kind, wantNothingDone(t, w, x)}]++
		}
	}
	for kind := kindRun; kind <= kindOn; kind++ {
		want := impl.CodeEnd
		if kind == kindYield {
			want = impl.CodeDone
		}
		if n := codes[[2]int{kind, want}]; n < 30 {
			t.Errorf("the kind %d tells %d only %d times: the worlds try too little", kind, want, n)
		}
	}
}

// lateFields are times and sums of a world of which each may be anything by itself.
func lateFields(w *impl.World) []*int {
	var list []*int
	for cpu := range w.Cpus {
		list = append(list, &w.Cpus[cpu].Busy, &w.Cpus[cpu].Idle)
	}
	for at := range w.Tasks {
		if w.Tasks[at].State != impl.TaskNone {
			list = append(list, &w.Tasks[at].Sum, &w.Tasks[at].Used)
		}
	}
	for g := range w.Groups {
		if !w.Groups[g].Used {
			continue
		}
		list = append(list, &w.Groups[g].Sum)
		for cpu := range w.Groups[g].Shelves {
			list = append(list, &w.Groups[g].Shelves[cpu].Sum)
		}
	}
	return list
}

// itemsInRoom are items, one or more of each kind but a yield, that are done in roomyWorld.
func itemsInRoom() []impl.Item {
	return []impl.Item{
		{Kind: kindRun, N: 1}, {Kind: kindRun, At: 1, N: 100}, {Kind: kindRun, At: 2, N: 7}, {Kind: kindFork, At: 3, N: -3, M: 4}, {Kind: kindBlock, At: 1}, {Kind: kindWake, At: 3}, {Kind: kindExit, At: 4}, {Kind: kindNice, At: 1, N: 9},
		{Kind: kindNice, At: 1, N: 5}, {Kind: kindPin, At: 4, N: 3}, {Kind: kindPin, At: 0, N: 15}, {Kind: kindMove, N: 3}, {Kind: kindMove}, {Kind: kindMake, At: 2, Name: "new"}, {Kind: kindWeigh, At: 3, N: 20}, {Kind: kindWeigh, At: 1, N: 10},
		{Kind: kindCpus, At: 2, N: 8}, {Kind: kindCpus, At: 2, N: 7}, {Kind: kindLimit, At: 1, N: 5, M: 1000}, {Kind: kindLimit, At: 5}, {Kind: kindTime, N: 1000}, {Kind: kindTime, N: 1}, {Kind: kindBalance}, {Kind: kindBalance, At: 2}, {Kind: kindOff, At: 1}, {Kind: kindOn, At: 3},
		{Kind: kindDrop, At: 7},
	}
}

// roomyWithEmpty is roomyWorld with a group that may be dropped.
func roomyWithEmpty() impl.World {
	w := roomyWorld()
	w.Groups[7] = handGroup(0, "z", 20, 15)
	return w
}

// P45: at TimeMax / 2 each item is done, whatever stands there; one more, and none is but a yield.
func TestEndAtTheEdges(t *testing.T) {
	const half = timeLimit / 2
	for name, field := range roomFields() {
		for _, n := range []int{half - 1, half, half + 1, timeLimit - 1, timeLimit} {
			w := roomyWithEmpty()
			*field(&w) = n
			for _, x := range itemsInRoom() {
				if n > half {
					if code := wantNothingDone(t, w, x); code != impl.CodeEnd {
						t.Errorf("%s at %d: %+v: %d", name, n, x, code)
					}
				} else if _, code := impl.WorldDo(w, x); code != impl.CodeDone {
					t.Errorf("%s at %d: %+v: %d", name, n, x, code)
				}
			}
			for cpu, want := range []int{impl.CodeState, impl.CodeDone, impl.CodeState, impl.CodeState} {
				if _, code := impl.WorldDo(w, impl.Item{Kind: kindYield, At: cpu}); code != want {
					t.Errorf("%s at %d: a yield of %d: %d", name, n, cpu, code)
				}
			}
		}
	}
}

// P45: a world that goes on comes to its end: the last item that has room may go beyond the half; behind it all are refused, and it stays as it is for good.
func TestTimeComesToItsEnd(t *testing.T) {
	const half = timeLimit / 2
	for _, x := range itemsInRoom() {
		w := roomyWithEmpty()
		w.Cpus[1].Busy, w.Now = half, half
		w, code := impl.WorldGo(w, []impl.Item{{Kind: kindTime, N: 500}, x, {Kind: kindYield, At: 1}, x, {Kind: kindYield, At: 1}})
		if w.Now != half+500 || code[0] != impl.CodeDone || code[1] != impl.CodeEnd || code[2] != impl.CodeDone || code[3] != impl.CodeEnd || code[4] != impl.CodeState {
			t.Errorf("%+v: %v, %+v", x, code, w)
		}
	}
}

// P45: of a play in which time ends, what comes behind the end is as if it had not come.
func TestPlaysBeyondTheEnd(t *testing.T) {
	d := &dice{state: 4545}
	ended := 0
	for range 150 {
		w := thrownToPlay(d)
		w.Now = timeLimit/2 - d.below(2000)
		for g := range w.Groups {
			if group := &w.Groups[g]; group.Band.Quota > 0 {
				group.Next = w.Now + 1 + d.below(group.Period)
			}
		}
		over := -1
		var items, first []impl.Item
		playOn(d, w, 60, anyItem, func(s itemStep) {
			if over < 0 && !impl.WorldRoom(s.was) {
				over = len(items)
			}
			items = append(items, s.item)
			if over < 0 || s.item.Kind == kindYield {
				first = append(first, s.item)
			}
		})
		if over < 0 || !impl.WorldOk(w) {
			continue
		}
		ended++
		got, codes := impl.WorldGo(w, items)
		want, _ := impl.WorldGo(w, first)
		if !sameWorld(got, want) {
			t.Fatalf("%v: %+v, want %+v", codes, got, want)
		}
	}
	if ended < 50 {
		t.Errorf("%d plays come to the end: they try too little", ended)
	}
}

// P45: what is no world has no room either, and a yield there is refused as well.
func TestEndOfBrokenWorlds(t *testing.T) {
	for _, broken := range brokenWorlds() {
		for _, x := range append(itemsInRoom(), impl.Item{Kind: kindYield, At: 1}) {
			if out, code := impl.WorldDo(broken.world, x); code != impl.CodeBad || !isNoWorld(out) {
				t.Errorf("%s: %+v: %d", broken.name, x, code)
			}
		}
	}
}
