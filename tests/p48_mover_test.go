package tests

import (
	"strconv"
	"testing"

	"loop.example/stint/impl"
)

// wantAsFarAhead holds a move against the promise: a task that is ready and stays on its processor is as far ahead there as it was, till the floor rises; it tells whether it is such a move.
func wantAsFarAhead(t *testing.T, w impl.World, task, group int, seen map[string]int) (impl.World, bool) {
	t.Helper()
	is, code := impl.WorldDo(w, impl.Item{Kind: kindMove, At: task, N: group})
	if code != impl.CodeDone {
		if !sameWorld(is, w) {
			t.Fatalf("%d to %d: code %d: %+v: %+v", task, group, code, is, w)
		}
		return is, false
	}
	a, b := w.Tasks[task], is.Tasks[task]
	if a.State != impl.TaskReady || a.Cpu != b.Cpu || a.Group == group {
		return is, false
	}
	lag := a.V - w.Groups[a.Group].Shelves[a.Cpu].Floor
	from, floor := w.Groups[group].Shelves[a.Cpu].Floor, is.Groups[group].Shelves[a.Cpu].Floor
	if b.Group != group || b.V-from != lag || b.V-floor > lag || b.V < floor || floor == from && b.V-floor != lag {
		t.Fatalf("%d to %d: %d ahead, then at %d, the floor there from %d to %d: %+v", task, group, lag, b.V, from, floor, w)
	}
	if b.Nice != a.Nice || b.Mask != a.Mask || b.Sum != a.Sum || b.Used != a.Used || b.Load != a.Load {
		t.Fatalf("%d to %d: %+v, it was %+v", task, group, b, a)
	}
	countMove(w, is, task, lag, floor > from, seen)
	return is, true
}

func countMove(was, is impl.World, task, lag int, rises bool, seen map[string]int) {
	a, b := was.Tasks[task], is.Tasks[task]
	switch {
	case lag == 0:
		seen["at the floor"]++
	case lag == longStay*step(10-a.Nice):
		seen["ahead by the most"]++
	default:
		seen["ahead"]++
	}
	if rises {
		seen["the floor rises"]++
	} else {
		seen["the floor stays"]++
	}
	if was.Cpus[a.Cpu].Cur == task {
		seen["of who is current"]++
	}
	if was.Groups[b.Group].Shelves[b.Cpu].Floor < was.Groups[a.Group].Shelves[a.Cpu].Floor {
		seen["to a floor below"]++
	} else {
		seen["to a floor above"]++
	}
	seen["from depth "+strconv.Itoa(len(outOf(was.Groups, a.Group))-1)]++
	seen["to depth "+strconv.Itoa(len(outOf(was.Groups, b.Group))-1)]++
}

// P48: of thrown worlds, settled or not, with quotas and without.
func TestMoverIsAsFarAhead(t *testing.T) {
	t.Parallel()
	d := &dice{state: 48}
	seen := map[string]int{}
	for range 5000 {
		w := thrownToPlay(d)
		for range 10 {
			c := thrownCall(d, w)
			if out, ok := wantAsFarAhead(t, w, c.task, c.group, seen); ok && d.below(2) == 0 {
				w = out
			}
		}
	}
	for _, sight := range []string{
		"at the floor", "ahead by the most", "ahead", "the floor rises", "the floor stays", "of who is current", "to a floor below", "to a floor above",
		"from depth 0", "from depth 1", "from depth 2", "from depth 3", "to depth 0", "to depth 1", "to depth 2", "to depth 3",
	} {
		if seen[sight] < 100 {
			t.Errorf("%s: %d times: the worlds try too little", sight, seen[sight])
		}
	}
}

// P48: in plays on new worlds each move, behind whatever came ahead of it.
func TestMoverInPlays(t *testing.T) {
	t.Parallel()
	d := &dice{state: 4848}
	seen := map[string]int{}
	for range 120 {
		playOn(d, builtWorld(d), playLimit, anyItem, func(s itemStep) {
			if s.item.Kind == kindMove {
				wantAsFarAhead(t, s.was, s.item.At, s.item.N, seen)
			}
		})
	}
	if seen["ahead"] < 100 || seen["of who is current"] < 20 || seen["to a floor below"] < 100 {
		t.Errorf("%v: the plays try too little", seen)
	}
}

// P48: at each niceness and each lag that there may be, to a floor above, below and at that where one was, to and fro: nothing is won by it, and nothing lost, as long as somebody stands at either floor.
func TestMoverToAndFro(t *testing.T) {
	for nice := -10; nice <= 9; nice++ {
		most := longStay * step(10-nice)
		for _, lag := range []int{0, 1, step(10 - nice), most / 2, most - 1, most} {
			for _, floor := range []int{0, oldFloor, newFloor} {
				w := groupedWorld(1, 0)
				putReady(w, 0, 0, 0, 0, oldFloor)
				putReady(w, 1, 1, 0, 0, floor)
				putReady(w, 2, 0, 0, nice, oldFloor+lag)
				w.Groups[0].Shelves[0].Floor, w.Groups[1].Shelves[0].Floor, w.Groups[1].Shelves[0].V = oldFloor, floor, oldFloor
				modelSettle(w)
				for i := range 6 {
					group := 1 - i%2
					out, ok := wantAsFarAhead(t, w, 2, group, map[string]int{})
					if want := []int{oldFloor, floor}[group] + lag; !ok || out.Tasks[2].V != want {
						t.Fatalf("nice %d, a lag of %d, to %d: at %d, want %d", nice, lag, floor, out.Tasks[2].V, want)
					}
					w = out
				}
			}
		}
	}
}

// P48: into a queue where nobody stands one is as far ahead of its floor; alone there, the floor rises to them with that, and they are ahead of nobody.
func TestMoverAlone(t *testing.T) {
	for depth := 1; depth <= depthLimit; depth++ {
		w := groupedWorld(1, 0, 1, 2)
		putReady(w, 0, 0, 0, 0, oldFloor)
		putReady(w, 1, 0, 0, 0, oldFloor+7*step(10))
		modelSettle(w)
		w.Groups[depth].Shelves[0].Floor = newFloor
		out, ok := wantAsFarAhead(t, w, 1, depth, map[string]int{})
		around := w.Groups[w.Groups[depth].Parent].Shelves[0].Floor
		if s := out.Groups[depth].Shelves[0]; !ok || out.Tasks[1].V != newFloor+7*step(10) || s.Floor != out.Tasks[1].V || s.V != around || !s.On {
			t.Errorf("depth %d: %+v, %+v", depth, out.Tasks[1], s)
		}
	}
}

// P48: moves that are refused, or to where one is, leave each where they are; who sleeps, or goes to another processor, is none of those that the promise speaks of.
func TestMoverThatIsRefused(t *testing.T) {
	seen := map[string]int{}
	for _, w := range []impl.World{callWorld(), handWorld(), crowdedWorld(2)} {
		for task := -1; task <= taskLimit; task++ {
			for group := -1; group <= groupLimit; group++ {
				wantAsFarAhead(t, w, task, group, seen)
			}
			for _, far := range farInts() {
				if _, ok := wantAsFarAhead(t, w, task, far, seen); ok {
					t.Errorf("%d to %d", task, far)
				}
				if _, ok := wantAsFarAhead(t, w, far, 0, seen); ok {
					t.Errorf("%d moves", far)
				}
			}
			if task >= 0 && task < taskLimit && w.Tasks[task].State != impl.TaskNone {
				if out, ok := wantAsFarAhead(t, w, task, w.Tasks[task].Group, seen); ok || !sameWorld(out, w) {
					t.Errorf("%d to where it is: %+v", task, out)
				}
			}
		}
	}
	if seen["ahead"] == 0 || seen["at the floor"] == 0 {
		t.Errorf("%v", seen)
	}
	for _, broken := range brokenWorlds() {
		if out, code := impl.WorldDo(broken.world, impl.Item{Kind: kindMove, At: 1, N: 6}); code != impl.CodeBad || !isNoWorld(out) {
			t.Errorf("%s: %d", broken.name, code)
		}
	}
}
