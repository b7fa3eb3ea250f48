package tests

import (
	"fmt"
	"testing"

	"loop.example/stint/impl"
)

// worldCall is a call that gives a world, a place (-1, where it tells none) and a code.
type worldCall interface {
	comparable
	// do is the program's answer, model the document's, of an ok world.
	do(w impl.World) (impl.World, int, int)
	model(w impl.World) (impl.World, int, int)
}

// worldText is all of an answer, to be held against another one.
func worldText(w impl.World, place, code int) string { return fmt.Sprintf("%d %d %+v", place, code, w) }

// mustCall is a call that is done.
func mustCall[C worldCall](t *testing.T, w impl.World, c C) impl.World {
	t.Helper()
	out, _, code := c.do(w)
	if code != impl.CodeDone || !impl.WorldOk(out) {
		t.Fatalf("%+v: code %d: %v: %+v", c, code, worldFaults(out), w)
	}
	return out
}

// wantRefusedCall holds a call against what is said of those that are refused.
func wantRefusedCall[C worldCall](t *testing.T, name string, w impl.World, c C, want int) {
	t.Helper()
	out, place, code := c.do(w)
	if code != want || place != -1 || !sameWorld(out, w) {
		t.Errorf("%s: %+v: code %d, want %d, place %d: %+v", name, c, code, want, place, out)
	}
}

// wantAsModel holds a call against the second writing of its chapter, and an ok world against staying so.
func wantAsModel[C worldCall](t *testing.T, w impl.World, c C) (impl.World, int, int) {
	t.Helper()
	want, wantPlace, wantCode := c.model(w)
	got, place, code := c.do(w)
	if code != wantCode || place != wantPlace || !sameWorld(got, want) {
		t.Fatalf("%+v: %d, %d, %+v, want %d, %d, %+v: %+v", c, place, code, got, wantPlace, wantCode, want, w)
	}
	if !impl.WorldOk(got) {
		t.Fatalf("%+v: %d, %v: %+v", c, code, worldFaults(got), w)
	}
	return got, place, code
}

// wantRunAsModel holds a run against the second writing of its chapter, and an ok world against staying so.
func wantRunAsModel(t *testing.T, w impl.World, cpu, n int) impl.World {
	t.Helper()
	want, wantCode, _ := modelWorldRun(w, cpu, n)
	got, code := impl.WorldRun(w, cpu, n)
	if code != wantCode || !sameWorld(got, want) || !impl.WorldOk(got) {
		t.Fatalf("run of %d on %d: %d, %+v, want %+v: %+v", n, cpu, code, got, want, w)
	}
	return got
}

// callThrower throws worlds, and calls at them, and counts what these did.
type callThrower[C worldCall] struct {
	world  func(d *dice) impl.World
	call   func(d *dice, w impl.World) C
	sights func(c C, was, is impl.World, place, code int, seen map[string]int)
}

// wantAsModel holds thrown calls at so many thrown worlds, some of them one behind the other, against the second writing; each sight is to be seen often, so that they are worth something.
func (x callThrower[C]) wantAsModel(t *testing.T, d *dice, worlds int, sights []string) {
	t.Helper()
	seen := map[string]int{}
	for range worlds {
		w := x.world(d)
		worldSights(w, seen)
		for range 12 {
			c := x.call(d, w)
			out, place, code := wantAsModel(t, w, c)
			x.sights(c, w, out, place, code, seen)
			if d.below(2) == 0 {
				w = out
			}
		}
	}
	for _, sight := range sights {
		if seen[sight] < 50 {
			t.Errorf("%s: %d times: the worlds try too little", sight, seen[sight])
		}
	}
}

// callFault is one thing for which a call is refused, brought about in several ways.
type callFault[C worldCall] struct {
	code int
	ways []func(w *impl.World, c *C)
}

// faultOf is a fault of one argument, at each of these.
func faultOf[C worldCall, A any](code int, list []A, argument func(c *C) *A) callFault[C] {
	f := callFault[C]{code: code}
	for _, a := range list {
		f.ways = append(f.ways, func(_ *impl.World, c *C) { *argument(c) = a })
	}
	return f
}

// endFault lets there be no room in callWorld.
func endFault[C worldCall]() callFault[C] {
	return callFault[C]{impl.CodeEnd, []func(w *impl.World, c *C){
		func(w *impl.World, _ *C) { w.Tasks[7].Sum = timeLimit/2 + 1 },
		func(w *impl.World, _ *C) { w.Cpus[3].Idle = timeLimit },
		func(w *impl.World, _ *C) { w.Groups[5].Shelves[1].V = timeLimit/2 + 1 },
	}}
}

// wantFirstCodes holds calls that are done in a world against what may be wrong with each, told in the order in which the document looks for it: whatever is wrong at once, told is the first.
func wantFirstCodes[C worldCall](t *testing.T, world func() impl.World, calls map[C][]callFault[C]) {
	t.Helper()
	for call, faults := range calls {
		mustCall(t, world(), call)
		for set := 1; set < 1<<len(faults); set++ {
			for round := range 14 {
				w, c, want := world(), call, 0
				// From the last one on, so that of two faults of one argument the first one stays.
				for i := len(faults) - 1; i >= 0; i-- {
					if f := faults[i]; set>>i&1 == 1 {
						f.ways[(round+i)%len(f.ways)](&w, &c)
						want = f.code
					}
				}
				if !impl.WorldOk(w) {
					t.Fatalf("%v: %+v", worldFaults(w), w)
				}
				wantRefusedCall(t, "faults", w, c, want)
			}
		}
	}
}

// wantEachCode holds each fault, in each of its ways, by itself.
func wantEachCode[C worldCall](t *testing.T, world func() impl.World, calls map[C][]callFault[C]) {
	t.Helper()
	for call, faults := range calls {
		for _, f := range faults {
			for _, way := range f.ways {
				w, c := world(), call
				way(&w, &c)
				wantRefusedCall(t, "by itself", w, c, f.code)
			}
		}
	}
}

// wantNothingOfBroken holds calls, those that would be done and those that would be refused, against what is said of worlds that are not ok.
func wantNothingOfBroken[C worldCall](t *testing.T, world func() impl.World, calls map[C][]callFault[C]) {
	t.Helper()
	var list []C
	for call, faults := range calls {
		list = append(list, call)
		for _, f := range faults {
			c, w := call, world()
			f.ways[0](&w, &c)
			list = append(list, c)
		}
	}
	for _, broken := range brokenWorlds() {
		for _, c := range list {
			if out, place, code := c.do(broken.world); code != impl.CodeBad || place != -1 || !isNoWorld(out) {
				t.Errorf("%s: %+v: %d, %d, %+v", broken.name, c, place, code, out)
			}
		}
	}
}

// wantRoomAtTheEdges holds calls that are done in roomyWorld against how late it may be: as long as nothing is beyond TimeMax / 2, wherever that is.
func wantRoomAtTheEdges[C worldCall](t *testing.T, calls []C) {
	t.Helper()
	const half = timeLimit / 2
	for name, field := range roomFields() {
		for n, want := range map[int]int{half - 1: impl.CodeDone, half: impl.CodeDone, half + 1: impl.CodeEnd, timeLimit: impl.CodeEnd} {
			for _, c := range calls {
				w := roomyWorld()
				*field(&w) = n
				if _, _, code := wantAsModel(t, w, c); code != want {
					t.Errorf("%s at %d: %+v: %d", name, n, c, code)
				}
			}
		}
	}
}

// wantMemoryKept holds calls against what is said of memory: what is handed in is as it was, spare room and all; what is answered shares none with it, nor do any two of its lists.
func wantMemoryKept[C worldCall](t *testing.T, worlds []impl.World, calls []C) {
	t.Helper()
	for _, world := range worlds {
		for _, c := range calls {
			name := fmt.Sprintf("%+v", c)
			call := func(w impl.World) (impl.World, int) {
				out, _, code := c.do(w)
				return out, code
			}
			wantKept(t, name, world, call)
			out, _ := call(world)
			wantListsApart(t, name, out)
		}
	}
}

// callAnswers is all that calls tell of a world.
func callAnswers[C worldCall](w impl.World, calls []C) string {
	told := ""
	for _, c := range calls {
		out, place, code := c.do(w)
		told += " " + worldText(out, place, code)
	}
	return told
}
