package tests

import (
	"slices"
	"strconv"
	"strings"
	"testing"

	"loop.example/stint/impl"
)

// mustRun is a run that is done.
func mustRun(t *testing.T, w impl.World, cpu, n int) impl.World {
	t.Helper()
	out, code := impl.WorldRun(w, cpu, n)
	if code != impl.CodeDone || !impl.WorldOk(out) {
		t.Fatalf("run of %d on %d: code %d: %v: %+v", n, cpu, code, worldFaults(out), w)
	}
	return out
}

// sumsOf are what the tasks of a world have got.
func sumsOf(w impl.World) []int {
	var list []int
	for _, task := range w.Tasks {
		list = append(list, task.Sum)
	}
	return list
}

func wantCpu(t *testing.T, name string, got, want impl.Cpu) {
	t.Helper()
	if got != want {
		t.Errorf("%s: %+v, want %+v", name, got, want)
	}
}

// A run books all that it gives: with the task, with each of its groups here and altogether, and with the processor; nobody else has got anything.
func TestRunBooks(t *testing.T) {
	w := groupedWorld(2, 0, 1, 0)
	w.Groups[1].Shelves[1].W, w.Groups[2].Shelves[1].W = 5, 20
	w.Groups[2].Sum, w.Groups[2].Shelves[1].Sum = 3, 2
	putReady(w, 4, 2, 1, -2, 0)
	putReady(w, 5, 3, 0, 0, 0)
	w.Tasks[4].Sum, w.Tasks[4].Used = 11, 7
	modelSettle(w)
	out := mustRun(t, w, 1, 7)
	want := cloneWorld(w)
	want.Cpus[1] = impl.Cpu{Up: true, Cur: 4, Ran: 7, Busy: 7}
	want.Tasks[4].V, want.Tasks[4].Sum, want.Tasks[4].Used = 7*step(12), 18, 14
	want.Groups[0].Sum, want.Groups[1].Sum, want.Groups[2].Sum = 7, 7, 10
	want.Groups[0].Shelves[1] = impl.Shelf{Floor: 7 * step(5), W: 10, Sum: 7}
	want.Groups[1].Shelves[1] = impl.Shelf{Floor: 7 * step(20), On: true, V: 7 * step(5), W: 5, Sum: 7}
	want.Groups[2].Shelves[1] = impl.Shelf{Floor: 7 * step(12), On: true, V: 7 * step(20), W: 20, Sum: 9}
	if !sameWorld(out, want) {
		t.Errorf("%+v, want %+v", out, want)
	}
}

// Side by side two get what their weights say, whatever the pieces.
func TestRunByWeights(t *testing.T) {
	for _, n := range []int{1, 7, 50, 99, 100} {
		w := emptyWorld(1)
		putReady(w, 0, 0, 0, 0, 0)
		putReady(w, 1, 0, 0, -10, 0)
		putReady(w, 2, 0, 0, 9, 0)
		for range 6000 / n {
			w = mustRun(t, w, 0, n)
		}
		sums, all := sumsOf(w), 6000/n*n
		if sums[0]+sums[1]+sums[2] != all || w.Cpus[0].Busy != all {
			t.Errorf("by %d: %v of %d", n, sums[:3], all)
		}
		for _, p := range []struct{ a, b, weightA, weightB int }{{0, 1, 10, 20}, {0, 2, 10, 1}, {1, 2, 20, 1}} {
			if apart := sums[p.a]*p.weightB - sums[p.b]*p.weightA; max(apart, -apart) > impl.QueueApart(p.weightA, p.weightB) {
				t.Errorf("by %d: %v: %d and %d are apart by %d", n, sums[:3], p.a, p.b, apart)
			}
		}
	}
}

// The example of the document's chapter on scripts, as far as runs tell it.
func TestRunOfTheDocumentsExample(t *testing.T) {
	w := groupedWorld(2, 0)
	w.Tasks[0] = impl.Task{State: impl.TaskReady, Group: 1, Mask: 1}
	w.Tasks[1] = impl.Task{State: impl.TaskReady, Nice: -5, Mask: 1}
	modelSettle(w)
	w = mustRun(t, mustRun(t, w, 0, 60), 0, 60)
	limitTo(w, 1, 30)
	for range 3 {
		w = mustRun(t, w, 0, 100)
	}
	b := w.Groups[1].Band
	if w.Groups[1].Sum != 90 || b.Spent != 30 || b.Pool+b.Locals[0]+b.Locals[1] != 0 || !b.Dry[0] || b.Dry[1] {
		t.Errorf("the group: %+v", w.Groups[1])
	}
	if c := w.Cpus[0]; c.Busy != 420 || c.Idle != 0 || c.Cur != 1 || w.Cpus[1] != (impl.Cpu{Up: true, Cur: -1}) {
		t.Errorf("the processors: %+v", w.Cpus)
	}
	if w.Tasks[0].Sum != 90 || w.Tasks[1].Sum != 330 || impl.WorldLine(w, 0) {
		t.Errorf("the tasks: %+v", w.Tasks[:2])
	}
}

// A stay goes on till it has had StayMin units; a run may go past that, but none begins there.
func TestRunStays(t *testing.T) {
	for _, c := range []struct {
		ran, n int
		next   int
		cur    impl.Cpu
		behind int
	}{
		{1, 1, 0, impl.Cpu{Cur: 0, Ran: 2, Busy: 1}, 0},
		{48, 1, 0, impl.Cpu{Cur: 0, Ran: 49, Busy: 1}, 0},
		{49, 1, 0, impl.Cpu{Cur: 0, Ran: 50, Busy: 1}, 1},
		{49, 2, 0, impl.Cpu{Cur: 0, Ran: 51, Busy: 2}, 1},
		{49, 100, 0, impl.Cpu{Cur: 0, Ran: 149, Busy: 100}, 1},
		{1, 48, 0, impl.Cpu{Cur: 0, Ran: 49, Busy: 48}, 0},
		{1, 49, 0, impl.Cpu{Cur: 0, Ran: 50, Busy: 49}, 1},
		{1, 100, 0, impl.Cpu{Cur: 0, Ran: 101, Busy: 100}, 1},
		{50, 1, 1, impl.Cpu{Cur: 1, Ran: 1, Busy: 1}, 1},
		{50, 49, 1, impl.Cpu{Cur: 1, Ran: 49, Busy: 49}, 1},
		{50, 50, 1, impl.Cpu{Cur: 1, Ran: 50, Busy: 50}, 0},
		{51, 100, 1, impl.Cpu{Cur: 1, Ran: 100, Busy: 100}, 0},
		{149, 1, 1, impl.Cpu{Cur: 1, Ran: 1, Busy: 1}, 1},
		{149, 100, 1, impl.Cpu{Cur: 1, Ran: 100, Busy: 100}, 1},
	} {
		w := rivals(c.ran)
		name := "behind " + strconv.Itoa(c.ran) + ", " + strconv.Itoa(c.n) + " more"
		if got := impl.WorldPick(w, 0); got != c.next {
			t.Errorf("%s: next is %d", name, got)
		}
		out := mustRun(t, w, 0, c.n)
		c.cur.Up = true
		wantCpu(t, name, out.Cpus[0], c.cur)
		if got := out.Tasks[c.next].Sum; got != c.n {
			t.Errorf("%s: %v", name, sumsOf(out)[:2])
		}
		if got := impl.WorldPick(out, 0); got != c.behind {
			t.Errorf("%s: behind it next is %d", name, got)
		}
	}
}

// Who is alone begins a new stay behind each one that is over.
func TestRunStaysAlone(t *testing.T) {
	for _, c := range []struct{ ran, n, want int }{{49, 1, 50}, {50, 1, 1}, {50, 100, 100}, {149, 49, 49}, {48, 100, 148}} {
		w := rivals(c.ran)
		w.Tasks[1].State = impl.TaskBlocked
		out := mustRun(t, w, 0, c.n)
		wantCpu(t, strconv.Itoa(c.ran), out.Cpus[0], impl.Cpu{Up: true, Cur: 0, Ran: c.want, Busy: c.n})
	}
}

// A stay whose units come in slices of a quota ends where it has had StayMin, in the midst of the run.
func TestRunStaysInSlices(t *testing.T) {
	for _, c := range []struct {
		quota, n, first int
		cur             impl.Cpu
		dry             bool
	}{
		{1000, 19, 19, impl.Cpu{Cur: 0, Ran: 19}, false},
		{1000, 20, 20, impl.Cpu{Cur: 0, Ran: 20}, false},
		{1000, 21, 21, impl.Cpu{Cur: 0, Ran: 21}, false},
		{1000, 60, 60, impl.Cpu{Cur: 0, Ran: 60}, false},
		{1000, 61, 60, impl.Cpu{Cur: 1, Ran: 1}, false},
		{1000, 100, 60, impl.Cpu{Cur: 1, Ran: 40}, false},
		{60, 100, 60, impl.Cpu{Cur: 1, Ran: 40}, false},
		{50, 50, 50, impl.Cpu{Cur: 0, Ran: 50}, false},
		{50, 51, 50, impl.Cpu{Cur: 1, Ran: 1}, false},
		{50, 100, 50, impl.Cpu{Cur: 1, Ran: 50}, false},
		{49, 49, 49, impl.Cpu{Cur: 0, Ran: 49}, false},
		{49, 50, 49, impl.Cpu{Cur: 1, Ran: 1}, true},
		{49, 100, 49, impl.Cpu{Cur: 1, Ran: 51}, true},
		{20, 100, 20, impl.Cpu{Cur: 1, Ran: 80}, true},
		{1, 100, 1, impl.Cpu{Cur: 1, Ran: 99}, true},
	} {
		name := "a quota of " + strconv.Itoa(c.quota) + ", " + strconv.Itoa(c.n) + " units"
		out := mustRun(t, limitedRival(c.quota), 0, c.n)
		c.cur.Up, c.cur.Busy = true, c.n
		wantCpu(t, name, out.Cpus[0], c.cur)
		if sums := sumsOf(out); sums[0] != c.first || sums[1] != c.n-c.first {
			t.Errorf("%s: %v", name, sums[:2])
		}
		if b := out.Groups[1].Band; b.Dry[0] != c.dry || b.Spent != c.first || out.Groups[1].Shelves[0].On == c.dry {
			t.Errorf("%s: %+v", name, out.Groups[1])
		}
	}
}

// Of a quota a processor takes a slice at a time: what it has not spent stays with it as long as somebody stands there.
func TestRunTakesSlices(t *testing.T) {
	for _, c := range []struct{ quota, n, pool, local int }{
		{5, 1, 0, 4}, {5, 5, 0, 0}, {19, 1, 0, 18}, {20, 1, 0, 19}, {20, 20, 0, 0}, {21, 1, 1, 19}, {21, 20, 1, 0}, {21, 21, 0, 0},
		{45, 1, 25, 19}, {45, 20, 25, 0}, {45, 21, 5, 19}, {45, 40, 5, 0}, {45, 41, 0, 4}, {45, 45, 0, 0}, {10000, 100, 9900, 0}, {10000, 99, 9900, 1},
	} {
		out := mustRun(t, nestedWorld(c.quota), 0, c.n)
		want := impl.Band{Quota: c.quota, Pool: c.pool, Spent: c.n, Locals: []int{c.local}, Dry: []bool{false}}
		if b := out.Groups[1].Band; !sameBand(b, want) || out.Tasks[3].Sum != c.n {
			t.Errorf("%d of %d: %+v", c.n, c.quota, b)
		}
	}
}

// A quota that is spent at a run's last unit is dry only when more is asked for: ahead of the next run's first unit.
func TestRunDryAheadOfTheFirstUnit(t *testing.T) {
	for _, quota := range []int{1, 19, 20, 21, 50} {
		w := mustRun(t, limitedRival(quota), 0, quota)
		if w.Groups[1].Band.Dry[0] || !impl.WorldLine(w, 0) || w.Cpus[0].Cur != 0 {
			t.Fatalf("%d: %+v", quota, w)
		}
		w, _ = impl.WorldYield(w, 0)
		w.Tasks[1].V = w.Groups[1].Shelves[0].V + 1
		out := mustRun(t, w, 0, 7)
		if !out.Groups[1].Band.Dry[0] || out.Tasks[0].Sum != quota || out.Tasks[1].Sum != 7 || out.Cpus[0].Cur != 1 || out.Cpus[0].Ran != 7 {
			t.Errorf("%d: %+v", quota, out)
		}
	}
}

// Who stands alone in a group that becomes dry leaves the rest of the run idle, whichever of its groups that is.
func TestRunDryOneInsideAnother(t *testing.T) {
	some := []int{0, 5, 20, 33, 60, 200}
	for _, outer := range some {
		for _, middle := range some {
			for _, inner := range some {
				for _, n := range []int{1, 5, 6, 20, 21, 33, 34, 60, 61, 100} {
					wantNestedRun(t, []int{outer, middle, inner}, n)
				}
			}
		}
	}
}

// wantNestedRun holds a run of a task alone against the least of its groups' quotas.
func wantNestedRun(t *testing.T, quotas []int, n int) {
	t.Helper()
	got, dry := n, -1
	for i, quota := range quotas {
		if quota > 0 && quota < n && quota <= got {
			// Of several quotas that are spent the innermost is asked first.
			got, dry = quota, i
		}
	}
	out := mustRun(t, nestedWorld(quotas...), 0, n)
	if c := out.Cpus[0]; c.Busy != got || c.Idle != n-got || out.Tasks[3].Sum != got || (c.Cur == 3) != (got == n) {
		t.Fatalf("quotas %v, %d units: %+v, sum %d, want %d", quotas, n, c, out.Tasks[3].Sum, got)
	}
	for i, quota := range quotas {
		b := out.Groups[i+1].Band
		if quota > 0 && (b.Spent != got || b.Dry[0] != (i == dry)) {
			t.Fatalf("quotas %v, %d units: the group %d: %+v", quotas, n, i+1, b)
		}
		// Around a group that is dry nobody stands; inside it somebody does.
		if on := dry < 0 || i > dry; out.Groups[i+1].Shelves[0].On != on || !on && quota > 0 && b.Locals[0] != 0 {
			t.Fatalf("quotas %v, %d units: the group %d: %+v", quotas, n, i+1, out.Groups[i+1])
		}
	}
}

// What those ahead of a dry group have taken stays with the processor, as somebody stands in them.
func TestRunDryOutside(t *testing.T) {
	w := nestedWorld(30, 200)
	spendAll(w, 1)
	out := mustRun(t, w, 0, 3)
	if b := out.Groups[2].Band; b.Locals[0] != 20 || b.Pool != 180 || b.Spent != 0 || !out.Groups[2].Shelves[0].On {
		t.Errorf("inside: %+v", out.Groups[2])
	}
	if b := out.Groups[1].Band; !b.Dry[0] || out.Groups[1].Shelves[0].On {
		t.Errorf("outside: %+v", out.Groups[1])
	}
	wantCpu(t, "the processor", out.Cpus[0], impl.Cpu{Up: true, Cur: -1, Idle: 3})
	// A group around the dry one is not asked any more.
	w = nestedWorld(200, 30)
	spendAll(w, 2)
	out = mustRun(t, w, 0, 3)
	if b := out.Groups[1].Band; b.Pool != 200 || b.Locals[0] != 0 {
		t.Errorf("around: %+v", b)
	}
}

// All that could run become dry, one behind the other: what is left is idle.
func TestRunAllBecomeDry(t *testing.T) {
	w := groupedWorld(1, 0, 0, 2, 0)
	for g, quota := range map[int]int{1: 7, 3: 25, 4: 20} {
		limitTo(w, g, quota)
		putReady(w, g, g, 0, g-3, 0)
	}
	modelSettle(w)
	out := mustRun(t, w, 0, 100)
	wantCpu(t, "the processor", out.Cpus[0], impl.Cpu{Up: true, Cur: -1, Busy: 52, Idle: 48})
	for g, quota := range map[int]int{1: 7, 3: 25, 4: 20} {
		if b := out.Groups[g].Band; b.Spent != quota || !b.Dry[0] || out.Tasks[g].Sum != quota || impl.WorldLine(out, g) {
			t.Errorf("the group %d: %+v", g, b)
		}
	}
	again := mustRun(t, out, 0, 100)
	wantCpu(t, "once more", again.Cpus[0], impl.Cpu{Up: true, Cur: -1, Busy: 52, Idle: 148})
}

// Two processors share a quota: what the one has taken the other one has not.
func TestRunSharesAQuota(t *testing.T) {
	w := groupedWorld(2, 0)
	limitTo(w, 1, 30)
	putReady(w, 0, 1, 0, 0, 0)
	putReady(w, 1, 1, 1, 0, 0)
	modelSettle(w)
	w = mustRun(t, w, 0, 10)
	w = mustRun(t, w, 1, 100)
	if b := w.Groups[1].Band; b.Pool != 0 || b.Locals[0] != 10 || b.Dry[0] || !b.Dry[1] {
		t.Errorf("behind the other one: %+v", b)
	}
	w = mustRun(t, w, 0, 100)
	wantCpu(t, "first", w.Cpus[0], impl.Cpu{Up: true, Cur: -1, Busy: 20, Idle: 90})
	wantCpu(t, "other", w.Cpus[1], impl.Cpu{Up: true, Cur: -1, Busy: 10, Idle: 90})
	if b := w.Groups[1].Band; b.Spent != 30 || !b.Dry[0] || !b.Dry[1] {
		t.Errorf("at last: %+v", b)
	}
}

// What a run gives back lets a group go on elsewhere that was dry there.
func TestRunGivesBack(t *testing.T) {
	w := groupedWorld(2, 0, 1)
	limitTo(w, 1, 40)
	limitTo(w, 2, 5)
	putReady(w, 0, 2, 0, 0, 0)
	putReady(w, 1, 1, 1, 0, 0)
	modelSettle(w)
	w = mustRun(t, w, 0, 5)
	w = mustRun(t, w, 1, 100)
	wantCpu(t, "dry", w.Cpus[1], impl.Cpu{Up: true, Cur: -1, Busy: 20, Idle: 80})
	if b := w.Groups[1].Band; b.Locals[0] != 15 || !b.Dry[1] {
		t.Fatalf("ahead of it: %+v", b)
	}
	w = mustRun(t, w, 0, 1)
	if b := w.Groups[1].Band; b.Pool != 15 || b.Locals[0] != 0 || b.Dry[1] || !impl.WorldLine(w, 1) {
		t.Errorf("given back: %+v", b)
	}
	w = mustRun(t, w, 1, 100)
	wantCpu(t, "goes on", w.Cpus[1], impl.Cpu{Up: true, Cur: -1, Busy: 35, Idle: 165})
}

// unusedWorld is a world of two processors with a task on 0 in a group of whose quota all that is left lies on 1, where nobody can use it.
func unusedWorld() impl.World {
	w := groupedWorld(2, 0)
	limitTo(w, 1, 40)
	putReady(w, 0, 1, 0, 0, 0)
	modelSettle(w)
	w.Groups[1].Band.Pool, w.Groups[1].Band.Spent, w.Groups[1].Band.Locals[1] = 0, 20, 20
	return w
}

// A group that is dry goes on in the same run, if what lay elsewhere comes back.
func TestRunGoesOnBehindDry(t *testing.T) {
	w := mustRun(t, unusedWorld(), 0, 100)
	wantCpu(t, "the processor", w.Cpus[0], impl.Cpu{Up: true, Cur: -1, Busy: 20, Idle: 80})
	if b := w.Groups[1].Band; b.Spent != 40 || !b.Dry[0] {
		t.Errorf("%+v", b)
	}
}

// The list settles behind idle units, not ahead of them: in a world that was put together with a quota lying about, and that was never settled, they are idle once.
func TestRunOfWhatWasNeverSettled(t *testing.T) {
	w := unusedWorld()
	w.Groups[1].Band.Dry[0], w.Groups[1].Shelves[0].On = true, false
	if !impl.WorldOk(w) || isSettled(w) {
		t.Fatalf("%v", worldFaults(w))
	}
	w = mustRun(t, w, 0, 5)
	wantCpu(t, "at first", w.Cpus[0], impl.Cpu{Up: true, Cur: -1, Idle: 5})
	w = mustRun(t, w, 0, 5)
	wantCpu(t, "then", w.Cpus[0], impl.Cpu{Up: true, Cur: 0, Ran: 5, Busy: 5, Idle: 5})
}

// Refused is first what is no run and no processor, then one that is down, then what has no room.
func TestRunCodes(t *testing.T) {
	for name, change := range map[string]func(w *impl.World){
		"room":    func(w *impl.World) { w.Tasks[7].V = 0 },
		"no room": func(*impl.World) {},
	} {
		w := handWorld()
		change(&w)
		for _, cpu := range processorsToTry(w) {
			for _, n := range runsToTry() {
				want := impl.CodeDone
				switch {
				case n < 1 || n > 100 || cpu < 0 || cpu > 3:
					want = impl.CodeBad
				case cpu == 3:
					want = impl.CodeState
				case name == "no room":
					want = impl.CodeEnd
				}
				out, code := impl.WorldRun(w, cpu, n)
				if code != want || code != impl.CodeDone && !sameWorld(out, w) {
					t.Errorf("%s: run of %d on %d: %d, want %d", name, n, cpu, code, want)
				}
			}
		}
	}
}

// A run is done as long as nothing is beyond TimeMax / 2, wherever that is; then it may go beyond.
func TestRunRoomAtTheEdges(t *testing.T) {
	const half = timeLimit / 2
	for name, field := range roomFields() {
		for n, want := range map[int]int{half - 1: impl.CodeDone, half: impl.CodeDone, half + 1: impl.CodeEnd, timeLimit: impl.CodeEnd} {
			w := roomyWorld()
			*field(&w) = n
			for cpu := range 3 {
				out, code := impl.WorldRun(w, cpu, 100)
				model, _, _ := modelWorldRun(w, cpu, 100)
				if code != want || !sameWorld(out, model) || !impl.WorldOk(out) {
					t.Errorf("%s at %d: run on %d: %d, ok %v", name, n, cpu, code, impl.WorldOk(out))
				}
			}
		}
	}
}

// The last run that has room: of who stands at TimeMax / 2, with the least weight, at all depths. The next one is refused.
func TestRunBeyondTheHalf(t *testing.T) {
	const half = timeLimit / 2
	w := groupedWorld(1, 0, 1, 2)
	putReady(w, 0, 3, 0, 9, half)
	w.Cpus[0].Busy, w.Tasks[0].Sum, w.Tasks[0].Used = half, half, half
	for g := range 4 {
		w.Groups[g].Sum, w.Groups[g].Shelves[0] = half, impl.Shelf{Floor: half, On: g > 0, V: half, W: 1, Sum: half}
	}
	w.Groups[0].Shelves[0].V, w.Groups[0].Shelves[0].W = 0, rootWeight
	out := mustRun(t, w, 0, 100)
	if out.Tasks[0].V != half+100*unitStep || out.Groups[1].Shelves[0].V != half+100*unitStep || out.Groups[0].Shelves[0].Floor != half+100*unitStep {
		t.Errorf("%+v", out)
	}
	if out.Tasks[0].Sum != half+100 || out.Tasks[0].Used != half+100 || out.Groups[0].Sum != half+100 || out.Cpus[0].Busy != half+100 {
		t.Errorf("%+v", out)
	}
	if again, code := impl.WorldRun(out, 0, 1); code != impl.CodeEnd || !sameWorld(again, out) {
		t.Errorf("once more: %d, %+v", code, again)
	}
	idle := emptyWorld(2)
	idle.Cpus[1].Idle = half
	idle = mustRun(t, idle, 1, 100)
	if again, code := impl.WorldRun(idle, 0, 1); code != impl.CodeEnd || idle.Cpus[1].Idle != half+100 || !sameWorld(again, idle) {
		t.Errorf("idle: %d, %+v", code, idle.Cpus)
	}
}

// Of what is no world nobody is next, and nothing is done with it, whatever else is asked.
func TestRunOfBrokenWorlds(t *testing.T) {
	for _, c := range brokenWorlds() {
		for _, cpu := range []int{-1, 0, 1, 3, len(c.world.Cpus)} {
			if got := impl.WorldPick(c.world, cpu); got != -1 {
				t.Errorf("%s: next on %d is %d", c.name, cpu, got)
			}
			for _, n := range []int{0, 1, 100, 101} {
				if out, code := impl.WorldRun(c.world, cpu, n); code != impl.CodeBad || !isNoWorld(out) {
					t.Errorf("%s: run of %d on %d: %d, %+v", c.name, n, cpu, code, out)
				}
			}
			if out, code := impl.WorldYield(c.world, cpu); code != impl.CodeBad || !isNoWorld(out) {
				t.Errorf("%s: yield on %d: %d, %+v", c.name, cpu, code, out)
			}
		}
	}
}

// countPieces counts what thrown runs did.
func countPieces(pieces []runPiece, seen map[string]int) {
	for i, p := range pieces {
		switch {
		case p.what == pieceDry && i == 0:
			seen["dry ahead of the first unit"]++
		case p.what == pieceDry && p.left == 1:
			seen["dry at the last unit"]++
		case p.what == pieceDry:
			seen["dry in the midst"]++
		case p.what == pieceIdle && i == 0:
			seen["nobody"]++
		case p.what == pieceIdle && pieces[i-1].what == pieceDry:
			seen["idle behind dry"]++
		case p.what == pieceBusy && i > 0 && pieces[i-1].what == pieceDry && pieces[i-1].who == p.who:
			seen["the same one behind dry"]++
		case p.what == pieceBusy && i > 0 && pieces[i-1].what == pieceDry:
			seen["another one behind dry"]++
		case p.what == pieceBusy && i > 0 && pieces[i-1].who == p.who:
			seen["goes on in slices"]++
		case p.what == pieceBusy && i > 0:
			seen["another one in the midst"]++
		default:
			seen["at once"]++
		}
	}
}

// Of thrown worlds runs do what the list says, step by step, and what is ok stays so.
func TestRunsThrown(t *testing.T) {
	t.Parallel()
	d := &dice{state: 9}
	seen := map[string]int{}
	for range 2500 {
		w := thrownToRun(d)
		worldSights(w, seen)
		for range 6 {
			cpu, n := d.below(len(w.Cpus)), d.oneOf(1, 20, 49, 50, 100, 100, 1+d.below(100))
			want, wantCode, pieces := modelWorldRun(w, cpu, n)
			got, code := impl.WorldRun(w, cpu, n)
			if code != wantCode || !sameWorld(got, want) {
				t.Fatalf("run of %d on %d: %d, %+v, want %d, %+v, by %v: %+v", n, cpu, code, got, wantCode, want, pieces, w)
			}
			if !liesUnused(w) && !impl.WorldOk(got) || code == impl.CodeDone && !isSettled(got) {
				t.Fatalf("run of %d on %d: %v: %+v", n, cpu, worldFaults(got), w)
			}
			countPieces(pieces, seen)
			seen["code "+strconv.Itoa(code)]++
			if !impl.WorldOk(got) {
				seen["not ok"]++
				break
			}
			w = got
		}
	}
	for _, sight := range []string{
		"1 processors", "2 processors", "3 processors", "4 processors", "down", "dry", "blocked", "in line", "held back",
		"current at depth 0", "current at depth 1", "current at depth 2", "current at depth 3", "code 0", "code 6", "code 10",
		"dry ahead of the first unit", "dry in the midst", "nobody", "idle behind dry", "another one behind dry",
		"goes on in slices", "another one in the midst", "at once",
	} {
		if seen[sight] < 100 {
			t.Errorf("%s: %d times: the worlds try too little", sight, seen[sight])
		}
	}
	if seen["dry at the last unit"] < 10 || seen["the same one behind dry"] < 10 {
		t.Errorf("%v: the worlds try too little", seen)
	}
}

// Of thrown worlds, with and without room, all that may be asked is told as the words say.
func TestRunsThrownAtAnything(t *testing.T) {
	t.Parallel()
	d := &dice{state: 91}
	for round := range 150 {
		w := thrownWorld(d, []int{timeLimit, timeLimit / 2, timeLimit/2 + 1, 10 * unitStep}[round%4])
		for _, cpu := range processorsToTry(w) {
			if got, want := impl.WorldPick(w, cpu), modelNext(w, cpu); got != want {
				t.Fatalf("next on %d: %d, want %d: %+v", cpu, got, want, w)
			}
			for _, n := range runsToTry() {
				want, wantCode, _ := modelWorldRun(w, cpu, n)
				if got, code := impl.WorldRun(w, cpu, n); code != wantCode || !sameWorld(got, want) {
					t.Fatalf("run of %d on %d: %d, %+v, want %d, %+v: %+v", n, cpu, code, got, wantCode, want, w)
				}
			}
			want, wantCode := modelYield(w, cpu)
			if got, code := impl.WorldYield(w, cpu); code != wantCode || !sameWorld(got, want) {
				t.Fatalf("yield on %d: %d, %+v, want %d: %+v", cpu, code, got, wantCode, w)
			}
		}
	}
}

// runCalls are the calls of the chapter that give a world, at arguments that are ok and at others.
func runCalls() map[string]func(w impl.World) (impl.World, int) {
	calls := map[string]func(w impl.World) (impl.World, int){}
	for _, cpu := range []int{-1, 0, 1, 2, 3, 4} {
		calls["yield on "+strconv.Itoa(cpu)] = func(w impl.World) (impl.World, int) { return impl.WorldYield(w, cpu) }
		for _, n := range []int{0, 1, 100, 101} {
			calls["run of "+strconv.Itoa(n)+" on "+strconv.Itoa(cpu)] = func(w impl.World) (impl.World, int) { return impl.WorldRun(w, cpu, n) }
		}
	}
	return calls
}

// worldsToKeep are worlds with and without room, and some that are not ok.
func worldsToKeep(d *dice) []impl.World {
	worlds := []impl.World{handWorld(), roomyWorld(), limitedRival(30), unusedWorld(), nestedWorld(33, 20, 50), emptyWorld(4)}
	for range 25 {
		worlds = append(worlds, thrownToRun(d), thrownWorld(d, timeLimit))
	}
	for i, c := range brokenWorlds() {
		if i%40 == 0 {
			worlds = append(worlds, c.world)
		}
	}
	return worlds
}

// What is handed in is as it was, spare room and all; what is answered shares no memory with it, done or refused.
func TestRunMemory(t *testing.T) {
	for _, world := range worldsToKeep(&dice{state: 92}) {
		for name, call := range runCalls() {
			wantKept(t, name, world, call)
		}
		for cpu := -1; cpu <= cpuLimit; cpu++ {
			w, asItWas := worldWithRoom(world)
			impl.WorldPick(w, cpu)
			if !asItWas() {
				t.Fatalf("pick on %d: written into %+v", cpu, world)
			}
		}
	}
}

// wantKept holds a call against what is said of memory: a world that is handed in is as it was, and nothing of it is in the answer.
func wantKept(t *testing.T, name string, world impl.World, call func(w impl.World) (impl.World, int)) {
	t.Helper()
	w, asItWas := worldWithRoom(world)
	out, code := call(w)
	if !asItWas() {
		t.Fatalf("%s: written into %+v", name, world)
	}
	want, wantCode := call(world)
	if code != wantCode || !sameWorld(out, want) {
		t.Fatalf("%s: spare room is looked at: %d, %+v", name, code, out)
	}
	scribbleWorld(out)
	if !asItWas() {
		t.Fatalf("%s: code %d: shares memory with %+v", name, code, world)
	}
	scribbleWorld(w)
	if again, _ := call(world); !sameWorld(again, want) {
		t.Fatalf("%s: something is kept: %+v", name, again)
	}
}

// No two lists of one answer share memory.
func TestRunListsAreApart(t *testing.T) {
	for _, world := range worldsToKeep(&dice{state: 93}) {
		for name, call := range runCalls() {
			out, _ := call(world)
			wantListsApart(t, name, out)
		}
	}
}

// wantListsApart puts something behind and into each list of a world: it is not seen in another one.
func wantListsApart(t *testing.T, name string, out impl.World) {
	t.Helper()
	want := cloneWorld(out)
	for i, group := range out.Groups {
		_ = append(group.Shelves, impl.Shelf{V: -7})
		_ = append(group.Band.Locals, -7)
		_ = append(group.Band.Dry, true)
		for at := range group.Shelves {
			group.Shelves[at].Sum = -i - at
			want.Groups[i].Shelves[at].Sum = -i - at
		}
		for at := range group.Band.Locals {
			group.Band.Locals[at] = -i - at
			want.Groups[i].Band.Locals[at] = -i - at
		}
		for at := range group.Band.Dry {
			group.Band.Dry[at] = i%2 == 0
			want.Groups[i].Band.Dry[at] = i%2 == 0
		}
	}
	_ = append(out.Cpus, impl.Cpu{Cur: 7})
	_ = append(out.Tasks, impl.Task{State: 7})
	_ = append(out.Groups, impl.Group{Parent: 7})
	if !sameWorld(out, want) {
		t.Fatalf("%s: %+v, want %+v", name, out, want)
	}
}

// runAnswers is all that the functions of the chapter tell of a world.
func runAnswers(w impl.World) string {
	var told strings.Builder
	tell := func(out impl.World, code int) {
		told.WriteString(strconv.Itoa(code) + worldAnswers(out))
		for _, c := range out.Cpus {
			told.WriteString(" " + strconv.Itoa(c.Cur) + " " + strconv.Itoa(c.Ran) + " " + strconv.Itoa(c.Busy) + " " + strconv.Itoa(c.Idle))
		}
		for _, sum := range sumsOf(out) {
			told.WriteString(" " + strconv.Itoa(sum))
		}
	}
	for cpu := -1; cpu <= cpuLimit; cpu++ {
		told.WriteString(strconv.Itoa(impl.WorldPick(w, cpu)))
		for _, n := range []int{0, 1, 100} {
			tell(impl.WorldRun(w, cpu, n))
		}
		tell(impl.WorldYield(w, cpu))
	}
	return told.String()
}

// However often it is asked, and by how many at the same time, the same is told.
func TestRunIsTheSameEachTime(t *testing.T) {
	t.Parallel()
	d := &dice{state: 94}
	worlds := []impl.World{handWorld(), roomyWorld(), nestedWorld(33, 20, 50), brokenWorlds()[0].world}
	for range 6 {
		worlds = append(worlds, thrownToRun(d))
	}
	wantSameEachTime(t, worlds, runAnswers)
}

// A run touches no other processor, and no task that is elsewhere or waits, but what it gives back of a quota.
func TestRunLeavesOthersAlone(t *testing.T) {
	d := &dice{state: 95}
	for range 800 {
		w := thrownToRun(d)
		modelSettle(w)
		cpu := d.below(len(w.Cpus))
		out, code := impl.WorldRun(w, cpu, 1+d.below(100))
		if code != impl.CodeDone {
			continue
		}
		for other := range w.Cpus {
			if other != cpu && w.Cpus[other] != out.Cpus[other] {
				t.Fatalf("the processor %d: %+v: %+v", other, out.Cpus[other], w)
			}
		}
		for at, task := range w.Tasks {
			if (task.State != impl.TaskReady || task.Cpu != cpu) && task != out.Tasks[at] {
				t.Fatalf("the task %d: %+v: %+v", at, out.Tasks[at], w)
			}
		}
		if !slices.EqualFunc(w.Groups, out.Groups, func(a, b impl.Group) bool {
			return a.Used == b.Used && a.Parent == b.Parent && a.Name == b.Name && a.Weight == b.Weight && a.Cpus == b.Cpus && a.Period == b.Period && a.Next == b.Next && a.Band.Quota == b.Band.Quota
		}) || w.Now != out.Now {
			t.Fatalf("the groups: %+v: %+v", out.Groups, w)
		}
	}
}
