package tests

import (
	"testing"

	"loop.example/stint/impl"
)

// wantRunInParts holds a run in two parts against the promise, if behind the first part somebody is in the midst of a stay; it tells whether somebody was.
func wantRunInParts(t *testing.T, w impl.World, cpu, first, second int) bool {
	t.Helper()
	half, code := impl.WorldRun(w, cpu, first)
	// Without room behind the first part the second one is refused, as of all calls.
	if code != impl.CodeDone || half.Cpus[cpu].Cur < 0 || half.Cpus[cpu].Ran >= shortStay || !impl.WorldRoom(half) {
		return false
	}
	got, gotCodes := impl.WorldGo(w, []impl.Item{{Kind: kindRun, At: cpu, N: first}, {Kind: kindRun, At: cpu, N: second}})
	want, wantCode := impl.WorldDo(w, impl.Item{Kind: kindRun, At: cpu, N: first + second})
	if wantCode != impl.CodeDone || gotCodes[0] != impl.CodeDone || gotCodes[1] != impl.CodeDone || !sameWorld(got, want) {
		t.Fatalf("%d and %d on %d: %v, %+v, at once %d, %+v: %+v", first, second, cpu, gotCodes, got, wantCode, want, w)
	}
	return true
}

// P44: of thrown worlds, settled or not, with quotas and without, at some numbers of units.
func TestRunInTwoParts(t *testing.T) {
	t.Parallel()
	d := &dice{state: 44}
	seen := map[string]int{}
	for range 5000 {
		w := thrownToPlay(d)
		if d.below(3) == 0 {
			w = thrownToRun(d)
			spendUnused(w)
		}
		for cpu := range w.Cpus {
			n := d.oneOf(2, tickLimit, 2+d.below(tickLimit-1))
			first := 1 + d.below(n-1)
			if !wantRunInParts(t, w, cpu, first, n-first) {
				seen["nobody in the midst"]++
				continue
			}
			_, _, pieces := modelWorldRun(w, cpu, n)
			dry := 0
			for _, p := range pieces {
				if p.what == pieceDry {
					dry++
				}
			}
			switch {
			case dry > 0:
				seen["dry on the way"]++
			case len(pieces) > 1:
				seen["in pieces"]++
			case hasQuota(w):
				seen["at once, with quotas"]++
			default:
				seen["at once"]++
			}
		}
	}
	for _, sight := range []string{"nobody in the midst", "dry on the way", "in pieces", "at once", "at once, with quotas"} {
		if seen[sight] < 50 {
			t.Errorf("%s: %d times: the worlds try too little", sight, seen[sight])
		}
	}
}

// P44: at all places where a run of 100 may be cut, with quotas that end at, ahead of and behind them.
func TestRunCutAnywhere(t *testing.T) {
	for _, quotas := range [][]int{{0}, {60}, {20}, {33, 20}, {20, 33, 50}, {100, 7}} {
		w := nestedWorld(quotas...)
		putReady(w, 1, 0, 0, 5, 3)
		putReady(w, 2, len(quotas), 0, -5, 9)
		modelSettle(w)
		cut := 0
		for first := 1; first < tickLimit; first++ {
			if wantRunInParts(t, w, 0, first, tickLimit-first) {
				cut++
			}
		}
		if cut < 40 {
			t.Errorf("%v: cut at %d places", quotas, cut)
		}
	}
}

// P44: a unit short of StayMin it is one run; at StayMin who is behind goes on, so it may be two. What hangs on it is the stay alone.
func TestRunCutAtTheEndOfAStay(t *testing.T) {
	for ran := 1; ran < shortStay; ran++ {
		w := rivals(ran)
		for _, first := range []int{1, shortStay - ran - 1, shortStay - ran, shortStay - ran + 1} {
			if first < 1 {
				continue
			}
			midst := wantRunInParts(t, w, 0, first, tickLimit-first)
			if want := ran+first < shortStay; midst != want {
				t.Errorf("ran %d, cut at %d: %v", ran, first, midst)
			}
			parts := mustRun(t, mustRun(t, w, 0, first), 0, tickLimit-first)
			if same := sameWorld(parts, mustRun(t, w, 0, tickLimit)); same != midst {
				t.Errorf("ran %d, cut at %d: the same %v", ran, first, same)
			}
		}
	}
}

// P44: also in many parts, as long as somebody is in the midst of a stay behind each but the last.
func TestRunInManyParts(t *testing.T) {
	w := rivals(1)
	want := mustRun(t, w, 0, 48)
	for _, part := range []int{1, 2, 3, 4, 6, 8, 12, 16, 24, 48} {
		out := w
		for range 48 / part {
			out = mustRun(t, out, 0, part)
		}
		if !sameWorld(out, want) {
			t.Errorf("parts of %d: %+v, want %+v", part, out, want)
		}
	}
}

// P44: a part that is refused is no part: of none, of too many units, of more than TickMax at once.
func TestRunInPartsThatAreRefused(t *testing.T) {
	w := rivals(1)
	for _, first := range append([]int{-1, 0, 101}, farInts()...) {
		if wantRunInParts(t, w, 0, first, 10) {
			t.Errorf("%d", first)
		}
		if out, code := impl.WorldRun(w, 0, first); code != impl.CodeBad || !sameWorld(out, w) {
			t.Errorf("%d: %d, %+v", first, code, out)
		}
	}
	for _, broken := range brokenWorlds() {
		if wantRunInParts(t, broken.world, 0, 10, 10) {
			t.Errorf("%s runs", broken.name)
		}
	}
	if out, codes := impl.WorldGo(w, []impl.Item{{Kind: kindRun, N: 48}, {Kind: kindRun, N: 100}}); codes[1] != impl.CodeDone || out.Cpus[0].Ran != longStay {
		t.Errorf("%v, %+v", codes, out.Cpus)
	}
	if _, code := impl.WorldRun(w, 0, 148); code != impl.CodeBad {
		t.Errorf("148 at once: %d", code)
	}
}
