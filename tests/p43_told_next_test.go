package tests

import (
	"strconv"
	"testing"

	"loop.example/stint/impl"
)

// wantToldNext holds a run of one unit against the promise: it goes to who is told to be next, or to nobody if nobody is.
func wantToldNext(t *testing.T, w impl.World, cpu int) impl.World {
	t.Helper()
	next := impl.WorldPick(w, cpu)
	is, code := impl.WorldDo(w, impl.Item{Kind: kindRun, At: cpu, N: 1})
	if code != impl.CodeDone {
		if !sameWorld(is, w) {
			t.Fatalf("code %d: %+v: %+v", code, is, w)
		}
		return is
	}
	for at := range is.Tasks {
		want := 0
		if at == next {
			want = 1
		}
		if got := is.Tasks[at].Sum - w.Tasks[at].Sum; got != want {
			t.Fatalf("%d is next on %d, but %d got %d: %+v", next, cpu, at, got, w)
		}
	}
	idle := 0
	if next < 0 {
		idle = 1
	}
	if is.Cpus[cpu].Idle-w.Cpus[cpu].Idle != idle || is.Cpus[cpu].Cur != next {
		t.Fatalf("%d is next on %d: %+v: %+v", next, cpu, is.Cpus[cpu], w)
	}
	return is
}

// P43: of thrown worlds without quotas, settled or not, on each processor, for some units.
func TestToldNextIsNext(t *testing.T) {
	t.Parallel()
	d := &dice{state: 43}
	seen := map[string]int{}
	for range 2500 {
		w := withoutQuotas(thrownToPlay(d))
		for cpu := range w.Cpus {
			switch next, c := impl.WorldPick(w, cpu), w.Cpus[cpu]; {
			case !c.Up:
				seen["down"]++
			case !impl.WorldRoom(w):
				seen["no room"]++
			case next < 0:
				seen["nobody"]++
			case next == c.Cur && c.Ran < shortStay:
				seen["in the midst of a stay"]++
			case next == c.Cur:
				seen["stays on"]++
			default:
				seen["at depth "+strconv.Itoa(len(outOf(w.Groups, w.Tasks[next].Group))-1)]++
			}
			out := w
			for range 3 {
				out = wantToldNext(t, out, cpu)
			}
		}
	}
	for _, sight := range []string{"down", "no room", "nobody", "in the midst of a stay", "stays on", "at depth 0", "at depth 1", "at depth 2", "at depth 3"} {
		if seen[sight] < 50 {
			t.Errorf("%s: %d times: the worlds try too little", sight, seen[sight])
		}
	}
}

// P43: in plays on new worlds, behind each item, whatever it was.
func TestToldNextInPlays(t *testing.T) {
	t.Parallel()
	d := &dice{state: 4343}
	for range 25 {
		playOn(d, withoutQuotas(builtWorld(d)), playLimit, freeItem, func(s itemStep) {
			for cpu := range s.is.Cpus {
				wantToldNext(t, s.is, cpu)
			}
		})
	}
}

// P43: unit by unit, of three tasks in three queues, who is told is who gets it, for each unit of some stays.
func TestToldNextUnitByUnit(t *testing.T) {
	w := groupedWorld(1, 0, 1)
	for at := range 3 {
		putReady(w, at, at, 0, 4*at-5, 0)
	}
	modelSettle(w)
	for range 700 {
		w = wantToldNext(t, w, 0)
	}
	if sums := sumsOf(w); min(sums[0], sums[1], sums[2]) < 100 || sums[0]+sums[1]+sums[2] != 700 {
		t.Errorf("%v", sums[:3])
	}
}

// P43 speaks of worlds without quotas: with one, who is told to be next may be held back by it, and another one goes on, or nobody.
func TestToldNextWithAQuota(t *testing.T) {
	w := limitedRival(5)
	w = mustRun(t, w, 0, 5)
	if next := impl.WorldPick(w, 0); next != 0 {
		t.Fatalf("%d is next: %+v", next, w)
	}
	out := mustRun(t, w, 0, 1)
	if out.Tasks[0].Sum != 5 || out.Tasks[1].Sum != 1 || impl.WorldPick(out, 0) != 1 {
		t.Errorf("%+v", out)
	}
}

// P43: who is next on a processor that there isn't is nobody, and nothing runs there.
func TestToldNextOfNothing(t *testing.T) {
	w := withoutQuotas(crowdedWorld(3))
	for _, cpu := range append([]int{-1, 3, 4, 64}, farInts()...) {
		if out, code := impl.WorldDo(w, impl.Item{Kind: kindRun, At: cpu, N: 1}); impl.WorldPick(w, cpu) != -1 || code != impl.CodeBad || !sameWorld(out, w) {
			t.Errorf("%d: %d, %+v", cpu, code, out)
		}
	}
	for _, broken := range brokenWorlds() {
		if out, code := impl.WorldDo(broken.world, impl.Item{Kind: kindRun, N: 1}); impl.WorldPick(broken.world, 0) != -1 || code != impl.CodeBad || !isNoWorld(out) {
			t.Errorf("%s: %d, %+v", broken.name, code, out)
		}
	}
}
