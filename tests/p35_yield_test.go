package tests

import (
	"testing"

	"loop.example/stint/impl"
)

// wantYield holds a yield where somebody is current against the promise.
func wantYield(t *testing.T, w impl.World, cpu int) impl.World {
	t.Helper()
	out, code := impl.WorldYield(w, cpu)
	want := cloneWorld(w)
	want.Cpus[cpu].Cur, want.Cpus[cpu].Ran = -1, 0
	if code != impl.CodeDone || !sameWorld(out, want) || !impl.WorldOk(out) {
		t.Fatalf("yield on %d: %d, %+v: %+v", cpu, code, out, w)
	}
	next := impl.WorldPick(out, cpu)
	if next == -1 || !impl.WorldLine(out, next) {
		t.Fatalf("yield on %d: then %d: %+v", cpu, next, w)
	}
	wantNobodyBehind(t, out, out.Tasks[next].Group, cpu, out.Tasks[next].V)
	for g := out.Tasks[next].Group; g != 0; g = out.Groups[g].Parent {
		wantNobodyBehind(t, out, out.Groups[g].Parent, cpu, out.Groups[g].Shelves[cpu].V)
	}
	return out
}

// P35: of thrown worlds, with and without room, settled or not: nobody is current then, all else is as it was, and whoever is furthest behind is next.
func TestYield(t *testing.T) {
	d := &dice{state: 35}
	seen := map[string]int{}
	for round := range 2500 {
		w := thrownWorld(d, []int{timeLimit, timeLimit / 2, 10 * unitStep, 0}[round%4])
		for cpu := range w.Cpus {
			if w.Cpus[cpu].Cur == -1 {
				if out, code := impl.WorldYield(w, cpu); code != impl.CodeState || !sameWorld(out, w) {
					t.Fatalf("nobody is current on %d: %d, %+v: %+v", cpu, code, out, w)
				}
				seen["nobody"]++
				continue
			}
			out := wantYield(t, w, cpu)
			if impl.WorldPick(out, cpu) != impl.WorldPick(w, cpu) {
				seen["another one goes on"]++
			} else {
				seen["the same one goes on"]++
			}
			if !modelRoom(w) {
				seen["no room"]++
			}
			if !isSettled(w) {
				seen["never settled"]++
			}
		}
	}
	for _, sight := range []string{"nobody", "another one goes on", "the same one goes on", "no room", "never settled"} {
		if seen[sight] < 100 {
			t.Errorf("%v: the worlds try too little", seen)
		}
	}
}

// P35: at each length of a stay the one who is furthest behind goes on.
func TestYieldEndsEachStay(t *testing.T) {
	for ran := 1; ran <= longStay; ran++ {
		out := wantYield(t, rivals(ran), 0)
		if got := impl.WorldPick(out, 0); got != 1 {
			t.Errorf("behind %d units: %d", ran, got)
		}
		again := mustRun(t, out, 0, 5)
		wantCpu(t, "the other one", again.Cpus[0], impl.Cpu{Up: true, Cur: 1, Ran: 5, Busy: 5})
	}
}

// P35: who is furthest behind themselves go on, with a stay from the beginning.
func TestYieldOfWhoIsFurthestBehind(t *testing.T) {
	w := rivals(30)
	w.Tasks[1].V = w.Tasks[0].V + 1
	out := wantYield(t, w, 0)
	if got := impl.WorldPick(out, 0); got != 0 {
		t.Errorf("%d goes on", got)
	}
	wantCpu(t, "the same one", mustRun(t, out, 0, 5).Cpus[0], impl.Cpu{Up: true, Cur: 0, Ran: 5, Busy: 5})
	alone := nestedWorld(0, 50, 0)
	alone = mustRun(t, alone, 0, 10)
	if got := impl.WorldPick(wantYield(t, alone, 0), 0); got != 3 {
		t.Errorf("alone: %d goes on", got)
	}
}

// P35: a yield on one processor is none on another.
func TestYieldOnOneProcessor(t *testing.T) {
	for cpus := 1; cpus <= cpuLimit; cpus++ {
		w := emptyWorld(cpus)
		for cpu := range cpus {
			putReady(w, cpu, 0, cpu, 0, 0)
		}
		for cpu := range cpus {
			w = mustRun(t, w, cpu, 10+cpu)
		}
		for cpu := range cpus {
			w = wantYield(t, w, cpu)
			for other := range cpus {
				want := impl.Cpu{Up: true, Cur: other, Ran: 10 + other, Busy: 10 + other}
				if other <= cpu {
					want.Cur, want.Ran = -1, 0
				}
				wantCpu(t, "behind a yield", w.Cpus[other], want)
			}
		}
	}
}

// P35: where time is over, too, a yield is done.
func TestYieldWithoutRoom(t *testing.T) {
	for name, field := range roomFields() {
		for _, n := range []int{timeLimit / 2, timeLimit/2 + 1, timeLimit} {
			w := roomyWorld()
			*field(&w) = n
			if !impl.WorldOk(w) {
				t.Fatalf("%s at %d: %v", name, n, worldFaults(w))
			}
			wantYield(t, w, 1)
		}
	}
}

// P35 speaks of who is current: where nobody is, on what is no processor, and of what is no world, nothing is done.
func TestYieldOfNobody(t *testing.T) {
	w := handWorld()
	for _, cpu := range processorsToTry(w) {
		want := impl.CodeBad
		switch cpu {
		case 1:
			want = impl.CodeDone
		case 0, 2, 3:
			want = impl.CodeState
		}
		out, code := impl.WorldYield(w, cpu)
		if code != want || code != impl.CodeDone && !sameWorld(out, w) {
			t.Errorf("on %d: %d, want %d: %+v", cpu, code, want, out)
		}
	}
	w = wantYield(t, w, 1)
	if out, code := impl.WorldYield(w, 1); code != impl.CodeState || !sameWorld(out, w) {
		t.Errorf("once more: %d, %+v", code, out)
	}
	for _, c := range brokenWorlds() {
		for cpu := -1; cpu <= cpuLimit; cpu++ {
			if out, code := impl.WorldYield(c.world, cpu); code != impl.CodeBad || !isNoWorld(out) {
				t.Errorf("%s: on %d: %d, %+v", c.name, cpu, code, out)
			}
		}
	}
}
