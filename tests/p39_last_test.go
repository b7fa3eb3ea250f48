package tests

import (
	"testing"

	"loop.example/stint/impl"
)

// wantLastStays holds a processor that is to go against the promise: one that is up goes just if another one is up, where there is room.
func wantLastStays(t *testing.T, w impl.World, cpu int) (impl.World, int) {
	t.Helper()
	out, code := impl.CpuOff(w, cpu)
	others, up := 0, false
	for other, x := range w.Cpus {
		switch {
		case other == cpu:
			up = x.Up
		case x.Up:
			others++
		}
	}
	goes := up && others > 0 && impl.WorldRoom(w)
	if goes != (code == impl.CodeDone) || up && others == 0 && code != impl.CodeLast || !impl.WorldOk(out) {
		t.Fatalf("on %d: %d, up %v, %d others: %+v: %+v", cpu, code, up, others, out, w)
	}
	if !goes && !sameWorld(out, w) {
		t.Fatalf("on %d: %d, %+v: %+v", cpu, code, out, w)
	}
	for other, x := range w.Cpus {
		if want := x.Up && (other != cpu || !goes); out.Cpus[other].Up != want {
			t.Fatalf("on %d: %d is up: %v: %+v", cpu, other, !want, w)
		}
	}
	return out, code
}

// P39: of thrown worlds, with and without room, settled or not, each processor, one behind the other, till one is left.
func TestLastProcessorStays(t *testing.T) {
	d := &dice{state: 39}
	seen := map[int]int{}
	for range 3000 {
		w := thrownToBalance(d)
		first := d.below(cpuLimit)
		for i := range cpuLimit + 2 {
			out, code := wantLastStays(t, w, (first+i)%(cpuLimit+2)-1)
			seen[code]++
			w = out
		}
	}
	for _, code := range []int{impl.CodeDone, impl.CodeBad, impl.CodeState, impl.CodeLast, impl.CodeEnd} {
		if seen[code] < 100 {
			t.Errorf("codes %v: the worlds try too little", seen)
		}
	}
}

// P39: of all numbers of processors, whichever are up, each one: with nobody there, and with somebody current on each.
func TestLastProcessorStaysOfAnyUps(t *testing.T) {
	for cpus := 1; cpus <= cpuLimit; cpus++ {
		for up := 1; up < 1<<cpus; up++ {
			empty := emptyWorld(cpus)
			for cpu := range cpus {
				empty.Cpus[cpu].Up = up>>cpu&1 == 1
			}
			busy := cloneWorld(empty)
			for _, cpu := range modelUps(busy) {
				putReady(busy, cpu, 0, cpu, 0, 0)
				busy.Tasks[cpu].Mask = 1 << cpu
				goOnWith(busy, cpu)
			}
			for _, w := range []impl.World{empty, busy} {
				for cpu := -1; cpu <= cpuLimit; cpu++ {
					_, code := wantLastStays(t, w, cpu)
					want := impl.CodeDone
					switch {
					case cpu < 0 || cpu >= cpus:
						want = impl.CodeBad
					case up>>cpu&1 == 0:
						want = impl.CodeState
					case up == 1<<cpu:
						want = impl.CodeLast
					}
					if code != want {
						t.Errorf("%d processors, up %b, on %d: %d, want %d", cpus, up, cpu, code, want)
					}
				}
			}
		}
	}
}

// P39: in whatever order they go the last one stays, till another one has come; then it may go.
func TestLastProcessorStaysTillAnotherComes(t *testing.T) {
	for cpus := 1; cpus <= cpuLimit; cpus++ {
		for _, order := range orders(cpus) {
			w, last := crowdedWorld(cpus), order[cpus-1]
			for _, cpu := range order {
				w, _ = wantLastStays(t, w, cpu)
			}
			for range 3 {
				if _, code := wantLastStays(t, w, last); code != impl.CodeLast {
					t.Errorf("%v: the last one: %d", order, code)
				}
			}
			if cpus == 1 {
				continue
			}
			w = mustCall(t, w, cpuCall{callOn, order[0]})
			if _, code := wantLastStays(t, w, last); code != impl.CodeDone {
				t.Errorf("%v: another one has come: %d", order, code)
			}
			if _, code := wantLastStays(t, w, order[0]); code != impl.CodeDone {
				t.Errorf("%v: the one that has come: %d", order, code)
			}
		}
	}
}

// P39 speaks of a world with room: if there is none the last one is told as such all the same, and another one stays, too.
func TestLastProcessorWithoutRoom(t *testing.T) {
	for _, n := range []int{timeLimit / 2, timeLimit/2 + 1, timeLimit} {
		w := emptyWorld(2)
		w.Cpus[0].Busy = n
		want := map[bool]int{true: impl.CodeDone, false: impl.CodeEnd}[n == timeLimit/2]
		for cpu := range 2 {
			if _, code := wantLastStays(t, w, cpu); code != want {
				t.Errorf("at %d: on %d: %d", n, cpu, code)
			}
		}
		w.Cpus[1].Up = false
		if _, code := wantLastStays(t, w, 0); code != impl.CodeLast {
			t.Errorf("at %d: the last one: %d", n, code)
		}
		if _, code := wantLastStays(t, w, 1); code != impl.CodeState {
			t.Errorf("at %d: one that is down: %d", n, code)
		}
	}
}

// P39: what is no processor, and anything of what is no world, does not go.
func TestNoProcessorGoesOfWhatIsNone(t *testing.T) {
	for _, w := range []impl.World{callWorld(), handWorld(), emptyWorld(1)} {
		for _, cpu := range processorsToTry(w) {
			wantLastStays(t, w, cpu)
		}
	}
	for _, c := range brokenWorlds() {
		for cpu := range cpuLimit {
			if out, code := impl.CpuOff(c.world, cpu); code != impl.CodeBad || !isNoWorld(out) {
				t.Errorf("%s: on %d: %d, %+v", c.name, cpu, code, out)
			}
		}
	}
}
