package tests

import (
	"testing"

	"loop.example/stint/impl"
)

// wantNothingForWhoWaits holds a run against the promise: a task that is blocked, or on another processor, has got nothing by it, and is as it was.
func wantNothingForWhoWaits(t *testing.T, w impl.World, cpu, n int, seen map[string]int) impl.World {
	t.Helper()
	is, code := impl.WorldDo(w, impl.Item{Kind: kindRun, At: cpu, N: n})
	for at, x := range is.Tasks {
		was := w.Tasks[at]
		waits := was.State != impl.TaskReady || was.Cpu != cpu
		if (waits || code != impl.CodeDone) && x != was {
			t.Fatalf("run of %d on %d: code %d: the task %d is %+v, it was %+v: %+v", n, cpu, code, at, x, was, w)
		}
		switch {
		case code != impl.CodeDone:
		case was.State == impl.TaskBlocked && was.Cpu == cpu:
			seen["blocked here"]++
		case was.State == impl.TaskBlocked:
			seen["blocked elsewhere"]++
		case was.State == impl.TaskReady && waits && w.Cpus[was.Cpu].Cur == at:
			seen["current elsewhere"]++
		case was.State == impl.TaskReady && waits:
			seen["ready elsewhere"]++
		case was.State == impl.TaskNone:
			seen["none"]++
		case x.Sum > was.Sum:
			seen["got something"]++
		}
	}
	return is
}

// P47: of thrown worlds, settled or not, with quotas and without, over some runs of all processors.
func TestWhoWaitsGetsNothing(t *testing.T) {
	d := &dice{state: 47}
	seen := map[string]int{}
	for range 2500 {
		w := thrownToPlay(d)
		for range 6 {
			w = wantNothingForWhoWaits(t, w, d.below(len(w.Cpus)), d.oneOf(1, 50, 100, 1+d.below(tickLimit)), seen)
		}
	}
	for _, sight := range []string{"blocked here", "blocked elsewhere", "current elsewhere", "ready elsewhere", "none", "got something"} {
		if seen[sight] < 200 {
			t.Errorf("%s: %d times: the worlds try too little", sight, seen[sight])
		}
	}
}

// P47: in plays on new worlds each run, behind whatever came ahead of it.
func TestWhoWaitsGetsNothingInPlays(t *testing.T) {
	d := &dice{state: 4747}
	seen := map[string]int{}
	for range 60 {
		playOn(d, builtWorld(d), playLimit, anyItem, func(s itemStep) {
			if s.item.Kind == kindRun && s.code == impl.CodeDone {
				wantNothingForWhoWaits(t, s.was, s.item.At, s.item.N, seen)
			}
		})
	}
	if seen["blocked here"] < 200 || seen["current elsewhere"] < 200 {
		t.Errorf("%v: the plays try too little", seen)
	}
}

// P47: of one world with a task of each kind in each group, on each processor: however long one processor goes on, just those get something that are ready there.
func TestWhoWaitsForLong(t *testing.T) {
	w := groupedWorld(2, 0, 1)
	for at := range taskLimit {
		putReady(w, at, at%3, at%2, at-6, 0)
		w.Tasks[at].State = 1 + at/2%2
	}
	modelSettle(w)
	for cpu := range 2 {
		out := w
		for i := range 200 {
			out = wantNothingForWhoWaits(t, out, cpu, 1+i*13%100, map[string]int{})
		}
		for at, x := range out.Tasks {
			if gets := x.State == impl.TaskReady && x.Cpu == cpu; gets != (x.Sum > 0) {
				t.Errorf("the task %d has got %d on %d", at, x.Sum, cpu)
			}
		}
	}
}

// P47: whoever is put to sleep, or to another processor, gets nothing from then on, also when they were current; when they wake, or come back, they do.
func TestWhoWaitsFromThenOn(t *testing.T) {
	w := groupedWorld(2, 0)
	putReady(w, 0, 1, 0, 0, 0)
	putReady(w, 1, 0, 0, 0, 1)
	modelSettle(w)
	for _, c := range []struct{ away, back impl.Item }{
		{impl.Item{Kind: kindBlock}, impl.Item{Kind: kindWake}}, {impl.Item{Kind: kindPin, N: 2}, impl.Item{Kind: kindPin, N: 1}}, {impl.Item{Kind: kindCpus, At: 1, N: 2}, impl.Item{Kind: kindCpus, At: 1, N: 1}},
	} {
		w.Tasks[0].Mask = everyCpu
		for w.Cpus[0].Cur != 0 {
			w = mustRun(t, w, 0, 50)
		}
		out, code := impl.WorldDo(w, c.away)
		sum := out.Tasks[0].Sum
		for range 10 {
			out = wantNothingForWhoWaits(t, out, 0, 100, map[string]int{})
		}
		if code != impl.CodeDone || out.Tasks[0].Sum != sum || out.Tasks[1].Sum != w.Tasks[1].Sum+1000 {
			t.Errorf("%+v: %d, %+v", c.away, code, out.Tasks[:2])
		}
		out, code = impl.WorldDo(out, impl.Item{Kind: kindPin, At: 1, N: 1})
		out, again := impl.WorldDo(out, c.back)
		if out.Tasks[0].Cpu == 0 {
			for range 10 {
				out = mustRun(t, out, 0, 100)
			}
			if out.Tasks[0].Sum < sum+300 {
				t.Errorf("%+v: %d, %d, %+v", c.back, code, again, out.Tasks[:2])
			}
		}
	}
}

// P47: by a run that is refused nobody gets anything.
func TestWhoWaitsForARefusedRun(t *testing.T) {
	for _, w := range []impl.World{handWorld(), callWorld(), crowdedWorld(4)} {
		for _, cpu := range processorsToTry(w) {
			for _, n := range runsToTry() {
				if out, code := impl.WorldRun(w, cpu, n); code != impl.CodeDone && !sameWorld(out, w) {
					t.Errorf("run of %d on %d: %d, %+v", n, cpu, code, out)
				}
				if out, _ := impl.WorldRun(w, cpu, n); len(out.Tasks) > 0 {
					wantNothingForWhoWaits(t, w, cpu, n, map[string]int{})
				}
			}
		}
	}
}
