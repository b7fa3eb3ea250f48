package tests

import (
	"strconv"
	"testing"

	"loop.example/stint/impl"
)

// inLineOn says whether somebody is in line on a processor, by what the program tells.
func inLineOn(w impl.World, cpu int) bool {
	for at, task := range w.Tasks {
		if task.Cpu == cpu && impl.WorldLine(w, at) {
			return true
		}
	}
	return false
}

// wantUnitsKept holds a run that is done against the promise: each of its units is busy or idle, each busy one is some task's of this processor.
func wantUnitsKept(t *testing.T, was, is impl.World, cpu, n int) {
	t.Helper()
	busy, idle := is.Cpus[cpu].Busy-was.Cpus[cpu].Busy, is.Cpus[cpu].Idle-was.Cpus[cpu].Idle
	if busy < 0 || idle < 0 || busy+idle != n {
		t.Fatalf("run of %d on %d: %d busy, %d idle: %+v", n, cpu, busy, idle, was)
	}
	got := 0
	for at, task := range is.Tasks {
		more := task.Sum - was.Tasks[at].Sum
		if more < 0 || more != task.Used-was.Tasks[at].Used || more > 0 && (task.State != impl.TaskReady || task.Cpu != cpu) {
			t.Fatalf("run of %d on %d: the task %d got %d: %+v", n, cpu, at, more, was)
		}
		got += more
	}
	if got != busy {
		t.Fatalf("run of %d on %d: %d busy, but the tasks got %d: %+v", n, cpu, busy, got, was)
	}
	for other := range is.Cpus {
		if other != cpu && (is.Cpus[other].Busy != was.Cpus[other].Busy || is.Cpus[other].Idle != was.Cpus[other].Idle) {
			t.Fatalf("run of %d on %d: %+v: %+v", n, cpu, is.Cpus[other], was)
		}
	}
}

// wantIdleJustForNobody holds the rest of it: behind an idle unit nobody is in line, and where nobody was each unit is idle.
func wantIdleJustForNobody(t *testing.T, was, is impl.World, cpu, n int) {
	t.Helper()
	idle := is.Cpus[cpu].Idle - was.Cpus[cpu].Idle
	if idle > 0 && inLineOn(is, cpu) {
		t.Fatalf("run of %d on %d: %d idle, but somebody is in line: %+v", n, cpu, idle, was)
	}
	if !inLineOn(was, cpu) && idle != n {
		t.Fatalf("run of %d on %d: nobody was in line, but %d idle: %+v", n, cpu, idle, was)
	}
}

// P9: of thrown worlds that are settled, over runs of all processors.
func TestIdleOnlyWhenNobodyMayRun(t *testing.T) {
	d := &dice{state: 99}
	seen := map[string]int{}
	for range 2000 {
		w := thrownSettled(d)
		for range 6 {
			cpu, n := d.below(len(w.Cpus)), d.oneOf(1, 1, 100, 100, 1+d.below(100))
			out, code := impl.WorldRun(w, cpu, n)
			if code != impl.CodeDone {
				continue
			}
			wantUnitsKept(t, w, out, cpu, n)
			wantIdleJustForNobody(t, w, out, cpu, n)
			switch idle := out.Cpus[cpu].Idle - w.Cpus[cpu].Idle; idle {
			case 0:
				seen["busy"]++
			case n:
				seen["idle"]++
			default:
				seen["both"]++
			}
			w = out
		}
	}
	for _, sight := range []string{"busy", "idle", "both"} {
		if seen[sight] < 100 {
			t.Errorf("%v: the worlds try too little", seen)
		}
	}
}

// P9: in a world that was put together and never settled each unit is busy or idle, too.
func TestUnitsAreKeptInWorldsNeverSettled(t *testing.T) {
	d := &dice{state: 98}
	for range 2500 {
		w := thrownWorld(d, d.oneOf(timeLimit/2, 20*unitStep))
		for cpu := range w.Cpus {
			n := d.oneOf(1, 100, 1+d.below(100))
			out, code := impl.WorldRun(w, cpu, n)
			if code != impl.CodeDone {
				continue
			}
			wantUnitsKept(t, w, out, cpu, n)
			if !liesUnused(w) {
				wantIdleJustForNobody(t, w, out, cpu, n)
			}
		}
	}
}

// P9: where nobody may run all is idle: nobody is there, waits for something, is on another processor or is held back.
func TestIdleWhereNobodyMayRun(t *testing.T) {
	for name, change := range map[string]func(w impl.World){
		"nobody":               func(impl.World) {},
		"waits":                func(w impl.World) { w.Tasks[0] = impl.Task{State: impl.TaskBlocked, Cpu: 1, Mask: everyCpu} },
		"waits in a group":     func(w impl.World) { w.Tasks[0] = impl.Task{State: impl.TaskBlocked, Group: 2, Cpu: 1, Mask: everyCpu} },
		"on another processor": func(w impl.World) { putReady(w, 0, 0, 0, 0, 0) },
		"in a group elsewhere": func(w impl.World) { putReady(w, 0, 2, 0, 0, 0) },
		"dry": func(w impl.World) {
			putReady(w, 0, 2, 1, 0, 0)
			limitTo(w, 2, 9)
			spendAll(w, 2)
			w.Groups[2].Band.Dry[1] = true
		},
		"an outer group is dry": func(w impl.World) {
			putReady(w, 0, 2, 1, 0, 0)
			limitTo(w, 1, 9)
			spendAll(w, 1)
			w.Groups[1].Band.Dry[1] = true
		},
		"nothing is left": func(w impl.World) {
			putReady(w, 0, 2, 1, 0, 0)
			limitTo(w, 1, 9)
			spendAll(w, 1)
		},
	} {
		w := groupedWorld(2, 0, 1)
		change(w)
		modelSettle(w)
		for _, n := range []int{1, 2, 99, 100} {
			out := mustRun(t, w, 1, n)
			wantCpu(t, name+": "+strconv.Itoa(n), out.Cpus[1], impl.Cpu{Up: true, Cur: -1, Idle: n})
			wantUnitsKept(t, w, out, 1, n)
			if inLineOn(out, 1) {
				t.Errorf("%s: somebody is in line: %+v", name, out)
			}
		}
	}
}

// P9: whoever may run keeps the processor busy, however deep they are, whatever their weight, and with any quota that is enough.
func TestBusyWhereSomebodyMayRun(t *testing.T) {
	for _, nice := range []int{-10, 0, 9} {
		for depth := range depthLimit + 1 {
			for _, quota := range []int{0, 100, 101, quotaLimit} {
				w := nestedWorld([]int{quota, quota, quota}[:depth]...)
				w.Tasks[3].Nice = nice
				for _, n := range []int{1, 19, 20, 21, 50, 99, 100} {
					out := mustRun(t, w, 0, n)
					if out.Cpus[0].Busy != n || out.Cpus[0].Idle != 0 || out.Tasks[3].Sum != n {
						t.Errorf("nice %d, depth %d, quota %d: %d units: %+v", nice, depth, quota, n, out.Cpus[0])
					}
				}
			}
		}
	}
}

// P9: of each number of processors each goes on by itself; one that is down has no units.
func TestIdleOnEachProcessor(t *testing.T) {
	for cpus := 1; cpus <= cpuLimit; cpus++ {
		for up := 1; up < 1<<cpus; up++ {
			w := emptyWorld(cpus)
			for cpu := range w.Cpus {
				w.Cpus[cpu].Up = up>>cpu&1 == 1
			}
			putReady(w, 0, 0, impl.MaskFirst(up), 0, 0)
			for cpu := range w.Cpus {
				out, code := impl.WorldRun(w, cpu, 8)
				switch {
				case !w.Cpus[cpu].Up:
					if code != impl.CodeState || !sameWorld(out, w) {
						t.Errorf("up %b: down: %d", up, code)
					}
				case cpu == impl.MaskFirst(up):
					wantCpu(t, "busy", out.Cpus[cpu], impl.Cpu{Up: true, Cur: 0, Ran: 8, Busy: 8})
				default:
					wantCpu(t, "idle", out.Cpus[cpu], impl.Cpu{Up: true, Cur: -1, Idle: 8})
				}
			}
		}
	}
}

// P9: a quota that ends in a run leaves the rest idle just if nobody else may run.
func TestIdleBehindAQuota(t *testing.T) {
	for _, quota := range []int{1, 19, 20, 21, 40, 99, 100, 101} {
		for _, n := range []int{1, 20, 21, 100} {
			alone := mustRun(t, nestedWorld(quota), 0, n)
			if c := alone.Cpus[0]; c.Busy != min(quota, n) || c.Idle != n-min(quota, n) || inLineOn(alone, 0) != (quota >= n) {
				t.Errorf("a quota of %d, %d units: %+v", quota, n, c)
			}
			if c := mustRun(t, limitedRival(quota), 0, n).Cpus[0]; c.Busy != n || c.Idle != 0 {
				t.Errorf("a quota of %d, %d units, two: %+v", quota, n, c)
			}
		}
	}
}

// P9 speaks of runs that are done: one that is refused has no units.
func TestNoUnitsOfWhatIsRefused(t *testing.T) {
	w := handWorld()
	w.Tasks[7].V = 0
	for _, cpu := range processorsToTry(w) {
		for _, n := range runsToTry() {
			out, code := impl.WorldRun(w, cpu, n)
			if code == impl.CodeDone {
				wantUnitsKept(t, w, out, cpu, n)
			} else if !sameWorld(out, w) {
				t.Errorf("run of %d on %d: %d, %+v", n, cpu, code, out)
			}
		}
	}
}
