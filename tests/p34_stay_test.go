package tests

import (
	"strconv"
	"testing"

	"loop.example/stint/impl"
)

// turn is who is current on a processor, and how many units in a row they have had.
type turn struct{ task, row int }

// turnOf is the turn that a world tells.
func turnOf(w impl.World, cpu int) turn { return turn{w.Cpus[cpu].Cur, w.Cpus[cpu].Ran} }

// goesOn holds a run of its processor against the promise, by what the tasks got, and gives the turn behind it.
func (u turn) goesOn(t *testing.T, was, is impl.World, cpu, n int) turn {
	t.Helper()
	next := is.Cpus[cpu].Cur
	if next == u.task && next >= 0 {
		return turn{next, u.row + is.Tasks[next].Sum - was.Tasks[next].Sum}
	}
	if u.task >= 0 {
		if had := u.row + is.Tasks[u.task].Sum - was.Tasks[u.task].Sum; had < shortStay {
			t.Fatalf("%d is replaced by %d on %d behind %d units: %+v: %+v", u.task, next, cpu, had, is, was)
		}
	}
	if next < 0 {
		return turn{next, 0}
	}
	return turn{next, is.Tasks[next].Sum - was.Tasks[next].Sum}
}

// P34: of thrown worlds without quotas, settled or not, over runs of one processor alone.
func TestStayIsLongEnough(t *testing.T) {
	t.Parallel()
	d := &dice{state: 34}
	seen := map[string]int{}
	for range 2500 {
		w := withoutQuotas(thrownToPlay(d))
		if !impl.WorldRoom(w) {
			continue
		}
		cpu := d.below(len(w.Cpus))
		u := turnOf(w, cpu)
		for range 20 {
			n := d.oneOf(1, 1, 10, 49, 50, 100, 1+d.below(tickLimit))
			is, code := impl.WorldRun(w, cpu, n)
			if code != impl.CodeDone {
				break
			}
			before := u
			u = u.goesOn(t, w, is, cpu, n)
			if is.Cpus[cpu].Cur != u.task || u.task >= 0 && before.task == u.task && before.row < shortStay && is.Cpus[cpu].Ran != u.row {
				t.Fatalf("%+v, then %+v, told %+v: %+v", before, u, is.Cpus[cpu], w)
			}
			switch {
			case before.task < 0 || u.task < 0:
				seen["begins"]++
			case before.task != u.task && before.row == shortStay:
				seen["replaced as soon as may be"]++
			case before.task != u.task:
				seen["replaced"]++
			case before.row < shortStay:
				seen["stays in the midst"]++
			default:
				seen["stays on"]++
			}
			if u.task >= 0 {
				seen["at depth "+strconv.Itoa(len(outOf(w.Groups, w.Tasks[u.task].Group))-1)]++
			}
			w = is
		}
	}
	for _, sight := range []string{"begins", "replaced as soon as may be", "replaced", "stays in the midst", "stays on", "at depth 0", "at depth 1", "at depth 2", "at depth 3"} {
		if seen[sight] < 50 {
			t.Errorf("%s: %d times: the worlds try too little", sight, seen[sight])
		}
	}
}

// P34: unit by unit: whoever begins to stay has 50 units in a row, then, as soon as another one is behind them, it is their turn.
func TestStayToTheUnit(t *testing.T) {
	for depth := range depthLimit + 1 {
		w := sidesWorld(depth, 0, 0)
		row, last := 0, -1
		for i := range 500 {
			out, code := impl.WorldDo(w, impl.Item{Kind: kindRun, N: 1})
			cur := out.Cpus[0].Cur
			if code != impl.CodeDone || out.Tasks[cur].Sum != w.Tasks[cur].Sum+1 {
				t.Fatalf("depth %d, %d: %d, %+v", depth, i, code, out)
			}
			if cur != last {
				if last >= 0 && row != shortStay {
					t.Errorf("depth %d, %d: replaced behind %d", depth, i, row)
				}
				row, last = 0, cur
			}
			row++
			w = out
		}
		if a, b := w.Tasks[0].Sum, w.Tasks[1].Sum; a != 250 || b != 250 {
			t.Errorf("depth %d: %d and %d", depth, a, b)
		}
	}
}

// P34: at each number of units of a stay so far, and each length of the run that comes: below StayMin who is current gets all of it, however far ahead they are.
func TestStayAtEachLength(t *testing.T) {
	for ran := 1; ran <= longStay; ran++ {
		for _, n := range []int{1, 2, shortStay - ran, shortStay, 99, 100} {
			if n < 1 {
				continue
			}
			w := rivals(ran)
			out := mustRun(t, w, 0, n)
			turnOf(w, 0).goesOn(t, w, out, 0, n)
			want := impl.Cpu{Up: true, Cur: 0, Ran: ran + n, Busy: n}
			if ran >= shortStay {
				want = impl.Cpu{Up: true, Cur: 1, Ran: n, Busy: n}
			}
			wantCpu(t, "ran "+strconv.Itoa(ran)+", a run of "+strconv.Itoa(n), out.Cpus[0], want)
		}
	}
}

// P34: whoever stays, stays beside those of any weight, far behind them, at any depth.
func TestStayWhoeverIsBehind(t *testing.T) {
	for nice := -10; nice <= 9; nice++ {
		for group := range 4 {
			w := groupedWorld(1, 0, 1, 2)
			putReady(w, 0, 0, 0, 9, 0)
			putReady(w, 1, group, 0, nice, 0)
			modelSettle(w)
			// The weightiest one behind gains nothing as long as the stay is short.
			w = mustRun(t, w, 0, 1)
			first := w.Cpus[0].Cur
			for i := 2; i <= shortStay; i++ {
				if w = mustRun(t, w, 0, 1); w.Cpus[0].Cur != first || w.Cpus[0].Ran != i {
					t.Fatalf("nice %d in %d: %+v behind %d", nice, group, w.Cpus[0], i)
				}
			}
			if w = mustRun(t, w, 0, 1); w.Cpus[0].Cur == first {
				t.Errorf("nice %d in %d: %+v", nice, group, w.Cpus[0])
			}
		}
	}
}

// P34: runs that are refused, and those of other processors, end no stay.
func TestStayIsNotEndedByWhatIsRefused(t *testing.T) {
	w := crowdedWorld(3)
	w = withoutQuotas(w)
	modelSettle(w)
	w, _ = impl.WorldGo(w, []impl.Item{{Kind: kindRun, N: 20}, {Kind: kindRun, At: 1, N: 20}})
	for _, x := range []impl.Item{{N: 0}, {N: 101}, {N: -1}, {At: 3, N: 5}, {At: -1, N: 5}, {At: 1, N: 100}, {At: 2, N: 77}} {
		x.Kind = kindRun
		out, _ := impl.WorldDo(w, x)
		if out.Cpus[0] != w.Cpus[0] || w.Cpus[0].Cur < 0 {
			t.Errorf("%+v: %+v, it was %+v", x, out.Cpus[0], w.Cpus[0])
		}
	}
	for _, broken := range brokenWorlds() {
		if out, code := impl.WorldRun(broken.world, 0, 10); code != impl.CodeBad || !isNoWorld(out) {
			t.Errorf("%s: %d, %+v", broken.name, code, out)
		}
	}
}
