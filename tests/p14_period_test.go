package tests

import (
	"slices"
	"strconv"
	"testing"

	"loop.example/stint/impl"
)

// wantWholeQuota holds a group with a quota behind a period against the promise: its whole quota is there, and it is dry nowhere.
func wantWholeQuota(t *testing.T, name string, w impl.World, group int) {
	t.Helper()
	b := w.Groups[group].Band
	free := b.Pool
	for _, local := range b.Locals {
		free += local
	}
	if free != b.Quota || b.Spent != 0 {
		t.Fatalf("%s: of %d there is %d, and %d spent: %+v", name, b.Quota, free, b.Spent, w)
	}
	for cpu := range w.Cpus {
		if impl.WorldDry(w, group, cpu) {
			t.Fatalf("%s: the group %d is dry on %d: %+v", name, group, cpu, w)
		}
	}
}

// P14: of thrown worlds with room, settled or not, behind as much time as a group's period, or more, in one call or in several.
func TestNewPeriodIsWhole(t *testing.T) {
	t.Parallel()
	d := &dice{state: 14}
	seen := map[string]int{}
	for range 6000 {
		w := thrownToGroup(d)
		for g, group := range w.Groups {
			if group.Band.Quota == 0 {
				continue
			}
			first := 1 + d.below(group.Period)
			out, code := impl.TimePass(w, first)
			if first < group.Period && code == impl.CodeDone {
				out, code = impl.TimePass(out, group.Period-first+d.oneOf(0, d.below(periodLimit-group.Period+first+1)))
			}
			if code != impl.CodeDone {
				seen["no room"]++
				continue
			}
			wantWholeQuota(t, "the period of "+strconv.Itoa(g), out, g)
			if out.Groups[g].Next <= out.Now || out.Groups[g].Next > out.Now+group.Period {
				t.Fatalf("the next one is at %d, it is %d: %+v", out.Groups[g].Next, out.Now, w)
			}
			switch {
			case slices.Contains(group.Band.Dry, true):
				seen["dry"]++
			case group.Band.Spent > 0:
				seen["spent in part"]++
			default:
				seen["nothing spent"]++
			}
		}
	}
	for _, sight := range []string{"no room", "dry", "spent in part", "nothing spent"} {
		if seen[sight] < 200 {
			t.Errorf("%v: the worlds try too little", seen)
		}
	}
}

// P14: when all periods are over, everybody who is ready may go on.
func TestNewPeriodLetsEverybodyGoOn(t *testing.T) {
	d := &dice{state: 141}
	held := 0
	for range 3000 {
		w := thrownToGroup(d)
		out, code := impl.TimePass(w, periodLimit)
		if code != impl.CodeDone {
			continue
		}
		for at, task := range out.Tasks {
			if task.State != impl.TaskReady {
				continue
			}
			if !impl.WorldLine(out, at) {
				t.Fatalf("the task %d is held back: %+v", at, w)
			}
			if !impl.WorldLine(w, at) {
				held++
			}
		}
	}
	if held < 1000 {
		t.Errorf("%d were held back: the worlds try too little", held)
	}
}

// spentWorld is a world of two processors with a group of this quota and period that has all of it spent, and is dry on both.
func spentWorld(t *testing.T, quota, period int) impl.World {
	t.Helper()
	w := groupedWorld(2, 0)
	putReady(w, 0, 1, 0, 0, 0)
	putReady(w, 1, 1, 1, 0, 0)
	modelSettle(w)
	w = mustCall(t, w, groupCall{what: callLimit, group: 1, n: quota, period: period})
	for range quota/100 + 1 {
		w = mustRun(t, w, 0, 100)
	}
	w = mustRun(t, w, 1, 100)
	if w.Groups[1].Sum != quota || !impl.WorldDry(w, 1, 0) || !impl.WorldDry(w, 1, 1) || impl.WorldLine(w, 0) || impl.WorldLine(w, 1) {
		t.Fatalf("not spent: %+v", w)
	}
	return w
}

// P14: at the last unit of a period nothing of it is there yet; at the next one all is, and it can be spent to the unit.
func TestNewPeriodToTheUnit(t *testing.T) {
	for _, quota := range []int{1, 19, 20, 21, 100, 10000} {
		for _, period := range []int{1, 2, 100, 999, 1000} {
			w := spentWorld(t, quota, period)
			name := strconv.Itoa(quota) + " in " + strconv.Itoa(period)
			if period > 1 {
				early := passes(t, w, period-1)
				if b := early.Groups[1].Band; b.Spent != quota || !b.Dry[0] || !b.Dry[1] || impl.WorldLine(early, 0) || early.Groups[1].Next != period {
					t.Errorf("%s, one less: %+v", name, early.Groups[1])
				}
				wantWholeQuota(t, name+", in two", passes(t, early, 1), 1)
			}
			out := passes(t, w, period)
			wantWholeQuota(t, name, out, 1)
			if !impl.WorldLine(out, 0) || !impl.WorldLine(out, 1) || out.Groups[1].Next != 2*period {
				t.Errorf("%s: %+v", name, out)
			}
			for range quota/100 + 1 {
				out = mustRun(t, out, 1, 100)
			}
			if out.Groups[1].Sum != 2*quota || !impl.WorldDry(out, 1, 1) {
				t.Errorf("%s, spent again: %+v", name, out.Groups[1])
			}
		}
	}
}

// P14: in each of many periods a group that asks for more gets its quota; what it leaves in one it has not in the next.
func TestEachPeriodGivesTheQuota(t *testing.T) {
	w := spentWorld(t, 30, 7)
	for i := range 40 {
		was := w.Groups[1].Sum
		w = passes(t, w, 7)
		wantWholeQuota(t, "the period "+strconv.Itoa(i), w, 1)
		asked := 10 * (i % 6)
		for range asked / 10 {
			w = mustRun(t, w, i%2, 10)
		}
		if got := w.Groups[1].Sum - was; got != min(asked, 30) {
			t.Fatalf("the period %d: %d of %d", i, got, asked)
		}
	}
}

// P14: several periods of one group that pass at once are one, those of several groups each their own.
func TestSeveralPeriodsAtOnce(t *testing.T) {
	w := groupedWorld(1, 0, 1, 2, 0)
	for g, period := range map[int]int{1: 10, 2: 25, 3: 100, 4: 300} {
		w = mustCall(t, w, groupCall{what: callLimit, group: g, n: 5 * g, period: period})
	}
	putReady(w, 0, 3, 0, 0, 0)
	putReady(w, 1, 4, 0, 0, 0)
	modelSettle(w)
	w = mustRun(t, w, 0, 100)
	wantCpu(t, "spent", w.Cpus[0], impl.Cpu{Up: true, Cur: -1, Busy: 25, Idle: 75})
	for _, c := range []struct {
		n     int
		next  [4]int
		spent [4]int
	}{
		{9, [4]int{10, 25, 100, 300}, [4]int{5, 5, 5, 20}}, {10, [4]int{20, 25, 100, 300}, [4]int{0, 5, 5, 20}}, {24, [4]int{30, 25, 100, 300}, [4]int{0, 5, 5, 20}},
		{25, [4]int{30, 50, 100, 300}, [4]int{0, 0, 5, 20}}, {99, [4]int{100, 100, 100, 300}, [4]int{0, 0, 5, 20}}, {100, [4]int{110, 125, 200, 300}, [4]int{0, 0, 0, 20}},
		{299, [4]int{300, 300, 300, 300}, [4]int{0, 0, 0, 20}}, {300, [4]int{310, 325, 400, 600}, [4]int{}}, {999, [4]int{1000, 1000, 1000, 1200}, [4]int{}}, {1000, [4]int{1010, 1025, 1100, 1200}, [4]int{}},
	} {
		out := passes(t, w, c.n)
		for i, next := range c.next {
			if g := out.Groups[i+1]; g.Next != next || g.Band.Spent != c.spent[i] {
				t.Errorf("%d: the group %d: %+v", c.n, i+1, g)
			}
			if c.spent[i] == 0 {
				wantWholeQuota(t, strconv.Itoa(c.n), out, i+1)
			}
		}
		// The group 1 alone was dry, outside the others.
		if got := impl.WorldLine(out, 0); got != (c.n >= 10) {
			t.Errorf("%d: in line %v", c.n, got)
		}
		if got := impl.WorldLine(out, 1); got != (c.n >= 300) {
			t.Errorf("%d: in line %v", c.n, got)
		}
	}
}

// P14: who goes on behind a dry spell stands at the floor at least, ahead by no more than they were, so that nobody has to make up for it.
func TestNewPeriodIsNoCredit(t *testing.T) {
	w := groupedWorld(1, 0)
	putReady(w, 0, 1, 0, 0, 0)
	putReady(w, 1, 0, 0, 0, 0)
	modelSettle(w)
	w = mustCall(t, w, groupCall{what: callLimit, group: 1, n: 10, period: 50})
	for range 30 {
		w = mustRun(t, w, 0, 100)
	}
	// Both are at the floor then, so the task goes ahead of the group, for a stay; then the group has its quota.
	w = mustRun(t, mustRun(t, passes(t, w, 50), 0, 60), 0, 30)
	if sums := sumsOf(w); sums[0] != 20 || sums[1] != 3070 {
		t.Errorf("behind the new period: %v", sums[:2])
	}
	w = mustCall(t, w, groupCall{what: callLimit, group: 1})
	was := sumsOf(w)
	for range 100 {
		w = mustRun(t, w, 0, 100)
		is := sumsOf(w)
		if apart := (is[0] - was[0] - is[1] + was[1]) * 10; max(apart, -apart) > impl.QueueApart(10, 10) {
			t.Fatalf("apart by %d: %v, %v", apart, was[:2], is[:2])
		}
	}
}

// P14 speaks of a period that is over, where there is room: if there is none, and of lengths that are none, nothing is there again.
func TestNoPeriodOfWhatIsRefused(t *testing.T) {
	w := spentWorld(t, 30, 5)
	for _, n := range append([]int{-5, -1, 0, 1001, 1005, 1 << 32}, farInts()...) {
		wantRefusedCall(t, "no time", w, groupCall{what: callTime, n: n}, impl.CodeBad)
	}
	late := cloneWorld(w)
	late.Cpus[1].Idle = timeLimit/2 + 1
	wantRefusedCall(t, "no room", late, groupCall{what: callTime, n: 5}, impl.CodeEnd)
	late.Cpus[1].Idle--
	wantWholeQuota(t, "just room", passes(t, late, 5), 1)
	for _, c := range brokenWorlds() {
		if out, code := impl.TimePass(c.world, 1000); code != impl.CodeBad || !isNoWorld(out) {
			t.Errorf("%s: %d, %+v", c.name, code, out)
		}
	}
}
