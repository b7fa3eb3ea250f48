package tests

import (
	"slices"
	"strconv"
	"testing"

	"loop.example/stint/impl"
)

// shareOfPeriod is what a group has got since its quota was set, or its period began, and when the next one begins.
type shareOfPeriod struct{ quota, period, next, got int }

// quotasKept are the shares of all groups that have a quota, told from items and from what the groups got alone.
type quotasKept map[int]*shareOfPeriod

// see notes an item: what its group got counts by the quota that there was ahead of it.
func (q quotasKept) see(t *testing.T, s itemStep, seen map[string]int) {
	t.Helper()
	for g, share := range q {
		more := s.is.Groups[g].Sum - s.was.Groups[g].Sum
		if s.item.Kind == kindDrop {
			more = 0
		}
		if share.got += more; share.got > share.quota {
			t.Fatalf("the group %d has got %d of %d: %s", g, share.got, share.quota, s.text())
		}
		q.count(s, g, more, seen)
	}
	if s.code != impl.CodeDone {
		return
	}
	switch x := s.item; x.Kind {
	case kindLimit:
		if delete(q, x.At); x.N > 0 {
			q[x.At] = &shareOfPeriod{quota: x.N, period: x.M, next: s.was.Now + x.M}
		}
	case kindDrop:
		delete(q, x.At)
	case kindTime:
		for _, share := range q {
			if share.next <= s.is.Now {
				share.got = 0
				// The one that the clock is in is the last one that began.
				share.next += (s.is.Now - share.next + share.period) / share.period * share.period
			}
		}
	}
}

// count counts what of a quota is tried.
func (q quotasKept) count(s itemStep, g, more int, seen map[string]int) {
	share := q[g]
	switch {
	case more > 0 && share.got == share.quota:
		seen["all of it is got"]++
	case more > 0:
		seen["a part of it is got"]++
	case s.item.Kind == kindRun && s.code == impl.CodeDone && share.got == share.quota && len(modelLineOn(s.was, s.item.At)) > 0:
		seen["others go on without it"]++
	}
	if s.code == impl.CodeDone && s.item.Kind == kindLimit && s.item.At == g && share.got > 0 {
		seen["set anew in the midst of a period"]++
	}
	if s.code == impl.CodeDone && s.item.Kind == kindTime && share.got > 0 && share.next <= s.is.Now {
		seen["a period begins behind what was got"]++
	}
	ran := 0
	for cpu, shelf := range s.is.Groups[g].Shelves {
		if shelf.Sum > s.was.Groups[g].Shelves[cpu].Sum {
			ran++
		}
	}
	if ran > 0 {
		seen["at depth "+strconv.Itoa(len(outOf(s.was.Groups, g))-1)]++
	}
	for _, outer := range outOf(s.was.Groups, g)[1:] {
		if q[outer] != nil && more > 0 {
			seen["a quota within a quota"]++
		}
	}
}

// limitingItem is some item; many give small quotas, or make tasks in groups that have one.
func limitingItem(d *dice, w impl.World) impl.Item {
	g := 1 + d.below(groupLimit-1)
	switch {
	case !w.Groups[g].Used:
		return anyItem(d, w)
	case d.below(25) == 0:
		return impl.Item{Kind: kindLimit, At: g, N: d.oneOf(1, 5, 19, 20, 21, 41, 100, 1+d.below(300)), M: 1 + d.below(30)}
	case d.below(25) == 0:
		return impl.Item{Kind: kindFork, At: g, N: d.below(20) - 10, M: everyCpu}
	case d.below(3) > 0:
		return impl.Item{Kind: kindRun, At: d.below(len(w.Cpus)), N: d.oneOf(1, 20, 50, 100, 1+d.below(tickLimit))}
	}
	return anyItem(d, w)
}

// P3: of plays of worlds with groups at all depths: no group gets more than its quota from one time to the next, on all processors together.
func TestNoGroupGetsMore(t *testing.T) {
	t.Parallel()
	d := &dice{state: 3}
	seen := map[string]int{}
	for range 160 {
		q := quotasKept{}
		playOn(d, builtWorld(d), playLimit, limitingItem, func(s itemStep) { q.see(t, s, seen) })
	}
	for _, sight := range []string{
		"all of it is got", "a part of it is got", "others go on without it", "set anew in the midst of a period", "a period begins behind what was got",
		"at depth 1", "at depth 2", "at depth 3", "a quota within a quota",
	} {
		if seen[sight] < 100 {
			t.Errorf("%s: %d times: the plays try too little", sight, seen[sight])
		}
	}
}

// P3: of thrown worlds, settled or not, from when a quota is set there; till then a group gets at most what its quota had left.
func TestNoGroupGetsMoreInThrownWorlds(t *testing.T) {
	t.Parallel()
	d := &dice{state: 3003}
	seen := map[string]int{}
	for range 2500 {
		w := thrownToPlay(d)
		q := quotasKept{}
		for g, group := range w.Groups {
			if b := group.Band; b.Quota > 0 {
				q[g] = &shareOfPeriod{quota: b.Quota, period: group.Period, next: group.Next, got: b.Spent}
			}
		}
		playOn(d, w, 25, limitingItem, func(s itemStep) { q.see(t, s, seen) })
	}
	if seen["all of it is got"] < 300 || seen["a quota within a quota"] < 300 {
		t.Errorf("%v: the worlds try too little", seen)
	}
}

// greedyWorld is a world of so many processors with a task on each in the group 1, and one beside the group on each.
func greedyWorld(cpus int) impl.World {
	w := groupedWorld(cpus, 0)
	for cpu := range cpus {
		putReady(w, 2*cpu, 1, cpu, cpu, 0)
		putReady(w, 2*cpu+1, 0, cpu, -cpu, 0)
		w.Tasks[2*cpu].Mask, w.Tasks[2*cpu+1].Mask = 1<<cpu, 1<<cpu
	}
	modelSettle(w)
	return w
}

// P3: to the unit: however long all processors go on, in runs of any length, the group has got its quota, neither less nor more.
func TestQuotaToTheUnit(t *testing.T) {
	t.Parallel()
	for cpus := 1; cpus <= cpuLimit; cpus++ {
		for _, quota := range []int{1, 2, 19, 20, 21, 39, 40, 41, 79, 80, 81, 100, 333} {
			for _, n := range []int{1, 7, 20, 50, 99, 100} {
				w, code := impl.WorldDo(greedyWorld(cpus), impl.Item{Kind: kindLimit, At: 1, N: quota, M: 1000})
				last := w.Groups[1].Sum
				for i := 0; code == impl.CodeDone && i < (4*quota+400*cpus)/n+1; i++ {
					w, code = impl.WorldDo(w, impl.Item{Kind: kindRun, At: i % cpus, N: n})
					if is := w.Groups[1].Sum; is < last || is > quota {
						t.Fatalf("%d of %d: %+v", is, quota, w)
					}
					last = w.Groups[1].Sum
				}
				if code != impl.CodeDone || last != quota {
					t.Errorf("%d processors, runs of %d: %d of %d, code %d", cpus, n, last, quota, code)
				}
			}
		}
	}
}

// P3: at each unit of a period: the quota of the one that was is not left over, that of the next is not taken ahead.
func TestQuotaOfEachPeriod(t *testing.T) {
	for _, period := range []int{1, 3, 10} {
		w, _ := impl.WorldDo(greedyWorld(2), impl.Item{Kind: kindLimit, At: 1, N: 45, M: period})
		began := w.Groups[1].Sum
		for i := range 60 {
			for _, cpu := range []int{0, 1, i % 2} {
				if i%5 == 4 {
					// A period in which the group asks for little.
					w, _ = impl.WorldDo(w, impl.Item{Kind: kindRun, At: cpu, N: 3})
				} else {
					w, _ = impl.WorldDo(w, impl.Item{Kind: kindRun, At: cpu, N: 100})
				}
			}
			if got := w.Groups[1].Sum - began; got > 45 {
				t.Fatalf("a period of %d, at %d: %d", period, w.Now, got)
			}
			if w, _ = impl.WorldDo(w, impl.Item{Kind: kindTime, N: 1}); w.Now%period == 0 {
				began = w.Groups[1].Sum
			}
		}
	}
}

// P3: a quota that is set anew in the midst of a period counts from then on; so does one that is the same again.
func TestQuotaSetAnew(t *testing.T) {
	w := greedyWorld(2)
	runs := []impl.Item{{Kind: kindRun, N: 100}, {Kind: kindRun, At: 1, N: 100}, {Kind: kindRun, N: 100}, {Kind: kindRun, At: 1, N: 100}, {Kind: kindRun, N: 100}, {Kind: kindRun, At: 1, N: 100}}
	was := 0
	for i, quota := range []int{50, 50, 7, 120, 1, 1, 60} {
		w, _ = impl.WorldDo(w, impl.Item{Kind: kindLimit, At: 1, N: quota, M: 100})
		w, _ = impl.WorldGo(w, runs)
		if got := w.Groups[1].Sum - was; got != quota {
			t.Errorf("the quota %d: %d of %d", i, got, quota)
		}
		was = w.Groups[1].Sum
	}
}

// P3: a group within another one gets at most the lesser of both quotas, whichever is the outer one; those in the outer one get its quota together.
func TestQuotaWithinQuota(t *testing.T) {
	for _, outer := range []int{10, 20, 25, 60, 100} {
		for _, inner := range []int{10, 20, 25, 60, 100} {
			w := groupedWorld(2, 0, 1, 1)
			for at := range 6 {
				putReady(w, at, 1+at%3, at%2, 0, 0)
			}
			modelSettle(w)
			w, _ = impl.WorldGo(w, []impl.Item{{Kind: kindLimit, At: 1, N: outer, M: 9}, {Kind: kindLimit, At: 2, N: inner, M: 9}})
			for i := range 20 {
				w, _ = impl.WorldDo(w, impl.Item{Kind: kindRun, At: i % 2, N: 30})
				if a, b := w.Groups[1].Sum, w.Groups[2].Sum; a > outer || b > inner || b > a {
					t.Fatalf("%d of %d, within it %d of %d: %+v", a, outer, b, inner, w)
				}
			}
			if w.Groups[1].Sum != outer {
				t.Errorf("%d of %d, within it %d of %d", w.Groups[1].Sum, outer, w.Groups[2].Sum, inner)
			}
		}
	}
}

// P3: whoever leaves a group, comes to one, goes to another processor or sleeps takes no quota along, and brings none.
func TestQuotaWhileTasksMove(t *testing.T) {
	w := greedyWorld(4)
	w, _ = impl.WorldDo(w, impl.Item{Kind: kindLimit, At: 1, N: 77, M: 1000})
	items := []impl.Item{
		{Kind: kindMove, At: 0}, {Kind: kindMove, At: 1, N: 1}, {Kind: kindPin, At: 2, N: 1}, {Kind: kindBlock, At: 4}, {Kind: kindOff, At: 3}, {Kind: kindWake, At: 4}, {Kind: kindOn, At: 3},
		{Kind: kindMove, At: 0, N: 1}, {Kind: kindBalance, At: 2}, {Kind: kindCpus, At: 1, N: 6}, {Kind: kindExit, At: 2}, {Kind: kindFork, At: 1, M: 15}, {Kind: kindCpus, At: 1, N: 15}, {Kind: kindPin, At: 1, N: 8},
	}
	for i := range 280 {
		x := items[i/5%len(items)]
		if i%5 > 0 {
			x = impl.Item{Kind: kindRun, At: i % 4, N: 1 + i%9}
		}
		w, _ = impl.WorldDo(w, x)
		if w.Groups[1].Sum > 77 {
			t.Fatalf("behind %d: %+v", i, w)
		}
	}
	if w.Groups[1].Sum != 77 {
		t.Errorf("%d of 77", w.Groups[1].Sum)
	}
}

// P3: a quota that is refused is none, and the one that there is stays.
func TestQuotaOfWhatIsRefused(t *testing.T) {
	w, _ := impl.WorldDo(greedyWorld(1), impl.Item{Kind: kindLimit, At: 1, N: 30, M: 5})
	var items []impl.Item
	for _, x := range []impl.Item{{At: 1, N: 10001, M: 5}, {At: 1, N: 100, M: 0}, {At: 1, N: 0, M: 5}, {At: 1, N: -30, M: 5}, {At: 1, N: 30, M: 1001}, {N: 5, M: 5}, {At: 2, N: 5, M: 5}} {
		x.Kind = kindLimit
		items = append(items, x, impl.Item{Kind: kindRun, N: 100}, impl.Item{Kind: kindTime}, impl.Item{Kind: kindTime, N: -5}, impl.Item{Kind: kindTime, N: 1001})
	}
	out, codes := impl.WorldGo(w, items)
	if n := len(slices.DeleteFunc(codes, func(code int) bool { return code == impl.CodeDone })); n != 28 || out.Groups[1].Sum != 30 {
		t.Errorf("%d refused, %d of 30", n, out.Groups[1].Sum)
	}
}
