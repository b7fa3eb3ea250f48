package tests

import (
	"strconv"
	"testing"

	"loop.example/stint/impl"
)

// sideKey says who stands in a queue: a task or a group.
type sideKey struct {
	isGroup bool
	place   int
}

// side is one that stands in a queue: which queue that is, with which weight, and what was got there.
type side struct {
	queue, weight, got int
}

// sidesOn are all that stand on a processor, each in its queue.
func sidesOn(w impl.World, cpu int) map[sideKey]side {
	sides := map[sideKey]side{}
	for at, x := range w.Tasks {
		if x.State == impl.TaskReady && x.Cpu == cpu {
			sides[sideKey{place: at}] = side{x.Group, 10 - x.Nice, x.Sum}
		}
	}
	for g, group := range w.Groups {
		if group.Used && g > 0 && group.Shelves[cpu].On {
			s := group.Shelves[cpu]
			sides[sideKey{true, g}] = side{group.Parent, s.W, s.Sum}
		}
	}
	return sides
}

// sideStretch is how two have stood side by side for some items.
type sideStretch struct {
	items int
	// apart is what the one got times the other one's weight, less the other way round; least and most are its bounds so far.
	apart, least, most int
}

// pairOn is two on a processor, the lesser one first.
type pairOn struct {
	cpu  int
	a, b sideKey
}

func isLesser(a, b sideKey) bool {
	return !a.isGroup && b.isGroup || a.isGroup == b.isGroup && a.place < b.place
}

// neighbours are all stretches that go on.
type neighbours map[pairOn]sideStretch

// goOn brings an item into all stretches: those go on in which both stand there still, with the same weights, and no group has a quota.
func (n neighbours) goOn(t *testing.T, s itemStep, seen map[string]int) {
	t.Helper()
	if hasQuota(s.was) || hasQuota(s.is) {
		clear(n)
		return
	}
	for cpu := range s.was.Cpus {
		was, is := sidesOn(s.was, cpu), sidesOn(s.is, cpu)
		stays := func(key sideKey) bool {
			a, before := was[key]
			b, behind := is[key]
			return before && behind && a.queue == b.queue && a.weight == b.weight
		}
		for a := range was {
			for b := range was {
				if !isLesser(a, b) || was[a].queue != was[b].queue {
					continue
				}
				key := pairOn{cpu, a, b}
				if !stays(a) || !stays(b) {
					delete(n, key)
					continue
				}
				x := n[key]
				x.items++
				x.apart += (is[a].got-was[a].got)*was[b].weight - (is[b].got-was[b].got)*was[a].weight
				x.least, x.most = min(x.least, x.apart), max(x.most, x.apart)
				n[key] = x
				if bound := impl.QueueApart(was[a].weight, was[b].weight); x.most-x.least > bound {
					t.Fatalf("%+v of %+v and %+v on %d, %d at most: %s", x, was[a], was[b], cpu, bound, s.text())
				}
				countStretch(s, key, x, was[a], was[b], seen)
			}
		}
		for key := range n {
			_, a := was[key.a]
			_, b := was[key.b]
			if key.cpu == cpu && (!a || !b) {
				delete(n, key)
			}
		}
	}
}

// countStretch counts what a stretch tries.
func countStretch(s itemStep, key pairOn, x sideStretch, a, b side, seen map[string]int) {
	name := "two tasks"
	if key.b.isGroup {
		name = "a task and a group"
	}
	if key.a.isGroup {
		name = "two groups"
	}
	if x.items < 20 || x.most == x.least {
		return
	}
	seen[name]++
	if a.weight != b.weight {
		seen[name+" of unlike weights"]++
	}
	seen["at depth "+strconv.Itoa(len(outOf(s.was.Groups, a.queue))-1)]++
	if x.most-x.least > impl.QueueApart(a.weight, b.weight)/2 {
		seen["far apart"]++
	}
	seen[strconv.Itoa(len(s.was.Cpus))+" processors"]++
	if s.code == impl.CodeDone {
		seen["while a "+strconv.Itoa(s.item.Kind)+" is done"]++
	}
}

// P1: of plays from new worlds and from thrown ones, any two that stay side by side over any stretch, whatever else comes.
func TestApartByNoMore(t *testing.T) {
	t.Parallel()
	d := &dice{state: 1}
	seen := map[string]int{}
	for round := range 240 {
		w := newWorld(d)
		if round%2 == 0 {
			w = thrownToPlay(d)
		}
		for g := range w.Groups {
			// Of a world with quotas the promise says nothing.
			w.Groups[g].Band, w.Groups[g].Period, w.Groups[g].Next = impl.Band{}, 0, 0
		}
		modelSettle(w)
		n := neighbours{}
		playOn(d, w, playLimit, steadyItem, func(s itemStep) { n.goOn(t, s, seen) })
	}
	sights := []string{"1 processors", "2 processors", "3 processors", "4 processors", "at depth 0", "at depth 1", "at depth 2", "at depth 3", "far apart", "two tasks", "a task and a group", "two groups"}
	for _, name := range sights[len(sights)-3:] {
		sights = append(sights, name+" of unlike weights")
	}
	for kind := kindRun; kind <= kindOn; kind++ {
		if kind != kindLimit {
			sights = append(sights, "while a "+strconv.Itoa(kind)+" is done")
		}
	}
	for _, sight := range sights {
		if seen[sight] < 50 {
			t.Errorf("%s: %d times: the plays try too little", sight, seen[sight])
		}
	}
}

// steadyItem is mostly a run, so that stretches grow long; no item gives a quota.
func steadyItem(d *dice, w impl.World) impl.Item {
	if d.below(3) > 0 {
		return impl.Item{Kind: kindRun, At: d.below(len(w.Cpus)), N: d.oneOf(1, 49, 50, 99, 100, 1+d.below(tickLimit))}
	}
	return freeItem(d, w)
}

// P1: a quota that comes, or goes, ends each stretch, and behind it new ones begin.
func TestApartBetweenQuotas(t *testing.T) {
	d := &dice{state: 1001}
	seen := map[string]int{}
	for range 60 {
		n := neighbours{}
		playOn(d, newWorld(d), playLimit, func(d *dice, w impl.World) impl.Item {
			if x := thrownItem(d, w); x.Kind == kindLimit || !hasQuota(w) {
				return x
			}
			for g := range w.Groups {
				if w.Groups[g].Band.Quota > 0 && d.below(3) == 0 {
					return impl.Item{Kind: kindLimit, At: g}
				}
			}
			return thrownItem(d, w)
		}, func(s itemStep) {
			if hasQuota(s.was) && !hasQuota(s.is) {
				seen["a quota goes"]++
			}
			n.goOn(t, s, seen)
		})
	}
	if seen["a quota goes"] < 100 || seen["two tasks"] < 500 {
		t.Errorf("%v: the plays try too little", seen)
	}
}

// apartOf plays items at a world where two tasks stay side by side, and gives the bounds of what is between them.
func apartOf(t *testing.T, w impl.World, items []impl.Item) (least, most int) {
	t.Helper()
	was := w
	for _, x := range items {
		out, code := impl.WorldDo(w, x)
		if code != impl.CodeDone {
			t.Fatalf("%+v: %d", x, code)
		}
		w = out
		a, b := w.Tasks[0], w.Tasks[1]
		apart := (a.Sum-was.Tasks[0].Sum)*(10-b.Nice) - (b.Sum-was.Tasks[1].Sum)*(10-a.Nice)
		least, most = min(least, apart), max(most, apart)
	}
	return least, most
}

// P1: the most that runs can bring between two: a stay of 49 units and a tick behind it, then the same of the other one, who was a whole stay and a tick ahead but for one unit. Not more than that comes about.
func TestApartByTheMost(t *testing.T) {
	for _, nice := range []int{-10, 0, 5, 9} {
		weight := 10 - nice
		w := emptyWorld(1)
		putReady(w, 0, 0, 0, nice, longStay*step(weight))
		putReady(w, 1, 0, 0, nice, 0)
		runs := func(list ...int) (items []impl.Item) {
			for _, n := range list {
				items = append(items, impl.Item{Kind: kindRun, N: n})
			}
			return items
		}
		// The task 1 comes to one unit behind the other one, and stays; then the other one catches up, and is first.
		least, most := apartOf(t, w, runs(49, 99, 49, 100, 49, 99, 49, 100))
		if bound := impl.QueueApart(weight, weight); least != -297*weight || most != 0 || most-least > bound || most-least < bound-weight {
			t.Errorf("weights of %d: %d to %d, %d at most", weight, least, most, bound)
		}
	}
}

// sidesWorld is a world of one processor with the tasks 0 and 1 of these nicenesses side by side in a queue at a depth.
func sidesWorld(depth, a, b int) impl.World {
	w := groupedWorld(1, []int{0, 1, 2}[:depth]...)
	putReady(w, 0, depth, 0, a, 0)
	putReady(w, 1, depth, 0, b, 0)
	modelSettle(w)
	return w
}

// P1: of all weights, at each depth, over long stretches of runs of all lengths: in the end each has what its weight says.
func TestApartOfAllWeights(t *testing.T) {
	for a := -10; a <= 9; a++ {
		for b := -10; b <= 9; b += 3 {
			w := sidesWorld((a+b+20)%4, a, b)
			n, seen := neighbours{}, map[string]int{}
			for i := range 120 {
				s := itemStep{was: w, item: impl.Item{Kind: kindRun, N: 1 + (i*37+a+b+20)%100}}
				s.is, s.code = impl.WorldDo(w, s.item)
				n.goOn(t, s, seen)
				w = s.is
			}
			// Both have got about all of some 6000 units, so to go by the weights alone is to be near.
			x, y := w.Tasks[0].Sum*(10-b), w.Tasks[1].Sum*(10-a)
			if seen["two tasks"] == 0 || max(x-y, y-x) > longStay*(20-a-b) {
				t.Errorf("nice %d and %d: %d, %d", a, b, w.Tasks[0].Sum, w.Tasks[1].Sum)
			}
		}
	}
}

// P1: while others join, leave, sleep, get another weight, are pinned and moved to and fro beside them, two get what their weights say; so do a task and a group.
func TestApartWhileOthersComeAndGo(t *testing.T) {
	w := groupedWorld(2, 0, 0)
	putReady(w, 0, 0, 0, 0, 0)
	putReady(w, 1, 0, 0, 5, 0)
	putReady(w, 2, 1, 0, 0, 0)
	w.Tasks[0].Mask, w.Tasks[1].Mask, w.Tasks[2].Mask = 1, 1, 1
	modelSettle(w)
	around := []impl.Item{
		{Kind: kindFork, N: -10, M: 1}, {Kind: kindBlock, At: 3}, {Kind: kindWake, At: 3}, {Kind: kindNice, At: 3, N: 9}, {Kind: kindPin, At: 3, N: 2}, {Kind: kindPin, At: 3, N: 1}, {Kind: kindMove, At: 3, N: 2},
		{Kind: kindWeigh, At: 2, N: 20}, {Kind: kindWeigh, At: 2, N: 1}, {Kind: kindMove, At: 3, N: 0}, {Kind: kindMove, At: 3, N: 1}, {Kind: kindMake, At: 1, Name: "x"}, {Kind: kindMove, At: 3, N: 3}, {Kind: kindYield},
		{Kind: kindTime, N: 7}, {Kind: kindOff, At: 1}, {Kind: kindOn, At: 1}, {Kind: kindExit, At: 3}, {Kind: kindDrop, At: 3}, {Kind: 99},
	}
	n, seen := neighbours{}, map[string]int{}
	for i := range 600 {
		x := around[i/2%len(around)]
		if i%2 == 0 {
			x = impl.Item{Kind: kindRun, N: 1 + i*41%100}
		}
		s := itemStep{was: w, item: x}
		if s.is, s.code = impl.WorldDo(w, x); s.code != impl.CodeDone && x.Kind <= kindOn && x.Kind != kindYield {
			t.Fatal(s.text())
		}
		n.goOn(t, s, seen)
		w = s.is
	}
	for _, pair := range []pairOn{{0, sideKey{place: 0}, sideKey{place: 1}}, {0, sideKey{place: 0}, sideKey{true, 1}}, {0, sideKey{place: 1}, sideKey{true, 1}}} {
		if n[pair].items != 600 {
			t.Errorf("%+v stays for %d items", pair, n[pair].items)
		}
	}
}

// P1: whoever gets another weight begins anew; till then, and from then on, each gets by the weight of then.
func TestApartByEachWeight(t *testing.T) {
	w := sidesWorld(1, 0, 0)
	for _, nice := range []int{-10, 9, -5, 5, 0} {
		w, _ = impl.WorldDo(w, impl.Item{Kind: kindNice, At: 1, N: nice})
		was := sumsOf(w)
		for range 100 {
			w = mustRun(t, w, 0, 77)
		}
		is := sumsOf(w)
		apart := (is[0]-was[0])*(10-nice) - (is[1]-was[1])*10
		if max(apart, -apart) > impl.QueueApart(10, 10-nice) {
			t.Errorf("nice %d: %v, then %v", nice, was[:2], is[:2])
		}
	}
}

// P1: what is refused gives nobody anything, in the midst of a stretch as well.
func TestApartByNothingRefused(t *testing.T) {
	w := sidesWorld(0, 3, -3)
	var items []impl.Item
	for i := range 50 {
		items = append(items, impl.Item{Kind: kindRun, N: 1 + i*7%100})
	}
	want, _ := impl.WorldGo(w, items)
	var mixed []impl.Item
	for _, x := range items {
		mixed = append(mixed, impl.Item{Kind: kindRun, N: 101}, x, impl.Item{Kind: kindRun, At: 1, N: 5}, impl.Item{Kind: kindNice, At: 0, N: 10}, impl.Item{Kind: kindRun, N: -1})
	}
	if got, _ := impl.WorldGo(w, mixed); !sameWorld(got, want) {
		t.Errorf("%+v, want %+v", got.Tasks[:2], want.Tasks[:2])
	}
}
