package tests

import (
	"slices"
	"testing"

	"loop.example/stint/impl"
)

func TestQueueLimits(t *testing.T) {
	if impl.QueueMax != 20 || impl.QueueMaxOps != opsLimit || impl.QueueMaxAsk != askLimit {
		t.Error("limits of queues")
	}
	kinds := [...]int{impl.QueueJoins, impl.QueueLeaves, impl.QueueRuns, impl.QueueWeighs, impl.QueueStays}
	if kinds != [...]int{1, 2, 3, 4, 5} {
		t.Error("kinds", kinds)
	}
}

func TestQueueOkAtTheEdges(t *testing.T) {
	for _, weight := range []int{1, 7, 19, 20} {
		lag := longStay * step(weight)
		for _, c := range []struct {
			name string
			q    impl.Queue
			want bool
		}{
			{"at its floor", queueOfOne(900, 900, weight, -1, 0), true},
			{"below its floor", queueOfOne(900, 899, weight, -1, 0), false},
			{"as far ahead as can be", queueOfOne(900, 900+lag, weight, -1, 0), true},
			{"one further", queueOfOne(900, 901+lag, weight, -1, 0), false},
			{"all at the limit", queueOfOne(timeLimit, timeLimit, weight, -1, 0), true},
			{"time met exactly", queueOfOne(timeLimit-lag, timeLimit, weight, -1, 0), true},
			{"time one beyond", queueOfOne(timeLimit-lag+1, timeLimit+1, weight, -1, 0), false},
			{"floor one beyond", queueOfOne(timeLimit+1, timeLimit+1, weight, -1, 0), false},
			{"floor below 0", queueOfOne(-1, 0, weight, -1, 0), false},
			{"shortest stay", queueOfOne(5, 5+step(weight), weight, 0, 1), true},
			{"too far in it", queueOfOne(5, 6+step(weight), weight, 0, 1), false},
			{"just below StayMin", queueOfOne(5, 5+49*step(weight), weight, 0, 49), true},
			{"too far in this", queueOfOne(5, 6+49*step(weight), weight, 0, 49), false},
			{"longest stay", queueOfOne(5, 5+lag, weight, 0, 149), true},
			{"one unit longer", queueOfOne(5, 5+lag, weight, 0, 150), false},
			{"a stay at the floor", queueOfOne(5, 5, weight, 0, 149), true},
			{"a stay behind it", queueOfOne(5, 4, weight, 0, 149), false},
		} {
			if got := impl.QueueOk(c.q); got != c.want || modelOk(c.q) != c.want {
				t.Errorf("%s, weight %d: QueueOk = %v", c.name, weight, got)
			}
		}
	}
	off := impl.Queue{Floor: 900, Cur: -1, Entries: []impl.Entry{{V: 0, W: 20}, {V: timeLimit, W: 20, Sum: timeLimit}}}
	if !impl.QueueOk(off) {
		t.Error("who is not on may be anywhere")
	}
}

// queueOfOne is a queue with one who is ready.
func queueOfOne(floor, v, weight, cur, ran int) impl.Queue {
	return impl.Queue{Floor: floor, Cur: cur, Ran: ran, Entries: []impl.Entry{{On: true, V: v, W: weight}}}
}

func TestQueueNew(t *testing.T) {
	all := make([]int, 20)
	for i := range all {
		all[i] = i + 1
	}
	for _, weights := range [][]int{{1}, {20}, {10, 20}, {1, 1, 1}, all} {
		q, ok := impl.QueueNew(weights)
		if !ok || !impl.QueueOk(q) || q.Floor != 0 || q.Cur != -1 || q.Ran != 0 || len(q.Entries) != len(weights) {
			t.Fatalf("QueueNew(%v) = %+v, %v", weights, q, ok)
		}
		for i, e := range q.Entries {
			if e != (impl.Entry{W: weights[i]}) {
				t.Errorf("QueueNew(%v): %+v at %d", weights, e, i)
			}
		}
	}
	wrong := [][]int{nil, {}, {0}, {21}, {-1}, {1, 0}, {20, 21}, {10, 10, -10}, append(all, 1), make([]int, 21), make([]int, 5000)}
	for _, n := range farInts() {
		wrong = append(wrong, []int{n}, []int{1, n, 1})
	}
	for _, weights := range wrong {
		if q, ok := impl.QueueNew(weights); ok || !isNothing(q) {
			t.Errorf("QueueNew(%v) = %+v, %v", weights, q, ok)
		}
	}
}

func TestQueuePick(t *testing.T) {
	four := func(cur, ran int, vs ...int) impl.Queue {
		q := impl.Queue{Floor: 100, Cur: cur, Ran: ran, Entries: manyEntries(4)}
		for i, v := range vs {
			q.Entries[i].On, q.Entries[i].V = v > 0, max(v, 0)
		}
		return q
	}
	for _, c := range []struct {
		q    impl.Queue
		want int
	}{
		{four(-1, 0, 0, 0, 0, 0), -1},
		{four(-1, 0, 0, 0, 150, 0), 2},
		{four(-1, 0, 150, 150, 150, 150), 0},
		{four(-1, 0, 0, 150, 150, 150), 1},
		{four(-1, 0, 151, 151, 150, 150), 2},
		{four(-1, 0, 153, 152, 151, 150), 3},
		{four(-1, 0, 150, 151, 100, 100), 2},
		{four(0, 1, 150, 100, 100, 100), 0},
		{four(3, 49, 100, 100, 100, 150), 3},
		{four(3, 50, 101, 100, 100, 150), 1},
		{four(3, 149, 150, 151, 150, 151), 0},
		{four(3, 50, 151, 151, 151, 150), 3},
		{four(3, 50, 150, 151, 151, 150), 0},
		{four(0, 50, 150, 151, 151, 150), 0},
	} {
		if got := impl.QueuePick(c.q); got != c.want {
			t.Errorf("QueuePick(%+v) = %d, want %d", c.q, got, c.want)
		}
	}
}

// Each thing that can be done, with what the document asks written out: s is a step of weight 20.
func TestQueueDo(t *testing.T) {
	const s = unitStep / 20
	start := impl.Queue{Floor: 1000 * s, Cur: 1, Ran: 49, Entries: []impl.Entry{
		{On: true, V: 1020 * s, W: 10, Sum: 1},
		{On: true, V: 1040 * s, W: 20, Sum: 2},
		{V: 1500 * s, W: 20, Sum: 3},
		{V: 3, W: 5, Sum: 4},
		{V: 1030 * s, W: 4, Sum: 5},
	}}
	for _, c := range []struct {
		name   string
		op     impl.QueueOp
		change func(q *impl.Queue)
	}{
		{"joins from far ahead", impl.QueueOp{Kind: 1, At: 2}, func(q *impl.Queue) {
			q.Entries[2].On, q.Entries[2].V, q.Cur, q.Ran, q.Floor = true, 1149*s, -1, 0, 1020*s
		}},
		{"joins from behind", impl.QueueOp{Kind: 1, At: 3}, func(q *impl.Queue) {
			q.Entries[3].On, q.Entries[3].V, q.Cur, q.Ran = true, 1000*s, -1, 0
		}},
		{"joins where it was", impl.QueueOp{Kind: 1, At: 4, N: -9}, func(q *impl.Queue) {
			q.Entries[4].On, q.Cur, q.Ran, q.Floor = true, -1, 0, 1020*s
		}},
		{"another one leaves", impl.QueueOp{Kind: 2, At: 0}, func(q *impl.Queue) {
			q.Entries[0].On, q.Floor = false, 1040*s
		}},
		{"the current one leaves", impl.QueueOp{Kind: 2, At: 1}, func(q *impl.Queue) {
			q.Entries[1].On, q.Cur, q.Ran, q.Floor = false, -1, 0, 1020*s
		}},
		{"the stay goes on", impl.QueueOp{Kind: 3, At: 3, N: 100}, func(q *impl.Queue) {
			q.Entries[1].V, q.Entries[1].Sum, q.Ran, q.Floor = 1140*s, 102, 149, 1020*s
		}},
		{"the current one weighs less", impl.QueueOp{Kind: 4, At: 1, N: 1}, func(q *impl.Queue) {
			q.Entries[1].W, q.Cur, q.Ran, q.Floor = 1, -1, 0, 1020*s
		}},
		{"the same weight ends the stay too", impl.QueueOp{Kind: 4, At: 1, N: 20}, func(q *impl.Queue) {
			q.Cur, q.Ran, q.Floor = -1, 0, 1020*s
		}},
		{"another one weighs more", impl.QueueOp{Kind: 4, At: 0, N: 20}, func(q *impl.Queue) {
			q.Entries[0].W, q.Floor = 20, 1020*s
		}},
		{"who is not on weighs", impl.QueueOp{Kind: 4, At: 2, N: 1}, func(q *impl.Queue) {
			q.Entries[2].W, q.Floor = 1, 1020*s
		}},
		{"the stay ends", impl.QueueOp{Kind: 5, At: 4, N: -1}, func(q *impl.Queue) {
			q.Cur, q.Ran, q.Floor = -1, 0, 1020*s
		}},
	} {
		want := cloneQueue(start)
		c.change(&want)
		got, ok := impl.QueueDo(start, c.op)
		if !ok || !sameQueue(got, want) {
			t.Errorf("%s: %+v, %v, want %+v", c.name, got, ok, want)
		}
	}
}

// A weight that grows cuts what its bearer is ahead, by the new weight; the floor is raised behind that.
func TestQueueWeighsCuts(t *testing.T) {
	q := impl.Queue{Floor: 700, Cur: -1, Entries: []impl.Entry{
		{On: true, V: 700 + 149*step(1), W: 1},
		{On: true, V: 701 + 149*step(20), W: 10},
	}}
	got := mustDo(t, q, impl.QueueWeighs, 0, 20)
	if got.Entries[0].V != 700+149*step(20) || got.Entries[0].W != 20 || got.Floor != 700+149*step(20) {
		t.Errorf("cut: %+v", got)
	}
	got = mustDo(t, q, impl.QueueWeighs, 0, 2)
	if got.Entries[0].V != 700+149*step(2) || got.Floor != 701+149*step(20) {
		t.Errorf("cut by half: %+v", got)
	}
}

func TestQueueStayBeginsAnew(t *testing.T) {
	q := onesOf(0, 20)
	for _, c := range []struct{ n, ran int }{
		{49, 49}, {1, 50}, {7, 7}, {42, 49}, {100, 149}, {100, 100}, {1, 1}, {48, 49}, {1, 50}, {50, 50}, {51, 51}, {3, 3},
	} {
		q = mustDo(t, q, impl.QueueRuns, 0, c.n)
		if q.Cur != 0 || q.Ran != c.ran {
			t.Fatalf("behind %d: %+v", c.n, q)
		}
	}
	for _, end := range []impl.QueueOp{{Kind: 5}, {Kind: 4, N: 3}} {
		ended := mustDo(t, q, end.Kind, end.At, end.N)
		if ended.Cur != -1 || ended.Ran != 0 {
			t.Fatalf("not ended: %+v", ended)
		}
		if ended = mustDo(t, ended, impl.QueueRuns, 0, 30); ended.Cur != 0 || ended.Ran != 30 {
			t.Fatalf("not anew: %+v", ended)
		}
	}
}

// Time and sums may come to their limit, and not beyond it.
func TestQueueRunsUpToTheLimit(t *testing.T) {
	for _, weight := range []int{1, 3, 20} {
		for _, n := range []int{1, 2, 99, 100} {
			room := timeLimit - n*step(weight)
			q := queueOfOne(room, room, weight, -1, 0)
			got := mustDo(t, q, impl.QueueRuns, 0, n)
			if got.Entries[0].V != timeLimit || got.Floor != timeLimit {
				t.Errorf("time met exactly: %+v", got)
			}
			wantRefused(t, "time one beyond", queueOfOne(room+1, room+1, weight, -1, 0), impl.QueueOp{Kind: 3, N: n})
			q = queueOfOne(0, 0, weight, -1, 0)
			q.Entries[0].Sum = timeLimit - n
			if got = mustDo(t, q, impl.QueueRuns, 0, n); got.Entries[0].Sum != timeLimit {
				t.Errorf("sum met exactly: %+v", got)
			}
			q.Entries[0].Sum++
			wantRefused(t, "sum one beyond", q, impl.QueueOp{Kind: 3, N: n})
		}
	}
	end := impl.Queue{Floor: timeLimit, Cur: -1, Entries: []impl.Entry{{V: timeLimit, W: 1}, {V: 5, W: 20}}}
	for at := range end.Entries {
		if got := mustDo(t, end, impl.QueueJoins, at, 0); got.Entries[at].V != timeLimit || got.Floor != timeLimit {
			t.Errorf("joins at the limit: %+v", got)
		}
	}
}

func wantRefused(t *testing.T, name string, q impl.Queue, op impl.QueueOp) {
	t.Helper()
	if got, ok := impl.QueueDo(q, op); ok || !sameQueue(got, q) {
		t.Errorf("%s: QueueDo(%+v, %+v) = %+v, %v", name, q, op, got, ok)
	}
}

// Thrown queues and plays, held against the document's words written again.
func TestQueueAsTheDocumentSays(t *testing.T) {
	t.Parallel()
	d := &dice{state: 4}
	for round := range 3000 {
		q := thrownQueue(d, 1+round%20)
		for range 60 {
			if !modelOk(q) || !impl.QueueOk(q) {
				t.Fatalf("not ok: %+v", q)
			}
			if got, want := impl.QueuePick(q), modelPick(q); got != want {
				t.Fatalf("QueuePick(%+v) = %d, want %d", q, got, want)
			}
			op := thrownOp(d, len(q.Entries))
			got, ok := impl.QueueDo(q, op)
			want, wantOk := modelDo(q, op)
			if ok != wantOk || !sameQueue(got, want) {
				t.Fatalf("QueueDo(%+v, %+v) = %+v, %v, want %+v, %v", q, op, got, ok, want, wantOk)
			}
			q = want
		}
	}
}

// A queue of thrown numbers about its bounds is ok just if the document says so.
func TestQueueOkOfAny(t *testing.T) {
	d := &dice{state: 5}
	seen := [2]int{}
	for range 60000 {
		q := thrownQueue(d, 3)
		e := &q.Entries[d.below(len(q.Entries))]
		lag := longStay * step(e.W)
		switch d.below(6) {
		case 0:
			e.V = max(q.Floor, 0) + d.oneOf(-1, 0, lag, lag+1)
		case 1:
			e.W = d.oneOf(0, 1, 20, 21)
		case 2:
			q.Ran = d.oneOf(-1, 0, 1, 49, 50, 149, 150)
		case 3:
			q.Cur = d.oneOf(-2, -1, 0, len(q.Entries)-1, len(q.Entries))
		case 4:
			e.On = !e.On
		case 5:
			e.Sum = d.oneOf(-1, 0, timeLimit, timeLimit+1)
		}
		want := modelOk(q)
		if got := impl.QueueOk(q); got != want {
			t.Fatalf("QueueOk(%+v) = %v", q, got)
		}
		if want {
			seen[1]++
		} else {
			seen[0]++
		}
	}
	if seen[0] < 1000 || seen[1] < 1000 {
		t.Error("too few of one sort", seen)
	}
}

// Of a queue that is not ok there is one answer each, and none of them panics.
func TestQueueNotOk(t *testing.T) {
	for name, q := range wrongQueues() {
		given, asItWas := withRoom(q)
		if impl.QueueOk(given) || modelOk(given) {
			t.Errorf("%s: ok", name)
		}
		if at := impl.QueuePick(given); at != -1 {
			t.Errorf("%s: picks %d", name, at)
		}
		for kind := 0; kind <= 6; kind++ {
			op := impl.QueueOp{Kind: kind, N: 10}
			if out, ok := impl.QueueDo(given, op); ok || !isNothing(out) {
				t.Errorf("%s: does %d: %+v", name, kind, out)
			}
			if out, n := impl.QueuePlay(given, []impl.QueueOp{op, {Kind: 9}}); n != 0 || !isNothing(out) {
				t.Errorf("%s: plays %d: %+v, %d", name, kind, out, n)
			}
		}
		if out, n := impl.QueuePlay(given, nil); n != 0 || !isNothing(out) {
			t.Errorf("%s: plays nothing: %+v, %d", name, out, n)
		}
		for at := -1; at <= len(given.Entries); at++ {
			if n := impl.QueueWait(given, at, 1); n != 0 {
				t.Errorf("%s: waits %d", name, n)
			}
		}
		if !asItWas() {
			t.Errorf("%s: changed", name)
		}
	}
}

// What is handed in is as it was behind each call, spare room included, and what is answered is memory of its own.
func TestQueueMemory(t *testing.T) {
	d := &dice{state: 6}
	for range 400 {
		given, asItWas := withRoom(thrownQueue(d, 20))
		ops := thrownOps(d, len(given.Entries), d.oneOf(0, 1, 2, 30))
		wasOps := slices.Clone(ops)
		var answers []impl.Queue
		for _, op := range append([]impl.QueueOp{{Kind: 0}, {Kind: 5}, {Kind: 3, N: 1}}, ops...) {
			out, _ := impl.QueueDo(given, op)
			answers = append(answers, out)
		}
		whole, _ := impl.QueuePlay(given, ops)
		none, _ := impl.QueuePlay(given, nil)
		answers = append(answers, whole, none)
		impl.QueuePick(given)
		impl.QueueWait(given, 0, 1)
		for _, out := range answers {
			scribble(out)
		}
		if !asItWas() {
			t.Fatalf("changed: %+v", given)
		}
		if !slices.Equal(ops, wasOps) {
			t.Fatal("ops changed")
		}
	}
	weights := []int{3, 4, 5, 6}
	out, _ := impl.QueueNew(weights[:3])
	scribble(out)
	if !slices.Equal(weights, []int{3, 4, 5, 6}) {
		t.Error("weights changed", weights)
	}
}
