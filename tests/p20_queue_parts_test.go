package tests

import (
	"testing"

	"loop.example/stint/impl"
)

// oneByOne does ops by QueueDo, and tells how many were refused.
func oneByOne(q impl.Queue, ops []impl.QueueOp) (impl.Queue, int) {
	refused := 0
	for _, op := range ops {
		ok := false
		if q, ok = impl.QueueDo(q, op); !ok {
			refused++
		}
	}
	return q, refused
}

// inParts plays what is ahead of a place, and then the rest.
func inParts(q impl.Queue, ops []impl.QueueOp, at int) (impl.Queue, int) {
	first, a := impl.QueuePlay(q, ops[:at])
	second, b := impl.QueuePlay(first, ops[at:])
	return second, a + b
}

// P20: at once, one by one and in two parts, cut at every place, it comes to the same.
func TestQueueInParts(t *testing.T) {
	d := &dice{state: 20}
	for round := range 300 {
		q := thrownQueue(d, 1+round%20)
		ops := thrownOps(d, len(q.Entries), d.oneOf(0, 1, 2, 40))
		whole, refused := impl.QueuePlay(q, ops)
		if single, n := oneByOne(q, ops); n != refused || !sameQueue(single, whole) {
			t.Fatalf("one by one: %+v, %d, at once: %+v, %d", single, n, whole, refused)
		}
		for at := range len(ops) + 1 {
			if parts, n := inParts(q, ops, at); n != refused || !sameQueue(parts, whole) {
				t.Fatalf("in parts at %d: %+v, %d, at once: %+v, %d", at, parts, n, whole, refused)
			}
		}
	}
}

// P20: QueueMaxOps may be met; one more is too many, and then nothing is done.
func TestQueuePlayAtItsLimit(t *testing.T) {
	d := &dice{state: 201}
	for range 5 {
		q := thrownQueue(d, 20)
		ops := thrownOps(d, len(q.Entries), opsLimit+1)
		whole, refused := impl.QueuePlay(q, ops[:opsLimit])
		if refused == 0 || refused == opsLimit || isNothing(whole) {
			t.Fatalf("%d refused", refused)
		}
		if single, n := oneByOne(q, ops[:opsLimit]); n != refused || !sameQueue(single, whole) {
			t.Fatalf("one by one: %+v, %d, at once: %+v, %d", single, n, whole, refused)
		}
		for _, at := range []int{0, 1, 999, 1999, opsLimit} {
			if parts, n := inParts(q, ops[:opsLimit], at); n != refused || !sameQueue(parts, whole) {
				t.Fatalf("in parts at %d: %+v, %d", at, parts, n)
			}
		}
		if out, n := impl.QueuePlay(q, ops); n != 0 || !isNothing(out) {
			t.Fatalf("one too many: %+v, %d", out, n)
		}
	}
	if out, n := impl.QueuePlay(onesOf(0, 1), make([]impl.QueueOp, 100000)); n != 0 || !isNothing(out) {
		t.Errorf("far too many: %+v, %d", out, n)
	}
	q := onesOf(3, 1)
	if out, n := impl.QueuePlay(q, make([]impl.QueueOp, opsLimit)); n != opsLimit || !sameQueue(out, q) {
		t.Errorf("all refused: %+v, %d", out, n)
	}
}

// laggingQueue is one whose floor is below all who are ready: it rises with whatever is done.
func laggingQueue() impl.Queue {
	return impl.Queue{Floor: 1000, Cur: 1, Ran: 50, Entries: []impl.Entry{
		{On: true, V: 2000, W: 10, Sum: 1},
		{On: true, V: 2500, W: 20, Sum: 2},
		{V: 500, W: 1, Sum: 3},
	}}
}

// P20: whatever is refused leaves all as it was, a floor that lags behind too.
func TestQueueRefusedChangesNothing(t *testing.T) {
	q := laggingQueue()
	ops := []impl.QueueOp{{Kind: 1, At: 0}, {Kind: 1, At: 1}, {Kind: 2, At: 2}}
	for _, n := range append([]int{-100, -1, 0, 101, 1<<32 + 1}, farInts()...) {
		ops = append(ops, impl.QueueOp{Kind: 3, N: n})
	}
	for _, n := range append([]int{-20, -1, 0, 21, 1<<32 + 1}, farInts()...) {
		for at := range q.Entries {
			ops = append(ops, impl.QueueOp{Kind: 4, At: at, N: n})
		}
	}
	for _, kind := range append([]int{-5, -1, 0, 6, 7, 261, 1<<32 + 5}, farInts()...) {
		ops = append(ops, impl.QueueOp{Kind: kind, N: 1}, impl.QueueOp{Kind: kind, At: 2, N: 20})
	}
	for _, at := range append([]int{-2, -1, 3, 4, 1 << 32}, farInts()...) {
		for kind := 1; kind <= 5; kind++ {
			ops = append(ops, impl.QueueOp{Kind: kind, At: at, N: 1})
		}
	}
	for _, op := range ops {
		wantRefused(t, "wrong", q, op)
	}
	if out, n := impl.QueuePlay(q, ops); n != len(ops) || !sameQueue(out, q) {
		t.Errorf("played: %+v, %d of %d", out, n, len(ops))
	}
}

// P20: what is refused for want of room, or of somebody who is ready, changes nothing either.
func TestQueueRunsRefused(t *testing.T) {
	nobody := laggingQueue()
	nobody.Cur, nobody.Ran, nobody.Entries[0].On, nobody.Entries[1].On = -1, 0, false, false
	wantRefused(t, "nobody is ready", nobody, impl.QueueOp{Kind: 3, N: 1})

	full := laggingQueue()
	full.Entries[0].Sum = timeLimit
	wantRefused(t, "the next one's sum is full", full, impl.QueueOp{Kind: 3, N: 1})
	full.Entries[0].Sum = timeLimit - 99
	wantRefused(t, "there is too little room", full, impl.QueueOp{Kind: 3, N: 100})
	mustDo(t, full, impl.QueueRuns, 0, 99)

	late := impl.Queue{Floor: timeLimit - 6*unitStep, Cur: 0, Ran: 49, Entries: []impl.Entry{
		{On: true, V: timeLimit - 5*step(7), W: 7},
		{On: true, V: timeLimit - 3*unitStep, W: 1},
	}}
	wantRefused(t, "the stay has no room", late, impl.QueueOp{Kind: 3, N: 6})
	mustDo(t, late, impl.QueueRuns, 0, 5)
}

// Whatever is done raises a floor that lags behind, and what is done to others does not lower it.
func TestQueueDoneRaisesTheFloor(t *testing.T) {
	for _, c := range []struct{ kind, at, n, floor int }{
		{1, 2, 0, 1000}, {2, 0, 0, 2500}, {2, 1, 0, 2000}, {3, 0, 1, 2500},
		{4, 0, 10, 2000}, {4, 1, 20, 2000}, {4, 2, 1, 2000}, {5, 0, 0, 2000},
	} {
		if q := mustDo(t, laggingQueue(), c.kind, c.at, c.n); q.Floor != c.floor {
			t.Errorf("%+v: %+v", c, q)
		}
	}
}
