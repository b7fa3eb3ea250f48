package tests

import (
	"testing"

	"loop.example/stint/impl"
)

// runTill runs a queue with ticks told by a function until so many units have been run at least.
func runTill(t *testing.T, q impl.Queue, units int, tick func() int) impl.Queue {
	t.Helper()
	for ran := 0; ran < units; {
		n := tick()
		q = mustDo(t, q, impl.QueueRuns, 0, n)
		ran += n
	}
	return q
}

// ticksOf are ways in which ticks may come; all of them go on as long as they are asked.
func ticksOf(d *dice) []func() int {
	turn := 0
	inTurn := func(list ...int) func() int {
		return func() int {
			turn++
			return list[turn%len(list)]
		}
	}
	return []func() int{
		inTurn(1), inTurn(100), inTurn(49, 100), inTurn(50), inTurn(1, 100), inTurn(49, 1, 100),
		func() int { return 1 + d.below(100) },
	}
}

// P19: behind as many units as QueueWait tells the entry has got what was asked for, whatever the ticks.
func TestNobodyStarves(t *testing.T) {
	t.Parallel()
	d := &dice{state: 19}
	for round := range 500 {
		q := thrownQueue(d, 1+round%20)
		ticks := ticksOf(d)
		for at, e := range q.Entries {
			if !e.On {
				continue
			}
			units := d.oneOf(1, 2, 49, 50, 100, 149, 150, 1+d.below(400))
			wait := impl.QueueWait(q, at, units)
			// A wait that is far too long would not fail below, but run for ever.
			if wait != modelWait(q, at, units) {
				t.Fatalf("QueueWait(%+v, %d, %d) = %d", q, at, units, wait)
			}
			end := runTill(t, q, wait, ticks[d.below(len(ticks))])
			if got := end.Entries[at].Sum - e.Sum; got < units {
				t.Fatalf("%d of %d at %d behind %d: %+v", got, units, at, wait, q)
			}
		}
	}
}

// P19: QueueMaxAsk units are got, alone and beside one of the same weight.
func TestNobodyStarvesForLong(t *testing.T) {
	t.Parallel()
	ops := make([]impl.QueueOp, opsLimit)
	for i := range ops {
		ops[i] = impl.QueueOp{Kind: impl.QueueRuns, N: tickLimit}
	}
	for _, c := range []struct {
		q    impl.Queue
		want int
	}{
		{onesOf(0, 1), askLimit},
		{onesOf(0, 20, 20), 2*askLimit + longStay},
	} {
		wait := impl.QueueWait(c.q, 0, askLimit)
		if wait != c.want {
			t.Errorf("QueueWait(%+v) = %d, want %d", c.q, wait, c.want)
		}
		q := c.q
		for ran := 0; ran < wait; ran += opsLimit * tickLimit {
			refused := 0
			if q, refused = impl.QueuePlay(q, ops); refused != 0 {
				t.Fatal("refused")
			}
		}
		if q.Entries[0].Sum < askLimit {
			t.Errorf("got %d: %+v", q.Entries[0].Sum, q)
		}
	}
}

// What is told, written out: s is a step of weight 20.
func TestQueueWait(t *testing.T) {
	const s = unitStep / 20
	one := impl.Queue{Floor: 100 * s, Cur: 1, Ran: 60, Entries: []impl.Entry{
		{On: true, V: 104 * s, W: 10},
		{On: true, V: 160 * s, W: 20},
		{On: true, V: 106 * s, W: 5},
		{V: 100 * s, W: 20},
	}}
	near := impl.Queue{Floor: 50, Cur: -1, Entries: []impl.Entry{{On: true, V: 50, W: 20}, {On: true, V: 51, W: 20}}}
	for _, c := range []struct {
		q               impl.Queue
		at, units, want int
	}{
		{onesOf(0, 1), 0, 1, 1},
		{onesOf(0, 20), 0, askLimit, askLimit},
		{onesOf(7, 10, 10), 0, 1, 1 + 1 + 149},
		{onesOf(7, 10, 10), 1, 5, 5 + 5 + 149},
		{onesOf(7, 10, 20), 0, 1, 1 + 2 + 149},
		{onesOf(7, 10, 20), 1, 1, 1 + 1 + 149},
		{onesOf(7, 1, 20, 20), 0, askLimit, askLimit + 2*(20*askLimit+149)},
		// The entry comes to 106 s: the second one is beyond that and the third one there already, so both add their stay alone.
		{one, 0, 1, 1 + 149 + 149},
		{one, 0, 2, 2 + 149 + 1 + 149},
		{one, 0, 28, 28 + 149 + 14 + 149},
		{one, 0, 29, 29 + 2 + 149 + 14 + 149},
		{one, 1, 1, 1 + 29 + 149 + 14 + 149},
		{one, 2, 1, 1 + 3 + 149 + 149},
		{one, 3, 1, 0},
		{near, 0, 1, 1 + 1 + 149},
		{near, 1, 1, 1 + 2 + 149},
	} {
		if got := impl.QueueWait(c.q, c.at, c.units); got != c.want {
			t.Errorf("QueueWait(%+v, %d, %d) = %d, want %d", c.q, c.at, c.units, got, c.want)
		}
	}
}

func TestQueueWaitAsTheDocumentSays(t *testing.T) {
	d := &dice{state: 191}
	for round := range 3000 {
		q := thrownQueue(d, 1+round%20)
		units := d.oneOf(1, 2, 50, 149, askLimit-1, askLimit, 1+d.below(askLimit))
		for at, e := range q.Entries {
			want := 0
			if e.On {
				want = modelWait(q, at, units)
			}
			if got := impl.QueueWait(q, at, units); got != want {
				t.Fatalf("QueueWait(%+v, %d, %d) = %d, want %d", q, at, units, got, want)
			}
		}
	}
}

func TestQueueWaitOfNone(t *testing.T) {
	q := onesOf(0, 10, 20)
	for _, at := range append([]int{-2, -1, 2, 3, 1 << 32}, farInts()...) {
		if got := impl.QueueWait(q, at, 1); got != 0 {
			t.Errorf("QueueWait at %d = %d", at, got)
		}
	}
	for _, units := range append([]int{-1, 0, askLimit + 1, 1<<32 + 1}, farInts()...) {
		if got := impl.QueueWait(q, 0, units); got != 0 {
			t.Errorf("QueueWait of %d units = %d", units, got)
		}
	}
}
