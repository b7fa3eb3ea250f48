package tests

import (
	"testing"

	"loop.example/stint/impl"
)

// stretch is how far apart two came, by their weights, while they stood side by side.
type stretch struct {
	open        bool
	weightA     int
	weightB     int
	least, most int
}

// see takes in what two have got by now; side by side with the weights as before it is still the same stretch.
func (s *stretch) see(a, b impl.Entry) {
	apart := a.Sum*b.W - b.Sum*a.W
	if !a.On || !b.On {
		s.open = false
		return
	}
	if !s.open || s.weightA != a.W || s.weightB != b.W {
		*s = stretch{open: true, weightA: a.W, weightB: b.W, least: apart, most: apart}
	}
	s.least, s.most = min(s.least, apart), max(s.most, apart)
}

// sideBySide plays ops one by one, and fails where two come further apart than QueueApart in any stretch.
func sideBySide(t *testing.T, q impl.Queue, ops []impl.QueueOp) {
	t.Helper()
	pairs := make([][]stretch, len(q.Entries))
	for a := range pairs {
		pairs[a] = make([]stretch, len(q.Entries))
	}
	for at := -1; at < len(ops); at++ {
		if at >= 0 {
			q, _ = impl.QueueDo(q, ops[at])
		}
		for a := range q.Entries {
			for b := range a {
				s := &pairs[a][b]
				s.see(q.Entries[a], q.Entries[b])
				if s.open && s.most-s.least > impl.QueueApart(s.weightA, s.weightB) {
					t.Fatalf("%d and %d are apart by %d behind op %d: %+v", a, b, s.most-s.least, at, q)
				}
			}
		}
	}
}

func TestQueueApart(t *testing.T) {
	for a := 1; a <= 20; a++ {
		for b := 1; b <= 20; b++ {
			if got := impl.QueueApart(a, b); got != 149*a+149*b {
				t.Errorf("QueueApart(%d, %d) = %d", a, b, got)
			}
		}
	}
	for _, n := range append([]int{-20, -1, 0, 21, 1<<32 + 1}, farInts()...) {
		for _, m := range []int{1, 10, 20, n} {
			if impl.QueueApart(n, m) != 0 || impl.QueueApart(m, n) != 0 {
				t.Errorf("QueueApart of %d and %d is not 0", n, m)
			}
		}
	}
}

// P18: joins, leaves, runs, weighs and stays of others do not bring two apart who stay.
func TestSideBySide(t *testing.T) {
	d := &dice{state: 18}
	for round := range 300 {
		q := thrownQueue(d, 1+round%20)
		sideBySide(t, q, thrownOps(d, len(q.Entries), 400))
	}
}

// P18: over long runs alone, with short and long ticks, from queues that are ok but were never played.
func TestSideBySideRunning(t *testing.T) {
	d := &dice{state: 181}
	for round := range 200 {
		q := thrownQueue(d, 2+round%8)
		ops := make([]impl.QueueOp, opsLimit)
		for i := range ops {
			ops[i] = impl.QueueOp{Kind: impl.QueueRuns, N: []int{1, 100, 1 + d.below(100), 49 + i%2*51, 1 + i%2*99}[round%5]}
		}
		sideBySide(t, q, ops)
	}
}

// P18: the least and the greatest weight side by side, and QueueMax entries of all weights.
func TestSideBySideWeights(t *testing.T) {
	all := make([]int, impl.QueueMax)
	for i := range all {
		all[i] = i + 1
	}
	for _, weights := range [][]int{{1, 20}, {20, 1}, {1, 1}, {20, 20}, {19, 20}, all} {
		ops := make([]impl.QueueOp, opsLimit)
		for i := range ops {
			ops[i] = impl.QueueOp{Kind: impl.QueueRuns, N: 49 + i%2*51}
		}
		sideBySide(t, onesOf(0, weights...), ops)
		q, _ := impl.QueuePlay(onesOf(0, weights...), ops)
		total := 0
		for _, e := range q.Entries {
			total += e.Sum
		}
		if total != 49000+100000 {
			t.Errorf("%v: %d units got", weights, total)
		}
	}
}

// P18: the bound is met exactly: from as far behind as can be to as far ahead as can be.
func TestSideBySideMeetsTheBound(t *testing.T) {
	q := onesOf(0, 20, 10)
	q.Entries[1].V = longStay * step(10)
	for range 3 {
		q = mustDo(t, q, impl.QueueRuns, 0, 49)
		q = mustDo(t, q, impl.QueueRuns, 0, 100)
	}
	if q.Entries[0].Sum*10 != impl.QueueApart(10, 20) || q.Entries[1].Sum != 0 || impl.QueuePick(q) != 1 {
		t.Errorf("%+v", q)
	}
}

// P18: who comes back gets no head start on who stayed.
func TestSideBySideAfterLeaving(t *testing.T) {
	for _, weights := range [][]int{{10, 10}, {1, 20}, {20, 1}, {7, 3}} {
		q := onesOf(0, weights...)
		for i := range 300 {
			q = mustDo(t, q, impl.QueueLeaves, 0, 0)
			for range 1 + i%40 {
				q = mustDo(t, q, impl.QueueRuns, 0, 100)
			}
			q = mustDo(t, q, impl.QueueJoins, 0, 0)
			ops := make([]impl.QueueOp, 1+i%60)
			for j := range ops {
				ops[j] = impl.QueueOp{Kind: impl.QueueRuns, N: 1 + (i*7+j*31)%100}
			}
			sideBySide(t, q, ops)
			q, _ = impl.QueuePlay(q, ops)
		}
	}
}
