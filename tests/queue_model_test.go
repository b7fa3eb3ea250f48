package tests

import (
	"reflect"
	"strconv"
	"testing"

	"loop.example/stint/impl"
)

// The document's numbers of chapter 4, written again: a limit of the program that is off must not be off here as well.
const (
	unitStep  = 232792560
	longStay  = 149
	timeLimit = 100000000000000000
	askLimit  = 100000000
	opsLimit  = 2000
	tickLimit = 100
)

// dice is a row of numbers that looks thrown and is the same each time.
type dice struct{ state uint64 }

func (d *dice) below(n int) int {
	d.state = d.state*6364136223846793005 + 1442695040888963407
	return int((d.state >> 33) % uint64(n))
}

func (d *dice) oneOf(list ...int) int { return list[d.below(len(list))] }

// farBelow is a number below n, where n may be greater than what dice throw.
func (d *dice) farBelow(n int) int { return (d.below(1<<30)<<30 + d.below(1<<30)) % n }

// step is the step of a weight that is one.
func step(weight int) int { return unitStep / weight }

// cloneQueue is a queue in memory of its own, without spare room.
func cloneQueue(q impl.Queue) impl.Queue {
	list := make([]impl.Entry, len(q.Entries))
	copy(list, q.Entries)
	q.Entries = list
	return q
}

// modelOk is the document's QueueOk.
func modelOk(q impl.Queue) bool {
	inside := func(n, low, high int) bool { return low <= n && n <= high }
	if !inside(len(q.Entries), 1, 20) || !inside(q.Floor, 0, timeLimit) {
		return false
	}
	for _, e := range q.Entries {
		if !inside(e.W, 1, 20) || !inside(e.V, 0, timeLimit) || !inside(e.Sum, 0, timeLimit) {
			return false
		}
		if e.On && !inside(e.V, q.Floor, q.Floor+longStay*step(e.W)) {
			return false
		}
	}
	if q.Cur == -1 {
		return q.Ran == 0
	}
	if !inside(q.Cur, 0, len(q.Entries)-1) || !inside(q.Ran, 1, longStay) {
		return false
	}
	cur := q.Entries[q.Cur]
	return cur.On && cur.V <= q.Floor+q.Ran*step(cur.W)
}

// modelPick is the document's QueuePick of a queue that is ok.
func modelPick(q impl.Queue) int {
	if q.Cur != -1 && q.Ran < 50 {
		return q.Cur
	}
	best := -1
	for i, e := range q.Entries {
		if e.On && (best == -1 || e.V < q.Entries[best].V) {
			best = i
		}
	}
	return best
}

// modelPlaced is where an entry of a weight stands that was at v.
func modelPlaced(floor, v, weight int) int {
	switch most := floor + longStay*step(weight); {
	case v < floor:
		return floor
	case v > most:
		return most
	}
	return v
}

// modelDo is the document's QueueDo of a queue that is ok.
func modelDo(q impl.Queue, op impl.QueueOp) (impl.Queue, bool) {
	out := cloneQueue(q)
	if op.At < 0 || op.At >= len(q.Entries) {
		return out, false
	}
	e := &out.Entries[op.At]
	refused, stayOver := false, false
	switch op.Kind {
	case 1:
		refused = e.On
		e.On, e.V, stayOver = true, modelPlaced(q.Floor, e.V, e.W), true
	case 2:
		refused = !e.On
		e.On, stayOver = false, op.At == q.Cur
	case 3:
		refused = !modelRun(&out, op.N)
	case 4:
		refused = op.N < 1 || op.N > 20
		if !refused {
			e.W, stayOver = op.N, op.At == q.Cur
			if e.On {
				e.V = modelPlaced(q.Floor, e.V, op.N)
			}
		}
	case 5:
		stayOver = true
	default:
		refused = true
	}
	if refused {
		return cloneQueue(q), false
	}
	if stayOver {
		out.Cur, out.Ran = -1, 0
	}
	modelRaise(&out)
	return out, true
}

// modelRun is a run; what it leaves behind where it is refused is thrown away.
func modelRun(q *impl.Queue, n int) bool {
	at := modelPick(*q)
	if at == -1 || n < 1 || n > tickLimit {
		return false
	}
	e := &q.Entries[at]
	e.V += n * step(e.W)
	e.Sum += n
	if at == q.Cur && q.Ran < 50 {
		q.Ran += n
	} else {
		q.Cur, q.Ran = at, n
	}
	return e.V <= timeLimit && e.Sum <= timeLimit
}

func modelRaise(q *impl.Queue) {
	anybody, least := false, timeLimit
	for _, e := range q.Entries {
		if e.On {
			anybody, least = true, min(least, e.V)
		}
	}
	if anybody && least > q.Floor {
		q.Floor = least
	}
}

// modelWait is the document's QueueWait of an entry that is On in a queue that is ok, of units that may be asked for.
func modelWait(q impl.Queue, at, units int) int {
	n := units
	for i, other := range q.Entries {
		if i == at || !other.On {
			continue
		}
		n += longStay
		if way := q.Entries[at].V + units*step(q.Entries[at].W) - other.V; way > 0 {
			n += way / step(other.W)
			if way%step(other.W) > 0 {
				n++
			}
		}
	}
	return n
}

// thrownQueue is some queue that is ok, with a floor that may lag behind all who are ready.
func thrownQueue(d *dice, most int) impl.Queue {
	floor := d.oneOf(0, 0, 1, 5000000000, timeLimit/3, timeLimit/2, d.farBelow(timeLimit/2))
	q := impl.Queue{Floor: floor, Cur: -1}
	for range 1 + d.below(most) {
		e := impl.Entry{W: d.oneOf(1, 20, 10, 1+d.below(20)), Sum: d.below(1000)}
		lag := longStay * step(e.W)
		e.On = d.below(3) > 0
		e.V = floor + d.oneOf(0, 0, lag, d.farBelow(lag+1), d.below(longStay+1)*step(e.W))
		if !e.On {
			e.V = d.oneOf(0, floor/2, floor, floor+lag, floor+lag+1, floor+3*lag, e.V)
		}
		q.Entries = append(q.Entries, e)
	}
	if at := d.below(len(q.Entries)); q.Entries[at].On && d.below(2) == 0 {
		q.Cur, q.Ran = at, d.oneOf(1, 49, 50, longStay, 1+d.below(longStay))
		q.Entries[at].V = floor + d.farBelow(q.Ran*step(q.Entries[at].W)+1)
	}
	return q
}

// thrownOp is something to do, now and then at what there is not.
func thrownOp(d *dice, entries int) impl.QueueOp {
	op := impl.QueueOp{Kind: d.oneOf(1, 1, 2, 3, 3, 3, 3, 3, 3, 4, 5), At: d.below(entries), N: 1 + d.below(tickLimit)}
	if op.Kind == 4 {
		op.N = 1 + d.below(20)
	}
	switch d.below(40) {
	case 0:
		op.N = d.oneOf(-1, 0, 1, 20, 21, 100, 101)
	case 1:
		op.At = d.oneOf(-1, 0, entries-1, entries, entries+1)
	case 2:
		op.Kind = d.oneOf(-1, 0, 6, 7, 259)
	}
	return op
}

func thrownOps(d *dice, entries, n int) []impl.QueueOp {
	list := make([]impl.QueueOp, n)
	for i := range list {
		list[i] = thrownOp(d, entries)
	}
	return list
}

func sameQueue(a, b impl.Queue) bool {
	a, b = cloneQueue(a), cloneQueue(b)
	return reflect.DeepEqual(a, b)
}

// isNothing says whether a queue is the zero value.
func isNothing(q impl.Queue) bool {
	return q.Floor == 0 && q.Cur == 0 && q.Ran == 0 && len(q.Entries) == 0
}

// withRoom is a queue whose list has a mark in its spare room, and a function that tells whether queue and mark are as they were.
func withRoom(q impl.Queue) (impl.Queue, func() bool) {
	mark := impl.Entry{V: -77, W: -78, Sum: -79}
	was := cloneQueue(q)
	room := append(cloneQueue(q).Entries, mark, mark)
	q.Entries = room[:len(was.Entries)]
	return q, func() bool {
		return sameQueue(q, was) && room[len(was.Entries)] == mark && room[len(was.Entries)+1] == mark
	}
}

// scribble writes over all the memory of a queue, spare room included.
func scribble(q impl.Queue) {
	all := q.Entries[:cap(q.Entries)]
	for i := range all {
		all[i] = impl.Entry{On: true, V: -1, W: -2, Sum: -3}
	}
}

// wrongQueues are queues that are not ok, each for one reason alone.
func wrongQueues() map[string]impl.Queue {
	base := func(change func(q *impl.Queue)) impl.Queue {
		q := impl.Queue{Floor: 1000 * unitStep, Cur: 1, Ran: 60, Entries: []impl.Entry{
			{On: true, V: 1000 * unitStep, W: 10, Sum: 5},
			{On: true, V: 1002 * unitStep, W: 20, Sum: 6},
			{On: false, V: 7, W: 1, Sum: 7},
		}}
		change(&q)
		return q
	}
	list := map[string]impl.Queue{
		"nothing":              {},
		"no entries":           {Cur: -1},
		"too many":             base(func(q *impl.Queue) { q.Entries = append(q.Entries, manyEntries(18)...) }),
		"far too many":         {Cur: -1, Entries: manyEntries(1000)},
		"current without Ran":  base(func(q *impl.Queue) { q.Ran = 0 }),
		"Ran below 0":          base(func(q *impl.Queue) { q.Ran = -1 }),
		"Ran too long":         base(func(q *impl.Queue) { q.Ran = 150 }),
		"Ran without current":  base(func(q *impl.Queue) { q.Cur = -1 }),
		"-1 Ran, no current":   base(func(q *impl.Queue) { q.Cur, q.Ran = -1, -1 }),
		"current below -1":     base(func(q *impl.Queue) { q.Cur = -2 }),
		"below -1 without Ran": base(func(q *impl.Queue) { q.Cur, q.Ran = -2, 0 }),
		"current beyond":       base(func(q *impl.Queue) { q.Cur = 3 }),
		"current not on":       base(func(q *impl.Queue) { q.Cur = 2 }),
		"current not on, near": base(func(q *impl.Queue) { q.Cur, q.Entries[2].V = 2, 1000*unitStep }),
		"current far ahead":    base(func(q *impl.Queue) { q.Entries[1].V = 1003*unitStep + 1 }),
		"one behind the floor": base(func(q *impl.Queue) { q.Entries[0].V-- }),
		"one far ahead":        base(func(q *impl.Queue) { q.Entries[0].V = 1000*unitStep + 149*step(10) + 1 }),
	}
	for _, n := range append([]int{-1, timeLimit + 1}, farInts()...) {
		list["floor "+strconv.Itoa(n)] = base(func(q *impl.Queue) { q.Floor = n })
		list["time "+strconv.Itoa(n)] = base(func(q *impl.Queue) { q.Entries[0].V = n })
		list["time of one not on "+strconv.Itoa(n)] = base(func(q *impl.Queue) { q.Entries[2].V = n })
		list["sum "+strconv.Itoa(n)] = base(func(q *impl.Queue) { q.Entries[0].Sum = n })
		list["sum of one not on "+strconv.Itoa(n)] = base(func(q *impl.Queue) { q.Entries[2].Sum = n })
	}
	for _, n := range append([]int{-1, 0, 21, 1<<32 + 3}, farInts()...) {
		list["weight "+strconv.Itoa(n)] = base(func(q *impl.Queue) { q.Entries[0].W = n })
		list["weight of one not on "+strconv.Itoa(n)] = base(func(q *impl.Queue) { q.Entries[2].W = n })
	}
	for _, n := range farInts() {
		list["current "+strconv.Itoa(n)] = base(func(q *impl.Queue) { q.Cur = n })
		list["Ran "+strconv.Itoa(n)] = base(func(q *impl.Queue) { q.Ran = n })
		list["all "+strconv.Itoa(n)] = impl.Queue{Floor: n, Cur: n, Ran: n, Entries: []impl.Entry{{On: true, V: n, W: n, Sum: n}}}
	}
	return list
}

func manyEntries(n int) []impl.Entry {
	list := make([]impl.Entry, n)
	for i := range list {
		list[i].W = 1 + i%20
	}
	return list
}

// onesOf is a queue at a floor of those who are ready there, with these weights.
func onesOf(floor int, weights ...int) impl.Queue {
	q := impl.Queue{Floor: floor, Cur: -1}
	for _, weight := range weights {
		q.Entries = append(q.Entries, impl.Entry{On: true, V: floor, W: weight})
	}
	return q
}

// mustDo does something that may not be refused.
func mustDo(t *testing.T, q impl.Queue, kind, at, n int) impl.Queue {
	t.Helper()
	out, ok := impl.QueueDo(q, impl.QueueOp{Kind: kind, At: at, N: n})
	if !ok {
		t.Fatalf("refused: %d at %d with %d in %+v", kind, at, n, q)
	}
	return out
}
