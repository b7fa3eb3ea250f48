package tests

import (
	"strconv"
	"testing"

	"loop.example/stint/impl"
)

// passes lets time pass in calls of these lengths.
func passes(t *testing.T, w impl.World, list ...int) impl.World {
	t.Helper()
	for _, n := range list {
		w = mustCall(t, w, groupCall{what: callTime, n: n})
	}
	return w
}

// What tasks used goes into their loads, by the bounds of loads; behind it nothing is used.
func TestTimeBeats(t *testing.T) {
	for _, c := range []struct{ load, used, want int }{
		{0, 0, 0}, {0, 1, 1}, {0, 30, 30}, {7, 0, 7}, {8, 0, 7}, {9, 0, 8}, {16, 5, 19}, {800, 100, 800}, {100, 7, 95},
		{0, 999999, 999999}, {0, 1000000, 1000000}, {0, 1000001, 1000000}, {5, timeLimit / 2, 1000005},
		{8000000, 0, 7000000}, {8000000, 999999, 7999999}, {8000000, 1000000, 8000000}, {8000000, 1000001, 8000000}, {8000000, timeLimit / 2, 8000000}, {7999999, 1000000, 8000000}, {7999993, 1000000, 7999994},
	} {
		for state := impl.TaskReady; state <= impl.TaskBlocked; state++ {
			w := groupedWorld(2, 0)
			w.Tasks[3] = impl.Task{State: state, Group: 1, Cpu: 1, Nice: 3, Mask: 2, Sum: 5, Used: c.used, Load: c.load}
			modelSettle(w)
			for _, n := range []int{1, 1000} {
				want := w.Tasks[3]
				want.Load, want.Used = c.want, 0
				wantTask(t, strconv.Itoa(c.load)+" and "+strconv.Itoa(c.used), passes(t, w, n).Tasks[3], want)
			}
		}
	}
}

// Each call is one beat, however much time passes in it; a free place stays one.
func TestTimeBeatsOnceEachCall(t *testing.T) {
	w := emptyWorld(1)
	putReady(w, 0, 0, 0, 0, 0)
	w.Tasks[0].Used, w.Tasks[0].Load = 100, 640
	if out := passes(t, w, 1000); out.Tasks[0].Load != 660 || out.Now != 1000 {
		t.Errorf("at once: %+v", out.Tasks[0])
	}
	out := passes(t, w, 400, 300, 300)
	if out.Tasks[0].Load != 660-660/8-578/8 || out.Now != 1000 || out.Tasks[1] != (impl.Task{}) {
		t.Errorf("in three: %+v", out.Tasks[0])
	}
}

// A run's units are used till time passes, and not counted again.
func TestTimeCountsWhatWasUsed(t *testing.T) {
	w := mustRun(t, rivals(30), 0, 20)
	w = mustRun(t, w, 0, 7)
	w = passes(t, w, 5)
	if w.Tasks[0].Load != 20 || w.Tasks[1].Load != 7 || w.Tasks[0].Used != 0 || w.Tasks[1].Used != 0 || w.Tasks[1].Sum != 7 {
		t.Errorf("%+v", w.Tasks[:2])
	}
	wantCpu(t, "the stay", w.Cpus[0], impl.Cpu{Up: true, Cur: 1, Ran: 7, Busy: 27})
	w = passes(t, mustRun(t, w, 0, 3), 5)
	if w.Tasks[0].Load != 18 || w.Tasks[1].Load != 10 {
		t.Errorf("%+v", w.Tasks[:2])
	}
}

// Next goes on by whole periods till it is above Now: one that begins at Now has begun.
func TestTimeNext(t *testing.T) {
	for _, c := range []struct{ period, next, n, want int }{
		{100, 100, 1, 100}, {100, 100, 99, 100}, {100, 100, 100, 200}, {100, 100, 101, 200}, {100, 100, 199, 200}, {100, 100, 200, 300}, {100, 100, 250, 300}, {100, 100, 1000, 1100},
		{100, 1, 1, 101}, {100, 1, 100, 101}, {100, 1, 101, 201}, {100, 37, 1000, 1037}, {100, 37, 36, 37}, {100, 37, 37, 137}, {100, 37, 936, 937}, {100, 37, 937, 1037},
		{1, 1, 1, 2}, {1, 1, 2, 3}, {1, 1, 1000, 1001}, {1000, 1000, 999, 1000}, {1000, 1000, 1000, 2000}, {1000, 1, 1000, 1001}, {1000, 999, 1000, 1999}, {7, 3, 1000, 1004}, {999, 1, 1000, 1999},
	} {
		for _, now := range []int{0, 12345} {
			w := groupedWorld(2, 0)
			limitTo(w, 1, 50)
			w.Now, w.Groups[1].Period, w.Groups[1].Next = now, c.period, now+c.next
			w.Groups[1].Band.Pool, w.Groups[1].Band.Spent = 20, 30
			out := passes(t, w, c.n)
			spent := 30
			if c.n >= c.next {
				spent = 0
			}
			if g := out.Groups[1]; out.Now != now+c.n || g.Next != now+c.want || g.Band.Spent != spent || g.Band.Pool != 50-spent {
				t.Errorf("%+v at %d: Now %d, %+v", c, now, out.Now, g)
			}
		}
	}
}

// In one call and in several the same periods begin, and as much of each quota is there, wherever it is.
func TestTimeInParts(t *testing.T) {
	d := &dice{state: 116}
	for range 400 {
		w, n := thrownToGroup(d), 2+d.below(999)
		if !impl.WorldRoom(w) || w.Now+n > timeLimit/2 {
			continue
		}
		var parts []int
		for left := n; left > 0; left -= parts[len(parts)-1] {
			parts = append(parts, 1+d.below(left))
		}
		modelSettle(w)
		whole, split := passes(t, w, n), passes(t, w, parts...)
		for g, group := range whole.Groups {
			if other := split.Groups[g]; group.Next != other.Next || !sameBand(group.Band, other.Band) || whole.Now != split.Now {
				t.Fatalf("%d, and %v: the group %d: %+v, %+v: %+v", n, parts, g, group, other, w)
			}
		}
	}
}

// Time that passes touches groups without a quota, and processors, not at all.
func TestTimeLeavesTheRestAlone(t *testing.T) {
	w := groupWorld()
	modelSettle(w)
	out := passes(t, w, 99)
	want := cloneWorld(w)
	want.Now = 599
	for at := range want.Tasks {
		want.Tasks[at].Load, want.Tasks[at].Used = out.Tasks[at].Load, 0
	}
	// The period of the group 5 is 7, from 501 on: it was dry on the processor 0.
	want.Groups[5].Next, want.Groups[5].Band = 606, impl.Band{Quota: 40, Pool: 40, Locals: make([]int, 4), Dry: make([]bool, 4)}
	want.Groups[5].Shelves[0].On = true
	if !sameWorld(out, want) {
		t.Errorf("%+v, want %+v", out, want)
	}
}
