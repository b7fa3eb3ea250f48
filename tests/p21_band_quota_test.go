package tests

import (
	"testing"

	"loop.example/stint/impl"
)

// ledger is what a test has seen spent since the last refill, by the codes alone.
type ledger struct{ spent int }

func (l *ledger) note(op impl.BandOp, code int) {
	switch {
	case code != impl.BandDone:
	case op.Kind == impl.BandRefills:
		l.spent = 0
	case op.Kind == impl.BandSpends:
		l.spent += op.N
	}
}

// wantWhole holds a pool against the promise: what it tells as spent is what was, all of it is somewhere, and who is dry is so for want of any.
func wantWhole(t *testing.T, b impl.Band, quota int, spent int) {
	t.Helper()
	together, anybodyDry := b.Pool+b.Spent, false
	for cpu, local := range b.Locals {
		together += local
		anybodyDry = anybodyDry || b.Dry[cpu]
		if local < 0 || b.Dry[cpu] && local > 0 {
			t.Fatalf("processor %d: %+v", cpu, b)
		}
	}
	if b.Quota != quota || b.Spent != spent || b.Spent > quota || b.Pool < 0 || together != quota {
		t.Fatalf("%d of %d spent: %+v", spent, quota, b)
	}
	if anybodyDry && b.Pool > 0 {
		t.Fatalf("dry while there is something: %+v", b)
	}
	if !impl.BandOk(b) {
		t.Fatalf("not ok: %+v", b)
	}
}

// P21: over plays of many ops, looked at behind each.
func TestBandNeverGivesMore(t *testing.T) {
	d := &dice{state: 21}
	for round := range 300 {
		start := thrownBand(d)
		if round%2 == 0 {
			start, _ = impl.BandNew(start.Quota, len(start.Locals))
		}
		seen := ledger{spent: start.Spent}
		b := start
		ops := thrownBandOps(d, len(b.Locals), 200)
		for _, op := range ops {
			code := 0
			b, code = impl.BandDo(b, op)
			seen.note(op, code)
			wantWhole(t, b, start.Quota, seen.spent)
		}
		played, codes := impl.BandPlay(start, ops)
		seen = ledger{spent: start.Spent}
		for i, op := range ops {
			seen.note(op, codes[i])
		}
		wantWhole(t, played, start.Quota, seen.spent)
	}
}

// greedy lets a pool's processors, one behind the other, take and spend as long as anything is done, and tells what all got.
func greedy(t *testing.T, b impl.Band, bite int) (impl.Band, int) {
	t.Helper()
	got := 0
	for idle := 0; idle < len(b.Locals); {
		idle = 0
		for cpu := range b.Locals {
			code := 0
			if b, code = impl.BandDo(b, impl.BandOp{Kind: impl.BandTakes, Cpu: cpu}); code == impl.BandIsDry {
				idle++
				continue
			}
			n := min(bite, b.Locals[cpu])
			if b, code = impl.BandDo(b, impl.BandOp{Kind: impl.BandSpends, Cpu: cpu, N: n}); code != impl.BandDone {
				t.Fatalf("%d of %+v: %d", n, b, code)
			}
			got += n
			if got > b.Quota {
				t.Fatalf("%d of %d", got, b.Quota)
			}
		}
	}
	return b, got
}

// P21: whoever takes and spends all they can get just the quota, in each period anew.
func TestBandGivesJustTheQuota(t *testing.T) {
	for _, quota := range []int{1, 2, 19, 20, 21, 39, 40, 41, 79, 80, 81, 100, 9999, quotaLimit} {
		for cpus := 1; cpus <= cpuLimit; cpus++ {
			for _, bite := range []int{7, sliceLimit} {
				b, ok := impl.BandNew(quota, cpus)
				if !ok {
					t.Fatalf("no pool of %d for %d", quota, cpus)
				}
				for range 2 {
					got := 0
					b, got = greedy(t, b, bite)
					if got != quota || b.Spent != quota || b.Pool != 0 {
						t.Fatalf("%d of %d: %+v", got, quota, b)
					}
					wantWhole(t, b, quota, got)
					b, _ = impl.BandDo(b, impl.BandOp{Kind: impl.BandRefills})
					wantWhole(t, b, quota, 0)
				}
			}
		}
	}
	for _, quota := range []int{0, -1, quotaLimit + 1} {
		wantNoBand(t, quota, 1)
	}
}

// P21: where one who has something gives it back, nobody stays dry; where nothing comes back, who is dry stays so.
func TestBandDryAndGivenBack(t *testing.T) {
	b, _ := impl.BandNew(21, 4)
	var code int
	for _, step := range []struct {
		kind, cpu, n, code int
		dry                [4]bool
	}{
		{1, 0, 0, 0, [4]bool{}},
		{1, 1, 0, 0, [4]bool{}},
		{1, 2, 0, 2, [4]bool{2: true}},
		{3, 3, 0, 0, [4]bool{2: true}},
		{1, 3, 0, 2, [4]bool{2: true, 3: true}},
		{2, 1, 1, 0, [4]bool{2: true, 3: true}},
		{3, 1, 0, 0, [4]bool{2: true, 3: true}},
		{1, 1, 0, 2, [4]bool{1: true, 2: true, 3: true}},
		{2, 0, 19, 0, [4]bool{1: true, 2: true, 3: true}},
		{1, 0, 0, 0, [4]bool{1: true, 2: true, 3: true}},
		{3, 0, 0, 0, [4]bool{}},
		{1, 3, 0, 0, [4]bool{}},
		{1, 0, 0, 2, [4]bool{0: true}},
		{2, 3, 1, 0, [4]bool{0: true}},
		{1, 3, 0, 2, [4]bool{0: true, 3: true}},
		{3, 3, 0, 0, [4]bool{0: true, 3: true}},
		{2, 3, 1, 3, [4]bool{0: true, 3: true}},
		{4, 9, 0, 0, [4]bool{}},
	} {
		b, code = impl.BandDo(b, impl.BandOp{Kind: step.kind, Cpu: step.cpu, N: step.n})
		if code != step.code || [4]bool(b.Dry) != step.dry {
			t.Fatalf("%+v: %+v, %d", step, b, code)
		}
	}
}

// P21: what is wrong spends nothing, and a pool that is none stays none.
func TestBandWrongSpendsNothing(t *testing.T) {
	b := impl.Band{Quota: 50, Pool: 10, Spent: 15, Locals: []int{25, 0}, Dry: make([]bool, 2)}
	for _, n := range append([]int{-25, -1, 0, 26, 50, 51}, farInts()...) {
		out, code := impl.BandDo(b, impl.BandOp{Kind: impl.BandSpends, N: n})
		if code != impl.BandTooFew {
			t.Errorf("spends %d: %d", n, code)
		}
		wantWhole(t, out, 50, 15)
	}
	for name, wrong := range wrongBands() {
		if out, code := impl.BandDo(wrong, impl.BandOp{Kind: impl.BandRefills}); code != impl.BandBad || !isNoBand(out) {
			t.Errorf("%s: %+v, %d", name, out, code)
		}
	}
}
