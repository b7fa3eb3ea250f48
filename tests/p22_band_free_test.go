package tests

import (
	"testing"

	"loop.example/stint/impl"
)

// wantTakes holds one take against the promise: dry just where nothing could be spent, else there is something to spend then.
func wantTakes(t *testing.T, b impl.Band, cpu int) {
	t.Helper()
	free := impl.BandFree(b, cpu)
	if free != b.Locals[cpu]+b.Pool {
		t.Fatalf("BandFree(%+v, %d) = %d", b, cpu, free)
	}
	out, code := impl.BandDo(b, impl.BandOp{Kind: impl.BandTakes, Cpu: cpu})
	if (code == impl.BandIsDry) != (free == 0) || out.Dry[cpu] != (free == 0) {
		t.Fatalf("free %d: takes: %+v, %d", free, out, code)
	}
	if free == 0 {
		return
	}
	if code != impl.BandDone || out.Locals[cpu] < 1 || impl.BandFree(out, cpu) != free {
		t.Fatalf("free %d: takes: %+v, %d", free, out, code)
	}
	if _, code = impl.BandDo(out, impl.BandOp{Kind: impl.BandSpends, Cpu: cpu, N: 1}); code != impl.BandDone {
		t.Fatalf("took and cannot spend: %+v, %d", out, code)
	}
}

// P22: of all pools of small quotas, and of quotas around a slice.
func TestBandDryJustWhereNothingIsFree(t *testing.T) {
	for _, c := range []struct{ quota, cpus int }{{1, 1}, {1, 2}, {1, 3}, {1, 4}, {2, 3}, {3, 4}, {5, 2}, {19, 1}, {20, 1}, {21, 1}, {20, 2}, {21, 2}} {
		for _, b := range allBands(c.quota, c.cpus) {
			for cpu := range c.cpus {
				wantTakes(t, b, cpu)
			}
		}
	}
}

// P22: of thrown pools, and of those that they come to.
func TestBandDryJustWhereNothingIsFreeInPlays(t *testing.T) {
	d := &dice{state: 22}
	dry, wet := 0, 0
	for range 300 {
		b := thrownBand(d)
		for range 50 {
			for cpu := range b.Locals {
				wantTakes(t, b, cpu)
				if impl.BandFree(b, cpu) == 0 {
					dry++
				} else {
					wet++
				}
			}
			b, _ = impl.BandDo(b, thrownBandOp(d, len(b.Locals)))
		}
	}
	if dry < 1000 || wet < 1000 {
		t.Errorf("%d dry, %d not: the plays try too little", dry, wet)
	}
}

// P22: how much there is to take, at the edges that the document names.
func TestBandTakesAtTheEdges(t *testing.T) {
	for _, c := range []struct{ pool, local, got, code int }{
		{0, 0, 0, 2}, {1, 0, 1, 0}, {19, 0, 19, 0}, {20, 0, 20, 0}, {21, 0, 20, 0}, {10000, 0, 20, 0},
		{0, 1, 1, 0}, {1, 1, 1, 0}, {19, 19, 19, 0}, {20, 20, 20, 0}, {100, 1, 1, 0}, {100, 500, 500, 0},
	} {
		for _, quota := range []int{c.pool + c.local, quotaLimit} {
			if quota == 0 {
				continue
			}
			b := impl.Band{Quota: quota, Pool: c.pool, Spent: quota - c.pool - c.local, Locals: []int{c.local}, Dry: []bool{false}}
			if free := impl.BandFree(b, 0); free != c.pool+c.local {
				t.Errorf("BandFree(%+v) = %d", b, free)
			}
			out, code := impl.BandDo(b, impl.BandOp{Kind: impl.BandTakes})
			if code != c.code || out.Locals[0] != c.got || out.Pool != c.pool+c.local-c.got || out.Spent != b.Spent {
				t.Errorf("takes of %+v: %+v, %d", b, out, code)
			}
		}
	}
}

// P22: of what another one has nothing is free here, unless it is given back.
func TestBandFreeOfOthers(t *testing.T) {
	b := impl.Band{Quota: 60, Spent: 25, Locals: []int{20, 0, 15, 0}, Dry: []bool{false, true, false, false}}
	for cpu, want := range []int{20, 0, 15, 0} {
		if free := impl.BandFree(b, cpu); free != want {
			t.Errorf("BandFree at %d = %d, want %d", cpu, free, want)
		}
		wantTakes(t, b, cpu)
	}
	b, _ = impl.BandDo(b, impl.BandOp{Kind: impl.BandReturns, Cpu: 2})
	for cpu, want := range []int{35, 15, 15, 15} {
		if free := impl.BandFree(b, cpu); free != want {
			t.Errorf("given back: BandFree at %d = %d, want %d", cpu, free, want)
		}
		wantTakes(t, b, cpu)
	}
}

// P22 speaks of ok pools and of processors that there are: elsewhere nothing is free, and a take is bad, not dry.
func TestBandFreeOfWrong(t *testing.T) {
	b, _ := impl.BandNew(30, 2)
	for _, cpu := range append([]int{-2, -1, 2, 3, 4, 1 << 32}, farInts()...) {
		if free := impl.BandFree(b, cpu); free != 0 {
			t.Errorf("BandFree at %d = %d", cpu, free)
		}
		if out, code := impl.BandDo(b, impl.BandOp{Kind: impl.BandTakes, Cpu: cpu}); code != impl.BandBad || !sameBand(out, b) {
			t.Errorf("takes at %d: %+v, %d", cpu, out, code)
		}
	}
	for name, wrong := range wrongBands() {
		for cpu := range cpuLimit {
			if free := impl.BandFree(wrong, cpu); free != 0 {
				t.Errorf("%s: BandFree at %d = %d", name, cpu, free)
			}
			if out, code := impl.BandDo(wrong, impl.BandOp{Kind: impl.BandTakes, Cpu: cpu}); code != impl.BandBad || !isNoBand(out) {
				t.Errorf("%s: takes at %d: %+v, %d", name, cpu, out, code)
			}
		}
	}
}
