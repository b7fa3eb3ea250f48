package tests

import (
	"runtime"
	"slices"
	"strconv"
	"sync"
	"testing"
	"time"

	"loop.example/stint/impl"
)

func TestBandLimits(t *testing.T) {
	limits := [...]int{impl.BandMaxQuota, impl.BandMaxPeriod, impl.BandSlice, impl.BandMaxOps}
	if limits != [...]int{quotaLimit, 1000, sliceLimit, bandOpsLimit} {
		t.Error("limits", limits)
	}
	codes := [...]int{impl.BandDone, impl.BandBad, impl.BandIsDry, impl.BandTooFew}
	if codes != [...]int{0, 1, 2, 3} {
		t.Error("codes", codes)
	}
	kinds := [...]int{impl.BandTakes, impl.BandSpends, impl.BandReturns, impl.BandRefills}
	if kinds != [...]int{1, 2, 3, 4} {
		t.Error("kinds", kinds)
	}
}

func TestBandOkAtTheEdges(t *testing.T) {
	for _, b := range []impl.Band{
		{Quota: 1, Pool: 1, Locals: []int{0}, Dry: []bool{false}},
		{Quota: 1, Spent: 1, Locals: []int{0}, Dry: []bool{true}},
		{Quota: 1, Spent: 1, Locals: []int{0}, Dry: []bool{false}},
		{Quota: 1, Locals: []int{1}, Dry: []bool{false}},
		{Quota: 10000, Pool: 10000, Locals: make([]int, 4), Dry: make([]bool, 4)},
		{Quota: 10000, Spent: 10000, Locals: make([]int, 4), Dry: []bool{true, true, true, true}},
		{Quota: 10000, Locals: []int{0, 0, 0, 10000}, Dry: []bool{true, false, true, false}},
		{Quota: 10000, Pool: 1, Spent: 9995, Locals: []int{1, 1, 1, 1}, Dry: make([]bool, 4)},
		{Quota: 60, Pool: 10, Spent: 15, Locals: []int{20, 0, 15}, Dry: make([]bool, 3)},
		{Quota: 60, Spent: 25, Locals: []int{20, 0, 15}, Dry: []bool{false, true, false}},
		{Quota: 100, Spent: 1, Locals: []int{21, 78}, Dry: make([]bool, 2)},
	} {
		if !impl.BandOk(b) {
			t.Errorf("BandOk(%+v) = false", b)
		}
	}
	for name, b := range wrongBands() {
		if impl.BandOk(b) {
			t.Errorf("%s: BandOk(%+v) = true", name, b)
		}
	}
}

func bandKey(b impl.Band) string {
	key := strconv.Itoa(b.Quota) + " " + strconv.Itoa(b.Pool) + " " + strconv.Itoa(b.Spent)
	for cpu, local := range b.Locals {
		key += " " + strconv.Itoa(local) + strconv.FormatBool(b.Dry[cpu])
	}
	return key
}

// Of all pools of small numbers, below 0 too, just those are ok that are made so.
func TestBandOkOfAllSmall(t *testing.T) {
	const low, high = -1, 4
	for cpus := 1; cpus <= 3; cpus++ {
		good := map[string]bool{}
		for quota := 1; quota <= high; quota++ {
			for _, b := range allBands(quota, cpus) {
				good[bandKey(b)] = true
			}
		}
		numbers := []int{}
		for range cpus + 3 {
			numbers = append(numbers, low)
		}
		found := 0
		for more := true; more; more = nextNumbers(numbers, low, high) {
			for set := range 1 << cpus {
				b := impl.Band{Quota: numbers[0], Pool: numbers[1], Spent: numbers[2], Locals: numbers[3:]}
				for cpu := range cpus {
					b.Dry = append(b.Dry, set>>cpu&1 == 1)
				}
				got, want := impl.BandOk(b), good[bandKey(b)]
				if got != want {
					t.Fatalf("BandOk(%+v) = %v", b, got)
				}
				if got {
					found++
				}
			}
		}
		if found != len(good) {
			t.Errorf("%d processors: %d ok, want %d", cpus, found, len(good))
		}
	}
}

// nextNumbers counts on, each number from low to high; false behind the last.
func nextNumbers(numbers []int, low, high int) bool {
	for i := range numbers {
		if numbers[i] < high {
			numbers[i]++
			return true
		}
		numbers[i] = low
	}
	return false
}

func TestBandNew(t *testing.T) {
	for _, quota := range []int{1, 2, 19, 20, 21, 30, 9999, 10000} {
		for cpus := 1; cpus <= 4; cpus++ {
			b, ok := impl.BandNew(quota, cpus)
			want := impl.Band{Quota: quota, Pool: quota, Locals: make([]int, cpus), Dry: make([]bool, cpus)}
			if !ok || !sameBand(b, want) || !impl.BandOk(b) {
				t.Errorf("BandNew(%d, %d) = %+v, %v", quota, cpus, b, ok)
			}
			scribbleBand(b)
			if b, ok = impl.BandNew(quota, cpus); !ok || !sameBand(b, want) {
				t.Errorf("BandNew(%d, %d) once more: %+v, %v", quota, cpus, b, ok)
			}
		}
	}
	wrongQuotas := append([]int{-10000, -1, 0, 10001, 1 << 32, 1<<32 + 5}, farInts()...)
	wrongCpus := append([]int{-4, -1, 0, 5, 20, 1 << 32, 1<<32 + 2}, farInts()...)
	for _, quota := range wrongQuotas {
		for _, cpus := range append([]int{1, 4}, wrongCpus...) {
			wantNoBand(t, quota, cpus)
		}
	}
	for _, cpus := range wrongCpus {
		for _, quota := range []int{1, 30, 10000} {
			wantNoBand(t, quota, cpus)
		}
	}
}

func wantNoBand(t *testing.T, quota, cpus int) {
	t.Helper()
	if b, ok := impl.BandNew(quota, cpus); ok || !isNoBand(b) {
		t.Errorf("BandNew(%d, %d) = %+v, %v", quota, cpus, b, ok)
	}
}

// Each thing that can be done, with what the document asks written out.
func TestBandDo(t *testing.T) {
	some := impl.Band{Quota: 100, Pool: 21, Spent: 52, Locals: []int{7, 0, 20}, Dry: make([]bool, 3)}
	few := impl.Band{Quota: 100, Pool: 20, Spent: 53, Locals: []int{7, 0, 20}, Dry: make([]bool, 3)}
	fewer := impl.Band{Quota: 100, Pool: 19, Spent: 54, Locals: []int{7, 0, 20}, Dry: make([]bool, 3)}
	empty := impl.Band{Quota: 100, Spent: 73, Locals: []int{7, 0, 20, 0}, Dry: []bool{false, true, false, false}}
	gone := impl.Band{Quota: 100, Spent: 100, Locals: make([]int, 3), Dry: []bool{true, false, true}}
	last := impl.Band{Quota: 1, Locals: []int{1}, Dry: []bool{false}}
	full := func(cpus int) impl.Band {
		return impl.Band{Quota: 100, Pool: 100, Locals: make([]int, cpus), Dry: make([]bool, cpus)}
	}
	for _, c := range []struct {
		name  string
		start impl.Band
		op    impl.BandOp
		want  impl.Band
		code  int
	}{
		{"takes a slice of more", some, impl.BandOp{Kind: 1, Cpu: 1}, impl.Band{Quota: 100, Pool: 1, Spent: 52, Locals: []int{7, 20, 20}, Dry: make([]bool, 3)}, 0},
		{"takes just a slice", few, impl.BandOp{Kind: 1, Cpu: 1, N: -5}, impl.Band{Quota: 100, Spent: 53, Locals: []int{7, 20, 20}, Dry: make([]bool, 3)}, 0},
		{"takes less than a slice", fewer, impl.BandOp{Kind: 1, Cpu: 1, N: 3}, impl.Band{Quota: 100, Spent: 54, Locals: []int{7, 19, 20}, Dry: make([]bool, 3)}, 0},
		{"has something", some, impl.BandOp{Kind: 1, Cpu: 0}, some, 0},
		{"has a slice", some, impl.BandOp{Kind: 1, Cpu: 2, N: 50}, some, 0},
		{"has something, pool empty", empty, impl.BandOp{Kind: 1, Cpu: 0}, empty, 0},
		{"comes to be dry", empty, impl.BandOp{Kind: 1, Cpu: 3}, impl.Band{Quota: 100, Spent: 73, Locals: []int{7, 0, 20, 0}, Dry: []bool{false, true, false, true}}, 2},
		{"is dry already", empty, impl.BandOp{Kind: 1, Cpu: 1}, empty, 2},
		{"spends one", some, impl.BandOp{Kind: 2, Cpu: 0, N: 1}, impl.Band{Quota: 100, Pool: 21, Spent: 53, Locals: []int{6, 0, 20}, Dry: make([]bool, 3)}, 0},
		{"spends all it has", some, impl.BandOp{Kind: 2, Cpu: 0, N: 7}, impl.Band{Quota: 100, Pool: 21, Spent: 59, Locals: []int{0, 0, 20}, Dry: make([]bool, 3)}, 0},
		{"spends one too many", some, impl.BandOp{Kind: 2, Cpu: 0, N: 8}, some, 3},
		{"spends nothing", some, impl.BandOp{Kind: 2, Cpu: 0}, some, 3},
		{"spends less than nothing", some, impl.BandOp{Kind: 2, Cpu: 0, N: -1}, some, 3},
		{"has nothing to spend", some, impl.BandOp{Kind: 2, Cpu: 1, N: 1}, some, 3},
		{"spends while others are dry", empty, impl.BandOp{Kind: 2, Cpu: 0, N: 7}, impl.Band{Quota: 100, Spent: 80, Locals: []int{0, 0, 20, 0}, Dry: []bool{false, true, false, false}}, 0},
		{"spends the last unit", last, impl.BandOp{Kind: 2, N: 1}, impl.Band{Quota: 1, Spent: 1, Locals: []int{0}, Dry: []bool{false}}, 0},
		{"gives back", some, impl.BandOp{Kind: 3, Cpu: 2, N: 1}, impl.Band{Quota: 100, Pool: 41, Spent: 52, Locals: []int{7, 0, 0}, Dry: make([]bool, 3)}, 0},
		{"gives back for who is dry", empty, impl.BandOp{Kind: 3, Cpu: 0}, impl.Band{Quota: 100, Pool: 7, Spent: 73, Locals: []int{0, 0, 20, 0}, Dry: make([]bool, 4)}, 0},
		{"gives back nothing, who is dry stays so", empty, impl.BandOp{Kind: 3, Cpu: 3}, empty, 0},
		{"gives back nothing, dry itself", empty, impl.BandOp{Kind: 3, Cpu: 1}, empty, 0},
		{"gives back nothing, pool not empty", some, impl.BandOp{Kind: 3, Cpu: 1}, some, 0},
		{"gives back nothing, nothing is left", gone, impl.BandOp{Kind: 3, Cpu: 1}, gone, 0},
		{"refills", some, impl.BandOp{Kind: 4}, full(3), 0},
		{"refills who is dry", empty, impl.BandOp{Kind: 4, Cpu: 4, N: -1}, full(4), 0},
		{"refills what is gone", gone, impl.BandOp{Kind: 4, Cpu: -1, N: 3}, full(3), 0},
		{"refills what is full", full(2), impl.BandOp{Kind: 4, Cpu: 99}, full(2), 0},
	} {
		if got, code := impl.BandDo(c.start, c.op); code != c.code || !sameBand(got, c.want) {
			t.Errorf("%s: %+v, %d, want %+v, %d", c.name, got, code, c.want, c.code)
		}
	}
}

// Refused is what is no kind, is at no processor, or spends what there is not; then all is as it was.
func TestBandRefused(t *testing.T) {
	starts := []impl.Band{
		{Quota: 100, Pool: 21, Spent: 52, Locals: []int{7, 0, 20}, Dry: make([]bool, 3)},
		{Quota: 100, Spent: 73, Locals: []int{7, 0, 20}, Dry: []bool{false, true, false}},
		{Quota: 10000, Spent: 9999, Locals: []int{1}, Dry: []bool{false}},
	}
	for _, b := range starts {
		for _, kind := range append([]int{-4, -1, 0, 5, 6, 257, 1<<32 + 4}, farInts()...) {
			wantBandRefused(t, b, impl.BandOp{Kind: kind, N: 1}, 1)
			wantBandRefused(t, b, impl.BandOp{Kind: kind, Cpu: -1}, 1)
		}
		for _, cpu := range append([]int{-2, -1, len(b.Locals), 4, 5, 1 << 32}, farInts()...) {
			for kind := 1; kind <= 3; kind++ {
				wantBandRefused(t, b, impl.BandOp{Kind: kind, Cpu: cpu, N: 1}, 1)
			}
			got, code := impl.BandDo(b, impl.BandOp{Kind: 4, Cpu: cpu})
			if code != 0 || got.Pool != b.Quota {
				t.Errorf("refill at processor %d: %+v, %d", cpu, got, code)
			}
		}
		for cpu, local := range b.Locals {
			for _, n := range append([]int{-local - 1, -local, -1, 0, local + 1, b.Quota + 1, 1<<32 + 1}, farInts()...) {
				wantBandRefused(t, b, impl.BandOp{Kind: 2, Cpu: cpu, N: n}, 3)
			}
		}
	}
}

func wantBandRefused(t *testing.T, b impl.Band, op impl.BandOp, want int) {
	t.Helper()
	if got, code := impl.BandDo(b, op); code != want || !sameBand(got, b) {
		t.Errorf("%+v in %+v: %+v, %d, want %d", op, b, got, code, want)
	}
	got, codes := impl.BandPlay(b, []impl.BandOp{op, op})
	if !slices.Equal(codes, []int{want, want}) || !sameBand(got, b) {
		t.Errorf("%+v twice in %+v: %+v, %v, want %d", op, b, got, codes, want)
	}
}

// All that can be done with all pools around one slice and around two of them, held against the words unit by unit.
func TestBandDoOfAllSmall(t *testing.T) {
	for _, c := range []struct{ quota, cpus int }{{1, 1}, {1, 4}, {3, 3}, {2, 4}, {19, 1}, {20, 1}, {21, 1}, {22, 2}, {41, 1}} {
		for _, b := range allBands(c.quota, c.cpus) {
			for cpu := -1; cpu <= c.cpus; cpu++ {
				for kind := 0; kind <= 5; kind++ {
					for _, n := range spendsOf(b, kind, cpu) {
						wantAsUnits(t, b, impl.BandOp{Kind: kind, Cpu: cpu, N: n})
					}
				}
			}
		}
	}
}

// spendsOf are the numbers of units that are worth a try.
func spendsOf(b impl.Band, kind, cpu int) []int {
	if kind != 2 || cpu < 0 || cpu >= len(b.Locals) {
		return []int{1}
	}
	return []int{-1, 0, 1, 2, b.Locals[cpu] - 1, b.Locals[cpu], b.Locals[cpu] + 1}
}

func wantAsUnits(t *testing.T, b impl.Band, op impl.BandOp) {
	t.Helper()
	units := unitsOf(b)
	want := units.do(op)
	if got, code := impl.BandDo(b, op); code != want || !sameBand(got, units.band()) {
		t.Fatalf("%+v in %+v: %+v, %d, want %+v, %d", op, b, got, code, units.band(), want)
	}
}

// Plays are what BandDo does one behind the other, with all codes, and as the words say unit by unit.
func TestBandPlay(t *testing.T) {
	d := &dice{state: 5}
	seen := map[int]int{}
	for round := range 400 {
		b := thrownBand(d)
		ops := thrownBandOps(d, len(b.Locals), d.oneOf(0, 1, 2, 100))
		if round%100 == 0 {
			ops = thrownBandOps(d, len(b.Locals), bandOpsLimit)
		}
		got, codes := impl.BandPlay(b, ops)
		if len(codes) != len(ops) {
			t.Fatalf("%d codes of %d", len(codes), len(ops))
		}
		units, single := unitsOf(b), b
		for i, op := range ops {
			want, code := units.do(op), 0
			single, code = impl.BandDo(single, op)
			if codes[i] != want || code != want || !sameBand(single, units.band()) {
				t.Fatalf("%d: %+v: %d and %d, want %d; %+v, want %+v", i, op, codes[i], code, want, single, units.band())
			}
			seen[want]++
		}
		if !sameBand(got, single) {
			t.Fatalf("played: %+v, one by one: %+v", got, single)
		}
	}
	for code := range 4 {
		if seen[code] < 100 {
			t.Errorf("code %d came %d times: the plays try too little", code, seen[code])
		}
	}
}

// BandMaxOps may be met; one more is too many, and then nothing is done.
func TestBandPlayAtItsLimit(t *testing.T) {
	b := impl.Band{Quota: 60, Pool: 10, Spent: 15, Locals: []int{20, 0, 15}, Dry: make([]bool, 3)}
	ops := thrownBandOps(&dice{state: 55}, 3, bandOpsLimit+1)
	for _, n := range []int{0, 1, bandOpsLimit - 1, bandOpsLimit} {
		if out, codes := impl.BandPlay(b, ops[:n]); len(codes) != n || !impl.BandOk(out) {
			t.Errorf("%d ops: %+v, %d codes", n, out, len(codes))
		}
	}
	if out, codes := impl.BandPlay(b, nil); len(codes) != 0 || !sameBand(out, b) {
		t.Errorf("no ops: %+v, %v", out, codes)
	}
	for _, list := range [][]impl.BandOp{ops, make([]impl.BandOp, bandOpsLimit+1), make([]impl.BandOp, 100000)} {
		if out, codes := impl.BandPlay(b, list); len(codes) != 0 || !isNoBand(out) {
			t.Errorf("%d ops: %+v, %d codes", len(list), out, len(codes))
		}
	}
}

func TestBandOfWrongPools(t *testing.T) {
	for name, b := range wrongBands() {
		for kind := -1; kind <= 5; kind++ {
			for _, cpu := range []int{-1, 0, 1, 3, 4} {
				op := impl.BandOp{Kind: kind, Cpu: cpu, N: 1}
				if out, code := impl.BandDo(b, op); code != 1 || !isNoBand(out) {
					t.Errorf("%s: %+v: %+v, %d", name, op, out, code)
				}
				if out, codes := impl.BandPlay(b, []impl.BandOp{op}); len(codes) != 0 || !isNoBand(out) {
					t.Errorf("%s: played %+v: %+v, %v", name, op, out, codes)
				}
				if free := impl.BandFree(b, cpu); free != 0 {
					t.Errorf("%s: BandFree at %d = %d", name, cpu, free)
				}
			}
		}
		if out, codes := impl.BandPlay(b, nil); len(codes) != 0 || !isNoBand(out) {
			t.Errorf("%s: nothing played: %+v, %v", name, out, codes)
		}
	}
}

// Nothing is written into what is handed in, nor behind its end, and what is answered has memory of its own.
func TestBandMemory(t *testing.T) {
	d := &dice{state: 56}
	for range 200 {
		b, asItWas := bandWithRoom(thrownBand(d))
		ops := thrownBandOps(d, len(b.Locals), 30)
		wasOps := slices.Clone(ops)
		for i := range ops {
			first, code := impl.BandDo(b, ops[i])
			again, codeAgain := impl.BandDo(b, ops[i])
			scribbleBand(first)
			want, _ := impl.BandDo(b, ops[i])
			if code != codeAgain || !sameBand(again, want) || !asItWas() {
				t.Fatalf("BandDo of %+v, %+v", b, ops[i])
			}
		}
		first, codes := impl.BandPlay(b, ops[:20])
		again, codesAgain := impl.BandPlay(b, ops[:20])
		wantCodes := slices.Clone(codesAgain)
		scribbleBand(first)
		for i := range codes[:cap(codes)] {
			codes[:cap(codes)][i] = -99
		}
		want, _ := impl.BandPlay(b, ops[:20])
		if !sameBand(again, want) || !slices.Equal(codesAgain, wantCodes) || !asItWas() || !slices.Equal(ops, wasOps) {
			t.Fatalf("BandPlay of %+v, %+v", b, ops)
		}
		if impl.BandOk(b); impl.BandFree(b, 0) < 0 || !asItWas() {
			t.Fatalf("BandOk or BandFree of %+v", b)
		}
	}
}

// However often it is asked, by how many at the same time and on how many processors, a play comes to the same.
func TestBandPlayIsTheSameEachTime(t *testing.T) {
	d := &dice{state: 57}
	b := impl.Band{Quota: 200, Pool: 150, Spent: 10, Locals: []int{20, 0, 19, 1}, Dry: make([]bool, 4)}
	ops := thrownBandOps(d, 4, bandOpsLimit)
	want, wantCodes := impl.BandPlay(b, ops)
	for _, procs := range []int{1, 2, 8} {
		before := runtime.GOMAXPROCS(procs)
		var all sync.WaitGroup
		for range 8 {
			all.Go(func() {
				for range 5 {
					if got, codes := impl.BandPlay(b, ops); !sameBand(got, want) || !slices.Equal(codes, wantCodes) {
						t.Errorf("on %d processors: %+v, want %+v", procs, got, want)
					}
				}
			})
		}
		all.Wait()
		runtime.GOMAXPROCS(before)
	}
}

// Who takes first gets more: in turn, two processors share what is left by the order of the ops alone.
func TestBandPlayKeepsTheOrder(t *testing.T) {
	for range 200 {
		for _, c := range []struct {
			order  []int
			locals []int
			codes  []int
		}{
			{[]int{0, 1, 2, 3}, []int{20, 20, 5, 0}, []int{0, 0, 0, 2}},
			{[]int{3, 2, 1, 0}, []int{0, 5, 20, 20}, []int{0, 0, 0, 2}},
			{[]int{2, 2, 0, 3}, []int{20, 0, 20, 5}, []int{0, 0, 0, 0}},
		} {
			b, _ := impl.BandNew(45, 4)
			var ops []impl.BandOp
			for _, cpu := range c.order {
				ops = append(ops, impl.BandOp{Kind: impl.BandTakes, Cpu: cpu})
			}
			out, codes := impl.BandPlay(b, ops)
			if !slices.Equal(out.Locals, c.locals) || !slices.Equal(codes, c.codes) {
				t.Fatalf("%v: %+v, %v", c.order, out, codes)
			}
		}
	}
}

// Nobody goes on behind a call: what it began is joined.
func TestBandPlayLeavesNobodyBehind(t *testing.T) {
	b, _ := impl.BandNew(quotaLimit, cpuLimit)
	ops := thrownBandOps(&dice{state: 58}, cpuLimit, bandOpsLimit)
	before := runtime.NumGoroutine()
	for range 5 {
		impl.BandPlay(b, ops)
	}
	// One that has said it is done may still be on its way out.
	for range 200 {
		if runtime.NumGoroutine() <= before {
			return
		}
		time.Sleep(5 * time.Millisecond)
	}
	t.Errorf("%d goroutines ahead, %d behind", before, runtime.NumGoroutine())
}
