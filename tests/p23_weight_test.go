package tests

import (
	"math"
	"testing"

	"loop.example/stint/impl"
)

// wantSteps are the steps of the weights 1 to 20, written out.
func wantSteps() []int {
	return []int{
		232792560, 116396280, 77597520, 58198140, 46558512,
		38798760, 33256080, 29099070, 25865840, 23279256,
		21162960, 19399380, 17907120, 16628040, 15519504,
		14549535, 13693680, 12932920, 12252240, 11639628,
	}
}

// noWeights are what is none: the neighbours of the bounds, and far ones.
func noWeights() []int {
	return append([]int{-20, -10, -1, 0, 21, 22, 100, 1<<8 + 10, 1<<32 + 10}, farInts()...)
}

func TestWeightLimits(t *testing.T) {
	if impl.ShareUnit != 232792560 || impl.ShareMax != 20 || impl.NiceLeast != -10 || impl.NiceMost != 9 {
		t.Error("limits of weights")
	}
	if impl.TickMax != 100 || impl.StayMin != 50 || impl.TimeMax != 100000000000000000 {
		t.Error("limits of time")
	}
	for w := 1; w <= impl.ShareMax; w++ {
		if impl.ShareUnit%w != 0 {
			t.Errorf("the weight %d does not divide the unit", w)
		}
	}
}

func TestWeightOfNiceness(t *testing.T) {
	weight := 20
	for nice := -10; nice <= 9; nice++ {
		if got := impl.WeightOf(nice); got != weight {
			t.Errorf("WeightOf(%d) = %d, want %d", nice, got, weight)
		}
		if got, ok := impl.NiceOf(weight); !ok || got != nice {
			t.Errorf("NiceOf(%d) = %d %v, want %d", weight, got, ok, nice)
		}
		weight--
	}
	for _, nice := range append([]int{-100, -12, -11, 10, 11, 20, 1 << 8, 1 << 32}, farInts()...) {
		if got := impl.WeightOf(nice); got != 0 {
			t.Errorf("WeightOf(%d) = %d of no niceness", nice, got)
		}
	}
	for _, weight := range noWeights() {
		if got, ok := impl.NiceOf(weight); ok || got != 0 {
			t.Errorf("NiceOf(%d) = %d %v of no weight", weight, got, ok)
		}
	}
}

func TestVirtualStepIsExact(t *testing.T) {
	for i, step := range wantSteps() {
		w := i + 1
		for _, units := range []int{0, 1, 2, 3, 49, 50, 100, 149, 99999999, 100000000} {
			if got := impl.VirtualStep(units, w); got != units*step {
				t.Errorf("VirtualStep(%d, %d) = %d, want %d", units, w, got, units*step)
			}
		}
		for _, units := range append([]int{-100, -1, 100000001, 1 << 32}, farInts()...) {
			if got := impl.VirtualStep(units, w); got != 0 {
				t.Errorf("VirtualStep(%d, %d) = %d beyond the units", units, w, got)
			}
		}
	}
	for _, w := range noWeights() {
		for _, units := range []int{-1, 0, 1, 100000000, math.MaxInt} {
			if got := impl.VirtualStep(units, w); got != 0 {
				t.Errorf("VirtualStep(%d, %d) = %d of no weight", units, w, got)
			}
		}
	}
}

func TestVirtualStepsAddUp(t *testing.T) {
	parts := []int{0, 1, 7, 50, 99, 149, 12345, 49999999, 50000000}
	for w := 1; w <= impl.ShareMax; w++ {
		for _, a := range parts {
			for _, b := range parts {
				if impl.VirtualStep(a, w)+impl.VirtualStep(b, w) != impl.VirtualStep(a+b, w) {
					t.Errorf("steps of %d and %d at the weight %d do not add up", a, b, w)
				}
			}
		}
	}
}

func TestVirtualUnitsTellStepsAgain(t *testing.T) {
	for i, step := range wantSteps() {
		w := i + 1
		for _, n := range []int{0, 1, 2, 49, 50, 100, 149, 99999999, 100000000} {
			v := impl.VirtualStep(n, w)
			if got := impl.VirtualUnits(v, w); got != n {
				t.Errorf("VirtualUnits(%d, %d) = %d, want %d", v, w, got, n)
			}
			if got := impl.VirtualUnits(v+1, w); got != n+1 {
				t.Errorf("VirtualUnits(%d, %d) = %d, want %d", v+1, w, got, n+1)
			}
			if got := impl.VirtualUnits(v+step-1, w); got != n+1 {
				t.Errorf("VirtualUnits(%d, %d) = %d, want %d", v+step-1, w, got, n+1)
			}
		}
	}
}

func TestVirtualUnitsAtTheirLimits(t *testing.T) {
	const most = 300000000000000000
	for i, step := range wantSteps() {
		w := i + 1
		for _, v := range []int{most - 1, most} {
			want := v / step
			if v%step != 0 {
				want++
			}
			if got := impl.VirtualUnits(v, w); got != want {
				t.Errorf("VirtualUnits(%d, %d) = %d, want %d", v, w, got, want)
			}
		}
		if got := impl.VirtualUnits(1, w); got != 1 {
			t.Errorf("VirtualUnits(1, %d) = %d", w, got)
		}
		for _, v := range append([]int{-step, -1, 0, most + 1}, farInts()...) {
			if got := impl.VirtualUnits(v, w); got != 0 {
				t.Errorf("VirtualUnits(%d, %d) = %d beyond its bounds", v, w, got)
			}
		}
	}
	for _, w := range noWeights() {
		for _, v := range []int{-1, 0, 1, 232792560, most, math.MaxInt} {
			if got := impl.VirtualUnits(v, w); got != 0 {
				t.Errorf("VirtualUnits(%d, %d) = %d of no weight", v, w, got)
			}
		}
	}
}

func TestLagMost(t *testing.T) {
	for i, step := range wantSteps() {
		if got := impl.LagMost(i + 1); got != 149*step {
			t.Errorf("LagMost(%d) = %d, want %d", i+1, got, 149*step)
		}
	}
	for _, w := range noWeights() {
		if got := impl.LagMost(w); got != 0 {
			t.Errorf("LagMost(%d) = %d of no weight", w, got)
		}
	}
}

func TestLagCut(t *testing.T) {
	for i, step := range wantSteps() {
		w, most := i+1, 149*step
		for _, lag := range []int{0, 1, step, most - 1, most} {
			if got := impl.LagCut(lag, w); got != lag {
				t.Errorf("LagCut(%d, %d) = %d, want it whole", lag, w, got)
			}
		}
		for _, lag := range []int{math.MinInt, -most, -1} {
			if got := impl.LagCut(lag, w); got != 0 {
				t.Errorf("LagCut(%d, %d) = %d, want 0", lag, w, got)
			}
		}
		for _, lag := range []int{most + 1, 2 * most, impl.TimeMax, math.MaxInt} {
			if got := impl.LagCut(lag, w); got != most {
				t.Errorf("LagCut(%d, %d) = %d, want %d", lag, w, got, most)
			}
		}
	}
	for _, w := range noWeights() {
		for _, lag := range []int{math.MinInt, -1, 0, 1, 232792560, math.MaxInt} {
			if got := impl.LagCut(lag, w); got != 0 {
				t.Errorf("LagCut(%d, %d) = %d of no weight", lag, w, got)
			}
		}
	}
}

func TestLagThatIsCutIsCutAlready(t *testing.T) {
	for w := -1; w <= impl.ShareMax+1; w++ {
		most := impl.LagMost(w)
		for _, lag := range append([]int{-1, 0, 1, most / 2, most - 1, most, most + 1}, farInts()...) {
			once := impl.LagCut(lag, w)
			if twice := impl.LagCut(once, w); twice != once {
				t.Errorf("LagCut of LagCut(%d, %d): %d, want %d", lag, w, twice, once)
			}
		}
	}
}
