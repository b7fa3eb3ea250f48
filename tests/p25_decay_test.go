package tests

import (
	"testing"

	"loop.example/stint/impl"
)

const (
	loadMost = 8000000
	usedMost = 1000000
)

// someLoads are loads: all small ones, some on the way, and those at the limit.
func someLoads() []int {
	var list []int
	for load := 0; load <= 200; load++ {
		list = append(list, load)
	}
	for load := 211; load < loadMost; load += 31607 {
		list = append(list, load)
	}
	for load := loadMost - 20; load <= loadMost; load++ {
		list = append(list, load)
	}
	return list
}

// someUsed is what may be used: all small numbers, some on the way, and those at the limit.
func someUsed() []int {
	list := []int{0, 1, 2, 3, 7, 8, 9, 10, 15, 16, 17, 24, 25, 26, 99, 100, 1000, 12345, 500000}
	for used := usedMost - 9; used <= usedMost; used++ {
		list = append(list, used)
	}
	return list
}

func noLoads() []int {
	return append([]int{-8, -1, loadMost + 1, loadMost + 8, 1<<32 + 8}, farInts()...)
}

func noUsed() []int { return append([]int{-8, -1, usedMost + 1, loadMost, 1<<32 + 8}, farInts()...) }

func noBeats() []int { return append([]int{-20, -1, 21, 22, 100, 1<<32 + 3}, farInts()...) }

func TestDecayLimits(t *testing.T) {
	if impl.DecayPart != 8 || impl.DecayMost != 1000000 || impl.BeatMax != 20 {
		t.Error("limits of loads")
	}
}

func TestDecayBeat(t *testing.T) {
	for _, c := range []struct{ load, used, want int }{
		{0, 0, 0}, {0, 10, 10}, {1, 0, 1}, {7, 0, 7}, {8, 0, 7}, {9, 0, 8},
		{15, 0, 14}, {16, 0, 14}, {17, 0, 15}, {23, 1, 22}, {80, 10, 80}, {81, 10, 81}, {79, 10, 80},
		{1000, 5, 880}, {loadMost, 0, 7000000}, {loadMost, usedMost, loadMost},
		{loadMost - 1, usedMost, loadMost}, {loadMost - 7, 0, 7000000 - 6}, {0, usedMost, usedMost},
	} {
		if got := impl.DecayBeat(c.load, c.used); got != c.want {
			t.Errorf("DecayBeat(%d, %d) = %d, want %d", c.load, c.used, got, c.want)
		}
	}
}

func TestDecayBeatTakesThePartRoundedDown(t *testing.T) {
	for _, load := range someLoads() {
		for _, used := range someUsed() {
			got := impl.DecayBeat(load, used)
			part := load + used - got
			if 8*part > load || load >= 8*(part+1) {
				t.Errorf("DecayBeat(%d, %d) = %d takes %d off", load, used, got, part)
			}
		}
	}
}

func TestDecayBeatBeyondItsBounds(t *testing.T) {
	for _, load := range noLoads() {
		for _, used := range append(noUsed(), 0, 1, usedMost) {
			if got := impl.DecayBeat(load, used); got != 0 {
				t.Errorf("DecayBeat(%d, %d) = %d", load, used, got)
			}
		}
	}
	for _, used := range noUsed() {
		for _, load := range []int{0, 1, 8, loadMost} {
			if got := impl.DecayBeat(load, used); got != 0 {
				t.Errorf("DecayBeat(%d, %d) = %d", load, used, got)
			}
		}
	}
}

func TestDecayBeatsAreBeats(t *testing.T) {
	if got := impl.DecayBeats(0, 10, 3); got != 27 {
		t.Errorf("DecayBeats(0, 10, 3) = %d", got)
	}
	if got := impl.DecayBeats(64, 0, 2); got != 49 {
		t.Errorf("DecayBeats(64, 0, 2) = %d", got)
	}
	for _, load := range []int{0, 1, 7, 8, 100, 12345, loadMost - 1, loadMost} {
		for _, used := range []int{0, 1, 10, 12345, usedMost - 1, usedMost} {
			want := load
			for n := 0; n <= impl.BeatMax; n++ {
				if got := impl.DecayBeats(load, used, n); got != want {
					t.Errorf("DecayBeats(%d, %d, %d) = %d, want %d", load, used, n, got, want)
				}
				want = want - want/8 + used
			}
		}
	}
}

func TestDecayBeatsBeyondTheirBounds(t *testing.T) {
	for _, n := range noBeats() {
		if got := impl.DecayBeats(800, 10, n); got != 0 {
			t.Errorf("DecayBeats(800, 10, %d) = %d", n, got)
		}
	}
	for _, load := range noLoads() {
		for _, n := range []int{0, 1, 20} {
			if got := impl.DecayBeats(load, 10, n); got != 0 {
				t.Errorf("DecayBeats(%d, 10, %d) = %d", load, n, got)
			}
		}
	}
	for _, used := range noUsed() {
		for _, load := range []int{0, 5, 800, loadMost} {
			if got := impl.DecayBeats(load, used, 0); got != load {
				t.Errorf("DecayBeats(%d, %d, 0) = %d, want the load", load, used, got)
			}
			for _, n := range []int{1, 2, 20} {
				if got := impl.DecayBeats(load, used, n); got != 0 {
					t.Errorf("DecayBeats(%d, %d, %d) = %d", load, used, n, got)
				}
			}
		}
	}
}

func TestDecayTop(t *testing.T) {
	for _, used := range someUsed() {
		want := 0
		for range 8 {
			want += used
		}
		if got := impl.DecayTop(used); got != want {
			t.Errorf("DecayTop(%d) = %d, want %d", used, got, want)
		}
	}
	for _, used := range noUsed() {
		if got := impl.DecayTop(used); got != 0 {
			t.Errorf("DecayTop(%d) = %d", used, got)
		}
	}
}

func TestLoadStaysBelowItsTop(t *testing.T) {
	for _, used := range someUsed() {
		top := impl.DecayTop(used)
		for _, load := range append(someLoads(), top, max(0, top-1), max(0, top-7)) {
			if load > top {
				continue
			}
			if got := impl.DecayBeat(load, used); got > top {
				t.Errorf("DecayBeat(%d, %d) = %d passes %d", load, used, got, top)
			}
			if got := impl.DecayBeats(load, used, impl.BeatMax); got > top {
				t.Errorf("beats of %d and %d come to %d, past %d", load, used, got, top)
			}
		}
	}
}

func TestLoadFallsWhenNothingIsUsed(t *testing.T) {
	for _, load := range someLoads() {
		got := impl.DecayBeat(load, 0)
		if got < 0 || got > load || load >= 8 && got == load {
			t.Errorf("DecayBeat(%d, 0) = %d", load, got)
		}
		last := load
		for n := 0; n <= impl.BeatMax; n++ {
			now := impl.DecayBeats(load, 0, n)
			if now < 0 || now > last {
				t.Errorf("DecayBeats(%d, 0, %d) = %d rises from %d", load, n, now, last)
			}
			last = now
		}
	}
}
