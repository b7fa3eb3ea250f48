package tests

import (
	"slices"
	"testing"

	"loop.example/stint/impl"
)

// spanTable is the spans of each processor at each level, at the number of processors; 0 and 1 processors have none.
func spanTable() [cpuLimit + 1][][]int {
	return [cpuLimit + 1][][]int{
		2: {{3, 3}},
		3: {{3, 3, 4}, {7, 7, 7}},
		4: {{3, 3, 12, 12}, {15, 15, 15, 15}},
	}
}

func cpuCountsToTry() []int {
	return append([]int{-4, -1, 0, 1, 2, 3, 4, 5, 8, 16, 64, 1 << 32, 1<<32 + 2}, farInts()...)
}

func cpusToTry() []int {
	return append([]int{-64, -4, -3, -2, -1, 0, 1, 2, 3, 4, 5, 8, 63, 64, 1 << 32, 1<<32 + 1}, farInts()...)
}

func levelsToTry() []int {
	return append([]int{-65, -2, -1, 0, 1, 2, 3, 61, 62, 63, 64, 65, 1 << 32}, farInts()...)
}

func TestDomainLevels(t *testing.T) {
	table := spanTable()
	for _, cpus := range cpuCountsToTry() {
		want := 0
		if cpus >= 0 && cpus <= cpuLimit {
			want = len(table[cpus])
		}
		if got := impl.DomainLevels(cpus); got != want {
			t.Errorf("DomainLevels(%d) = %d, want %d", cpus, got, want)
		}
	}
}

// wantSpan is the span by the table, 0 where it has none.
func wantSpan(cpus, cpu, level int) int {
	table := spanTable()
	if cpus < 0 || cpus > cpuLimit || level < 0 || level >= len(table[cpus]) || cpu < 0 || cpu >= cpus {
		return 0
	}
	return table[cpus][level][cpu]
}

func TestDomainSpan(t *testing.T) {
	for _, cpus := range cpuCountsToTry() {
		for _, cpu := range cpusToTry() {
			for _, level := range levelsToTry() {
				if got, want := impl.DomainSpan(cpus, cpu, level), wantSpan(cpus, cpu, level); got != want {
					t.Errorf("DomainSpan(%d, %d, %d) = %d, want %d", cpus, cpu, level, got, want)
				}
			}
		}
	}
}

// By the words: those that are the same when divided by 2^(level + 1), down.
func TestDomainSpanByDivision(t *testing.T) {
	for cpus := 2; cpus <= cpuLimit; cpus++ {
		for level, width := range []int{2, 4}[:len(spanTable()[cpus])] {
			for cpu := range cpus {
				span := impl.DomainSpan(cpus, cpu, level)
				for other := range cpuLimit {
					want := other < cpus && other/width == cpu/width
					if got := span&(1<<other) != 0; got != want {
						t.Errorf("%d in the span of %d of %d at %d: %v", other, cpu, cpus, level, got)
					}
				}
			}
		}
	}
}

func TestDomainNear(t *testing.T) {
	table := map[int][][]int{
		1: {{-1}},
		2: {{0, 0}, {0, 0}},
		3: {{0, 0, 1}, {0, 0, 1}, {1, 1, 0}},
		4: {{0, 0, 1, 1}, {0, 0, 1, 1}, {1, 1, 0, 0}, {1, 1, 0, 0}},
	}
	for _, cpus := range cpuCountsToTry() {
		for _, a := range cpusToTry() {
			for _, b := range cpusToTry() {
				want := -1
				if rows := table[cpus]; a >= 0 && a < len(rows) && b >= 0 && b < len(rows) {
					want = rows[a][b]
				}
				if got := impl.DomainNear(cpus, a, b); got != want {
					t.Errorf("DomainNear(%d, %d, %d) = %d, want %d", cpus, a, b, got, want)
				}
			}
		}
	}
}

// domainAnswers is all that the functions of the chapter tell.
func domainAnswers() []int {
	var told []int
	for _, cpus := range cpuCountsToTry() {
		told = append(told, impl.DomainLevels(cpus))
		for _, cpu := range cpusToTry() {
			for _, other := range levelsToTry() {
				told = append(told, impl.DomainSpan(cpus, cpu, other), impl.DomainNear(cpus, cpu, other))
			}
		}
	}
	return told
}

func TestDomainIsTheSameEachTime(t *testing.T) {
	want := domainAnswers()
	for range 20 {
		if !slices.Equal(domainAnswers(), want) {
			t.Fatal("the answers are not the same")
		}
	}
}
