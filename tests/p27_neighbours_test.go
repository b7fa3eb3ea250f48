package tests

import (
	"testing"

	"loop.example/stint/impl"
)

// P27: whoever is in my span has me in theirs, and it is the same one; a span has its own processor.
func TestNeighboursOfOneAnother(t *testing.T) {
	for cpus := 1; cpus <= cpuLimit; cpus++ {
		for level := range impl.DomainLevels(cpus) {
			for a := range cpus {
				mine := impl.DomainSpan(cpus, a, level)
				if !impl.MaskHas(mine, a) {
					t.Errorf("%d of %d is not in its span %d at %d", a, cpus, mine, level)
				}
				for b := range cpus {
					theirs := impl.DomainSpan(cpus, b, level)
					if impl.MaskHas(mine, b) != impl.MaskHas(theirs, a) {
						t.Errorf("%d and %d of %d at %d: %d and %d", a, b, cpus, level, mine, theirs)
					}
					if mine != theirs && impl.MaskAnd(mine, theirs) != 0 {
						t.Errorf("spans of %d and %d of %d at %d are neither one nor apart: %d and %d", a, b, cpus, level, mine, theirs)
					}
				}
			}
		}
	}
}

// P27: the spans of the next level have those of this one, and the last one has all.
func TestNeighboursOfTheNextLevel(t *testing.T) {
	for cpus := 1; cpus <= cpuLimit; cpus++ {
		levels := impl.DomainLevels(cpus)
		for cpu := range cpus {
			before := 1 << cpu
			for level := range levels {
				span := impl.DomainSpan(cpus, cpu, level)
				if impl.MaskAnd(span, before) != before {
					t.Errorf("%d of %d: the span %d at %d has not %d", cpu, cpus, span, level, before)
				}
				before = span
			}
			if before != 1<<cpus-1 {
				t.Errorf("%d of %d: the last span is %d", cpu, cpus, before)
			}
			if behind := impl.DomainSpan(cpus, cpu, levels); behind != 0 {
				t.Errorf("%d of %d: behind the last level: %d", cpu, cpus, behind)
			}
		}
	}
}

// P27: two are as near one way as the other, first where the spans say so, and all are near at the last level.
func TestNeighboursAreNearBothWays(t *testing.T) {
	for cpus := 1; cpus <= cpuLimit; cpus++ {
		levels := impl.DomainLevels(cpus)
		for a := range cpus {
			for b := range cpus {
				near := impl.DomainNear(cpus, a, b)
				if near != impl.DomainNear(cpus, b, a) {
					t.Errorf("%d and %d of %d: %d and %d", a, b, cpus, near, impl.DomainNear(cpus, b, a))
				}
				if cpus == 1 {
					if near != -1 {
						t.Errorf("one processor has no levels: %d", near)
					}
					continue
				}
				if near < 0 || near >= levels {
					t.Errorf("%d and %d of %d: %d", a, b, cpus, near)
				}
				for level := range levels {
					if in := impl.MaskHas(impl.DomainSpan(cpus, a, level), b); in != (level >= near) {
						t.Errorf("%d and %d of %d are near at %d, in the span at %d: %v", a, b, cpus, near, level, in)
					}
				}
			}
		}
	}
}

// P27 speaks of processors and levels that there are: elsewhere there are no neighbours.
func TestNeighboursOfNobody(t *testing.T) {
	for _, cpus := range cpuCountsToTry() {
		levels := impl.DomainLevels(cpus)
		for _, cpu := range cpusToTry() {
			for _, level := range levelsToTry() {
				there := cpus >= 1 && cpus <= cpuLimit && cpu >= 0 && cpu < cpus && level >= 0 && level < levels
				if span := impl.DomainSpan(cpus, cpu, level); (span != 0) != there {
					t.Errorf("DomainSpan(%d, %d, %d) = %d", cpus, cpu, level, span)
				}
			}
			for _, other := range cpusToTry() {
				there := cpus >= 2 && cpus <= cpuLimit && cpu >= 0 && cpu < cpus && other >= 0 && other < cpus
				if near := impl.DomainNear(cpus, cpu, other); (near != -1) != there {
					t.Errorf("DomainNear(%d, %d, %d) = %d", cpus, cpu, other, near)
				}
			}
		}
	}
}
