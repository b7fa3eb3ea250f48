package impl

import (
	"iter"
	"strconv"
	"strings"
)

// CpuMax bounds processors.
const CpuMax = 4

// allCpus is the set of all processors that there can be.
const allCpus = 1<<CpuMax - 1

// MaskOk says whether a number is a set of processors.
func MaskOk(m int) bool { return m >= 0 && m <= allCpus }

// MaskHas says whether a set has a processor.
func MaskHas(m int, cpu int) bool {
	return MaskOk(m) && cpuSet(m).has(cpu)
}

// MaskCount tells how many a set has.
func MaskCount(m int) int {
	if !MaskOk(m) {
		return 0
	}
	return cpuSet(m).count()
}

// MaskFirst is the first of a set.
func MaskFirst(m int) int {
	if !MaskOk(m) {
		return -1
	}
	return cpuSet(m).firstFrom(0)
}

// MaskAnd is what two sets have in common.
func MaskAnd(a int, b int) int {
	if !MaskOk(a) || !MaskOk(b) {
		return 0
	}
	return a & b
}

// MaskText writes a set.
func MaskText(m int) string {
	if !MaskOk(m) {
		return ""
	}
	return cpuSet(m).text()
}

// MaskRead reads one.
func MaskRead(s string) (int, bool) {
	// There are few sets: to hold a text against each one's own text leaves no other spelling through.
	for m := 1; m <= allCpus; m++ {
		if s == MaskText(m) {
			return m, true
		}
	}
	return 0, false
}

// cpuSet is a set of processors that is known to be ok.
type cpuSet int

func (s cpuSet) has(cpu int) bool {
	return cpu >= 0 && cpu < CpuMax && s>>cpu&1 == 1
}

// members goes through the set, ascending.
func (s cpuSet) members() iter.Seq[int] {
	return func(yield func(int) bool) {
		for cpu := range CpuMax {
			if s.has(cpu) && !yield(cpu) {
				return
			}
		}
	}
}

// others is the set of all processors that are not in this one.
func (s cpuSet) others() cpuSet { return allCpus &^ s }

func (s cpuSet) count() int {
	n := 0
	for range s.members() {
		n++
	}
	return n
}

// firstFrom is the first member that is not below cpu, -1 if there is none.
func (s cpuSet) firstFrom(cpu int) int {
	for member := range s.members() {
		if member >= cpu {
			return member
		}
	}
	return -1
}

// stayOrFirst is a processor itself if it is a member, else the first member.
func (s cpuSet) stayOrFirst(cpu int) int {
	if s.has(cpu) {
		return cpu
	}
	return s.firstFrom(0)
}

// runLast is where the run of neighbours ends that begins at the member first.
func (s cpuSet) runLast(first int) int {
	gap := s.others().firstFrom(first)
	if gap < 0 {
		return CpuMax - 1
	}
	return gap - 1
}

func (s cpuSet) text() string {
	var runs []string
	for cpu := range s.members() {
		if !s.has(cpu - 1) {
			runs = append(runs, runText(cpu, s.runLast(cpu)))
		}
	}
	return strings.Join(runs, ",")
}

func runText(first int, last int) string {
	if first == last {
		return strconv.Itoa(first)
	}
	return strconv.Itoa(first) + "-" + strconv.Itoa(last)
}
