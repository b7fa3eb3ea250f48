package tests

import (
	"slices"
	"testing"

	"loop.example/stint/impl"
)

// maskCase is a set as the document sees it: its members and its text.
type maskCase struct {
	members []int
	text    string
}

// allMasks are all sets, each at the place that is its number.
func allMasks() []maskCase {
	return []maskCase{
		{nil, ""},
		{[]int{0}, "0"},
		{[]int{1}, "1"},
		{[]int{0, 1}, "0-1"},
		{[]int{2}, "2"},
		{[]int{0, 2}, "0,2"},
		{[]int{1, 2}, "1-2"},
		{[]int{0, 1, 2}, "0-2"},
		{[]int{3}, "3"},
		{[]int{0, 3}, "0,3"},
		{[]int{1, 3}, "1,3"},
		{[]int{0, 1, 3}, "0-1,3"},
		{[]int{2, 3}, "2-3"},
		{[]int{0, 2, 3}, "0,2-3"},
		{[]int{1, 2, 3}, "1-3"},
		{[]int{0, 1, 2, 3}, "0-3"},
	}
}

// noMasks are numbers that are no set.
func noMasks() []int {
	return append([]int{-16, -15, -2, -1, 16, 17, 31, 255, 256, 1 << 32}, farInts()...)
}

func TestMaskOk(t *testing.T) {
	if impl.CpuMax != 4 {
		t.Error("limit of processors")
	}
	for m := range allMasks() {
		if !impl.MaskOk(m) {
			t.Errorf("%d is a set", m)
		}
	}
	for _, m := range noMasks() {
		if impl.MaskOk(m) {
			t.Errorf("%d is no set", m)
		}
	}
}

func TestMaskMembers(t *testing.T) {
	cpus := append([]int{-64, -4, -1, 0, 1, 2, 3, 4, 5, 63, 64, 65}, farInts()...)
	for m, c := range allMasks() {
		for _, cpu := range cpus {
			if got, want := impl.MaskHas(m, cpu), slices.Contains(c.members, cpu); got != want {
				t.Errorf("MaskHas(%d, %d) = %v", m, cpu, got)
			}
		}
		if got := impl.MaskCount(m); got != len(c.members) {
			t.Errorf("MaskCount(%d) = %d", m, got)
		}
		first := -1
		if len(c.members) > 0 {
			first = c.members[0]
		}
		if got := impl.MaskFirst(m); got != first {
			t.Errorf("MaskFirst(%d) = %d, want %d", m, got, first)
		}
	}
	for _, m := range noMasks() {
		for _, cpu := range cpus {
			if impl.MaskHas(m, cpu) {
				t.Errorf("MaskHas(%d, %d) of no set", m, cpu)
			}
		}
		if got := impl.MaskCount(m); got != 0 {
			t.Errorf("MaskCount(%d) = %d of no set", m, got)
		}
		if got := impl.MaskFirst(m); got != -1 {
			t.Errorf("MaskFirst(%d) = %d of no set", m, got)
		}
	}
}

func TestMaskAnd(t *testing.T) {
	all := allMasks()
	for a := range all {
		for b := range all {
			got := impl.MaskAnd(a, b)
			if got != impl.MaskAnd(b, a) {
				t.Errorf("MaskAnd of %d and %d hangs on their order", a, b)
			}
			for cpu := range impl.CpuMax {
				both := slices.Contains(all[a].members, cpu) && slices.Contains(all[b].members, cpu)
				if impl.MaskHas(got, cpu) != both {
					t.Errorf("MaskAnd(%d, %d) = %d, processor %d", a, b, got, cpu)
				}
			}
		}
	}
	for _, no := range noMasks() {
		for m := range all {
			if impl.MaskAnd(no, m) != 0 || impl.MaskAnd(m, no) != 0 {
				t.Errorf("MaskAnd of %d, no set, and %d", no, m)
			}
		}
		for _, other := range noMasks() {
			if impl.MaskAnd(no, other) != 0 {
				t.Errorf("MaskAnd of %d and %d, no sets", no, other)
			}
		}
	}
}

func TestMaskTextIsReadBack(t *testing.T) {
	for m, c := range allMasks() {
		if got := impl.MaskText(m); got != c.text {
			t.Errorf("MaskText(%d) = %q, want %q", m, got, c.text)
		}
		got, ok := impl.MaskRead(c.text)
		if m == 0 {
			if ok || got != 0 {
				t.Errorf("the empty text is read as %d %v", got, ok)
			}
		} else if !ok || got != m {
			t.Errorf("MaskRead(%q) = %d %v, want %d", c.text, got, ok, m)
		}
	}
	for _, m := range noMasks() {
		if got := impl.MaskText(m); got != "" {
			t.Errorf("MaskText(%d) = %q of no set", m, got)
		}
	}
}

// checkRead holds what MaskRead answers of a text against the texts of all sets.
func checkRead(t *testing.T, s string) {
	t.Helper()
	want := max(0, slices.IndexFunc(allMasks(), func(c maskCase) bool { return c.text == s }))
	if got, ok := impl.MaskRead(s); got != want || ok != (want != 0) {
		t.Errorf("MaskRead(%q) = %d %v, want %d", s, got, ok, want)
	}
}

func TestMaskReadOfEveryShortText(t *testing.T) {
	signs := "01234,-"
	texts := []string{""}
	for range 6 {
		var longer []string
		for _, s := range texts {
			for i := range len(signs) {
				longer = append(longer, s+signs[i:i+1])
			}
		}
		for _, s := range longer {
			checkRead(t, s)
		}
		texts = longer
	}
}

func TestMaskReadOfTextsWithAnotherByte(t *testing.T) {
	for _, c := range allMasks() {
		for b := range 256 {
			other := string([]byte{byte(b)})
			for i := range len(c.text) + 1 {
				checkRead(t, c.text[:i]+other+c.text[i:])
				if i < len(c.text) {
					checkRead(t, c.text[:i]+other+c.text[i+1:])
				}
			}
		}
	}
}

func TestMaskReadOfNoSetsText(t *testing.T) {
	for _, s := range []string{
		"", " ", "4", "9", "00", "01", "+1", "-1", "0x1", "1.0",
		"0,1", "2,3", "0,1,2,3", "0-1,2", "0-1,2-3", "0,1-3",
		"0-0", "3-3", "2-1", "3-0", "1,0", "3,0-1", "2-3,0", "0,0", "1,1", "0-2,1",
		"0-", "-0", "0--1", "0-1-2", "0-1-3", "0,", ",0", "0,,2", "0-4", "0-3,", "1-3,4",
		"0 ", " 0", "0, 2", "0 ,2", "0 - 1", "0-1,3\n", "0\x00", "\xff", "0\u20131", "\uff10", "\u0660",
		"none", "all", "0-1,3 0-1,3",
	} {
		if m, ok := impl.MaskRead(s); ok || m != 0 {
			t.Errorf("MaskRead(%q) = %d %v", s, m, ok)
		}
	}
}
