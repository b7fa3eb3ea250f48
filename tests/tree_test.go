package tests

import (
	"slices"
	"strings"
	"testing"

	"loop.example/stint/impl"
)

func TestTreeLimits(t *testing.T) {
	limits := [...]int{impl.GroupMax, impl.DepthMax, impl.NameMax, impl.ShareStart}
	if limits != [...]int{groupLimit, depthLimit, nameLimit, 10} {
		t.Error("limits", limits)
	}
}

func wantName(t *testing.T, s string, want bool) {
	t.Helper()
	if got := impl.NameOk(s); got != want {
		t.Errorf("NameOk(%.80q) = %v", s, got)
	}
}

func TestNameOkAtTheEdges(t *testing.T) {
	for _, s := range []string{
		"a", "z", "0", "9", "a0", "0a", "00", "abcdefgh", "zzzzzzzz", "00000000", "9z9z9z9z", "m", "mno", "45678",
		"max1", "1max", "maxx", "ma", "mx", "ax", "xam", "weight1", "aweight", "weigh", "eight", "weights", "cpu", "cpus0", "proc", "procsx", "procs0", "sta", "tat", "stats", "stat0", "none", "root",
	} {
		wantName(t, s, true)
	}
	for _, s := range append(fileNames(),
		"", "abcdefghi", "000000000", "weightabc", "abcdefgh ", "abcdefgh\x00", strings.Repeat("a", 16), strings.Repeat("a", 256+8), strings.Repeat("a", 1<<20),
		"A", "Z", "Web", "weB", "MAX", "Max", "mAx", "STAT", "Procs",
		" ", "a ", " a", "a b", "\n", "a\n", "\na", "\t", "\x00", "a\x00", "/", "/a", "a/", "a/b", "-", "a-b", "a_b", "_", ".", "..", "a.b", "`", "{", ":", "@", "[", "+1", "-1",
		"\u00e9", "caf\u00e9", "\u0430", "\uff41", "\uff10", "\u0663", "\u212a", "\u017f", "\u4e16\u754c", "\U0001f600", "a\u0301",
		"\xff", "a\xff", "\xffa", "\xc1\xa1", "\xe1", "a\x80b", "\xc3", "\xed\xa0\x80", "\ufffd", "\xe0\x81\xa1", "\xc3a",
	) {
		wantName(t, s, false)
	}
}

// Each byte, alone and at each place of a name of NameMax bytes.
func TestNameOkOfEachByte(t *testing.T) {
	for b := range 256 {
		sign := string([]byte{byte(b)})
		want := b >= 'a' && b <= 'z' || b >= '0' && b <= '9'
		wantName(t, sign, want)
		for at := range nameLimit {
			wantName(t, "abcdefgh"[:at]+sign+"abcdefgh"[at+1:], want)
			wantName(t, "01234567"[:at]+sign, want)
			wantName(t, "abcdefgh"[:at]+sign+"abcdefgh"[at:], false)
		}
	}
}

// Texts that differ from the name of a file by one byte, held against the words written again.
func TestNameOkNearTheNamesOfFiles(t *testing.T) {
	for _, file := range fileNames() {
		for b := range 256 {
			sign := string([]byte{byte(b)})
			for at := range len(file) + 1 {
				wantName(t, file[:at]+sign+file[at:], modelName(file[:at]+sign+file[at:]))
				if at < len(file) {
					wantName(t, file[:at]+sign+file[at+1:], modelName(file[:at]+sign+file[at+1:]))
					wantName(t, file[:at]+file[at+1:], true)
				}
			}
		}
	}
}

// placesToTry are places of groups, and numbers that are none.
func placesToTry() []int {
	return append([]int{-8, -1, 0, 1, 2, 3, 4, 5, 6, 7, 8, 9, 64, 1 << 32, 1<<32 + 1}, farInts()...)
}

// What is no tree is told so, and nothing is told of its places.
func TestTreeOfWrongTrees(t *testing.T) {
	for name, l := range wrongTrees() {
		if impl.TreeOk(l) {
			t.Errorf("%s: TreeOk(%+v)", name, l)
		}
		for _, g := range placesToTry() {
			if depth, path, kids := impl.TreeDepth(l, g), impl.TreePath(l, g), impl.TreeKids(l, g); depth != -1 || path != "" || len(kids) != 0 {
				t.Errorf("%s: the place %d: %d, %q, %v", name, g, depth, path, kids)
			}
			for _, h := range placesToTry() {
				if impl.TreeUnder(l, g, h) {
					t.Errorf("%s: %d under %d", name, h, g)
				}
			}
		}
	}
}

// Of a tree nothing is told of what is no place, or a free one.
func TestTreeAtPlacesThatAreNone(t *testing.T) {
	l := chain(5, 2, 3)
	l[4] = impl.Group{Parent: 5, Name: "free"}
	for _, g := range placesToTry() {
		if g == 0 || g == 2 || g == 3 || g == 5 {
			continue
		}
		wantNoGroup(t, l, g)
		for _, h := range placesToTry() {
			if impl.TreeUnder(l, g, h) || impl.TreeUnder(l, h, g) {
				t.Errorf("%d under or above %d", g, h)
			}
		}
	}
	wantFound(t, l)
}

// TreeOk looks at Used, Parent and Name alone, and of a free place at Used alone.
func TestTreeOkLooksAtLittle(t *testing.T) {
	l := chain(1, 2, 3)
	l[0].Weight, l[1].Cpus, l[2].Sum, l[3].Period = -1, 99, -5, -7
	l[1].Band = impl.Band{Quota: -1, Locals: []int{7}}
	l[2].Shelves = make([]impl.Shelf, 9)
	for _, free := range []impl.Group{
		{Parent: 0, Name: "n1"}, {Parent: 1, Name: "n2"}, {Parent: 4, Name: "x"}, {Parent: 3, Name: "deep"}, {Parent: -1}, {Parent: -9, Name: "A/B"}, {Parent: 99, Name: "max"}, {Weight: -3, Shelves: make([]impl.Shelf, 1)},
	} {
		for place := 4; place < groupLimit; place++ {
			l[place] = free
		}
		if !impl.TreeOk(l) || impl.TreeFind(l, "/n1/n2") != 2 || len(impl.TreeKids(l, 0)) != 1 || len(impl.TreeKids(l, 3)) != 0 {
			t.Errorf("free places with %+v", free)
		}
		wantFound(t, l)
	}
}

// wantAsWords holds all that is told of groups against the words written again.
func wantAsWords(t *testing.T, l []impl.Group) bool {
	t.Helper()
	paths, ok := modelPaths(l)
	if got := impl.TreeOk(l); got != ok {
		t.Fatalf("TreeOk(%+v) = %v", l, got)
	}
	for g := range l {
		path, depth, kids := "", -1, []int(nil)
		if ok && l[g].Used {
			path, depth, kids = paths[g], strokesOf(paths[g]), kidsByPath(paths, g)
		}
		if impl.TreePath(l, g) != path || impl.TreeDepth(l, g) != depth || !slices.Equal(impl.TreeKids(l, g), kids) {
			t.Fatalf("the place %d of %+v: %q, %d, %v, want %q, %d, %v", g, l, impl.TreePath(l, g), impl.TreeDepth(l, g), impl.TreeKids(l, g), path, depth, kids)
		}
		for h := range l {
			want := ok && l[g].Used && l[h].Used && isInPath(paths[g], paths[h])
			if got := impl.TreeUnder(l, g, h); got != want {
				t.Fatalf("%d under %d: %v: %+v", h, g, got, l)
			}
		}
	}
	return ok
}

// All ways in which four groups can stand, free or in any place there is or is not, by names of their own and by one name.
func TestTreeOfAllSmall(t *testing.T) {
	t.Parallel()
	const free = -2
	for _, c := range []struct {
		names []string
		trees int
	}{
		// Of 4, 3, 2, 1 and no groups; by one name just those stay in which each is alone in its parent.
		{[]string{"a", "b", "c", "d"}, 101 + 4*16 + 6*3 + 4 + 1},
		{[]string{"a", "a", "a", "a"}, 4*6 + 6*2 + 4 + 1},
	} {
		places, parents := []int{1, 3, 6, 7}, []int{free, free, free, free}
		trees := 0
		for more := true; more; more = nextNumbers(parents, free, groupLimit) {
			l := treeWith(nil)
			for i, parent := range parents {
				if parent != free {
					l[places[i]] = impl.Group{Used: true, Parent: parent, Name: c.names[i]}
				}
			}
			if wantAsWords(t, l) {
				trees++
			}
		}
		if trees != c.trees {
			t.Errorf("%d trees, want %d", trees, c.trees)
		}
	}
}

// Trees in which one thing or two are changed at random, to what may be and to what may not.
func TestTreeOfThrownChanges(t *testing.T) {
	t.Parallel()
	d := &dice{state: 6}
	names := []string{"a", "b", "c", "z9", "", "max", "A", "abcdefghi", "\xff", "stat"}
	good, bad := 0, 0
	for round := range 6000 {
		l := thrownTree(d, 1+round%groupLimit)
		for range d.below(3) {
			place := d.below(groupLimit)
			switch d.below(3) {
			case 0:
				l[place].Used = !l[place].Used
			case 1:
				l[place].Parent = d.below(groupLimit+3) - 2
			case 2:
				l[place].Name = names[d.below(len(names))]
			}
		}
		if wantAsWords(t, l) {
			good++
		} else {
			bad++
		}
	}
	if good < 1000 || bad < 1000 {
		t.Errorf("%d trees, %d not: too little is tried", good, bad)
	}
}

func TestTreeKidsAscend(t *testing.T) {
	l := treeWith(map[int]impl.Group{1: {Parent: 4, Name: "z"}, 2: {Name: "y"}, 3: {Parent: 4, Name: "a"}, 4: {Name: "m"}, 5: {Parent: 4, Name: "m"}, 6: {Name: "a"}, 7: {Parent: 1, Name: "k"}})
	for g, want := range [][]int{{2, 4, 6}, {7}, {}, {}, {1, 3, 5}, {}, {}, {}} {
		if got := impl.TreeKids(l, g); !slices.Equal(got, want) {
			t.Errorf("directly in %d: %v, want %v", g, got, want)
		}
	}
	all := treeWith(map[int]impl.Group{1: {Name: "g"}, 2: {Name: "b"}, 3: {Name: "f"}, 4: {Name: "a"}, 5: {Name: "e"}, 6: {Name: "c"}, 7: {Name: "d"}})
	for range 200 {
		if got := impl.TreeKids(all, 0); !slices.Equal(got, []int{1, 2, 3, 4, 5, 6, 7}) {
			t.Fatalf("directly in the root: %v", got)
		}
	}
}

// Nothing is written into what is handed in, nor behind its end, and what is answered has memory of its own.
func TestTreeMemory(t *testing.T) {
	d := &dice{state: 61}
	lists := [][]impl.Group{}
	for round := range 200 {
		lists = append(lists, thrownTree(d, 1+round%groupLimit))
	}
	for _, l := range wrongTrees() {
		lists = append(lists, l)
	}
	for _, list := range lists {
		l, asItWas := treeWithRoom(list)
		want := treeAnswers(l)
		if !asItWas() {
			t.Fatalf("written into %+v", list)
		}
		for g := range l {
			kids := impl.TreeKids(l, g)
			for i := range kids[:cap(kids)] {
				kids[:cap(kids)][i] = -99
			}
		}
		if !asItWas() || treeAnswers(l) != want {
			t.Fatalf("an answer shares memory: %+v", list)
		}
	}
}

// What was answered stays so when what was handed in is changed behind the call.
func TestTreeAnswersStay(t *testing.T) {
	l := treeWith(map[int]impl.Group{1: {Name: "a"}, 2: {Parent: 1, Name: "b"}, 3: {Parent: 1, Name: "c"}})
	path, kids := impl.TreePath(l, 2), impl.TreeKids(l, 1)
	for i := range l {
		l[i] = impl.Group{Parent: 9, Name: "gone"}
	}
	if path != "/a/b" || !slices.Equal(kids, []int{2, 3}) {
		t.Errorf("%q, %v", path, kids)
	}
}

// However often it is asked, and by how many at the same time, the same is told.
func TestTreeIsTheSameEachTime(t *testing.T) {
	d := &dice{state: 62}
	lists := [][]impl.Group{wrongTrees()["a ring of three"], wrongTrees()["two of a name in the root"]}
	for range 6 {
		lists = append(lists, thrownTree(d, groupLimit))
	}
	wantSameEachTime(t, lists, treeAnswers)
}
