package tests

import (
	"slices"
	"strings"
	"testing"

	"loop.example/stint/impl"
)

// wantFound holds a tree against the promise: each group is found by its path, by no other one's, and is under just what its steps to the root lead through.
func wantFound(t *testing.T, l []impl.Group) {
	t.Helper()
	if !impl.TreeOk(l) {
		t.Fatalf("no tree: %+v", l)
	}
	seen := map[string]int{}
	for g, group := range l {
		if !group.Used {
			wantNoGroup(t, l, g)
			continue
		}
		path := impl.TreePath(l, g)
		if other, twice := seen[path]; twice {
			t.Fatalf("%d and %d are both at %q", other, g, path)
		}
		seen[path] = g
		if found := impl.TreeFind(l, path); found != g {
			t.Fatalf("%d is at %q, where %d is found: %+v", g, path, found, l)
		}
		wantUnder(t, l, g)
	}
}

// wantUnder follows the steps of a group to the root.
func wantUnder(t *testing.T, l []impl.Group, g int) {
	t.Helper()
	var above []int
	path := ""
	for at := g; at != -1; at = l[at].Parent {
		above = append(above, at)
		if at != 0 {
			path = "/" + l[at].Name + path
		}
	}
	if g == 0 {
		path = "/"
	}
	if got := impl.TreePath(l, g); got != path {
		t.Fatalf("the path of %d: %q, want %q", g, got, path)
	}
	if depth := impl.TreeDepth(l, g); depth != len(above)-1 {
		t.Fatalf("the depth of %d: %d, want %d", g, depth, len(above)-1)
	}
	for other, group := range l {
		if got, want := impl.TreeUnder(l, other, g), group.Used && slices.Contains(above, other); got != want {
			t.Fatalf("%d under %d: %v: %+v", g, other, got, l)
		}
		if got, want := slices.Contains(impl.TreeKids(l, other), g), group.Used && l[g].Parent == other; got != want {
			t.Fatalf("%d directly in %d: %v: %+v", g, other, got, l)
		}
	}
}

// wantNoGroup holds what is told of a place at which no group is.
func wantNoGroup(t *testing.T, l []impl.Group, g int) {
	t.Helper()
	if impl.TreeDepth(l, g) != -1 || impl.TreePath(l, g) != "" || len(impl.TreeKids(l, g)) != 0 {
		t.Fatalf("the place %d of %+v: %d, %q, %v", g, l, impl.TreeDepth(l, g), impl.TreePath(l, g), impl.TreeKids(l, g))
	}
	for h := range groupLimit {
		if impl.TreeUnder(l, g, h) || impl.TreeUnder(l, h, g) {
			t.Fatalf("the place %d under or above %d: %+v", g, h, l)
		}
	}
	if impl.TreeUnder(l, g, g) {
		t.Fatalf("the place %d under itself: %+v", g, l)
	}
}

// P26: of thrown trees of one to GroupMax groups, with free places between.
func TestTreeGroupsAreFound(t *testing.T) {
	t.Parallel()
	d := &dice{state: 26}
	depths := map[int]int{}
	behind := 0
	for round := range 4000 {
		l := thrownTree(d, 1+round%groupLimit)
		wantFound(t, l)
		for g, group := range l {
			depths[impl.TreeDepth(l, g)]++
			if group.Used && group.Parent > g {
				behind++
			}
		}
	}
	for depth := -1; depth <= depthLimit; depth++ {
		if depths[depth] < 1000 {
			t.Errorf("the depth %d came %d times: the trees try too little", depth, depths[depth])
		}
	}
	if len(depths) != depthLimit+2 || behind < 1000 {
		t.Errorf("depths %v, %d in one behind them", depths, behind)
	}
}

// P26: of all trees of five groups and the root, at places with others between.
func TestTreeGroupsAreFoundInAllShapes(t *testing.T) {
	places := []int{0, 1, 2, 4, 5, 7}
	at := []int{0, 0, 0, 0, 0}
	shapes := 0
	for more := true; more; more = nextNumbers(at, 0, len(places)-1) {
		groups := map[int]impl.Group{}
		for i, parent := range at {
			groups[places[i+1]] = impl.Group{Parent: places[parent], Name: string(rune('a' + i))}
		}
		l := treeWith(groups)
		if _, ok := modelPaths(l); ok != impl.TreeOk(l) {
			t.Fatalf("TreeOk(%+v) = %v", l, !ok)
		} else if ok {
			shapes++
			wantFound(t, l)
		}
	}
	// Of the 1296 trees of six with a root that is given 120 have five steps, and 420 have four.
	if shapes != 756 {
		t.Errorf("%d shapes", shapes)
	}
}

// P26: at the edges that the document names.
func TestTreeGroupsAreFoundAtTheEdges(t *testing.T) {
	for name, c := range map[string]struct {
		tree  []impl.Group
		paths map[int]string
	}{
		"the root alone":            {treeWith(nil), map[int]string{0: "/"}},
		"DepthMax steps":            {chain(1, 2, 3), map[int]string{0: "/", 1: "/n1", 2: "/n1/n2", 3: "/n1/n2/n3"}},
		"parents behind":            {chain(7, 6, 5), map[int]string{0: "/", 7: "/n7", 6: "/n7/n6", 5: "/n7/n6/n5"}},
		"one behind, one ahead":     {chain(4, 7, 1), map[int]string{0: "/", 4: "/n4", 7: "/n4/n7", 1: "/n4/n7/n1"}},
		"names of one byte":         {treeWith(map[int]impl.Group{2: {Name: "a"}, 5: {Name: "0"}}), map[int]string{0: "/", 2: "/a", 5: "/0"}},
		"names of NameMax bytes":    {treeWith(map[int]impl.Group{1: {Name: "abcdefgh"}, 2: {Parent: 1, Name: "abcdefg0"}, 3: {Parent: 2, Name: "99999999"}}), map[int]string{0: "/", 1: "/abcdefgh", 2: "/abcdefgh/abcdefg0", 3: "/abcdefgh/abcdefg0/99999999"}},
		"one name, other parents":   {treeWith(map[int]impl.Group{1: {Name: "a"}, 2: {Parent: 1, Name: "a"}, 3: {Parent: 2, Name: "a"}, 4: {Name: "b"}, 5: {Parent: 4, Name: "a"}}), map[int]string{0: "/", 1: "/a", 2: "/a/a", 3: "/a/a/a", 4: "/b", 5: "/b/a"}},
		"a name begins the other":   {treeWith(map[int]impl.Group{1: {Name: "a"}, 2: {Name: "aa"}, 3: {Parent: 2, Name: "a"}, 4: {Parent: 1, Name: "aa"}}), map[int]string{0: "/", 1: "/a", 2: "/aa", 3: "/aa/a", 4: "/a/aa"}},
		"all in the root":           {treeWith(map[int]impl.Group{1: {Name: "g"}, 2: {Name: "f"}, 3: {Name: "e"}, 4: {Name: "d"}, 5: {Name: "c"}, 6: {Name: "b"}, 7: {Name: "a"}}), map[int]string{0: "/", 1: "/g", 2: "/f", 3: "/e", 4: "/d", 5: "/c", 6: "/b", 7: "/a"}},
		"nearly the name of a file": {treeWith(map[int]impl.Group{1: {Name: "weights"}, 2: {Name: "ma"}, 3: {Name: "cpu"}, 4: {Name: "proc"}, 5: {Name: "stat0"}}), map[int]string{0: "/", 1: "/weights", 2: "/ma", 3: "/cpu", 4: "/proc", 5: "/stat0"}},
	} {
		for g := range groupLimit {
			path, want := c.paths[g]
			if got := impl.TreePath(c.tree, g); got != path {
				t.Errorf("%s: the path of %d: %q, want %q", name, g, got, path)
			}
			if want && impl.TreeFind(c.tree, path) != g {
				t.Errorf("%s: at %q %d is found, want %d", name, path, impl.TreeFind(c.tree, path), g)
			}
		}
		wantFound(t, c.tree)
	}
}

// wantFoundAsTold holds what is found at any text against the paths, which are all that is to be found.
func wantFoundAsTold(t *testing.T, l []impl.Group, paths []string, text string) {
	t.Helper()
	want := -1
	if text != "" {
		want = slices.Index(paths, text)
	}
	if got := impl.TreeFind(l, text); got != want {
		t.Fatalf("at %q %d is found, want %d", text, got, want)
	}
}

// P26: by its path alone: not by one with a byte more, fewer or another one.
func TestTreeGroupsAreFoundByTheirPathsAlone(t *testing.T) {
	l := treeWith(map[int]impl.Group{1: {Parent: 6, Name: "b"}, 3: {Parent: 1, Name: "c"}, 4: {Name: "ab"}, 6: {Name: "a"}, 7: {Parent: 6, Name: "bc"}})
	paths := []string{"/", "/a/b", "", "/a/b/c", "/ab", "", "/a", "/a/bc"}
	for _, path := range paths {
		wantFoundAsTold(t, l, paths, path)
		for i := range len(path) + 1 {
			wantFoundAsTold(t, l, paths, path[:i])
			wantFoundAsTold(t, l, paths, path[i:])
			for b := range 256 {
				other := string([]byte{byte(b)})
				wantFoundAsTold(t, l, paths, path[:i]+other+path[i:])
				if i < len(path) {
					wantFoundAsTold(t, l, paths, path[:i]+other+path[i+1:])
				}
			}
		}
	}
}

// P26: of all short texts of strokes, names and other signs just the paths find something.
func TestTreeFindOfEveryShortText(t *testing.T) {
	t.Parallel()
	l := treeWith(map[int]impl.Group{1: {Parent: 6, Name: "b"}, 3: {Parent: 1, Name: "a"}, 4: {Name: "ab"}, 6: {Name: "a"}, 7: {Parent: 6, Name: "bb"}})
	paths := []string{"/", "/a/b", "", "/a/b/a", "/ab", "", "/a", "/a/bb"}
	signs := []string{"/", "a", "b", "A", ".", "\xff", "\u00e1"}
	texts := []string{""}
	found := 0
	for range 7 {
		var longer []string
		for _, s := range texts {
			wantFoundAsTold(t, l, paths, s)
			if impl.TreeFind(l, s) >= 0 {
				found++
			}
			for _, sign := range signs {
				longer = append(longer, s+sign)
			}
		}
		texts = longer
	}
	if found != 6 {
		t.Errorf("%d found", found)
	}
}

// P26: texts that are no path of a group find nothing.
func TestTreeFindOfWrongPaths(t *testing.T) {
	l := treeWith(map[int]impl.Group{1: {Name: "a"}, 2: {Parent: 1, Name: "b"}, 3: {Parent: 2, Name: "c"}, 4: {Name: "mark"}})
	l[5] = impl.Group{Parent: 0, Name: "free"}
	for _, path := range []string{
		"", "a", "b", "a/b", "mark", " ", ".", "\\", "\\a",
		"//", "///", "/a/", "/a/b/", "/a/b/c/", "/mark/", "//a", "/a//b", "/a/b//c", "//a/b", "/a/b/c//",
		"/b", "/c", "/a/c", "/b/a", "/a/b/c/d", "/a/b/c/a", "/a/mark", "/mark/a", "/free", "/n1",
		"/A", "/A/B", "/a/B", " /a", "/a ", "/ a", "/a\n", "\n/a", "/a\x00", "/\x00", "/a/b\xff", "/\xffa", "\xff/a", "/a\xff/b", "/a\xe2\x82/b",
		"/./a", "/a/.", "/a/..", "/../a", "/a/b/..", "/-", "/*", "/0", "/-1", "/1",
		"\uff0fa", "/\uff41", "\u2215a", "/a\u2044b", "/\u0430",
		"/weight", "/max", "/cpus", "/procs", "/stat", "/a/weight", "/a/procs",
		strings.Repeat("/", 1<<16), strings.Repeat("/a", 1<<16), strings.Repeat("a", 1<<16), "/" + strings.Repeat("a", 1<<16), "/a/b/c" + strings.Repeat("\x00", 1<<16), strings.Repeat("/a/..", 1<<12) + "/a",
	} {
		if g := impl.TreeFind(l, path); g != -1 {
			t.Errorf("at %.80q %d is found", path, g)
		}
	}
}

// P26 speaks of trees: in what is none nothing is found, not even where its path would lead.
func TestTreeFindInNoTree(t *testing.T) {
	for name, l := range wrongTrees() {
		for _, path := range []string{"/", "", "/a", "/a/b", "/b", "/n1", "/n1/n2", "/n1/n2/n3", "/n1/n2/n3/n4"} {
			if g := impl.TreeFind(l, path); g != -1 {
				t.Errorf("%s: at %q %d is found", name, path, g)
			}
		}
	}
}
