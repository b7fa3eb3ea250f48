package tests

import (
	"maps"
	"reflect"
	"regexp"
	"slices"
	"strconv"
	"strings"

	"loop.example/stint/impl"
)

// The document's numbers of chapter 6, written again: a limit of the program that is off must not be off here as well.
const (
	groupLimit = 8
	depthLimit = 3
	nameLimit  = 8
)

// fileNames are the names of files, which no group has.
func fileNames() []string { return []string{"weight", "max", "cpus", "procs", "stat"} }

var nameSigns = regexp.MustCompile(`\A[a-z0-9]{1,8}\z`)

// modelName is the document's NameOk.
func modelName(s string) bool {
	return nameSigns.MatchString(s) && !slices.Contains(fileNames(), s)
}

// modelPaths are the paths of an ok tree, the empty text where no group is, and true; they grow from the root down.
func modelPaths(l []impl.Group) ([]string, bool) {
	if len(l) != groupLimit || !l[0].Used || l[0].Parent != -1 || l[0].Name != "" {
		return nil, false
	}
	paths := make([]string, groupLimit)
	paths[0] = "/"
	for range depthLimit {
		ahead := slices.Clone(paths)
		for g := 1; g < groupLimit; g++ {
			if p := l[g].Parent; l[g].Used && p >= 0 && p < groupLimit && ahead[p] != "" {
				paths[g] = strings.TrimSuffix(ahead[p], "/") + "/" + l[g].Name
			}
		}
	}
	seen := map[string]bool{}
	for g := 1; g < groupLimit; g++ {
		if l[g].Used && (paths[g] == "" || seen[paths[g]] || !modelName(l[g].Name)) {
			return nil, false
		}
		if l[g].Used {
			seen[paths[g]] = true
		}
	}
	return paths, true
}

// isInPath says, by the texts alone, whether the one path is the other one or begins with it.
func isInPath(outer, inner string) bool {
	return inner == outer || strings.HasPrefix(inner, strings.TrimSuffix(outer, "/")+"/")
}

// strokesOf is how many names a path has.
func strokesOf(path string) int {
	if path == "/" {
		return 0
	}
	return strings.Count(path, "/")
}

// kidsByPath are the groups whose path is that of g and one name more.
func kidsByPath(paths []string, g int) []int {
	var list []int
	for h, path := range paths {
		if path != "" && isInPath(paths[g], path) && strokesOf(path) == strokesOf(paths[g])+1 {
			list = append(list, h)
		}
	}
	return list
}

// treeWith is the root, and groups at their places.
func treeWith(groups map[int]impl.Group) []impl.Group {
	l := make([]impl.Group, groupLimit)
	l[0] = impl.Group{Used: true, Parent: -1}
	for place, group := range groups {
		group.Used = true
		l[place] = group
	}
	return l
}

// chain is groups one in the other: the first in the root, each next one in the one ahead of it.
func chain(places ...int) []impl.Group {
	groups := map[int]impl.Group{}
	parent := 0
	for _, place := range places {
		groups[place] = impl.Group{Parent: parent, Name: "n" + strconv.Itoa(place)}
		parent = place
	}
	return treeWith(groups)
}

// thrownTree is some ok tree of so many groups, the root among them; what is in its free places may be anything.
func thrownTree(d *dice, count int) []impl.Group {
	l := treeWith(nil)
	depths := map[int]int{0: 0}
	names := []string{"a", "b", "c", "0", "z9", "max1", "abcdefgh", "87654321"}
	for len(depths) < count {
		place, parent := 1+d.below(groupLimit-1), d.below(groupLimit)
		depth, there := depths[parent]
		if _, taken := depths[place]; taken || !there || depth == depthLimit {
			continue
		}
		depths[place] = depth + 1
		l[place] = impl.Group{Used: true, Parent: parent, Name: names[d.below(len(names))]}
		for hasTwin(l, place) {
			l[place].Name = names[d.below(len(names))]
		}
	}
	for place := range l {
		if !l[place].Used && d.below(2) == 0 {
			l[place] = impl.Group{Parent: d.oneOf(-7, -1, 0, place, 8, 99), Name: names[d.below(len(names))] + []string{"", "/", "A"}[d.below(3)]}
		}
		addBallast(d, &l[place])
	}
	return l
}

// hasTwin says whether another group is in the same one by the same name.
func hasTwin(l []impl.Group, place int) bool {
	for other, group := range l {
		if other != place && group.Used && group.Parent == l[place].Parent && group.Name == l[place].Name {
			return true
		}
	}
	return false
}

// addBallast fills, now and then, what a tree does not hang on.
func addBallast(d *dice, g *impl.Group) {
	if d.below(3) > 0 {
		return
	}
	g.Weight, g.Cpus, g.Period, g.Next, g.Sum = d.oneOf(-1, 0, 10, 21), d.oneOf(-1, 0, 15, 16), d.oneOf(-1, 0, 1001), d.oneOf(-5, 0), d.oneOf(-5, 0, 7)
	g.Band = impl.Band{Quota: d.below(3), Pool: d.below(9), Locals: []int{1, -2}, Dry: []bool{true}}
	g.Shelves = []impl.Shelf{{Floor: -1, On: true}, {V: 7, W: 99}}
}

// treeClone is groups in memory of their own, spare room included.
func treeClone(l []impl.Group) []impl.Group {
	whole := slices.Clone(l[:cap(l)])
	for i := range whole {
		whole[i].Band.Locals = slices.Clone(whole[i].Band.Locals)
		whole[i].Band.Dry = slices.Clone(whole[i].Band.Dry)
		whole[i].Shelves = slices.Clone(whole[i].Shelves)
	}
	return whole[:len(l)]
}

// treeWithRoom is groups with marks behind their end, and a function that tells whether groups and marks are as they were.
func treeWithRoom(l []impl.Group) ([]impl.Group, func() bool) {
	whole := append(treeClone(l), impl.Group{Used: true, Parent: 0, Name: "mark"}, impl.Group{Name: "mark"})
	was := treeClone(whole)
	return whole[:len(l)], func() bool { return reflect.DeepEqual(whole, was) }
}

// treeAnswers is all that the functions of the chapter tell of a tree, at places that there are and at others.
func treeAnswers(l []impl.Group) string {
	var told strings.Builder
	tell := func(words ...any) {
		for _, word := range words {
			switch x := word.(type) {
			case int:
				told.WriteString(strconv.Itoa(x))
			case bool:
				told.WriteString(strconv.FormatBool(x))
			case string:
				told.WriteString(strconv.Quote(x))
			case []int:
				for _, n := range x {
					told.WriteString(strconv.Itoa(n) + ",")
				}
			}
			told.WriteString(" ")
		}
	}
	tell(impl.TreeOk(l))
	for g := -1; g <= groupLimit; g++ {
		path := impl.TreePath(l, g)
		tell(impl.TreeDepth(l, g), path, impl.TreeFind(l, path), impl.TreeKids(l, g))
		for h := -1; h <= groupLimit; h++ {
			tell(impl.TreeUnder(l, g, h))
		}
	}
	return told.String()
}

// changedTree is a tree of five groups in which something is changed.
func changedTree(change func(l []impl.Group)) []impl.Group {
	l := treeWith(map[int]impl.Group{1: {Name: "a"}, 2: {Parent: 1, Name: "b"}, 4: {Name: "b"}, 5: {Parent: 4, Name: "b"}})
	change(l)
	return l
}

// wrongTrees are groups that are no tree, each for one reason alone where that can be.
func wrongTrees() map[string][]impl.Group {
	list := map[string][]impl.Group{}
	for _, part := range []map[string][]impl.Group{wrongPlaces(), wrongRoots(), wrongSteps(), rings(), twins(), wrongNames(), wrongParents()} {
		maps.Copy(list, part)
	}
	return list
}

func wrongPlaces() map[string][]impl.Group {
	return map[string][]impl.Group{
		"nothing":                nil,
		"no groups":              {},
		"the root's place alone": treeWith(nil)[:1],
		"one place too few":      treeWith(nil)[:groupLimit-1],
		"one place too many":     append(treeWith(nil), impl.Group{}),
		"one group too many":     append(changedTree(func([]impl.Group) {}), impl.Group{Used: true, Name: "c"}),
		"twice as many":          append(treeWith(nil), treeWith(nil)...),
		"far too many":           append(treeWith(nil), make([]impl.Group, 1000)...),
		"just places":            make([]impl.Group, groupLimit),
	}
}

func wrongRoots() map[string][]impl.Group {
	return map[string][]impl.Group{
		"root not used":          changedTree(func(l []impl.Group) { l[0].Used = false }),
		"root alone, not used":   func() []impl.Group { l := treeWith(nil); l[0].Used = false; return l }(),
		"root in itself":         changedTree(func(l []impl.Group) { l[0].Parent = 0 }),
		"root in a group":        changedTree(func(l []impl.Group) { l[0].Parent = 1 }),
		"root in a free place":   changedTree(func(l []impl.Group) { l[0].Parent = 3 }),
		"root with a name":       changedTree(func(l []impl.Group) { l[0].Name = "a" }),
		"root named as its path": changedTree(func(l []impl.Group) { l[0].Name = "/" }),
		"root with a blank":      changedTree(func(l []impl.Group) { l[0].Name = " " }),
		"root with a nought":     changedTree(func(l []impl.Group) { l[0].Name = "\x00" }),
		"root named as a file":   changedTree(func(l []impl.Group) { l[0].Name = "max" }),
		"a second root":          changedTree(func(l []impl.Group) { l[4].Parent = -1 }),
		"a second root, no name": changedTree(func(l []impl.Group) { l[6] = impl.Group{Used: true, Parent: -1} }),
	}
}

// wrongSteps are groups of which one does not come to the root, or by too many steps.
func wrongSteps() map[string][]impl.Group {
	return map[string][]impl.Group{
		"in a free place":           changedTree(func(l []impl.Group) { l[2].Parent = 3 }),
		"in the last place, free":   changedTree(func(l []impl.Group) { l[2].Parent = 7 }),
		"in what was taken away":    changedTree(func(l []impl.Group) { l[1].Used = false }),
		"in what only looks so":     changedTree(func(l []impl.Group) { l[3] = impl.Group{Parent: 0, Name: "c"}; l[2].Parent = 3 }),
		"in itself":                 changedTree(func(l []impl.Group) { l[2].Parent = 2 }),
		"the first in itself":       changedTree(func(l []impl.Group) { l[1].Parent = 1 }),
		"the last in itself":        changedTree(func(l []impl.Group) { l[7] = impl.Group{Used: true, Parent: 7, Name: "c"} }),
		"a ring of two":             changedTree(func(l []impl.Group) { l[1].Parent = 2 }),
		"a ring of three":           changedTree(func(l []impl.Group) { l[3] = impl.Group{Used: true, Parent: 2, Name: "c"}; l[1].Parent = 3 }),
		"one in a ring":             changedTree(func(l []impl.Group) { l[1].Parent = 2; l[4].Parent = 1 }),
		"one step too many":         chain(1, 2, 3, 4),
		"one step too many, behind": chain(7, 6, 5, 4),
		"one step too many, mixed":  chain(5, 2, 7, 1),
		"all in a row":              chain(1, 2, 3, 4, 5, 6, 7),
		"all in a row, behind":      chain(7, 6, 5, 4, 3, 2, 1),
	}
}

// rings are groups one in the other, and the first in the last.
func rings() map[string][]impl.Group {
	list := map[string][]impl.Group{}
	for size := 2; size < groupLimit; size++ {
		ring := make([]int, size)
		for i := range ring {
			ring[i] = i + 1
		}
		l := chain(ring...)
		l[1].Parent = size
		list["a ring of "+strconv.Itoa(size)+" and no more"] = l
	}
	return list
}

// twins are groups of which two have one parent and one name.
func twins() map[string][]impl.Group {
	return map[string][]impl.Group{
		"two of a name in the root":     changedTree(func(l []impl.Group) { l[1].Name = "b" }),
		"two of a name in a group":      changedTree(func(l []impl.Group) { l[7] = impl.Group{Used: true, Parent: 1, Name: "b"} }),
		"two of a name, parent behind":  treeWith(map[int]impl.Group{1: {Parent: 7, Name: "c"}, 2: {Parent: 7, Name: "c"}, 7: {Name: "c"}}),
		"two of a name, the outmost":    treeWith(map[int]impl.Group{1: {Name: "abcdefgh"}, 7: {Name: "abcdefgh"}}),
		"two of a name, the deepest":    treeWith(map[int]impl.Group{3: {Name: "a"}, 4: {Parent: 3, Name: "a"}, 1: {Parent: 4, Name: "a"}, 5: {Parent: 4, Name: "a"}}),
		"two of a name, others between": treeWith(map[int]impl.Group{1: {Name: "a"}, 2: {Name: "b"}, 3: {Name: "c"}, 4: {Name: "d"}, 5: {Name: "e"}, 6: {Name: "f"}, 7: {Name: "a"}}),
		"three of a name":               treeWith(map[int]impl.Group{1: {Name: "a"}, 2: {Name: "a"}, 3: {Name: "a"}}),
	}
}

func wrongNames() map[string][]impl.Group {
	list := map[string][]impl.Group{}
	for _, name := range append(fileNames(), "", "A", "a/b", "/", " ", "b ", "\x00", "abcdefghi", strings.Repeat("x", 1000), "caf\u00e9", "\xff", "a\xffb", "\uff41", ".", "..", "-") {
		list["a group named "+strconv.Quote(name)] = changedTree(func(l []impl.Group) { l[5].Name = name })
		list["the first group named "+strconv.Quote(name)] = changedTree(func(l []impl.Group) { l[1].Name = name })
	}
	return list
}

func wrongParents() map[string][]impl.Group {
	list := map[string][]impl.Group{}
	for _, parent := range append([]int{-8, -2, -1, 8, 9, 16, 1 << 32, 1<<32 + 1, -1 << 32}, farInts()...) {
		list["a parent at "+strconv.Itoa(parent)] = changedTree(func(l []impl.Group) { l[2].Parent = parent })
		list["the last one's parent at "+strconv.Itoa(parent)] = changedTree(func(l []impl.Group) { l[7] = impl.Group{Used: true, Parent: parent, Name: "z"} })
		if parent != -1 {
			list["the root's parent at "+strconv.Itoa(parent)] = changedTree(func(l []impl.Group) { l[0].Parent = parent })
		}
	}
	return list
}
