package tests

import (
	"slices"
	"strconv"

	"loop.example/stint/impl"
)

// The document's numbers of chapter 11, written again: a limit of the program that is off must not be off here as well.
const (
	partOfLoad = 8
	beatLimit  = 1000000
)

// groupCall is a call of the chapter on groups, quotas and time; arguments that it does not have are not looked at.
type groupCall struct {
	what string
	// group is the one that is asked for, or the parent of a new one.
	group int
	name  string
	// n is a weight, a set, a quota, or how much time passes; period is that of a quota.
	n, period int
}

// The calls of the chapter on groups, quotas and time.
const (
	callMake  = "make"
	callDrop  = "drop"
	callWeigh = "weigh"
	callCpus  = "cpus"
	callLimit = "limit"
	callTime  = "time"
)

func groupKinds() []string {
	return []string{callMake, callDrop, callWeigh, callCpus, callLimit, callTime}
}

// do is the program's answer: the world, the place of a new group (-1 of other calls) and the code.
func (c groupCall) do(w impl.World) (impl.World, int, int) {
	if c.what == callMake {
		return impl.GroupMake(w, c.group, c.name)
	}
	out, code := c.doNamed(w)
	return out, -1, code
}

func (c groupCall) doNamed(w impl.World) (impl.World, int) {
	switch c.what {
	case callDrop:
		return impl.GroupDrop(w, c.group)
	case callWeigh:
		return impl.GroupWeigh(w, c.group, c.n)
	case callCpus:
		return impl.GroupPin(w, c.group, c.n)
	case callLimit:
		return impl.GroupLimit(w, c.group, c.n, c.period)
	case callTime:
		return impl.TimePass(w, c.n)
	}
	panic("no call " + c.what)
}

// is says whether a call is one of several.
func (c groupCall) is(whats ...string) bool { return slices.Contains(whats, c.what) }

// fits says whether all arguments but the group are as they are to be.
func (c groupCall) fits() bool {
	switch c.what {
	case callMake:
		return modelName(c.name)
	case callWeigh:
		return isIn(c.n, 1, weightLimit)
	case callCpus:
		return isIn(c.n, 1, everyCpu)
	case callLimit:
		return c.n == 0 && c.period == 0 || isIn(c.n, 1, quotaLimit) && isIn(c.period, 1, periodLimit)
	case callTime:
		return isIn(c.n, 1, periodLimit)
	}
	return true
}

// modelThere says whether a group that there is has one of a name: by its path, which says how deep it is as well.
func modelThere(w impl.World, group int, name string) bool {
	paths, _ := modelPaths(w.Groups)
	return slices.Contains(paths, pathIn(paths[group], name))
}

// pathIn is the path of a name in a group of a path.
func pathIn(path, name string) string {
	if path == "/" {
		return "/" + name
	}
	return path + "/" + name
}

func modelFreeGroup(w impl.World) int {
	return slices.IndexFunc(w.Groups, func(g impl.Group) bool { return !g.Used })
}

// modelBusy says whether a task or a group is in a group.
func modelBusy(w impl.World, group int) bool {
	return slices.ContainsFunc(w.Tasks, func(t impl.Task) bool { return t.State != 0 && t.Group == group }) ||
		slices.ContainsFunc(w.Groups, func(g impl.Group) bool { return g.Used && g.Parent == group })
}

// modelGroupCode is the document's code of a call in an ok world: that of the first line that is so.
func modelGroupCode(w impl.World, c groupCall) int {
	if !c.fits() || c.is(callDrop, callWeigh, callCpus, callLimit) && c.group == 0 {
		return 1
	}
	if !c.is(callTime) && !modelUsed(w, c.group) {
		return 2
	}
	for _, line := range []struct {
		refused bool
		code    int
	}{
		{c.is(callMake) && modelThere(w, c.group, c.name), 7},
		{c.is(callMake) && len(outOf(w.Groups, c.group)) == depthLimit+1, 9},
		{c.is(callMake) && modelFreeGroup(w) == -1, 3},
		{c.is(callDrop) && modelBusy(w, c.group), 4},
		{!modelRoom(w), 10},
	} {
		if line.refused {
			return line.code
		}
	}
	return 0
}

// model is the document's answer to a call in an ok world.
func (c groupCall) model(w impl.World) (impl.World, int, int) {
	w = cloneWorld(w)
	if code := modelGroupCode(w, c); code != 0 {
		return w, -1, code
	}
	switch c.what {
	case callMake:
		at := modelFreeGroup(w)
		root := emptyWorld(len(w.Cpus)).Groups[0]
		root.Parent, root.Name = c.group, c.name
		w.Groups[at] = root
		return w, at, 0
	case callDrop:
		w.Groups[c.group] = impl.Group{}
		return w, -1, 0
	case callWeigh:
		w.Groups[c.group].Weight = c.n
		for cpu := range w.Cpus {
			modelWeigh(w, c.group, cpu, c.n)
		}
	case callCpus:
		w.Groups[c.group].Cpus = c.n
		modelRelocate(w)
	case callLimit:
		modelLimit(w, c)
	case callTime:
		modelTime(&w, c.n)
	}
	modelSettle(w)
	return w, -1, 0
}

// modelWeigh is the document's way for a group to get another weight on a processor.
func modelWeigh(w impl.World, group, cpu, weight int) {
	g, c := &w.Groups[group], &w.Cpus[cpu]
	s := &g.Shelves[cpu]
	if s.W == weight {
		return
	}
	if s.On {
		s.V = modelFrom(w.Groups[g.Parent].Shelves[cpu].Floor, s.V, weight)
	}
	s.W = weight
	if c.Cur >= 0 && slices.Contains(outOf(w.Groups, w.Tasks[c.Cur].Group), group) {
		modelEndStay(w, cpu)
	}
}

func modelLimit(w impl.World, c groupCall) {
	g := &w.Groups[c.group]
	g.Band, g.Period, g.Next = impl.Band{}, 0, 0
	if c.n > 0 {
		limitTo(w, c.group, c.n)
		g.Period, g.Next = c.period, w.Now+c.period
	}
}

// modelTime lets time pass one by one: no period can begin unseen then.
func modelTime(w *impl.World, n int) {
	for range n {
		w.Now++
		for g := range w.Groups {
			if group := &w.Groups[g]; group.Band.Quota > 0 && group.Next == w.Now {
				group.Next += group.Period
				group.Band.Pool, group.Band.Spent = group.Band.Quota, 0
				clear(group.Band.Locals)
				clear(group.Band.Dry)
			}
		}
	}
	for at := range w.Tasks {
		t := &w.Tasks[at]
		t.Load = min(t.Load-t.Load/partOfLoad+min(t.Used, beatLimit), loadLimit)
		t.Used = 0
	}
}

// thrownToGroup is some world; in many of them quotas are spent, periods short, or soon over, or the places of groups all taken but a few.
func thrownToGroup(d *dice) impl.World {
	w := thrownToCall(d)
	short, spent := d.below(2) == 0, d.below(3) == 0
	for g := range w.Groups {
		group := &w.Groups[g]
		if group.Band.Quota > 0 && short {
			group.Period = d.oneOf(1, 2, 7, 100, 1+d.below(200))
			group.Next = w.Now + 1 + d.below(group.Period)
		}
		if group.Band.Quota > 0 && spent {
			spendAll(w, g)
			group.Band.Dry[d.below(len(w.Cpus))] = true
		}
	}
	if spent {
		modelSettle(w)
	}
	for range d.oneOf(0, 0, groupLimit) {
		parent, at := d.below(groupLimit), 1+d.below(groupLimit-1)
		if name := "n" + strconv.Itoa(at); !w.Groups[at].Used && w.Groups[parent].Used && len(outOf(w.Groups, parent)) <= depthLimit && !modelThere(w, parent, name) {
			w.Groups[at] = emptyWorld(len(w.Cpus)).Groups[0]
			w.Groups[at].Parent, w.Groups[at].Name, w.Groups[at].Sum = parent, name, d.below(9)
		}
	}
	return w
}

// thrownGroupCall is some call, mostly at arguments that are ok.
func thrownGroupCall(d *dice, w impl.World) groupCall {
	kinds := groupKinds()
	c := groupCall{what: kinds[d.below(len(kinds))], group: d.below(groupLimit)}
	for d.below(8) > 0 && !w.Groups[c.group].Used {
		c.group = d.below(groupLimit)
	}
	if cur := w.Cpus[d.below(len(w.Cpus))].Cur; cur >= 0 && d.below(3) == 0 {
		around := outOf(w.Groups, w.Tasks[cur].Group)
		c.group = around[d.below(len(around))]
	}
	for c.what == callDrop && d.below(4) > 0 && modelUsed(w, c.group) && modelBusy(w, c.group) {
		c.group = d.below(groupLimit)
	}
	switch c.what {
	case callMake:
		c.name = []string{"a", "b", "n2", "0", "max", "", "abcdefgh", "abcdefghi", "A"}[d.oneOf(0, 1, 2, 3, 6, d.below(9))]
	case callWeigh:
		c.n = d.oneOf(1, weightLimit, rootWeight, 1+d.below(weightLimit), d.below(weightLimit+2))
	case callCpus:
		c.n = d.oneOf(everyCpu, 1<<d.below(cpuLimit), 1+d.below(everyCpu), d.below(everyCpu+2))
	case callLimit:
		c.n, c.period = d.oneOf(1, quotaLimit, 1+d.below(100), d.below(quotaLimit+2)), d.oneOf(1, periodLimit, 1+d.below(periodLimit), d.below(periodLimit+2))
		if d.below(3) == 0 {
			c.n, c.period = 0, d.oneOf(0, 0, 0, 0, 1)
		}
	case callTime:
		c.n = d.oneOf(1, periodLimit, 1+d.below(10), 1+d.below(periodLimit), d.oneOf(-1, 0, periodLimit+1))
	}
	if d.below(40) == 0 {
		c.group = d.oneOf(-1, groupLimit)
	}
	return c
}
