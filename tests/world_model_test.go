package tests

import (
	"reflect"
	"slices"

	"loop.example/stint/impl"
)

// The document's numbers of chapter 8, written again: a limit of the program that is off must not be off here as well.
const (
	taskLimit   = 12
	periodLimit = 1000
	loadLimit   = 8000000
	weightLimit = 20
	rootWeight  = 10
	everyCpu    = 15
)

// The lines of the document's WorldOk, in their order.
const (
	linePlaces     = "places"
	lineGroups     = "groups"
	lineTasks      = "tasks"
	lineShelves    = "shelves"
	lineProcessors = "processors"
)

func isIn(n, low, high int) bool { return low <= n && n <= high }

func isTimeOf(list ...int) bool {
	for _, n := range list {
		if !isIn(n, 0, timeLimit) {
			return false
		}
	}
	return true
}

// setMembers are the processors of a set, ascending.
func setMembers(set int) []int {
	var list []int
	for cpu := 0; set > 0; cpu, set = cpu+1, set/2 {
		if set%2 == 1 {
			list = append(list, cpu)
		}
	}
	return list
}

// setOf is the set that has these processors.
func setOf(members []int) int {
	set := 0
	for _, cpu := range members {
		set += 1 << cpu
	}
	return set
}

// inBoth are the members of a that are in b as well.
func inBoth(a, b []int) []int {
	var list []int
	for _, n := range a {
		if slices.Contains(b, n) {
			list = append(list, n)
		}
	}
	return list
}

func modelUps(w impl.World) []int {
	var list []int
	for cpu := range w.Cpus {
		if w.Cpus[cpu].Up {
			list = append(list, cpu)
		}
	}
	return list
}

// outOf are a group and all that it is in, the root last.
func outOf(l []impl.Group, g int) []int {
	if g == -1 {
		return nil
	}
	return append([]int{g}, outOf(l, l[g].Parent)...)
}

// modelPins are the document's pins of a group.
func modelPins(w impl.World, group int) []int {
	list := modelUps(w)
	for _, g := range outOf(w.Groups, group) {
		list = inBoth(list, setMembers(w.Groups[g].Cpus))
	}
	return list
}

// modelWhere is where a task of a mask may be in a group.
func modelWhere(w impl.World, mask, group int) []int {
	pins := modelPins(w, group)
	if both := inBoth(pins, setMembers(mask)); len(both) > 0 {
		return both
	}
	if len(pins) > 0 {
		return pins
	}
	return modelUps(w)
}

// stander is who stands in a queue.
type stander struct{ v, weight int }

// standersOf are who stand in a group's queue on a processor.
func standersOf(w impl.World, group, cpu int) []stander {
	var list []stander
	for _, t := range w.Tasks {
		if t.State == 1 && t.Group == group && t.Cpu == cpu {
			list = append(list, stander{t.V, 10 - t.Nice})
		}
	}
	for g := 1; g < len(w.Groups); g++ {
		if w.Groups[g].Used && w.Groups[g].Parent == group && w.Groups[g].Shelves[cpu].On {
			list = append(list, stander{w.Groups[g].Shelves[cpu].V, w.Groups[g].Shelves[cpu].W})
		}
	}
	return list
}

func modelDry(w impl.World, group, cpu int) bool {
	return w.Groups[group].Band.Quota > 0 && w.Groups[group].Band.Dry[cpu]
}

// modelLine says whether a task that there is is in line.
func modelLine(w impl.World, task int) bool {
	t := w.Tasks[task]
	in := t.State == 1
	for _, g := range outOf(w.Groups, t.Group) {
		in = in && (g == 0 || w.Groups[g].Shelves[t.Cpu].On)
	}
	return in
}

// standsAhead says whether one of a weight is at a floor at least, and ahead of it by at most so many units.
func standsAhead(s stander, floor, units int) bool {
	return isIn(s.v, floor, floor+units*step(s.weight))
}

// worldFaults are the lines of WorldOk that a world breaks; none is asked behind one that what it speaks of hangs on.
func worldFaults(w impl.World) []string {
	if !modelPlaces(w) {
		return []string{linePlaces}
	}
	for g := range w.Groups {
		if !modelGroup(w, g) {
			return []string{lineGroups}
		}
	}
	for _, t := range w.Tasks {
		if !modelTaskNumbers(w, t) {
			return []string{lineTasks}
		}
	}
	if !modelShelfNumbers(w) {
		return []string{lineShelves}
	}
	var faults []string
	if !modelTasks(w) {
		faults = append(faults, lineTasks)
	}
	if !modelShelves(w) {
		faults = append(faults, lineShelves)
	}
	for cpu := range w.Cpus {
		if !modelProcessor(w, cpu) {
			return append(faults, lineProcessors)
		}
	}
	return faults
}

func modelWorldOk(w impl.World) bool { return len(worldFaults(w)) == 0 }

func modelPlaces(w impl.World) bool {
	_, tree := modelPaths(w.Groups)
	return isTimeOf(w.Now) && isIn(len(w.Cpus), 1, cpuLimit) && len(modelUps(w)) > 0 && len(w.Tasks) == taskLimit && tree
}

func modelGroup(w impl.World, at int) bool {
	g := w.Groups[at]
	if !g.Used {
		return sameGroup(g, impl.Group{})
	}
	if !isIn(g.Weight, 1, weightLimit) || !isIn(g.Cpus, 1, everyCpu) || !isTimeOf(g.Sum) || len(g.Shelves) != len(w.Cpus) {
		return false
	}
	if at == 0 && (g.Weight != rootWeight || g.Cpus != everyCpu) {
		return false
	}
	if isNoBand(g.Band) {
		return g.Period == 0 && g.Next == 0
	}
	if at == 0 || len(g.Band.Locals) != len(w.Cpus) || !modelBandOk(g.Band) {
		return false
	}
	return isIn(g.Period, 1, periodLimit) && isIn(g.Next, w.Now+1, w.Now+g.Period)
}

// modelBandOk is the document's BandOk.
func modelBandOk(b impl.Band) bool {
	if !isIn(b.Quota, 1, quotaLimit) || !isIn(len(b.Locals), 1, cpuLimit) || len(b.Dry) != len(b.Locals) {
		return false
	}
	sum := 0
	for _, part := range append([]int{b.Pool, b.Spent}, b.Locals...) {
		if !isIn(part, 0, b.Quota) {
			return false
		}
		sum += part
	}
	for cpu, dry := range b.Dry {
		if dry && (b.Pool != 0 || b.Locals[cpu] != 0) {
			return false
		}
	}
	return sum == b.Quota
}

// modelTaskNumbers asks for all of a task but where it is and how it stands.
func modelTaskNumbers(w impl.World, t impl.Task) bool {
	switch t.State {
	case 0:
		return t == impl.Task{}
	case 1, 2:
		return isIn(t.Group, 0, groupLimit-1) && w.Groups[t.Group].Used && isIn(t.Cpu, 0, len(w.Cpus)-1) && isIn(t.Nice, -10, 9) &&
			isIn(t.Mask, 1, everyCpu) && isTimeOf(t.V, t.Sum, t.Used) && isIn(t.Load, 0, loadLimit)
	}
	return false
}

func modelTasks(w impl.World) bool {
	for _, t := range w.Tasks {
		if t.State != 0 && !slices.Contains(modelWhere(w, t.Mask, t.Group), t.Cpu) {
			return false
		}
		if t.State == 1 && !standsAhead(stander{t.V, 10 - t.Nice}, w.Groups[t.Group].Shelves[t.Cpu].Floor, longStay) {
			return false
		}
	}
	return true
}

func modelShelfNumbers(w impl.World) bool {
	for g, group := range w.Groups {
		for _, s := range group.Shelves {
			if !isTimeOf(s.Floor, s.V, s.Sum) || !isIn(s.W, 1, weightLimit) || g == 0 && (s.On || s.V != 0 || s.W != rootWeight) {
				return false
			}
		}
	}
	return true
}

func modelShelves(w impl.World) bool {
	for g := 1; g < groupLimit; g++ {
		for cpu, s := range w.Groups[g].Shelves {
			if s.On != (len(standersOf(w, g, cpu)) > 0 && !modelDry(w, g, cpu)) {
				return false
			}
			if s.On && !standsAhead(stander{s.V, s.W}, w.Groups[w.Groups[g].Parent].Shelves[cpu].Floor, longStay) {
				return false
			}
		}
	}
	return true
}

func modelProcessor(w impl.World, cpu int) bool {
	c := w.Cpus[cpu]
	if !isTimeOf(c.Busy, c.Idle) {
		return false
	}
	if c.Cur == -1 {
		return c.Ran == 0
	}
	if !c.Up || !isIn(c.Cur, 0, taskLimit-1) || !isIn(c.Ran, 1, longStay) || w.Tasks[c.Cur].State == 0 || w.Tasks[c.Cur].Cpu != cpu || !modelLine(w, c.Cur) {
		return false
	}
	t := w.Tasks[c.Cur]
	floor := w.Groups[t.Group].Shelves[cpu].Floor
	if t.V > floor+c.Ran*step(10-t.Nice) {
		return false
	}
	for g := t.Group; g != 0; g = w.Groups[g].Parent {
		s := w.Groups[g].Shelves[cpu]
		if s.V > w.Groups[w.Groups[g].Parent].Shelves[cpu].Floor+c.Ran*step(s.W) {
			return false
		}
	}
	return true
}

// modelRoom is the document's WorldRoom of a world that is ok.
func modelRoom(w impl.World) bool {
	times := []int{w.Now}
	for _, c := range w.Cpus {
		times = append(times, c.Busy, c.Idle)
	}
	for _, t := range w.Tasks {
		times = append(times, t.V, t.Sum, t.Used)
	}
	for _, g := range w.Groups {
		times = append(times, g.Sum)
		for _, s := range g.Shelves {
			times = append(times, s.Floor, s.V, s.Sum)
		}
	}
	return slices.Max(times) <= 50000000000000000
}

func cloneGroup(g impl.Group) impl.Group {
	g.Band.Locals = slices.Clone(g.Band.Locals)
	g.Band.Dry = slices.Clone(g.Band.Dry)
	g.Shelves = slices.Clone(g.Shelves)
	return g
}

// cloneWorld is a world in memory of its own.
func cloneWorld(w impl.World) impl.World {
	w.Cpus = slices.Clone(w.Cpus)
	w.Tasks = slices.Clone(w.Tasks)
	w.Groups = slices.Clone(w.Groups)
	for g := range w.Groups {
		w.Groups[g] = cloneGroup(w.Groups[g])
	}
	return w
}

func sameGroup(a, b impl.Group) bool {
	if !sameBand(a.Band, b.Band) || !slices.Equal(a.Shelves, b.Shelves) {
		return false
	}
	// What is left can be held against each other whole; no list and an empty one are the same.
	a.Band, b.Band, a.Shelves, b.Shelves = impl.Band{}, impl.Band{}, nil, nil
	return reflect.DeepEqual(a, b)
}

func sameWorld(a, b impl.World) bool {
	return a.Now == b.Now && slices.Equal(a.Cpus, b.Cpus) && slices.Equal(a.Tasks, b.Tasks) && slices.EqualFunc(a.Groups, b.Groups, sameGroup)
}

// withMarks is a list with two marks in its spare room.
func withMarks[T any](list []T, mark T) []T {
	return append(slices.Clone(list), mark, mark)[:len(list)]
}

// isMarked says whether the marks in a list's spare room are as they were.
func isMarked[T comparable](list []T, mark T) bool {
	room := list[len(list):cap(list)]
	return len(room) >= 2 && room[0] == mark && room[1] == mark
}

// worldWithRoom is a world whose lists all have marks in their spare room, and a function that tells whether world and marks are as they were.
func worldWithRoom(w impl.World) (impl.World, func() bool) {
	cpu, task, shelf := impl.Cpu{Cur: -77}, impl.Task{State: -77}, impl.Shelf{Floor: -77}
	group := impl.Group{Used: true, Parent: 0, Name: "mark"}
	was := cloneWorld(w)
	w = cloneWorld(w)
	w.Cpus, w.Tasks, w.Groups = withMarks(w.Cpus, cpu), withMarks(w.Tasks, task), withMarks(w.Groups, group)
	for i := range w.Groups {
		g := &w.Groups[i]
		g.Shelves, g.Band.Locals, g.Band.Dry = withMarks(g.Shelves, shelf), withMarks(g.Band.Locals, -77), withMarks(g.Band.Dry, true)
	}
	return w, func() bool {
		ok := sameWorld(w, was) && isMarked(w.Cpus, cpu) && isMarked(w.Tasks, task)
		for _, g := range w.Groups {
			ok = ok && isMarked(g.Shelves, shelf) && isMarked(g.Band.Locals, -77) && isMarked(g.Band.Dry, true)
		}
		room := w.Groups[len(w.Groups):cap(w.Groups)]
		return ok && len(room) >= 2 && sameGroup(room[0], group) && sameGroup(room[1], group)
	}
}

// scribbleWorld writes over all the memory of a world, spare room included.
func scribbleWorld(w impl.World) {
	for _, g := range w.Groups {
		scribbleBand(g.Band)
		for i := range g.Shelves[:cap(g.Shelves)] {
			g.Shelves[:cap(g.Shelves)][i] = impl.Shelf{Floor: -99, On: true, V: -99, W: -99, Sum: -99}
		}
	}
	for i := range w.Groups[:cap(w.Groups)] {
		w.Groups[:cap(w.Groups)][i] = impl.Group{Used: true, Parent: -99, Name: "gone"}
	}
	for i := range w.Cpus[:cap(w.Cpus)] {
		w.Cpus[:cap(w.Cpus)][i] = impl.Cpu{Cur: -99, Ran: -99}
	}
	for i := range w.Tasks[:cap(w.Tasks)] {
		w.Tasks[:cap(w.Tasks)][i] = impl.Task{State: -99, Group: -99}
	}
}

func isNoWorld(w impl.World) bool { return sameWorld(w, impl.World{}) }
