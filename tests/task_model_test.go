package tests

import (
	"slices"
	"strconv"

	"loop.example/stint/impl"
)

// taskCall is a call of the chapter on tasks; arguments that it does not have are not looked at.
type taskCall struct {
	what string
	task int
	// group, nice and mask are those of a new task, or what a task is to get.
	group, nice, mask int
}

// The calls of the chapter on tasks.
const (
	callFork  = "fork"
	callBlock = "block"
	callWake  = "wake"
	callExit  = "exit"
	callNice  = "nice"
	callPin   = "pin"
	callMove  = "move"
)

func callKinds() []string {
	return []string{callFork, callBlock, callWake, callExit, callNice, callPin, callMove}
}

// do is the program's answer: the world, the place of a new task (-1 of other calls) and the code.
func (c taskCall) do(w impl.World) (impl.World, int, int) {
	if c.what == callFork {
		return impl.TaskFork(w, c.group, c.nice, c.mask)
	}
	out, code := c.doNamed(w)
	return out, -1, code
}

func (c taskCall) doNamed(w impl.World) (impl.World, int) {
	switch c.what {
	case callBlock:
		return impl.TaskBlock(w, c.task)
	case callWake:
		return impl.TaskWake(w, c.task)
	case callExit:
		return impl.TaskExit(w, c.task)
	case callNice:
		return impl.TaskNice(w, c.task, c.nice)
	case callPin:
		return impl.TaskPin(w, c.task, c.mask)
	case callMove:
		return impl.TaskMove(w, c.task, c.group)
	}
	panic("no call " + c.what)
}

// is says whether a call is one of several.
func (c taskCall) is(whats ...string) bool { return slices.Contains(whats, c.what) }

func modelUsed(w impl.World, group int) bool {
	return isIn(group, 0, groupLimit-1) && w.Groups[group].Used
}

func modelState(w impl.World, task int) int {
	if !isIn(task, 0, taskLimit-1) {
		return 0
	}
	return w.Tasks[task].State
}

func modelFree(w impl.World) int {
	return slices.IndexFunc(w.Tasks, func(t impl.Task) bool { return t.State == 0 })
}

// modelTaskCode is the document's code of a call in an ok world: that of the first line that is so.
func modelTaskCode(w impl.World, c taskCall) int {
	for _, line := range []struct {
		refused bool
		code    int
	}{
		{c.is(callFork, callNice) && !isIn(c.nice, -10, 9), 1},
		{c.is(callFork, callPin) && !isIn(c.mask, 1, everyCpu), 1},
		{!c.is(callFork) && modelState(w, c.task) == 0, 2},
		{c.is(callFork, callMove) && !modelUsed(w, c.group), 2},
		{c.is(callFork) && modelFree(w) == -1, 3},
		{c.is(callBlock) && modelState(w, c.task) != 1, 6},
		{c.is(callWake) && modelState(w, c.task) != 2, 6},
		{!modelRoom(w), 10},
	} {
		if line.refused {
			return line.code
		}
	}
	return 0
}

func modelEndStay(w impl.World, cpu int) { w.Cpus[cpu].Cur, w.Cpus[cpu].Ran = -1, 0 }

func modelEndStayOf(w impl.World, task int) {
	if cpu := w.Tasks[task].Cpu; w.Cpus[cpu].Cur == task {
		modelEndStay(w, cpu)
	}
}

// modelBest is the document's best of some processors: of rows of loads, tasks and place the least.
func modelBest(w impl.World, cpus []int) int {
	var rows [][]int
	for _, cpu := range cpus {
		row := []int{0, 0, cpu}
		for _, t := range w.Tasks {
			if t.State == 1 && t.Cpu == cpu {
				row[0], row[1] = row[0]+t.Load, row[1]+1
			}
		}
		rows = append(rows, row)
	}
	return slices.MinFunc(rows, slices.Compare[[]int])[2]
}

// modelPut is the document's way to put a task into a group's queue on a processor.
func modelPut(w impl.World, task, group, cpu int) {
	t := &w.Tasks[task]
	was := w.Groups[t.Group].Shelves[t.Cpu].Floor
	lag := modelFrom(was, t.V, 10-t.Nice) - was
	t.Group, t.Cpu, t.V = group, cpu, w.Groups[group].Shelves[cpu].Floor+lag
	if t.State == 1 {
		modelEndStay(w, cpu)
	}
}

// modelRelocate is the document's way to relocate.
func modelRelocate(w impl.World) {
	for at, t := range w.Tasks {
		if t.State == 0 {
			continue
		}
		if where := modelWhere(w, t.Mask, t.Group); !slices.Contains(where, t.Cpu) {
			modelPut(w, at, t.Group, where[0])
		}
	}
}

// model is the document's answer to a call in an ok world.
func (c taskCall) model(w impl.World) (impl.World, int, int) {
	w = cloneWorld(w)
	if code := modelTaskCode(w, c); code != 0 {
		return w, -1, code
	}
	if c.what == callMove && w.Tasks[c.task].Group == c.group {
		return w, -1, 0
	}
	place := -1
	if c.what == callFork {
		place = modelFork(w, c)
	} else {
		modelTaskDo(w, c)
	}
	modelSettle(w)
	return w, place, 0
}

func modelFork(w impl.World, c taskCall) int {
	at := modelFree(w)
	cpu := modelBest(w, modelWhere(w, c.mask, c.group))
	w.Tasks[at] = impl.Task{State: 1, Group: c.group, Cpu: cpu, Nice: c.nice, Mask: c.mask, V: w.Groups[c.group].Shelves[cpu].Floor}
	modelEndStay(w, cpu)
	return at
}

func modelTaskDo(w impl.World, c taskCall) {
	t := &w.Tasks[c.task]
	switch c.what {
	case callBlock:
		t.State = 2
	case callWake:
		cpu := t.Cpu
		if slices.ContainsFunc(w.Tasks, func(o impl.Task) bool { return o.State == 1 && o.Cpu == cpu }) {
			cpu = modelBest(w, modelWhere(w, t.Mask, t.Group))
		}
		modelPut(w, c.task, t.Group, cpu)
		t.State = 1
		modelEndStay(w, cpu)
	case callExit:
		modelEndStayOf(w, c.task)
		*t = impl.Task{}
	case callNice:
		t.Nice = c.nice
		if t.State == 1 {
			t.V = modelFrom(w.Groups[t.Group].Shelves[t.Cpu].Floor, t.V, 10-c.nice)
			modelEndStayOf(w, c.task)
		}
	case callPin:
		t.Mask = c.mask
		modelRelocate(w)
	case callMove:
		modelEndStayOf(w, c.task)
		cpu := t.Cpu
		if where := modelWhere(w, t.Mask, c.group); !slices.Contains(where, cpu) {
			cpu = where[0]
		}
		modelPut(w, c.task, c.group, cpu)
	}
}

// thrownToCall is some world; in some of them most places of tasks are free, in some none or just one, and in many the loads are alike.
func thrownToCall(d *dice) impl.World {
	w := thrownToRun(d)
	if d.below(10) == 0 {
		w = thrownWorld(d, timeLimit)
	}
	if d.below(3) == 0 {
		return w
	}
	most := timeLimit
	if modelRoom(w) {
		most /= 2
	}
	fill := d.below(3)
	for at, t := range w.Tasks {
		switch {
		case fill == 0 && d.below(3) > 0:
			w.Tasks[at] = impl.Task{}
		case fill == 1 && t.State == 0:
			w.Tasks[at] = thrownTask(d, w, most)
		}
	}
	if d.below(3) == 0 {
		w.Tasks[d.below(taskLimit)] = impl.Task{}
	}
	if loads := d.oneOf(1, 2, 3, loadLimit); loads < loadLimit {
		for at := range w.Tasks {
			if w.Tasks[at].State != 0 {
				w.Tasks[at].Load = d.below(loads)
			}
		}
	}
	modelSettle(w)
	return w
}

// thrownCall is some call, mostly at arguments that are ok; many are at a task that is current.
func thrownCall(d *dice, w impl.World) taskCall {
	kinds := callKinds()
	c := taskCall{what: kinds[d.below(len(kinds))], task: d.below(taskLimit), group: d.below(groupLimit)}
	c.nice, c.mask = d.oneOf(-10, 9, d.below(20)-10), d.oneOf(everyCpu, 1+d.below(everyCpu), 1<<d.below(cpuLimit))
	if cur := w.Cpus[d.below(len(w.Cpus))].Cur; cur >= 0 && d.below(3) == 0 {
		c.task = cur
	}
	for c.what == callWake && d.below(4) > 0 && w.Tasks[c.task].State != 2 {
		c.task = d.below(taskLimit)
	}
	for d.below(4) > 0 && !w.Groups[c.group].Used {
		c.group = d.below(groupLimit)
	}
	switch d.below(40) {
	case 0:
		c.task = d.oneOf(-1, taskLimit)
	case 1:
		c.group = d.oneOf(-1, groupLimit)
	case 2:
		c.nice = d.oneOf(-11, 10)
	case 3:
		c.mask = d.oneOf(-1, 0, everyCpu+1)
	}
	return c
}

// callSights counts what a call did, by the world ahead of it and behind it.
func callSights(c taskCall, was, is impl.World, place, code int, seen map[string]int) {
	seen[c.what+" code "+strconv.Itoa(code)]++
	if code != impl.CodeDone {
		return
	}
	for cpu := range was.Cpus {
		if cur := was.Cpus[cpu].Cur; cur >= 0 && is.Cpus[cpu].Cur == -1 && (cur != c.task || c.what == callFork) {
			seen[c.what+" ends another one's stay"]++
		}
		if was.Cpus[cpu].Cur >= 0 && is.Cpus[cpu] == was.Cpus[cpu] {
			seen[c.what+" leaves a stay alone"]++
		}
	}
	if c.what == callFork {
		seen["fork at depth "+strconv.Itoa(len(outOf(is.Groups, c.group))-1)]++
		if modelFree(is) == -1 {
			seen["fork takes the last place"]++
		}
		if place > 0 && is.Tasks[place].Cpu > 0 {
			seen["fork beyond the first processor"]++
		}
		return
	}
	a, b := was.Tasks[c.task], is.Tasks[c.task]
	if was.Cpus[a.Cpu].Cur == c.task {
		seen[c.what+" of who is current"]++
	}
	state := []string{" none", " ready", " blocked"}[a.State]
	if b.State != 0 && a.Cpu != b.Cpu {
		seen[c.what+state+" to another processor"]++
	}
	if b.State != 0 && a.Cpu == b.Cpu {
		seen[c.what+state+" where it is"]++
	}
	if b.State != 0 {
		countLags(c.what+state, was, is, c.task, seen)
	}
}

// countLags counts how far ahead a task was, by its old weight and the new one.
func countLags(name string, was, is impl.World, task int, seen map[string]int) {
	a, b := was.Tasks[task], is.Tasks[task]
	lag := a.V - was.Groups[a.Group].Shelves[a.Cpu].Floor
	switch most := longStay * step(10-b.Nice); {
	case lag < 0:
		seen[name+" behind the floor"]++
	case lag == 0:
		seen[name+" at the floor"]++
	case lag < most:
		seen[name+" ahead"]++
	case lag == most:
		seen[name+" ahead by the most"]++
	default:
		seen[name+" ahead by more"]++
	}
}
