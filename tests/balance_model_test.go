package tests

import (
	"slices"

	"loop.example/stint/impl"
)

// cpuCall is a call of the chapter on balancing that gives a world.
type cpuCall struct {
	what string
	cpu  int
}

// The calls of the chapter on balancing.
const (
	callBalance = "balance"
	callOff     = "off"
	callOn      = "on"
)

func cpuKinds() []string { return []string{callBalance, callOff, callOn} }

// do is the program's answer: the world and the code; no such call makes anything, so the place is always -1.
func (c cpuCall) do(w impl.World) (impl.World, int, int) {
	call := map[string]func(w impl.World, cpu int) (impl.World, int){callBalance: impl.CpuBalance, callOff: impl.CpuOff, callOn: impl.CpuOn}[c.what]
	out, code := call(w, c.cpu)
	return out, -1, code
}

func modelUp(w impl.World, cpu int) bool { return slices.Contains(modelUps(w), cpu) }

// modelLineOn are the tasks that are in line on a processor.
func modelLineOn(w impl.World, cpu int) []int {
	var list []int
	for at, t := range w.Tasks {
		if t.State == 1 && t.Cpu == cpu && modelLine(w, at) {
			list = append(list, at)
		}
	}
	return list
}

// modelLoad is the document's CpuLoad of an ok world.
func modelLoad(w impl.World, cpu int) int {
	load := 0
	for _, at := range modelLineOn(w, cpu) {
		load += 10 - w.Tasks[at].Nice
	}
	return load
}

// modelWaiting is the document's CpuWaiting of an ok world.
func modelWaiting(w impl.World, cpu int) int {
	line := modelLineOn(w, cpu)
	if len(line) > 0 && slices.Contains(line, w.Cpus[cpu].Cur) {
		return len(line) - 1
	}
	return len(line)
}

// The reasons for which a task that is in line somewhere could not run on a processor; none if it could.
const (
	couldRun   = "could run"
	isHere     = "is here"
	isCurrent  = "is current there"
	mayNotCome = "may not be here"
	isDryHere  = "is dry here"
)

// modelHeld is why a task that is in line somewhere could not run on a processor.
func modelHeld(w impl.World, task, cpu int) string {
	t := w.Tasks[task]
	switch {
	case t.Cpu == cpu:
		return isHere
	case w.Cpus[t.Cpu].Cur == task:
		return isCurrent
	case !slices.Contains(modelWhere(w, t.Mask, t.Group), cpu):
		return mayNotCome
	}
	for _, g := range outOf(w.Groups, t.Group) {
		if modelDry(w, g, cpu) {
			return isDryHere
		}
	}
	return couldRun
}

// modelGives are the tasks in line on one processor that could run on another one.
func modelGives(w impl.World, from, cpu int) []int {
	return slices.DeleteFunc(modelLineOn(w, from), func(at int) bool { return modelHeld(w, at, cpu) != couldRun })
}

// modelBusiest is the document's CpuBusiest of an ok world: of rows of load and place the one with the greatest load, then the least place.
func modelBusiest(w impl.World, cpu, level int) int {
	var rows [][2]int
	if modelUp(w, cpu) {
		for _, from := range setMembers(wantSpan(len(w.Cpus), cpu, level)) {
			if len(modelGives(w, from, cpu)) > 0 {
				rows = append(rows, [2]int{modelLoad(w, from), from})
			}
		}
	}
	if len(rows) == 0 {
		return -1
	}
	return slices.MinFunc(rows, func(a, b [2]int) int { return slices.Compare([]int{b[0], a[1]}, []int{a[0], b[1]}) })[1]
}

// modelPull is the document's CpuPull of an ok world, and the level at which it was found.
func modelPull(w impl.World, cpu int) (task int, level int, ok bool) {
	for level := range len(spanTable()[len(w.Cpus)]) {
		from := modelBusiest(w, cpu, level)
		if from == -1 {
			continue
		}
		for _, task := range modelGives(w, from, cpu) {
			here, there := modelLoad(w, cpu), modelLoad(w, from)
			if twice := 2 * (10 - w.Tasks[task].Nice); here == 0 || here+twice <= there {
				return task, level, true
			}
		}
	}
	return 0, 0, false
}

// modelInside is the document's GroupInside of an ok world, at places that there are.
func modelInside(w impl.World, group, cpu int) int {
	inside := 0
	for _, t := range w.Tasks {
		if t.State == 1 && t.Cpu == cpu && slices.Contains(outOf(w.Groups, t.Group), group) {
			inside += 10 - t.Nice
		}
	}
	return inside
}

// modelShare is the document's GroupShare of an ok world, at places that there are: the greatest part that is not more than its due, counted up.
func modelShare(w impl.World, group, cpu int) int {
	all := 0
	for other := range w.Cpus {
		all += modelInside(w, group, other)
	}
	weight := w.Groups[group].Weight
	if all == 0 {
		return weight
	}
	share := 1
	for (share+1)*all <= weight*modelInside(w, group, cpu) {
		share++
	}
	return share
}

// modelCpuCode is the document's code of a call in an ok world: that of the first line that is so.
func modelCpuCode(w impl.World, c cpuCall) int {
	for _, line := range []struct {
		refused bool
		code    int
	}{
		{!isIn(c.cpu, 0, len(w.Cpus)-1), 1},
		{modelUp(w, c.cpu) == (c.what == callOn), 6},
		{c.what == callOff && len(modelUps(w)) < 2, 5},
		{!modelRoom(w), 10},
	} {
		if line.refused {
			return line.code
		}
	}
	return 0
}

// model is the document's answer to a call in an ok world.
func (c cpuCall) model(w impl.World) (impl.World, int, int) {
	w = cloneWorld(w)
	if code := modelCpuCode(w, c); code != 0 {
		return w, -1, code
	}
	switch c.what {
	case callBalance:
		modelWeighAll(w, c.cpu)
		modelSettle(w)
		if task, _, ok := modelPull(w, c.cpu); ok {
			modelPut(w, task, w.Tasks[task].Group, c.cpu)
		}
	case callOff:
		w.Cpus[c.cpu].Up = false
		modelEndStay(w, c.cpu)
		modelRelocate(w)
	case callOn:
		w.Cpus[c.cpu].Up = true
		modelRelocate(w)
	}
	modelSettle(w)
	return w, -1, 0
}

// modelWeighAll gives each group but the root its share as its weight on a processor.
func modelWeighAll(w impl.World, cpu int) {
	for g := 1; g < groupLimit; g++ {
		if w.Groups[g].Used {
			modelWeigh(w, g, cpu, modelShare(w, g, cpu))
		}
	}
}

// thrownToBalance is some world; in many of them tasks may be anywhere, or most of them are on a few processors.
func thrownToBalance(d *dice) impl.World {
	w := thrownToGroup(d)
	if d.below(4) == 0 {
		w = thrownWorld(d, d.oneOf(timeLimit/2, 20*unitStep))
	}
	if d.below(2) == 0 {
		widen(w)
	}
	// Without room a lag might lead beyond all time.
	if d.below(3) == 0 || !modelRoom(w) {
		return w
	}
	ups := modelUps(w)
	few := []int{ups[d.below(len(ups))], ups[d.below(len(ups))]}
	for at, t := range w.Tasks {
		if t.State == 0 || d.below(4) == 0 {
			continue
		}
		if to := few[d.below(2)]; to != t.Cpu && slices.Contains(modelWhere(w, t.Mask, t.Group), to) {
			modelPut(w, at, t.Group, to)
		}
	}
	modelSettle(w)
	return w
}

// widen lets each task be on all processors that are up.
func widen(w impl.World) {
	for at := range w.Tasks {
		if w.Tasks[at].State != 0 {
			w.Tasks[at].Mask = everyCpu
		}
	}
	for g := range w.Groups {
		if w.Groups[g].Used {
			w.Groups[g].Cpus = everyCpu
		}
	}
}

// thrownCpuCall is some call, mostly at a processor that there is and that it is meant for.
func thrownCpuCall(d *dice, w impl.World) cpuCall {
	c := cpuCall{what: cpuKinds()[d.oneOf(0, 0, 1, 2)], cpu: d.below(len(w.Cpus))}
	for d.below(6) > 0 && modelUp(w, c.cpu) == (c.what == callOn) {
		c.what, c.cpu = cpuKinds()[d.below(3)], d.below(len(w.Cpus))
	}
	if d.below(40) == 0 {
		c.cpu = d.oneOf(-1, len(w.Cpus), cpuLimit)
	}
	return c
}
