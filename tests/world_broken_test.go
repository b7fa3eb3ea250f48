package tests

import (
	"slices"
	"strconv"
	"testing"

	"loop.example/stint/impl"
)

// handFloor is the floor of all queues of handWorld.
const handFloor = 1000 * unitStep

// handWorld is an ok world that has something of everything: the processor 3 is down; the task 1 is current on 1, three groups deep; the group 5 is dry on 0; the task 4 has a mask that leaves nothing, the group 6 pins that do.
func handWorld() impl.World {
	w := impl.World{Now: 500, Tasks: make([]impl.Task, taskLimit), Groups: make([]impl.Group, groupLimit)}
	w.Cpus = []impl.Cpu{{Up: true, Cur: -1, Busy: 5, Idle: 6}, {Up: true, Cur: 1, Ran: 60, Busy: 7, Idle: 8}, {Up: true, Cur: -1}, {Cur: -1, Busy: 9, Idle: 10}}
	w.Groups[0] = handGroup(-1, "", rootWeight, everyCpu)
	for cpu := range w.Cpus {
		w.Groups[0].Shelves[cpu].V = 0
	}
	w.Groups[1] = handGroup(0, "a", 10, everyCpu, 1, 2)
	w.Groups[1].Band = impl.Band{Quota: 100, Pool: 50, Spent: 30, Locals: []int{0, 20, 0, 0}, Dry: make([]bool, 4)}
	w.Groups[1].Period, w.Groups[1].Next = 100, 600
	w.Groups[2] = handGroup(1, "b", 20, 7, 1)
	w.Groups[3] = handGroup(2, "c", 1, 6, 1)
	w.Groups[5] = handGroup(0, "d", 5, 3)
	w.Groups[5].Band = impl.Band{Quota: 40, Spent: 40, Locals: make([]int, 4), Dry: []bool{true, false, false, false}}
	w.Groups[5].Period, w.Groups[5].Next = 7, 501
	w.Groups[6] = handGroup(0, "e", 3, 8, 0)
	w.Tasks[0] = impl.Task{State: 1, Nice: 0, Mask: 15, V: handFloor, Sum: 1, Used: 2, Load: 3}
	w.Tasks[1] = impl.Task{State: 1, Group: 3, Cpu: 1, Nice: 5, Mask: 2, V: handFloor + 3*step(5), Sum: 60, Used: 60}
	w.Tasks[2] = impl.Task{State: 1, Group: 5, Cpu: 0, Nice: -10, Mask: 1, V: handFloor}
	w.Tasks[3] = impl.Task{State: 2, Group: 2, Cpu: 1, Nice: 9, Mask: 2, V: 17}
	w.Tasks[4] = impl.Task{State: 1, Group: 1, Cpu: 2, Nice: 3, Mask: 8, V: handFloor}
	w.Tasks[5] = impl.Task{State: 1, Group: 6, Cpu: 0, Nice: -3, Mask: 2, V: handFloor}
	w.Tasks[7] = impl.Task{State: 2, Group: 0, Cpu: 2, Nice: 1, Mask: 4, V: timeLimit, Sum: 9}
	return w
}

// handGroup is a group of a weight that is On on these processors.
func handGroup(parent int, name string, weight, cpus int, on ...int) impl.Group {
	g := impl.Group{Used: true, Parent: parent, Name: name, Weight: weight, Cpus: cpus, Sum: 90}
	for cpu := range cpuLimit {
		g.Shelves = append(g.Shelves, impl.Shelf{Floor: handFloor, On: slices.Contains(on, cpu), V: handFloor, W: weight, Sum: 30})
	}
	return g
}

// emptyWorld is a world of so many processors with nobody in it; it need not be ok.
func emptyWorld(cpus int) impl.World {
	w := impl.World{Tasks: make([]impl.Task, taskLimit), Groups: make([]impl.Group, groupLimit)}
	w.Groups[0] = impl.Group{Used: true, Parent: -1, Weight: rootWeight, Cpus: everyCpu}
	for range cpus {
		w.Cpus = append(w.Cpus, impl.Cpu{Up: true, Cur: -1})
		w.Groups[0].Shelves = append(w.Groups[0].Shelves, impl.Shelf{W: rootWeight})
	}
	return w
}

// brokenWorld is a world of which one line of WorldOk does not hold.
type brokenWorld struct {
	name  string
	line  string
	world impl.World
}

// breaker gathers worlds that are the hand-made one but for one thing.
type breaker struct{ list []brokenWorld }

func (b *breaker) add(line, name string, change func(w *impl.World)) {
	w := handWorld()
	change(&w)
	b.list = append(b.list, brokenWorld{name, line, w})
}

// each changes one number to each of several.
func (b *breaker) each(line, name string, numbers []int, field func(w *impl.World) *int) {
	for _, n := range numbers {
		b.add(line, name+" "+strconv.Itoa(n), func(w *impl.World) { *field(w) = n })
	}
}

func brokenWorlds() []brokenWorld {
	b := &breaker{}
	for _, breaks := range []func(*breaker){breakPlaces, breakFree, breakGroups, breakQuotas, breakRoot, breakTasks, breakWhere, breakShelves, breakOn, breakProcessors, breakStays} {
		breaks(b)
	}
	return b.list
}

// notTimes are numbers that are no time.
func notTimes() []int { return append([]int{-1, timeLimit + 1}, farInts()...) }

func notWeights() []int { return append([]int{-1, 0, 21}, farInts()...) }

func notSets() []int { return append([]int{-1, 0, 16, 31}, farInts()...) }

func breakPlaces(b *breaker) {
	for _, n := range notTimes() {
		w := emptyWorld(2)
		w.Now = n
		b.list = append(b.list, brokenWorld{"Now " + strconv.Itoa(n), linePlaces, w})
	}
	for _, cpus := range []int{0, 5, 6, 64, 100} {
		b.list = append(b.list, brokenWorld{strconv.Itoa(cpus) + " processors", linePlaces, emptyWorld(cpus)})
	}
	for cpus := 1; cpus <= cpuLimit; cpus++ {
		w := emptyWorld(cpus)
		for cpu := range w.Cpus {
			w.Cpus[cpu].Up = false
		}
		b.list = append(b.list, brokenWorld{"all " + strconv.Itoa(cpus) + " processors down", linePlaces, w})
	}
	for _, tasks := range []int{0, 1, 11, 13, 24, 1000} {
		b.add(linePlaces, strconv.Itoa(tasks)+" places of tasks", func(w *impl.World) {
			w.Tasks = append(w.Tasks, make([]impl.Task, 1000)...)[:tasks]
		})
	}
	b.list = append(b.list, brokenWorld{"nothing", linePlaces, impl.World{}})
	for name, l := range wrongTrees() {
		b.add(linePlaces, "groups: "+name, func(w *impl.World) {
			*w = emptyWorld(2)
			w.Groups = dressed(l)
		})
	}
}

// dressed is groups with all that a world of two processors asks of them beside the tree.
func dressed(l []impl.Group) []impl.Group {
	list := slices.Clone(l)
	for g := range list {
		if list[g].Used {
			list[g].Weight, list[g].Cpus, list[g].Shelves = rootWeight, everyCpu, []impl.Shelf{{W: rootWeight}, {W: rootWeight}}
		}
	}
	return list
}

// breakFree leaves something in places that are not used.
func breakFree(b *breaker) {
	for _, place := range []int{4, 7} {
		for _, n := range append([]int{-1, 1}, farInts()...) {
			b.add(lineGroups, "a free group's number "+strconv.Itoa(n), func(w *impl.World) { w.Groups[place].Parent = n })
			b.add(lineGroups, "a free group's weight "+strconv.Itoa(n), func(w *impl.World) { w.Groups[place].Weight = n })
			b.add(lineGroups, "a free group's processors "+strconv.Itoa(n), func(w *impl.World) { w.Groups[place].Cpus = n })
			b.add(lineGroups, "a free group's period "+strconv.Itoa(n), func(w *impl.World) { w.Groups[place].Period = n })
			b.add(lineGroups, "a free group's next "+strconv.Itoa(n), func(w *impl.World) { w.Groups[place].Next = n })
			b.add(lineGroups, "a free group's sum "+strconv.Itoa(n), func(w *impl.World) { w.Groups[place].Sum = n })
			b.add(lineGroups, "a free group's quota "+strconv.Itoa(n), func(w *impl.World) { w.Groups[place].Band.Quota = n })
			b.add(lineGroups, "a free group's pool "+strconv.Itoa(n), func(w *impl.World) { w.Groups[place].Band.Pool = n })
			b.add(lineGroups, "a free group's spent "+strconv.Itoa(n), func(w *impl.World) { w.Groups[place].Band.Spent = n })
		}
		b.add(lineGroups, "a free group's name", func(w *impl.World) { w.Groups[place].Name = "x" })
		b.add(lineGroups, "a free group's local", func(w *impl.World) { w.Groups[place].Band.Locals = []int{0} })
		b.add(lineGroups, "a free group's locals", func(w *impl.World) { w.Groups[place].Band.Locals = make([]int, 4) })
		b.add(lineGroups, "a free group's dry", func(w *impl.World) { w.Groups[place].Band.Dry = []bool{false} })
		b.add(lineGroups, "a free group's shelf", func(w *impl.World) { w.Groups[place].Shelves = []impl.Shelf{{}} })
		b.add(lineGroups, "a free group's shelves", func(w *impl.World) { w.Groups[place].Shelves = make([]impl.Shelf, 4) })
		b.add(lineGroups, "a free group's shelves as a used one has them", func(w *impl.World) { w.Groups[place].Shelves = handGroup(0, "x", 10, 15).Shelves })
		b.add(lineGroups, "a free group's band as a used one has it", func(w *impl.World) { w.Groups[place].Band = cloneGroup(w.Groups[1]).Band })
	}
	b.add(lineGroups, "a group that is not used any more", func(w *impl.World) {
		w.Groups[6].Used, w.Tasks[5] = false, impl.Task{}
	})
	for _, place := range []int{6, 11} {
		for _, n := range append([]int{-1, 1}, farInts()...) {
			for name, t := range map[string]impl.Task{"group": {Group: n}, "processor": {Cpu: n}, "niceness": {Nice: n}, "mask": {Mask: n}, "time": {V: n}, "sum": {Sum: n}, "use": {Used: n}, "load": {Load: n}} {
				b.add(lineTasks, "a free task's "+name+" "+strconv.Itoa(n), func(w *impl.World) { w.Tasks[place] = t })
			}
		}
	}
	b.add(lineTasks, "a task that is none any more", func(w *impl.World) { w.Tasks[7].State = 0 })
}

func breakGroups(b *breaker) {
	for _, g := range []int{1, 3, 6} {
		name := "the group " + strconv.Itoa(g) + ": "
		b.each(lineGroups, name+"Weight", notWeights(), func(w *impl.World) *int { return &w.Groups[g].Weight })
		b.each(lineGroups, name+"Cpus", notSets(), func(w *impl.World) *int { return &w.Groups[g].Cpus })
		b.each(lineGroups, name+"Sum", notTimes(), func(w *impl.World) *int { return &w.Groups[g].Sum })
	}
	b.each(lineGroups, "the root: Sum", notTimes(), func(w *impl.World) *int { return &w.Groups[0].Sum })
	for _, g := range []int{0, 1, 3, 5} {
		for _, n := range []int{0, 1, 3, 5, 8} {
			b.add(lineGroups, "the group "+strconv.Itoa(g)+": "+strconv.Itoa(n)+" shelves", func(w *impl.World) {
				w.Groups[g].Shelves = append(w.Groups[g].Shelves, w.Groups[g].Shelves...)[:n]
			})
		}
	}
}

func breakQuotas(b *breaker) {
	for name, band := range wrongBands() {
		if isNoBand(band) {
			continue
		}
		b.add(lineGroups, "a band: "+name, func(w *impl.World) { w.Groups[1].Band = band })
		b.add(lineGroups, "a band, no period: "+name, func(w *impl.World) { w.Groups[2].Band = band })
	}
	for name, change := range map[string]func(b *impl.Band){
		"the pool":      func(b *impl.Band) { b.Pool++ },
		"what is spent": func(b *impl.Band) { b.Spent-- },
		"a local":       func(b *impl.Band) { b.Locals[3]++ },
		"who is dry":    func(b *impl.Band) { b.Dry[0] = true },
		"a local fewer": func(b *impl.Band) { b.Locals = b.Locals[:3] },
		"a dry fewer":   func(b *impl.Band) { b.Dry = b.Dry[:3] },
	} {
		b.add(lineGroups, "a band with four: "+name, func(w *impl.World) { change(&w.Groups[1].Band) })
	}
	for cpus := 1; cpus < cpuLimit; cpus++ {
		b.add(lineGroups, "a band for "+strconv.Itoa(cpus), func(w *impl.World) {
			w.Groups[1].Band = impl.Band{Quota: 9, Pool: 9, Locals: make([]int, cpus), Dry: make([]bool, cpus)}
		})
		for more := cpus + 1; more <= cpuLimit; more++ {
			w := emptyWorld(cpus)
			w.Groups[4] = impl.Group{Used: true, Name: "x", Weight: 1, Cpus: 1, Period: 5, Next: 5, Shelves: make([]impl.Shelf, cpus)}
			for cpu := range cpus {
				w.Groups[4].Shelves[cpu].W = 1
			}
			w.Groups[4].Band = impl.Band{Quota: 9, Pool: 9, Locals: make([]int, more), Dry: make([]bool, more)}
			b.list = append(b.list, brokenWorld{"a band for " + strconv.Itoa(more) + " of " + strconv.Itoa(cpus), lineGroups, w})
		}
	}
	b.each(lineGroups, "Period", append([]int{-1, 0, 99, 1001}, farInts()...), func(w *impl.World) *int { return &w.Groups[1].Period })
	b.add(lineGroups, "Period 1001, Next near", func(w *impl.World) { w.Groups[1].Period, w.Groups[1].Next = 1001, 501 })
	b.add(lineGroups, "Period 0, Next near", func(w *impl.World) { w.Groups[1].Period, w.Groups[1].Next = 0, 501 })
	b.each(lineGroups, "Next", append([]int{-1, 0, 1, 499, 500, 601, 1000, 1500}, farInts()...), func(w *impl.World) *int { return &w.Groups[1].Next })
	for _, n := range append([]int{-1, 1, 100, 501}, farInts()...) {
		b.add(lineGroups, "no quota, Period "+strconv.Itoa(n), func(w *impl.World) { w.Groups[2].Period = n })
		b.add(lineGroups, "no quota, Next "+strconv.Itoa(n), func(w *impl.World) { w.Groups[2].Next = n })
	}
	b.add(lineGroups, "no quota, Period and Next", func(w *impl.World) { w.Groups[2].Period, w.Groups[2].Next = 100, 600 })
	b.add(lineGroups, "no quota, but locals", func(w *impl.World) { w.Groups[2].Band.Locals = make([]int, 4) })
	b.add(lineGroups, "no quota, but dry", func(w *impl.World) { w.Groups[2].Band.Dry = make([]bool, 4) })
	b.add(lineGroups, "no quota, but locals, dry and a period", func(w *impl.World) {
		w.Groups[2].Band.Locals, w.Groups[2].Band.Dry, w.Groups[2].Period, w.Groups[2].Next = make([]int, 4), make([]bool, 4), 100, 600
	})
}

func breakRoot(b *breaker) {
	b.each(lineGroups, "the root: Weight", append([]int{1, 9, 11, 20}, notWeights()...), func(w *impl.World) *int { return &w.Groups[0].Weight })
	b.each(lineGroups, "the root: Cpus", append([]int{1, 7, 8, 14}, notSets()...), func(w *impl.World) *int { return &w.Groups[0].Cpus })
	b.each(lineGroups, "the root: Period", []int{-1, 1, 100}, func(w *impl.World) *int { return &w.Groups[0].Period })
	b.each(lineGroups, "the root: Next", []int{-1, 1, 501}, func(w *impl.World) *int { return &w.Groups[0].Next })
	b.add(lineGroups, "the root: a quota", func(w *impl.World) {
		w.Groups[0].Band, w.Groups[0].Period, w.Groups[0].Next = cloneGroup(w.Groups[1]).Band, 100, 600
	})
	b.add(lineGroups, "the root: locals", func(w *impl.World) { w.Groups[0].Band.Locals = make([]int, 4) })
	b.add(lineShelves, "the root: On", func(w *impl.World) { w.Groups[0].Shelves[2].On = true })
	b.add(lineShelves, "the root: On where somebody stands", func(w *impl.World) { w.Groups[0].Shelves[0].On = true })
	b.each(lineShelves, "the root: V", append([]int{1, handFloor, timeLimit}, notTimes()...), func(w *impl.World) *int { return &w.Groups[0].Shelves[3].V })
	b.each(lineShelves, "the root: W", append([]int{1, 9, 11, 20}, notWeights()...), func(w *impl.World) *int { return &w.Groups[0].Shelves[1].W })
}

func breakTasks(b *breaker) {
	for _, at := range []int{0, 7} {
		name := "the task " + strconv.Itoa(at) + ": "
		b.each(lineTasks, name+"State", append([]int{-1, 3, 4, 257}, farInts()...), func(w *impl.World) *int { return &w.Tasks[at].State })
		b.each(lineTasks, name+"Group", append([]int{-1, 4, 7, 8, 9}, farInts()...), func(w *impl.World) *int { return &w.Tasks[at].Group })
		b.each(lineTasks, name+"Cpu", append([]int{-1, 3, 4, 5, 64}, farInts()...), func(w *impl.World) *int { return &w.Tasks[at].Cpu })
		b.each(lineTasks, name+"Nice", append([]int{-11, 10, 20}, farInts()...), func(w *impl.World) *int { return &w.Tasks[at].Nice })
		b.each(lineTasks, name+"Mask", notSets(), func(w *impl.World) *int { return &w.Tasks[at].Mask })
		b.each(lineTasks, name+"V", notTimes(), func(w *impl.World) *int { return &w.Tasks[at].V })
		b.each(lineTasks, name+"Sum", notTimes(), func(w *impl.World) *int { return &w.Tasks[at].Sum })
		b.each(lineTasks, name+"Used", notTimes(), func(w *impl.World) *int { return &w.Tasks[at].Used })
		b.each(lineTasks, name+"Load", append([]int{-1, 8000001}, farInts()...), func(w *impl.World) *int { return &w.Tasks[at].Load })
	}
	for _, v := range []int{0, handFloor - 1, handFloor + longStay*step(10) + 1, timeLimit} {
		b.add(lineTasks, "the task 0: not well at "+strconv.Itoa(v), func(w *impl.World) { w.Tasks[0].V = v })
	}
	for _, v := range []int{0, handFloor - 1, handFloor + longStay*step(20) + 1, handFloor + longStay*step(10), timeLimit} {
		b.add(lineTasks, "not well in a group that is dry at "+strconv.Itoa(v), func(w *impl.World) { w.Tasks[2].V = v })
	}
	b.add(lineTasks, "below the floor of the own group, not of the root", func(w *impl.World) { w.Groups[5].Shelves[0].Floor++ })
	b.add(lineTasks, "too far above the floor of the own group", func(w *impl.World) { w.Groups[6].Shelves[0].Floor -= longStay*step(13) + 1 })
}

func breakWhere(b *breaker) {
	b.add(lineTasks, "where its mask has something else", func(w *impl.World) { w.Tasks[7].Cpu = 0 })
	b.add(lineTasks, "where its mask has something else, ready", func(w *impl.World) { w.Tasks[0].Mask = 6 })
	b.add(lineTasks, "where its mask has only who is up elsewhere", func(w *impl.World) { w.Tasks[0].Mask = 10 })
	b.add(lineTasks, "where its group's pins do not have it", func(w *impl.World) { w.Groups[2].Cpus = 5 })
	b.add(lineTasks, "where an outer group's pins do not have it", func(w *impl.World) {
		w.Groups[1].Cpus, w.Tasks[4] = 3, impl.Task{}
		w.Groups[1].Shelves[2].On = false
		w.Tasks[3].Cpu = 0
	})
	b.add(lineTasks, "on one that is down, by its mask", func(w *impl.World) { w.Tasks[7].Mask, w.Tasks[7].Cpu = 8, 3 })
	b.add(lineTasks, "on one that is down, by its group", func(w *impl.World) { w.Tasks[5].State, w.Tasks[5].Cpu, w.Groups[6].Shelves[0].On = 2, 3, false })
	b.add(lineTasks, "blocked where it may not be", func(w *impl.World) { w.Tasks[3].Cpu = 0 })
}

func breakShelves(b *breaker) {
	for _, g := range []int{1, 3, 5} {
		name := "the shelf of " + strconv.Itoa(g) + ": "
		b.each(lineShelves, name+"Floor", notTimes(), func(w *impl.World) *int { return &w.Groups[g].Shelves[3].Floor })
		b.each(lineShelves, name+"V", notTimes(), func(w *impl.World) *int { return &w.Groups[g].Shelves[3].V })
		b.each(lineShelves, name+"Sum", notTimes(), func(w *impl.World) *int { return &w.Groups[g].Shelves[1].Sum })
		b.each(lineShelves, name+"W", notWeights(), func(w *impl.World) *int { return &w.Groups[g].Shelves[3].W })
	}
	b.each(lineShelves, "the root's Floor", notTimes(), func(w *impl.World) *int { return &w.Groups[0].Shelves[3].Floor })
	b.each(lineShelves, "the root's Sum", notTimes(), func(w *impl.World) *int { return &w.Groups[0].Shelves[1].Sum })
	b.each(lineShelves, "W of one that is On", notWeights(), func(w *impl.World) *int { return &w.Groups[6].Shelves[0].W })
}

func breakOn(b *breaker) {
	for _, cpu := range []int{1, 2, 3} {
		b.add(lineShelves, "On where nobody stands, on "+strconv.Itoa(cpu), func(w *impl.World) { w.Groups[6].Shelves[cpu].On = true })
	}
	b.add(lineShelves, "On where somebody is only blocked", func(w *impl.World) { w.Tasks[5].State = 2 })
	b.add(lineShelves, "On where all went elsewhere", func(w *impl.World) { w.Tasks[5].Cpu = 1; w.Groups[6].Shelves[1].On = true })
	b.add(lineShelves, "On where nobody stands, and the group in it not", func(w *impl.World) { w.Groups[2].Shelves[2].On = true })
	b.add(lineShelves, "On where it is dry", func(w *impl.World) { w.Groups[5].Shelves[0].On = true })
	b.add(lineShelves, "not On where a task stands", func(w *impl.World) { w.Groups[1].Shelves[2].On = false })
	b.add(lineShelves, "not On where a task stands, the last group", func(w *impl.World) { w.Groups[6].Shelves[0].On = false })
	b.add(lineShelves, "not On where a group stands", func(w *impl.World) {
		w.Groups[1].Shelves[1].On, w.Cpus[1].Cur, w.Cpus[1].Ran = false, -1, 0
	})
	b.add(lineShelves, "not On where it is not dry any more", func(w *impl.World) { w.Groups[5].Band.Dry[0] = false })
	for _, v := range []int{0, handFloor - 1, handFloor + longStay*step(3) + 1, timeLimit} {
		b.add(lineShelves, "On and not well at "+strconv.Itoa(v), func(w *impl.World) { w.Groups[6].Shelves[0].V = v })
	}
	for _, v := range []int{0, handFloor - 1, handFloor + longStay*step(10) + 1, timeLimit} {
		b.add(lineShelves, "On and not well without a stay at "+strconv.Itoa(v), func(w *impl.World) { w.Groups[1].Shelves[2].V = v })
	}
	b.add(lineShelves, "below the floor of what it is in, inside", func(w *impl.World) {
		w.Cpus[1].Cur, w.Cpus[1].Ran, w.Groups[2].Shelves[1].Floor = -1, 0, handFloor+1
	})
	b.add(lineShelves, "too far above the floor of what it is in, inside", func(w *impl.World) {
		w.Cpus[1].Cur, w.Cpus[1].Ran, w.Groups[1].Shelves[1].Floor = -1, 0, handFloor-longStay*step(20)-1
	})
}

func breakProcessors(b *breaker) {
	for _, cpu := range []int{0, 1, 3} {
		b.each(lineProcessors, "Busy of "+strconv.Itoa(cpu), notTimes(), func(w *impl.World) *int { return &w.Cpus[cpu].Busy })
		b.each(lineProcessors, "Idle of "+strconv.Itoa(cpu), notTimes(), func(w *impl.World) *int { return &w.Cpus[cpu].Idle })
	}
	for _, cpu := range []int{0, 2, 3} {
		b.each(lineProcessors, "nobody, Ran of "+strconv.Itoa(cpu), append([]int{-1, 1, 50, 149}, farInts()...), func(w *impl.World) *int { return &w.Cpus[cpu].Ran })
		b.each(lineProcessors, "Ran 0, Cur of "+strconv.Itoa(cpu), append([]int{-2, 0, 1, 4, 11, 12}, farInts()...), func(w *impl.World) *int { return &w.Cpus[cpu].Cur })
	}
	b.each(lineProcessors, "Cur", append([]int{-2, -1, 12, 13, 1<<32 + 1}, farInts()...), func(w *impl.World) *int { return &w.Cpus[1].Cur })
	b.each(lineProcessors, "Ran", append([]int{-1, 0, 150, 200}, farInts()...), func(w *impl.World) *int { return &w.Cpus[1].Ran })
	for _, c := range []struct {
		name     string
		cpu, cur int
	}{
		{"none", 1, 6}, {"none, the last place", 1, 11}, {"who is blocked", 1, 3}, {"who is blocked in the root", 2, 7},
		{"who is on another one", 1, 0}, {"who is on another one, both up", 2, 0}, {"who is held back", 0, 2},
		{"current elsewhere", 0, 1}, {"down, somebody", 3, 0}, {"down, who may not be there", 3, 4}, {"down, who is blocked", 3, 7},
	} {
		b.add(lineProcessors, "Cur is "+c.name, func(w *impl.World) { w.Cpus[c.cpu].Cur, w.Cpus[c.cpu].Ran = c.cur, 149 })
	}
}

// breakStays lets the current task, or one of its groups, be one further ahead than the stay can have brought it.
func breakStays(b *breaker) {
	for _, ran := range []int{1, 49, 50, 60, 148} {
		b.add(lineProcessors, "the task, Ran "+strconv.Itoa(ran), func(w *impl.World) {
			w.Cpus[1].Ran, w.Tasks[1].V = ran, handFloor+ran*step(5)+1
		})
		for g, weight := range map[int]int{1: 10, 2: 20, 3: 1} {
			b.add(lineProcessors, "the group "+strconv.Itoa(g)+", Ran "+strconv.Itoa(ran), func(w *impl.World) {
				w.Cpus[1].Ran, w.Tasks[1].V, w.Groups[g].Shelves[1].V = ran, handFloor, handFloor+ran*step(weight)+1
			})
		}
	}
}

// wantNoAnswers holds what is told of a world that is not ok.
func wantNoAnswers(t *testing.T, name string, w impl.World) {
	t.Helper()
	if impl.WorldOk(w) || impl.WorldRoom(w) {
		t.Errorf("%s: ok %v, room %v: %+v", name, impl.WorldOk(w), impl.WorldRoom(w), w)
	}
	for at := -1; at <= taskLimit; at++ {
		if mask, line := impl.WorldMask(w, at), impl.WorldLine(w, at); mask != 0 || line {
			t.Errorf("%s: the task %d: %d, %v", name, at, mask, line)
		}
	}
	for g := -1; g <= groupLimit; g++ {
		for cpu := -1; cpu <= cpuLimit; cpu++ {
			if impl.WorldDry(w, g, cpu) {
				t.Errorf("%s: %d is dry on %d", name, g, cpu)
			}
		}
	}
}

// Each line of WorldOk is broken by itself: the world is not ok, and nothing is told of it.
func TestWorldBroken(t *testing.T) {
	if w := handWorld(); !impl.WorldOk(w) || !modelWorldOk(w) {
		t.Fatalf("not ok to begin with: %v", worldFaults(w))
	}
	seen := map[string]int{}
	for _, c := range brokenWorlds() {
		if faults := worldFaults(c.world); !slices.Equal(faults, []string{c.line}) {
			t.Errorf("%s: breaks %v, not just %s", c.name, faults, c.line)
		}
		wantNoAnswers(t, c.name, c.world)
		seen[c.line]++
	}
	for _, line := range []string{linePlaces, lineGroups, lineTasks, lineShelves, lineProcessors} {
		if seen[line] < 30 {
			t.Errorf("%s: broken %d times", line, seen[line])
		}
	}
}
