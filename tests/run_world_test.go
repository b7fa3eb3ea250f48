package tests

import (
	"strconv"

	"loop.example/stint/impl"
)

// groupedWorld is a new world with groups at the places 1, 2, .. in these parents.
func groupedWorld(cpus int, parents ...int) impl.World {
	w := emptyWorld(cpus)
	for i, parent := range parents {
		g := impl.Group{Used: true, Parent: parent, Name: "g" + strconv.Itoa(i+1), Weight: rootWeight, Cpus: everyCpu}
		for range cpus {
			g.Shelves = append(g.Shelves, impl.Shelf{W: rootWeight})
		}
		w.Groups[i+1] = g
	}
	return w
}

// putReady puts a task that is ready into a group's queue on a processor, at a time.
func putReady(w impl.World, at, group, cpu, nice, v int) {
	w.Tasks[at] = impl.Task{State: impl.TaskReady, Group: group, Cpu: cpu, Nice: nice, Mask: everyCpu, V: v}
}

// limitTo gives a group a quota, all of it in the pool.
func limitTo(w impl.World, group, quota int) {
	g := &w.Groups[group]
	g.Band = impl.Band{Quota: quota, Pool: quota, Locals: make([]int, len(w.Cpus)), Dry: make([]bool, len(w.Cpus))}
	g.Period, g.Next = periodLimit, w.Now+periodLimit
}

// spendAll lets a quota be spent, so that nothing of it is left anywhere.
func spendAll(w impl.World, group int) {
	b := &w.Groups[group].Band
	b.Pool, b.Spent = 0, b.Quota
	clear(b.Locals)
}

// rivals is a world of one processor with two tasks of one weight in the root, of which the first is current and has had so many units.
func rivals(ran int) impl.World {
	w := emptyWorld(1)
	putReady(w, 0, 0, 0, 0, ran*step(10))
	putReady(w, 1, 0, 0, 0, 0)
	w.Cpus[0].Cur, w.Cpus[0].Ran = 0, ran
	return w
}

// limitedRival is a world of one processor with the task 0 in a group with a quota, and the task 1 in the root.
func limitedRival(quota int) impl.World {
	w := groupedWorld(1, 0)
	limitTo(w, 1, quota)
	putReady(w, 0, 1, 0, 0, 0)
	putReady(w, 1, 0, 0, 0, 1)
	modelSettle(w)
	return w
}

// nestedWorld is a world of one processor with a task alone, in groups one in the other that have these quotas from the root down; 0 is none.
func nestedWorld(quotas ...int) impl.World {
	w := groupedWorld(1, []int{0, 1, 2}[:len(quotas)]...)
	for i, quota := range quotas {
		if quota > 0 {
			limitTo(w, i+1, quota)
		}
	}
	putReady(w, 3, len(quotas), 0, 2, 0)
	modelSettle(w)
	return w
}

// thrownToRun is some world with room; in every other one many groups have small quotas, of which all is there.
func thrownToRun(d *dice) impl.World {
	w := thrownWorld(d, d.oneOf(timeLimit/2, timeLimit/4, timeLimit/4, 20*unitStep))
	if d.below(2) == 0 {
		return w
	}
	for g := 1; g < groupLimit; g++ {
		if w.Groups[g].Used && d.below(4) > 0 {
			limitTo(w, g, d.oneOf(1, 5, 19, 20, 21, 40, 45, 60, 100, 1+d.below(120)))
		}
	}
	modelSettle(w)
	return w
}

// thrownSettled is some world with room that is settled, as every call but a yield leaves it behind.
func thrownSettled(d *dice) impl.World {
	w := thrownToRun(d)
	modelSettle(w)
	return w
}

// liesUnused says whether a part of a quota lies where nobody can use it. No call leaves it so; what the document's list makes of a world that was put together so, and never settled, need not be ok: a group that was dry comes back at a floor that was never raised, far behind who just ran.
func liesUnused(w impl.World) bool {
	for g, group := range w.Groups {
		for cpu, local := range group.Band.Locals {
			if local > 0 && len(standersOf(w, g, cpu)) == 0 {
				return true
			}
		}
	}
	return false
}

// runsToTry are numbers of units: those that a run may have, and others.
func runsToTry() []int {
	return append([]int{-100, -1, 0, 1, 2, 20, 49, 50, 51, 99, 100, 101, 102, 1 << 32, 1<<32 + 1}, farInts()...)
}

// processorsToTry are places of processors that a world has, and others.
func processorsToTry(w impl.World) []int {
	list := append([]int{-2, -1, len(w.Cpus), len(w.Cpus) + 1, 64, 1 << 32}, farInts()...)
	for cpu := range w.Cpus {
		list = append(list, cpu)
	}
	return list
}
