package tests

import (
	"slices"
	"testing"

	"loop.example/stint/impl"
)

func niceFault() callFault[taskCall] {
	return faultOf(impl.CodeBad, append([]int{-11, 10, 11, 1 << 32}, farInts()...), func(c *taskCall) *int { return &c.nice })
}

func maskFault() callFault[taskCall] {
	return faultOf(impl.CodeBad, append([]int{-1, 0, 16, 17, 1 << 32, 1<<32 + 1}, farInts()...), func(c *taskCall) *int { return &c.mask })
}

// taskFault names places of callWorld where no task is.
func taskFault() callFault[taskCall] {
	return faultOf(impl.CodeNone, append([]int{-1, 6, 8, 11, 12, 13, 1 << 32, 1<<32 + 1}, farInts()...), func(c *taskCall) *int { return &c.task })
}

// groupFault names places of callWorld where no group is.
func groupFault() callFault[taskCall] {
	return faultOf(impl.CodeNone, append([]int{-1, 4, 7, 8, 9, 1 << 32}, farInts()...), func(c *taskCall) *int { return &c.group })
}

func fullFault() callFault[taskCall] {
	return callFault[taskCall]{impl.CodeFull, []func(w *impl.World, c *taskCall){func(w *impl.World, _ *taskCall) { fillTasks(w) }}}
}

// stateFault names tasks of callWorld that are in another state.
func stateFault(tasks ...int) callFault[taskCall] {
	return faultOf(impl.CodeState, tasks, func(c *taskCall) *int { return &c.task })
}

// callFaults are calls that are done in callWorld, each with what may be wrong, in the order in which the document looks for it.
func callFaults() map[taskCall][]callFault[taskCall] {
	end := endFault[taskCall]()
	return map[taskCall][]callFault[taskCall]{
		{what: callFork, group: 2, nice: 3, mask: 9}: {niceFault(), maskFault(), groupFault(), fullFault(), end},
		{what: callBlock, task: 1}:                   {taskFault(), stateFault(3, 7), end},
		{what: callWake, task: 3}:                    {taskFault(), stateFault(0, 1, 2, 4, 5), end},
		{what: callExit, task: 1}:                    {taskFault(), end},
		{what: callExit, task: 3}:                    {taskFault(), end},
		{what: callNice, task: 1, nice: -10}:         {niceFault(), taskFault(), end},
		{what: callNice, task: 3, nice: 9}:           {niceFault(), taskFault(), end},
		{what: callPin, task: 1, mask: 4}:            {maskFault(), taskFault(), end},
		{what: callPin, task: 3, mask: 15}:           {maskFault(), taskFault(), end},
		{what: callMove, task: 1, group: 6}:          {taskFault(), groupFault(), end},
		{what: callMove, task: 3, group: 2}:          {taskFault(), groupFault(), end},
	}
}

// Whatever is wrong at once, told is the code that the document looks for first.
func TestTaskCodes(t *testing.T) { wantFirstCodes(t, callWorld, callFaults()) }

// Each number that is none is refused by itself.
func TestTaskCodesOfEachNumber(t *testing.T) { wantEachCode(t, callWorld, callFaults()) }

// What may be met exactly is met.
func TestTaskCodesAtTheEdges(t *testing.T) {
	w := callWorld()
	w.Tasks[11] = impl.Task{State: impl.TaskReady, Mask: 1, V: handFloor}
	for _, c := range []taskCall{
		{what: callFork, group: 0, nice: -10, mask: 1}, {what: callFork, group: 6, nice: 9, mask: 15}, {what: callFork, group: 5, nice: 9, mask: 8},
		{what: callBlock, task: 0}, {what: callBlock, task: 11}, {what: callExit, task: 0}, {what: callExit, task: 11}, {what: callWake, task: 7},
		{what: callNice, task: 11, nice: -10}, {what: callNice, task: 0, nice: 9}, {what: callNice, task: 0, nice: 0},
		{what: callPin, task: 0, mask: 1}, {what: callPin, task: 11, mask: 15}, {what: callMove, task: 11, group: 6}, {what: callMove, task: 2, group: 0},
	} {
		mustCall(t, w, c)
	}
	full := callWorld()
	fillTasks(&full)
	full.Groups[7] = handGroup(0, "z", 20, 15)
	for _, c := range []taskCall{{what: callWake, task: 11}, {what: callBlock, task: 10}, {what: callExit, task: 11}, {what: callMove, task: 11, group: 7}} {
		mustCall(t, full, c)
	}
}

// Of what is no world nothing is told, and nothing is done with it, whatever else is asked.
func TestTasksOfBrokenWorlds(t *testing.T) { wantNothingOfBroken(t, callWorld, callFaults()) }

// roomyCalls are calls that are done in roomyWorld.
func roomyCalls() []taskCall {
	return []taskCall{
		{what: callFork, group: 3, nice: -3, mask: 4}, {what: callBlock, task: 1}, {what: callWake, task: 3}, {what: callWake, task: 7}, {what: callExit, task: 4},
		{what: callNice, task: 1, nice: 9}, {what: callPin, task: 4, mask: 3}, {what: callMove, task: 0, group: 3}, {what: callMove, task: 0, group: 0},
	}
}

// A call is done as long as nothing is beyond TimeMax / 2, wherever that is.
func TestTasksRoomAtTheEdges(t *testing.T) { wantRoomAtTheEdges(t, roomyCalls()) }

// The last calls that have room: to a floor at TimeMax / 2, with the greatest lag. Behind them time is over.
func TestTasksBeyondTheHalf(t *testing.T) {
	const half = timeLimit / 2
	most := longStay * unitStep
	for _, c := range []taskCall{{what: callMove, task: 2, group: 1}, {what: callPin, task: 2, mask: 2}, {what: callWake, task: 3}} {
		w := groupedWorld(2, 0)
		w.Groups[1].Shelves[0].Floor, w.Groups[0].Shelves[1].Floor, w.Groups[1].Shelves[1].Floor = half, half, half
		putReady(w, 2, 0, 0, 9, most)
		putReady(w, 3, 1, 1, 9, half)
		w.Tasks[3].State = impl.TaskBlocked
		w.Tasks[4] = w.Tasks[2]
		w.Tasks[4].V = 0
		out := mustCall(t, w, c)
		if v := out.Tasks[c.task].V; c.task == 2 && v != half+most || c.task == 3 && v != half {
			t.Errorf("%+v: at %d", c, v)
		}
		if c.task == 2 {
			for _, next := range []taskCall{{what: callFork, mask: 1}, {what: callBlock, task: 2}, {what: callExit, task: 2}, {what: callNice, task: 2}, {what: callPin, task: 2, mask: 1}, {what: callMove, task: 2, group: 0}, {what: callWake, task: 3}} {
				wantRefusedCall(t, "over", out, next, impl.CodeEnd)
			}
		}
	}
}

// callsToKeep are calls at arguments that are ok in some worlds and at others.
func callsToKeep() []taskCall {
	var list []taskCall
	for _, task := range []int{-1, 0, 1, 3, 4, 7, 12} {
		for _, what := range []string{callBlock, callWake, callExit} {
			list = append(list, taskCall{what: what, task: task})
		}
		for _, n := range []int{-11, 0, 1, 6, 9} {
			list = append(list, taskCall{what: callNice, task: task, nice: n}, taskCall{what: callPin, task: task, mask: n}, taskCall{what: callMove, task: task, group: n})
		}
	}
	for _, group := range []int{-1, 0, 1, 6} {
		list = append(list, taskCall{what: callFork, group: group, nice: 1, mask: 7}, taskCall{what: callFork, group: group, nice: -11, mask: 7})
	}
	return list
}

// worldsToCall are the worlds to keep with room beside those without.
func worldsToCall(d *dice) []impl.World {
	worlds := append(worldsToKeep(d), callWorld(), sleeperWorld())
	for range 20 {
		worlds = append(worlds, thrownToCall(d))
	}
	return worlds
}

// What is handed in is as it was, spare room and all; what is answered shares no memory with it, nor do any two of its lists.
func TestTasksMemory(t *testing.T) {
	t.Parallel()
	wantMemoryKept(t, worldsToCall(&dice{state: 103}), callsToKeep())
}

// However often it is asked, and by how many at the same time, the same is told.
func TestTasksAreTheSameEachTime(t *testing.T) {
	t.Parallel()
	worlds := worldsToCall(&dice{state: 104})
	worlds = slices.Concat(worlds[:1], worlds[len(worlds)-3:])
	wantSameEachTime(t, worlds, func(w impl.World) string { return callAnswers(w, callsToKeep()) })
}
