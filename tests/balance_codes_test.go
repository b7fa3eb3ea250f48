package tests

import (
	"fmt"
	"slices"
	"strconv"
	"testing"

	"loop.example/stint/impl"
)

// processorFault names processors that callWorld has not.
func processorFault() callFault[cpuCall] {
	return faultOf(impl.CodeBad, append([]int{-1, 4, 5, 64, 1 << 32, 1<<32 + 1}, farInts()...), func(c *cpuCall) *int { return &c.cpu })
}

// upFault names processors of callWorld that are not as a call needs them.
func upFault(cpus ...int) callFault[cpuCall] {
	return faultOf(impl.CodeState, cpus, func(c *cpuCall) *int { return &c.cpu })
}

// lastFault lets the processor of a call be the last one that is up, with all tasks on it.
func lastFault() callFault[cpuCall] {
	return callFault[cpuCall]{impl.CodeLast, []func(w *impl.World, c *cpuCall){func(w *impl.World, c *cpuCall) { leaveAlone(*w, c.cpu) }}}
}

// leaveAlone takes all processors but one away, in a world where all floors are alike.
func leaveAlone(w impl.World, cpu int) {
	for at := range w.Tasks {
		if w.Tasks[at].State != 0 {
			w.Tasks[at].Cpu = cpu
		}
	}
	for other := range w.Cpus {
		w.Cpus[other].Up = other == cpu
	}
	modelSettle(w)
}

// cpuFaults are calls that are done in callWorld, where 3 is down, each with what may be wrong, in the order in which the document looks for it.
func cpuFaults() map[cpuCall][]callFault[cpuCall] {
	end := endFault[cpuCall]()
	return map[cpuCall][]callFault[cpuCall]{
		{callBalance, 0}: {processorFault(), upFault(3), end},
		{callBalance, 2}: {processorFault(), upFault(3), end},
		{callOff, 0}:     {processorFault(), upFault(3), lastFault(), end},
		{callOff, 1}:     {processorFault(), upFault(3), lastFault(), end},
		{callOff, 2}:     {processorFault(), upFault(3), lastFault(), end},
		{callOn, 3}:      {processorFault(), upFault(0, 1, 2), end},
	}
}

// Whatever is wrong at once, told is the code that the document looks for first.
func TestBalanceCodes(t *testing.T) { wantFirstCodes(t, callWorld, cpuFaults()) }

// Each fault is refused by itself.
func TestBalanceCodesByThemselves(t *testing.T) { wantEachCode(t, callWorld, cpuFaults()) }

// Of what is no world nothing is told, and nothing is done with it, whatever else is asked.
func TestBalanceOfBrokenWorlds(t *testing.T) {
	wantNothingOfBroken(t, callWorld, cpuFaults())
	for _, broken := range brokenWorlds() {
		for cpu := -1; cpu <= cpuLimit; cpu++ {
			task, ok := impl.CpuPull(broken.world, cpu)
			if load, waiting := impl.CpuLoad(broken.world, cpu), impl.CpuWaiting(broken.world, cpu); load != 0 || waiting != 0 || task != 0 || ok {
				t.Errorf("%s: on %d: %d, %d, %d, %v", broken.name, cpu, load, waiting, task, ok)
			}
			for level := range 3 {
				if got := impl.CpuBusiest(broken.world, cpu, level); got != -1 {
					t.Errorf("%s: for %d at %d: %d", broken.name, cpu, level, got)
				}
			}
			for group := range groupLimit {
				if inside, share := impl.GroupInside(broken.world, group, cpu), impl.GroupShare(broken.world, group, cpu); inside != 0 || share != 0 {
					t.Errorf("%s: %d on %d: %d, %d", broken.name, group, cpu, inside, share)
				}
			}
		}
	}
}

// A call is done as long as nothing is beyond TimeMax / 2, wherever that is.
func TestBalanceRoomAtTheEdges(t *testing.T) {
	wantRoomAtTheEdges(t, []cpuCall{{callBalance, 0}, {callBalance, 1}, {callBalance, 2}, {callOff, 0}, {callOff, 1}, {callOff, 2}, {callOn, 3}})
}

// The last calls that have room: to a floor at TimeMax / 2, with the greatest lag. Behind them time is over.
func TestBalanceBeyondTheHalf(t *testing.T) {
	const half, most = timeLimit / 2, longStay * unitStep
	off := groupedWorld(2)
	off.Groups[0].Shelves[1].Floor = half
	putReady(off, 2, 0, 0, 9, most)
	putReady(off, 3, 0, 0, 0, 0)
	off.Tasks[3].Mask = 1
	balance := cloneWorld(off)
	off.Tasks[3] = impl.Task{}
	on := cloneWorld(off)
	on.Cpus[1].Up, on.Tasks[2].Mask = false, 2
	for c, w := range map[cpuCall]impl.World{{callBalance, 1}: balance, {callOff, 0}: off, {callOn, 1}: on} {
		out := mustCall(t, w, c)
		if task := out.Tasks[2]; task.Cpu != 1 || task.V != half+most {
			t.Errorf("%+v: %+v", c, task)
		}
		if c.what == callOff {
			wantRefusedCall(t, "the last one", out, cpuCall{callOff, 1}, impl.CodeLast)
			wantRefusedCall(t, "over", out, cpuCall{callOn, 0}, impl.CodeEnd)
			continue
		}
		for _, next := range []cpuCall{{callBalance, 0}, {callBalance, 1}, {callOff, 0}, {callOff, 1}} {
			wantRefusedCall(t, "over", out, next, impl.CodeEnd)
		}
	}
}

// cpuCallsToKeep are calls at arguments that are ok in some worlds and at others.
func cpuCallsToKeep() []cpuCall {
	var list []cpuCall
	for _, what := range cpuKinds() {
		for cpu := -1; cpu <= cpuLimit; cpu++ {
			list = append(list, cpuCall{what, cpu})
		}
	}
	return list
}

// worldsToBalance are the worlds to keep with some beside them in which tasks may be taken over.
func worldsToBalance(d *dice) []impl.World {
	worlds := append(worldsToKeep(d), callWorld(), sharedWorld(), goingWorld())
	for _, c := range pullCases() {
		worlds = append(worlds, c.world())
	}
	for range 40 {
		worlds = append(worlds, thrownToBalance(d))
	}
	return worlds
}

// What is handed in is as it was, spare room and all; what is answered shares no memory with it, nor do any two of its lists.
func TestBalanceMemory(t *testing.T) {
	worlds := worldsToBalance(&dice{state: 126})
	wantMemoryKept(t, worlds, cpuCallsToKeep())
	for _, world := range worlds {
		w, asItWas := worldWithRoom(world)
		want := loadAnswers(w)
		if !asItWas() {
			t.Fatalf("written into %+v", world)
		}
		if got := loadAnswers(world); got != want {
			t.Fatalf("spare room is looked at: %s, %s", want, got)
		}
	}
}

// loadAnswers is all that the chapter tells of a world but what the calls make of it.
func loadAnswers(w impl.World) string {
	told := ""
	for cpu := -1; cpu <= cpuLimit; cpu++ {
		task, ok := impl.CpuPull(w, cpu)
		told += " " + fmt.Sprint(impl.CpuLoad(w, cpu), impl.CpuWaiting(w, cpu), task, ok)
		for level := -1; level <= 2; level++ {
			told += " " + strconv.Itoa(impl.CpuBusiest(w, cpu, level))
		}
		for group := -1; group <= groupLimit; group++ {
			told += " " + fmt.Sprint(impl.GroupInside(w, group, cpu), impl.GroupShare(w, group, cpu))
		}
	}
	return told
}

// However often it is asked, and by how many at the same time, the same is told.
func TestBalanceIsTheSameEachTime(t *testing.T) {
	worlds := worldsToBalance(&dice{state: 127})
	worlds = slices.Concat(worlds[:1], worlds[len(worlds)-4:])
	wantSameEachTime(t, worlds, func(w impl.World) string { return loadAnswers(w) + callAnswers(w, cpuCallsToKeep()) })
}
