package tests

import (
	"strconv"
	"testing"

	"loop.example/stint/impl"
)

// wantNoCredit holds a task behind a call against the promise, if it is ready.
func wantNoCredit(t *testing.T, c taskCall, was, is impl.World, task int) {
	t.Helper()
	x := is.Tasks[task]
	if x.State != impl.TaskReady {
		return
	}
	floor := is.Groups[x.Group].Shelves[x.Cpu].Floor
	if x.V < floor || x.V > floor+longStay*step(10-x.Nice) {
		t.Fatalf("%+v: the task %d is at %d, its floor at %d: %+v", c, task, x.V, floor, was)
	}
}

// P13: of thrown worlds, settled or not, behind each call: whoever it is about, and everybody else.
func TestSleepingEarnsNoCredit(t *testing.T) {
	t.Parallel()
	d := &dice{state: 13}
	seen := map[string]int{}
	for range 4000 {
		w := thrownToCall(d)
		for range 8 {
			c := thrownCall(d, w)
			out, place, code := c.do(w)
			if code != impl.CodeDone {
				continue
			}
			for task := range out.Tasks {
				wantNoCredit(t, c, w, out, task)
			}
			if c.what == callFork {
				c.task = place
			}
			if out.Tasks[c.task].State == impl.TaskReady {
				seen[c.what]++
			}
			callSights(c, w, out, place, code, seen)
			w = out
		}
	}
	for _, sight := range []string{
		callWake, callFork, callMove, callPin, callNice, "wake blocked behind the floor", "wake blocked ahead by more", "wake blocked to another processor", "wake blocked where it is",
		"move ready to another processor", "move ready where it is", "pin ready to another processor", "nice ready ahead by more", "move of who is current", "pin of who is current",
	} {
		if seen[sight] < 50 {
			t.Errorf("%s: %d times: the calls try too little", sight, seen[sight])
		}
	}
}

// The floors of the queues that lagWorld has.
const (
	oldFloor = 700 * unitStep
	newFloor = 90000 * unitStep
)

// lagWorld is a world of two processors with the group 1, where the task 3 of a niceness is in the root's queue on 0, at a lag; nobody else is on 0. All other queues have another floor, above it or below it.
func lagWorld(state, nice, lag, floor, other int) impl.World {
	w := groupedWorld(2, 0)
	for g := range 2 {
		for cpu := range 2 {
			w.Groups[g].Shelves[cpu].Floor = other
		}
	}
	w.Groups[0].Shelves[0].Floor = floor
	putReady(w, 3, 0, 0, nice, floor+lag)
	w.Tasks[3].State = state
	return w
}

// cutLag is a lag as it may be by a niceness.
func cutLag(lag, nice int) int { return min(max(lag, 0), longStay*step(10-nice)) }

// lagsToTry are lags below and at the floor, ahead of it, at the most of a niceness and beyond.
func lagsToTry(nice int) []int {
	most := longStay * step(10-nice)
	return []int{-oldFloor, -1, 0, 1, step(10 - nice), most - 1, most, most + 1, 2 * most, longStay * unitStep, longStay*unitStep + 1, 50000 * unitStep}
}

// wantAt holds the task 3 behind a call against where it is to stand: at the floor of its queue and the lag.
func wantAt(t *testing.T, name string, w impl.World, c taskCall, group, cpu, lag int) {
	t.Helper()
	out := mustCall(t, w, c)
	wantNoCredit(t, c, w, out, 3)
	x := out.Tasks[3]
	if want := w.Groups[group].Shelves[cpu].Floor + lag; x.Group != group || x.Cpu != cpu || x.V != want {
		t.Errorf("%s: %+v: %+v, want at %d in %d on %d", name, c, x, want, group, cpu)
	}
}

// P13: who wakes where nobody is ready has a lag by their own queue, cut on both sides; so have they who go to another processor, but by the queue there.
func TestSleeperAtEachLag(t *testing.T) {
	for _, floors := range [][2]int{{oldFloor, newFloor}, {newFloor, oldFloor}} {
		for nice := -10; nice <= 9; nice++ {
			for _, lag := range lagsToTry(nice) {
				name := "a lag of " + strconv.Itoa(lag) + ", nice " + strconv.Itoa(nice)
				if floors[0]+lag < 0 {
					continue
				}
				w := lagWorld(impl.TaskBlocked, nice, lag, floors[0], floors[1])
				wantAt(t, name, w, taskCall{what: callWake, task: 3}, 0, 0, cutLag(lag, nice))
				putReady(w, 5, 0, 0, 0, floors[0]+7)
				wantAt(t, name+", somebody there", w, taskCall{what: callWake, task: 3}, 0, 1, cutLag(lag, nice))
				w.Tasks[3].Mask = 1
				wantAt(t, name+", somebody there, pinned", w, taskCall{what: callWake, task: 3}, 0, 0, cutLag(lag, nice))
			}
		}
	}
}

// P13: whoever is put into another queue is as far ahead there as they were, and not more than they may be; who waits as well, for when they wake.
func TestMoverAtEachLag(t *testing.T) {
	for _, floors := range [][2]int{{oldFloor, newFloor}, {newFloor, oldFloor}} {
		for nice := -10; nice <= 9; nice++ {
			for _, lag := range lagsToTry(nice) {
				for state := impl.TaskReady; state <= impl.TaskBlocked; state++ {
					if floors[0]+lag < 0 || state == impl.TaskReady && lag != cutLag(lag, nice) {
						continue
					}
					wantMoved(t, lagWorld(state, nice, lag, floors[0], floors[1]), cutLag(lag, nice))
				}
			}
		}
	}
}

// wantMoved puts the task 3 of a lagWorld wherever it may be put, with this lag.
func wantMoved(t *testing.T, w impl.World, lag int) {
	t.Helper()
	wantAt(t, "another group", w, taskCall{what: callMove, task: 3, group: 1}, 1, 0, lag)
	wantAt(t, "another processor", w, taskCall{what: callPin, task: 3, mask: 2}, 0, 1, lag)
	w.Groups[1].Cpus = 2
	wantAt(t, "another group elsewhere", w, taskCall{what: callMove, task: 3, group: 1}, 1, 1, lag)
	moved := mustCall(t, w, taskCall{what: callMove, task: 3, group: 1})
	if w.Tasks[3].State == impl.TaskReady {
		// Alone in a queue one is where its floor is: nothing is left of a lag.
		wantAt(t, "back", moved, taskCall{what: callMove, task: 3}, 0, 1, 0)
	} else {
		wantAt(t, "back", moved, taskCall{what: callMove, task: 3}, 0, 1, lag)
		wantAt(t, "and wakes", moved, taskCall{what: callWake, task: 3}, 1, 1, lag)
		// Where it stays nothing is cut: that is for when it wakes.
		was := w.Tasks[3].V - w.Groups[0].Shelves[0].Floor
		wantAt(t, "where it is", w, taskCall{what: callPin, task: 3, mask: 3}, 0, 0, was)
		wantAt(t, "in its group", w, taskCall{what: callMove, task: 3}, 0, 0, was)
		wantAt(t, "another niceness", w, taskCall{what: callNice, task: 3, nice: 1}, 0, 0, was)
	}
}

// P13: with another niceness one is ahead by at most what the new weight allows; less is kept as it is.
func TestNiceAtEachLag(t *testing.T) {
	for was := -10; was <= 9; was++ {
		for nice := -10; nice <= 9; nice++ {
			for _, lag := range append(lagsToTry(nice), lagsToTry(was)...) {
				if lag != cutLag(lag, was) {
					continue
				}
				w := lagWorld(impl.TaskReady, was, lag, oldFloor, newFloor)
				// Somebody stands at the floor, so that it does not rise.
				putReady(w, 5, 0, 0, 2, oldFloor)
				wantAt(t, "nice "+strconv.Itoa(was)+", a lag of "+strconv.Itoa(lag), w, taskCall{what: callNice, task: 3, nice: nice}, 0, 0, cutLag(lag, nice))
			}
		}
	}
}

// P13: a new task is at the floor of its queue, whoever stands there and however long nobody did.
func TestForkAtTheFloor(t *testing.T) {
	for _, floors := range [][2]int{{oldFloor, newFloor}, {newFloor, oldFloor}, {0, newFloor}, {0, 0}} {
		for _, nice := range []int{-10, 0, 9} {
			w := lagWorld(impl.TaskReady, 0, longStay*step(10), floors[0], floors[1])
			w.Tasks[5], w.Tasks[3] = w.Tasks[3], impl.Task{}
			for at := range 3 {
				putReady(w, at, 1, 1, nice, floors[1]+at)
			}
			modelSettle(w)
			w.Groups[0].Shelves[0].Floor = floors[0]
			for _, c := range []struct{ group, mask, cpu int }{{0, 1, 0}, {0, 2, 1}, {1, 1, 0}, {1, 2, 1}} {
				wantAt(t, "made", w, taskCall{what: callFork, group: c.group, nice: nice, mask: c.mask}, c.group, c.cpu, 0)
			}
		}
	}
}

// sleepsFor lets the task 1 sleep while the processor goes on for so many units.
func sleepsFor(t *testing.T, w impl.World, units int) impl.World {
	t.Helper()
	w = mustCall(t, w, taskCall{what: callBlock, task: 1})
	for range units / 100 {
		w = mustRun(t, w, 0, 100)
	}
	return mustCall(t, w, taskCall{what: callWake, task: 1})
}

// P13: however long one sleeps: behind it each gets what the weights say, and nothing for the time that was slept.
func TestSleeperMakesNothingUp(t *testing.T) {
	for _, c := range []struct{ group, nice, other int }{{0, 0, 0}, {0, -10, 9}, {0, 9, -10}, {3, 0, 0}, {3, -5, 5}} {
		for _, units := range []int{100, 1000, 20000} {
			w := groupedWorld(1, 0, 1, 2)
			putReady(w, 0, c.group, 0, c.other, 0)
			putReady(w, 1, c.group, 0, c.nice, 0)
			modelSettle(w)
			w = sleepsFor(t, mustRun(t, w, 0, 100), units)
			was := sumsOf(w)
			for i := range 300 {
				w = mustRun(t, w, 0, 1+i%100)
				is := sumsOf(w)
				apart := (is[1]-was[1])*(10-c.other) - (is[0]-was[0])*(10-c.nice)
				if max(apart, -apart) > impl.QueueApart(10-c.nice, 10-c.other) {
					t.Fatalf("%+v: behind %d units, %d runs: apart by %d", c, units, i+1, apart)
				}
			}
		}
	}
}

// P13: who sleeps again and again, whenever they are next, gets no more than who never does.
func TestSleepingOftenEarnsNothing(t *testing.T) {
	for _, nap := range []int{1, 10, 60} {
		w := emptyWorld(1)
		putReady(w, 0, 0, 0, 0, 0)
		putReady(w, 1, 0, 0, 0, 0)
		for range 600 {
			if w = mustRun(t, w, 0, 10); impl.WorldPick(w, 0) != 1 {
				continue
			}
			w = mustCall(t, w, taskCall{what: callBlock, task: 1})
			w = mustCall(t, mustRun(t, w, 0, nap), taskCall{what: callWake, task: 1})
		}
		if sums := sumsOf(w); sums[1] > sums[0]+impl.QueueApart(1, 1) {
			t.Errorf("naps of %d: %v", nap, sums[:2])
		}
	}
}

// P13: what is refused gives nobody another time.
func TestRefusedGivesNoTime(t *testing.T) {
	for call, faults := range callFaults() {
		for _, f := range faults {
			w, c := callWorld(), call
			f.ways[0](&w, &c)
			wantRefusedCall(t, "refused", w, c, f.code)
			for task := range w.Tasks {
				wantNoCredit(t, c, w, w, task)
			}
		}
	}
}
