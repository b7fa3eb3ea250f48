package tests

import (
	"testing"

	"loop.example/stint/impl"
)

// Of thrown worlds, settled or not, calls do what the list says, step by step, and what is ok stays so.
func TestTasksThrown(t *testing.T) {
	t.Parallel()
	thrower := callThrower[taskCall]{thrownToCall, thrownCall, callSights}
	thrower.wantAsModel(t, &dice{state: 105}, 6000, callSightsToSee())
}

// callSightsToSee are what thrown calls must have done, so that they are worth something.
func callSightsToSee() []string {
	list := []string{
		"1 processors", "2 processors", "3 processors", "4 processors", "down", "dry", "blocked", "in line", "held back", "by its mask", "by its pins", "by the ups",
		"current at depth 0", "current at depth 1", "current at depth 2", "current at depth 3",
		"fork at depth 0", "fork at depth 1", "fork at depth 2", "fork at depth 3", "fork takes the last place", "fork beyond the first processor",
		"fork code 1", "fork code 2", "fork code 3", "block code 6", "wake code 6", "nice code 1", "pin code 1", "move code 2",
		"block of who is current", "exit of who is current", "nice of who is current", "pin of who is current", "move of who is current",
		"fork ends another one's stay", "wake ends another one's stay", "pin ends another one's stay", "move ends another one's stay",
		"wake blocked to another processor", "wake blocked where it is", "wake blocked behind the floor", "wake blocked ahead", "wake blocked ahead by more",
		"nice ready at the floor", "nice ready ahead", "nice ready ahead by more", "nice blocked ahead by more", "nice blocked behind the floor",
	}
	for _, what := range callKinds() {
		list = append(list, what+" code 0", what+" code 10", what+" leaves a stay alone")
		if what != callFork {
			list = append(list, what+" code 2")
		}
	}
	for _, name := range []string{"pin ready", "pin blocked", "move ready", "move blocked"} {
		list = append(list, name+" to another processor", name+" where it is", name+" at the floor", name+" ahead")
	}
	return append(list, "pin ready ahead by the most", "move ready ahead by the most", "pin blocked ahead by more", "move blocked ahead by more", "pin blocked behind the floor")
}

// Of thrown worlds, with and without room, all that may be asked is told as the words say.
func TestTasksThrownAtAnything(t *testing.T) {
	t.Parallel()
	d := &dice{state: 106}
	tasks := append([]int{-1, taskLimit, taskLimit + 1, 1 << 32}, farInts()...)
	for at := range taskLimit {
		tasks = append(tasks, at)
	}
	for range 12 {
		w := thrownToCall(d)
		for _, task := range tasks {
			for _, what := range []string{callBlock, callWake, callExit} {
				wantAsModel(t, w, taskCall{what: what, task: task})
			}
			for _, n := range append([]int{-11, -10, -1, 0, 1, 2, 5, 7, 8, 9, 10, 15, 16, 1 << 32}, farInts()...) {
				for _, what := range []string{callNice, callPin, callMove} {
					wantAsModel(t, w, taskCall{what: what, task: task, nice: n, mask: n, group: n})
				}
				// The places of tasks serve as masks here, and as groups.
				wantAsModel(t, w, taskCall{what: callFork, nice: n, mask: task})
				wantAsModel(t, w, taskCall{what: callFork, group: n, mask: task})
				wantAsModel(t, w, taskCall{what: callFork, group: task, nice: n, mask: 15})
			}
		}
	}
}

// From a new world on, with runs and yields between them, calls and runs do what the lists say.
func TestTasksPlayed(t *testing.T) {
	d := &dice{state: 107}
	for range 60 {
		// The groups 1 to 3 are one in the other.
		w := groupedWorld(1+d.below(cpuLimit), 0, 1, 2, 0, d.below(3))
		for g := 1; g <= 5; g++ {
			w.Groups[g].Cpus = d.oneOf(everyCpu, everyCpu, 1+d.below(everyCpu))
			if d.below(3) == 0 {
				limitTo(w, g, 1+d.below(300))
			}
		}
		for range 150 {
			switch cpu := d.below(len(w.Cpus)); d.below(5) {
			case 0, 1:
				w, _, _ = wantAsModel(t, w, thrownCall(d, w))
			case 2:
				w, _, _ = wantAsModel(t, w, taskCall{what: callFork, group: d.below(6), nice: d.below(20) - 10, mask: 1 + d.below(everyCpu)})
			case 3:
				w, _ = impl.WorldYield(w, cpu)
			case 4:
				w = wantRunAsModel(t, w, cpu, 1+d.below(tickLimit))
			}
		}
	}
}
