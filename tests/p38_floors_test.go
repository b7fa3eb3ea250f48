package tests

import (
	"strconv"
	"testing"

	"loop.example/stint/impl"
)

// wantNothingTakenBack holds an item against the promise: floors and sums of what stays never become less.
func wantNothingTakenBack(t *testing.T, s itemStep, seen map[string]int) {
	t.Helper()
	if len(s.is.Cpus) != len(s.was.Cpus) || s.is.Now < s.was.Now {
		t.Fatal(s.text())
	}
	for cpu, c := range s.is.Cpus {
		if was := s.was.Cpus[cpu]; c.Busy < was.Busy || c.Idle < was.Idle {
			t.Fatalf("of the processor %d: %s", cpu, s.text())
		}
	}
	for at, x := range s.is.Tasks {
		if was := s.was.Tasks[at]; was.State != impl.TaskNone && x.State != impl.TaskNone && x.Sum < was.Sum {
			t.Fatalf("of the task %d: %s", at, s.text())
		}
	}
	for g, group := range s.is.Groups {
		was := s.was.Groups[g]
		if !was.Used || !group.Used {
			continue
		}
		if group.Sum < was.Sum {
			t.Fatalf("of the group %d: %s", g, s.text())
		}
		for cpu, shelf := range group.Shelves {
			if shelf.Sum < was.Shelves[cpu].Sum || shelf.Floor < was.Shelves[cpu].Floor {
				t.Fatalf("of the group %d on %d: %s", g, cpu, s.text())
			}
			if s.code == impl.CodeDone && shelf.Floor > was.Shelves[cpu].Floor {
				seen["a floor rises by a "+strconv.Itoa(s.item.Kind)]++
			}
			if least, ok := leastIn(s.is, g, cpu); ok && least < was.Shelves[cpu].Floor {
				t.Fatalf("somebody stands below the floor of %d on %d: %s", g, cpu, s.text())
			} else if !ok && shelf.Floor > 0 {
				seen["a floor stays where nobody stands"]++
			}
		}
	}
}

// leastIn is the least time of who stands in a queue, if anybody does.
func leastIn(w impl.World, group, cpu int) (int, bool) {
	list := standersOf(w, group, cpu)
	if len(list) == 0 {
		return 0, false
	}
	least := list[0].v
	for _, s := range list {
		least = min(least, s.v)
	}
	return least, true
}

// P38: of plays on new worlds and of thrown worlds, settled or not, with room and without, behind each item.
func TestFloorsNeverFall(t *testing.T) {
	t.Parallel()
	d := &dice{state: 38}
	seen := map[string]int{}
	see := func(s itemStep) {
		wantNothingTakenBack(t, s, seen)
		if s.code == impl.CodeDone {
			seen["kind "+strconv.Itoa(s.item.Kind)]++
		}
	}
	for range 100 {
		playOn(d, builtWorld(d), playLimit, anyItem, see)
	}
	for range 1500 {
		playOn(d, thrownToPlay(d), 12, anyItem, see)
	}
	sights := []string{"a floor stays where nobody stands"}
	for kind := kindRun; kind <= kindOn; kind++ {
		sights = append(sights, "kind "+strconv.Itoa(kind))
		if kind != kindYield && kind != kindMake && kind != kindDrop {
			sights = append(sights, "a floor rises by a "+strconv.Itoa(kind))
		}
	}
	for _, sight := range sights {
		if seen[sight] < 20 {
			t.Errorf("%s: %d times: the worlds try too little", sight, seen[sight])
		}
	}
}

// floorsAround are items that let somebody come who was behind, or far ahead, at all levels of the group 1, with the task 2 in it.
func floorsAround() []impl.Item {
	return []impl.Item{
		{Kind: kindBlock, At: 2}, {Kind: kindRun, N: 90}, {Kind: kindWake, At: 2}, {Kind: kindMove, At: 2}, {Kind: kindRun, N: 60}, {Kind: kindMove, At: 2, N: 1}, {Kind: kindPin, At: 2, N: 2}, {Kind: kindRun, N: 99},
		{Kind: kindPin, At: 2, N: 1}, {Kind: kindNice, At: 2, N: 9}, {Kind: kindNice, At: 2, N: -10}, {Kind: kindWeigh, At: 1, N: 20}, {Kind: kindWeigh, At: 1, N: 1}, {Kind: kindLimit, At: 1, N: 5, M: 3}, {Kind: kindRun, N: 80},
		{Kind: kindTime, N: 3}, {Kind: kindRun, N: 60}, {Kind: kindLimit, At: 1}, {Kind: kindFork, At: 1, M: 1}, {Kind: kindExit, At: 3}, {Kind: kindOff, At: 0}, {Kind: kindRun, At: 1, N: 70}, {Kind: kindOn, At: 0}, {Kind: kindBalance},
	}
}

// P38: whoever comes back, from sleep, another group, another processor, a dry spell, comes in at the floor, and the floor stays for those who wait.
func TestFloorsStayForWhoComesBack(t *testing.T) {
	w := groupedWorld(2, 0)
	putReady(w, 0, 0, 0, 0, 0)
	putReady(w, 1, 0, 0, 4, 0)
	putReady(w, 2, 1, 0, 0, 0)
	modelSettle(w)
	seen := map[string]int{}
	for i := range 1200 {
		s := itemStep{was: w, item: floorsAround()[i%len(floorsAround())]}
		if s.is, s.code = impl.WorldDo(w, s.item); s.code != impl.CodeDone {
			t.Fatal(s.text())
		}
		wantNothingTakenBack(t, s, seen)
		w = s.is
	}
	if w.Groups[0].Shelves[0].Floor < 1000*unitStep/15 || w.Groups[1].Shelves[0].Floor == 0 {
		t.Errorf("the floors are at %d and %d", w.Groups[0].Shelves[0].Floor, w.Groups[1].Shelves[0].Floor)
	}
}

// P38: where the last one leaves a queue its floor stays, at each depth, and so do the sums there.
func TestFloorsOfEmptyQueues(t *testing.T) {
	for depth := range depthLimit + 1 {
		for _, x := range []impl.Item{{Kind: kindBlock}, {Kind: kindExit}, {Kind: kindPin, N: 2}, {Kind: kindOff}, {Kind: kindMove, N: 4}} {
			w := groupedWorld(2, 0, 1, 2, 0)
			putReady(w, 0, depth, 0, 3, 0)
			modelSettle(w)
			w = mustRun(t, mustRun(t, w, 0, 100), 0, 43)
			s := itemStep{was: w, item: x}
			if s.is, s.code = impl.WorldDo(w, x); s.code != impl.CodeDone {
				t.Fatal(s.text())
			}
			wantNothingTakenBack(t, s, map[string]int{})
			for _, g := range outOf(w.Groups, depth) {
				is, was := s.is.Groups[g].Shelves[0], w.Groups[g].Shelves[0]
				if is.Floor != was.Floor || was.Floor == 0 || is.Sum != 143 || s.is.Groups[g].Sum != 143 {
					t.Errorf("depth %d, %+v: the group %d: %+v, it was %+v", depth, x, g, is, was)
				}
			}
		}
	}
}

// P38 speaks of what stays: a task or a group that is made anew where another one was begins at nothing, and takes nothing of that one along.
func TestFloorsOfWhatIsMadeAnew(t *testing.T) {
	w, codes := impl.WorldPlay(1, []impl.Item{
		{Kind: kindMake, Name: "a"}, {Kind: kindFork, At: 1, M: 1}, {Kind: kindRun, N: 70}, {Kind: kindExit}, {Kind: kindDrop, At: 1}, {Kind: kindMake, Name: "a"}, {Kind: kindFork, At: 1, M: 1},
	})
	if w.Tasks[0].Sum != 0 || w.Groups[1].Sum != 0 || w.Groups[1].Shelves[0].Floor != 0 || w.Groups[0].Sum != 70 || w.Groups[0].Shelves[0].Floor != 70*step(10) || w.Groups[1].Shelves[0].V != 70*step(10) {
		t.Errorf("%v: %+v", codes, w)
	}
}

// P38: what is refused takes nothing back, in worlds at the end of time as well.
func TestFloorsOfWhatIsRefused(t *testing.T) {
	d := &dice{state: 3838}
	for range 300 {
		w := thrownWorld(d, timeLimit)
		playOn(d, w, 5, refusableItem, func(s itemStep) { wantNothingTakenBack(t, s, map[string]int{}) })
	}
}
