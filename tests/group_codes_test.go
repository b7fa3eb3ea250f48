package tests

import (
	"slices"
	"strconv"
	"testing"

	"loop.example/stint/impl"
)

// groupWorld is callWorld with a group at 7, in the root, in which nobody is; the place 4 is free.
func groupWorld() impl.World {
	w := callWorld()
	w.Groups[7] = handGroup(0, "z", 20, 15)
	limitTo(w, 7, 60)
	return w
}

func nameFault() callFault[groupCall] {
	names := []string{"", "A", "a-", "/", "a/b", " ", "a b", "weight", "max", "cpus", "procs", "stat", "abcdefghi", "é", "a\x00", "\xff", "."}
	return faultOf(impl.CodeBad, names, func(c *groupCall) *string { return &c.name })
}

// numberFault names numbers that are none for a call.
func numberFault(numbers ...int) callFault[groupCall] {
	return faultOf(impl.CodeBad, append(numbers, farInts()...), func(c *groupCall) *int { return &c.n })
}

// periodFault names periods that are none.
func periodFault(numbers ...int) callFault[groupCall] {
	return faultOf(impl.CodeBad, append(numbers, farInts()...), func(c *groupCall) *int { return &c.period })
}

func rootFault() callFault[groupCall] {
	return faultOf(impl.CodeBad, []int{0}, func(c *groupCall) *int { return &c.group })
}

// missingFault names places of groupWorld where no group is, full or not.
func missingFault(more ...int) callFault[groupCall] {
	return faultOf(impl.CodeNone, append(append(more, -1, 8, 9, 64, 1<<32, 1<<32+1), farInts()...), func(c *groupCall) *int { return &c.group })
}

// thereFault names groups that are in others of groupWorld.
func thereFault() callFault[groupCall] {
	f := callFault[groupCall]{code: impl.CodeThere}
	for _, there := range []groupCall{{group: 0, name: "a"}, {group: 1, name: "b"}, {group: 2, name: "c"}, {group: 0, name: "d"}, {group: 0, name: "e"}, {group: 0, name: "z"}} {
		f.ways = append(f.ways, func(_ *impl.World, c *groupCall) { c.group, c.name = there.group, there.name })
	}
	return f
}

func deepFault() callFault[groupCall] {
	return faultOf(impl.CodeDeep, []int{3}, func(c *groupCall) *int { return &c.group })
}

func noPlaceFault() callFault[groupCall] {
	return callFault[groupCall]{impl.CodeFull, []func(w *impl.World, c *groupCall){func(w *impl.World, _ *groupCall) { fillGroups(w) }}}
}

// busyFault names groups of groupWorld in which a task is, or a group.
func busyFault() callFault[groupCall] {
	return faultOf(impl.CodeBusy, []int{1, 2, 3, 5, 6}, func(c *groupCall) *int { return &c.group })
}

// groupFaults are calls that are done in groupWorld, each with what may be wrong, in the order in which the document looks for it.
func groupFaults() map[groupCall][]callFault[groupCall] {
	end := endFault[groupCall]()
	notWeight, notSet := numberFault(-1, 0, 21, 1<<32+1), numberFault(-1, 0, 16, 31, 1<<32+1)
	// Of a quota and its period one may not be 0 by itself.
	notQuota, notPeriod := numberFault(-1, 0, 10001, 1<<32+1), periodFault(-1, 0, 1001, 1<<32+1)
	notNone, noneNot := numberFault(-1, 1, 30, 10001), periodFault(-1, 1, 1000, 1001)
	return map[groupCall][]callFault[groupCall]{
		{what: callMake, group: 2, name: "new"}:            {nameFault(), missingFault(), thereFault(), deepFault(), noPlaceFault(), end},
		{what: callMake, group: 0, name: "b"}:              {nameFault(), missingFault(), thereFault(), deepFault(), noPlaceFault(), end},
		{what: callDrop, group: 7}:                         {rootFault(), missingFault(4), busyFault(), end},
		{what: callWeigh, group: 1, n: 3}:                  {rootFault(), notWeight, missingFault(4), end},
		{what: callWeigh, group: 7, n: 20}:                 {rootFault(), notWeight, missingFault(4), end},
		{what: callCpus, group: 2, n: 4}:                   {rootFault(), notSet, missingFault(4), end},
		{what: callCpus, group: 6, n: 15}:                  {rootFault(), notSet, missingFault(4), end},
		{what: callLimit, group: 5, n: 1, period: 1000}:    {rootFault(), notQuota, missingFault(4), end},
		{what: callLimit, group: 3, n: 10000, period: 1}:   {rootFault(), notPeriod, missingFault(4), end},
		{what: callLimit, group: 1}:                        {rootFault(), notNone, missingFault(4), end},
		{what: callLimit, group: 2}:                        {rootFault(), noneNot, missingFault(4), end},
		{what: callTime, n: 1}:                             {numberFault(-1, 0, 1001, 1<<32+1), end},
		{what: callTime, group: -1, n: 1000, period: -1}:   {numberFault(-1000, 0, 1001), end},
		{what: callLimit, group: 7, n: 60, period: 1000}:   {rootFault(), notQuota, notPeriod, missingFault(4), end},
		{what: callLimit, group: 6, n: 10000, period: 999}: {rootFault(), notPeriod, notQuota, missingFault(4), end},
	}
}

// Whatever is wrong at once, told is the code that the document looks for first.
func TestGroupCodes(t *testing.T) { wantFirstCodes(t, groupWorld, groupFaults()) }

// Each argument that is none is refused by itself.
func TestGroupCodesOfEachArgument(t *testing.T) { wantEachCode(t, groupWorld, groupFaults()) }

// Of what is no world nothing is told, and nothing is done with it, whatever else is asked.
func TestGroupsOfBrokenWorlds(t *testing.T) { wantNothingOfBroken(t, groupWorld, groupFaults()) }

// A group is not made in a place that is free, however the world is.
func TestGroupCodesOfFreeParents(t *testing.T) {
	w := groupedWorld(2, 0)
	for parent := 2; parent < groupLimit; parent++ {
		wantRefusedCall(t, "a free place", w, groupCall{what: callMake, group: parent, name: "a"}, impl.CodeNone)
		wantRefusedCall(t, "a free place", w, groupCall{what: callDrop, group: parent}, impl.CodeNone)
	}
}

// What may be met exactly is met.
func TestGroupCodesAtTheEdges(t *testing.T) {
	for _, c := range []groupCall{
		{what: callMake, group: 0, name: "0"}, {what: callMake, group: 0, name: "abcdefgh"}, {what: callMake, group: 0, name: "b"}, {what: callMake, group: 0, name: "c"},
		{what: callMake, group: 1, name: "a"}, {what: callMake, group: 2, name: "b"}, {what: callMake, group: 2, name: "a"}, {what: callMake, group: 5, name: "d"}, {what: callMake, group: 7, name: "weights"},
		{what: callDrop, group: 7}, {what: callWeigh, group: 3, n: 1}, {what: callWeigh, group: 5, n: 20}, {what: callWeigh, group: 6, n: 3},
		{what: callCpus, group: 1, n: 1}, {what: callCpus, group: 1, n: 8}, {what: callCpus, group: 6, n: 15}, {what: callCpus, group: 6, n: 8},
		{what: callLimit, group: 1, n: 1, period: 1}, {what: callLimit, group: 5, n: 10000, period: 1000}, {what: callLimit, group: 5}, {what: callLimit, group: 2},
		{what: callTime, n: 1}, {what: callTime, n: 1000},
	} {
		if _, _, code := wantAsModel(t, groupWorld(), c); code != impl.CodeDone {
			t.Errorf("%+v: %d", c, code)
		}
	}
}

// roomyGroupCalls are calls that are done in roomyWorld.
func roomyGroupCalls() []groupCall {
	return []groupCall{
		{what: callMake, group: 2, name: "new"}, {what: callWeigh, group: 3, n: 20}, {what: callCpus, group: 2, n: 8},
		{what: callLimit, group: 1, n: 5, period: 1000}, {what: callLimit, group: 5}, {what: callTime, n: 1000}, {what: callTime, n: 1},
	}
}

// A call is done as long as nothing is beyond TimeMax / 2, wherever that is.
func TestGroupsRoomAtTheEdges(t *testing.T) {
	wantRoomAtTheEdges(t, roomyGroupCalls())
	const half = timeLimit / 2
	for n, want := range map[int]int{half: impl.CodeDone, half + 1: impl.CodeEnd} {
		// What is to go counts as well.
		w := groupedWorld(2, 0)
		w.Groups[1].Shelves[1].Floor = n
		if _, _, code := wantAsModel(t, w, groupCall{what: callDrop, group: 1}); code != want {
			t.Errorf("drop at %d: %d", n, code)
		}
	}
}

// The last time that passes begins at TimeMax / 2; behind it time is over.
func TestTimeBeyondTheHalf(t *testing.T) {
	w := groupedWorld(1, 0)
	w.Now = timeLimit / 2
	limitTo(w, 1, 7)
	w.Groups[1].Period, w.Groups[1].Next = 300, w.Now+300
	out := mustCall(t, w, groupCall{what: callTime, n: 1000})
	if out.Now != timeLimit/2+1000 || out.Groups[1].Next != timeLimit/2+1200 {
		t.Errorf("%+v", out)
	}
	for _, c := range []groupCall{{what: callMake, name: "a"}, {what: callDrop, group: 1}, {what: callWeigh, group: 1, n: 1}, {what: callCpus, group: 1, n: 1}, {what: callLimit, group: 1}, {what: callTime, n: 1}} {
		wantRefusedCall(t, "over", out, c, impl.CodeEnd)
	}
}

// groupCallsToKeep are calls at arguments that are ok in some worlds and at others.
func groupCallsToKeep() []groupCall {
	list := []groupCall{{what: callTime, n: -1}, {what: callTime, n: 1}, {what: callTime, n: 1000}, {what: callTime, n: 1001}}
	for _, group := range []int{-1, 0, 1, 3, 5, 7, 8} {
		list = append(list, groupCall{what: callMake, group: group, name: "n" + strconv.Itoa(group)}, groupCall{what: callMake, group: group, name: "b"}, groupCall{what: callMake, group: group})
		list = append(list, groupCall{what: callDrop, group: group}, groupCall{what: callLimit, group: group}, groupCall{what: callLimit, group: group, n: 30, period: 100}, groupCall{what: callLimit, group: group, n: 30})
		for _, n := range []int{0, 1, 10, 15, 20} {
			list = append(list, groupCall{what: callWeigh, group: group, n: n}, groupCall{what: callCpus, group: group, n: n})
		}
	}
	return list
}

// worldsToGroup are the worlds to keep with empty groups beside those without.
func worldsToGroup(d *dice) []impl.World {
	worlds := append(worldsToKeep(d), groupWorld())
	for range 20 {
		worlds = append(worlds, thrownToGroup(d))
	}
	return worlds
}

// What is handed in is as it was, spare room and all; what is answered shares no memory with it, nor do any two of its lists.
func TestGroupsMemory(t *testing.T) {
	t.Parallel()
	wantMemoryKept(t, worldsToGroup(&dice{state: 114}), groupCallsToKeep())
}

// However often it is asked, and by how many at the same time, the same is told.
func TestGroupsAreTheSameEachTime(t *testing.T) {
	t.Parallel()
	worlds := worldsToGroup(&dice{state: 115})
	worlds = slices.Concat(worlds[:1], worlds[len(worlds)-4:])
	wantSameEachTime(t, worlds, func(w impl.World) string { return callAnswers(w, groupCallsToKeep()) })
}
