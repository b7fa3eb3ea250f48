package tests

import (
	"slices"
	"strconv"
	"testing"

	"loop.example/stint/impl"
)

// groupSights counts what a call did, by the world ahead of it and behind it.
func groupSights(c groupCall, was, is impl.World, place, code int, seen map[string]int) {
	seen[c.what+" code "+strconv.Itoa(code)]++
	if code != impl.CodeDone {
		return
	}
	for cpu := range was.Cpus {
		switch {
		case was.Cpus[cpu].Cur >= 0 && is.Cpus[cpu] == was.Cpus[cpu]:
			seen[c.what+" leaves a stay alone"]++
		case was.Cpus[cpu].Cur >= 0:
			seen[c.what+" ends a stay"]++
		}
	}
	switch c.what {
	case callMake:
		seen["make at depth "+strconv.Itoa(len(outOf(is.Groups, place))-1)]++
		if modelFreeGroup(is) == -1 {
			seen["make takes the last place"]++
		}
	case callDrop:
		if was.Groups[c.group].Band.Quota > 0 {
			seen["drop with a quota"]++
		}
	case callWeigh:
		weighSights(c, was, is, seen)
	case callCpus:
		cpusSights(c, was, is, seen)
	case callLimit:
		limitSights(c, was, is, seen)
	case callTime:
		timeSights(was, is, seen)
	}
}

func weighSights(c groupCall, was, is impl.World, seen map[string]int) {
	for cpu, s := range was.Groups[c.group].Shelves {
		lag := s.V - was.Groups[was.Groups[c.group].Parent].Shelves[cpu].Floor
		switch old, most := longStay*step(s.W), longStay*step(c.n); {
		case s.W == c.n && s.On:
			seen["the same weight, On"]++
		case s.W == c.n:
			seen["the same weight"]++
		case !s.On:
			seen["another weight, not On"]++
		case lag == 0:
			seen["another weight at the floor"]++
		case lag == old && lag > most:
			seen["another weight at the most, cut"]++
		case lag == old:
			seen["another weight at the most"]++
		case lag > most:
			seen["another weight, cut"]++
		default:
			seen["another weight ahead"]++
		}
		if cur := was.Cpus[cpu].Cur; cur >= 0 && s.W != c.n {
			switch around := outOf(was.Groups, was.Tasks[cur].Group); {
			case around[0] == c.group:
				seen["another weight of who is current in it"]++
			case slices.Contains(around, c.group):
				seen["another weight of who is current within it"]++
			case is.Cpus[cpu].Cur == cur:
				seen["another weight, somebody else goes on"]++
			}
		}
	}
}

func cpusSights(c groupCall, was, is impl.World, seen map[string]int) {
	inside, within := 0, 0
	for at, task := range was.Tasks {
		if task.State != 0 && is.Tasks[at].Cpu != task.Cpu {
			if inside++; task.Group != c.group {
				within++
			}
		}
	}
	switch {
	case within > 0:
		seen["cpus relocates within"]++
	case inside > 0:
		seen["cpus relocates"]++
	default:
		seen["cpus relocates nobody"]++
	}
	if len(inBoth(setMembers(c.n), modelUps(was))) == 0 {
		seen["cpus of none that is up"]++
	}
}

func limitSights(c groupCall, was, is impl.World, seen map[string]int) {
	b := was.Groups[c.group].Band
	name := "a quota"
	if c.n == 0 {
		name = "no quota"
	}
	switch {
	case b.Quota > 0 && slices.Contains(b.Dry, true):
		name += " for a dry one"
	case b.Quota > 0:
		name += " for another one"
	default:
		name += " for none"
	}
	seen[name]++
	for cpu, s := range is.Groups[c.group].Shelves {
		if s.On && !was.Groups[c.group].Shelves[cpu].On {
			seen[name+", goes on"]++
		}
	}
}

func timeSights(was, is impl.World, seen map[string]int) {
	due := 0
	for g, group := range was.Groups {
		switch passed := is.Groups[g].Next - group.Next; {
		case group.Band.Quota == 0:
			continue
		case passed == 0:
			seen["no period"]++
			continue
		case passed == group.Period:
			seen["one period"]++
		default:
			seen["several periods"]++
		}
		if due++; group.Next == is.Now {
			seen["a period begins now"]++
		}
		if slices.Contains(group.Band.Dry, true) {
			seen["a dry one gets a period"]++
		}
	}
	if due > 1 {
		seen["periods of several groups"]++
	}
	for at, task := range was.Tasks {
		if task.Used > beatLimit {
			seen["used beyond the most"]++
		}
		if task.Load == loadLimit && is.Tasks[at].Load == loadLimit {
			seen["the greatest load stays"]++
		}
	}
}

// groupSightsToSee are what thrown calls must have done, so that they are worth something.
func groupSightsToSee() []string {
	list := []string{
		"1 processors", "2 processors", "3 processors", "4 processors", "down", "dry", "blocked", "in line", "held back", "by its mask", "by its pins", "by the ups",
		"current at depth 0", "current at depth 1", "current at depth 2", "current at depth 3",
		"make code 3", "make code 7", "make code 9", "drop code 4", "make at depth 1", "make at depth 2", "make at depth 3", "make takes the last place", "drop with a quota",
		"the same weight, On", "the same weight", "another weight, not On", "another weight at the floor", "another weight at the most, cut", "another weight at the most",
		"another weight, cut", "another weight ahead", "another weight of who is current in it", "another weight of who is current within it", "another weight, somebody else goes on",
		"cpus relocates within", "cpus relocates", "cpus relocates nobody", "cpus of none that is up",
		"a quota for a dry one", "a quota for another one", "a quota for none", "no quota for a dry one", "no quota for another one", "no quota for none",
		"a quota for a dry one, goes on", "no quota for a dry one, goes on",
		"no period", "one period", "several periods", "a period begins now", "a dry one gets a period", "periods of several groups", "used beyond the most", "the greatest load stays",
		"weigh ends a stay", "cpus ends a stay",
	}
	for _, what := range groupKinds() {
		list = append(list, what+" code 0", what+" code 1", what+" code 10", what+" leaves a stay alone")
		if what != callTime {
			list = append(list, what+" code 2")
		}
	}
	return list
}

// Of thrown worlds, settled or not, calls do what the list says, step by step, and what is ok stays so.
func TestGroupsThrown(t *testing.T) {
	t.Parallel()
	thrower := callThrower[groupCall]{thrownToGroup, thrownGroupCall, groupSights}
	thrower.wantAsModel(t, &dice{state: 111}, 6000, groupSightsToSee())
}

// numbersToTry are numbers around all bounds of the chapter's arguments, and far beyond them.
func numbersToTry() []int {
	return append([]int{-1, 0, 1, 2, 7, 8, 10, 15, 16, 20, 21, 100, 999, 1000, 1001, 9999, 10000, 10001, 1 << 32, 1<<32 + 1}, farInts()...)
}

// Of thrown worlds, with and without room, all that may be asked is told as the words say.
func TestGroupsThrownAtAnything(t *testing.T) {
	t.Parallel()
	d := &dice{state: 112}
	groups := append([]int{-1, groupLimit, groupLimit + 1, 1 << 32}, farInts()...)
	for at := range groupLimit {
		groups = append(groups, at)
	}
	for range 20 {
		w := thrownToGroup(d)
		for _, n := range numbersToTry() {
			wantAsModel(t, w, groupCall{what: callTime, n: n})
		}
		for _, group := range groups {
			wantAsModel(t, w, groupCall{what: callDrop, group: group})
			for _, name := range []string{"a", "n1", "zz", "", "a/b", "stat", "123456789", "\x00", "é", w.Groups[d.below(groupLimit)].Name} {
				wantAsModel(t, w, groupCall{what: callMake, group: group, name: name})
			}
			for _, n := range numbersToTry() {
				wantAsModel(t, w, groupCall{what: callWeigh, group: group, n: n})
				wantAsModel(t, w, groupCall{what: callCpus, group: group, n: n})
				for _, period := range []int{d.oneOf(numbersToTry()...), n, 0, 1, periodLimit} {
					wantAsModel(t, w, groupCall{what: callLimit, group: group, n: n, period: period})
				}
			}
		}
	}
}

// spendings are what each group with a quota has got in its period.
type spendings map[int]int

// see notes a call: what was got is told anew from when a quota is set, or a period begins.
func (s spendings) see(t *testing.T, was, is impl.World) {
	t.Helper()
	for g, group := range is.Groups {
		if group.Band.Quota == 0 {
			delete(s, g)
			continue
		}
		if b := was.Groups[g].Band; group.Next != was.Groups[g].Next || group.Band.Quota != b.Quota || group.Band.Spent < b.Spent {
			s[g] = 0
		}
		if s[g] += group.Sum - was.Groups[g].Sum; s[g] > group.Band.Quota {
			t.Fatalf("the group %d has got %d of %d: %+v", g, s[g], group.Band.Quota, was)
		}
	}
}

// thrownPlay is a new world behind as many thrown steps; all that is done is held against the document, and told.
func thrownPlay(t *testing.T, d *dice, steps int, told func(was, is impl.World)) {
	t.Helper()
	w := emptyWorld(1 + d.below(cpuLimit))
	for range steps {
		was := w
		w = thrownStep(t, d, w)
		told(was, w)
	}
}

// thrownStep is a world behind some run, yield or call of tasks or groups that is held against the document.
func thrownStep(t *testing.T, d *dice, w impl.World) impl.World {
	t.Helper()
	switch cpu := d.below(len(w.Cpus)); d.below(8) {
	case 0, 1, 2:
		w = wantRunAsModel(t, w, cpu, 1+d.below(tickLimit))
	case 3:
		w, _ = impl.WorldYield(w, cpu)
	case 4:
		w, _, _ = wantAsModel(t, w, taskCall{what: callFork, group: d.below(groupLimit), nice: d.below(20) - 10, mask: 1 + d.below(everyCpu)})
	case 5:
		w, _, _ = wantAsModel(t, w, thrownCall(d, w))
	default:
		c := thrownGroupCall(d, w)
		switch {
		case c.what == callLimit && c.n > 0 && d.below(2) == 0:
			c.n, c.period = 1+d.below(150), 1+d.below(40)
		case c.what == callTime:
			c.n = 1 + d.below(30)
		}
		w, _, _ = wantAsModel(t, w, c)
	}
	return w
}

// From a new world on, with runs and calls of tasks between them, calls do what the list says; no group gets more than its quota.
func TestGroupsPlayed(t *testing.T) {
	t.Parallel()
	d := &dice{state: 113}
	dry, groups := 0, 0
	for range 60 {
		got := spendings{}
		thrownPlay(t, d, 300, func(was, is impl.World) {
			got.see(t, was, is)
			if !isSettled(is) {
				t.Fatalf("not settled: %+v", is)
			}
			for g, group := range is.Groups {
				if group.Used && g > 0 {
					groups++
				}
				if slices.Contains(group.Band.Dry, true) {
					dry++
				}
			}
		})
	}
	if dry < 1000 || groups < 20000 {
		t.Errorf("%d groups, dry %d times: the plays try too little", groups, dry)
	}
}
