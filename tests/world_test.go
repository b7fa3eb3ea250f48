package tests

import (
	"math"
	"reflect"
	"strconv"
	"strings"
	"testing"

	"loop.example/stint/impl"
)

func TestWorldLimits(t *testing.T) {
	limits := [...]int{impl.TaskMax, impl.TaskNone, impl.TaskReady, impl.TaskBlocked}
	if limits != [...]int{taskLimit, 0, 1, 2} {
		t.Error("limits", limits)
	}
	codes := [...]int{impl.CodeDone, impl.CodeBad, impl.CodeNone, impl.CodeFull, impl.CodeBusy, impl.CodeLast, impl.CodeState, impl.CodeThere, impl.CodeValue, impl.CodeDeep, impl.CodeEnd}
	if codes != [...]int{0, 1, 2, 3, 4, 5, 6, 7, 8, 9, 10} {
		t.Error("codes", codes)
	}
}

func TestWorldNew(t *testing.T) {
	for cpus := 1; cpus <= cpuLimit; cpus++ {
		w, ok := impl.WorldNew(cpus)
		if !ok || !sameWorld(w, emptyWorld(cpus)) || !impl.WorldOk(w) || !impl.WorldRoom(w) {
			t.Errorf("WorldNew(%d) = %+v, %v", cpus, w, ok)
		}
		again, _ := impl.WorldNew(cpus)
		scribbleWorld(w)
		if third, ok := impl.WorldNew(cpus); !ok || !sameWorld(again, emptyWorld(cpus)) || !sameWorld(third, again) {
			t.Errorf("WorldNew(%d) shares memory: %+v, %+v", cpus, again, third)
		}
	}
	for _, cpus := range append([]int{-4, -1, 0, 5, 6, 16, 64, 1 << 32, 1<<32 + 2}, farInts()...) {
		if w, ok := impl.WorldNew(cpus); ok || !isNoWorld(w) {
			t.Errorf("WorldNew(%d) = %+v, %v", cpus, w, ok)
		}
	}
}

// okEdges are worlds at the bounds that the document names, which may be met.
func okEdges() map[string]func(w *impl.World) {
	list := map[string]func(w *impl.World){
		"as it is":                      func(*impl.World) {},
		"at the floor":                  func(w *impl.World) { w.Tasks[0].V = handFloor },
		"ahead by LagMost":              func(w *impl.World) { w.Tasks[0].V = handFloor + 149*step(10) },
		"dry, ahead by LagMost":         func(w *impl.World) { w.Tasks[2].V = handFloor + 149*step(20) },
		"a group ahead by LagMost":      func(w *impl.World) { w.Groups[6].Shelves[0].V = handFloor + 149*step(3) },
		"a group at another weight":     func(w *impl.World) { w.Groups[6].Shelves[0].W = 20 },
		"no stay":                       func(w *impl.World) { w.Cpus[1].Cur, w.Cpus[1].Ran = -1, 0 },
		"Ran 1":                         func(w *impl.World) { w.Cpus[1].Ran, w.Tasks[1].V = 1, handFloor+step(5) },
		"Ran 149":                       func(w *impl.World) { w.Cpus[1].Ran, w.Tasks[1].V = 149, handFloor+149*step(5) },
		"Ran 60, all of it":             func(w *impl.World) { w.Tasks[1].V = handFloor + 60*step(5) },
		"Ran 60, all of the groups'":    stayOfAll(60),
		"Ran 1, all of the groups'":     stayOfAll(1),
		"Ran 149, all of the groups'":   stayOfAll(149),
		"Next by Period":                func(w *impl.World) { w.Groups[1].Next = 600 },
		"Next by one":                   func(w *impl.World) { w.Groups[1].Next = 501 },
		"Period 1":                      func(w *impl.World) { w.Groups[1].Period, w.Groups[1].Next = 1, 501 },
		"Period 1000":                   func(w *impl.World) { w.Groups[1].Period, w.Groups[1].Next = 1000, 1500 },
		"Now just ahead of Next":        func(w *impl.World) { w.Groups[1].Next, w.Groups[1].Period = 501, 1000 },
		"dry without anybody":           func(w *impl.World) { w.Groups[5].Band.Dry[3] = true },
		"a task that waits, anywhere":   func(w *impl.World) { w.Tasks[3].V = timeLimit },
		"one blocked below the floor":   func(w *impl.World) { w.Tasks[3].V = 0 },
		"one blocked in a dry group":    func(w *impl.World) { w.Tasks[2].State, w.Tasks[2].V = 2, 0 },
		"Busy on one that is down":      func(w *impl.World) { w.Cpus[3].Busy, w.Cpus[3].Idle = timeLimit, timeLimit },
		"greatest load":                 func(w *impl.World) { w.Tasks[0].Load = 8000000 },
		"weights unlike on the shelves": func(w *impl.World) { w.Groups[6].Weight = 20 },
		"all places of groups":          fillGroups,
		"all places of tasks":           fillTasks,
		"empty lists":                   emptyLists,
	}
	for _, n := range []int{0, timeLimit / 2, timeLimit/2 + 1, timeLimit} {
		at := " at " + strconv.Itoa(n)
		list["Now"+at] = func(w *impl.World) { w.Now, w.Groups[1].Next, w.Groups[5].Next = n, n+100, n+7 }
		list["a sum"+at] = func(w *impl.World) { w.Tasks[0].Sum, w.Tasks[0].Used, w.Groups[0].Sum, w.Groups[3].Sum = n, n, n, n }
		list["a shelf"+at] = func(w *impl.World) { w.Groups[2].Shelves[3] = impl.Shelf{Floor: n, V: n, W: 1, Sum: n} }
		list["a floor of the root's"+at] = func(w *impl.World) { w.Groups[0].Shelves[3].Floor, w.Groups[0].Shelves[3].Sum = n, n }
		list["all who stand in the root"+at] = func(w *impl.World) {
			w.Groups[0].Shelves[0].Floor, w.Groups[6].Shelves[0].V, w.Tasks[0].V = n, n, n
		}
	}
	for _, n := range []int{-10, -9, 0, 9} {
		list["Nice "+strconv.Itoa(n)] = func(w *impl.World) { w.Tasks[0].Nice = n }
	}
	return list
}

// stayOfAll lets the current task and all its groups be as far ahead as a stay can have brought them.
func stayOfAll(ran int) func(w *impl.World) {
	return func(w *impl.World) {
		w.Cpus[1].Ran, w.Tasks[1].V = ran, handFloor+ran*step(5)
		for g, weight := range map[int]int{1: 10, 2: 20, 3: 1} {
			w.Groups[g].Shelves[1].V = handFloor + ran*step(weight)
		}
	}
}

func fillGroups(w *impl.World) {
	w.Groups[4], w.Groups[7] = handGroup(2, "c2", 9, 1), handGroup(0, "z", 20, 15)
}

func fillTasks(w *impl.World) {
	for at := range w.Tasks {
		if w.Tasks[at].State == 0 {
			w.Tasks[at] = impl.Task{State: 1 + at%2, Cpu: at % 3, Mask: 15, V: handFloor}
		}
	}
}

// emptyLists puts lists without members where there are none: both are the same value.
func emptyLists(w *impl.World) {
	for g := range w.Groups {
		if w.Groups[g].Band.Quota == 0 {
			w.Groups[g].Band.Locals, w.Groups[g].Band.Dry = []int{}, []bool{}
		}
		if !w.Groups[g].Used {
			w.Groups[g].Shelves = []impl.Shelf{}
		}
	}
}

func TestWorldOkAtTheEdges(t *testing.T) {
	for name, change := range okEdges() {
		w := handWorld()
		change(&w)
		if !impl.WorldOk(w) || !modelWorldOk(w) {
			t.Errorf("%s: ok %v, %v", name, impl.WorldOk(w), worldFaults(w))
		}
	}
}

// A bound that may be met may not be passed by one.
func TestWorldOkBeyondTheEdges(t *testing.T) {
	for name, change := range map[string]func(w *impl.World){
		"below the floor":            func(w *impl.World) { w.Tasks[0].V = handFloor - 1 },
		"ahead by more than LagMost": func(w *impl.World) { w.Tasks[0].V = handFloor + 149*step(10) + 1 },
		"a group ahead by more":      func(w *impl.World) { w.Groups[6].Shelves[0].V = handFloor + 149*step(3) + 1 },
		"Ran 150":                    func(w *impl.World) { w.Cpus[1].Ran = 150 },
		"Ran 0":                      func(w *impl.World) { w.Cpus[1].Ran, w.Tasks[1].V = 0, handFloor },
		"Next by more than Period":   func(w *impl.World) { w.Groups[1].Next = 601 },
		"Next now":                   func(w *impl.World) { w.Groups[1].Next = 500 },
		"Now beyond":                 func(w *impl.World) { w.Now, w.Groups[1].Next, w.Groups[5].Next = timeLimit+1, timeLimit+2, timeLimit+2 },
		"a floor beyond":             func(w *impl.World) { w.Groups[0].Shelves[3].Floor = timeLimit + 1 },
		"all who stand beyond": func(w *impl.World) {
			w.Groups[0].Shelves[0].Floor, w.Groups[6].Shelves[0].V, w.Tasks[0].V = timeLimit+1, timeLimit+1, timeLimit+1
		},
	} {
		w := handWorld()
		change(&w)
		if impl.WorldOk(w) {
			t.Errorf("%s: ok", name)
		}
	}
}

// worldSights counts what thrown worlds had in them.
func worldSights(w impl.World, seen map[string]int) {
	seen[strconv.Itoa(len(w.Cpus))+" processors"]++
	for cpu, c := range w.Cpus {
		if !c.Up {
			seen["down"]++
		}
		if c.Cur >= 0 {
			seen["current at depth "+strconv.Itoa(len(outOf(w.Groups, w.Tasks[c.Cur].Group))-1)]++
		}
		for g := range w.Groups {
			if w.Groups[g].Used && modelDry(w, g, cpu) {
				seen["dry"]++
			}
		}
	}
	for at, task := range w.Tasks {
		switch {
		case task.State == 0:
			seen["none"]++
			continue
		case task.State == 2:
			seen["blocked"]++
		case modelLine(w, at):
			seen["in line"]++
		default:
			seen["held back"]++
		}
		pins := modelPins(w, task.Group)
		switch {
		case len(inBoth(pins, setMembers(task.Mask))) > 0:
			seen["by its mask"]++
		case len(pins) > 0:
			seen["by its pins"]++
		default:
			seen["by the ups"]++
		}
	}
}

// Of thrown worlds all is told as the words say, at places that there are and at others.
func TestWorldsThrown(t *testing.T) {
	t.Parallel()
	d := &dice{state: 8}
	seen := map[string]int{}
	for round := range 1500 {
		most := []int{timeLimit, timeLimit / 2, timeLimit/2 + 1, 10 * unitStep, 0}[round%5]
		w := thrownWorld(d, most)
		if faults := worldFaults(w); len(faults) > 0 || !impl.WorldOk(w) {
			t.Fatalf("ok %v, %v: %+v", impl.WorldOk(w), faults, w)
		}
		if got := impl.WorldRoom(w); got != modelRoom(w) {
			t.Fatalf("room %v: %+v", got, w)
		}
		if modelRoom(w) {
			seen["room"]++
		} else {
			seen["no room"]++
		}
		wantToldOf(t, w)
		worldSights(w, seen)
	}
	for _, sight := range []string{
		"1 processors", "2 processors", "3 processors", "4 processors", "down", "dry", "room", "no room",
		"none", "blocked", "in line", "held back", "by its mask", "by its pins", "by the ups",
		"current at depth 0", "current at depth 1", "current at depth 2", "current at depth 3",
	} {
		if seen[sight] < 100 {
			t.Errorf("%s: %d times: the worlds try too little", sight, seen[sight])
		}
	}
}

// wantToldOf holds what is told of an ok world's tasks and groups against the words.
func wantToldOf(t *testing.T, w impl.World) {
	t.Helper()
	for at := -2; at <= taskLimit+1; at++ {
		mask, line := 0, false
		if at >= 0 && at < taskLimit && w.Tasks[at].State != 0 {
			mask, line = setOf(modelWhere(w, w.Tasks[at].Mask, w.Tasks[at].Group)), modelLine(w, at)
		}
		if got := impl.WorldMask(w, at); got != mask {
			t.Fatalf("WorldMask of %d: %d, want %d: %+v", at, got, mask, w)
		}
		if got := impl.WorldLine(w, at); got != line {
			t.Fatalf("WorldLine of %d: %v: %+v", at, got, w)
		}
	}
	for g := -2; g <= groupLimit+1; g++ {
		for cpu := -2; cpu <= cpuLimit+1; cpu++ {
			dry := g >= 0 && g < groupLimit && w.Groups[g].Used && cpu >= 0 && cpu < len(w.Cpus) && modelDry(w, g, cpu)
			if got := impl.WorldDry(w, g, cpu); got != dry {
				t.Fatalf("WorldDry of %d on %d: %v: %+v", g, cpu, got, w)
			}
		}
	}
}

// fieldsOf are all numbers, and all yes and no, of a world, to be changed in place.
func fieldsOf(v reflect.Value) (numbers []reflect.Value, switches []reflect.Value) {
	switch v.Kind() {
	case reflect.Int:
		return []reflect.Value{v}, nil
	case reflect.Bool:
		return nil, []reflect.Value{v}
	case reflect.Struct:
		for i := range v.NumField() {
			n, s := fieldsOf(v.Field(i))
			numbers, switches = append(numbers, n...), append(switches, s...)
		}
	case reflect.Slice:
		for i := range v.Len() {
			n, s := fieldsOf(v.Index(i))
			numbers, switches = append(numbers, n...), append(switches, s...)
		}
	}
	return numbers, switches
}

// Whatever one field of a world becomes, it is ok just if the words say so.
func TestWorldOkWithOneFieldChanged(t *testing.T) {
	t.Parallel()
	d := &dice{state: 88}
	worlds := []impl.World{handWorld(), emptyWorld(1), emptyWorld(4)}
	for range 12 {
		worlds = append(worlds, thrownWorld(d, d.oneOf(timeLimit, timeLimit/2, 0)))
	}
	seen := map[bool]int{}
	for _, w := range worlds {
		numbers, switches := fieldsOf(reflect.ValueOf(&w).Elem())
		for _, field := range numbers {
			was := field.Int()
			for _, n := range []int64{was - 1, was + 1, -2, -1, 0, 1, 2, 3, 7, 9, 10, 11, 12, 15, 16, 20, 21, timeLimit / 2, timeLimit, timeLimit + 1} {
				field.SetInt(n)
				seen[wantOkAsModel(t, w)]++
			}
			for _, n := range []int64{math.MinInt64, math.MinInt64 + 1, math.MaxInt64 - 1, math.MaxInt64} {
				field.SetInt(n)
				if impl.WorldOk(w) {
					t.Fatalf("ok with a number %d: %+v", n, w)
				}
			}
			field.SetInt(was)
		}
		for _, field := range switches {
			field.SetBool(!field.Bool())
			seen[wantOkAsModel(t, w)]++
			field.SetBool(!field.Bool())
		}
		if !impl.WorldOk(w) {
			t.Fatalf("not as it was: %+v", w)
		}
	}
	if seen[true] < 1000 || seen[false] < 1000 {
		t.Errorf("%v: the changes try too little", seen)
	}
}

func wantOkAsModel(t *testing.T, w impl.World) bool {
	t.Helper()
	faults := worldFaults(w)
	if got := impl.WorldOk(w); got != (len(faults) == 0) {
		t.Fatalf("ok %v, but %v: %+v", got, faults, w)
	}
	return len(faults) == 0
}

// The greatest and the least numbers everywhere at once, and lists of any length, are no world and no reason to panic.
func TestWorldsOfAnything(t *testing.T) {
	for _, n := range append([]int{-1, 1}, farInts()...) {
		w := handWorld()
		numbers, _ := fieldsOf(reflect.ValueOf(&w).Elem())
		for _, field := range numbers {
			field.SetInt(int64(n))
		}
		wantNoAnswers(t, "all "+strconv.Itoa(n), w)
	}
	d := &dice{state: 89}
	for range 300 {
		w := thrownWorld(d, timeLimit)
		w.Cpus = append(w.Cpus, w.Cpus...)[:d.below(len(w.Cpus)*2+1)]
		w.Tasks = append(w.Tasks, w.Tasks...)[:d.oneOf(12, 12, d.below(25))]
		w.Groups = append(w.Groups, w.Groups...)[:d.oneOf(8, 8, d.below(17))]
		for g := range w.Groups {
			list := w.Groups[g].Shelves
			w.Groups[g].Shelves = append(list, list...)[:d.oneOf(len(list), len(list), d.below(2*len(list)+1))]
			b := &w.Groups[g].Band
			b.Dry = append(b.Dry, b.Dry...)[:d.oneOf(len(b.Dry), d.below(2*len(b.Dry)+1))]
			b.Locals = append(b.Locals, b.Locals...)[:d.oneOf(len(b.Locals), d.below(2*len(b.Locals)+1))]
		}
		if !wantOkAsModel(t, w) {
			wantNoAnswers(t, "cut", w)
		}
	}
}

// roomFields are the times and sums of roomyWorld that may be anything.
func roomFields() map[string]func(w *impl.World) *int {
	return map[string]func(w *impl.World) *int{
		"Now":                     func(w *impl.World) *int { return &w.Now },
		"Busy":                    func(w *impl.World) *int { return &w.Cpus[0].Busy },
		"Busy of one down":        func(w *impl.World) *int { return &w.Cpus[3].Busy },
		"Idle":                    func(w *impl.World) *int { return &w.Cpus[2].Idle },
		"Idle of one down":        func(w *impl.World) *int { return &w.Cpus[3].Idle },
		"the root's Floor":        func(w *impl.World) *int { return &w.Groups[0].Shelves[3].Floor },
		"a group's Floor":         func(w *impl.World) *int { return &w.Groups[3].Shelves[2].Floor },
		"V of a group not On":     func(w *impl.World) *int { return &w.Groups[5].Shelves[1].V },
		"the root's Sum":          func(w *impl.World) *int { return &w.Groups[0].Sum },
		"a group's Sum":           func(w *impl.World) *int { return &w.Groups[6].Sum },
		"a group's Sum somewhere": func(w *impl.World) *int { return &w.Groups[6].Shelves[0].Sum },
		"the root's somewhere":    func(w *impl.World) *int { return &w.Groups[0].Shelves[0].Sum },
		"V of one blocked":        func(w *impl.World) *int { return &w.Tasks[3].V },
		"a task's Sum":            func(w *impl.World) *int { return &w.Tasks[0].Sum },
		"a task's Used":           func(w *impl.World) *int { return &w.Tasks[7].Used },
	}
}

// Room ends behind TimeMax / 2, wherever in the world that is, and hangs on nothing else.
func TestWorldRoomAtTheEdges(t *testing.T) {
	const half = timeLimit / 2
	for name, field := range roomFields() {
		for n, room := range map[int]bool{0: true, half - 1: true, half: true, half + 1: false, timeLimit: false} {
			w := roomyWorld()
			*field(&w) = n
			if ok, got := impl.WorldOk(w), impl.WorldRoom(w); !ok || got != room {
				t.Errorf("%s at %d: ok %v, room %v", name, n, ok, got)
			}
		}
	}
}

// roomyWorld is handWorld with room in it, and without quotas, so that Now may be anything.
func roomyWorld() impl.World {
	w := handWorld()
	w.Tasks[7].V, w.Tasks[2] = 0, impl.Task{}
	for _, g := range []int{1, 5} {
		w.Groups[g].Band, w.Groups[g].Period, w.Groups[g].Next = impl.Band{}, 0, 0
	}
	return w
}

// Whoever stands at TimeMax / 2 leaves room; one more does not, though the floor is there. What is no time does not count.
func TestWorldRoomOfWhoStands(t *testing.T) {
	const half = timeLimit / 2
	at := func(task, group int) impl.World {
		w := roomyWorld()
		w.Groups[0].Shelves[0].Floor, w.Tasks[0].V, w.Groups[6].Shelves[0].V = half, task, group
		return w
	}
	for _, c := range []struct {
		world impl.World
		room  bool
	}{{at(half, half), true}, {at(half+1, half), false}, {at(half, half+1), false}} {
		if ok, room := impl.WorldOk(c.world), impl.WorldRoom(c.world); !ok || room != c.room {
			t.Errorf("ok %v, room %v: %+v", ok, room, c.world)
		}
	}
	late := handWorld()
	late.Tasks[7].V, late.Tasks[0].Load = 0, 8000000
	late.Now, late.Groups[1].Period, late.Groups[1].Next, late.Groups[5].Next = half, 1000, half+1000, half+1
	if !impl.WorldOk(late) || !impl.WorldRoom(late) {
		t.Errorf("Next beyond the half: ok %v, room %v", impl.WorldOk(late), impl.WorldRoom(late))
	}
}

func TestWorldLine(t *testing.T) {
	w := handWorld()
	for at, want := range []bool{true, true, false, false, true, true, false, false, false, false, false, false} {
		if got := impl.WorldLine(w, at); got != want {
			t.Errorf("the task %d: %v", at, got)
		}
	}
	// A dry group holds back whoever is within it, however deep.
	w.Groups[1].Band = impl.Band{Quota: 100, Spent: 100, Locals: make([]int, 4), Dry: []bool{false, true, false, false}}
	w.Groups[1].Shelves[1].On, w.Cpus[1].Cur, w.Cpus[1].Ran = false, -1, 0
	if !impl.WorldOk(w) || impl.WorldLine(w, 1) || !impl.WorldLine(w, 4) {
		t.Errorf("dry outside: ok %v, in line %v, elsewhere %v", impl.WorldOk(w), impl.WorldLine(w, 1), impl.WorldLine(w, 4))
	}
	for _, at := range append([]int{-1, 12, 13, 1 << 32, 1<<32 + 1}, farInts()...) {
		if impl.WorldLine(w, at) {
			t.Errorf("the task %d is in line", at)
		}
	}
}

func TestWorldDry(t *testing.T) {
	w := handWorld()
	w.Groups[5].Band.Dry[3] = true
	for _, g := range placesToTry() {
		for _, cpu := range cpusToTry() {
			want := g == 5 && (cpu == 0 || cpu == 3)
			if got := impl.WorldDry(w, g, cpu); got != want {
				t.Errorf("the group %d on %d: %v", g, cpu, got)
			}
		}
	}
}

// worldAnswers is all that the functions of the chapter tell of a world.
func worldAnswers(w impl.World) string {
	var told strings.Builder
	tell := func(b bool) { told.WriteString(strconv.FormatBool(b) + " ") }
	tell(impl.WorldOk(w))
	tell(impl.WorldRoom(w))
	for at := -1; at <= taskLimit; at++ {
		told.WriteString(strconv.Itoa(impl.WorldMask(w, at)) + " ")
		tell(impl.WorldLine(w, at))
	}
	for g := -1; g <= groupLimit; g++ {
		for cpu := -1; cpu <= cpuLimit; cpu++ {
			tell(impl.WorldDry(w, g, cpu))
		}
	}
	return told.String()
}

// Nothing is written into what is handed in, nor behind its end.
func TestWorldMemory(t *testing.T) {
	t.Parallel()
	d := &dice{state: 81}
	worlds := []impl.World{handWorld()}
	for range 200 {
		worlds = append(worlds, thrownWorld(d, timeLimit))
	}
	for _, c := range brokenWorlds() {
		worlds = append(worlds, c.world)
	}
	for _, world := range worlds {
		w, asItWas := worldWithRoom(world)
		want := worldAnswers(w)
		if !asItWas() {
			t.Fatalf("written into %+v", world)
		}
		if got := worldAnswers(world); got != want {
			t.Fatalf("spare room is looked at: %s, %s", want, got)
		}
	}
}

// However often it is asked, and by how many at the same time, the same is told.
func TestWorldIsTheSameEachTime(t *testing.T) {
	d := &dice{state: 82}
	worlds := []impl.World{handWorld(), brokenWorlds()[0].world}
	for range 6 {
		worlds = append(worlds, thrownWorld(d, timeLimit))
	}
	wantSameEachTime(t, worlds, worldAnswers)
}

// No two lists of a new world share memory: what is put into one is not seen in another.
func TestWorldNewListsAreApart(t *testing.T) {
	for cpus := 1; cpus <= cpuLimit; cpus++ {
		w, _ := impl.WorldNew(cpus)
		for g := 1; g < groupLimit; g++ {
			if !sameGroup(w.Groups[g], impl.Group{}) || cap(w.Groups[g].Shelves) > 0 {
				t.Errorf("the place %d: %+v", g, w.Groups[g])
			}
		}
		_ = append(w.Cpus, impl.Cpu{Cur: 7})
		_ = append(w.Tasks, impl.Task{State: 7})
		_ = append(w.Groups, impl.Group{Parent: 7})
		_ = append(w.Groups[0].Shelves, impl.Shelf{V: 7})
		if !sameWorld(w, emptyWorld(cpus)) {
			t.Errorf("%d processors: %+v", cpus, w)
		}
	}
}
