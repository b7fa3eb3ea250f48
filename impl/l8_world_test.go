package impl

import (
	"reflect"
	"slices"
	"strconv"
	"testing"
)

// To settle is what the calls above this layer do at their end; none of them shows it alone, so it is held against the document here.

// settleWorld is a new world with groups at the places 1, 2, .. in these parents.
func settleWorld(cpus int, parents ...int) World {
	w, _ := WorldNew(cpus)
	for i, parent := range parents {
		w.Groups[i+1] = groupNew(parent, "g"+strconv.Itoa(i+1), cpus)
	}
	return w
}

func worldClone(w World) World {
	w.Cpus, w.Tasks, w.Groups = slices.Clone(w.Cpus), slices.Clone(w.Tasks), slices.Clone(w.Groups)
	for g := range w.Groups {
		w.Groups[g].Shelves = slices.Clone(w.Groups[g].Shelves)
		w.Groups[g].Band = bandCopy(w.Groups[g].Band)
	}
	return w
}

// limit gives a group a quota of which nothing is left in the pool but what lies with the processors.
func limit(w World, group int, dry []bool, locals ...int) {
	b := Band{Quota: 1, Spent: 1, Locals: locals, Dry: dry}
	for _, local := range locals {
		b.Quota += local
	}
	w.Groups[group].Band, w.Groups[group].Period, w.Groups[group].Next = b, 10, w.Now+10
}

func wantShelf(t *testing.T, w World, group, cpu int, want Shelf) {
	t.Helper()
	if got := w.Groups[group].Shelves[cpu]; got != want {
		t.Errorf("the group %d on %d: %+v, want %+v", group, cpu, got, want)
	}
}

// Who comes to be On does so from the inside out, at the floor of what it is in and with a lag that is cut; then the floors follow.
func TestSettleFromTheInsideOut(t *testing.T) {
	w := settleWorld(2, 2, 3, 0)
	most := LagMost(4)
	w.Groups[0].Shelves[1].Floor = 100
	w.Groups[3].Shelves[1] = Shelf{Floor: 50, V: 90, W: 7}
	w.Groups[2].Shelves[1] = Shelf{Floor: 60, V: 51 + most, W: 4}
	w.Groups[1].Shelves[1] = Shelf{Floor: 70, V: 75, W: 9}
	w.Tasks[5] = Task{State: TaskReady, Group: 1, Cpu: 1, Mask: 2, V: 80}
	settle(&w)
	wantShelf(t, w, 3, 1, Shelf{Floor: 50 + most, On: true, V: 100, W: 7})
	wantShelf(t, w, 2, 1, Shelf{Floor: 75, On: true, V: 50 + most, W: 4})
	wantShelf(t, w, 1, 1, Shelf{Floor: 80, On: true, V: 75, W: 9})
	wantShelf(t, w, 0, 1, Shelf{Floor: 100, W: ShareStart})
	for group := range 4 {
		wantShelf(t, w, group, 0, Shelf{W: ShareStart})
	}
	if !WorldOk(w) {
		t.Errorf("not ok: %+v", w)
	}
}

// Who leaves is not On any more, nor is what it alone stood in; times and floors stay.
func TestSettleWhenNobodyIsLeft(t *testing.T) {
	w := settleWorld(1, 0, 1)
	w.Tasks[0] = Task{State: TaskReady, Group: 2, Mask: 1, V: 30}
	w.Tasks[1] = Task{State: TaskReady, Group: 1, Mask: 1, V: 20}
	settle(&w)
	w.Cpus[0].Cur, w.Cpus[0].Ran = 0, 1
	w.Tasks[0].State = TaskBlocked
	settle(&w)
	wantShelf(t, w, 2, 0, Shelf{Floor: 30, W: ShareStart})
	wantShelf(t, w, 1, 0, Shelf{Floor: 20, On: true, W: ShareStart})
	w.Tasks[1] = Task{}
	settle(&w)
	wantShelf(t, w, 1, 0, Shelf{Floor: 20, W: ShareStart})
	if w.Cpus[0].Cur != -1 || w.Cpus[0].Ran != 0 || !WorldOk(w) {
		t.Errorf("%+v", w)
	}
}

// A floor is the least of who stands there, if that is above it.
func TestSettleRaisesFloors(t *testing.T) {
	for _, c := range []struct{ floor, task, group, want int }{
		{5, 9, 8, 8}, {5, 8, 9, 8}, {5, 5, 9, 5}, {7, 7, 7, 7}, {0, 3, 3, 3},
	} {
		w := settleWorld(1, 0)
		w.Groups[0].Shelves[0].Floor = c.floor
		w.Groups[1].Shelves[0].V, w.Groups[1].Shelves[0].On = c.group, true
		w.Tasks[0] = Task{State: TaskReady, Mask: 1, V: c.task}
		w.Tasks[1] = Task{State: TaskReady, Group: 1, Mask: 1}
		w.Tasks[2] = Task{State: TaskBlocked, Mask: 1}
		settle(&w)
		if got := w.Groups[0].Shelves[0].Floor; got != c.want || !WorldOk(w) {
			t.Errorf("%+v: %d", c, got)
		}
	}
}

// A group that comes to be On is placed by the floor as it was ahead of its rising.
func TestSettlePlacesAheadOfTheFloors(t *testing.T) {
	w := settleWorld(1, 0)
	w.Tasks[0] = Task{State: TaskReady, Mask: 1, V: 1000}
	w.Tasks[1] = Task{State: TaskReady, Group: 1, Mask: 1}
	w.Groups[1].Shelves[0].V = 400
	settle(&w)
	wantShelf(t, w, 1, 0, Shelf{On: true, V: 400, W: ShareStart})
	wantShelf(t, w, 0, 0, Shelf{Floor: 400, W: ShareStart})
}

// Who is On already is not placed anew, wherever it is.
func TestSettlePlacesJustWhoComes(t *testing.T) {
	for _, v := range []int{0, 500, 501 + LagMost(ShareStart)} {
		w := settleWorld(1, 0)
		w.Groups[0].Shelves[0].Floor, w.Groups[1].Shelves[0].V, w.Groups[1].Shelves[0].On = 500, v, true
		w.Tasks[0] = Task{State: TaskReady, Group: 1, Mask: 1}
		settle(&w)
		wantShelf(t, w, 1, 0, Shelf{On: true, V: v, W: ShareStart})
		wantShelf(t, w, 0, 0, Shelf{Floor: max(500, v), W: ShareStart})
	}
}

// What lies where nobody can use it goes back, and who was dry elsewhere comes to be On in the same settling.
func TestSettleGivesBack(t *testing.T) {
	w := settleWorld(3, 0)
	limit(w, 1, []bool{false, true, true}, 20, 0, 0)
	w.Groups[0].Shelves[1].Floor, w.Groups[1].Shelves[1].V = 6, 4
	w.Tasks[0] = Task{State: TaskReady, Group: 1, Cpu: 1, Mask: 2}
	settle(&w)
	if b := w.Groups[1].Band; b.Pool != 20 || b.Spent != 1 || slices.Max(b.Locals) != 0 || slices.Contains(b.Dry, true) {
		t.Errorf("%+v", b)
	}
	wantShelf(t, w, 1, 1, Shelf{On: true, V: 6, W: ShareStart})
	wantShelf(t, w, 1, 2, Shelf{W: ShareStart})
	if !WorldOk(w) {
		t.Errorf("not ok: %+v", w)
	}
}

// Where somebody stands what lies there stays, though an outer group is dry.
func TestSettleKeepsWhatCanBeUsed(t *testing.T) {
	w := settleWorld(1, 0, 1)
	limit(w, 1, []bool{true}, 0)
	limit(w, 2, []bool{false}, 15)
	w.Tasks[0] = Task{State: TaskReady, Group: 2, Mask: 1}
	w.Cpus[0].Cur, w.Cpus[0].Ran = 0, 3
	settle(&w)
	if w.Groups[2].Band.Locals[0] != 15 || !w.Groups[2].Shelves[0].On || w.Groups[1].Shelves[0].On {
		t.Errorf("%+v", w.Groups)
	}
	if w.Cpus[0].Cur != -1 || w.Cpus[0].Ran != 0 || !WorldOk(w) {
		t.Errorf("held back: %+v", w.Cpus)
	}
}

// A group in which just a dry one would stand is not active: what it has goes back.
func TestSettleGivesBackAroundTheDry(t *testing.T) {
	w := settleWorld(1, 0, 1)
	limit(w, 1, []bool{false}, 12)
	limit(w, 2, []bool{true}, 0)
	w.Tasks[0] = Task{State: TaskReady, Group: 2, Mask: 1}
	w.Groups[1].Shelves[0].On, w.Groups[2].Shelves[0].On = true, true
	settle(&w)
	if b := w.Groups[1].Band; b.Pool != 12 || b.Locals[0] != 0 || w.Groups[1].Shelves[0].On || w.Groups[2].Shelves[0].On {
		t.Errorf("%+v", w.Groups)
	}
}

// All is given back by who was active ahead of it: that a group inside is dry no longer comes too late for the one around it.
func TestSettleGivesBackOnce(t *testing.T) {
	for _, inside := range []int{1, 2} {
		around := 3 - inside
		parents := []int{0, 0}
		parents[inside-1] = around
		w := settleWorld(2, parents...)
		limit(w, inside, []bool{false, true}, 9, 0)
		limit(w, around, []bool{false, false}, 0, 7)
		w.Tasks[0] = Task{State: TaskReady, Group: inside, Cpu: 1, Mask: 2}
		settle(&w)
		if b := w.Groups[around].Band; b.Pool != 7 || b.Locals[1] != 0 {
			t.Errorf("inside at %d: %+v", inside, b)
		}
		if !w.Groups[inside].Shelves[1].On || !w.Groups[around].Shelves[1].On || !WorldOk(w) {
			t.Errorf("inside at %d: %+v", inside, w.Groups)
		}
	}
}

// A stay ends where the current task is gone, elsewhere, waits or is held back, and nowhere else.
func TestSettleEndsStays(t *testing.T) {
	for name, c := range map[string]struct {
		change func(w World)
		stays  bool
	}{
		"as it was":         {func(World) {}, true},
		"another one waits": {func(w World) { w.Tasks[1].State = TaskBlocked }, true},
		"gone":              {func(w World) { w.Tasks[0] = Task{} }, false},
		"waits":             {func(w World) { w.Tasks[0].State = TaskBlocked }, false},
		"elsewhere":         {func(w World) { w.Tasks[0].Cpu = 1 }, false},
		"held back":         {func(w World) { limit(w, 1, []bool{true, false}, 0, 0) }, false},
		"dry elsewhere":     {func(w World) { limit(w, 1, []bool{false, true}, 0, 0) }, true},
		"in the root":       {func(w World) { w.Tasks[0].Group = 0 }, true},
	} {
		w := settleWorld(2, 0, 1)
		w.Tasks[0] = Task{State: TaskReady, Group: 2, Mask: 3}
		w.Tasks[1] = Task{State: TaskReady, Group: 1, Mask: 3}
		settle(&w)
		w.Cpus[0].Cur, w.Cpus[0].Ran = 0, 70
		c.change(w)
		settle(&w)
		want := Cpu{Up: true, Cur: -1}
		if c.stays {
			want = Cpu{Up: true, Cur: 0, Ran: 70}
		}
		if w.Cpus[0] != want || !WorldOk(w) {
			t.Errorf("%s: %+v", name, w.Cpus[0])
		}
	}
}

// dice is a row of numbers that looks thrown and is the same each time.
type dice struct{ state uint64 }

func (d *dice) below(n int) int {
	d.state = d.state*6364136223846793005 + 1442695040888963407
	return int((d.state >> 33) % uint64(n))
}

// wordsActive is the document's word for a group in whose queue somebody stands.
func wordsActive(w World, group, cpu int) bool {
	return len(wordsTimes(w, group, cpu)) > 0
}

func wordsTimes(w World, group, cpu int) []int {
	var list []int
	for _, t := range w.Tasks {
		if t.State == 1 && t.Group == group && t.Cpu == cpu {
			list = append(list, t.V)
		}
	}
	for _, kid := range TreeKids(w.Groups, group) {
		if s := w.Groups[kid].Shelves[cpu]; s.On {
			list = append(list, s.V)
		}
	}
	return list
}

// wordsFirst is the first step of settling, on one processor.
func wordsFirst(w World, cpu int) {
	for depth := 3; depth >= 1; depth-- {
		for g := range w.Groups {
			if TreeDepth(w.Groups, g) != depth {
				continue
			}
			s, b := &w.Groups[g].Shelves[cpu], w.Groups[g].Band
			on := wordsActive(w, g, cpu) && !(b.Quota > 0 && b.Dry[cpu])
			if floor := w.Groups[w.Groups[g].Parent].Shelves[cpu].Floor; on && !s.On {
				s.V = floor + LagCut(s.V-floor, s.W)
			}
			s.On = on
		}
	}
}

// wordsSettle is the document's paragraph written again.
func wordsSettle(w World) {
	for cpu := range w.Cpus {
		wordsFirst(w, cpu)
	}
	for g := range w.Groups {
		for cpu := range w.Groups[g].Band.Locals {
			if w.Groups[g].Band.Locals[cpu] > 0 && !wordsActive(w, g, cpu) {
				w.Groups[g].Band, _ = BandDo(w.Groups[g].Band, BandOp{Kind: BandReturns, Cpu: cpu})
			}
		}
	}
	for cpu := range w.Cpus {
		wordsFirst(w, cpu)
		for g := range w.Groups {
			if times := wordsTimes(w, g, cpu); len(times) > 0 && slices.Min(times) > w.Groups[g].Shelves[cpu].Floor {
				w.Groups[g].Shelves[cpu].Floor = slices.Min(times)
			}
		}
		if cur := w.Cpus[cpu].Cur; cur >= 0 && !(w.Tasks[cur].Cpu == cpu && wordsLine(w, w.Tasks[cur])) {
			w.Cpus[cpu].Cur, w.Cpus[cpu].Ran = -1, 0
		}
	}
}

func wordsLine(w World, t Task) bool {
	line := t.State == 1
	for g := 1; g < len(w.Groups); g++ {
		if TreeUnder(w.Groups, g, t.Group) && !w.Groups[g].Shelves[t.Cpu].On {
			line = false
		}
	}
	return line
}

// shake does something to a world that is ok, which is to be settled then.
func shake(d *dice, w *World) {
	task, cpu := &w.Tasks[d.below(TaskMax)], d.below(len(w.Cpus))
	group := d.below(GroupMax)
	for !w.Groups[group].Used {
		group = d.below(GroupMax)
	}
	g := &w.Groups[group]
	switch d.below(8) {
	case 0, 1:
		*task = Task{State: TaskReady, Group: group, Cpu: cpu, Mask: allCpus, Nice: d.below(20) - 10}
		task.V = g.Shelves[cpu].Floor + VirtualStep(d.below(stayMost+1), WeightOf(task.Nice))
	case 2:
		if task.State == TaskReady {
			task.State = TaskBlocked
		}
	case 3:
		*task = Task{}
	case 4:
		if s := &g.Shelves[cpu]; group > 0 && !s.On {
			s.V, s.W = VirtualStep(d.below(5000), 10), 1+d.below(ShareMax)
		}
	case 5:
		if group > 0 {
			g.Band, _ = BandNew(1+d.below(60), len(w.Cpus))
			g.Period, g.Next = 10, w.Now+10
		}
	case 6:
		if task.State == TaskReady && isInLine(w, *task) {
			w.Cpus[task.Cpu].Cur, w.Cpus[task.Cpu].Ran = slices.Index(w.Tasks, *task), stayMost
		}
	}
	for at := range w.Groups {
		if b := &w.Groups[at].Band; b.Quota > 0 {
			*b = takeSome(d, *b, d.below(len(w.Cpus)))
		}
	}
}

func takeSome(d *dice, b Band, cpu int) Band {
	b, _ = BandDo(b, BandOp{Kind: BandTakes, Cpu: cpu})
	b, _ = BandDo(b, BandOp{Kind: BandSpends, Cpu: cpu, N: 1 + d.below(20)})
	return b
}

// Whatever is done to a world, settled it is ok and as the words say; no floor falls, and to settle once more changes nothing.
func TestSettleThrown(t *testing.T) {
	d := &dice{state: 888}
	shapes := [][]int{{}, {0}, {0, 1, 2}, {2, 3, 0}, {0, 0, 1, 1, 2}, {7, 7, 1, 2, 0, 5, 0}, {3, 0, 2, 2, 0, 5, 6}}
	seen := map[string]int{}
	for round := range 84 {
		w := settleWorld(1+round%CpuMax, shapes[round%len(shapes)]...)
		for range 100 {
			shake(d, &w)
			was, words := worldClone(w), worldClone(w)
			settle(&w)
			wordsSettle(words)
			if !reflect.DeepEqual(w, words) {
				t.Fatalf("%+v settled: %+v, want %+v", was, w, words)
			}
			if !WorldOk(w) {
				t.Fatalf("%+v settled, not ok: %+v", was, w)
			}
			wantNoFloorFell(t, was, w)
			countSettled(was, w, seen)
			again := worldClone(w)
			settle(&again)
			if !reflect.DeepEqual(again, w) {
				t.Fatalf("settled: %+v, once more: %+v", w, again)
			}
		}
	}
	for _, sight := range []string{"comes", "goes", "given back", "dry no longer", "floor", "stay ends", "stays"} {
		if seen[sight] < 100 {
			t.Errorf("%s: %d times: the worlds try too little", sight, seen[sight])
		}
	}
}

func wantNoFloorFell(t *testing.T, was, is World) {
	t.Helper()
	for g, group := range is.Groups {
		for cpu, s := range group.Shelves {
			if s.Floor < was.Groups[g].Shelves[cpu].Floor {
				t.Fatalf("the floor of %d on %d fell: %+v settled: %+v", g, cpu, was, is)
			}
		}
	}
}

func countSettled(was, is World, seen map[string]int) {
	for g, group := range is.Groups {
		for cpu, s := range group.Shelves {
			before := was.Groups[g].Shelves[cpu]
			switch {
			case s.On && !before.On:
				seen["comes"]++
			case !s.On && before.On:
				seen["goes"]++
			}
			if s.Floor > before.Floor {
				seen["floor"]++
			}
		}
		for cpu, local := range group.Band.Locals {
			if local < was.Groups[g].Band.Locals[cpu] {
				seen["given back"]++
			}
			if was.Groups[g].Band.Dry[cpu] && !group.Band.Dry[cpu] {
				seen["dry no longer"]++
			}
		}
	}
	for cpu, c := range is.Cpus {
		switch {
		case c.Cur >= 0:
			seen["stays"]++
		case was.Cpus[cpu].Cur >= 0:
			seen["stay ends"]++
		}
	}
}
