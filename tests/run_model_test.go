package tests

import (
	"cmp"
	"slices"

	"loop.example/stint/impl"
)

// shortStay is the document's StayMin, written again.
const shortStay = 50

// runPiece is a piece of a run as the document's list tells it.
type runPiece struct {
	// what is what was done: one of the words below.
	what string
	// who is the task that was next, -1 if nobody was.
	who int
	// group is the group that was dry, if one was.
	group int
	// units are how many units went by in this piece, left how many of the run were left ahead of it.
	units, left int
}

// The pieces of a run.
const (
	pieceIdle = "idle"
	pieceDry  = "dry"
	pieceBusy = "busy"
)

// modelFrom is a time by a floor and the lag, cut, of one of a weight.
func modelFrom(floor, v, weight int) int {
	return floor + min(max(v-floor, 0), longStay*step(weight))
}

// modelTurn is the first step of settling, on one processor.
func modelTurn(w impl.World, cpu int) {
	for depth := depthLimit; depth >= 1; depth-- {
		for g := range w.Groups {
			if !w.Groups[g].Used || len(outOf(w.Groups, g)) != depth+1 {
				continue
			}
			s := &w.Groups[g].Shelves[cpu]
			on := len(standersOf(w, g, cpu)) > 0 && !modelDry(w, g, cpu)
			if on && !s.On {
				s.V = modelFrom(w.Groups[w.Groups[g].Parent].Shelves[cpu].Floor, s.V, s.W)
			}
			s.On = on
		}
	}
}

// modelSettle is the document's paragraph on settling, done to a world in place.
func modelSettle(w impl.World) {
	for cpu := range w.Cpus {
		modelTurn(w, cpu)
	}
	for g := range w.Groups {
		b := &w.Groups[g].Band
		for cpu := range b.Locals {
			if b.Locals[cpu] > 0 && len(standersOf(w, g, cpu)) == 0 {
				b.Pool, b.Locals[cpu] = b.Pool+b.Locals[cpu], 0
				clear(b.Dry)
			}
		}
	}
	for cpu := range w.Cpus {
		modelTurn(w, cpu)
		for g := range w.Groups {
			if list := standersOf(w, g, cpu); len(list) > 0 {
				least := slices.MinFunc(list, func(a, b stander) int { return cmp.Compare(a.v, b.v) })
				w.Groups[g].Shelves[cpu].Floor = max(w.Groups[g].Shelves[cpu].Floor, least.v)
			}
		}
		c := &w.Cpus[cpu]
		if c.Cur >= 0 && (w.Tasks[c.Cur].Cpu != cpu || !modelLine(w, c.Cur)) {
			c.Cur, c.Ran = -1, 0
		}
	}
}

// candidate is who stands in a queue and may be next: first by time, then tasks ahead of groups, then by place.
type candidate struct {
	v       int
	isGroup bool
	place   int
}

func isNearer(a, b candidate) bool {
	if a.v != b.v {
		return a.v < b.v
	}
	if a.isGroup != b.isGroup {
		return b.isGroup
	}
	return a.place < b.place
}

// candidatesOf are who stand in a group's queue on a processor; they are told from the back, so that their order here tells nothing.
func candidatesOf(w impl.World, group, cpu int) []candidate {
	var list []candidate
	for g := groupLimit - 1; g > 0; g-- {
		if w.Groups[g].Used && w.Groups[g].Parent == group && w.Groups[g].Shelves[cpu].On {
			list = append(list, candidate{w.Groups[g].Shelves[cpu].V, true, g})
		}
	}
	for at := taskLimit - 1; at >= 0; at-- {
		if t := w.Tasks[at]; t.State == 1 && t.Group == group && t.Cpu == cpu {
			list = append(list, candidate{t.V, false, at})
		}
	}
	return list
}

// modelNext is the document's WorldPick of an ok world.
func modelNext(w impl.World, cpu int) int {
	if !isIn(cpu, 0, len(w.Cpus)-1) || !w.Cpus[cpu].Up {
		return -1
	}
	if c := w.Cpus[cpu]; c.Cur >= 0 && c.Ran < shortStay {
		return c.Cur
	}
	return modelFirst(w, 0, cpu)
}

func modelFirst(w impl.World, group, cpu int) int {
	list := candidatesOf(w, group, cpu)
	if len(list) == 0 {
		return -1
	}
	best := list[0]
	for _, c := range list {
		if isNearer(c, best) {
			best = c
		}
	}
	if best.isGroup {
		return modelFirst(w, best.place, cpu)
	}
	return best.place
}

// modelRunCode is the document's code of a run in an ok world.
func modelRunCode(w impl.World, cpu, n int) int {
	switch {
	case !isIn(n, 1, tickLimit) || !isIn(cpu, 0, len(w.Cpus)-1):
		return 1
	case !w.Cpus[cpu].Up:
		return 6
	case !modelRoom(w):
		return 10
	}
	return 0
}

// modelWorldRun is the document's WorldRun of an ok world, and what it did, piece by piece.
func modelWorldRun(w impl.World, cpu, n int) (impl.World, int, []runPiece) {
	w = cloneWorld(w)
	if code := modelRunCode(w, cpu, n); code != 0 {
		return w, code, nil
	}
	var pieces []runPiece
	for left := n; left > 0; {
		piece := modelPiece(w, cpu, left)
		pieces = append(pieces, piece)
		left -= piece.units
		if piece.what != pieceIdle {
			modelSettle(w)
		}
	}
	modelSettle(w)
	return w, 0, pieces
}

// modelPiece does what the list says from one WorldPick to the next, but settling.
func modelPiece(w impl.World, cpu, left int) runPiece {
	c := &w.Cpus[cpu]
	t := modelNext(w, cpu)
	if t == -1 {
		c.Idle, c.Cur, c.Ran = c.Idle+left, -1, 0
		return runPiece{what: pieceIdle, who: -1, units: left, left: left}
	}
	if t != c.Cur || c.Ran >= shortStay {
		c.Cur, c.Ran = t, 0
	}
	m := left
	for _, g := range outOf(w.Groups, w.Tasks[t].Group) {
		b := &w.Groups[g].Band
		if b.Quota == 0 {
			continue
		}
		if b.Locals[cpu] == 0 && b.Pool == 0 {
			b.Dry[cpu], c.Cur, c.Ran = true, -1, 0
			return runPiece{what: pieceDry, who: t, group: g, left: left}
		}
		if b.Locals[cpu] == 0 {
			b.Locals[cpu] = min(b.Pool, sliceLimit)
			b.Pool -= b.Locals[cpu]
		}
		m = min(m, b.Locals[cpu])
	}
	modelCharge(w, cpu, t, m)
	return runPiece{what: pieceBusy, who: t, units: m, left: left}
}

func modelCharge(w impl.World, cpu, task, m int) {
	t := &w.Tasks[task]
	t.V, t.Sum, t.Used = t.V+m*step(10-t.Nice), t.Sum+m, t.Used+m
	for _, g := range outOf(w.Groups, t.Group) {
		group := &w.Groups[g]
		s := &group.Shelves[cpu]
		group.Sum, s.Sum = group.Sum+m, s.Sum+m
		if g != 0 {
			s.V += m * step(s.W)
		}
		if group.Band.Quota > 0 {
			group.Band.Locals[cpu], group.Band.Spent = group.Band.Locals[cpu]-m, group.Band.Spent+m
		}
	}
	w.Cpus[cpu].Busy, w.Cpus[cpu].Ran = w.Cpus[cpu].Busy+m, w.Cpus[cpu].Ran+m
}

// modelYield is the document's WorldYield of an ok world.
func modelYield(w impl.World, cpu int) (impl.World, int) {
	w = cloneWorld(w)
	switch {
	case !isIn(cpu, 0, len(w.Cpus)-1):
		return w, 1
	case w.Cpus[cpu].Cur == -1:
		return w, 6
	}
	w.Cpus[cpu].Cur, w.Cpus[cpu].Ran = -1, 0
	return w, 0
}

// isSettled says whether to settle a world would change nothing.
func isSettled(w impl.World) bool {
	settled := cloneWorld(w)
	modelSettle(settled)
	return sameWorld(w, settled)
}
