package tests

import "loop.example/stint/impl"

// thrownTime is some time of at most so much.
func thrownTime(d *dice, most int) int {
	return d.oneOf(0, 0, min(most, d.below(1000)), most/2, max(0, most-1), most, d.farBelow(most+1))
}

// thrownAhead is a time at a floor, or ahead of it by at most so much; none is above most.
func thrownAhead(d *dice, floor, ahead, most int) int {
	return min(floor+d.oneOf(0, 0, ahead, d.farBelow(ahead+1)), most)
}

// thrownWorld is some world that is ok, in which no time is above most.
func thrownWorld(d *dice, most int) impl.World {
	cpus := 1 + d.below(cpuLimit)
	w := impl.World{Now: thrownTime(d, most), Cpus: make([]impl.Cpu, cpus), Tasks: make([]impl.Task, taskLimit)}
	for cpu := range w.Cpus {
		w.Cpus[cpu] = impl.Cpu{Up: d.below(3) > 0, Cur: -1, Busy: thrownTime(d, most), Idle: thrownTime(d, most)}
	}
	w.Cpus[d.below(cpus)].Up = true
	throwGroups(d, &w, most)
	for at := range w.Tasks {
		if d.below(4) > 0 {
			w.Tasks[at] = thrownTask(d, w, most)
		}
	}
	throwShelves(d, w, most)
	for cpu := range w.Cpus {
		throwStay(d, w, cpu, most)
	}
	return w
}

func throwGroups(d *dice, w *impl.World, most int) {
	w.Groups = thrownTree(d, 1+d.below(groupLimit))
	for place, was := range w.Groups {
		if !was.Used {
			w.Groups[place] = impl.Group{}
			continue
		}
		g := impl.Group{Used: true, Parent: was.Parent, Name: was.Name, Weight: rootWeight, Cpus: everyCpu, Sum: thrownTime(d, most)}
		for range w.Cpus {
			g.Shelves = append(g.Shelves, impl.Shelf{Floor: thrownTime(d, most), W: rootWeight, Sum: thrownTime(d, most)})
		}
		if place > 0 {
			throwInner(d, w.Now, &g, most)
		}
		w.Groups[place] = g
	}
}

// throwInner throws what the root has not.
func throwInner(d *dice, now int, g *impl.Group, most int) {
	g.Weight, g.Cpus = d.oneOf(1, weightLimit, 1+d.below(weightLimit)), d.oneOf(everyCpu, everyCpu, 1+d.below(everyCpu))
	for cpu := range g.Shelves {
		g.Shelves[cpu].V, g.Shelves[cpu].W = thrownTime(d, most), d.oneOf(1, weightLimit, rootWeight, 1+d.below(weightLimit))
	}
	if d.below(3) == 0 {
		g.Band = thrownBandOf(d, d.oneOf(1, 20, 41, 1+d.below(300), quotaLimit), len(g.Shelves))
		g.Period = d.oneOf(1, periodLimit, 1+d.below(periodLimit))
		g.Next = now + d.oneOf(1, g.Period, 1+d.below(g.Period))
	}
}

// thrownTask is some task that is ready or blocked, in a group that there is, where it may be.
func thrownTask(d *dice, w impl.World, most int) impl.Task {
	t := impl.Task{State: d.oneOf(1, 1, 2), Nice: d.oneOf(-10, 9, d.below(20)-10), Mask: d.oneOf(everyCpu, 1+d.below(everyCpu), 1<<d.below(cpuLimit))}
	for t.Group = d.below(groupLimit); !w.Groups[t.Group].Used; {
		t.Group = d.below(groupLimit)
	}
	where := modelWhere(w, t.Mask, t.Group)
	t.Cpu = where[d.below(len(where))]
	t.V, t.Sum, t.Used = thrownTime(d, most), thrownTime(d, most), thrownTime(d, most)
	t.Load = d.oneOf(0, loadLimit, d.below(loadLimit+1))
	if t.State == 1 {
		t.V = thrownAhead(d, w.Groups[t.Group].Shelves[t.Cpu].Floor, longStay*step(10-t.Nice), most)
	}
	return t
}

// throwShelves lets those groups be On who are to, those inside ahead of what they are in.
func throwShelves(d *dice, w impl.World, most int) {
	for depth := depthLimit; depth > 0; depth-- {
		for g, group := range w.Groups {
			if !group.Used || len(outOf(w.Groups, g)) != depth+1 {
				continue
			}
			for cpu := range group.Shelves {
				s := &group.Shelves[cpu]
				s.On = len(standersOf(w, g, cpu)) > 0 && !modelDry(w, g, cpu)
				if s.On {
					s.V = thrownAhead(d, w.Groups[group.Parent].Shelves[cpu].Floor, longStay*step(s.W), most)
				}
			}
		}
	}
}

// throwStay lets somebody who is in line be current, now and then.
func throwStay(d *dice, w impl.World, cpu int, most int) {
	var line []int
	for at, t := range w.Tasks {
		if t.State == 1 && t.Cpu == cpu && modelLine(w, at) {
			line = append(line, at)
		}
	}
	if len(line) == 0 || d.below(4) == 0 {
		return
	}
	c := &w.Cpus[cpu]
	c.Cur, c.Ran = line[d.below(len(line))], d.oneOf(1, 49, 50, longStay, 1+d.below(longStay))
	t := &w.Tasks[c.Cur]
	t.V = thrownAhead(d, w.Groups[t.Group].Shelves[cpu].Floor, c.Ran*step(10-t.Nice), most)
	for g := t.Group; g != 0; g = w.Groups[g].Parent {
		s := &w.Groups[g].Shelves[cpu]
		s.V = thrownAhead(d, w.Groups[w.Groups[g].Parent].Shelves[cpu].Floor, c.Ran*step(s.W), most)
	}
}
