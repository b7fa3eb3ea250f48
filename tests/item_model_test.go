package tests

import (
	"fmt"
	"slices"

	"loop.example/stint/impl"
)

// The document's numbers of chapter 13, written again: a kind of the program that is off must not be off here as well.
const (
	playLimit = 400

	kindRun     = 1
	kindYield   = 2
	kindFork    = 3
	kindBlock   = 4
	kindWake    = 5
	kindExit    = 6
	kindNice    = 7
	kindPin     = 8
	kindMove    = 9
	kindMake    = 10
	kindDrop    = 11
	kindWeigh   = 12
	kindCpus    = 13
	kindLimit   = 14
	kindTime    = 15
	kindBalance = 16
	kindOff     = 17
	kindOn      = 18
)

// anyCall is a call of the chapters 9 to 12 that gives a world.
type anyCall interface {
	do(w impl.World) (impl.World, int, int)
	model(w impl.World) (impl.World, int, int)
}

// runCall is a run, or a yield, which has no units.
type runCall struct {
	what   string
	cpu, n int
}

// The calls of the chapter on running that give a world.
const (
	callRun   = "run"
	callYield = "yield"
)

// do is the program's answer: the world and the code; neither call makes anything, so the place is always -1.
func (c runCall) do(w impl.World) (impl.World, int, int) {
	if c.what == callYield {
		out, code := impl.WorldYield(w, c.cpu)
		return out, -1, code
	}
	out, code := impl.WorldRun(w, c.cpu, c.n)
	return out, -1, code
}

// model is the document's answer in an ok world.
func (c runCall) model(w impl.World) (impl.World, int, int) {
	if c.what == callYield {
		out, code := modelYield(w, c.cpu)
		return out, -1, code
	}
	out, code, _ := modelWorldRun(w, c.cpu, c.n)
	return out, -1, code
}

// callOf is the call that the chapter names for an item's kind, nil of every other kind.
func callOf(x impl.Item) anyCall {
	switch x.Kind {
	case kindRun:
		return runCall{callRun, x.At, x.N}
	case kindYield:
		return runCall{what: callYield, cpu: x.At}
	case kindFork:
		return taskCall{what: callFork, group: x.At, nice: x.N, mask: x.M}
	case kindBlock, kindWake, kindExit:
		return taskCall{what: callKinds()[x.Kind-kindFork], task: x.At}
	case kindNice:
		return taskCall{what: callNice, task: x.At, nice: x.N}
	case kindPin:
		return taskCall{what: callPin, task: x.At, mask: x.N}
	case kindMove:
		return taskCall{what: callMove, task: x.At, group: x.N}
	case kindMake:
		return groupCall{what: callMake, group: x.At, name: x.Name}
	case kindDrop:
		return groupCall{what: callDrop, group: x.At}
	case kindWeigh, kindCpus:
		return groupCall{what: groupKinds()[x.Kind-kindMake], group: x.At, n: x.N}
	case kindLimit:
		return groupCall{what: callLimit, group: x.At, n: x.N, period: x.M}
	case kindTime:
		return groupCall{what: callTime, n: x.N}
	case kindBalance, kindOff, kindOn:
		return cpuCall{cpuKinds()[x.Kind-kindBalance], x.At}
	}
	return nil
}

// modelItem is the document's WorldDo of any world.
func modelItem(w impl.World, x impl.Item) (impl.World, int) {
	c := callOf(x)
	switch {
	case !modelWorldOk(w):
		return impl.World{}, 1
	case c == nil:
		return cloneWorld(w), 1
	}
	out, _, code := c.model(w)
	return out, code
}

// modelItems is the document's WorldGo of any world.
func modelItems(w impl.World, items []impl.Item) (impl.World, []int) {
	if !modelWorldOk(w) || len(items) > playLimit {
		return impl.World{}, nil
	}
	var codes []int
	out := cloneWorld(w)
	for _, x := range items {
		var code int
		out, code = modelItem(out, x)
		codes = append(codes, code)
	}
	return out, codes
}

// itemOf is an item of a call, with nothing in the fields that its kind does not look at.
func itemOf(c anyCall) impl.Item {
	switch c := c.(type) {
	case runCall:
		return impl.Item{Kind: 1 + slices.Index([]string{callRun, callYield}, c.what), At: c.cpu, N: c.n}
	case taskCall:
		return itemOfTask(c)
	case groupCall:
		return itemOfGroup(c)
	case cpuCall:
		return impl.Item{Kind: kindBalance + slices.Index(cpuKinds(), c.what), At: c.cpu}
	}
	panic(fmt.Sprintf("no call %v", c))
}

func itemOfTask(c taskCall) impl.Item {
	x := impl.Item{Kind: kindFork + slices.Index(callKinds(), c.what), At: c.task}
	switch c.what {
	case callFork:
		x.At, x.N, x.M = c.group, c.nice, c.mask
	case callNice:
		x.N = c.nice
	case callPin:
		x.N = c.mask
	case callMove:
		x.N = c.group
	}
	return x
}

func itemOfGroup(c groupCall) impl.Item {
	x := impl.Item{Kind: kindMake + slices.Index(groupKinds(), c.what), At: c.group}
	switch c.what {
	case callMake:
		x.Name = c.name
	case callWeigh, callCpus:
		x.N = c.n
	case callLimit:
		x.N, x.M = c.n, c.period
	case callTime:
		x.At, x.N = 0, c.n
	}
	return x
}

// itemFields are the fields that the items of a kind look at.
func itemFields(kind int) (at, n, m, name bool) {
	n = slices.Contains([]int{kindRun, kindFork, kindNice, kindPin, kindMove, kindWeigh, kindCpus, kindLimit, kindTime}, kind)
	return kind != kindTime, n, kind == kindFork || kind == kindLimit, kind == kindMake
}

// withOthers is an item with something in all fields that its kind does not look at.
func withOthers(d *dice, x impl.Item) impl.Item {
	at, n, m, name := itemFields(x.Kind)
	other := func() int {
		far := farInts()
		return d.oneOf(-1, 0, 1, 2, 3, 7, 15, 100, far[d.below(len(far))])
	}
	if !at {
		x.At = other()
	}
	if !n {
		x.N = other()
	}
	if !m {
		x.M = other()
	}
	if !name {
		x.Name = []string{"", "a", "stat", "\xff", "123456789"}[d.below(5)]
	}
	return x
}

// noKinds are numbers that are no kind of an item.
func noKinds() []int {
	return append([]int{-1, 0, kindOn + 1, kindOn + 2, 1 << 32, 1<<32 + 1}, farInts()...)
}

// thrownItem is some item, mostly one that is done; many are runs, and many quotas are small and periods short.
func thrownItem(d *dice, w impl.World) impl.Item {
	switch d.below(12) {
	case 0, 1, 2, 3:
		return itemOf(runCall{callRun, d.below(len(w.Cpus)), d.oneOf(1, 49, 50, 51, 100, 1+d.below(tickLimit))})
	case 4:
		return itemOf(runCall{what: callYield, cpu: d.below(len(w.Cpus))})
	case 5:
		return thrownForkItem(d)
	case 6, 7:
		return itemOf(thrownCall(d, w))
	case 8, 9:
		return itemOf(thrownCpuCall(d, w))
	}
	x := itemOf(thrownGroupCall(d, w))
	switch {
	case x.Kind == kindLimit && x.N > 0 && d.below(2) == 0:
		x.N, x.M = 1+d.below(150), 1+d.below(40)
	case x.Kind == kindTime && d.below(2) == 0:
		x.N = 1 + d.below(30)
	}
	return x
}

func thrownForkItem(d *dice) impl.Item {
	return impl.Item{Kind: kindFork, At: d.below(groupLimit), N: d.below(20) - 10, M: d.oneOf(everyCpu, 1+d.below(everyCpu))}
}

// freeItem is some item that gives nobody a quota.
func freeItem(d *dice, w impl.World) impl.Item {
	x := thrownItem(d, w)
	for x.Kind == kindLimit {
		x = thrownItem(d, w)
	}
	return x
}

// itemStep is an item that came to a world: the world ahead of it and behind it, and its code.
type itemStep struct {
	was, is impl.World
	item    impl.Item
	code    int
}

func (s itemStep) text() string {
	return fmt.Sprintf("%+v: code %d: %+v: %+v", s.item, s.code, s.is, s.was)
}

// playOn lets so many thrown items come to a world, shows each, and gives the world in the end.
func playOn(d *dice, w impl.World, items int, throw func(d *dice, w impl.World) impl.Item, see func(s itemStep)) impl.World {
	for range items {
		s := itemStep{was: w, item: throw(d, w)}
		s.is, s.code = impl.WorldDo(s.was, s.item)
		see(s)
		w = s.is
	}
	return w
}

// newWorld is a new world of some number of processors.
func newWorld(d *dice) impl.World {
	w, _ := impl.WorldNew(1 + d.below(cpuLimit))
	return w
}

// hasQuota says whether a group has one.
func hasQuota(w impl.World) bool {
	return slices.ContainsFunc(w.Groups, func(g impl.Group) bool { return g.Band.Quota > 0 })
}

// thrownItems are items that come to a world one behind the other, mostly such that are done.
func thrownItems(d *dice, w impl.World, n int) []impl.Item {
	var list []impl.Item
	playOn(d, w, n, thrownItem, func(s itemStep) { list = append(list, s.item) })
	return list
}

// builtWorld is a new world behind items that make groups at all depths, and tasks in them.
func builtWorld(d *dice) impl.World {
	var items []impl.Item
	for i, parent := range []int{0, 1, 2, 0, 1 + d.below(2)} {
		items = append(items, impl.Item{Kind: kindMake, At: parent, Name: string(rune('v' + i))})
	}
	for at := range 8 {
		items = append(items, impl.Item{Kind: kindFork, At: at % 6, N: d.below(20) - 10, M: d.oneOf(everyCpu, everyCpu, 1+d.below(everyCpu))})
	}
	w, _ := impl.WorldPlay(1+d.below(cpuLimit), items)
	return w
}
