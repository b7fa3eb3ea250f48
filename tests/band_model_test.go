package tests

import (
	"math"
	"slices"
	"strconv"

	"loop.example/stint/impl"
)

// The document's numbers of chapter 5, written again: a limit of the program that is off must not be off here as well.
const (
	quotaLimit   = 10000
	sliceLimit   = 20
	bandOpsLimit = 2000
	cpuLimit     = 4
)

// Who has a unit of a quota, where it is no processor.
const (
	inPool  = -1
	isSpent = -2
)

// unitBand is a quota told unit by unit, each with who has it: nothing can be made or lost, it only changes hands.
type unitBand struct {
	owners []int
	dry    []bool
}

// unitsOf is a pool that is ok, unit by unit.
func unitsOf(b impl.Band) unitBand {
	u := unitBand{dry: slices.Clone(b.Dry)}
	hand := func(owner, n int) {
		for range n {
			u.owners = append(u.owners, owner)
		}
	}
	hand(inPool, b.Pool)
	hand(isSpent, b.Spent)
	for cpu, local := range b.Locals {
		hand(cpu, local)
	}
	return u
}

// has tells how many units somebody has.
func (u unitBand) has(owner int) int {
	n := 0
	for _, who := range u.owners {
		if who == owner {
			n++
		}
	}
	return n
}

// hand gives so many units, or as many as there are, from one to another.
func (u unitBand) hand(from, to, most int) {
	for i, who := range u.owners {
		if who == from && most > 0 {
			u.owners[i] = to
			most--
		}
	}
}

func (u unitBand) nobodyDry() {
	for cpu := range u.dry {
		u.dry[cpu] = false
	}
}

func (u unitBand) band() impl.Band {
	b := impl.Band{Quota: len(u.owners), Pool: u.has(inPool), Spent: u.has(isSpent), Dry: slices.Clone(u.dry)}
	for cpu := range u.dry {
		b.Locals = append(b.Locals, u.has(cpu))
	}
	return b
}

// do is the document's BandDo of a pool that is ok.
func (u unitBand) do(op impl.BandOp) int {
	if op.Kind == 4 {
		for i := range u.owners {
			u.owners[i] = inPool
		}
		u.nobodyDry()
		return 0
	}
	if op.Cpu < 0 || op.Cpu >= len(u.dry) || op.Kind < 1 || op.Kind > 4 {
		return 1
	}
	local, pool := u.has(op.Cpu), u.has(inPool)
	switch {
	case op.Kind == 1 && local == 0 && pool == 0:
		u.dry[op.Cpu] = true
		return 2
	case op.Kind == 1 && local == 0:
		u.hand(inPool, op.Cpu, sliceLimit)
	case op.Kind == 2 && (op.N <= 0 || op.N > local):
		return 3
	case op.Kind == 2:
		u.hand(op.Cpu, isSpent, op.N)
	case op.Kind == 3:
		u.hand(op.Cpu, inPool, local)
		if local+pool > 0 {
			u.nobodyDry()
		}
	}
	return 0
}

// splits are all ways to give n units to so many places.
func splits(n, places int) [][]int {
	if places == 1 {
		return [][]int{{n}}
	}
	var all [][]int
	for first := range n + 1 {
		for _, rest := range splits(n-first, places-1) {
			all = append(all, append([]int{first}, rest...))
		}
	}
	return all
}

// allBands are all pools of a quota and so many processors that are ok, each made so that it is.
func allBands(quota, cpus int) []impl.Band {
	var all []impl.Band
	for _, parts := range splits(quota, cpus+2) {
		for set := range 1 << cpus {
			b := impl.Band{Quota: quota, Pool: parts[0], Spent: parts[1], Locals: slices.Clone(parts[2:]), Dry: make([]bool, cpus)}
			fits := true
			for cpu := range cpus {
				b.Dry[cpu] = set>>cpu&1 == 1
				fits = fits && !(b.Dry[cpu] && (b.Pool != 0 || b.Locals[cpu] != 0))
			}
			if fits {
				all = append(all, b)
			}
		}
	}
	return all
}

// thrownBand is some pool that is ok.
func thrownBand(d *dice) impl.Band {
	quota := d.oneOf(1, 2, 19, 20, 21, 40, 41, 61, 100, 1+d.below(300), 1+d.below(300), quotaLimit)
	return thrownBandOf(d, quota, 1+d.below(cpuLimit))
}

// thrownBandOf is some pool of a quota and so many processors that is ok.
func thrownBandOf(d *dice, quota, cpus int) impl.Band {
	b := impl.Band{Quota: quota, Dry: make([]bool, cpus)}
	left := quota
	for range cpus {
		local := d.oneOf(0, 0, min(left, sliceLimit), min(left, d.below(sliceLimit+1)), d.below(left+1))
		b.Locals = append(b.Locals, local)
		left -= local
	}
	b.Pool = d.oneOf(0, left, d.below(left+1))
	b.Spent = left - b.Pool
	for cpu := range cpus {
		b.Dry[cpu] = b.Pool == 0 && b.Locals[cpu] == 0 && d.below(2) == 0
	}
	return b
}

// thrownBandOp is something to do, now and then at what there is not.
func thrownBandOp(d *dice, cpus int) impl.BandOp {
	op := impl.BandOp{Kind: d.oneOf(1, 1, 1, 1, 2, 2, 2, 2, 2, 3, 3), Cpu: d.below(cpus), N: 1 + d.below(sliceLimit)}
	switch d.below(60) {
	case 0, 1:
		op.Kind = 4
	case 2:
		op.N = d.oneOf(-1, 0, 1, sliceLimit, sliceLimit+1, quotaLimit)
	case 3:
		op.Cpu = d.oneOf(-1, cpus, cpuLimit)
	case 4:
		op.Kind = d.oneOf(-1, 0, 5, 6, 257)
	}
	return op
}

func thrownBandOps(d *dice, cpus, n int) []impl.BandOp {
	list := make([]impl.BandOp, n)
	for i := range list {
		list[i] = thrownBandOp(d, cpus)
	}
	return list
}

func sameBand(a, b impl.Band) bool {
	return a.Quota == b.Quota && a.Pool == b.Pool && a.Spent == b.Spent && slices.Equal(a.Locals, b.Locals) && slices.Equal(a.Dry, b.Dry)
}

func isNoBand(b impl.Band) bool { return sameBand(b, impl.Band{}) }

// bandWithRoom is a pool whose lists have marks in their spare room, and a function that tells whether pool and marks are as they were.
func bandWithRoom(b impl.Band) (impl.Band, func() bool) {
	locals := append(slices.Clone(b.Locals), -77, -78)
	dry := append(slices.Clone(b.Dry), true, false)
	wasLocals, wasDry := slices.Clone(locals), slices.Clone(dry)
	b.Locals, b.Dry = locals[:len(b.Locals)], dry[:len(b.Dry)]
	return b, func() bool { return slices.Equal(locals, wasLocals) && slices.Equal(dry, wasDry) }
}

// scribbleBand writes over all the memory of a pool, spare room included.
func scribbleBand(b impl.Band) {
	locals, dry := b.Locals[:cap(b.Locals)], b.Dry[:cap(b.Dry)]
	for i := range locals {
		locals[i] = -99
	}
	for i := range dry {
		dry[i] = !dry[i]
	}
}

// wrongBands are pools that are not ok, each for one reason alone where that can be.
func wrongBands() map[string]impl.Band {
	base := func(change func(b *impl.Band)) impl.Band {
		b := impl.Band{Quota: 60, Pool: 10, Spent: 15, Locals: []int{20, 0, 15}, Dry: make([]bool, 3)}
		change(&b)
		return b
	}
	list := map[string]impl.Band{
		"nothing":                  {},
		"no quota":                 {Locals: []int{0}, Dry: []bool{false}},
		"quota beyond":             {Quota: 10001, Pool: 10001, Locals: []int{0}, Dry: []bool{false}},
		"quota beyond, shared out": {Quota: 10001, Pool: 5000, Spent: 5001, Locals: []int{0, 0}, Dry: []bool{false, false}},
		"quota below 0":            {Quota: -1, Pool: -1, Locals: []int{0}, Dry: []bool{false}},
		"no locals":                {Quota: 5, Pool: 5},
		"no locals but dry":        {Quota: 5, Pool: 5, Dry: []bool{false}},
		"locals, nothing of dry":   {Quota: 5, Pool: 5, Locals: []int{0}},
		"too many processors":      {Quota: 5, Pool: 5, Locals: make([]int, 5), Dry: make([]bool, 5)},
		"far too many":             {Quota: 5, Pool: 5, Locals: make([]int, 1000), Dry: make([]bool, 1000)},
		"too few of dry":           base(func(b *impl.Band) { b.Dry = b.Dry[:2] }),
		"too many of dry":          base(func(b *impl.Band) { b.Dry = make([]bool, 4) }),
		"pool below 0":             base(func(b *impl.Band) { b.Pool, b.Spent = -1, 26 }),
		"spent below 0":            base(func(b *impl.Band) { b.Pool, b.Spent = 26, -1 }),
		"local below 0":            base(func(b *impl.Band) { b.Pool, b.Locals[1] = 11, -1 }),
		"last local below 0":       base(func(b *impl.Band) { b.Pool, b.Locals[2] = 26, -1 }),
		"pool above, others below": base(func(b *impl.Band) { b.Pool, b.Spent = 61, -36 }),
		"pool and spent wrap":      base(func(b *impl.Band) { b.Pool, b.Spent, b.Locals = math.MaxInt, math.MaxInt, []int{31, 0, 31} }),
		"locals wrap":              base(func(b *impl.Band) { b.Pool, b.Spent, b.Locals = 31, 31, []int{math.MaxInt, 0, math.MaxInt} }),
		"one too few in all":       base(func(b *impl.Band) { b.Pool-- }),
		"one too many in all":      base(func(b *impl.Band) { b.Pool++ }),
		"spent one too few":        base(func(b *impl.Band) { b.Spent-- }),
		"spent one too many":       base(func(b *impl.Band) { b.Spent++ }),
		"first local one too many": base(func(b *impl.Band) { b.Locals[0]++ }),
		"last local one too few":   base(func(b *impl.Band) { b.Locals[2]-- }),
		"dry while there is some":  base(func(b *impl.Band) { b.Dry[1] = true }),
		"dry, one unit in there":   base(func(b *impl.Band) { b.Pool, b.Spent, b.Dry[1] = 1, 24, true }),
		"dry with a local":         base(func(b *impl.Band) { b.Pool, b.Spent, b.Dry[0] = 0, 25, true }),
		"last dry with a local":    base(func(b *impl.Band) { b.Pool, b.Spent, b.Dry[2] = 0, 25, true }),
		"dry with one unit":        base(func(b *impl.Band) { b.Pool, b.Spent, b.Locals[0], b.Dry[0] = 0, 44, 1, true }),
		"dry with a local and all": base(func(b *impl.Band) { b.Dry[0] = true }),
		"all dry, all there":       {Quota: 5, Pool: 5, Locals: []int{0, 0}, Dry: []bool{true, true}},
	}
	for _, n := range append([]int{61, 1 << 32, 1<<32 + 10}, farInts()...) {
		list["quota "+strconv.Itoa(n)] = base(func(b *impl.Band) { b.Quota = n })
		list["pool "+strconv.Itoa(n)] = base(func(b *impl.Band) { b.Pool = n })
		list["spent "+strconv.Itoa(n)] = base(func(b *impl.Band) { b.Spent = n })
		list["local "+strconv.Itoa(n)] = base(func(b *impl.Band) { b.Locals[1] = n })
		// These come to the quota together, if a part below 0 is let through.
		list["pool and spent "+strconv.Itoa(n)] = base(func(b *impl.Band) { b.Pool, b.Spent = n, 25-n })
		list["locals "+strconv.Itoa(n)] = base(func(b *impl.Band) { b.Locals[0], b.Locals[2] = n, 35-n })
		list["all "+strconv.Itoa(n)] = impl.Band{Quota: n, Pool: n, Spent: n, Locals: []int{n, n}, Dry: []bool{true, false}}
	}
	return list
}
