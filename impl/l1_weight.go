// Package impl: a scheduler of several processors with groups, quotas and control files.
package impl

// Weights and virtual time.
const (
	ShareUnit = 232792560
	ShareMax  = 20
	NiceLeast = -10
	NiceMost  = 9
	TickMax   = 100
	StayMin   = 50
	TimeMax   = 100000000000000000
)

// evenWeight is the weight of the niceness 0.
const evenWeight = 10

// stayMost is the longest stay: a tick may begin one unit before StayMin is reached.
const stayMost = StayMin - 1 + TickMax

// WeightOf is the weight of a niceness.
func WeightOf(nice int) int {
	if !isNice(nice) {
		return 0
	}
	return evenWeight - nice
}

// NiceOf is the niceness of a weight.
func NiceOf(weight int) (int, bool) {
	if !isWeight(weight) {
		return 0, false
	}
	return evenWeight - weight, true
}

// VirtualStep is how far virtual time goes in so many units.
func VirtualStep(units int, weight int) int {
	if units < 0 || units > QueueMaxAsk || !isWeight(weight) {
		return 0
	}
	return units * steps()[weight]
}

// VirtualUnits is how many units a stretch of virtual time is, up.
func VirtualUnits(v int, weight int) int {
	if v < 1 || v > 3*TimeMax || !isWeight(weight) {
		return 0
	}
	step := steps()[weight]
	return (v + step - 1) / step
}

// LagMost is how far one of a weight may be ahead.
func LagMost(weight int) int {
	return VirtualStep(stayMost, weight)
}

// LagCut cuts a lag to what a weight may have.
func LagCut(lag int, weight int) int {
	// Of what is no weight LagMost is 0, so the cut is 0 as well.
	return min(max(lag, 0), LagMost(weight))
}

func isWeight(n int) bool { return n >= 1 && n <= ShareMax }

func isNice(n int) bool { return n >= NiceLeast && n <= NiceMost }

// steps is the step of each weight, at the weight's own place; 0 is no weight and has none.
func steps() [ShareMax + 1]int {
	var list [ShareMax + 1]int
	for weight := 1; weight <= ShareMax; weight++ {
		list[weight] = ShareUnit / weight
	}
	return list
}
