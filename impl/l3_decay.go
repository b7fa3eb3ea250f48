package impl

// Limits of decays.
const (
	DecayPart = 8
	DecayMost = 1000000
	BeatMax   = 20
)

// The bounds of decays, as places in the list that decayBounds makes.
const (
	boundLoad = iota
	boundUsed
	boundBeats
	boundCount
)

// DecayBeat is a load behind a beat in which so much was used.
func DecayBeat(load int, used int) int {
	if !inDecayBound(boundLoad, load) || !inDecayBound(boundUsed, used) {
		return 0
	}
	return load - load/DecayPart + used
}

// DecayBeats is a load behind so many beats, in each of which so much was used.
func DecayBeats(load int, used int, n int) int {
	if !inDecayBound(boundBeats, n) || !inDecayBound(boundLoad, load) {
		return 0
	}
	// What is used is left to the beats: where there are none it is not looked at.
	for range n {
		load = DecayBeat(load, used)
	}
	return load
}

// DecayTop is the load that a steady use never passes.
func DecayTop(used int) int {
	if !inDecayBound(boundUsed, used) {
		return 0
	}
	return DecayPart * used
}

func decayBounds() [boundCount]int {
	return [boundCount]int{
		boundLoad:  DecayPart * DecayMost,
		boundUsed:  DecayMost,
		boundBeats: BeatMax,
	}
}

func inDecayBound(bound int, n int) bool {
	return n >= 0 && n <= decayBounds()[bound]
}
