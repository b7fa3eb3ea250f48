package tests

import "math"

// farInts are numbers that are beyond every bound of the document.
func farInts() []int {
	return []int{math.MinInt, math.MinInt + 1, math.MinInt / 2, math.MaxInt / 2, math.MaxInt - 1, math.MaxInt}
}
