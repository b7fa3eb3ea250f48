package tests

import (
	"math"
	"sync"
	"testing"
)

// farInts are numbers that are beyond every bound of the document.
func farInts() []int {
	return []int{math.MinInt, math.MinInt + 1, math.MinInt / 2, math.MaxInt / 2, math.MaxInt - 1, math.MaxInt}
}

// wantSameEachTime asks for all that is told of each of several things, often and by several at the same time.
func wantSameEachTime[T any](t *testing.T, list []T, answers func(T) string) {
	t.Helper()
	for _, thing := range list {
		want := answers(thing)
		var all sync.WaitGroup
		for range 4 {
			all.Go(func() {
				for range 10 {
					if got := answers(thing); got != want {
						t.Errorf("%s, then %s", want, got)
						return
					}
				}
			})
		}
		all.Wait()
	}
}
