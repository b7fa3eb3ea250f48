package tests

import (
	"slices"
	"testing"

	"loop.example/stint/impl"
)

// firstFree is the first place that is free, -1 if there is none.
func firstFree(w impl.World) int {
	for at, task := range w.Tasks {
		if task.State == impl.TaskNone {
			return at
		}
	}
	return -1
}

// wantForked holds a fork against the promise: done or refused, nobody's place is taken.
func wantForked(t *testing.T, w impl.World, group, nice, mask int) (impl.World, int) {
	t.Helper()
	out, place, code := impl.TaskFork(w, group, nice, mask)
	if code != impl.CodeDone {
		if place != -1 || !slices.Equal(out.Tasks, w.Tasks) {
			t.Fatalf("code %d: %d, %+v: %+v", code, place, out.Tasks, w)
		}
		return out, code
	}
	if place != firstFree(w) || len(out.Tasks) != taskLimit {
		t.Fatalf("it is at %d of %d, the first place that was free is %d: %+v", place, len(out.Tasks), firstFree(w), w)
	}
	for at, task := range w.Tasks {
		if at != place && out.Tasks[at] != task {
			t.Fatalf("the task %d was %+v and is %+v: %+v", at, task, out.Tasks[at], w)
		}
	}
	is := out.Tasks[place]
	want := impl.Task{State: impl.TaskReady, Group: group, Cpu: is.Cpu, Nice: nice, Mask: mask, V: is.V}
	if is != want || !slices.Contains(modelWhere(w, mask, group), is.Cpu) || !impl.WorldOk(out) {
		t.Fatalf("it is %+v, ok %v: %+v", is, impl.WorldOk(out), w)
	}
	return out, code
}

// P40: of thrown worlds, with and without room, settled or not, forks one behind the other till no place is left.
func TestForkTakesNobodysPlace(t *testing.T) {
	d := &dice{state: 40}
	seen := map[int]int{}
	depths := map[int]int{}
	for range 1500 {
		w := thrownToCall(d)
		for range 6 {
			c := thrownCall(d, w)
			out, code := wantForked(t, w, c.group, c.nice, c.mask)
			seen[code]++
			if code == impl.CodeDone {
				depths[len(outOf(w.Groups, c.group))-1]++
				w = out
			}
		}
	}
	for _, code := range []int{impl.CodeDone, impl.CodeBad, impl.CodeNone, impl.CodeFull, impl.CodeEnd} {
		if seen[code] < 50 {
			t.Errorf("codes %v: the forks try too little", seen)
		}
	}
	for depth := range depthLimit + 1 {
		if depths[depth] < 100 {
			t.Errorf("depths %v: the forks try too little", depths)
		}
	}
}

// P40: whichever places are free, it is the first of them; who is there may be ready or blocked.
func TestForkAtTheFirstOfAnyFreePlaces(t *testing.T) {
	for taken := range 1 << taskLimit {
		w := emptyWorld(2)
		for at := range w.Tasks {
			if taken>>at&1 == 1 {
				w.Tasks[at] = impl.Task{State: 1 + at%2, Cpu: at / 2 % 2, Mask: 3, Nice: at - 5, Sum: at, Load: at}
			}
		}
		_, code := wantForked(t, w, 0, 0, 3)
		if want := map[bool]int{true: impl.CodeFull, false: impl.CodeDone}[taken == 1<<taskLimit-1]; code != want {
			t.Errorf("taken %b: %d, want %d", taken, code, want)
		}
	}
}

// P40: places are taken one behind the other, up to the last; one that comes to be free is the next.
func TestForkTillAllPlacesAreTaken(t *testing.T) {
	for cpus := 1; cpus <= cpuLimit; cpus++ {
		w := groupedWorld(cpus, 0, 1, 2)
		for at := range taskLimit {
			out, place, code := impl.TaskFork(w, at%4, at-3, everyCpu)
			if place != at || code != impl.CodeDone {
				t.Fatalf("%d: at %d, %d", at, place, code)
			}
			wantForked(t, w, at%4, at-3, everyCpu)
			w = out
		}
		if out, place, code := impl.TaskFork(w, 0, 0, 1); place != -1 || code != impl.CodeFull || !sameWorld(out, w) {
			t.Errorf("once more: at %d, %d", place, code)
		}
		for at := range taskLimit {
			gone := mustCall(t, w, taskCall{what: callExit, task: at})
			if out, place, code := impl.TaskFork(gone, 0, 9, 1); place != at || code != impl.CodeDone || firstFree(out) != -1 {
				t.Errorf("behind the exit of %d: at %d, %d", at, place, code)
			}
			// Who waits keeps their place.
			waits := mustCall(t, w, taskCall{what: callBlock, task: at})
			if _, place, code := impl.TaskFork(waits, 0, 9, 1); place != -1 || code != impl.CodeFull {
				t.Errorf("%d waits: at %d, %d", at, place, code)
			}
		}
	}
}

// P40: a fork that is refused, or of what is no world, takes no place at all.
func TestForkThatIsRefused(t *testing.T) {
	for _, w := range []impl.World{callWorld(), handWorld(), emptyWorld(1)} {
		for _, group := range append([]int{-1, 0, 4, 8}, farInts()...) {
			for _, nice := range append([]int{-11, -10, 9, 10}, farInts()...) {
				for _, mask := range append([]int{-1, 0, 1, 15, 16}, farInts()...) {
					wantForked(t, w, group, nice, mask)
				}
			}
		}
	}
	for _, c := range brokenWorlds() {
		if out, place, code := impl.TaskFork(c.world, 0, 0, 1); place != -1 || code != impl.CodeBad || !isNoWorld(out) {
			t.Errorf("%s: at %d, %d, %+v", c.name, place, code, out)
		}
	}
}
