package tests

import (
	"testing"

	"loop.example/stint/impl"
)

// wantSharesOf holds a group's shares against the promise: on all processors they come to no more than its weight, but for one each; where none of its tasks is ready each is its weight. It tells how many tasks are ready in it.
func wantSharesOf(t *testing.T, w impl.World, group int) int {
	t.Helper()
	ready := 0
	for _, task := range w.Tasks {
		if task.State == impl.TaskReady && impl.TreeUnder(w.Groups, group, task.Group) {
			ready++
		}
	}
	weight, together, above := w.Groups[group].Weight, 0, 0
	for cpu := range w.Cpus {
		share := impl.GroupShare(w, group, cpu)
		if share < 1 || share > weight || ready == 0 && share != weight {
			t.Fatalf("the group %d on %d: %d, its weight is %d, %d are ready: %+v", group, cpu, share, weight, ready, w)
		}
		if together += share; share > 1 {
			above += share
		}
	}
	// What is 1 may have been raised to it; all else may not.
	if ready > 0 && (together > weight+len(w.Cpus) || above > weight) {
		t.Fatalf("the group %d: %d together, %d of it above 1, its weight is %d: %+v", group, together, above, weight, w)
	}
	return ready
}

// P50: of thrown worlds, with and without room, settled or not, each group but the root.
func TestSharesComeToTheWeight(t *testing.T) {
	t.Parallel()
	d := &dice{state: 50}
	seen := map[string]int{}
	for range 6000 {
		w := thrownToBalance(d)
		for g := 1; g < groupLimit; g++ {
			if !w.Groups[g].Used {
				continue
			}
			switch ready := wantSharesOf(t, w, g); ready {
			case 0:
				seen["none is ready"]++
			case 1:
				seen["one is ready"]++
			default:
				seen["several are ready"]++
			}
		}
	}
	for _, sight := range []string{"none is ready", "one is ready", "several are ready"} {
		if seen[sight] < 1000 {
			t.Errorf("%v: the worlds try too little", seen)
		}
	}
}

// P50: of each weight, with any of these weights ready on up to four processors.
func TestSharesOfAllWeights(t *testing.T) {
	some := []int{0, 1, 2, 7, 20, 60}
	for weight := 1; weight <= weightLimit; weight++ {
		for _, a := range some {
			wantSharesOf(t, insideWorld(weight, a), 1)
			for _, b := range some {
				wantSharesOf(t, insideWorld(weight, a, b), 1)
				for _, c := range some {
					wantSharesOf(t, insideWorld(weight, a, b, c), 1)
					if weight%3 == 1 {
						wantSharesOf(t, insideWorld(weight, a, b, c, 1+a/7), 1)
					}
				}
			}
		}
	}
}

// P50: who is blocked is not ready; who is held back is; who is within it counts, who is beside it does not.
func TestSharesOfWhoIsReadyAlone(t *testing.T) {
	for name, c := range map[string]struct {
		change func(w impl.World)
		shares [2]int
	}{
		"nobody":                {func(impl.World) {}, [2]int{20, 20}},
		"one in it":             {func(w impl.World) { putReady(w, 0, 1, 0, 0, 0) }, [2]int{20, 1}},
		"one within it":         {func(w impl.World) { putReady(w, 0, 3, 1, 0, 0) }, [2]int{1, 20}},
		"one in it, one within": {func(w impl.World) { putReady(w, 0, 1, 0, 0, 0); putReady(w, 1, 3, 1, 0, 0) }, [2]int{10, 10}},
		"one is blocked": {func(w impl.World) {
			putReady(w, 0, 1, 0, 0, 0)
			putReady(w, 1, 1, 1, 0, 0)
			w.Tasks[1].State = impl.TaskBlocked
		}, [2]int{20, 1}},
		"all are blocked": {func(w impl.World) {
			putReady(w, 0, 2, 0, 0, 0)
			putReady(w, 1, 1, 1, 0, 0)
			w.Tasks[0].State, w.Tasks[1].State = impl.TaskBlocked, impl.TaskBlocked
		}, [2]int{20, 20}},
		"one is held back": {func(w impl.World) {
			putReady(w, 0, 1, 0, 0, 0)
			putReady(w, 1, 2, 1, 0, 0)
			dryOn(w, 2, 1)
		}, [2]int{10, 10}},
		"all are held back": {func(w impl.World) {
			putReady(w, 0, 1, 0, 0, 0)
			putReady(w, 1, 2, 1, -10, 0)
			dryOn(w, 1, 0)
			w.Groups[1].Band.Dry[1] = true
		}, [2]int{6, 13}},
		"one is beside it, one outside": {func(w impl.World) { putReady(w, 0, 4, 0, 0, 0); putReady(w, 1, 0, 1, 0, 0) }, [2]int{20, 20}},
		"one in it, others outside": {func(w impl.World) {
			putReady(w, 0, 4, 0, 0, 0)
			putReady(w, 1, 0, 0, -10, 0)
			putReady(w, 2, 2, 1, 9, 0)
		}, [2]int{1, 20}},
	} {
		w := groupedWorld(2, 0, 1, 2, 0)
		w.Groups[1].Weight = 20
		c.change(w)
		modelSettle(w)
		if !impl.WorldOk(w) {
			t.Fatalf("%s: %v", name, worldFaults(w))
		}
		wantSharesOf(t, w, 1)
		for cpu, want := range c.shares {
			if got := impl.GroupShare(w, 1, cpu); got != want {
				t.Errorf("%s: on %d: %d, want %d", name, cpu, got, want)
			}
		}
	}
}

// P50: behind balancing each processor the groups' weights there are their shares, as long as nobody was taken over: together no more than the weight, but for one each.
func TestSharesBehindBalancing(t *testing.T) {
	d := &dice{state: 501}
	still := 0
	for range 3000 {
		w := thrownToBalance(d)
		moved := false
		var done []int
		for cpu := range w.Cpus {
			out, code := impl.CpuBalance(w, cpu)
			if code != impl.CodeDone {
				continue
			}
			for at := range w.Tasks {
				moved = moved || out.Tasks[at].Cpu != w.Tasks[at].Cpu
			}
			w, done = out, append(done, cpu)
		}
		if moved {
			continue
		}
		for g := 1; g < groupLimit; g++ {
			if !w.Groups[g].Used {
				continue
			}
			still += len(done)
			for _, cpu := range done {
				if got, want := w.Groups[g].Shelves[cpu].W, impl.GroupShare(w, g, cpu); got != want {
					t.Fatalf("the group %d on %d: %d, want %d: %+v", g, cpu, got, want, w)
				}
			}
		}
	}
	if still < 1000 {
		t.Errorf("%d shares: the worlds try too little", still)
	}
}

// P50 speaks of groups but the root: the root has no share, nor has what is no group or no processor, nor anything of what is no world.
func TestNoShareOfWhatIsNone(t *testing.T) {
	for _, w := range []impl.World{handWorld(), emptyWorld(1), insideWorld(20, 5, 5)} {
		for _, g := range placesToTry() {
			for _, cpu := range processorsToTry(w) {
				has := g > 0 && g < groupLimit && w.Groups[g].Used && isIn(cpu, 0, len(w.Cpus)-1)
				if got := impl.GroupShare(w, g, cpu); (got > 0) != has || got < 0 {
					t.Errorf("the group %d on %d: %d", g, cpu, got)
				}
			}
		}
	}
	for _, c := range brokenWorlds() {
		for g := range groupLimit {
			for cpu := range cpuLimit {
				if got := impl.GroupShare(c.world, g, cpu); got != 0 {
					t.Errorf("%s: the group %d on %d: %d", c.name, g, cpu, got)
				}
			}
		}
	}
}
