package tests

import (
	"strconv"
	"testing"

	"loop.example/stint/impl"
)

// wantTimeKept holds a world against the promise: the root's tasks have got what all processors were busy, each group what it got on all processors, and at least what the groups in it got; on each processor as well.
func wantTimeKept(t *testing.T, name string, w impl.World) {
	t.Helper()
	busy := 0
	for cpu, c := range w.Cpus {
		busy += c.Busy
		if got := w.Groups[0].Shelves[cpu].Sum; got != c.Busy {
			t.Fatalf("%s: %d was busy for %d, the root's tasks got %d there: %+v", name, cpu, c.Busy, got, w)
		}
	}
	if w.Groups[0].Sum != busy {
		t.Fatalf("%s: all were busy for %d, the root's tasks got %d: %+v", name, busy, w.Groups[0].Sum, w)
	}
	for g, group := range w.Groups {
		if !group.Used {
			continue
		}
		everywhere, inside := 0, 0
		for _, s := range group.Shelves {
			everywhere += s.Sum
		}
		for _, inner := range w.Groups {
			if inner.Used && inner.Parent == g {
				inside += inner.Sum
			}
		}
		if group.Sum != everywhere || group.Sum < inside {
			t.Fatalf("%s: the group %d got %d, on all processors %d, those in it %d: %+v", name, g, group.Sum, everywhere, inside, w)
		}
	}
}

// P8: of plays on new worlds, behind each item.
func TestTimeIsNeitherMadeNorLost(t *testing.T) {
	t.Parallel()
	d := &dice{state: 8}
	seen := map[string]int{}
	for round := range 160 {
		w := newWorld(d)
		if round%2 == 0 {
			w = builtWorld(d)
		}
		w = playOn(d, w, playLimit, anyItem, func(s itemStep) {
			wantTimeKept(t, "behind a "+strconv.Itoa(s.item.Kind), s.is)
			if s.code == impl.CodeDone {
				seen["kind "+strconv.Itoa(s.item.Kind)]++
			}
			if s.code == impl.CodeDone && s.item.Kind == kindDrop && s.was.Groups[s.item.At].Sum > 0 {
				seen["a group that has got something goes"]++
			}
			if s.code == impl.CodeDone && s.item.Kind == kindExit && s.was.Tasks[s.item.At].Sum > 0 {
				seen["a task that has got something goes"]++
			}
		})
		for g, group := range w.Groups {
			if group.Sum > 0 {
				seen["the group "+strconv.Itoa(g)]++
			}
		}
		seen[strconv.Itoa(len(w.Cpus))+" processors"]++
	}
	sights := []string{"a group that has got something goes", "a task that has got something goes", "1 processors", "2 processors", "3 processors", "4 processors"}
	for kind := kindRun; kind <= kindOn; kind++ {
		sights = append(sights, "kind "+strconv.Itoa(kind))
	}
	for g := range 6 {
		sights = append(sights, "the group "+strconv.Itoa(g))
	}
	for _, sight := range sights {
		if seen[sight] < 15 {
			t.Errorf("%s: %d times: the plays try too little", sight, seen[sight])
		}
	}
}

// P8: of a play by hand, to the unit: what moves takes its own sum along and leaves the groups theirs; what goes takes it away for good.
func TestTimeOfEach(t *testing.T) {
	w, codes := impl.WorldPlay(2, []impl.Item{
		{Kind: kindMake, Name: "a"}, {Kind: kindMake, At: 1, Name: "b"}, {Kind: kindMake, At: 0, Name: "c"},
		{Kind: kindFork, At: 2, M: 1}, {Kind: kindRun, N: 30}, {Kind: kindMove, N: 1}, {Kind: kindRun, N: 20}, {Kind: kindPin, N: 2}, {Kind: kindRun, At: 1, N: 7},
		{Kind: kindMove, N: 3}, {Kind: kindRun, At: 1, N: 4}, {Kind: kindRun, N: 9},
	})
	wantTimeKept(t, "moved to and fro", w)
	for g, want := range [][]int{{61, 50, 11}, {57, 50, 7}, {30, 30, 0}, {4, 0, 4}} {
		group := w.Groups[g]
		if got := []int{group.Sum, group.Shelves[0].Sum, group.Shelves[1].Sum}; got[0] != want[0] || got[1] != want[1] || got[2] != want[2] {
			t.Errorf("the group %d: %v, want %v, codes %v", g, got, want, codes)
		}
	}
	if w.Tasks[0].Sum != 61 || w.Cpus[0].Busy != 50 || w.Cpus[0].Idle != 9 || w.Cpus[1].Busy != 11 {
		t.Errorf("%+v, %+v", w.Tasks[0], w.Cpus)
	}
	w, codes = impl.WorldGo(w, []impl.Item{{Kind: kindDrop, At: 2}, {Kind: kindExit}, {Kind: kindDrop, At: 3}, {Kind: kindMake, Name: "c"}, {Kind: kindOff, At: 1}, {Kind: kindTime, N: 5}})
	wantTimeKept(t, "gone", w)
	if w.Groups[0].Sum != 61 || w.Groups[1].Sum != 57 || w.Groups[2].Sum != 0 || w.Groups[3].Used || w.Cpus[1].Busy != 11 {
		t.Errorf("%v: %+v", codes, w)
	}
}

// P8: whoever is held back in the midst of a run, by its own quota or an outer one, the units before and behind it are somebody's.
func TestTimeIsKeptByQuotas(t *testing.T) {
	for _, quotas := range [][2]int{{1, 50}, {50, 1}, {30, 30}, {20, 45}, {41, 0}, {0, 33}} {
		for _, n := range []int{1, 19, 20, 21, 60, 100} {
			var items []impl.Item
			items = append(items, impl.Item{Kind: kindMake, Name: "a"}, impl.Item{Kind: kindMake, At: 1, Name: "b"}, impl.Item{Kind: kindFork, At: 2, M: 15}, impl.Item{Kind: kindFork, At: 1, N: 4, M: 15}, impl.Item{Kind: kindFork, N: 9, M: 1}, impl.Item{Kind: kindFork, At: 2, M: 15})
			for i, quota := range quotas {
				if quota > 0 {
					items = append(items, impl.Item{Kind: kindLimit, At: i + 1, N: quota, M: 5})
				}
			}
			for i := range 60 {
				items = append(items, impl.Item{Kind: kindRun, At: i % 2, N: n})
				if i%7 == 0 {
					items = append(items, impl.Item{Kind: kindTime, N: 2})
				}
			}
			w, codes := impl.WorldPlay(2, items)
			wantTimeKept(t, "quotas", w)
			got := 0
			for _, x := range w.Tasks {
				got += x.Sum
			}
			if len(codes) != len(items) || got != w.Groups[0].Sum || w.Cpus[0].Busy+w.Cpus[0].Idle != 30*n || w.Cpus[1].Busy+w.Cpus[1].Idle != 30*n {
				t.Errorf("%v, runs of %d: %d of %d: %+v", quotas, n, got, w.Groups[0].Sum, w.Cpus)
			}
		}
	}
}

// P8: what is refused makes no time, and loses none; a play of nothing has none.
func TestNoTimeOfWhatIsRefused(t *testing.T) {
	for cpus := 1; cpus <= cpuLimit; cpus++ {
		items := []impl.Item{{Kind: kindFork, M: 15}, {Kind: kindRun, N: 101}, {Kind: kindRun, At: cpus, N: 5}, {Kind: kindRun, At: -1, N: 5}, {Kind: kindRun, N: 0}, {Kind: 0, N: 5}, {Kind: 19, N: 5}}
		w, _ := impl.WorldPlay(cpus, items)
		wantTimeKept(t, "refused", w)
		if w.Groups[0].Sum != 0 || w.Cpus[0].Busy+w.Cpus[0].Idle != 0 {
			t.Errorf("%d: %+v", cpus, w)
		}
	}
	for _, cpus := range []int{-1, 0, 5} {
		w, _ := impl.WorldPlay(cpus, []impl.Item{{Kind: kindRun, N: 5}})
		if !isNoWorld(w) {
			t.Errorf("%d: %+v", cpus, w)
		}
	}
}
