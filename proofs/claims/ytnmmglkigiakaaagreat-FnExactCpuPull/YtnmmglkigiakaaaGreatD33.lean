/- Contracts of the program's spans (arrays of bools), and of its functions of chapter 7 that use them. Contracts of the program's DomainSpan and DomainNear, and of the specification's DomainNear. -/
import Derived.Test.YtnmmglkigiakaaaGreatD32
import Derived.Laws.CopyOwn
namespace Go.Proofs.YtnmmglkigiakaaaGreat
set_option maxRecDepth 100000
set_option maxHeartbeats 32000000
namespace Msk
open Go.ChangeShapes Go.WideShapes Go.ChangeAt Go.RowKit Go.Shelf

def spRow (n c l : Int) (k : Nat) : Array Value := ((List.range 4).map fun i => Value.bool (decide (i < k) && inSp n c l i)).toArray
theorem spRow_size (n c l : Int) (k : Nat) : (spRow n c l k).size = 4 := by simp [spRow]
theorem spRow_get (n c l : Int) (k i : Nat) (h : i < 4) : (spRow n c l k)[i]? = some (.bool (decide (i < k) && inSp n c l i)) := by
  simp [spRow, h]
theorem spRow_set (n c l : Int) (k : Nat) (_h : k < 4) : (spRow n c l k).setIfInBounds k (.bool (inSp n c l k)) = spRow n c l (k + 1) := by
  apply Array.ext
  · simp [spRow]
  · intro i hi1 hi2
    simp only [Array.size_setIfInBounds, spRow_size] at hi1
    rw [Array.getElem_setIfInBounds (by simpa [spRow_size] using hi1)]
    simp only [spRow, List.getElem_toArray, List.getElem_map, List.getElem_range]
    by_cases e : k = i
    · subst e; simp
    · rw [if_neg e]
      have : (i < k) ↔ (i < k + 1) := by omega
      simp only [this]
theorem spRow_past (n c l : Int) (k : Nat) (h : n ≤ k) : spRow n c l k = spRow n c l 4 := by
  unfold spRow
  congr 1
  refine List.map_congr_left fun i hi => ?_
  have hi : i < 4 := List.mem_range.1 hi
  rw [decide_eq_true hi]
  by_cases e : i < k
  · rw [decide_eq_true e]
  · rw [decide_eq_false e]
    unfold inSp
    rw [decide_eq_false (p := (i : Int) < n) (by omega)]
    simp
theorem info4 : (Tryz.prog.info? 131).map (·.size) = some 4 := by kernel_rfl

theorem spanOf_any (n c l : Int) (w : World) : Calls Tryz.prog 129 #[.int .i64 n, .int .i64 c, .int .i64 l] w fun e w' => e = .returned (.agg (spRow n c l 4)) ∧ Below w.heap.size w w' := by
  by_cases a : okSp n c l = true
  · have hi : (Tryz.prog.info? 131).map (·.size) = some (spRow n c l 4).size := by rw [spRow_size]; exact info4
    have hz : (spRow n c l 0).size = (spRow n c l 4).size := by rw [spRow_size, spRow_size]
    have h1 : (spRow n c l 4).all (·.oneCell') = true := by simp [spRow, Value.oneCell']
    have hin : ∀ k : Nat, inSp n c l k = (decide ((k : Int) < n) && ((k : Int) / 2 ^ (l + 1).toNat == c / 2 ^ (l + 1).toNat)) := fun k => by unfold inSp; rw [a]; rfl
    rcases okSp_all a with ⟨rfl, rfl, rfl | rfl⟩ | ⟨rfl, rfl | rfl, rfl | rfl | rfl⟩ | ⟨rfl, rfl | rfl, rfl | rfl | rfl | rfl⟩
    · clear a
      go_enter Tryz.func129, Tryz.ntmps129
      go_wp2_with (go_at_call 84; refine (impl_levels _ _).mono ?_; rintro e w1 ⟨rfl, rfl⟩; first | rw [lv2] | rw [lv3] | rw [lv4])
      go_loopw [28] (fun i wr => ∃ k : Nat, (k : Int) ≤ 2 ∧ i = .int .i64 k ∧ Below w.heap.size w wr ∧ wr.heap[w.heap.size]? = some (.cells (spRow 2 0 0 0) 131 (0, 0)) ∧ wr.heap[w.heap.size + 1]? = some (.cells (spRow 2 0 0 k) 131 (0, 0)))
        (fun i _ => 2 - (intOf i).toNat)
      case atStart => exact ⟨0, by omega, rfl, ((Below.refl _ _).alloc (Nat.le_refl _) _).alloc (by simp) _, heap_alloc2_old _ _ _, heap_alloc2_new _ _ _⟩
      case round =>
        obtain ⟨k, hk2, rfl, hb, hg0, hg1⟩ := hrel
        by_cases hlt : (k : Int) < 2
        · have hc := cell_of_row wr _ k _ _ _ hg1
          rw [spRow_get _ _ _ k k (by omega)] at hc
          have hf := frozen_of_row wr _ k _ _ hg1
          have hv := hin k
          rw [decide_eq_true hlt, Bool.true_and] at hv
          have H0 : Hid (wr.heap[w.heap.size]? = some (.cells (spRow 2 0 0 0) 131 (0, 0))) := hg0
          have H1 : Hid (wr.heap[w.heap.size + 1]? = some (.cells (spRow 2 0 0 k) 131 (0, 0))) := hg1
          have HV : Hid (inSp 2 0 0 k = ((k : Int) / 2 ^ (0 + 1) == 0)) := hv
          clear hg0 hg1 hin hv
          go_wp2_with go_region
          go_roundw
          case rel => exact ⟨k + 1, by omega, by go_num, (hb.setCell (by simp) _).drew, by show (World.setCell _ _ _).heap[_]? = _; rw [heap_setCell_other _ _ _ _ (by simp)]; exact H0.out, by show (World.setCell _ _ _).heap[_]? = _; rw [heap_setCell_same _ _ _ _ _ _ H1.out, ← spRow_set _ _ _ k (by omega), HV.out]; rfl⟩
          case measure => simp [intOf]; omega
        · have : k = 2 := by omega
          subst this
          have e4 : spRow 2 0 0 2 = spRow 2 0 0 4 := spRow_past _ _ _ _ (by omega)
          rw [e4] at hg1
          clear e4 hin hlt hk2
          go_wp2_with (first
            | refine wpList_load_row rfl 131 _ rfl (w.heap.size + 1) rfl 131 (spRow 2 0 0 4) (0, 0) _ hg1 Tryz.underlying131 rfl hi ?_
            | refine wpList_store_row rfl 131 _ _ rfl w.heap.size (spRow 2 0 0 4) rfl rfl 131 (spRow 2 0 0 0) hg0 hi hz h1 ?_)
          refine bodyPost_ret (results_cell_row rfl _ _ w.heap.size 131 (spRow 2 0 0 4) (0, 0) _ rfl (setRow_heap _ _ _ _ _ _ hg0) Tryz.underlying131 rfl hi) rfl ⟨rfl, ?_⟩
          exact below_setRow hb (Nat.le_refl _) _
    · clear a
      go_enter Tryz.func129, Tryz.ntmps129
      go_wp2_with (go_at_call 84; refine (impl_levels _ _).mono ?_; rintro e w1 ⟨rfl, rfl⟩; first | rw [lv2] | rw [lv3] | rw [lv4])
      go_loopw [28] (fun i wr => ∃ k : Nat, (k : Int) ≤ 2 ∧ i = .int .i64 k ∧ Below w.heap.size w wr ∧ wr.heap[w.heap.size]? = some (.cells (spRow 2 1 0 0) 131 (0, 0)) ∧ wr.heap[w.heap.size + 1]? = some (.cells (spRow 2 1 0 k) 131 (0, 0)))
        (fun i _ => 2 - (intOf i).toNat)
      case atStart => exact ⟨0, by omega, rfl, ((Below.refl _ _).alloc (Nat.le_refl _) _).alloc (by simp) _, heap_alloc2_old _ _ _, heap_alloc2_new _ _ _⟩
      case round =>
        obtain ⟨k, hk2, rfl, hb, hg0, hg1⟩ := hrel
        by_cases hlt : (k : Int) < 2
        · have hc := cell_of_row wr _ k _ _ _ hg1
          rw [spRow_get _ _ _ k k (by omega)] at hc
          have hf := frozen_of_row wr _ k _ _ hg1
          have hv := hin k
          rw [decide_eq_true hlt, Bool.true_and] at hv
          have H0 : Hid (wr.heap[w.heap.size]? = some (.cells (spRow 2 1 0 0) 131 (0, 0))) := hg0
          have H1 : Hid (wr.heap[w.heap.size + 1]? = some (.cells (spRow 2 1 0 k) 131 (0, 0))) := hg1
          have HV : Hid (inSp 2 1 0 k = ((k : Int) / 2 ^ (0 + 1) == 0)) := hv
          clear hg0 hg1 hin hv
          go_wp2_with go_region
          go_roundw
          case rel => exact ⟨k + 1, by omega, by go_num, (hb.setCell (by simp) _).drew, by show (World.setCell _ _ _).heap[_]? = _; rw [heap_setCell_other _ _ _ _ (by simp)]; exact H0.out, by show (World.setCell _ _ _).heap[_]? = _; rw [heap_setCell_same _ _ _ _ _ _ H1.out, ← spRow_set _ _ _ k (by omega), HV.out]; rfl⟩
          case measure => simp [intOf]; omega
        · have : k = 2 := by omega
          subst this
          have e4 : spRow 2 1 0 2 = spRow 2 1 0 4 := spRow_past _ _ _ _ (by omega)
          rw [e4] at hg1
          clear e4 hin hlt hk2
          go_wp2_with (first
            | refine wpList_load_row rfl 131 _ rfl (w.heap.size + 1) rfl 131 (spRow 2 1 0 4) (0, 0) _ hg1 Tryz.underlying131 rfl hi ?_
            | refine wpList_store_row rfl 131 _ _ rfl w.heap.size (spRow 2 1 0 4) rfl rfl 131 (spRow 2 1 0 0) hg0 hi hz h1 ?_)
          refine bodyPost_ret (results_cell_row rfl _ _ w.heap.size 131 (spRow 2 1 0 4) (0, 0) _ rfl (setRow_heap _ _ _ _ _ _ hg0) Tryz.underlying131 rfl hi) rfl ⟨rfl, ?_⟩
          exact below_setRow hb (Nat.le_refl _) _
    · clear a
      go_enter Tryz.func129, Tryz.ntmps129
      go_wp2_with (go_at_call 84; refine (impl_levels _ _).mono ?_; rintro e w1 ⟨rfl, rfl⟩; first | rw [lv2] | rw [lv3] | rw [lv4])
      go_loopw [28] (fun i wr => ∃ k : Nat, (k : Int) ≤ 3 ∧ i = .int .i64 k ∧ Below w.heap.size w wr ∧ wr.heap[w.heap.size]? = some (.cells (spRow 3 0 0 0) 131 (0, 0)) ∧ wr.heap[w.heap.size + 1]? = some (.cells (spRow 3 0 0 k) 131 (0, 0)))
        (fun i _ => 3 - (intOf i).toNat)
      case atStart => exact ⟨0, by omega, rfl, ((Below.refl _ _).alloc (Nat.le_refl _) _).alloc (by simp) _, heap_alloc2_old _ _ _, heap_alloc2_new _ _ _⟩
      case round =>
        obtain ⟨k, hk2, rfl, hb, hg0, hg1⟩ := hrel
        by_cases hlt : (k : Int) < 3
        · have hc := cell_of_row wr _ k _ _ _ hg1
          rw [spRow_get _ _ _ k k (by omega)] at hc
          have hf := frozen_of_row wr _ k _ _ hg1
          have hv := hin k
          rw [decide_eq_true hlt, Bool.true_and] at hv
          have H0 : Hid (wr.heap[w.heap.size]? = some (.cells (spRow 3 0 0 0) 131 (0, 0))) := hg0
          have H1 : Hid (wr.heap[w.heap.size + 1]? = some (.cells (spRow 3 0 0 k) 131 (0, 0))) := hg1
          have HV : Hid (inSp 3 0 0 k = ((k : Int) / 2 ^ (0 + 1) == 0)) := hv
          clear hg0 hg1 hin hv
          go_wp2_with go_region
          go_roundw
          case rel => exact ⟨k + 1, by omega, by go_num, (hb.setCell (by simp) _).drew, by show (World.setCell _ _ _).heap[_]? = _; rw [heap_setCell_other _ _ _ _ (by simp)]; exact H0.out, by show (World.setCell _ _ _).heap[_]? = _; rw [heap_setCell_same _ _ _ _ _ _ H1.out, ← spRow_set _ _ _ k (by omega), HV.out]; rfl⟩
          case measure => simp [intOf]; omega
        · have : k = 3 := by omega
          subst this
          have e4 : spRow 3 0 0 3 = spRow 3 0 0 4 := spRow_past _ _ _ _ (by omega)
          rw [e4] at hg1
          clear e4 hin hlt hk2
          go_wp2_with (first
            | refine wpList_load_row rfl 131 _ rfl (w.heap.size + 1) rfl 131 (spRow 3 0 0 4) (0, 0) _ hg1 Tryz.underlying131 rfl hi ?_
            | refine wpList_store_row rfl 131 _ _ rfl w.heap.size (spRow 3 0 0 4) rfl rfl 131 (spRow 3 0 0 0) hg0 hi hz h1 ?_)
          refine bodyPost_ret (results_cell_row rfl _ _ w.heap.size 131 (spRow 3 0 0 4) (0, 0) _ rfl (setRow_heap _ _ _ _ _ _ hg0) Tryz.underlying131 rfl hi) rfl ⟨rfl, ?_⟩
          exact below_setRow hb (Nat.le_refl _) _
    · clear a
      go_enter Tryz.func129, Tryz.ntmps129
      go_wp2_with (go_at_call 84; refine (impl_levels _ _).mono ?_; rintro e w1 ⟨rfl, rfl⟩; first | rw [lv2] | rw [lv3] | rw [lv4])
      go_loopw [28] (fun i wr => ∃ k : Nat, (k : Int) ≤ 3 ∧ i = .int .i64 k ∧ Below w.heap.size w wr ∧ wr.heap[w.heap.size]? = some (.cells (spRow 3 1 0 0) 131 (0, 0)) ∧ wr.heap[w.heap.size + 1]? = some (.cells (spRow 3 1 0 k) 131 (0, 0)))
        (fun i _ => 3 - (intOf i).toNat)
      case atStart => exact ⟨0, by omega, rfl, ((Below.refl _ _).alloc (Nat.le_refl _) _).alloc (by simp) _, heap_alloc2_old _ _ _, heap_alloc2_new _ _ _⟩
      case round =>
        obtain ⟨k, hk2, rfl, hb, hg0, hg1⟩ := hrel
        by_cases hlt : (k : Int) < 3
        · have hc := cell_of_row wr _ k _ _ _ hg1
          rw [spRow_get _ _ _ k k (by omega)] at hc
          have hf := frozen_of_row wr _ k _ _ hg1
          have hv := hin k
          rw [decide_eq_true hlt, Bool.true_and] at hv
          have H0 : Hid (wr.heap[w.heap.size]? = some (.cells (spRow 3 1 0 0) 131 (0, 0))) := hg0
          have H1 : Hid (wr.heap[w.heap.size + 1]? = some (.cells (spRow 3 1 0 k) 131 (0, 0))) := hg1
          have HV : Hid (inSp 3 1 0 k = ((k : Int) / 2 ^ (0 + 1) == 0)) := hv
          clear hg0 hg1 hin hv
          go_wp2_with go_region
          go_roundw
          case rel => exact ⟨k + 1, by omega, by go_num, (hb.setCell (by simp) _).drew, by show (World.setCell _ _ _).heap[_]? = _; rw [heap_setCell_other _ _ _ _ (by simp)]; exact H0.out, by show (World.setCell _ _ _).heap[_]? = _; rw [heap_setCell_same _ _ _ _ _ _ H1.out, ← spRow_set _ _ _ k (by omega), HV.out]; rfl⟩
          case measure => simp [intOf]; omega
        · have : k = 3 := by omega
          subst this
          have e4 : spRow 3 1 0 3 = spRow 3 1 0 4 := spRow_past _ _ _ _ (by omega)
          rw [e4] at hg1
          clear e4 hin hlt hk2
          go_wp2_with (first
            | refine wpList_load_row rfl 131 _ rfl (w.heap.size + 1) rfl 131 (spRow 3 1 0 4) (0, 0) _ hg1 Tryz.underlying131 rfl hi ?_
            | refine wpList_store_row rfl 131 _ _ rfl w.heap.size (spRow 3 1 0 4) rfl rfl 131 (spRow 3 1 0 0) hg0 hi hz h1 ?_)
          refine bodyPost_ret (results_cell_row rfl _ _ w.heap.size 131 (spRow 3 1 0 4) (0, 0) _ rfl (setRow_heap _ _ _ _ _ _ hg0) Tryz.underlying131 rfl hi) rfl ⟨rfl, ?_⟩
          exact below_setRow hb (Nat.le_refl _) _
    · clear a
      go_enter Tryz.func129, Tryz.ntmps129
      go_wp2_with (go_at_call 84; refine (impl_levels _ _).mono ?_; rintro e w1 ⟨rfl, rfl⟩; first | rw [lv2] | rw [lv3] | rw [lv4])
      go_loopw [28] (fun i wr => ∃ k : Nat, (k : Int) ≤ 3 ∧ i = .int .i64 k ∧ Below w.heap.size w wr ∧ wr.heap[w.heap.size]? = some (.cells (spRow 3 2 0 0) 131 (0, 0)) ∧ wr.heap[w.heap.size + 1]? = some (.cells (spRow 3 2 0 k) 131 (0, 0)))
        (fun i _ => 3 - (intOf i).toNat)
      case atStart => exact ⟨0, by omega, rfl, ((Below.refl _ _).alloc (Nat.le_refl _) _).alloc (by simp) _, heap_alloc2_old _ _ _, heap_alloc2_new _ _ _⟩
      case round =>
        obtain ⟨k, hk2, rfl, hb, hg0, hg1⟩ := hrel
        by_cases hlt : (k : Int) < 3
        · have hc := cell_of_row wr _ k _ _ _ hg1
          rw [spRow_get _ _ _ k k (by omega)] at hc
          have hf := frozen_of_row wr _ k _ _ hg1
          have hv := hin k
          rw [decide_eq_true hlt, Bool.true_and] at hv
          have H0 : Hid (wr.heap[w.heap.size]? = some (.cells (spRow 3 2 0 0) 131 (0, 0))) := hg0
          have H1 : Hid (wr.heap[w.heap.size + 1]? = some (.cells (spRow 3 2 0 k) 131 (0, 0))) := hg1
          have HV : Hid (inSp 3 2 0 k = ((k : Int) / 2 ^ (0 + 1) == 1)) := hv
          clear hg0 hg1 hin hv
          go_wp2_with go_region
          go_roundw
          case rel => exact ⟨k + 1, by omega, by go_num, (hb.setCell (by simp) _).drew, by show (World.setCell _ _ _).heap[_]? = _; rw [heap_setCell_other _ _ _ _ (by simp)]; exact H0.out, by show (World.setCell _ _ _).heap[_]? = _; rw [heap_setCell_same _ _ _ _ _ _ H1.out, ← spRow_set _ _ _ k (by omega), HV.out]; rfl⟩
          case measure => simp [intOf]; omega
        · have : k = 3 := by omega
          subst this
          have e4 : spRow 3 2 0 3 = spRow 3 2 0 4 := spRow_past _ _ _ _ (by omega)
          rw [e4] at hg1
          clear e4 hin hlt hk2
          go_wp2_with (first
            | refine wpList_load_row rfl 131 _ rfl (w.heap.size + 1) rfl 131 (spRow 3 2 0 4) (0, 0) _ hg1 Tryz.underlying131 rfl hi ?_
            | refine wpList_store_row rfl 131 _ _ rfl w.heap.size (spRow 3 2 0 4) rfl rfl 131 (spRow 3 2 0 0) hg0 hi hz h1 ?_)
          refine bodyPost_ret (results_cell_row rfl _ _ w.heap.size 131 (spRow 3 2 0 4) (0, 0) _ rfl (setRow_heap _ _ _ _ _ _ hg0) Tryz.underlying131 rfl hi) rfl ⟨rfl, ?_⟩
          exact below_setRow hb (Nat.le_refl _) _
    · clear a
      go_enter Tryz.func129, Tryz.ntmps129
      go_wp2_with (go_at_call 84; refine (impl_levels _ _).mono ?_; rintro e w1 ⟨rfl, rfl⟩; first | rw [lv2] | rw [lv3] | rw [lv4])
      go_loopw [28] (fun i wr => ∃ k : Nat, (k : Int) ≤ 3 ∧ i = .int .i64 k ∧ Below w.heap.size w wr ∧ wr.heap[w.heap.size]? = some (.cells (spRow 3 0 1 0) 131 (0, 0)) ∧ wr.heap[w.heap.size + 1]? = some (.cells (spRow 3 0 1 k) 131 (0, 0)))
        (fun i _ => 3 - (intOf i).toNat)
      case atStart => exact ⟨0, by omega, rfl, ((Below.refl _ _).alloc (Nat.le_refl _) _).alloc (by simp) _, heap_alloc2_old _ _ _, heap_alloc2_new _ _ _⟩
      case round =>
        obtain ⟨k, hk2, rfl, hb, hg0, hg1⟩ := hrel
        by_cases hlt : (k : Int) < 3
        · have hc := cell_of_row wr _ k _ _ _ hg1
          rw [spRow_get _ _ _ k k (by omega)] at hc
          have hf := frozen_of_row wr _ k _ _ hg1
          have hv := hin k
          rw [decide_eq_true hlt, Bool.true_and] at hv
          have H0 : Hid (wr.heap[w.heap.size]? = some (.cells (spRow 3 0 1 0) 131 (0, 0))) := hg0
          have H1 : Hid (wr.heap[w.heap.size + 1]? = some (.cells (spRow 3 0 1 k) 131 (0, 0))) := hg1
          have HV : Hid (inSp 3 0 1 k = ((k : Int) / 2 ^ (1 + 1) == 0)) := hv
          clear hg0 hg1 hin hv
          go_wp2_with go_region
          go_roundw
          case rel => exact ⟨k + 1, by omega, by go_num, (hb.setCell (by simp) _).drew, by show (World.setCell _ _ _).heap[_]? = _; rw [heap_setCell_other _ _ _ _ (by simp)]; exact H0.out, by show (World.setCell _ _ _).heap[_]? = _; rw [heap_setCell_same _ _ _ _ _ _ H1.out, ← spRow_set _ _ _ k (by omega), HV.out]; rfl⟩
          case measure => simp [intOf]; omega
        · have : k = 3 := by omega
          subst this
          have e4 : spRow 3 0 1 3 = spRow 3 0 1 4 := spRow_past _ _ _ _ (by omega)
          rw [e4] at hg1
          clear e4 hin hlt hk2
          go_wp2_with (first
            | refine wpList_load_row rfl 131 _ rfl (w.heap.size + 1) rfl 131 (spRow 3 0 1 4) (0, 0) _ hg1 Tryz.underlying131 rfl hi ?_
            | refine wpList_store_row rfl 131 _ _ rfl w.heap.size (spRow 3 0 1 4) rfl rfl 131 (spRow 3 0 1 0) hg0 hi hz h1 ?_)
          refine bodyPost_ret (results_cell_row rfl _ _ w.heap.size 131 (spRow 3 0 1 4) (0, 0) _ rfl (setRow_heap _ _ _ _ _ _ hg0) Tryz.underlying131 rfl hi) rfl ⟨rfl, ?_⟩
          exact below_setRow hb (Nat.le_refl _) _
    · clear a
      go_enter Tryz.func129, Tryz.ntmps129
      go_wp2_with (go_at_call 84; refine (impl_levels _ _).mono ?_; rintro e w1 ⟨rfl, rfl⟩; first | rw [lv2] | rw [lv3] | rw [lv4])
      go_loopw [28] (fun i wr => ∃ k : Nat, (k : Int) ≤ 3 ∧ i = .int .i64 k ∧ Below w.heap.size w wr ∧ wr.heap[w.heap.size]? = some (.cells (spRow 3 1 1 0) 131 (0, 0)) ∧ wr.heap[w.heap.size + 1]? = some (.cells (spRow 3 1 1 k) 131 (0, 0)))
        (fun i _ => 3 - (intOf i).toNat)
      case atStart => exact ⟨0, by omega, rfl, ((Below.refl _ _).alloc (Nat.le_refl _) _).alloc (by simp) _, heap_alloc2_old _ _ _, heap_alloc2_new _ _ _⟩
      case round =>
        obtain ⟨k, hk2, rfl, hb, hg0, hg1⟩ := hrel
        by_cases hlt : (k : Int) < 3
        · have hc := cell_of_row wr _ k _ _ _ hg1
          rw [spRow_get _ _ _ k k (by omega)] at hc
          have hf := frozen_of_row wr _ k _ _ hg1
          have hv := hin k
          rw [decide_eq_true hlt, Bool.true_and] at hv
          have H0 : Hid (wr.heap[w.heap.size]? = some (.cells (spRow 3 1 1 0) 131 (0, 0))) := hg0
          have H1 : Hid (wr.heap[w.heap.size + 1]? = some (.cells (spRow 3 1 1 k) 131 (0, 0))) := hg1
          have HV : Hid (inSp 3 1 1 k = ((k : Int) / 2 ^ (1 + 1) == 0)) := hv
          clear hg0 hg1 hin hv
          go_wp2_with go_region
          go_roundw
          case rel => exact ⟨k + 1, by omega, by go_num, (hb.setCell (by simp) _).drew, by show (World.setCell _ _ _).heap[_]? = _; rw [heap_setCell_other _ _ _ _ (by simp)]; exact H0.out, by show (World.setCell _ _ _).heap[_]? = _; rw [heap_setCell_same _ _ _ _ _ _ H1.out, ← spRow_set _ _ _ k (by omega), HV.out]; rfl⟩
          case measure => simp [intOf]; omega
        · have : k = 3 := by omega
          subst this
          have e4 : spRow 3 1 1 3 = spRow 3 1 1 4 := spRow_past _ _ _ _ (by omega)
          rw [e4] at hg1
          clear e4 hin hlt hk2
          go_wp2_with (first
            | refine wpList_load_row rfl 131 _ rfl (w.heap.size + 1) rfl 131 (spRow 3 1 1 4) (0, 0) _ hg1 Tryz.underlying131 rfl hi ?_
            | refine wpList_store_row rfl 131 _ _ rfl w.heap.size (spRow 3 1 1 4) rfl rfl 131 (spRow 3 1 1 0) hg0 hi hz h1 ?_)
          refine bodyPost_ret (results_cell_row rfl _ _ w.heap.size 131 (spRow 3 1 1 4) (0, 0) _ rfl (setRow_heap _ _ _ _ _ _ hg0) Tryz.underlying131 rfl hi) rfl ⟨rfl, ?_⟩
          exact below_setRow hb (Nat.le_refl _) _
    · clear a
      go_enter Tryz.func129, Tryz.ntmps129
      go_wp2_with (go_at_call 84; refine (impl_levels _ _).mono ?_; rintro e w1 ⟨rfl, rfl⟩; first | rw [lv2] | rw [lv3] | rw [lv4])
      go_loopw [28] (fun i wr => ∃ k : Nat, (k : Int) ≤ 3 ∧ i = .int .i64 k ∧ Below w.heap.size w wr ∧ wr.heap[w.heap.size]? = some (.cells (spRow 3 2 1 0) 131 (0, 0)) ∧ wr.heap[w.heap.size + 1]? = some (.cells (spRow 3 2 1 k) 131 (0, 0)))
        (fun i _ => 3 - (intOf i).toNat)
      case atStart => exact ⟨0, by omega, rfl, ((Below.refl _ _).alloc (Nat.le_refl _) _).alloc (by simp) _, heap_alloc2_old _ _ _, heap_alloc2_new _ _ _⟩
      case round =>
        obtain ⟨k, hk2, rfl, hb, hg0, hg1⟩ := hrel
        by_cases hlt : (k : Int) < 3
        · have hc := cell_of_row wr _ k _ _ _ hg1
          rw [spRow_get _ _ _ k k (by omega)] at hc
          have hf := frozen_of_row wr _ k _ _ hg1
          have hv := hin k
          rw [decide_eq_true hlt, Bool.true_and] at hv
          have H0 : Hid (wr.heap[w.heap.size]? = some (.cells (spRow 3 2 1 0) 131 (0, 0))) := hg0
          have H1 : Hid (wr.heap[w.heap.size + 1]? = some (.cells (spRow 3 2 1 k) 131 (0, 0))) := hg1
          have HV : Hid (inSp 3 2 1 k = ((k : Int) / 2 ^ (1 + 1) == 0)) := hv
          clear hg0 hg1 hin hv
          go_wp2_with go_region
          go_roundw
          case rel => exact ⟨k + 1, by omega, by go_num, (hb.setCell (by simp) _).drew, by show (World.setCell _ _ _).heap[_]? = _; rw [heap_setCell_other _ _ _ _ (by simp)]; exact H0.out, by show (World.setCell _ _ _).heap[_]? = _; rw [heap_setCell_same _ _ _ _ _ _ H1.out, ← spRow_set _ _ _ k (by omega), HV.out]; rfl⟩
          case measure => simp [intOf]; omega
        · have : k = 3 := by omega
          subst this
          have e4 : spRow 3 2 1 3 = spRow 3 2 1 4 := spRow_past _ _ _ _ (by omega)
          rw [e4] at hg1
          clear e4 hin hlt hk2
          go_wp2_with (first
            | refine wpList_load_row rfl 131 _ rfl (w.heap.size + 1) rfl 131 (spRow 3 2 1 4) (0, 0) _ hg1 Tryz.underlying131 rfl hi ?_
            | refine wpList_store_row rfl 131 _ _ rfl w.heap.size (spRow 3 2 1 4) rfl rfl 131 (spRow 3 2 1 0) hg0 hi hz h1 ?_)
          refine bodyPost_ret (results_cell_row rfl _ _ w.heap.size 131 (spRow 3 2 1 4) (0, 0) _ rfl (setRow_heap _ _ _ _ _ _ hg0) Tryz.underlying131 rfl hi) rfl ⟨rfl, ?_⟩
          exact below_setRow hb (Nat.le_refl _) _
    · clear a
      go_enter Tryz.func129, Tryz.ntmps129
      go_wp2_with (go_at_call 84; refine (impl_levels _ _).mono ?_; rintro e w1 ⟨rfl, rfl⟩; first | rw [lv2] | rw [lv3] | rw [lv4])
      go_loopw [28] (fun i wr => ∃ k : Nat, (k : Int) ≤ 4 ∧ i = .int .i64 k ∧ Below w.heap.size w wr ∧ wr.heap[w.heap.size]? = some (.cells (spRow 4 0 0 0) 131 (0, 0)) ∧ wr.heap[w.heap.size + 1]? = some (.cells (spRow 4 0 0 k) 131 (0, 0)))
        (fun i _ => 4 - (intOf i).toNat)
      case atStart => exact ⟨0, by omega, rfl, ((Below.refl _ _).alloc (Nat.le_refl _) _).alloc (by simp) _, heap_alloc2_old _ _ _, heap_alloc2_new _ _ _⟩
      case round =>
        obtain ⟨k, hk2, rfl, hb, hg0, hg1⟩ := hrel
        by_cases hlt : (k : Int) < 4
        · have hc := cell_of_row wr _ k _ _ _ hg1
          rw [spRow_get _ _ _ k k (by omega)] at hc
          have hf := frozen_of_row wr _ k _ _ hg1
          have hv := hin k
          rw [decide_eq_true hlt, Bool.true_and] at hv
          have H0 : Hid (wr.heap[w.heap.size]? = some (.cells (spRow 4 0 0 0) 131 (0, 0))) := hg0
          have H1 : Hid (wr.heap[w.heap.size + 1]? = some (.cells (spRow 4 0 0 k) 131 (0, 0))) := hg1
          have HV : Hid (inSp 4 0 0 k = ((k : Int) / 2 ^ (0 + 1) == 0)) := hv
          clear hg0 hg1 hin hv
          go_wp2_with go_region
          go_roundw
          case rel => exact ⟨k + 1, by omega, by go_num, (hb.setCell (by simp) _).drew, by show (World.setCell _ _ _).heap[_]? = _; rw [heap_setCell_other _ _ _ _ (by simp)]; exact H0.out, by show (World.setCell _ _ _).heap[_]? = _; rw [heap_setCell_same _ _ _ _ _ _ H1.out, ← spRow_set _ _ _ k (by omega), HV.out]; rfl⟩
          case measure => simp [intOf]; omega
        · have : k = 4 := by omega
          subst this
          have e4 : spRow 4 0 0 4 = spRow 4 0 0 4 := spRow_past _ _ _ _ (by omega)
          rw [e4] at hg1
          clear e4 hin hlt hk2
          go_wp2_with (first
            | refine wpList_load_row rfl 131 _ rfl (w.heap.size + 1) rfl 131 (spRow 4 0 0 4) (0, 0) _ hg1 Tryz.underlying131 rfl hi ?_
            | refine wpList_store_row rfl 131 _ _ rfl w.heap.size (spRow 4 0 0 4) rfl rfl 131 (spRow 4 0 0 0) hg0 hi hz h1 ?_)
          refine bodyPost_ret (results_cell_row rfl _ _ w.heap.size 131 (spRow 4 0 0 4) (0, 0) _ rfl (setRow_heap _ _ _ _ _ _ hg0) Tryz.underlying131 rfl hi) rfl ⟨rfl, ?_⟩
          exact below_setRow hb (Nat.le_refl _) _
    · clear a
      go_enter Tryz.func129, Tryz.ntmps129
      go_wp2_with (go_at_call 84; refine (impl_levels _ _).mono ?_; rintro e w1 ⟨rfl, rfl⟩; first | rw [lv2] | rw [lv3] | rw [lv4])
      go_loopw [28] (fun i wr => ∃ k : Nat, (k : Int) ≤ 4 ∧ i = .int .i64 k ∧ Below w.heap.size w wr ∧ wr.heap[w.heap.size]? = some (.cells (spRow 4 1 0 0) 131 (0, 0)) ∧ wr.heap[w.heap.size + 1]? = some (.cells (spRow 4 1 0 k) 131 (0, 0)))
        (fun i _ => 4 - (intOf i).toNat)
      case atStart => exact ⟨0, by omega, rfl, ((Below.refl _ _).alloc (Nat.le_refl _) _).alloc (by simp) _, heap_alloc2_old _ _ _, heap_alloc2_new _ _ _⟩
      case round =>
        obtain ⟨k, hk2, rfl, hb, hg0, hg1⟩ := hrel
        by_cases hlt : (k : Int) < 4
        · have hc := cell_of_row wr _ k _ _ _ hg1
          rw [spRow_get _ _ _ k k (by omega)] at hc
          have hf := frozen_of_row wr _ k _ _ hg1
          have hv := hin k
          rw [decide_eq_true hlt, Bool.true_and] at hv
          have H0 : Hid (wr.heap[w.heap.size]? = some (.cells (spRow 4 1 0 0) 131 (0, 0))) := hg0
          have H1 : Hid (wr.heap[w.heap.size + 1]? = some (.cells (spRow 4 1 0 k) 131 (0, 0))) := hg1
          have HV : Hid (inSp 4 1 0 k = ((k : Int) / 2 ^ (0 + 1) == 0)) := hv
          clear hg0 hg1 hin hv
          go_wp2_with go_region
          go_roundw
          case rel => exact ⟨k + 1, by omega, by go_num, (hb.setCell (by simp) _).drew, by show (World.setCell _ _ _).heap[_]? = _; rw [heap_setCell_other _ _ _ _ (by simp)]; exact H0.out, by show (World.setCell _ _ _).heap[_]? = _; rw [heap_setCell_same _ _ _ _ _ _ H1.out, ← spRow_set _ _ _ k (by omega), HV.out]; rfl⟩
          case measure => simp [intOf]; omega
        · have : k = 4 := by omega
          subst this
          have e4 : spRow 4 1 0 4 = spRow 4 1 0 4 := spRow_past _ _ _ _ (by omega)
          rw [e4] at hg1
          clear e4 hin hlt hk2
          go_wp2_with (first
            | refine wpList_load_row rfl 131 _ rfl (w.heap.size + 1) rfl 131 (spRow 4 1 0 4) (0, 0) _ hg1 Tryz.underlying131 rfl hi ?_
            | refine wpList_store_row rfl 131 _ _ rfl w.heap.size (spRow 4 1 0 4) rfl rfl 131 (spRow 4 1 0 0) hg0 hi hz h1 ?_)
          refine bodyPost_ret (results_cell_row rfl _ _ w.heap.size 131 (spRow 4 1 0 4) (0, 0) _ rfl (setRow_heap _ _ _ _ _ _ hg0) Tryz.underlying131 rfl hi) rfl ⟨rfl, ?_⟩
          exact below_setRow hb (Nat.le_refl _) _
    · clear a
      go_enter Tryz.func129, Tryz.ntmps129
      go_wp2_with (go_at_call 84; refine (impl_levels _ _).mono ?_; rintro e w1 ⟨rfl, rfl⟩; first | rw [lv2] | rw [lv3] | rw [lv4])
      go_loopw [28] (fun i wr => ∃ k : Nat, (k : Int) ≤ 4 ∧ i = .int .i64 k ∧ Below w.heap.size w wr ∧ wr.heap[w.heap.size]? = some (.cells (spRow 4 2 0 0) 131 (0, 0)) ∧ wr.heap[w.heap.size + 1]? = some (.cells (spRow 4 2 0 k) 131 (0, 0)))
        (fun i _ => 4 - (intOf i).toNat)
      case atStart => exact ⟨0, by omega, rfl, ((Below.refl _ _).alloc (Nat.le_refl _) _).alloc (by simp) _, heap_alloc2_old _ _ _, heap_alloc2_new _ _ _⟩
      case round =>
        obtain ⟨k, hk2, rfl, hb, hg0, hg1⟩ := hrel
        by_cases hlt : (k : Int) < 4
        · have hc := cell_of_row wr _ k _ _ _ hg1
          rw [spRow_get _ _ _ k k (by omega)] at hc
          have hf := frozen_of_row wr _ k _ _ hg1
          have hv := hin k
          rw [decide_eq_true hlt, Bool.true_and] at hv
          have H0 : Hid (wr.heap[w.heap.size]? = some (.cells (spRow 4 2 0 0) 131 (0, 0))) := hg0
          have H1 : Hid (wr.heap[w.heap.size + 1]? = some (.cells (spRow 4 2 0 k) 131 (0, 0))) := hg1
          have HV : Hid (inSp 4 2 0 k = ((k : Int) / 2 ^ (0 + 1) == 1)) := hv
          clear hg0 hg1 hin hv
          go_wp2_with go_region
          go_roundw
          case rel => exact ⟨k + 1, by omega, by go_num, (hb.setCell (by simp) _).drew, by show (World.setCell _ _ _).heap[_]? = _; rw [heap_setCell_other _ _ _ _ (by simp)]; exact H0.out, by show (World.setCell _ _ _).heap[_]? = _; rw [heap_setCell_same _ _ _ _ _ _ H1.out, ← spRow_set _ _ _ k (by omega), HV.out]; rfl⟩
          case measure => simp [intOf]; omega
        · have : k = 4 := by omega
          subst this
          have e4 : spRow 4 2 0 4 = spRow 4 2 0 4 := spRow_past _ _ _ _ (by omega)
          rw [e4] at hg1
          clear e4 hin hlt hk2
          go_wp2_with (first
            | refine wpList_load_row rfl 131 _ rfl (w.heap.size + 1) rfl 131 (spRow 4 2 0 4) (0, 0) _ hg1 Tryz.underlying131 rfl hi ?_
            | refine wpList_store_row rfl 131 _ _ rfl w.heap.size (spRow 4 2 0 4) rfl rfl 131 (spRow 4 2 0 0) hg0 hi hz h1 ?_)
          refine bodyPost_ret (results_cell_row rfl _ _ w.heap.size 131 (spRow 4 2 0 4) (0, 0) _ rfl (setRow_heap _ _ _ _ _ _ hg0) Tryz.underlying131 rfl hi) rfl ⟨rfl, ?_⟩
          exact below_setRow hb (Nat.le_refl _) _
    · clear a
      go_enter Tryz.func129, Tryz.ntmps129
      go_wp2_with (go_at_call 84; refine (impl_levels _ _).mono ?_; rintro e w1 ⟨rfl, rfl⟩; first | rw [lv2] | rw [lv3] | rw [lv4])
      go_loopw [28] (fun i wr => ∃ k : Nat, (k : Int) ≤ 4 ∧ i = .int .i64 k ∧ Below w.heap.size w wr ∧ wr.heap[w.heap.size]? = some (.cells (spRow 4 3 0 0) 131 (0, 0)) ∧ wr.heap[w.heap.size + 1]? = some (.cells (spRow 4 3 0 k) 131 (0, 0)))
        (fun i _ => 4 - (intOf i).toNat)
      case atStart => exact ⟨0, by omega, rfl, ((Below.refl _ _).alloc (Nat.le_refl _) _).alloc (by simp) _, heap_alloc2_old _ _ _, heap_alloc2_new _ _ _⟩
      case round =>
        obtain ⟨k, hk2, rfl, hb, hg0, hg1⟩ := hrel
        by_cases hlt : (k : Int) < 4
        · have hc := cell_of_row wr _ k _ _ _ hg1
          rw [spRow_get _ _ _ k k (by omega)] at hc
          have hf := frozen_of_row wr _ k _ _ hg1
          have hv := hin k
          rw [decide_eq_true hlt, Bool.true_and] at hv
          have H0 : Hid (wr.heap[w.heap.size]? = some (.cells (spRow 4 3 0 0) 131 (0, 0))) := hg0
          have H1 : Hid (wr.heap[w.heap.size + 1]? = some (.cells (spRow 4 3 0 k) 131 (0, 0))) := hg1
          have HV : Hid (inSp 4 3 0 k = ((k : Int) / 2 ^ (0 + 1) == 1)) := hv
          clear hg0 hg1 hin hv
          go_wp2_with go_region
          go_roundw
          case rel => exact ⟨k + 1, by omega, by go_num, (hb.setCell (by simp) _).drew, by show (World.setCell _ _ _).heap[_]? = _; rw [heap_setCell_other _ _ _ _ (by simp)]; exact H0.out, by show (World.setCell _ _ _).heap[_]? = _; rw [heap_setCell_same _ _ _ _ _ _ H1.out, ← spRow_set _ _ _ k (by omega), HV.out]; rfl⟩
          case measure => simp [intOf]; omega
        · have : k = 4 := by omega
          subst this
          have e4 : spRow 4 3 0 4 = spRow 4 3 0 4 := spRow_past _ _ _ _ (by omega)
          rw [e4] at hg1
          clear e4 hin hlt hk2
          go_wp2_with (first
            | refine wpList_load_row rfl 131 _ rfl (w.heap.size + 1) rfl 131 (spRow 4 3 0 4) (0, 0) _ hg1 Tryz.underlying131 rfl hi ?_
            | refine wpList_store_row rfl 131 _ _ rfl w.heap.size (spRow 4 3 0 4) rfl rfl 131 (spRow 4 3 0 0) hg0 hi hz h1 ?_)
          refine bodyPost_ret (results_cell_row rfl _ _ w.heap.size 131 (spRow 4 3 0 4) (0, 0) _ rfl (setRow_heap _ _ _ _ _ _ hg0) Tryz.underlying131 rfl hi) rfl ⟨rfl, ?_⟩
          exact below_setRow hb (Nat.le_refl _) _
    · clear a
      go_enter Tryz.func129, Tryz.ntmps129
      go_wp2_with (go_at_call 84; refine (impl_levels _ _).mono ?_; rintro e w1 ⟨rfl, rfl⟩; first | rw [lv2] | rw [lv3] | rw [lv4])
      go_loopw [28] (fun i wr => ∃ k : Nat, (k : Int) ≤ 4 ∧ i = .int .i64 k ∧ Below w.heap.size w wr ∧ wr.heap[w.heap.size]? = some (.cells (spRow 4 0 1 0) 131 (0, 0)) ∧ wr.heap[w.heap.size + 1]? = some (.cells (spRow 4 0 1 k) 131 (0, 0)))
        (fun i _ => 4 - (intOf i).toNat)
      case atStart => exact ⟨0, by omega, rfl, ((Below.refl _ _).alloc (Nat.le_refl _) _).alloc (by simp) _, heap_alloc2_old _ _ _, heap_alloc2_new _ _ _⟩
      case round =>
        obtain ⟨k, hk2, rfl, hb, hg0, hg1⟩ := hrel
        by_cases hlt : (k : Int) < 4
        · have hc := cell_of_row wr _ k _ _ _ hg1
          rw [spRow_get _ _ _ k k (by omega)] at hc
          have hf := frozen_of_row wr _ k _ _ hg1
          have hv := hin k
          rw [decide_eq_true hlt, Bool.true_and] at hv
          have H0 : Hid (wr.heap[w.heap.size]? = some (.cells (spRow 4 0 1 0) 131 (0, 0))) := hg0
          have H1 : Hid (wr.heap[w.heap.size + 1]? = some (.cells (spRow 4 0 1 k) 131 (0, 0))) := hg1
          have HV : Hid (inSp 4 0 1 k = ((k : Int) / 2 ^ (1 + 1) == 0)) := hv
          clear hg0 hg1 hin hv
          go_wp2_with go_region
          go_roundw
          case rel => exact ⟨k + 1, by omega, by go_num, (hb.setCell (by simp) _).drew, by show (World.setCell _ _ _).heap[_]? = _; rw [heap_setCell_other _ _ _ _ (by simp)]; exact H0.out, by show (World.setCell _ _ _).heap[_]? = _; rw [heap_setCell_same _ _ _ _ _ _ H1.out, ← spRow_set _ _ _ k (by omega), HV.out]; rfl⟩
          case measure => simp [intOf]; omega
        · have : k = 4 := by omega
          subst this
          have e4 : spRow 4 0 1 4 = spRow 4 0 1 4 := spRow_past _ _ _ _ (by omega)
          rw [e4] at hg1
          clear e4 hin hlt hk2
          go_wp2_with (first
            | refine wpList_load_row rfl 131 _ rfl (w.heap.size + 1) rfl 131 (spRow 4 0 1 4) (0, 0) _ hg1 Tryz.underlying131 rfl hi ?_
            | refine wpList_store_row rfl 131 _ _ rfl w.heap.size (spRow 4 0 1 4) rfl rfl 131 (spRow 4 0 1 0) hg0 hi hz h1 ?_)
          refine bodyPost_ret (results_cell_row rfl _ _ w.heap.size 131 (spRow 4 0 1 4) (0, 0) _ rfl (setRow_heap _ _ _ _ _ _ hg0) Tryz.underlying131 rfl hi) rfl ⟨rfl, ?_⟩
          exact below_setRow hb (Nat.le_refl _) _
    · clear a
      go_enter Tryz.func129, Tryz.ntmps129
      go_wp2_with (go_at_call 84; refine (impl_levels _ _).mono ?_; rintro e w1 ⟨rfl, rfl⟩; first | rw [lv2] | rw [lv3] | rw [lv4])
      go_loopw [28] (fun i wr => ∃ k : Nat, (k : Int) ≤ 4 ∧ i = .int .i64 k ∧ Below w.heap.size w wr ∧ wr.heap[w.heap.size]? = some (.cells (spRow 4 1 1 0) 131 (0, 0)) ∧ wr.heap[w.heap.size + 1]? = some (.cells (spRow 4 1 1 k) 131 (0, 0)))
        (fun i _ => 4 - (intOf i).toNat)
      case atStart => exact ⟨0, by omega, rfl, ((Below.refl _ _).alloc (Nat.le_refl _) _).alloc (by simp) _, heap_alloc2_old _ _ _, heap_alloc2_new _ _ _⟩
      case round =>
        obtain ⟨k, hk2, rfl, hb, hg0, hg1⟩ := hrel
        by_cases hlt : (k : Int) < 4
        · have hc := cell_of_row wr _ k _ _ _ hg1
          rw [spRow_get _ _ _ k k (by omega)] at hc
          have hf := frozen_of_row wr _ k _ _ hg1
          have hv := hin k
          rw [decide_eq_true hlt, Bool.true_and] at hv
          have H0 : Hid (wr.heap[w.heap.size]? = some (.cells (spRow 4 1 1 0) 131 (0, 0))) := hg0
          have H1 : Hid (wr.heap[w.heap.size + 1]? = some (.cells (spRow 4 1 1 k) 131 (0, 0))) := hg1
          have HV : Hid (inSp 4 1 1 k = ((k : Int) / 2 ^ (1 + 1) == 0)) := hv
          clear hg0 hg1 hin hv
          go_wp2_with go_region
          go_roundw
          case rel => exact ⟨k + 1, by omega, by go_num, (hb.setCell (by simp) _).drew, by show (World.setCell _ _ _).heap[_]? = _; rw [heap_setCell_other _ _ _ _ (by simp)]; exact H0.out, by show (World.setCell _ _ _).heap[_]? = _; rw [heap_setCell_same _ _ _ _ _ _ H1.out, ← spRow_set _ _ _ k (by omega), HV.out]; rfl⟩
          case measure => simp [intOf]; omega
        · have : k = 4 := by omega
          subst this
          have e4 : spRow 4 1 1 4 = spRow 4 1 1 4 := spRow_past _ _ _ _ (by omega)
          rw [e4] at hg1
          clear e4 hin hlt hk2
          go_wp2_with (first
            | refine wpList_load_row rfl 131 _ rfl (w.heap.size + 1) rfl 131 (spRow 4 1 1 4) (0, 0) _ hg1 Tryz.underlying131 rfl hi ?_
            | refine wpList_store_row rfl 131 _ _ rfl w.heap.size (spRow 4 1 1 4) rfl rfl 131 (spRow 4 1 1 0) hg0 hi hz h1 ?_)
          refine bodyPost_ret (results_cell_row rfl _ _ w.heap.size 131 (spRow 4 1 1 4) (0, 0) _ rfl (setRow_heap _ _ _ _ _ _ hg0) Tryz.underlying131 rfl hi) rfl ⟨rfl, ?_⟩
          exact below_setRow hb (Nat.le_refl _) _
    · clear a
      go_enter Tryz.func129, Tryz.ntmps129
      go_wp2_with (go_at_call 84; refine (impl_levels _ _).mono ?_; rintro e w1 ⟨rfl, rfl⟩; first | rw [lv2] | rw [lv3] | rw [lv4])
      go_loopw [28] (fun i wr => ∃ k : Nat, (k : Int) ≤ 4 ∧ i = .int .i64 k ∧ Below w.heap.size w wr ∧ wr.heap[w.heap.size]? = some (.cells (spRow 4 2 1 0) 131 (0, 0)) ∧ wr.heap[w.heap.size + 1]? = some (.cells (spRow 4 2 1 k) 131 (0, 0)))
        (fun i _ => 4 - (intOf i).toNat)
      case atStart => exact ⟨0, by omega, rfl, ((Below.refl _ _).alloc (Nat.le_refl _) _).alloc (by simp) _, heap_alloc2_old _ _ _, heap_alloc2_new _ _ _⟩
      case round =>
        obtain ⟨k, hk2, rfl, hb, hg0, hg1⟩ := hrel
        by_cases hlt : (k : Int) < 4
        · have hc := cell_of_row wr _ k _ _ _ hg1
          rw [spRow_get _ _ _ k k (by omega)] at hc
          have hf := frozen_of_row wr _ k _ _ hg1
          have hv := hin k
          rw [decide_eq_true hlt, Bool.true_and] at hv
          have H0 : Hid (wr.heap[w.heap.size]? = some (.cells (spRow 4 2 1 0) 131 (0, 0))) := hg0
          have H1 : Hid (wr.heap[w.heap.size + 1]? = some (.cells (spRow 4 2 1 k) 131 (0, 0))) := hg1
          have HV : Hid (inSp 4 2 1 k = ((k : Int) / 2 ^ (1 + 1) == 0)) := hv
          clear hg0 hg1 hin hv
          go_wp2_with go_region
          go_roundw
          case rel => exact ⟨k + 1, by omega, by go_num, (hb.setCell (by simp) _).drew, by show (World.setCell _ _ _).heap[_]? = _; rw [heap_setCell_other _ _ _ _ (by simp)]; exact H0.out, by show (World.setCell _ _ _).heap[_]? = _; rw [heap_setCell_same _ _ _ _ _ _ H1.out, ← spRow_set _ _ _ k (by omega), HV.out]; rfl⟩
          case measure => simp [intOf]; omega
        · have : k = 4 := by omega
          subst this
          have e4 : spRow 4 2 1 4 = spRow 4 2 1 4 := spRow_past _ _ _ _ (by omega)
          rw [e4] at hg1
          clear e4 hin hlt hk2
          go_wp2_with (first
            | refine wpList_load_row rfl 131 _ rfl (w.heap.size + 1) rfl 131 (spRow 4 2 1 4) (0, 0) _ hg1 Tryz.underlying131 rfl hi ?_
            | refine wpList_store_row rfl 131 _ _ rfl w.heap.size (spRow 4 2 1 4) rfl rfl 131 (spRow 4 2 1 0) hg0 hi hz h1 ?_)
          refine bodyPost_ret (results_cell_row rfl _ _ w.heap.size 131 (spRow 4 2 1 4) (0, 0) _ rfl (setRow_heap _ _ _ _ _ _ hg0) Tryz.underlying131 rfl hi) rfl ⟨rfl, ?_⟩
          exact below_setRow hb (Nat.le_refl _) _
    · clear a
      go_enter Tryz.func129, Tryz.ntmps129
      go_wp2_with (go_at_call 84; refine (impl_levels _ _).mono ?_; rintro e w1 ⟨rfl, rfl⟩; first | rw [lv2] | rw [lv3] | rw [lv4])
      go_loopw [28] (fun i wr => ∃ k : Nat, (k : Int) ≤ 4 ∧ i = .int .i64 k ∧ Below w.heap.size w wr ∧ wr.heap[w.heap.size]? = some (.cells (spRow 4 3 1 0) 131 (0, 0)) ∧ wr.heap[w.heap.size + 1]? = some (.cells (spRow 4 3 1 k) 131 (0, 0)))
        (fun i _ => 4 - (intOf i).toNat)
      case atStart => exact ⟨0, by omega, rfl, ((Below.refl _ _).alloc (Nat.le_refl _) _).alloc (by simp) _, heap_alloc2_old _ _ _, heap_alloc2_new _ _ _⟩
      case round =>
        obtain ⟨k, hk2, rfl, hb, hg0, hg1⟩ := hrel
        by_cases hlt : (k : Int) < 4
        · have hc := cell_of_row wr _ k _ _ _ hg1
          rw [spRow_get _ _ _ k k (by omega)] at hc
          have hf := frozen_of_row wr _ k _ _ hg1
          have hv := hin k
          rw [decide_eq_true hlt, Bool.true_and] at hv
          have H0 : Hid (wr.heap[w.heap.size]? = some (.cells (spRow 4 3 1 0) 131 (0, 0))) := hg0
          have H1 : Hid (wr.heap[w.heap.size + 1]? = some (.cells (spRow 4 3 1 k) 131 (0, 0))) := hg1
          have HV : Hid (inSp 4 3 1 k = ((k : Int) / 2 ^ (1 + 1) == 0)) := hv
          clear hg0 hg1 hin hv
          go_wp2_with go_region
          go_roundw
          case rel => exact ⟨k + 1, by omega, by go_num, (hb.setCell (by simp) _).drew, by show (World.setCell _ _ _).heap[_]? = _; rw [heap_setCell_other _ _ _ _ (by simp)]; exact H0.out, by show (World.setCell _ _ _).heap[_]? = _; rw [heap_setCell_same _ _ _ _ _ _ H1.out, ← spRow_set _ _ _ k (by omega), HV.out]; rfl⟩
          case measure => simp [intOf]; omega
        · have : k = 4 := by omega
          subst this
          have e4 : spRow 4 3 1 4 = spRow 4 3 1 4 := spRow_past _ _ _ _ (by omega)
          rw [e4] at hg1
          clear e4 hin hlt hk2
          go_wp2_with (first
            | refine wpList_load_row rfl 131 _ rfl (w.heap.size + 1) rfl 131 (spRow 4 3 1 4) (0, 0) _ hg1 Tryz.underlying131 rfl hi ?_
            | refine wpList_store_row rfl 131 _ _ rfl w.heap.size (spRow 4 3 1 4) rfl rfl 131 (spRow 4 3 1 0) hg0 hi hz h1 ?_)
          refine bodyPost_ret (results_cell_row rfl _ _ w.heap.size 131 (spRow 4 3 1 4) (0, 0) _ rfl (setRow_heap _ _ _ _ _ _ hg0) Tryz.underlying131 rfl hi) rfl ⟨rfl, ?_⟩
          exact below_setRow hb (Nat.le_refl _) _
  · have f0 : okSp n c l = false := by simpa using a
    have e0 : spRow n c l 4 = #[.bool false, .bool false, .bool false, .bool false] := by simp [spRow, inSp, f0, List.range, List.range.loop]
    rw [e0]
    clear e0
    by_cases b1 : l < 0
    · clear f0 a
      go_enter Tryz.func129, Tryz.ntmps129
      go_wp2
      go_returns
      exact ⟨rfl, by go_grown⟩
    by_cases b2 : levelsF n ≤ l
    · clear f0 a
      go_enter Tryz.func129, Tryz.ntmps129
      go_wp2_with (go_at_call 84; refine (impl_levels _ _).mono ?_; rintro e w1 ⟨rfl, rfl⟩)
      go_returns
      exact ⟨rfl, by go_grown⟩
    by_cases b3 : c < 0
    · clear f0 a
      go_enter Tryz.func129, Tryz.ntmps129
      go_wp2_with (go_at_call 84; refine (impl_levels _ _).mono ?_; rintro e w1 ⟨rfl, rfl⟩)
      go_returns
      exact ⟨rfl, by go_grown⟩
    have b4 : n ≤ c := by
      rcases Int.lt_or_le c n with h | h
      · exact absurd (decide_eq_true ⟨by omega, h, by omega, by omega⟩) a
      · exact h
    clear f0 a
    go_enter Tryz.func129, Tryz.ntmps129
    go_wp2_with (go_at_call 84; refine (impl_levels _ _).mono ?_; rintro e w1 ⟨rfl, rfl⟩)
    go_returns
    exact ⟨rfl, by go_grown⟩
end Msk
namespace Msk
open Go.ChangeShapes Go.WideShapes Go.ChangeAt Go.RowKit Go.Shelf

theorem sp_index (b0 b1 b2 b3 : Bool) (w : World) : (Instr.index 131 (.agg #[.bool b0, .bool b1, .bool b2, .bool b3]) (.int .i64 0)).run Tryz.prog w = .ok (.bool b0) w ∧ (Instr.index 131 (.agg #[.bool b0, .bool b1, .bool b2, .bool b3]) (.int .i64 1)).run Tryz.prog w = .ok (.bool b1) w ∧ (Instr.index 131 (.agg #[.bool b0, .bool b1, .bool b2, .bool b3]) (.int .i64 2)).run Tryz.prog w = .ok (.bool b2) w ∧ (Instr.index 131 (.agg #[.bool b0, .bool b1, .bool b2, .bool b3]) (.int .i64 3)).run Tryz.prog w = .ok (.bool b3) w := by
  refine ⟨?_, ?_, ?_, ?_⟩ <;> kernel_rfl
theorem mask_any (b0 b1 b2 b3 : Bool) (w : World) : Calls Tryz.prog 130 #[.agg #[.bool b0, .bool b1, .bool b2, .bool b3]] w fun e w' => e = .returned (.int .i64 (bitI b0 1 + bitI b1 2 + bitI b2 4 + bitI b3 8)) ∧ Below w.heap.size w w' := by
  have i0 := fun w => (sp_index b0 b1 b2 b3 w).1
  have i1 := fun w => (sp_index b0 b1 b2 b3 w).2.1
  have i2 := fun w => (sp_index b0 b1 b2 b3 w).2.2.1
  have i3 := fun w => (sp_index b0 b1 b2 b3 w).2.2.2
  cases b0 <;> cases b1 <;> cases b2 <;> cases b3
  all_goals
    go_enter Tryz.func130, Tryz.ntmps130
    go_wp2
    go_rounds 5
    go_ret
    exact ⟨ret_int (by decide), by go_grown⟩
theorem spRow_four (n c l : Int) : spRow n c l 4 = #[.bool (inSp n c l 0), .bool (inSp n c l 1), .bool (inSp n c l 2), .bool (inSp n c l 3)] := by
  simp [spRow, List.range, List.range.loop]
theorem impl_span (n c l : Int) (w : World) : Calls Tryz.prog 88 #[.int .i64 n, .int .i64 c, .int .i64 l] w fun e w' => e = .returned (.int .i64 (spanM n c l)) ∧ Below w.heap.size w w' := by
  have acc := Below.refl w.heap.size w
  have hm : ∀ w, Calls Tryz.prog 130 #[.agg (spRow n c l 4)] w fun e w' => e = .returned (.int .i64 (spanM n c l)) ∧ Below w.heap.size w w' := fun w => by
    rw [spRow_four]; exact mask_any _ _ _ _ w
  go_enter Tryz.func88, Tryz.ntmps88
  go_wp2_with (first
    | (go_at_call 129; refine (spanOf_any _ _ _ _).mono ?_; rintro e w1 ⟨rfl, hb1⟩; replace acc := acc.trans (hb1.mono acc.size); clear hb1)
    | (go_at_call 130; refine (hm _).mono ?_; rintro e w1 ⟨rfl, hb1⟩; replace acc := acc.trans (hb1.mono acc.size); clear hb1))
  go_ret
  exact ⟨rfl, acc⟩

end Msk
end Go.Proofs.YtnmmglkigiakaaaGreat
