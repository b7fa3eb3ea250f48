/- Contracts of the functions of chapter 1, of the program and of its specification: what each answers at every argument; no memory that was there is written. Contracts of the functions of chapter 3, of the program and of its specification: what each answers at every argument; no memory that was there is written. -/
import Derived.Test.YtnmmglkigiakaaaGreatRows
import Derived.WalkKit
import Derived.ProofKit
import Derived.OpenShut
import Derived.ShutString
import Derived.WalkLawsBesides
import Derived.LoopTactic
import Derived.Outline
import Derived.Handy
import Derived.Laws.CopyOwn
namespace Go.Proofs.YtnmmglkigiakaaaGreat
set_option maxRecDepth 100000
set_option maxHeartbeats 32000000
open Go.ChangeShapes Go.WideShapes Go.ChangeAt Go.RowKit
def stepAt (k i : Nat) : Int := if 1 ≤ i ∧ i < k then 232792560 / (i : Int) else 0
def stepRow (k : Nat) : Array Value := ((List.range 21).map fun i => Value.int .i64 (stepAt k i)).toArray
theorem stepRow_size (k : Nat) : (stepRow k).size = 21 := by simp [stepRow]
theorem stepRow_get (k i : Nat) (h : i < 21) : (stepRow k)[i]? = some (.int .i64 (stepAt k i)) := by
  simp [stepRow, h]
theorem stepRow_set (k : Nat) (h1 : 1 ≤ k) (_h : k < 21) : (stepRow k).setIfInBounds k (.int .i64 (232792560 / (k : Int))) = stepRow (k + 1) := by
  apply Array.ext
  · simp [stepRow]
  · intro i hi1 hi2
    simp only [Array.size_setIfInBounds, stepRow_size] at hi1
    rw [Array.getElem_setIfInBounds (by simpa [stepRow_size] using hi1)]
    simp only [stepRow, List.getElem_toArray, List.getElem_map, List.getElem_range, stepAt]
    by_cases e : k = i
    · subst e; simp [h1]
    · rw [if_neg e]
      have : (1 ≤ i ∧ i < k) ↔ (1 ≤ i ∧ i < k + 1) := by omega
      simp only [this]

theorem info21 : (Tryz.prog.info? 175).map (·.size) = some 21 := by kernel_rfl

theorem steps_any (w : World) : Calls Tryz.prog 189 #[] w fun e w' => e = .returned (.agg (stepRow 21)) ∧ Below w.heap.size w w' := by
  go_enter Tryz.func189, Tryz.ntmps189
  go_wp2
  go_loopw [2] (fun i wr => ∃ k : Nat, 1 ≤ k ∧ k ≤ 21 ∧ i = .int .i64 k ∧ Below w.heap.size w wr ∧ wr.heap[w.heap.size]? = some (.cells (stepRow 0) 175 (0, 0)) ∧ wr.heap[w.heap.size + 1]? = some (.cells (stepRow k) 175 (0, 0)))
    (fun i _ => 21 - (intOf i).toNat)
  case atStart => exact ⟨1, by omega, by omega, rfl, ((Below.refl _ _).alloc (Nat.le_refl _) _).alloc (by simp) _, heap_alloc2_old _ _ _, heap_alloc2_new _ _ _⟩
  case round =>
    obtain ⟨k, hk1, hk2, rfl, hb, hg0, hg1⟩ := hrel
    by_cases hlt : k < 21
    · have hc := cell_of_row wr _ k _ _ _ hg1
      rw [stepRow_get k k hlt] at hc
      have hf := frozen_of_row wr _ k _ _ hg1
      have H0 : Hid (wr.heap[w.heap.size]? = some (.cells (stepRow 0) 175 (0, 0))) := hg0
      have H1 : Hid (wr.heap[w.heap.size + 1]? = some (.cells (stepRow k) 175 (0, 0))) := hg1
      clear hg0 hg1
      go_wp2
      go_roundw
      case rel => exact ⟨k + 1, by omega, by omega, by go_num, hb.setCell (by simp) _, by rw [heap_setCell_other _ _ _ _ (by simp)]; exact H0.out, by rw [heap_setCell_same _ _ _ _ _ _ H1.out, stepRow_set k hk1 hlt]⟩
      case measure => simp [intOf]; omega
    · have : k = 21 := by omega
      subst this
      have hi : (Tryz.prog.info? 175).map (·.size) = some (stepRow 21).size := by rw [stepRow_size]; exact info21
      have hz : (stepRow 0).size = (stepRow 21).size := by rw [stepRow_size, stepRow_size]
      have h1 : (stepRow 21).all (·.oneCell') = true := by decide +kernel
      go_wp2_with (first
        | refine wpList_load_row rfl 175 _ rfl (w.heap.size + 1) rfl 175 (stepRow 21) (0, 0) _ hg1 Tryz.underlying175 rfl hi ?_
        | refine wpList_store_row rfl 175 _ _ rfl w.heap.size (stepRow 21) rfl rfl 175 (stepRow 0) hg0 hi hz h1 ?_)
      refine bodyPost_ret (results_cell_row rfl _ _ w.heap.size 175 (stepRow 21) (0, 0) _ rfl (setRow_heap _ _ _ _ _ _ hg0) Tryz.underlying175 rfl hi) rfl ⟨rfl, ?_⟩
      exact below_setRow hb (Nat.le_refl _) _

theorem steps_index (n : Int) (h1 : 1 ≤ n) (h2 : n ≤ 20) (w : World) : (Instr.index 175 (.agg (stepRow 21)) (.int .i64 n)).run Tryz.prog w = .ok (.int .i64 (232792560 / n)) w := by
  have h : n = 1 ∨ n = 2 ∨ n = 3 ∨ n = 4 ∨ n = 5 ∨ n = 6 ∨ n = 7 ∨ n = 8 ∨ n = 9 ∨ n = 10 ∨ n = 11 ∨ n = 12 ∨ n = 13 ∨ n = 14 ∨ n = 15 ∨ n = 16 ∨ n = 17 ∨ n = 18 ∨ n = 19 ∨ n = 20 := by omega
  rcases h with rfl | rfl | rfl | rfl | rfl | rfl | rfl | rfl | rfl | rfl | rfl | rfl | rfl | rfl | rfl | rfl | rfl | rfl | rfl | rfl <;> (show _ = _; kernel_rfl)

def vstep (u n : Int) : Int := if 0 ≤ u ∧ u ≤ 100000000 ∧ 1 ≤ n ∧ n ≤ 20 then u * (232792560 / n) else 0
def wof (n : Int) : Int := if -10 ≤ n ∧ n ≤ 9 then 10 - n else 0

theorem div_bd (n : Int) (h1 : 1 ≤ n) (h2 : n ≤ 20) : 11639628 ≤ 232792560 / n ∧ 232792560 / n ≤ 232792560 := by
  have h : n = 1 ∨ n = 2 ∨ n = 3 ∨ n = 4 ∨ n = 5 ∨ n = 6 ∨ n = 7 ∨ n = 8 ∨ n = 9 ∨ n = 10 ∨ n = 11 ∨ n = 12 ∨ n = 13 ∨ n = 14 ∨ n = 15 ∨ n = 16 ∨ n = 17 ∨ n = 18 ∨ n = 19 ∨ n = 20 := by omega
  rcases h with rfl | rfl | rfl | rfl | rfl | rfl | rfl | rfl | rfl | rfl | rfl | rfl | rfl | rfl | rfl | rfl | rfl | rfl | rfl | rfl <;> decide

theorem mul_bd (u d : Int) (h1 : 0 ≤ u) (h2 : u ≤ 100000000) (h3 : 11639628 ≤ d) (h4 : d ≤ 232792560) : 0 ≤ u * d ∧ u * d ≤ 23279256000000000 := by
  have a := Int.mul_nonneg h1 (by omega : 0 ≤ d)
  have b := Int.mul_le_mul h2 h4 (by omega) (by omega)
  omega

theorem ret_int {k : IntKind} {a b : Int} (h : a = b) : Ending.returned (.int k a) = .returned (.int k b) := by rw [h]

theorem isWeight_yes (n : Int) (w : World) (h1 : 1 ≤ n) (h2 : n ≤ 20) : Calls Tryz.prog 142 #[.int .i64 n] w fun e w' => e = .returned (.bool true) ∧ w' = w := by
  go_enter Tryz.func142, Tryz.ntmps142
  go_wp2
  go_ret
  exact ⟨rfl, rfl⟩

theorem isWeight_no (n : Int) (w : World) (h : n < 1 ∨ 20 < n) : Calls Tryz.prog 142 #[.int .i64 n] w fun e w' => e = .returned (.bool false) ∧ w' = w := by
  by_cases a : 1 ≤ n
  · have b : ¬ n ≤ 20 := by omega
    clear h
    go_enter Tryz.func142, Tryz.ntmps142
    go_wp2
    go_ret
    exact ⟨rfl, rfl⟩
  · clear h
    go_enter Tryz.func142, Tryz.ntmps142
    go_wp2
    go_ret
    exact ⟨rfl, rfl⟩

theorem l1In_yes (n l h : Int) (w : World) (h1 : l ≤ n) (h2 : n ≤ h) : Calls Tryz.prog 33 #[.int .i64 n, .int .i64 l, .int .i64 h] w fun e w' => e = .returned (.bool true) ∧ w' = w := by
  go_enter Tryz.func33, Tryz.ntmps33
  go_wp2
  go_ret
  exact ⟨rfl, rfl⟩

theorem l1In_no (n l h : Int) (w : World) (hh : n < l ∨ h < n) : Calls Tryz.prog 33 #[.int .i64 n, .int .i64 l, .int .i64 h] w fun e w' => e = .returned (.bool false) ∧ w' = w := by
  by_cases a : l ≤ n
  · have b : ¬ n ≤ h := by omega
    clear hh
    go_enter Tryz.func33, Tryz.ntmps33
    go_wp2
    go_ret
    exact ⟨rfl, rfl⟩
  · clear hh
    go_enter Tryz.func33, Tryz.ntmps33
    go_wp2
    go_ret
    exact ⟨rfl, rfl⟩

def l1in (n l h : Int) : Bool := decide (l ≤ n ∧ n ≤ h)
theorem l1in_yes {n l h : Int} (h1 : l ≤ n) (h2 : n ≤ h) : l1in n l h = true := decide_eq_true ⟨h1, h2⟩
theorem l1in_no {n l h : Int} (hh : n < l ∨ h < n) : l1in n l h = false := decide_eq_false (by omega)
theorem l1In_any (n l h : Int) (w : World) : Calls Tryz.prog 33 #[.int .i64 n, .int .i64 l, .int .i64 h] w fun e w' => e = .returned (.bool (l1in n l h)) ∧ w' = w := by
  by_cases a : l ≤ n ∧ n ≤ h
  · rw [l1in_yes a.1 a.2]; exact l1In_yes n l h w a.1 a.2
  · rw [l1in_no (by omega)]; exact l1In_no n l h w (by omega)

theorem l1Weight_yes (n : Int) (w : World) (h1 : 1 ≤ n) (h2 : n ≤ 20) : Calls Tryz.prog 99 #[.int .i64 n] w fun e w' => e = .returned (.bool true) ∧ w' = w := by
  go_enter Tryz.func99, Tryz.ntmps99
  go_wp2_with (go_at_call 33; refine (l1In_yes _ _ _ _ (by omega) (by omega)).mono ?_; rintro e w' ⟨rfl, rfl⟩)
  go_ret
  exact ⟨rfl, rfl⟩

theorem l1Weight_no (n : Int) (w : World) (h : n < 1 ∨ 20 < n) : Calls Tryz.prog 99 #[.int .i64 n] w fun e w' => e = .returned (.bool false) ∧ w' = w := by
  go_enter Tryz.func99, Tryz.ntmps99
  go_wp2_with (go_at_call 33; refine (l1In_no _ _ _ _ (by omega)).mono ?_; rintro e w' ⟨rfl, rfl⟩)
  go_ret
  exact ⟨rfl, rfl⟩

theorem impl_vstep (u n : Int) (w : World) : Calls Tryz.prog 176 #[.int .i64 u, .int .i64 n] w fun e w' => e = .returned (.int .i64 (vstep u n)) ∧ Below w.heap.size w w' := by
  by_cases a : u < 0
  · rw [show vstep u n = 0 by unfold vstep; rw [if_neg (by omega)]]
    go_enter Tryz.func176, Tryz.ntmps176
    go_wp2
    go_ret
    exact ⟨rfl, Below.refl _ _⟩
  by_cases b : 100000000 < u
  · rw [show vstep u n = 0 by unfold vstep; rw [if_neg (by omega)]]
    go_enter Tryz.func176, Tryz.ntmps176
    go_wp2
    go_ret
    exact ⟨rfl, Below.refl _ _⟩
  by_cases c : 1 ≤ n ∧ n ≤ 20
  · obtain ⟨c, d⟩ := c
    have hd := div_bd n c d
    have hm := mul_bd u (232792560 / n) (by omega) (by omega) hd.1 hd.2
    have hx := steps_index n c d
    rw [show vstep u n = u * (232792560 / n) by unfold vstep; rw [if_pos (by omega)]]
    go_enter Tryz.func176, Tryz.ntmps176
    go_wp2_with (first | (go_at_call 189; refine (steps_any _).mono ?_; rintro e w' ⟨rfl, hb⟩) | (go_at_call 142; refine (isWeight_yes _ _ c d).mono ?_; rintro e w' ⟨rfl, rfl⟩))
    go_ret
    exact ⟨rfl, hb⟩
  · have hn : n < 1 ∨ 20 < n := by omega
    rw [show vstep u n = 0 by unfold vstep; rw [if_neg (by omega)]]
    clear c
    go_enter Tryz.func176, Tryz.ntmps176
    go_wp2_with (go_at_call 142; refine (isWeight_no _ _ hn).mono ?_; rintro e w' ⟨rfl, rfl⟩)
    go_ret
    exact ⟨rfl, Below.refl _ _⟩

theorem spec_vstep (u n : Int) (w : World) : Calls Tryz.prog 137 #[.int .i64 u, .int .i64 n] w fun e w' => e = .returned (.int .i64 (vstep u n)) ∧ w' = w := by
  by_cases c : 1 ≤ n ∧ n ≤ 20
  · obtain ⟨c, d⟩ := c
    by_cases a : 0 ≤ u ∧ u ≤ 100000000
    · obtain ⟨a, b⟩ := a
      have hd := div_bd n c d
      have hm := mul_bd u (232792560 / n) (by omega) (by omega) hd.1 hd.2
      rw [show vstep u n = u * (232792560 / n) by unfold vstep; rw [if_pos (by omega)]]
      go_enter Tryz.func137, Tryz.ntmps137
      go_wp2_with (first | (go_at_call 33; refine (l1In_yes _ _ _ _ (by omega) (by omega)).mono ?_; rintro e w' ⟨rfl, rfl⟩) | (go_at_call 99; refine (l1Weight_yes _ _ c d).mono ?_; rintro e w' ⟨rfl, rfl⟩))
      go_ret
      exact ⟨rfl, rfl⟩
    · rw [show vstep u n = 0 by unfold vstep; rw [if_neg (by omega)]]
      have hu : u < 0 ∨ 100000000 < u := by omega
      clear a
      go_enter Tryz.func137, Tryz.ntmps137
      go_wp2_with (first | (go_at_call 33; refine (l1In_no _ _ _ _ hu).mono ?_; rintro e w' ⟨rfl, rfl⟩) | (go_at_call 99; refine (l1Weight_yes _ _ c d).mono ?_; rintro e w' ⟨rfl, rfl⟩))
      go_ret
      exact ⟨rfl, rfl⟩
  · have hn : n < 1 ∨ 20 < n := by omega
    rw [show vstep u n = 0 by unfold vstep; rw [if_neg (by omega)]]
    clear c
    go_enter Tryz.func137, Tryz.ntmps137
    go_wp2_with (go_at_call 99; refine (l1Weight_no _ _ hn).mono ?_; rintro e w' ⟨rfl, rfl⟩)
    go_ret
    exact ⟨rfl, rfl⟩

theorem spec_lagmost (n : Int) (w : World) : Calls Tryz.prog 136 #[.int .i64 n] w fun e w' => e = .returned (.int .i64 (vstep 149 n)) ∧ w' = w := by
  go_enter Tryz.func136, Tryz.ntmps136
  go_wp2_with (go_at_call 137; refine (spec_vstep _ _ _).mono ?_; rintro e w' ⟨rfl, rfl⟩)
  go_ret
  exact ⟨rfl, rfl⟩


theorem impl_wof (n : Int) (w : World) : Calls Tryz.prog 120 #[.int .i64 n] w fun e w' => e = .returned (.int .i64 (wof n)) ∧ w' = w := by
  by_cases a : -10 ≤ n
  · by_cases b : n ≤ 9
    · rw [show wof n = 10 - n by unfold wof; rw [if_pos ⟨a, b⟩]]
      go_enter Tryz.func120, Tryz.ntmps120
      go_wp2
      go_ret
      exact ⟨rfl, rfl⟩
    · rw [show wof n = 0 by unfold wof; rw [if_neg (by omega)]]
      go_enter Tryz.func120, Tryz.ntmps120
      go_wp2
      go_ret
      exact ⟨rfl, rfl⟩
  · rw [show wof n = 0 by unfold wof; rw [if_neg (by omega)]]
    go_enter Tryz.func120, Tryz.ntmps120
    go_wp2
    go_ret
    exact ⟨rfl, rfl⟩

theorem spec_wof (n : Int) (w : World) : Calls Tryz.prog 72 #[.int .i64 n] w fun e w' => e = .returned (.int .i64 (wof n)) ∧ w' = w := by
  by_cases a : -10 ≤ n
  · by_cases b : n ≤ 9
    · rw [show wof n = 10 - n by unfold wof; rw [if_pos ⟨a, b⟩]]
      go_enter Tryz.func72, Tryz.ntmps72
      go_wp2
      go_ret
      exact ⟨rfl, rfl⟩
    · rw [show wof n = 0 by unfold wof; rw [if_neg (by omega)]]
      go_enter Tryz.func72, Tryz.ntmps72
      go_wp2
      go_ret
      exact ⟨rfl, rfl⟩
  · rw [show wof n = 0 by unfold wof; rw [if_neg (by omega)]]
    go_enter Tryz.func72, Tryz.ntmps72
    go_wp2
    go_ret
    exact ⟨rfl, rfl⟩





theorem bnd0 (w : World) : (Instr.index 173 (.agg #[.int .i64 8000000, .int .i64 1000000, .int .i64 20]) (.int .i64 0)).run Tryz.prog w = .ok (.int .i64 8000000) w := by kernel_rfl
theorem bnd1 (w : World) : (Instr.index 173 (.agg #[.int .i64 8000000, .int .i64 1000000, .int .i64 20]) (.int .i64 1)).run Tryz.prog w = .ok (.int .i64 1000000) w := by kernel_rfl
theorem bnd2 (w : World) : (Instr.index 173 (.agg #[.int .i64 8000000, .int .i64 1000000, .int .i64 20]) (.int .i64 2)).run Tryz.prog w = .ok (.int .i64 20) w := by kernel_rfl

theorem bounds_any (w : World) : Calls Tryz.prog 188 #[] w fun e w' => e = .returned (.agg #[.int .i64 8000000, .int .i64 1000000, .int .i64 20]) ∧ Below w.heap.size w w' := by
  go_enter Tryz.func188, Tryz.ntmps188
  go_wp2
  refine bodyPost_ret (v := .agg #[.int .i64 8000000, .int .i64 1000000, .int .i64 20]) (by simp [results, Tryz.results188, go_sem]) rfl ⟨rfl, ?_⟩
  exact (Below.refl _ _).alloc (Nat.le_refl _) _

theorem inB_yes (k m n : Int) (w : World) (hx : ∀ w, (Instr.index 173 (.agg #[.int .i64 8000000, .int .i64 1000000, .int .i64 20]) (.int .i64 k)).run Tryz.prog w = .ok (.int .i64 m) w) (h1 : 0 ≤ n) (h2 : n ≤ m) :
    Calls Tryz.prog 173 #[.int .i64 k, .int .i64 n] w fun e w' => e = .returned (.bool true) ∧ Below w.heap.size w w' := by
  go_enter Tryz.func173, Tryz.ntmps173
  go_wp2_with (go_at_call 188; refine (bounds_any _).mono ?_; rintro e w' ⟨rfl, hb⟩)
  go_ret
  exact ⟨rfl, hb⟩
theorem inB_no (k m n : Int) (w : World) (hx : ∀ w, (Instr.index 173 (.agg #[.int .i64 8000000, .int .i64 1000000, .int .i64 20]) (.int .i64 k)).run Tryz.prog w = .ok (.int .i64 m) w) (h : n < 0 ∨ m < n) :
    Calls Tryz.prog 173 #[.int .i64 k, .int .i64 n] w fun e w' => e = .returned (.bool false) ∧ Below w.heap.size w w' := by
  by_cases a : 0 ≤ n
  · have b : ¬ n ≤ m := by omega
    clear h
    go_enter Tryz.func173, Tryz.ntmps173
    go_wp2_with (go_at_call 188; refine (bounds_any _).mono ?_; rintro e w' ⟨rfl, hb⟩)
    have hd : decide (n ≤ m) = false := by simpa using b
    go_ret
    exact ⟨by simp [hd], hb⟩
  · clear h
    go_enter Tryz.func173, Tryz.ntmps173
    go_wp2
    go_ret
    exact ⟨rfl, Below.refl _ _⟩

def bndOf (k : Int) : Int := if k = 0 then 8000000 else if k = 1 then 1000000 else 20
def inBd (k n : Int) : Bool := decide (0 ≤ n ∧ n ≤ bndOf k)
theorem inBd_yes {k n : Int} (h1 : 0 ≤ n) (h2 : n ≤ bndOf k) : inBd k n = true := decide_eq_true ⟨h1, h2⟩
theorem inBd_no {k n : Int} (hh : n < 0 ∨ bndOf k < n) : inBd k n = false := decide_eq_false (by omega)
theorem inB_any (k n : Int) (w : World) (hk : k = 0 ∨ k = 1 ∨ k = 2) : Calls Tryz.prog 173 #[.int .i64 k, .int .i64 n] w fun e w' => e = .returned (.bool (inBd k n)) ∧ Below w.heap.size w w' := by
  have hx : ∀ w, (Instr.index 173 (.agg #[.int .i64 8000000, .int .i64 1000000, .int .i64 20]) (.int .i64 k)).run Tryz.prog w = .ok (.int .i64 (bndOf k)) w := by
    rcases hk with rfl | rfl | rfl
    · exact bnd0
    · exact bnd1
    · exact bnd2
  by_cases a : 0 ≤ n ∧ n ≤ bndOf k
  · rw [inBd_yes a.1 a.2]; exact inB_yes k _ n w hx a.1 a.2
  · rw [inBd_no (by omega)]; exact inB_no k _ n w hx (by omega)

end Go.Proofs.YtnmmglkigiakaaaGreat
