/- The program's tree in memory: nodes with pointers to their parents, each with a map of the names in it. -/
import Derived.Test.YtollijjmmpoonaaTS
import Derived.Maps.OwnSet
import Derived.Maps.OwnOps
import Derived.Maps.Views
import Derived.StringKeys
import Derived.Laws.CopyOwn
namespace Go.Proofs.Ytollijjmmpoonaa
set_option linter.unusedVariables false
set_option linter.unusedSimpArgs false
open Go.ChangeShapes Go.WideShapes Go.ChangeAt Go.RowKit
open Go.Maps (Keyed)

theorem strKeyed : Keyed Try.prog 9 := Keyed.of_law (Go.WideMaps.string_law Try.underlying9)
/-- the pointer that stands for a place in the array: to its node, where it is below n and used. -/
def tP (ds : List Gr) (nb : Nat → Nat) (n i : Nat) : Value := if i < n ∧ usAt ds i = true then .pointer (some ⟨nb i, 0, none⟩) else .pointer none
def tRow (ds : List Gr) (nb : Nat → Nat) (n : Nat) : Array Value := ((List.range 8).map (tP ds nb n)).toArray
theorem tRow_size (ds : List Gr) (nb : Nat → Nat) (n : Nat) : (tRow ds nb n).size = 8 := by simp [tRow]
theorem tRow_get (ds : List Gr) (nb : Nat → Nat) (n i : Nat) (h : i < 8) : (tRow ds nb n)[i]? = some (tP ds nb n i) := by simp [tRow, h]
theorem tRow_one (ds : List Gr) (nb : Nat → Nat) (n : Nat) : (tRow ds nb n).all (·.oneCell') = true := by
  simp only [tRow, List.all_toArray, List.all_map, List.all_eq_true]
  intro i _
  show (tP ds nb n i).oneCell' = true
  unfold tP
  split <;> rfl
theorem tP_used {ds : List Gr} {nb : Nat → Nat} {n i : Nat} (h : i < n) (hu : usAt ds i = true) : tP ds nb n i = .pointer (some ⟨nb i, 0, none⟩) := by unfold tP; rw [if_pos ⟨h, hu⟩]
theorem tP_unused {ds : List Gr} {nb : Nat → Nat} {n i : Nat} (hu : usAt ds i = false) : tP ds nb n i = .pointer none := by unfold tP; rw [if_neg (by rw [hu]; simp)]
theorem tP_past {ds : List Gr} {nb : Nat → Nat} {n i : Nat} (h : n ≤ i) : tP ds nb n i = .pointer none := by unfold tP; rw [if_neg (by omega)]
theorem tRow_ext {a b : Array Value} (ha : a.size = 8) (hb : b.size = 8) (h : ∀ i, i < 8 → a[i]? = b[i]?) : a = b := by
  apply Array.ext (by rw [ha, hb])
  intro i h1 h2
  have := h i (by omega)
  rw [Array.getElem?_eq_getElem h1, Array.getElem?_eq_getElem h2] at this
  exact Option.some.inj this
def upd {α : Type} (f : Nat → α) (k : Nat) (x : α) : Nat → α := fun i => if i = k then x else f i
theorem upd_same {α : Type} (f : Nat → α) (k : Nat) (x : α) : upd f k x k = x := if_pos rfl
theorem upd_other {α : Type} (f : Nat → α) {k i : Nat} (x : α) (h : i ≠ k) : upd f k x i = f i := if_neg h
theorem tRow_put (ds : List Gr) (nb : Nat → Nat) (k b : Nat) (hk : k < 8) (hu : usAt ds k = true) : (tRow ds nb k).setIfInBounds k (.pointer (some ⟨b, 0, none⟩)) = tRow ds (upd nb k b) (k + 1) := by
  refine tRow_ext (by simp [tRow_size]) (tRow_size _ _ _) fun i hi => ?_
  rw [Array.getElem?_setIfInBounds, tRow_get _ _ _ i hi, tRow_get _ _ _ i hi, tRow_size]
  by_cases e : k = i
  · subst e
    rw [if_pos rfl, if_pos hk, tP_used (by omega) hu, upd_same]
  · rw [if_neg e]
    congr 1
    unfold tP
    rw [upd_other _ _ (Ne.symm e)]
    have : (i < k ∧ usAt ds i = true) ↔ (i < k + 1 ∧ usAt ds i = true) := by
      constructor
      · rintro ⟨h1, h2⟩; exact ⟨by omega, h2⟩
      · rintro ⟨h1, h2⟩; exact ⟨by omega, h2⟩
    simp only [this]
theorem tRow_skip (ds : List Gr) (nb : Nat → Nat) (k : Nat) (hu : usAt ds k = false) : tRow ds nb k = tRow ds nb (k + 1) := by
  refine tRow_ext (tRow_size _ _ _) (tRow_size _ _ _) fun i hi => ?_
  rw [tRow_get _ _ _ i hi, tRow_get _ _ _ i hi]
  congr 1
  by_cases e : i = k
  · subst e; rw [tP_unused hu, tP_unused hu]
  · unfold tP
    have : (i < k ∧ usAt ds i = true) ↔ (i < k + 1 ∧ usAt ds i = true) := by
      constructor
      · rintro ⟨h1, h2⟩; exact ⟨by omega, h2⟩
      · rintro ⟨h1, h2⟩; exact ⟨by omega, h2⟩
    simp only [this]
theorem tRow_none (ds : List Gr) (nb : Nat → Nat) : tRow ds nb 0 = #[.pointer none, .pointer none, .pointer none, .pointer none, .pointer none, .pointer none, .pointer none, .pointer none] := by
  refine tRow_ext (tRow_size _ _ _) rfl fun i hi => ?_
  rw [tRow_get _ _ _ i hi, tP_past (by omega)]
  match i, hi with
  | 0, _ => rfl
  | 1, _ => rfl
  | 2, _ => rfl
  | 3, _ => rfl
  | 4, _ => rfl
  | 5, _ => rfl
  | 6, _ => rfl
  | 7, _ => rfl
theorem info_tree : (Try.prog.info? 56).map (·.size) = some 8 := by kernel_rfl
theorem info_treeR (ds : List Gr) (nb : Nat → Nat) (n : Nat) : (Try.prog.info? 56).map (·.size) = some (tRow ds nb n).size := by rw [tRow_size]; exact info_tree

/-- what a place of the array tells. -/
def atP (ds : List Gr) (nb : Nat → Nat) (n : Nat) (g : Int) : Value := if 0 ≤ g ∧ g < 8 then tP ds nb n g.toNat else .pointer none
set_option maxHeartbeats 2000000 in
theorem at_any (ds : List Gr) (nb : Nat → Nat) (n : Nat) (g : Int) (w : World) :
    Calls Try.prog 34 #[.agg (tRow ds nb n), .int .i64 g] w fun e w' => e = .returned (atP ds nb n g) ∧ Below w.heap.size w w' := by
  by_cases a : g < 0
  · have e0 : atP ds nb n g = .pointer none := by unfold atP; rw [if_neg (by omega)]
    rw [e0]
    clear e0
    go_enter Try.func34, Try.ntmps34
    go_wp2
    go_ret
    exact ⟨rfl, by go_grown⟩
  · by_cases b : 8 ≤ g
    · have e0 : atP ds nb n g = .pointer none := by unfold atP; rw [if_neg (by omega)]
      rw [e0]
      clear e0
      go_enter Try.func34, Try.ntmps34
      go_wp2
      go_ret
      exact ⟨rfl, by go_grown⟩
    · obtain ⟨k, rfl⟩ := Int.eq_ofNat_of_zero_le (show 0 ≤ g by omega)
      have e0 : atP ds nb n (k : Int) = tP ds nb n k := by unfold atP; rw [if_pos (by omega)]; rfl
      rw [e0]
      have hc := cell_of_row (w.alloc (.cells (tRow ds nb n) 56 (0, 0))) w.heap.size k _ _ _ (heap_alloc_new _ _)
      rw [tRow_get ds nb n k (by omega)] at hc
      clear e0
      go_enter Try.func34, Try.ntmps34
      go_wp2
      go_ret
      exact ⟨rfl, by go_grown⟩
end Go.Proofs.Ytollijjmmpoonaa
