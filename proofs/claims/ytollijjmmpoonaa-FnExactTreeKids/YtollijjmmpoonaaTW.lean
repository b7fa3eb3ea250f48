/- The program's isWithin, depth: walks along the pointers to the parents. -/
import Derived.Test.YtollijjmmpoonaaTV
namespace Go.Proofs.Ytollijjmmpoonaa
set_option linter.unusedVariables false
set_option linter.unusedSimpArgs false
open Go.ChangeShapes Go.WideShapes Go.ChangeAt Go.RowKit

/-- a tree as treeOf leaves it. -/
structure TR (W : World) (ds : List Gr) (nb mb : Nat → Nat) (Dm : Nat → DataW Unit) (B : Nat) : Prop where
  ns : NS W ds 8 nb mb (parF ds) Dm 8 B
  len : ds.length = 8
  root : usAt ds 0 = true
  hung : Hung ds 8
theorem TR.below {W W' : World} {ds : List Gr} {nb mb : Nat → Nat} {Dm : Nat → DataW Unit} {B : Nat} (h : TR W ds nb mb Dm B) (hb : Below W.heap.size W W') : TR W' ds nb mb Dm B := ⟨h.ns.below hb, h.len, h.root, h.hung⟩
/-- what the walk reads at a node: the root has no parent, all others have one that is there. -/
theorem TR.at {W : World} {ds : List Gr} {nb mb : Nat → Nat} {Dm : Nat → DataW Unit} {B : Nat} (h : TR W ds nb mb Dm B) {i : Nat} (hi : i < 8) (hu : usAt ds i = true) :
    (i = 0 ∧ W.cell? ⟨nb i, 2, none⟩ = some (.pointer none)) ∨ (i ≠ 0 ∧ ∃ j : Nat, paAt ds i = (j : Int) ∧ j < 8 ∧ usAt ds j = true ∧ W.cell? ⟨nb i, 2, none⟩ = some (.pointer (some ⟨nb j, 0, none⟩))) := by
  obtain ⟨_, _, h2, _⟩ := node_cells h.ns hi hu
  by_cases h0 : i = 0
  · subst h0
    exact .inl ⟨rfl, by rw [h2]; rfl⟩
  · obtain ⟨j, hj, hj8, uj⟩ := h.hung.up h.len hi h0 hu
    refine .inr ⟨h0, j, hj, hj8, uj, ?_⟩
    rw [h2]
    unfold parF
    rw [if_neg h0, hj]
    rfl
set_option maxHeartbeats 4000000 in
theorem within_any (ds : List Gr) (nb mb : Nat → Nat) (Dm : Nat → DataW Unit) (B i : Nat) (w : World) (h : TR w ds nb mb Dm B) (hi : i < 8) (hu : usAt ds i = true) :
    Calls Try.prog 54 #[.pointer (some ⟨nb i, 0, none⟩), .int .i64 3] w fun e w' => e = .returned (.bool (withinF ds 3 i)) ∧ w' = w := by
  have HT : Hid (TR w ds nb mb Dm B) := h
  clear h
  go_enter Try.func54, Try.ntmps54
  go_wp2
  go_loop [0, 6] (fun n c => ∃ (s j : Nat), s ≤ 3 ∧ j < 8 ∧ usAt ds j = true ∧ n = .pointer (some ⟨nb j, 0, none⟩) ∧ c = .int .i64 (s : Int) ∧ withinF ds 3 i = withinF ds (3 - s) j) (fun _ c => 3 - (intOf c).toNat)
  case atStart => exact ⟨0, i, by omega, hi, hu, rfl, rfl, rfl⟩
  case round =>
    obtain ⟨s, j, hs, hj, uj, rfl, rfl, hw⟩ := hrel
    rcases HT.out.at hj uj with ⟨rfl, hc⟩ | ⟨h0, j', hp, hj', uj', hc⟩
    · have hw' : withinF ds 3 i = true := by
        rw [hw]
        cases 3 - s <;> simp [withinF]
      have HW : Hid (withinF ds 3 i = true) := hw'
      clear hw hw'
      by_cases hlt : (s : Int) < 3
      · go_wp2
        go_ret
        exact ⟨by rw [HW.out]; rfl, rfl⟩
      · go_wp2
        go_ret
        exact ⟨by rw [HW.out]; rfl, rfl⟩
    · by_cases hlt : (s : Int) < 3
      · have hw' : withinF ds 3 i = withinF ds (3 - (s + 1)) j' := by
          rw [hw]
          obtain ⟨t, ht⟩ : ∃ t, 3 - s = t + 1 := ⟨2 - s, by omega⟩
          rw [ht, show 3 - (s + 1) = t by omega]
          unfold withinF
          rw [hp, Int.toNat_natCast]
          have : (j == 0) = false := by simpa using h0
          rw [this]
          cases t <;> rfl
        have HW : Hid (withinF ds 3 i = withinF ds (3 - (s + 1)) j') := hw'
        clear hw hw'
        go_wp2
        exact ⟨⟨s + 1, j', by omega, hj', uj', rfl, by go_num, HW.out⟩, by simp [intOf]; omega⟩
      · have hs3 : s = 3 := by omega
        subst hs3
        have hw' : withinF ds 3 i = false := by rw [hw]; simpa [withinF] using h0
        have HW : Hid (withinF ds 3 i = false) := hw'
        clear hw hw'
        go_wp2
        go_ret
        exact ⟨by rw [HW.out]; rfl, rfl⟩
end Go.Proofs.Ytollijjmmpoonaa
