/- The program's hang: a node put into its parent. -/
import Derived.Test.YtollijjmmpoonaaTQ
import Derived.Deep.RegionHeld3
namespace Go.Proofs.Ytollijjmmpoonaa
set_option linter.unusedVariables false
set_option linter.unusedSimpArgs false
open Go.ChangeShapes Go.WideShapes Go.ChangeAt Go.RowKit

theorem tRow_eight (ds : List Gr) (nb : Nat → Nat) (n : Nat) : tRow ds nb n = #[tP ds nb n 0, tP ds nb n 1, tP ds nb n 2, tP ds nb n 3, tP ds nb n 4, tP ds nb n 5, tP ds nb n 6, tP ds nb n 7] := by
  simp [tRow, List.range, List.range.loop]
theorem cells8 {w : World} {b : Nat} {c0 c1 c2 c3 c4 c5 c6 c7 : Value} {t : TypeId} (h : w.heap[b]? = some (.cells #[c0, c1, c2, c3, c4, c5, c6, c7] t (0, 0))) :
    w.cell? ⟨b, 0, none⟩ = some c0 ∧ w.cell? ⟨b, 1, none⟩ = some c1 ∧ w.cell? ⟨b, 2, none⟩ = some c2 ∧ w.cell? ⟨b, 3, none⟩ = some c3 ∧ w.cell? ⟨b, 4, none⟩ = some c4 ∧ w.cell? ⟨b, 5, none⟩ = some c5 ∧ w.cell? ⟨b, 6, none⟩ = some c6 ∧ w.cell? ⟨b, 7, none⟩ = some c7 := by
  refine ⟨?_, ?_, ?_, ?_, ?_, ?_, ?_, ?_⟩ <;> simp [World.cell?, h]

theorem usedB_at {ds : List Gr} (h8 : ds.length = 8) {p : Int} (h : usedB ds p = true) (nb : Nat → Nat) : ∃ j : Nat, p = (j : Int) ∧ j < 8 ∧ usAt ds j = true ∧ atP ds nb 8 p = .pointer (some ⟨nb j, 0, none⟩) := by
  obtain ⟨j, rfl, hj, hu⟩ := usedB_yes h
  rw [h8] at hj
  exact ⟨j, rfl, hj, hu, by unfold atP; rw [if_pos (by omega), Int.toNat_natCast, tP_used hj hu]⟩
theorem unusedB_at {ds : List Gr} (h8 : ds.length = 8) {p : Int} (h : usedB ds p = false) (nb : Nat → Nat) : atP ds nb 8 p = .pointer none := by
  unfold atP
  split
  · rename_i hp
    obtain ⟨j, rfl⟩ := Int.eq_ofNat_of_zero_le hp.1
    unfold usedB at h
    rw [h8, decide_eq_true hp.1, decide_eq_true (by omega)] at h
    rw [Int.toNat_natCast]
    exact tP_unused (by simpa using h)
  · rfl

set_option maxHeartbeats 8000000 in
theorem hang_orphan (ds : List Gr) (nb : Nat → Nat) (k : Nat) (p : Int) (w : World) (h8 : ds.length = 8) (hk : k < 8) (hu : usAt ds k = true) (hp : usedB ds p = false) :
    Calls Try.prog 53 #[.agg (tRow ds nb 8), .int .i64 (k : Int), .int .i64 p] w fun e w' => e = .returned (.bool false) ∧ Below w.heap.size w w' := by
  have hat := unusedB_at h8 hp nb
  have hkk : (k : Int) < 8 := by omega
  have e8 := tRow_eight ds nb 8
  obtain ⟨k0, k1, k2, k3, k4, k5, k6, k7⟩ := cells8 (heap_alloc_new w (.cells #[tP ds nb 8 0, tP ds nb 8 1, tP ds nb 8 2, tP ds nb 8 3, tP ds nb 8 4, tP ds nb 8 5, tP ds nb 8 6, tP ds nb 8 7] 56 (0, 0)))
  have hc := cell_of_row (w.alloc (.cells (tRow ds nb 8) 56 (0, 0))) w.heap.size k _ _ _ (heap_alloc_new _ _)
  rw [tRow_get ds nb 8 k hk, tP_used hk hu, e8] at hc
  have E8 : Hid (tRow ds nb 8 = #[tP ds nb 8 0, tP ds nb 8 1, tP ds nb 8 2, tP ds nb 8 3, tP ds nb 8 4, tP ds nb 8 5, tP ds nb 8 6, tP ds nb 8 7]) := e8
  have HA : Hid (atP ds nb 8 p = .pointer none) := hat
  rw [e8]
  clear e8 hat
  have hlt : w.heap.size < (w.alloc (.cells #[tP ds nb 8 0, tP ds nb 8 1, tP ds nb 8 2, tP ds nb 8 3, tP ds nb 8 4, tP ds nb 8 5, tP ds nb 8 6, tP ds nb 8 7] 56 (0, 0))).heap.size := by simp
  have acc : Below w.heap.size w (w.alloc (.cells #[tP ds nb 8 0, tP ds nb 8 1, tP ds nb 8 2, tP ds nb 8 3, tP ds nb 8 4, tP ds nb 8 5, tP ds nb 8 6, tP ds nb 8 7] 56 (0, 0))) := by go_grown
  go_enter Try.func53, Try.ntmps53
  go_wp2_with fail
  generalize tP ds nb 8 0 = t0 at *
  generalize tP ds nb 8 1 = t1 at *
  generalize tP ds nb 8 2 = t2 at *
  generalize tP ds nb 8 3 = t3 at *
  generalize tP ds nb 8 4 = t4 at *
  generalize tP ds nb 8 5 = t5 at *
  generalize tP ds nb 8 6 = t6 at *
  generalize tP ds nb 8 7 = t7 at *
  generalize w.alloc (.cells #[t0, t1, t2, t3, t4, t5, t6, t7] 56 (0, 0)) = W at *
  generalize hB : w.heap.size = B at *
  go_region_held3 (fun w' => w'.cell? ⟨B, 0, none⟩ = some t0 ∧ w'.cell? ⟨B, 1, none⟩ = some t1 ∧ w'.cell? ⟨B, 2, none⟩ = some t2 ∧ w'.cell? ⟨B, 3, none⟩ = some t3 ∧ w'.cell? ⟨B, 4, none⟩ = some t4 ∧ w'.cell? ⟨B, 5, none⟩ = some t5 ∧ w'.cell? ⟨B, 6, none⟩ = some t6 ∧ w'.cell? ⟨B, 7, none⟩ = some t7 ∧ w'.cell? ⟨B, k, none⟩ = some (.pointer (some ⟨nb k, 0, none⟩))) (go_keep) (first | (go_at_call 34; rw [← E8.out]; refine (at_any ds nb 8 p _).mono ?_; rw [HA.out]; rintro e w2 ⟨rfl, hb2⟩; have hb3 := (Below.refl _ W).drew.trans hb2; have g0 := (hb3.cell hlt).trans k0; have g1 := (hb3.cell hlt).trans k1; have g2 := (hb3.cell hlt).trans k2; have g3 := (hb3.cell hlt).trans k3; have g4 := (hb3.cell hlt).trans k4; have g5 := (hb3.cell hlt).trans k5; have g6 := (hb3.cell hlt).trans k6; have g7 := (hb3.cell hlt).trans k7; have g8 := (hb3.cell hlt).trans hc))
  all_goals
    simp only [Exit.then]
    go_at_K
    go_wp2_with fail
    go_ret
    subst hB
    exact ⟨rfl, acc.trans (hb3.mono acc.size)⟩
end Go.Proofs.Ytollijjmmpoonaa
