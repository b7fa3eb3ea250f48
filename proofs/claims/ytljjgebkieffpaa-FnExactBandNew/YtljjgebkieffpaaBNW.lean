/- The walk of FnExactBandNew. -/
import Derived.Test.YtljjgebkieffpaaBN
namespace Go.Proofs.Ytljjgebkieffpaa
set_option linter.unusedVariables false
set_option linter.unusedSimpArgs false
open Go.ChangeShapes Go.WideShapes Go.ChangeAt Go.RowKit

theorem new_len (q c : Int) : (newBa q c).lo.length ≤ 4 ∧ (newBa q c).dr.length ≤ 4 := by
  unfold newBa
  split
  · rename_i h
    unfold newBOk at h
    rw [Bool.and_eq_true, l1in_iff, l1in_iff] at h
    simp
    omega
  · exact ⟨by decide, by decide⟩
set_option maxHeartbeats 4000000 in
theorem walkBandNew (q c : Int) (w : World) (hq : (Lit.int .i64 q).wf = true) (hc : (Lit.int .i64 c).wf = true) :
    Calls Try.prog 6 #[.int .i64 q, .int .i64 c] w fun e w' => e = .returned (.bool true) ∧ Below w.heap.size w w' := by
  obtain ⟨hl, hd⟩ := new_len q c
  have hspec := fun w => spec_bandNew q c w
  have himpl := fun w => impl_bandNew q c w
  revert hl hd hspec himpl
  generalize newBa q c = b
  generalize newBOk q c = ok
  intro hl hd hspec himpl
  have p1 : ¬ (1 : Int) + (b.lo.length : Int) + (b.dr.length : Int) < 0 := by omega
  go_enter Try.func6, Try.ntmps6
  go_wp2_with fail
  refine (hspec _).mono ?_
  rintro e1 w2 ⟨x1, y1, rfl, o1, b2⟩
  obtain ⟨p1, c1, rfl⟩ := o1.1.form
  obtain ⟨p1', c1', rfl⟩ := o1.2.1.form
  unfold baV
  simp only []
  go_at_K
  go_wp2_with fail
  refine (himpl _).mono ?_
  rintro e1 w3 ⟨x2, y2, rfl, o2, b3⟩
  obtain ⟨b3, hW3, lt3⟩ := box_kept b3
  obtain ⟨p2, c2, rfl⟩ := o2.1.form
  obtain ⟨p2', c2', rfl⟩ := o2.2.1.form
  obtain ⟨q0, q1, q2, q3, q4⟩ := bbox hW3
  unfold baV
  simp only []
  go_at_K
  go_wp2_with fail
  have o2a := o2
  simp only [World.size_alloc] at o2a
  have at2x := o2a.1.at
  have at2y := o2a.2.1.at
  have at1x := o1.1.at
  have at1y := o1.2.1.at
  refine (eqBand_same b _ _ _ _ _ (o2.below ((Below.refl _ _).alloc (Nat.le_refl _) _)).sl ((o1.below b3).below ((Below.refl _ _).alloc (Nat.le_refl _) _)).sl).mono ?_
  rintro e1 w4 ⟨rfl, b4⟩
  obtain ⟨b4, hG4, lt4⟩ := box_kept b4
  have hW4 := (b4.block _ lt3).trans hW3
  have o14 := (o1.below b3).below b4
  have o24 := o2a.below b4
  have a4 := (b2.trans (b3.mono b2.size)).trans (b4.mono (Nat.le_trans b2.size b3.size))
  clear q0 q1 q2 q3 q4
  obtain ⟨q0, q1, q2, q3, q4⟩ := bbox hG4
  simp only []
  go_at_K
  go_wp2_with fail
  have sz4 := b4.size
  refine (markBand_any b _ _ (w2.heap.size + 1) w4 o24 (by omega) (by omega) (by omega) 1 (by decide) (by decide)).mono ?_
  rintro e1 w5 ⟨rfl, o25, k5⟩
  have sz5 := k5.size
  have hW5 := (k5.block w2.heap.size (by omega) (by rintro (h | h); (have := at2x _ h; omega); (have := at2y _ h; omega))).trans hW4
  have hG5 := (k5.block w3.heap.size (by omega) (by rintro (h | h); (have := at2x _ h; omega); (have := at2y _ h; omega))).trans hG4
  have o15 := o14.kept k5 (by rintro g hg (h | h); (have := at2x _ h; have := at1x _ hg; omega); (have := at2y _ h; have := at1x _ hg; omega)) (by rintro g hg (h | h); (have := at2x _ h; have := at1y _ hg; omega); (have := at2y _ h; have := at1y _ hg; omega))
  have a5 := a4.trans (k5.toBelow a4.size (by have := b2.size; rintro k (h | h); (have := at2x _ h; omega); (have := at2y _ h; omega)))
  clear q0 q1 q2 q3 q4
  obtain ⟨q0, q1, q2, q3, q4⟩ := bbox hG5
  simp only []
  go_at_K
  go_wp2_with fail
  refine (heldBand_any b _ _ w5 1 o25.sl (by omega) (by omega) (by decide) (by decide)).mono ?_
  rintro e1 w6 ⟨rfl, b6⟩
  have sz6 := b6.size
  have hW6 := (b6.block w2.heap.size (by omega)).trans hW5
  have hG6 := (b6.block w3.heap.size (by omega)).trans hG5
  have o16 := o15.below b6
  have o26 := o25.below b6
  have a6 := a5.trans (b6.mono a5.size)
  clear q0 q1 q2 q3 q4
  simp only []
  go_at_K
  go_wp2_with fail
  refine (himpl _).mono ?_
  rintro e1 w7 ⟨x3, y3, rfl, o3, b7⟩
  obtain ⟨p3, c3, rfl⟩ := o3.1.form
  obtain ⟨p3', c3', rfl⟩ := o3.2.1.form
  have sz7 := b7.size
  have hW7 := (b7.block w2.heap.size (by omega)).trans hW6
  have hG7 := (b7.block w3.heap.size (by omega)).trans hG6
  have o17 := o16.below b7
  have o27 := o26.below b7
  have a7 := a6.trans (b7.mono a6.size)
  obtain ⟨q0, q1, q2, q3, q4⟩ := bbox hW7
  have n7 : w2.heap.size ≠ w7.heap.size := by omega
  have n7' : w7.heap.size ≠ w2.heap.size := by omega
  have l7 : w2.heap.size < w7.heap.size := by omega
  unfold baV
  simp only []
  go_at_K
  go_wp2_with fail
  refine (eqBand_same b _ _ _ _ _ (o3.below ((Below.refl _ _).alloc (Nat.le_refl _) _)).sl (o17.below ((Below.refl _ _).alloc (Nat.le_refl _) _)).sl).mono ?_
  rintro e1 w8 ⟨rfl, b8⟩
  obtain ⟨b8, _, _⟩ := box_kept b8
  have hG8 := (b8.block w3.heap.size (by omega)).trans hG7
  have o28 := o27.below b8
  have a8 := a7.trans (b8.mono a7.size)
  clear q0 q1 q2 q3 q4
  obtain ⟨q0, q1, q2, q3, q4⟩ := bbox hG8
  simp only []
  go_at_K
  go_wp2_with fail
  refine (heldBand_any b _ _ w8 1 o28.sl (by omega) (by omega) (by decide) (by decide)).mono ?_
  rintro e1 w9 ⟨rfl, b9⟩
  simp only []
  go_at_K
  go_wp2_with fail
  go_ret
  exact ⟨rfl, a8.trans (b9.mono a8.size)⟩
end Go.Proofs.Ytljjgebkieffpaa
