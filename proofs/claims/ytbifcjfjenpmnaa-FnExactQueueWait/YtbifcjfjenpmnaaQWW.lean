/- The walks of the exact statements on queues that answer one plain value, given the program's own answer. -/
import Derived.Test.YtbifcjfjenpmnaaQT
namespace Go.Proofs.Ytbifcjfjenpmnaa
open Go.ChangeShapes Go.WideShapes Go.ChangeAt Go.RowKit
set_option linter.unusedVariables false

set_option maxHeartbeats 4000000 in
/-- the walk of FnExactQueueWait, given the program's answer. -/
theorem walkQueueWait (himpl : ∀ (q : Qu) (sl : Value) (w : World) (a : Int) (b : Int), SlE w sl q.es → q.es.length ≤ 1048576 → Calls Try.prog 12 #[quV q sl, .int .i64 a, .int .i64 b] w fun e w' => e = .returned (.int .i64 (waitQ q a b)) ∧ Below w.heap.size w w')
    (q : Qu) (sl : Value) (w : World) (a : Int) (b : Int) (hs : SlE w sl q.es) :
    Calls Try.prog 9 #[quV q sl, .int .i64 a, .int .i64 b] w fun e w' => e = .returned (.bool true) ∧ Below w.heap.size w w' := by
  have hB : ∀ A, Below w.heap.size w (w.alloc A) := fun A => (Below.refl _ _).alloc (Nat.le_refl _) _
  by_cases hn : q.es.length ≤ 1048576
  · have hn' : ¬ (1048576 : Int) < (q.es.length : Int) := by omega
    have hz : (0 : Int) ≤ 1048576 - (q.es.length : Int) := by omega
    unfold quV
    go_enter Try.func9, Try.ntmps9
    go_wp2_with (go_at_call 15; refine (szQueue_any q sl _ _ (hs.below (hB _)) (by decide) (by decide)).mono ?_; rintro e1 w2 ⟨rfl, hb2⟩; rw [if_neg hn']; obtain ⟨hb3, hbx, hlt⟩ := box_kept hb2; obtain ⟨q0, q1, q2, q3⟩ := qbox hbx; clear hb2)
    refine (toQueue_any q sl w2 (hs.below hb3) hn).mono ?_
    rintro e1 w3 ⟨sl1, rfl, hN1, hb4⟩
    have hbx3 := (hb4.block _ hlt).trans hbx
    have acc3 := hb3.trans (hb4.mono hb3.size)
    have hlt3 := Nat.lt_of_lt_of_le hlt hb4.size
    clear q0 q1 q2 q3 hbx
    obtain ⟨q0, q1, q2, q3⟩ := qbox hbx3
    unfold quV
    simp only []
    go_at_K
    go_wp2_with fail
    refine (spec_queueWait q sl1 w3 a b (hN1.sl hn)).mono ?_
    rintro e1 w4 ⟨rfl, hb5⟩
    have hbx4 := (hb5.block _ hlt3).trans hbx3
    have acc4 := acc3.trans (hb5.mono acc3.size)
    have hlt4 := Nat.lt_of_lt_of_le hlt3 hb5.size
    clear q0 q1 q2 q3 hbx3
    obtain ⟨q0, q1, q2, q3⟩ := qbox hbx4
    simp only []
    go_at_K
    go_wp2_with fail
    refine (toQueue_any q sl w4 (hs.below acc4) hn).mono ?_
    rintro e1 w5 ⟨sl2, rfl, hN2, hb6⟩
    have hbx5 := (hb6.block _ hlt4).trans hbx4
    have acc5 := acc4.trans (hb6.mono acc4.size)
    have hlt5 := Nat.lt_of_lt_of_le hlt4 hb6.size
    clear q0 q1 q2 q3 hbx4
    obtain ⟨q0, q1, q2, q3⟩ := qbox hbx5
    obtain ⟨g2, rfl⟩ := hN2.is
    unfold quV
    simp only []
    go_at_K
    go_wp2_with fail
    refine (himpl q _ _ a b ((hN2.below ((Below.refl _ _).alloc (Nat.le_refl _) _)).sl hn) hn).mono ?_
    rintro e1 w6 ⟨rfl, hb7⟩
    obtain ⟨hb8, hX, hlx⟩ := box_kept hb7
    have hbx6 := (hb8.block _ hlt5).trans hbx5
    have acc6 := acc5.trans (hb8.mono acc5.size)
    have hlt6 := Nat.lt_of_lt_of_le hlt5 hb8.size
    clear q0 q1 q2 q3 hbx5
    obtain ⟨q0, q1, q2, q3⟩ := qbox hbx6
    obtain ⟨x0, x1, x2, x3⟩ := qbox hX
    have hN6 : NewE 0 w6 _ q.es := (hN2.below hb8).mono (Nat.zero_le _)
    simp only []
    go_at_K
    go_wp2_with fail
    clear hN1 hb4 acc3 hlt3 hb5 acc4 hlt4 hb6 acc5 hN2 hb7 hb8 hlt hb3
    go_region_with (first
      | (go_at_call 17; refine (toQueue_any q sl _ (hs.below acc6.drew) hn).mono ?_; rintro e1 w7 ⟨sl3, rfl, hN3, hb9⟩; replace hb9 := (Below.refl _ w6).drew.trans hb9; have hX7 := (hb9.block _ hlx).trans hX; obtain ⟨y0, y1, y2, y3⟩ := qbox hX7; obtain ⟨g3, rfl⟩ := hN3.is; unfold quV)
      | (go_at_call 19; first | (refine (eqQueue_same q _ _ w7 ((hN6.below hb9).sl hn) (hN3.sl hn)).mono ?_; rintro e2 w8 ⟨rfl, hb10⟩) | (refine (eqQueue_same q _ _ w7.drew (((hN6.below hb9).below (Below.refl _ w7).drew).sl hn) ((hN3.below (Below.refl _ w7).drew).sl hn)).mono ?_; rintro e2 w8 ⟨rfl, hb10⟩; replace hb10 := (Below.refl _ w7).drew.trans hb10)))
    all_goals
      go_wp2
      go_ret
      exact ⟨rfl, (acc6.trans (hb9.mono acc6.size)).trans (hb10.mono (Nat.le_trans acc6.size hb9.size))⟩
  · have hn' : (1048576 : Int) < (q.es.length : Int) := by omega
    unfold quV
    go_enter Try.func9, Try.ntmps9
    go_wp2_with (go_at_call 15; refine (szQueue_any q sl _ _ (hs.below (hB _)) (by decide) (by decide)).mono ?_; rintro e1 w2 ⟨rfl, hb2⟩; rw [if_pos hn']; obtain ⟨hb3, hbx, hlt⟩ := box_kept hb2)
    go_ret
    exact ⟨rfl, hb3⟩
end Go.Proofs.Ytbifcjfjenpmnaa
