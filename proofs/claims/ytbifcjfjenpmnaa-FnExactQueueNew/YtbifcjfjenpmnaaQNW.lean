/- The walk of FnExactQueueNew. -/
import Derived.Test.YtbifcjfjenpmnaaQZ
namespace Go.Proofs.Ytbifcjfjenpmnaa
set_option linter.unusedVariables false
set_option linter.unusedSimpArgs false
open Go.ChangeShapes Go.WideShapes Go.ChangeAt Go.RowKit

theorem newQ_len (ws : List Int) : (newQ ws).1.es.length ≤ 20 := by
  unfold newQ
  split
  · rename_i h
    unfold quOk headOk rawQ at h
    simp at h
    show (ws.map ent0).length ≤ 20
    simp
    omega
  · simp

set_option maxRecDepth 100000 in
set_option maxHeartbeats 4000000 in
theorem walkQueueNew (sl : Value) (ws : List Int) (w : World) (hs : SlI w sl ws) :
    Calls Try.prog 5 #[sl] w fun e w' => e = .returned (.bool true) ∧ Below w.heap.size w w' := by
  obtain ⟨a, cap, rfl, hmax⟩ : ∃ a cap, sl = .slice a ws.length cap ∧ ws.length ≤ 9223372036854775807 := by
    rcases hs with ⟨h0, a, cap, rfl⟩ | ⟨g, o, cap, rfl, _, h1, h2⟩
    · exact ⟨a, cap, by rw [h0]; rfl, by rw [h0]; decide⟩
    · exact ⟨_, cap, rfl, by unfold maxLen at h2; omega⟩
  by_cases hn : ws.length ≤ 1048576
  · have hn' : ¬ (1048576 : Int) < (ws.length : Int) := by omega
    have hl20 := newQ_len ws
    have hspec := fun sl w hs => spec_queueNew sl ws w hs hn
    have himpl := fun sl w hs => impl_queueNew sl ws w hs hn
    revert hl20 hspec himpl
    generalize newQ ws = nqb
    obtain ⟨nq, nb⟩ := nqb
    dsimp only
    intro hl20 hspec himpl
    have hto := fun w' (hb : Below w.heap.size w w') => toIntS_any (.slice a ws.length cap) ws w' (hs.below hb) hn
    go_enter Try.func5, Try.ntmps5
    go_wp2_with fail
    refine (hto w (Below.refl _ _)).mono ?_
    rintro e1 w2 ⟨s1, rfl, hN1, b2⟩
    simp only []
    go_at_K
    go_wp2_with fail
    refine (hspec s1 w2 (hN1.sl hn)).mono ?_
    rintro e1 w3 ⟨slw, rfl, hO1, b3⟩
    have a3 := b2.trans (b3.mono b2.size)
    have hsw : ∃ p c, slw = .slice p nq.es.length c := by
      rcases hO1 with ⟨h0, h1⟩ | ⟨g, c, _, _, h1, _⟩
      · exact ⟨none, 0, by rw [h0]; exact h1⟩
      · exact ⟨_, _, h1⟩
    obtain ⟨pw, cw, rfl⟩ := hsw
    unfold quV
    simp only []
    go_at_K
    go_wp2_with fail
    refine (hto _ (a3.alloc a3.size _)).mono ?_
    rintro e1 w4 ⟨s2, rfl, hN2, b4⟩
    obtain ⟨b4, hW4, lt4⟩ := box_kept b4
    have a4 := a3.trans (b4.mono a3.size)
    have hN2' : NewI w3.heap.size w4 s2 ws := by
      obtain ⟨g, h1, h2⟩ := hN2
      exact ⟨g, by simp at h1; omega, h2⟩
    simp only []
    go_at_K
    go_wp2_with fail
    refine (himpl s2 w4 (hN2.sl hn)).mono ?_
    rintro e1 w5 ⟨slg, rfl, hO2, b5⟩
    have a5 := a4.trans (b5.mono a4.size)
    have hW5 := (b5.block _ lt4).trans hW4
    have lt5 := Nat.lt_of_lt_of_le lt4 b5.size
    have hsg : ∃ p c, slg = .slice p nq.es.length c := by
      rcases hO2 with ⟨h0, h1⟩ | ⟨g, c, _, _, h1, _⟩
      · exact ⟨none, 0, by rw [h0]; exact h1⟩
      · exact ⟨_, _, h1⟩
    obtain ⟨pg, cg, rfl⟩ := hsg
    obtain ⟨u0, u1, u2, u3⟩ := qbox hW5
    have ne5 : w3.heap.size ≠ w5.heap.size := by omega
    have oW5 := (hO1.below b4).below b5
    have kw : ∀ g, (Value.slice pw nq.es.length cw).ownBlock = some g → g < w3.heap.size := by
      intro g hg
      rcases hO1 with ⟨_, h1⟩ | ⟨g', c, _, h2, h1, _⟩
      · rw [h1] at hg; simp [Value.ownBlock] at hg
      · rw [h1] at hg
        have : g' = g := by simpa [Value.ownBlock] using hg
        omega
    have kg : ∀ g, (Value.slice pg nq.es.length cg).ownBlock = some g → w4.heap.size ≤ g ∧ g < w5.heap.size := by
      intro g hg
      rcases hO2 with ⟨_, h1⟩ | ⟨g', c, h3, h2, h1, _⟩
      · rw [h1] at hg; simp [Value.ownBlock] at hg
      · rw [h1] at hg
        have : g' = g := by simpa [Value.ownBlock] using hg
        omega
    unfold quV
    simp only []
    go_at_K
    go_wp2_with fail
    refine (eqQueue_same nq _ _ _ (hO2.below ((Below.refl _ _).alloc (Nat.le_refl _) _)).sl (oW5.below ((Below.refl _ _).alloc (Nat.le_refl _) _)).sl).mono ?_
    rintro e1 w6 ⟨rfl, b6⟩
    obtain ⟨b6, hG6, lt6⟩ := box_kept b6
    have a6 := a5.trans (b6.mono a5.size)
    have hW6 := (b6.block _ lt5).trans hW5
    clear u0 u1 u2 u3
    obtain ⟨u0, u1, u2, u3⟩ := qbox hW6
    obtain ⟨v0, v1, v2, v3⟩ := qbox hG6
    simp only []
    go_at_K
    go_wp2_with fail
    refine (hto w6 a6).mono ?_
    rintro e1 w7 ⟨s3, rfl, hN3, b7⟩
    have a7 := a6.trans (b7.mono a6.size)
    simp only []
    go_at_K
    go_wp2_with fail
    have hN7 := ((hN2'.below b5).below b6).below b7
    refine (eqIntS_same s2 s3 ws w7 (hN7.sl hn) (hN3.sl hn)).mono ?_
    rintro e1 w8 ⟨rfl, b8⟩
    have b68 := b7.trans (b8.mono b7.size)
    have a8 := a6.trans (b68.mono a6.size)
    have hW8 := (b68.block _ (Nat.lt_of_lt_of_le lt5 b6.size)).trans hW6
    have hG8 := (b68.block _ lt6).trans hG6
    have hN8 := hN7.below b8
    have oW8 := (oW5.below b6).below b68
    have oG8 := (hO2.below b6).below b68
    obtain ⟨gx, x1, x2, rfl, x4, x5⟩ := hN2
    have hx1 : w3.heap.size < gx := by simp at x1; omega
    obtain ⟨gx', y1, y2, y3, y4, y5⟩ := hN8
    obtain rfl : gx = gx' := by injection y3 with h _ _; injection h with h; injection h with h _ _
    clear u0 u1 u2 u3 v0 v1 v2 v3
    simp only []
    go_at_K
    go_wp2_with fail
    refine (markIntS_any gx ws.length 1 w8 y5 y2 hn (by decide) (by decide)).mono ?_
    rintro e1 w9 ⟨rfl, g9⟩
    have a9 : Below w.heap.size w w9 := a8.trans (below_grown g9 (by have := a3.size; omega) a8.size)
    have sz5 : w5.heap.size < w8.heap.size := Nat.lt_of_lt_of_le lt6 b68.size
    have hW9 := (g9.block w3.heap.size (by omega) (by intro e; cases e; omega)).trans hW8
    have hG9 := (g9.block w5.heap.size sz5 (by intro e; cases e; have := b5.size; omega)).trans hG8
    have oW9 := oW8.grown g9 (fun g hg e => by cases e; have := kw _ hg; omega)
    have oG9 := oG8.grown g9 (fun g hg e => by cases e; have := kg _ hg; omega)
    obtain ⟨u0, u1, u2, u3⟩ := qbox hW9
    obtain ⟨v0, v1, v2, v3⟩ := qbox hG9
    simp only []
    go_at_K
    go_wp2_with fail
    have sz9 : w5.heap.size < w9.heap.size := Nat.lt_of_lt_of_le sz5 g9.size
    refine (eqQueue_same nq _ _ w9 oG9.sl oW9.sl).mono ?_
    rintro e1 w10 ⟨rfl, b10⟩
    have a10 := a9.trans (b10.mono a9.size)
    have hW10 := (b10.block _ (by omega)).trans hW9
    have hG10 := (b10.block _ sz9).trans hG9
    have oW10 := oW9.below b10
    have oG10 := oG9.below b10
    have sz10 : w5.heap.size < w10.heap.size := Nat.lt_of_lt_of_le sz9 b10.size
    clear u0 u1 u2 u3 v0 v1 v2 v3
    obtain ⟨v0, v1, v2, v3⟩ := qbox hG10
    simp only []
    go_at_K
    go_wp2_with fail
    have sz4 : w4.heap.size ≤ w5.heap.size := b5.size
    refine (markQueue_any nq _ w.heap.size 1 w10 (oG10.mono a4.size) a10.size hl20 (by decide) (by decide)).mono ?_
    rintro e1 w11 ⟨rfl, oG11, g11⟩
    have a11 : Below w.heap.size w w11 := a10.grown g11 a10.size (fun j ej => Nat.le_trans a4.size (kg j ej).1)
    have hW11 := (g11.block w3.heap.size (by omega) (by intro e; have := kg _ e.symm; omega)).trans hW10
    have hG11 := (g11.block w5.heap.size sz10 (by intro e; have := kg _ e.symm; omega)).trans hG10
    have oW11 := oW10.grown g11 (fun g hg e => by have := kg _ e; have := kw g hg; omega)
    have sz11 : w5.heap.size < w11.heap.size := Nat.lt_of_lt_of_le sz10 g11.size
    clear v0 v1 v2 v3
    obtain ⟨v0, v1, v2, v3⟩ := qbox hG11
    simp only []
    go_at_K
    go_wp2_with fail
    refine (heldQueue_any nq nq.es.length _ 1 w11 oG11.sl hl20 (by decide) (by decide)).mono ?_
    rintro e1 w12 ⟨rfl, b12⟩
    have a12 := a11.trans (b12.mono a11.size)
    have hW12 := (b12.block _ (by omega)).trans hW11
    have hG12 := (b12.block _ sz11).trans hG11
    have oW12 := oW11.below b12
    have oG12 := oG11.below b12
    have sz12 : w5.heap.size < w12.heap.size := Nat.lt_of_lt_of_le sz11 b12.size
    clear v0 v1 v2 v3
    have hpos : (0 : Int) ≤ 1 + 4 * (nq.es.length : Int) := by omega
    have hsm : (1 : Int) + 4 * (nq.es.length : Int) ≤ 1000 := by omega
    simp only []
    go_at_K
    go_wp2_with fail
    refine (hto w12 a12).mono ?_
    rintro e1 w13 ⟨s4, rfl, hN4, b13⟩
    simp only []
    go_at_K
    go_wp2_with fail
    refine (himpl s4 w13 (hN4.sl hn)).mono ?_
    rintro e1 w14 ⟨slh, rfl, hO4, b14⟩
    have b1214 := b13.trans (b14.mono b13.size)
    have a14 := a12.trans (b1214.mono a12.size)
    have hW14 := (b1214.block _ (by omega)).trans hW12
    have hG14 := (b1214.block _ sz12).trans hG12
    have oW14 := oW12.below b1214
    have oG14 := oG12.below b1214
    have sz14 : w5.heap.size < w14.heap.size := Nat.lt_of_lt_of_le sz12 b1214.size
    have hsh : ∃ p c, slh = .slice p nq.es.length c := by
      rcases hO4 with ⟨h0, h1⟩ | ⟨g, c, _, _, h1, _⟩
      · exact ⟨none, 0, by rw [h0]; exact h1⟩
      · exact ⟨_, _, h1⟩
    obtain ⟨ph, ch, rfl⟩ := hsh
    obtain ⟨u0, u1, u2, u3⟩ := qbox hW14
    have n14 : w3.heap.size ≠ w14.heap.size := by omega
    have lt14 : w3.heap.size < w14.heap.size := by omega
    have n14' : w14.heap.size ≠ w3.heap.size := by omega
    unfold quV
    simp only []
    go_at_K
    go_wp2_with fail
    refine (eqQueue_same nq _ _ _ (hO4.below ((Below.refl _ _).alloc (Nat.le_refl _) _)).sl (oW14.below ((Below.refl _ _).alloc (Nat.le_refl _) _)).sl).mono ?_
    rintro e1 w15 ⟨rfl, b15⟩
    obtain ⟨b15, _, _⟩ := box_kept b15
    have a15 := a14.trans (b15.mono a14.size)
    have hG15 := (b15.block _ sz14).trans hG14
    have oG15 := oG14.below b15
    clear u0 u1 u2 u3
    obtain ⟨v0, v1, v2, v3⟩ := qbox hG15
    simp only []
    go_at_K
    go_wp2_with fail
    refine (heldQueue_any nq nq.es.length _ 1 w15 oG15.sl hl20 (by decide) (by decide)).mono ?_
    rintro e1 w16 ⟨rfl, b16⟩
    simp only []
    go_at_K
    go_wp2_with fail
    go_ret
    exact ⟨rfl, a15.trans (b16.mono a15.size)⟩
  · have hn' : (1048576 : Int) < (ws.length : Int) := by omega
    go_enter Try.func5, Try.ntmps5
    go_wp2_with fail
    go_ret
    exact ⟨rfl, Below.refl _ _⟩
end Go.Proofs.Ytbifcjfjenpmnaa
