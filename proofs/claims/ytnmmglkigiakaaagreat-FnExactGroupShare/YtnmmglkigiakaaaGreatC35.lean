/- The program: whether a place of groups is nothing; whether a group's numbers and its quota are ok. The program: whether a quota is ok. -/
import Derived.Test.YtnmmglkigiakaaaGreatC24
import Derived.Test.YtnmmglkigiakaaaGreatC25
namespace Go.Proofs.YtnmmglkigiakaaaGreat
set_option linter.unusedVariables false
set_option linter.unusedSimpArgs false
open Go.ChangeShapes Go.WideShapes Go.ChangeAt Go.RowKit Go.Shelf Go.Sort

set_option maxHeartbeats 8000000 in
theorem noGroup_used (e : Gv) (w : World) (hs : GvOk w e) (hu : e.d.us = true) : Calls Tryz.prog 140 #[gvV e] w fun e' w' => e' = .returned (.bool (noGroupB e.d)) ∧ Below w.heap.size w w' := by
  obtain ⟨⟨us, pa, na, we, cp, pe, ne, su, ⟨qu, po, sp, lo, dr⟩, sh⟩, x, y, z⟩ := e
  obtain ⟨hb, hz⟩ := hs
  dsimp only at hb hz
  obtain ⟨p1, c1, e1, hl1⟩ := hb.1.form
  obtain ⟨p2, c2, e2, hl2⟩ := hb.2.form
  obtain ⟨p3, c3, e3, hl3⟩ := SlR.form hz
  dsimp only at e1 e2 e3 hl1 hl2 hl3
  subst e1 e2 e3
  have HBa : Hid (SlBa w (.slice p1 lo.length c1) (.slice p2 dr.length c2) ⟨qu, po, sp, lo, dr⟩) := hb
  obtain ⟨n1, hn1⟩ : ∃ n, lo.length = n := ⟨_, rfl⟩
  obtain ⟨n2, hn2⟩ : ∃ n, dr.length = n := ⟨_, rfl⟩
  obtain ⟨n3, hn3⟩ : ∃ n, sh.length = n := ⟨_, rfl⟩
  rw [hn1] at hl1 HBa
  rw [hn2] at hl2 HBa
  rw [hn3] at hl3
  unfold gvV
  dsimp only
  rw [hn1, hn2, hn3]
  clear hb hz
  dsimp only at hu
  subst hu
  have HR : Hid (noGroupB ⟨true, pa, na, we, cp, pe, ne, su, ⟨qu, po, sp, lo, dr⟩, sh⟩ = false) := by unfold Hid; simp [noGroupB]
  have acc : Below w.heap.size w (w.alloc (.cells #[.bool true, .int .i64 pa, .string na, .int .i64 we, .int .i64 cp, .int .i64 pe, .int .i64 ne, .int .i64 su, .int .i64 qu, .int .i64 po, .int .i64 sp, .slice p1 n1 c1, .slice p2 n2 c2, .slice p3 n3 c3] 84)) := (Below.refl _ _).alloc (Nat.le_refl _) _
  go_enter Tryz.func140, Tryz.ntmps140
  go_wp2
  go_ret
  exact ⟨ret_bool HR.out.symm, acc⟩
set_option maxHeartbeats 16000000 in
theorem noGroup_not (e : Gv) (w : World) (hs : GvOk w e) (hu : e.d.us = false) : Calls Tryz.prog 140 #[gvV e] w fun e' w' => e' = .returned (.bool (noGroupB e.d)) ∧ Below w.heap.size w w' := by
  obtain ⟨⟨us, pa, na, we, cp, pe, ne, su, ⟨qu, po, sp, lo, dr⟩, sh⟩, x, y, z⟩ := e
  obtain ⟨hb, hz⟩ := hs
  dsimp only at hb hz
  obtain ⟨p1, c1, e1, hl1⟩ := hb.1.form
  obtain ⟨p2, c2, e2, hl2⟩ := hb.2.form
  obtain ⟨p3, c3, e3, hl3⟩ := SlR.form hz
  dsimp only at e1 e2 e3 hl1 hl2 hl3
  subst e1 e2 e3
  have HBa : Hid (SlBa w (.slice p1 lo.length c1) (.slice p2 dr.length c2) ⟨qu, po, sp, lo, dr⟩) := hb
  obtain ⟨n1, hn1⟩ : ∃ n, lo.length = n := ⟨_, rfl⟩
  obtain ⟨n2, hn2⟩ : ∃ n, dr.length = n := ⟨_, rfl⟩
  obtain ⟨n3, hn3⟩ : ∃ n, sh.length = n := ⟨_, rfl⟩
  rw [hn1] at hl1 HBa
  rw [hn2] at hl2 HBa
  rw [hn3] at hl3
  unfold gvV
  dsimp only
  rw [hn1, hn2, hn3]
  clear hb hz
  dsimp only at hu
  subst hu
  by_cases h0 : pa = 0
  · subst h0
    cases h1 : (na.toList == [])
    · have HR : Hid (noGroupB ⟨false, 0, na, we, cp, pe, ne, su, ⟨qu, po, sp, lo, dr⟩, sh⟩ = false) := by unfold Hid; simp [noGroupB, hn3, ← Int.natCast_eq_zero, h1]
      have acc : Below w.heap.size w (w.alloc (.cells #[.bool false, .int .i64 0, .string na, .int .i64 we, .int .i64 cp, .int .i64 pe, .int .i64 ne, .int .i64 su, .int .i64 qu, .int .i64 po, .int .i64 sp, .slice p1 n1 c1, .slice p2 n2 c2, .slice p3 n3 c3] 84)) := (Below.refl _ _).alloc (Nat.le_refl _) _
      go_enter Tryz.func140, Tryz.ntmps140
      go_wp2_with ((go_at_call 141; refine (noBand_any ⟨qu, po, sp, lo, dr⟩ _ _ _ (HBa.out.below acc)).mono ?_; rintro e1 w1 ⟨rfl, hb1⟩; replace acc := acc.trans (hb1.mono acc.size); clear hb1))
      go_ret
      refine ⟨?_, acc⟩
      first | exact ret_bool HR.out.symm | (rw [HR.out]; simp [h1]; done) | (rw [HR.out]; simp [h1]; omega)
    · by_cases h2 : we = 0
      · subst h2
        by_cases h3 : cp = 0
        · subst h3
          by_cases h4 : (n3 : Int) = 0
          · by_cases h5 : pe = 0
            · subst h5
              by_cases h6 : ne = 0
              · subst h6
                by_cases h7 : su = 0
                · subst h7
                  cases h8 : noBandB ⟨qu, po, sp, lo, dr⟩
                  · have HR : Hid (noGroupB ⟨false, 0, na, 0, 0, 0, 0, 0, ⟨qu, po, sp, lo, dr⟩, sh⟩ = false) := by unfold Hid; simp [noGroupB, hn3, ← Int.natCast_eq_zero, h1, h4, h8]
                    have acc : Below w.heap.size w (w.alloc (.cells #[.bool false, .int .i64 0, .string na, .int .i64 0, .int .i64 0, .int .i64 0, .int .i64 0, .int .i64 0, .int .i64 qu, .int .i64 po, .int .i64 sp, .slice p1 n1 c1, .slice p2 n2 c2, .slice p3 n3 c3] 84)) := (Below.refl _ _).alloc (Nat.le_refl _) _
                    go_enter Tryz.func140, Tryz.ntmps140
                    go_wp2_with ((go_at_call 141; refine (noBand_any ⟨qu, po, sp, lo, dr⟩ _ _ _ (HBa.out.below acc)).mono ?_; rintro e1 w1 ⟨rfl, hb1⟩; replace acc := acc.trans (hb1.mono acc.size); clear hb1))
                    go_ret
                    refine ⟨?_, acc⟩
                    first | exact ret_bool HR.out.symm | (rw [HR.out]; simp [h1, h4, h8]; done) | (rw [HR.out]; simp [h1, h4, h8]; omega)
                  · have HR : Hid (noGroupB ⟨false, 0, na, 0, 0, 0, 0, 0, ⟨qu, po, sp, lo, dr⟩, sh⟩ = true) := by unfold Hid; simp [noGroupB, hn3, ← Int.natCast_eq_zero, h1, h4, h8]
                    have acc : Below w.heap.size w (w.alloc (.cells #[.bool false, .int .i64 0, .string na, .int .i64 0, .int .i64 0, .int .i64 0, .int .i64 0, .int .i64 0, .int .i64 qu, .int .i64 po, .int .i64 sp, .slice p1 n1 c1, .slice p2 n2 c2, .slice p3 n3 c3] 84)) := (Below.refl _ _).alloc (Nat.le_refl _) _
                    go_enter Tryz.func140, Tryz.ntmps140
                    go_wp2_with ((go_at_call 141; refine (noBand_any ⟨qu, po, sp, lo, dr⟩ _ _ _ (HBa.out.below acc)).mono ?_; rintro e1 w1 ⟨rfl, hb1⟩; replace acc := acc.trans (hb1.mono acc.size); clear hb1))
                    go_ret
                    refine ⟨?_, acc⟩
                    first | exact ret_bool HR.out.symm | (rw [HR.out]; simp [h1, h4, h8]; done) | (rw [HR.out]; simp [h1, h4, h8]; omega)
                · have HR : Hid (noGroupB ⟨false, 0, na, 0, 0, 0, 0, su, ⟨qu, po, sp, lo, dr⟩, sh⟩ = false) := by unfold Hid; simp [noGroupB, hn3, ← Int.natCast_eq_zero, h1, h4, h7]
                  have acc : Below w.heap.size w (w.alloc (.cells #[.bool false, .int .i64 0, .string na, .int .i64 0, .int .i64 0, .int .i64 0, .int .i64 0, .int .i64 su, .int .i64 qu, .int .i64 po, .int .i64 sp, .slice p1 n1 c1, .slice p2 n2 c2, .slice p3 n3 c3] 84)) := (Below.refl _ _).alloc (Nat.le_refl _) _
                  go_enter Tryz.func140, Tryz.ntmps140
                  go_wp2_with ((go_at_call 141; refine (noBand_any ⟨qu, po, sp, lo, dr⟩ _ _ _ (HBa.out.below acc)).mono ?_; rintro e1 w1 ⟨rfl, hb1⟩; replace acc := acc.trans (hb1.mono acc.size); clear hb1))
                  go_ret
                  refine ⟨?_, acc⟩
                  first | exact ret_bool HR.out.symm | (rw [HR.out]; simp [h1, h4, h7]; done) | (rw [HR.out]; simp [h1, h4, h7]; omega)
              · have HR : Hid (noGroupB ⟨false, 0, na, 0, 0, 0, ne, su, ⟨qu, po, sp, lo, dr⟩, sh⟩ = false) := by unfold Hid; simp [noGroupB, hn3, ← Int.natCast_eq_zero, h1, h4, h6]
                have acc : Below w.heap.size w (w.alloc (.cells #[.bool false, .int .i64 0, .string na, .int .i64 0, .int .i64 0, .int .i64 0, .int .i64 ne, .int .i64 su, .int .i64 qu, .int .i64 po, .int .i64 sp, .slice p1 n1 c1, .slice p2 n2 c2, .slice p3 n3 c3] 84)) := (Below.refl _ _).alloc (Nat.le_refl _) _
                go_enter Tryz.func140, Tryz.ntmps140
                go_wp2_with ((go_at_call 141; refine (noBand_any ⟨qu, po, sp, lo, dr⟩ _ _ _ (HBa.out.below acc)).mono ?_; rintro e1 w1 ⟨rfl, hb1⟩; replace acc := acc.trans (hb1.mono acc.size); clear hb1))
                go_ret
                refine ⟨?_, acc⟩
                first | exact ret_bool HR.out.symm | (rw [HR.out]; simp [h1, h4, h6]; done) | (rw [HR.out]; simp [h1, h4, h6]; omega)
            · have HR : Hid (noGroupB ⟨false, 0, na, 0, 0, pe, ne, su, ⟨qu, po, sp, lo, dr⟩, sh⟩ = false) := by unfold Hid; simp [noGroupB, hn3, ← Int.natCast_eq_zero, h1, h4, h5]
              have acc : Below w.heap.size w (w.alloc (.cells #[.bool false, .int .i64 0, .string na, .int .i64 0, .int .i64 0, .int .i64 pe, .int .i64 ne, .int .i64 su, .int .i64 qu, .int .i64 po, .int .i64 sp, .slice p1 n1 c1, .slice p2 n2 c2, .slice p3 n3 c3] 84)) := (Below.refl _ _).alloc (Nat.le_refl _) _
              go_enter Tryz.func140, Tryz.ntmps140
              go_wp2_with ((go_at_call 141; refine (noBand_any ⟨qu, po, sp, lo, dr⟩ _ _ _ (HBa.out.below acc)).mono ?_; rintro e1 w1 ⟨rfl, hb1⟩; replace acc := acc.trans (hb1.mono acc.size); clear hb1))
              go_ret
              refine ⟨?_, acc⟩
              first | exact ret_bool HR.out.symm | (rw [HR.out]; simp [h1, h4, h5]; done) | (rw [HR.out]; simp [h1, h4, h5]; omega)
          · have HR : Hid (noGroupB ⟨false, 0, na, 0, 0, pe, ne, su, ⟨qu, po, sp, lo, dr⟩, sh⟩ = false) := by unfold Hid; simp [noGroupB, hn3, ← Int.natCast_eq_zero, h1, h4]
            have acc : Below w.heap.size w (w.alloc (.cells #[.bool false, .int .i64 0, .string na, .int .i64 0, .int .i64 0, .int .i64 pe, .int .i64 ne, .int .i64 su, .int .i64 qu, .int .i64 po, .int .i64 sp, .slice p1 n1 c1, .slice p2 n2 c2, .slice p3 n3 c3] 84)) := (Below.refl _ _).alloc (Nat.le_refl _) _
            go_enter Tryz.func140, Tryz.ntmps140
            go_wp2_with ((go_at_call 141; refine (noBand_any ⟨qu, po, sp, lo, dr⟩ _ _ _ (HBa.out.below acc)).mono ?_; rintro e1 w1 ⟨rfl, hb1⟩; replace acc := acc.trans (hb1.mono acc.size); clear hb1))
            go_ret
            refine ⟨?_, acc⟩
            first | exact ret_bool HR.out.symm | (rw [HR.out]; simp [h1, h4]; done) | (rw [HR.out]; simp [h1, h4]; omega)
        · have HR : Hid (noGroupB ⟨false, 0, na, 0, cp, pe, ne, su, ⟨qu, po, sp, lo, dr⟩, sh⟩ = false) := by unfold Hid; simp [noGroupB, hn3, ← Int.natCast_eq_zero, h1, h3]
          have acc : Below w.heap.size w (w.alloc (.cells #[.bool false, .int .i64 0, .string na, .int .i64 0, .int .i64 cp, .int .i64 pe, .int .i64 ne, .int .i64 su, .int .i64 qu, .int .i64 po, .int .i64 sp, .slice p1 n1 c1, .slice p2 n2 c2, .slice p3 n3 c3] 84)) := (Below.refl _ _).alloc (Nat.le_refl _) _
          go_enter Tryz.func140, Tryz.ntmps140
          go_wp2_with ((go_at_call 141; refine (noBand_any ⟨qu, po, sp, lo, dr⟩ _ _ _ (HBa.out.below acc)).mono ?_; rintro e1 w1 ⟨rfl, hb1⟩; replace acc := acc.trans (hb1.mono acc.size); clear hb1))
          go_ret
          refine ⟨?_, acc⟩
          first | exact ret_bool HR.out.symm | (rw [HR.out]; simp [h1, h3]; done) | (rw [HR.out]; simp [h1, h3]; omega)
      · have HR : Hid (noGroupB ⟨false, 0, na, we, cp, pe, ne, su, ⟨qu, po, sp, lo, dr⟩, sh⟩ = false) := by unfold Hid; simp [noGroupB, hn3, ← Int.natCast_eq_zero, h1, h2]
        have acc : Below w.heap.size w (w.alloc (.cells #[.bool false, .int .i64 0, .string na, .int .i64 we, .int .i64 cp, .int .i64 pe, .int .i64 ne, .int .i64 su, .int .i64 qu, .int .i64 po, .int .i64 sp, .slice p1 n1 c1, .slice p2 n2 c2, .slice p3 n3 c3] 84)) := (Below.refl _ _).alloc (Nat.le_refl _) _
        go_enter Tryz.func140, Tryz.ntmps140
        go_wp2_with ((go_at_call 141; refine (noBand_any ⟨qu, po, sp, lo, dr⟩ _ _ _ (HBa.out.below acc)).mono ?_; rintro e1 w1 ⟨rfl, hb1⟩; replace acc := acc.trans (hb1.mono acc.size); clear hb1))
        go_ret
        refine ⟨?_, acc⟩
        first | exact ret_bool HR.out.symm | (rw [HR.out]; simp [h1, h2]; done) | (rw [HR.out]; simp [h1, h2]; omega)
  · have HR : Hid (noGroupB ⟨false, pa, na, we, cp, pe, ne, su, ⟨qu, po, sp, lo, dr⟩, sh⟩ = false) := by unfold Hid; simp [noGroupB, hn3, ← Int.natCast_eq_zero, h0]
    have acc : Below w.heap.size w (w.alloc (.cells #[.bool false, .int .i64 pa, .string na, .int .i64 we, .int .i64 cp, .int .i64 pe, .int .i64 ne, .int .i64 su, .int .i64 qu, .int .i64 po, .int .i64 sp, .slice p1 n1 c1, .slice p2 n2 c2, .slice p3 n3 c3] 84)) := (Below.refl _ _).alloc (Nat.le_refl _) _
    go_enter Tryz.func140, Tryz.ntmps140
    go_wp2_with ((go_at_call 141; refine (noBand_any ⟨qu, po, sp, lo, dr⟩ _ _ _ (HBa.out.below acc)).mono ?_; rintro e1 w1 ⟨rfl, hb1⟩; replace acc := acc.trans (hb1.mono acc.size); clear hb1))
    go_ret
    refine ⟨?_, acc⟩
    first | exact ret_bool HR.out.symm | (rw [HR.out]; simp [h0]; done) | (rw [HR.out]; simp [h0]; omega)
theorem noGroup_any (e : Gv) (w : World) (hs : GvOk w e) : Calls Tryz.prog 140 #[gvV e] w fun e' w' => e' = .returned (.bool (noGroupB e.d)) ∧ Below w.heap.size w w' := by
  cases hu : e.d.us
  · exact noGroup_not e w hs hu
  · exact noGroup_used e w hs hu
end Go.Proofs.YtnmmglkigiakaaaGreat
namespace Go.Proofs.YtnmmglkigiakaaaGreat
set_option linter.unusedVariables false
set_option linter.unusedSimpArgs false
open Go.ChangeShapes Go.WideShapes Go.ChangeAt Go.RowKit Go.Shelf Go.Sort
theorem bandOk_pos {b : Ba} (h : b.qu = 0) : bandOk b = false := by
  cases hb : bandOk b
  · rfl
  · exfalso
    unfold bandOk at hb
    rw [Bool.and_eq_true] at hb
    have := (head_parts hb.1).1.1
    omega
theorem quota_ways (now : Int) (n : Nat) (us : Bool) (pa : Int) (na : ByteArray) (we cp pe ne su qu po sp : Int) (lo : List Int) (dr : List Bool) (sh : List Sh) :
    quotaB now n ⟨us, pa, na, we, cp, pe, ne, su, ⟨qu, po, sp, lo, dr⟩, sh⟩ = if noBandB ⟨qu, po, sp, lo, dr⟩ = true then decide (pe = 0) && decide (ne = 0)
      else bandOk ⟨qu, po, sp, lo, dr⟩ && (decide (lo.length = n) && (l1in pe 1 1000 && (decide (now < ne) && decide (wrap64 (ne - now) ≤ pe)))) := by
  unfold quotaB
  dsimp only
  by_cases h0 : qu = 0
  · rw [if_pos h0, bandOk_pos (b := ⟨qu, po, sp, lo, dr⟩) h0]
    cases noBandB ⟨qu, po, sp, lo, dr⟩ <;> rfl
  · have : noBandB ⟨qu, po, sp, lo, dr⟩ = false := by unfold noBandB; simp [h0]
    rw [if_neg h0, this, if_neg (by simp)]
set_option maxRecDepth 100000 in
set_option maxHeartbeats 32000000 in
theorem quotaOk_no (pw : Nat) (u : Wv) (e : Gv) (nb : Bool) (w : World) (hA : AtW w pw u) (hs : GvOk w e) (hn : noBandB e.d.ba = nb) (hv : nb = true) :
    Calls Tryz.prog 144 #[ptr pw, gvV e] w fun e' w' => e' = .returned (.bool (quotaB u.now u.cs.length e.d)) ∧ Below w.heap.size w w' := by
  obtain ⟨⟨us, pa, na, we, cp, pe, ne, su, ⟨qu, po, sp, lo, dr⟩, sh⟩, x, y, z⟩ := e
  obtain ⟨hb, hz⟩ := hs
  dsimp only at hb hz hn
  obtain ⟨p1, c1, e1, hl1⟩ := hb.1.form
  obtain ⟨p2, c2, e2, hl2⟩ := hb.2.form
  obtain ⟨p3, c3, e3, hl3⟩ := SlR.form hz
  dsimp only at e1 e2 e3 hl1 hl2 hl3
  subst e1 e2 e3
  have HBa : Hid (SlBa w (.slice p1 lo.length c1) (.slice p2 dr.length c2) ⟨qu, po, sp, lo, dr⟩) := hb
  obtain ⟨pc, cc, _, _, _, _, v1, _, _, hcl, _, _⟩ := hA.lens
  obtain ⟨v0, _⟩ := hA.cells
  have hpw := hA.lt
  have HQ := quota_ways u.now u.cs.length us pa na we cp pe ne su qu po sp lo dr sh
  rw [hn] at HQ
  obtain ⟨n1, hn1⟩ : ∃ n, lo.length = n := ⟨_, rfl⟩
  obtain ⟨n2, hn2⟩ : ∃ n, dr.length = n := ⟨_, rfl⟩
  obtain ⟨n3, hn3⟩ : ∃ n, sh.length = n := ⟨_, rfl⟩
  obtain ⟨nc, hnc⟩ : ∃ n, u.cs.length = n := ⟨_, rfl⟩
  obtain ⟨now, hnow⟩ : ∃ n, u.now = n := ⟨_, rfl⟩
  rw [hn1, hnc, hnow] at HQ
  rw [hn1] at hl1 HBa
  rw [hn2] at hl2 HBa
  rw [hn3] at hl3
  rw [hnc] at v1 hcl ⊢
  rw [hnow] at v0 ⊢
  have HQ : Hid _ := HQ
  unfold gvV ptr
  dsimp only
  rw [hn1, hn2, hn3]
  obtain ⟨W1, hW1⟩ : ∃ W1, w.alloc (.cells #[.bool us, .int .i64 pa, .string na, .int .i64 we, .int .i64 cp, .int .i64 pe, .int .i64 ne, .int .i64 su, .int .i64 qu, .int .i64 po, .int .i64 sp, .slice p1 n1 c1, .slice p2 n2 c2, .slice p3 n3 c3] 84) = W1 := ⟨_, rfl⟩
  have acc : Below w.heap.size w W1 := by rw [← hW1]; exact (Below.refl _ _).alloc (Nat.le_refl _) _
  have gb : W1.heap[w.heap.size]? = some (.cells #[.bool us, .int .i64 pa, .string na, .int .i64 we, .int .i64 cp, .int .i64 pe, .int .i64 ne, .int .i64 su, .int .i64 qu, .int .i64 po, .int .i64 sp, .slice p1 n1 c1, .slice p2 n2 c2, .slice p3 n3 c3] 84 (0, 0)) := by rw [← hW1]; exact World.alloc_heap_new w _
  have lg : w.heap.size < W1.heap.size := by rw [← hW1]; simp
  obtain ⟨g0, g1, g2, g3, g4, g5, g6, g7, g8, g9, g10, g11, g12, g13⟩ := gbox gb
  replace v0 := (acc.cell (p := ⟨pw, 0, none⟩) hpw).trans v0
  replace v1 := (acc.cell (p := ⟨pw, 1, none⟩) hpw).trans v1
  replace HBa : Hid (SlBa W1 (.slice p1 n1 c1) (.slice p2 n2 c2) ⟨qu, po, sp, lo, dr⟩) := HBa.out.below acc
  have lp : pw < W1.heap.size := Nat.lt_of_lt_of_le hpw acc.size
  have HH : Hid (noBandB ⟨qu, po, sp, lo, dr⟩ = nb) := hn
  clear hb hz hA gb hpw hn hn1 hn2 hn3 hnc hnow
  subst hv
  by_cases h0 : pe = 0
  · subst h0
    by_cases h1 : ne = 0
    · subst h1
      have HR : Hid (quotaB now nc ⟨us, pa, na, we, cp, 0, 0, su, ⟨qu, po, sp, lo, dr⟩, sh⟩ = true) := by unfold Hid; simp [HQ.out]
      go_enter Tryz.func144, Tryz.ntmps144
      go_wp2_with ((go_at_call 141; refine (noBand_any ⟨qu, po, sp, lo, dr⟩ _ _ _ HBa.out).mono ?_; rintro e1 V ⟨rfl, hb1⟩; rw [HH.out]; have v0 := (hb1.cell (p := ⟨pw, 0, none⟩) lp).trans v0; have v1 := (hb1.cell (p := ⟨pw, 1, none⟩) lp).trans v1; have g5 := (hb1.cell (p := ⟨w.heap.size, 5, none⟩) lg).trans g5; have g6 := (hb1.cell (p := ⟨w.heap.size, 6, none⟩) lg).trans g6; have g8 := (hb1.cell (p := ⟨w.heap.size, 8, none⟩) lg).trans g8; have g9 := (hb1.cell (p := ⟨w.heap.size, 9, none⟩) lg).trans g9; have g10 := (hb1.cell (p := ⟨w.heap.size, 10, none⟩) lg).trans g10; have g11 := (hb1.cell (p := ⟨w.heap.size, 11, none⟩) lg).trans g11; have g12 := (hb1.cell (p := ⟨w.heap.size, 12, none⟩) lg).trans g12; have lp := Nat.lt_of_lt_of_le lp hb1.size; have lg := Nat.lt_of_lt_of_le lg hb1.size; have HBa : Hid (SlBa V (.slice p1 n1 c1) (.slice p2 n2 c2) ⟨qu, po, sp, lo, dr⟩) := SlBa.below HBa.out hb1; replace acc := acc.trans (hb1.mono acc.size); clear hb1))
      go_ret
      refine ⟨?_, acc⟩
      first | exact ret_bool HR.out.symm | (rw [HR.out]; simp []; done) | (rw [HR.out]; simp []; omega)
    · have HR : Hid (quotaB now nc ⟨us, pa, na, we, cp, 0, ne, su, ⟨qu, po, sp, lo, dr⟩, sh⟩ = false) := by unfold Hid; simp [HQ.out, h1]
      go_enter Tryz.func144, Tryz.ntmps144
      go_wp2_with ((go_at_call 141; refine (noBand_any ⟨qu, po, sp, lo, dr⟩ _ _ _ HBa.out).mono ?_; rintro e1 V ⟨rfl, hb1⟩; rw [HH.out]; have v0 := (hb1.cell (p := ⟨pw, 0, none⟩) lp).trans v0; have v1 := (hb1.cell (p := ⟨pw, 1, none⟩) lp).trans v1; have g5 := (hb1.cell (p := ⟨w.heap.size, 5, none⟩) lg).trans g5; have g6 := (hb1.cell (p := ⟨w.heap.size, 6, none⟩) lg).trans g6; have g8 := (hb1.cell (p := ⟨w.heap.size, 8, none⟩) lg).trans g8; have g9 := (hb1.cell (p := ⟨w.heap.size, 9, none⟩) lg).trans g9; have g10 := (hb1.cell (p := ⟨w.heap.size, 10, none⟩) lg).trans g10; have g11 := (hb1.cell (p := ⟨w.heap.size, 11, none⟩) lg).trans g11; have g12 := (hb1.cell (p := ⟨w.heap.size, 12, none⟩) lg).trans g12; have lp := Nat.lt_of_lt_of_le lp hb1.size; have lg := Nat.lt_of_lt_of_le lg hb1.size; have HBa : Hid (SlBa V (.slice p1 n1 c1) (.slice p2 n2 c2) ⟨qu, po, sp, lo, dr⟩) := SlBa.below HBa.out hb1; replace acc := acc.trans (hb1.mono acc.size); clear hb1))
      go_ret
      refine ⟨?_, acc⟩
      first | exact ret_bool HR.out.symm | (rw [HR.out]; simp [h1]; done) | (rw [HR.out]; simp [h1]; omega)
  · have HR : Hid (quotaB now nc ⟨us, pa, na, we, cp, pe, ne, su, ⟨qu, po, sp, lo, dr⟩, sh⟩ = false) := by unfold Hid; simp [HQ.out, h0]
    go_enter Tryz.func144, Tryz.ntmps144
    go_wp2_with ((go_at_call 141; refine (noBand_any ⟨qu, po, sp, lo, dr⟩ _ _ _ HBa.out).mono ?_; rintro e1 V ⟨rfl, hb1⟩; rw [HH.out]; have v0 := (hb1.cell (p := ⟨pw, 0, none⟩) lp).trans v0; have v1 := (hb1.cell (p := ⟨pw, 1, none⟩) lp).trans v1; have g5 := (hb1.cell (p := ⟨w.heap.size, 5, none⟩) lg).trans g5; have g6 := (hb1.cell (p := ⟨w.heap.size, 6, none⟩) lg).trans g6; have g8 := (hb1.cell (p := ⟨w.heap.size, 8, none⟩) lg).trans g8; have g9 := (hb1.cell (p := ⟨w.heap.size, 9, none⟩) lg).trans g9; have g10 := (hb1.cell (p := ⟨w.heap.size, 10, none⟩) lg).trans g10; have g11 := (hb1.cell (p := ⟨w.heap.size, 11, none⟩) lg).trans g11; have g12 := (hb1.cell (p := ⟨w.heap.size, 12, none⟩) lg).trans g12; have lp := Nat.lt_of_lt_of_le lp hb1.size; have lg := Nat.lt_of_lt_of_le lg hb1.size; have HBa : Hid (SlBa V (.slice p1 n1 c1) (.slice p2 n2 c2) ⟨qu, po, sp, lo, dr⟩) := SlBa.below HBa.out hb1; replace acc := acc.trans (hb1.mono acc.size); clear hb1))
    go_ret
    refine ⟨?_, acc⟩
    first | exact ret_bool HR.out.symm | (rw [HR.out]; simp [h0]; done) | (rw [HR.out]; simp [h0]; omega)
set_option maxRecDepth 100000 in
set_option maxHeartbeats 32000000 in
theorem quotaOk_yes (pw : Nat) (u : Wv) (e : Gv) (nb : Bool) (w : World) (hA : AtW w pw u) (hs : GvOk w e) (hn : noBandB e.d.ba = nb) (hv : nb = false) :
    Calls Tryz.prog 144 #[ptr pw, gvV e] w fun e' w' => e' = .returned (.bool (quotaB u.now u.cs.length e.d)) ∧ Below w.heap.size w w' := by
  obtain ⟨⟨us, pa, na, we, cp, pe, ne, su, ⟨qu, po, sp, lo, dr⟩, sh⟩, x, y, z⟩ := e
  obtain ⟨hb, hz⟩ := hs
  dsimp only at hb hz hn
  obtain ⟨p1, c1, e1, hl1⟩ := hb.1.form
  obtain ⟨p2, c2, e2, hl2⟩ := hb.2.form
  obtain ⟨p3, c3, e3, hl3⟩ := SlR.form hz
  dsimp only at e1 e2 e3 hl1 hl2 hl3
  subst e1 e2 e3
  have HBa : Hid (SlBa w (.slice p1 lo.length c1) (.slice p2 dr.length c2) ⟨qu, po, sp, lo, dr⟩) := hb
  obtain ⟨pc, cc, _, _, _, _, v1, _, _, hcl, _, _⟩ := hA.lens
  obtain ⟨v0, _⟩ := hA.cells
  have hpw := hA.lt
  have HQ := quota_ways u.now u.cs.length us pa na we cp pe ne su qu po sp lo dr sh
  rw [hn] at HQ
  obtain ⟨n1, hn1⟩ : ∃ n, lo.length = n := ⟨_, rfl⟩
  obtain ⟨n2, hn2⟩ : ∃ n, dr.length = n := ⟨_, rfl⟩
  obtain ⟨n3, hn3⟩ : ∃ n, sh.length = n := ⟨_, rfl⟩
  obtain ⟨nc, hnc⟩ : ∃ n, u.cs.length = n := ⟨_, rfl⟩
  obtain ⟨now, hnow⟩ : ∃ n, u.now = n := ⟨_, rfl⟩
  rw [hn1, hnc, hnow] at HQ
  rw [hn1] at hl1 HBa
  rw [hn2] at hl2 HBa
  rw [hn3] at hl3
  rw [hnc] at v1 hcl ⊢
  rw [hnow] at v0 ⊢
  have HQ : Hid _ := HQ
  unfold gvV ptr
  dsimp only
  rw [hn1, hn2, hn3]
  obtain ⟨W1, hW1⟩ : ∃ W1, w.alloc (.cells #[.bool us, .int .i64 pa, .string na, .int .i64 we, .int .i64 cp, .int .i64 pe, .int .i64 ne, .int .i64 su, .int .i64 qu, .int .i64 po, .int .i64 sp, .slice p1 n1 c1, .slice p2 n2 c2, .slice p3 n3 c3] 84) = W1 := ⟨_, rfl⟩
  have acc : Below w.heap.size w W1 := by rw [← hW1]; exact (Below.refl _ _).alloc (Nat.le_refl _) _
  have gb : W1.heap[w.heap.size]? = some (.cells #[.bool us, .int .i64 pa, .string na, .int .i64 we, .int .i64 cp, .int .i64 pe, .int .i64 ne, .int .i64 su, .int .i64 qu, .int .i64 po, .int .i64 sp, .slice p1 n1 c1, .slice p2 n2 c2, .slice p3 n3 c3] 84 (0, 0)) := by rw [← hW1]; exact World.alloc_heap_new w _
  have lg : w.heap.size < W1.heap.size := by rw [← hW1]; simp
  obtain ⟨g0, g1, g2, g3, g4, g5, g6, g7, g8, g9, g10, g11, g12, g13⟩ := gbox gb
  replace v0 := (acc.cell (p := ⟨pw, 0, none⟩) hpw).trans v0
  replace v1 := (acc.cell (p := ⟨pw, 1, none⟩) hpw).trans v1
  replace HBa : Hid (SlBa W1 (.slice p1 n1 c1) (.slice p2 n2 c2) ⟨qu, po, sp, lo, dr⟩) := HBa.out.below acc
  have lp : pw < W1.heap.size := Nat.lt_of_lt_of_le hpw acc.size
  have HH : Hid (noBandB ⟨qu, po, sp, lo, dr⟩ = nb) := hn
  clear hb hz hA gb hpw hn hn1 hn2 hn3 hnc hnow
  subst hv
  cases h0 : bandOk ⟨qu, po, sp, lo, dr⟩
  · have HR : Hid (quotaB now nc ⟨us, pa, na, we, cp, pe, ne, su, ⟨qu, po, sp, lo, dr⟩, sh⟩ = false) := by unfold Hid; simp [HQ.out, ← Int.natCast_inj, h0]
    go_enter Tryz.func144, Tryz.ntmps144
    go_wp2_with ((go_at_call 141; refine (noBand_any ⟨qu, po, sp, lo, dr⟩ _ _ _ HBa.out).mono ?_; rintro e1 V ⟨rfl, hb1⟩; rw [HH.out]; have v0 := (hb1.cell (p := ⟨pw, 0, none⟩) lp).trans v0; have v1 := (hb1.cell (p := ⟨pw, 1, none⟩) lp).trans v1; have g5 := (hb1.cell (p := ⟨w.heap.size, 5, none⟩) lg).trans g5; have g6 := (hb1.cell (p := ⟨w.heap.size, 6, none⟩) lg).trans g6; have g8 := (hb1.cell (p := ⟨w.heap.size, 8, none⟩) lg).trans g8; have g9 := (hb1.cell (p := ⟨w.heap.size, 9, none⟩) lg).trans g9; have g10 := (hb1.cell (p := ⟨w.heap.size, 10, none⟩) lg).trans g10; have g11 := (hb1.cell (p := ⟨w.heap.size, 11, none⟩) lg).trans g11; have g12 := (hb1.cell (p := ⟨w.heap.size, 12, none⟩) lg).trans g12; have lp := Nat.lt_of_lt_of_le lp hb1.size; have lg := Nat.lt_of_lt_of_le lg hb1.size; have HBa : Hid (SlBa V (.slice p1 n1 c1) (.slice p2 n2 c2) ⟨qu, po, sp, lo, dr⟩) := SlBa.below HBa.out hb1; replace acc := acc.trans (hb1.mono acc.size); clear hb1))
    have cB : ∀ d os, Calls Tryz.prog 171 #[.agg #[.int .i64 qu, .int .i64 po, .int .i64 sp, .slice p1 n1 c1, .slice p2 n2 c2]] (grow (redrawn V d) os) fun e' w'' => e' = .returned (.bool (bandOk ⟨qu, po, sp, lo, dr⟩)) ∧ ∃ p : Regrown, w'' = grow (redrawn V p.d) p.os := fun d os => Calls.regrown_of (impl_bandOk ⟨qu, po, sp, lo, dr⟩ _ _ _ (SlBa.below HBa.out (below_regrown V d os)))
    have k5 := cell_regrown g5
    have k6 := cell_regrown g6
    have k8 := cell_regrown g8
    have k9 := cell_regrown g9
    have k10 := cell_regrown g10
    have k11 := cell_regrown g11
    have k12 := cell_regrown g12
    have j0 := cell_regrown v0
    have j1 := cell_regrown v1
    refine wp_region_quiet_below (by kernel_rfl) (by kernel_rfl) ?_
    repeat (go_big_quiet_step (exact cB _ _))
    refine wpQuiet_nil ?_
    rintro _ ⟨⟨dq, osq⟩, rfl⟩
    obtain ⟨V2, hV2⟩ : ∃ V2, grow (redrawn V dq) osq = V2 := ⟨_, rfl⟩
    have hb1 : Below V.heap.size V V2 := by rw [← hV2]; exact below_regrown _ _ _
    rw [hV2]
    clear hV2 cB k5 k6 k8 k9 k10 k11 k12 j0 j1
    replace acc := acc.trans (hb1.mono acc.size)
    replace v0 := (hb1.cell (p := ⟨pw, 0, none⟩) lp).trans v0
    replace g5 := (hb1.cell (p := ⟨w.heap.size, 5, none⟩) lg).trans g5
    replace g6 := (hb1.cell (p := ⟨w.heap.size, 6, none⟩) lg).trans g6
    go_wp2
    first
    | go_ret
    | (have k5 := cell_regrown g5
       have k6 := cell_regrown g6
       have j0 := cell_regrown v0
       refine wp_region_quiet_below (by kernel_rfl) (by kernel_rfl) ?_
       clear hW1
       have cP : ∀ d os, Calls Tryz.prog 172 #[.int .i64 pe] (grow (redrawn V2 d) os) fun e' w'' => e' = .returned (.bool (l1in pe 1 1000)) ∧ ∃ p : Regrown, w'' = grow (redrawn V2 p.d) p.os := fun d os => Calls.regrown_of ((isPeriod_any pe _).mono fun e' w' h => ⟨h.1, h.2 ▸ Below.refl _ _⟩)
       try rw [h2] at cP
       repeat (go_big_quiet_step (exact cP _ _))
       refine wpQuiet_nil ?_
       rintro _ ⟨⟨dq2, osq2⟩, rfl⟩
       replace acc := acc.trans ((below_regrown V2 dq2 osq2).mono acc.size)
       go_wp2
       go_ret)
    refine ⟨?_, acc⟩
    first | exact ret_bool HR.out.symm | (rw [HR.out]; simp [h0]; done) | (rw [HR.out]; simp [h0]; omega)
  · by_cases h1 : (n1 : Int) = nc
    · cases h2 : l1in pe 1 1000
      · have HR : Hid (quotaB now nc ⟨us, pa, na, we, cp, pe, ne, su, ⟨qu, po, sp, lo, dr⟩, sh⟩ = false) := by unfold Hid; simp [HQ.out, ← Int.natCast_inj, h0, h1, h2]
        go_enter Tryz.func144, Tryz.ntmps144
        go_wp2_with ((go_at_call 141; refine (noBand_any ⟨qu, po, sp, lo, dr⟩ _ _ _ HBa.out).mono ?_; rintro e1 V ⟨rfl, hb1⟩; rw [HH.out]; have v0 := (hb1.cell (p := ⟨pw, 0, none⟩) lp).trans v0; have v1 := (hb1.cell (p := ⟨pw, 1, none⟩) lp).trans v1; have g5 := (hb1.cell (p := ⟨w.heap.size, 5, none⟩) lg).trans g5; have g6 := (hb1.cell (p := ⟨w.heap.size, 6, none⟩) lg).trans g6; have g8 := (hb1.cell (p := ⟨w.heap.size, 8, none⟩) lg).trans g8; have g9 := (hb1.cell (p := ⟨w.heap.size, 9, none⟩) lg).trans g9; have g10 := (hb1.cell (p := ⟨w.heap.size, 10, none⟩) lg).trans g10; have g11 := (hb1.cell (p := ⟨w.heap.size, 11, none⟩) lg).trans g11; have g12 := (hb1.cell (p := ⟨w.heap.size, 12, none⟩) lg).trans g12; have lp := Nat.lt_of_lt_of_le lp hb1.size; have lg := Nat.lt_of_lt_of_le lg hb1.size; have HBa : Hid (SlBa V (.slice p1 n1 c1) (.slice p2 n2 c2) ⟨qu, po, sp, lo, dr⟩) := SlBa.below HBa.out hb1; replace acc := acc.trans (hb1.mono acc.size); clear hb1))
        have cB : ∀ d os, Calls Tryz.prog 171 #[.agg #[.int .i64 qu, .int .i64 po, .int .i64 sp, .slice p1 n1 c1, .slice p2 n2 c2]] (grow (redrawn V d) os) fun e' w'' => e' = .returned (.bool (bandOk ⟨qu, po, sp, lo, dr⟩)) ∧ ∃ p : Regrown, w'' = grow (redrawn V p.d) p.os := fun d os => Calls.regrown_of (impl_bandOk ⟨qu, po, sp, lo, dr⟩ _ _ _ (SlBa.below HBa.out (below_regrown V d os)))
        have k5 := cell_regrown g5
        have k6 := cell_regrown g6
        have k8 := cell_regrown g8
        have k9 := cell_regrown g9
        have k10 := cell_regrown g10
        have k11 := cell_regrown g11
        have k12 := cell_regrown g12
        have j0 := cell_regrown v0
        have j1 := cell_regrown v1
        refine wp_region_quiet_below (by kernel_rfl) (by kernel_rfl) ?_
        repeat (go_big_quiet_step (exact cB _ _))
        refine wpQuiet_nil ?_
        rintro _ ⟨⟨dq, osq⟩, rfl⟩
        obtain ⟨V2, hV2⟩ : ∃ V2, grow (redrawn V dq) osq = V2 := ⟨_, rfl⟩
        have hb1 : Below V.heap.size V V2 := by rw [← hV2]; exact below_regrown _ _ _
        rw [hV2]
        clear hV2 cB k5 k6 k8 k9 k10 k11 k12 j0 j1
        replace acc := acc.trans (hb1.mono acc.size)
        replace v0 := (hb1.cell (p := ⟨pw, 0, none⟩) lp).trans v0
        replace g5 := (hb1.cell (p := ⟨w.heap.size, 5, none⟩) lg).trans g5
        replace g6 := (hb1.cell (p := ⟨w.heap.size, 6, none⟩) lg).trans g6
        go_wp2
        first
        | go_ret
        | (have k5 := cell_regrown g5
           have k6 := cell_regrown g6
           have j0 := cell_regrown v0
           refine wp_region_quiet_below (by kernel_rfl) (by kernel_rfl) ?_
           clear hW1
           have cP : ∀ d os, Calls Tryz.prog 172 #[.int .i64 pe] (grow (redrawn V2 d) os) fun e' w'' => e' = .returned (.bool (l1in pe 1 1000)) ∧ ∃ p : Regrown, w'' = grow (redrawn V2 p.d) p.os := fun d os => Calls.regrown_of ((isPeriod_any pe _).mono fun e' w' h => ⟨h.1, h.2 ▸ Below.refl _ _⟩)
           try rw [h2] at cP
           repeat (go_big_quiet_step (exact cP _ _))
           refine wpQuiet_nil ?_
           rintro _ ⟨⟨dq2, osq2⟩, rfl⟩
           replace acc := acc.trans ((below_regrown V2 dq2 osq2).mono acc.size)
           go_wp2
           go_ret)
        refine ⟨?_, acc⟩
        first | exact ret_bool HR.out.symm | (rw [HR.out]; simp [h0, h1, h2]; done) | (rw [HR.out]; simp [h0, h1, h2]; omega)
      · cases h4 : decide (now < ne)
        · have HR : Hid (quotaB now nc ⟨us, pa, na, we, cp, pe, ne, su, ⟨qu, po, sp, lo, dr⟩, sh⟩ = false) := by unfold Hid; simp [HQ.out, ← Int.natCast_inj, h0, h1, h2, h4]
          go_enter Tryz.func144, Tryz.ntmps144
          go_wp2_with ((go_at_call 141; refine (noBand_any ⟨qu, po, sp, lo, dr⟩ _ _ _ HBa.out).mono ?_; rintro e1 V ⟨rfl, hb1⟩; rw [HH.out]; have v0 := (hb1.cell (p := ⟨pw, 0, none⟩) lp).trans v0; have v1 := (hb1.cell (p := ⟨pw, 1, none⟩) lp).trans v1; have g5 := (hb1.cell (p := ⟨w.heap.size, 5, none⟩) lg).trans g5; have g6 := (hb1.cell (p := ⟨w.heap.size, 6, none⟩) lg).trans g6; have g8 := (hb1.cell (p := ⟨w.heap.size, 8, none⟩) lg).trans g8; have g9 := (hb1.cell (p := ⟨w.heap.size, 9, none⟩) lg).trans g9; have g10 := (hb1.cell (p := ⟨w.heap.size, 10, none⟩) lg).trans g10; have g11 := (hb1.cell (p := ⟨w.heap.size, 11, none⟩) lg).trans g11; have g12 := (hb1.cell (p := ⟨w.heap.size, 12, none⟩) lg).trans g12; have lp := Nat.lt_of_lt_of_le lp hb1.size; have lg := Nat.lt_of_lt_of_le lg hb1.size; have HBa : Hid (SlBa V (.slice p1 n1 c1) (.slice p2 n2 c2) ⟨qu, po, sp, lo, dr⟩) := SlBa.below HBa.out hb1; replace acc := acc.trans (hb1.mono acc.size); clear hb1))
          have cB : ∀ d os, Calls Tryz.prog 171 #[.agg #[.int .i64 qu, .int .i64 po, .int .i64 sp, .slice p1 n1 c1, .slice p2 n2 c2]] (grow (redrawn V d) os) fun e' w'' => e' = .returned (.bool (bandOk ⟨qu, po, sp, lo, dr⟩)) ∧ ∃ p : Regrown, w'' = grow (redrawn V p.d) p.os := fun d os => Calls.regrown_of (impl_bandOk ⟨qu, po, sp, lo, dr⟩ _ _ _ (SlBa.below HBa.out (below_regrown V d os)))
          have k5 := cell_regrown g5
          have k6 := cell_regrown g6
          have k8 := cell_regrown g8
          have k9 := cell_regrown g9
          have k10 := cell_regrown g10
          have k11 := cell_regrown g11
          have k12 := cell_regrown g12
          have j0 := cell_regrown v0
          have j1 := cell_regrown v1
          refine wp_region_quiet_below (by kernel_rfl) (by kernel_rfl) ?_
          repeat (go_big_quiet_step (exact cB _ _))
          refine wpQuiet_nil ?_
          rintro _ ⟨⟨dq, osq⟩, rfl⟩
          obtain ⟨V2, hV2⟩ : ∃ V2, grow (redrawn V dq) osq = V2 := ⟨_, rfl⟩
          have hb1 : Below V.heap.size V V2 := by rw [← hV2]; exact below_regrown _ _ _
          rw [hV2]
          clear hV2 cB k5 k6 k8 k9 k10 k11 k12 j0 j1
          replace acc := acc.trans (hb1.mono acc.size)
          replace v0 := (hb1.cell (p := ⟨pw, 0, none⟩) lp).trans v0
          replace g5 := (hb1.cell (p := ⟨w.heap.size, 5, none⟩) lg).trans g5
          replace g6 := (hb1.cell (p := ⟨w.heap.size, 6, none⟩) lg).trans g6
          go_wp2
          first
          | go_ret
          | (have k5 := cell_regrown g5
             have k6 := cell_regrown g6
             have j0 := cell_regrown v0
             refine wp_region_quiet_below (by kernel_rfl) (by kernel_rfl) ?_
             clear hW1
             have cP : ∀ d os, Calls Tryz.prog 172 #[.int .i64 pe] (grow (redrawn V2 d) os) fun e' w'' => e' = .returned (.bool (l1in pe 1 1000)) ∧ ∃ p : Regrown, w'' = grow (redrawn V2 p.d) p.os := fun d os => Calls.regrown_of ((isPeriod_any pe _).mono fun e' w' h => ⟨h.1, h.2 ▸ Below.refl _ _⟩)
             try rw [h2] at cP
             repeat (go_big_quiet_step (exact cP _ _))
             refine wpQuiet_nil ?_
             rintro _ ⟨⟨dq2, osq2⟩, rfl⟩
             replace acc := acc.trans ((below_regrown V2 dq2 osq2).mono acc.size)
             go_wp2
             go_ret)
          refine ⟨?_, acc⟩
          first | exact ret_bool HR.out.symm | (rw [HR.out]; simp [h0, h1, h2, h4]; done) | (rw [HR.out]; simp [h0, h1, h2, h4]; omega)
        · by_cases h5 : wrap64 (ne - now) ≤ pe
          · have HR : Hid (quotaB now nc ⟨us, pa, na, we, cp, pe, ne, su, ⟨qu, po, sp, lo, dr⟩, sh⟩ = true) := by unfold Hid; simp [HQ.out, ← Int.natCast_inj, h0, h1, h2, h4, h5]
            go_enter Tryz.func144, Tryz.ntmps144
            go_wp2_with ((go_at_call 141; refine (noBand_any ⟨qu, po, sp, lo, dr⟩ _ _ _ HBa.out).mono ?_; rintro e1 V ⟨rfl, hb1⟩; rw [HH.out]; have v0 := (hb1.cell (p := ⟨pw, 0, none⟩) lp).trans v0; have v1 := (hb1.cell (p := ⟨pw, 1, none⟩) lp).trans v1; have g5 := (hb1.cell (p := ⟨w.heap.size, 5, none⟩) lg).trans g5; have g6 := (hb1.cell (p := ⟨w.heap.size, 6, none⟩) lg).trans g6; have g8 := (hb1.cell (p := ⟨w.heap.size, 8, none⟩) lg).trans g8; have g9 := (hb1.cell (p := ⟨w.heap.size, 9, none⟩) lg).trans g9; have g10 := (hb1.cell (p := ⟨w.heap.size, 10, none⟩) lg).trans g10; have g11 := (hb1.cell (p := ⟨w.heap.size, 11, none⟩) lg).trans g11; have g12 := (hb1.cell (p := ⟨w.heap.size, 12, none⟩) lg).trans g12; have lp := Nat.lt_of_lt_of_le lp hb1.size; have lg := Nat.lt_of_lt_of_le lg hb1.size; have HBa : Hid (SlBa V (.slice p1 n1 c1) (.slice p2 n2 c2) ⟨qu, po, sp, lo, dr⟩) := SlBa.below HBa.out hb1; replace acc := acc.trans (hb1.mono acc.size); clear hb1))
            have cB : ∀ d os, Calls Tryz.prog 171 #[.agg #[.int .i64 qu, .int .i64 po, .int .i64 sp, .slice p1 n1 c1, .slice p2 n2 c2]] (grow (redrawn V d) os) fun e' w'' => e' = .returned (.bool (bandOk ⟨qu, po, sp, lo, dr⟩)) ∧ ∃ p : Regrown, w'' = grow (redrawn V p.d) p.os := fun d os => Calls.regrown_of (impl_bandOk ⟨qu, po, sp, lo, dr⟩ _ _ _ (SlBa.below HBa.out (below_regrown V d os)))
            have k5 := cell_regrown g5
            have k6 := cell_regrown g6
            have k8 := cell_regrown g8
            have k9 := cell_regrown g9
            have k10 := cell_regrown g10
            have k11 := cell_regrown g11
            have k12 := cell_regrown g12
            have j0 := cell_regrown v0
            have j1 := cell_regrown v1
            refine wp_region_quiet_below (by kernel_rfl) (by kernel_rfl) ?_
            repeat (go_big_quiet_step (exact cB _ _))
            refine wpQuiet_nil ?_
            rintro _ ⟨⟨dq, osq⟩, rfl⟩
            obtain ⟨V2, hV2⟩ : ∃ V2, grow (redrawn V dq) osq = V2 := ⟨_, rfl⟩
            have hb1 : Below V.heap.size V V2 := by rw [← hV2]; exact below_regrown _ _ _
            rw [hV2]
            clear hV2 cB k5 k6 k8 k9 k10 k11 k12 j0 j1
            replace acc := acc.trans (hb1.mono acc.size)
            replace v0 := (hb1.cell (p := ⟨pw, 0, none⟩) lp).trans v0
            replace g5 := (hb1.cell (p := ⟨w.heap.size, 5, none⟩) lg).trans g5
            replace g6 := (hb1.cell (p := ⟨w.heap.size, 6, none⟩) lg).trans g6
            go_wp2
            first
            | go_ret
            | (have k5 := cell_regrown g5
               have k6 := cell_regrown g6
               have j0 := cell_regrown v0
               refine wp_region_quiet_below (by kernel_rfl) (by kernel_rfl) ?_
               clear hW1
               have cP : ∀ d os, Calls Tryz.prog 172 #[.int .i64 pe] (grow (redrawn V2 d) os) fun e' w'' => e' = .returned (.bool (l1in pe 1 1000)) ∧ ∃ p : Regrown, w'' = grow (redrawn V2 p.d) p.os := fun d os => Calls.regrown_of ((isPeriod_any pe _).mono fun e' w' h => ⟨h.1, h.2 ▸ Below.refl _ _⟩)
               try rw [h2] at cP
               repeat (go_big_quiet_step (exact cP _ _))
               refine wpQuiet_nil ?_
               rintro _ ⟨⟨dq2, osq2⟩, rfl⟩
               replace acc := acc.trans ((below_regrown V2 dq2 osq2).mono acc.size)
               go_wp2
               go_ret)
            refine ⟨?_, acc⟩
            first | exact ret_bool HR.out.symm | (rw [HR.out]; simp [h0, h1, h2, h4, h5]; done) | (rw [HR.out]; simp [h0, h1, h2, h4, h5]; omega)
          · have HR : Hid (quotaB now nc ⟨us, pa, na, we, cp, pe, ne, su, ⟨qu, po, sp, lo, dr⟩, sh⟩ = false) := by unfold Hid; simp [HQ.out, ← Int.natCast_inj, h0, h1, h2, h4, h5]
            go_enter Tryz.func144, Tryz.ntmps144
            go_wp2_with ((go_at_call 141; refine (noBand_any ⟨qu, po, sp, lo, dr⟩ _ _ _ HBa.out).mono ?_; rintro e1 V ⟨rfl, hb1⟩; rw [HH.out]; have v0 := (hb1.cell (p := ⟨pw, 0, none⟩) lp).trans v0; have v1 := (hb1.cell (p := ⟨pw, 1, none⟩) lp).trans v1; have g5 := (hb1.cell (p := ⟨w.heap.size, 5, none⟩) lg).trans g5; have g6 := (hb1.cell (p := ⟨w.heap.size, 6, none⟩) lg).trans g6; have g8 := (hb1.cell (p := ⟨w.heap.size, 8, none⟩) lg).trans g8; have g9 := (hb1.cell (p := ⟨w.heap.size, 9, none⟩) lg).trans g9; have g10 := (hb1.cell (p := ⟨w.heap.size, 10, none⟩) lg).trans g10; have g11 := (hb1.cell (p := ⟨w.heap.size, 11, none⟩) lg).trans g11; have g12 := (hb1.cell (p := ⟨w.heap.size, 12, none⟩) lg).trans g12; have lp := Nat.lt_of_lt_of_le lp hb1.size; have lg := Nat.lt_of_lt_of_le lg hb1.size; have HBa : Hid (SlBa V (.slice p1 n1 c1) (.slice p2 n2 c2) ⟨qu, po, sp, lo, dr⟩) := SlBa.below HBa.out hb1; replace acc := acc.trans (hb1.mono acc.size); clear hb1))
            have cB : ∀ d os, Calls Tryz.prog 171 #[.agg #[.int .i64 qu, .int .i64 po, .int .i64 sp, .slice p1 n1 c1, .slice p2 n2 c2]] (grow (redrawn V d) os) fun e' w'' => e' = .returned (.bool (bandOk ⟨qu, po, sp, lo, dr⟩)) ∧ ∃ p : Regrown, w'' = grow (redrawn V p.d) p.os := fun d os => Calls.regrown_of (impl_bandOk ⟨qu, po, sp, lo, dr⟩ _ _ _ (SlBa.below HBa.out (below_regrown V d os)))
            have k5 := cell_regrown g5
            have k6 := cell_regrown g6
            have k8 := cell_regrown g8
            have k9 := cell_regrown g9
            have k10 := cell_regrown g10
            have k11 := cell_regrown g11
            have k12 := cell_regrown g12
            have j0 := cell_regrown v0
            have j1 := cell_regrown v1
            refine wp_region_quiet_below (by kernel_rfl) (by kernel_rfl) ?_
            repeat (go_big_quiet_step (exact cB _ _))
            refine wpQuiet_nil ?_
            rintro _ ⟨⟨dq, osq⟩, rfl⟩
            obtain ⟨V2, hV2⟩ : ∃ V2, grow (redrawn V dq) osq = V2 := ⟨_, rfl⟩
            have hb1 : Below V.heap.size V V2 := by rw [← hV2]; exact below_regrown _ _ _
            rw [hV2]
            clear hV2 cB k5 k6 k8 k9 k10 k11 k12 j0 j1
            replace acc := acc.trans (hb1.mono acc.size)
            replace v0 := (hb1.cell (p := ⟨pw, 0, none⟩) lp).trans v0
            replace g5 := (hb1.cell (p := ⟨w.heap.size, 5, none⟩) lg).trans g5
            replace g6 := (hb1.cell (p := ⟨w.heap.size, 6, none⟩) lg).trans g6
            go_wp2
            first
            | go_ret
            | (have k5 := cell_regrown g5
               have k6 := cell_regrown g6
               have j0 := cell_regrown v0
               refine wp_region_quiet_below (by kernel_rfl) (by kernel_rfl) ?_
               clear hW1
               have cP : ∀ d os, Calls Tryz.prog 172 #[.int .i64 pe] (grow (redrawn V2 d) os) fun e' w'' => e' = .returned (.bool (l1in pe 1 1000)) ∧ ∃ p : Regrown, w'' = grow (redrawn V2 p.d) p.os := fun d os => Calls.regrown_of ((isPeriod_any pe _).mono fun e' w' h => ⟨h.1, h.2 ▸ Below.refl _ _⟩)
               try rw [h2] at cP
               repeat (go_big_quiet_step (exact cP _ _))
               refine wpQuiet_nil ?_
               rintro _ ⟨⟨dq2, osq2⟩, rfl⟩
               replace acc := acc.trans ((below_regrown V2 dq2 osq2).mono acc.size)
               go_wp2
               go_ret)
            refine ⟨?_, acc⟩
            first | exact ret_bool HR.out.symm | (rw [HR.out]; simp [h0, h1, h2, h4, h5]; done) | (rw [HR.out]; simp [h0, h1, h2, h4, h5]; omega)
    · have HR : Hid (quotaB now nc ⟨us, pa, na, we, cp, pe, ne, su, ⟨qu, po, sp, lo, dr⟩, sh⟩ = false) := by unfold Hid; simp [HQ.out, ← Int.natCast_inj, h0, h1]
      have h1q : ((n1 : Int) == nc) = false := by simpa using h1
      have h1p : ((n1 : Int) != nc) = true := by simpa using h1
      go_enter Tryz.func144, Tryz.ntmps144
      go_wp2_with ((go_at_call 141; refine (noBand_any ⟨qu, po, sp, lo, dr⟩ _ _ _ HBa.out).mono ?_; rintro e1 V ⟨rfl, hb1⟩; rw [HH.out]; have v0 := (hb1.cell (p := ⟨pw, 0, none⟩) lp).trans v0; have v1 := (hb1.cell (p := ⟨pw, 1, none⟩) lp).trans v1; have g5 := (hb1.cell (p := ⟨w.heap.size, 5, none⟩) lg).trans g5; have g6 := (hb1.cell (p := ⟨w.heap.size, 6, none⟩) lg).trans g6; have g8 := (hb1.cell (p := ⟨w.heap.size, 8, none⟩) lg).trans g8; have g9 := (hb1.cell (p := ⟨w.heap.size, 9, none⟩) lg).trans g9; have g10 := (hb1.cell (p := ⟨w.heap.size, 10, none⟩) lg).trans g10; have g11 := (hb1.cell (p := ⟨w.heap.size, 11, none⟩) lg).trans g11; have g12 := (hb1.cell (p := ⟨w.heap.size, 12, none⟩) lg).trans g12; have lp := Nat.lt_of_lt_of_le lp hb1.size; have lg := Nat.lt_of_lt_of_le lg hb1.size; have HBa : Hid (SlBa V (.slice p1 n1 c1) (.slice p2 n2 c2) ⟨qu, po, sp, lo, dr⟩) := SlBa.below HBa.out hb1; replace acc := acc.trans (hb1.mono acc.size); clear hb1))
      have cB : ∀ d os, Calls Tryz.prog 171 #[.agg #[.int .i64 qu, .int .i64 po, .int .i64 sp, .slice p1 n1 c1, .slice p2 n2 c2]] (grow (redrawn V d) os) fun e' w'' => e' = .returned (.bool (bandOk ⟨qu, po, sp, lo, dr⟩)) ∧ ∃ p : Regrown, w'' = grow (redrawn V p.d) p.os := fun d os => Calls.regrown_of (impl_bandOk ⟨qu, po, sp, lo, dr⟩ _ _ _ (SlBa.below HBa.out (below_regrown V d os)))
      have k5 := cell_regrown g5
      have k6 := cell_regrown g6
      have k8 := cell_regrown g8
      have k9 := cell_regrown g9
      have k10 := cell_regrown g10
      have k11 := cell_regrown g11
      have k12 := cell_regrown g12
      have j0 := cell_regrown v0
      have j1 := cell_regrown v1
      refine wp_region_quiet_below (by kernel_rfl) (by kernel_rfl) ?_
      repeat (go_big_quiet_step (exact cB _ _))
      refine wpQuiet_nil ?_
      rintro _ ⟨⟨dq, osq⟩, rfl⟩
      obtain ⟨V2, hV2⟩ : ∃ V2, grow (redrawn V dq) osq = V2 := ⟨_, rfl⟩
      have hb1 : Below V.heap.size V V2 := by rw [← hV2]; exact below_regrown _ _ _
      rw [hV2]
      clear hV2 cB k5 k6 k8 k9 k10 k11 k12 j0 j1
      replace acc := acc.trans (hb1.mono acc.size)
      replace v0 := (hb1.cell (p := ⟨pw, 0, none⟩) lp).trans v0
      replace g5 := (hb1.cell (p := ⟨w.heap.size, 5, none⟩) lg).trans g5
      replace g6 := (hb1.cell (p := ⟨w.heap.size, 6, none⟩) lg).trans g6
      go_wp2
      first
      | go_ret
      | (have k5 := cell_regrown g5
         have k6 := cell_regrown g6
         have j0 := cell_regrown v0
         refine wp_region_quiet_below (by kernel_rfl) (by kernel_rfl) ?_
         clear hW1
         have cP : ∀ d os, Calls Tryz.prog 172 #[.int .i64 pe] (grow (redrawn V2 d) os) fun e' w'' => e' = .returned (.bool (l1in pe 1 1000)) ∧ ∃ p : Regrown, w'' = grow (redrawn V2 p.d) p.os := fun d os => Calls.regrown_of ((isPeriod_any pe _).mono fun e' w' h => ⟨h.1, h.2 ▸ Below.refl _ _⟩)
         try rw [h2] at cP
         repeat (go_big_quiet_step (exact cP _ _))
         refine wpQuiet_nil ?_
         rintro _ ⟨⟨dq2, osq2⟩, rfl⟩
         replace acc := acc.trans ((below_regrown V2 dq2 osq2).mono acc.size)
         go_wp2
         go_ret)
      refine ⟨?_, acc⟩
      first | exact ret_bool HR.out.symm | (rw [HR.out]; simp [h0, h1]; done) | (rw [HR.out]; simp [h0, h1]; omega)
theorem quotaOk_any (pw : Nat) (u : Wv) (e : Gv) (w : World) (hA : AtW w pw u) (hs : GvOk w e) :
    Calls Tryz.prog 144 #[ptr pw, gvV e] w fun e' w' => e' = .returned (.bool (quotaB u.now u.cs.length e.d)) ∧ Below w.heap.size w w' := by
  cases hn : noBandB e.d.ba
  · exact quotaOk_yes pw u e _ w hA hs hn rfl
  · exact quotaOk_no pw u e _ w hA hs hn rfl
end Go.Proofs.YtnmmglkigiakaaaGreat
