/- The program: whether a group is ok. The program: whether the root, and any group, is ok. -/
import Derived.Test.YtnmmglkigiakaaaGreatD23
namespace Go.Proofs.YtnmmglkigiakaaaGreat
set_option maxRecDepth 100000
set_option maxHeartbeats 32000000
set_option linter.unusedVariables false
set_option linter.unusedSimpArgs false
open Go.ChangeShapes Go.WideShapes Go.ChangeAt Go.RowKit Go.Shelf Go.Sort
theorem groupOk_no (pw : Nat) (k : Nat) (u : Wv) (e : Gv) (w : World) (hA : AtW w pw u) (he : u.gs[k]? = some e) (hu : e.d.us = false) :
    Calls Tryz.prog 109 #[ptr pw, .int .i64 ((k : Nat) : Int)] w fun e' w' => e' = .returned (.bool (groupB u.now u.cs.length k e.d)) ∧ Below w.heap.size w w' := by
  obtain ⟨gr, go, cap, w3, hr, hk, hl⟩ := hA.cellsG he
  obtain ⟨y0, y1, y2, y3, y4, y5, y6, y7, y8, y9, y10, y11, y12, y13⟩ := gv_cells hr
  have hok := hA.2.2.2.2 e (List.mem_of_getElem? he)
  obtain ⟨pc, cc, _, _, _, _, v1, _, _, hcl, _, _⟩ := hA.lens
  have hpw := hA.lt
  have HA : Hid (AtW w pw u) := hA
  have hgr : gr < w.heap.size := block_lt_of_cell y0
  obtain ⟨⟨us, pa, na, we, cp, pe, ne, su, ⟨qu, po, sp, lo, dr⟩, sh⟩, x, y, z⟩ := e
  dsimp only at hok hu y0 y1 y2 y3 y4 y5 y6 y7 y8 y9 y10 y11 y12 y13 ⊢
  subst hu
  have HG : Hid (GvOk w ⟨⟨false, pa, na, we, cp, pe, ne, su, ⟨qu, po, sp, lo, dr⟩, sh⟩, x, y, z⟩) := hok
  obtain ⟨hb, hz⟩ := hok
  obtain ⟨p1, c1, e1, hl1⟩ := hb.1.form
  obtain ⟨p2, c2, e2, hl2⟩ := hb.2.form
  obtain ⟨p3, c3, e3, hl3⟩ := SlR.form hz
  dsimp only at e1 e2 e3 hl1 hl2 hl3 y11 y12 y13
  subst e1 e2 e3
  obtain ⟨n1, hn1⟩ : ∃ n, lo.length = n := ⟨_, rfl⟩
  obtain ⟨n2, hn2⟩ : ∃ n, dr.length = n := ⟨_, rfl⟩
  obtain ⟨n3, hn3⟩ : ∃ n, sh.length = n := ⟨_, rfl⟩
  obtain ⟨nc, hnc⟩ : ∃ n, u.cs.length = n := ⟨_, rfl⟩
  have HBa : Hid (SlBa w (.slice p1 n1 c1) (.slice p2 n2 c2) ⟨qu, po, sp, lo, dr⟩) := by rw [← hn1, ← hn2]; exact hb
  have HN : Hid (lo.length = n1 ∧ dr.length = n2 ∧ sh.length = n3 ∧ u.cs.length = nc) := ⟨hn1, hn2, hn3, hnc⟩
  rw [hn1] at hl1 y11
  rw [hn2] at hl2 y12
  rw [hn3] at hl3 y13
  rw [hn1, hn2, hn3] at HG
  rw [hnc] at v1 hcl
  obtain ⟨qb, hqb⟩ : ∃ b, quotaB u.now u.cs.length ⟨false, pa, na, we, cp, pe, ne, su, ⟨qu, po, sp, lo, dr⟩, sh⟩ = b := ⟨_, rfl⟩
  have HQ : Hid (quotaB u.now u.cs.length ⟨false, pa, na, we, cp, pe, ne, su, ⟨qu, po, sp, lo, dr⟩, sh⟩ = qb) := hqb
  rw [hnc] at hqb
  have HQN : Hid (quotaB u.now nc ⟨false, pa, na, we, cp, pe, ne, su, ⟨qu, po, sp, lo, dr⟩, sh⟩ = qb) := hqb
  clear hqb
  unfold ptr
  obtain ⟨W1, hW1⟩ : ∃ W1, w.alloc (.cells #[.bool false, .int .i64 pa, .string na, .int .i64 we, .int .i64 cp, .int .i64 pe, .int .i64 ne, .int .i64 su, .int .i64 qu, .int .i64 po, .int .i64 sp, .slice p1 n1 c1, .slice p2 n2 c2, .slice p3 n3 c3] 84) = W1 := ⟨_, rfl⟩
  have acc : Below w.heap.size w W1 := by rw [← hW1]; exact (Below.refl _ _).alloc (Nat.le_refl _) _
  have gb : W1.heap[w.heap.size]? = some (.cells #[.bool false, .int .i64 pa, .string na, .int .i64 we, .int .i64 cp, .int .i64 pe, .int .i64 ne, .int .i64 su, .int .i64 qu, .int .i64 po, .int .i64 sp, .slice p1 n1 c1, .slice p2 n2 c2, .slice p3 n3 c3] 84 (0, 0)) := by rw [← hW1]; exact World.alloc_heap_new w _
  have lg : w.heap.size < W1.heap.size := by rw [← hW1]; simp
  obtain ⟨g0, g1, g2, g3, g4, g5, g6, g7, g8, g9, g10, g11, g12, g13⟩ := gbox gb
  have v1' := (acc.cell (p := ⟨pw, 1, none⟩) hpw).trans v1
  have lp : pw < W1.heap.size := Nat.lt_of_lt_of_le hpw acc.size
  clear hb hz hA gb hr he hn1 hn2 hn3 hnc
  have HR : Hid (groupB u.now u.cs.length k ⟨false, pa, na, we, cp, pe, ne, su, ⟨qu, po, sp, lo, dr⟩, sh⟩ = noGroupB ⟨false, pa, na, we, cp, pe, ne, su, ⟨qu, po, sp, lo, dr⟩, sh⟩) := rfl
  go_enter Tryz.func109, Tryz.ntmps109
  go_wp2_with (first | (go_at_call 140; refine (noGroup_any ⟨⟨false, pa, na, we, cp, pe, ne, su, ⟨qu, po, sp, lo, dr⟩, sh⟩, .slice p1 n1 c1, .slice p2 n2 c2, .slice p3 n3 c3⟩ _ (HG.out.below acc)).mono ?_; rintro e1 w1 ⟨rfl, hb1⟩; replace acc := acc.trans (hb1.mono acc.size); clear hb1) | (go_at_call 141; refine (noBand_any ⟨qu, po, sp, lo, dr⟩ _ _ _ (HBa.out.below acc)).mono ?_; rintro e1 w1 ⟨rfl, hb1⟩; have v1' := (hb1.cell (p := ⟨pw, 1, none⟩) lp).trans v1'; obtain ⟨g0, g1, g2, g3, g4, g5, g6, g7, g8⟩ := cells_9 hb1 lg g0 g1 g2 g3 g4 g5 g6 g7 g8; obtain ⟨g9, g10, g11, g12, g13⟩ := cells_5 hb1 lg g9 g10 g11 g12 g13; have lp := Nat.lt_of_lt_of_le lp hb1.size; have lg := Nat.lt_of_lt_of_le lg hb1.size; replace acc := acc.trans (hb1.mono acc.size); clear hb1) | (go_at_call 142; refine (isWeight_any _ _).mono ?_; rintro e1 w1 ⟨rfl, rfl⟩) | (go_at_call 143; refine (someSet_any _ _).mono ?_; rintro e1 w1 ⟨rfl, rfl⟩) | (go_at_call 138; refine (isTime_any _ _).mono ?_; rintro e1 w1 ⟨rfl, rfl⟩) | (go_at_call 144; refine (quotaOk_any pw u ⟨⟨false, pa, na, we, cp, pe, ne, su, ⟨qu, po, sp, lo, dr⟩, sh⟩, .slice p1 n1 c1, .slice p2 n2 c2, .slice p3 n3 c3⟩ _ (HA.out.below acc) (HG.out.below acc)).mono ?_; rintro e1 w1 ⟨rfl, hb1⟩; rw [HQ.out]; replace acc := acc.trans (hb1.mono acc.size); clear hb1))
  go_ret
  exact ⟨ret_bool HR.out.symm, acc⟩
theorem groupOk_used (pw : Nat) (k : Nat) (u : Wv) (e : Gv) (w : World) (hA : AtW w pw u) (he : u.gs[k]? = some e) (hu : e.d.us = true) (hk0 : k ≠ 0) :
    Calls Tryz.prog 109 #[ptr pw, .int .i64 ((k : Nat) : Int)] w fun e' w' => e' = .returned (.bool (groupB u.now u.cs.length k e.d)) ∧ Below w.heap.size w w' := by
  obtain ⟨gr, go, cap, w3, hr, hk, hl⟩ := hA.cellsG he
  obtain ⟨y0, y1, y2, y3, y4, y5, y6, y7, y8, y9, y10, y11, y12, y13⟩ := gv_cells hr
  have hok := hA.2.2.2.2 e (List.mem_of_getElem? he)
  obtain ⟨pc, cc, _, _, _, _, v1, _, _, hcl, _, _⟩ := hA.lens
  have hpw := hA.lt
  have HA : Hid (AtW w pw u) := hA
  have hgr : gr < w.heap.size := block_lt_of_cell y0
  obtain ⟨⟨us, pa, na, we, cp, pe, ne, su, ⟨qu, po, sp, lo, dr⟩, sh⟩, x, y, z⟩ := e
  dsimp only at hok hu y0 y1 y2 y3 y4 y5 y6 y7 y8 y9 y10 y11 y12 y13 ⊢
  subst hu
  have HG : Hid (GvOk w ⟨⟨true, pa, na, we, cp, pe, ne, su, ⟨qu, po, sp, lo, dr⟩, sh⟩, x, y, z⟩) := hok
  obtain ⟨hb, hz⟩ := hok
  obtain ⟨p1, c1, e1, hl1⟩ := hb.1.form
  obtain ⟨p2, c2, e2, hl2⟩ := hb.2.form
  obtain ⟨p3, c3, e3, hl3⟩ := SlR.form hz
  dsimp only at e1 e2 e3 hl1 hl2 hl3 y11 y12 y13
  subst e1 e2 e3
  obtain ⟨n1, hn1⟩ : ∃ n, lo.length = n := ⟨_, rfl⟩
  obtain ⟨n2, hn2⟩ : ∃ n, dr.length = n := ⟨_, rfl⟩
  obtain ⟨n3, hn3⟩ : ∃ n, sh.length = n := ⟨_, rfl⟩
  obtain ⟨nc, hnc⟩ : ∃ n, u.cs.length = n := ⟨_, rfl⟩
  have HBa : Hid (SlBa w (.slice p1 n1 c1) (.slice p2 n2 c2) ⟨qu, po, sp, lo, dr⟩) := by rw [← hn1, ← hn2]; exact hb
  have HN : Hid (lo.length = n1 ∧ dr.length = n2 ∧ sh.length = n3 ∧ u.cs.length = nc) := ⟨hn1, hn2, hn3, hnc⟩
  rw [hn1] at hl1 y11
  rw [hn2] at hl2 y12
  rw [hn3] at hl3 y13
  rw [hn1, hn2, hn3] at HG
  rw [hnc] at v1 hcl
  obtain ⟨qb, hqb⟩ : ∃ b, quotaB u.now u.cs.length ⟨true, pa, na, we, cp, pe, ne, su, ⟨qu, po, sp, lo, dr⟩, sh⟩ = b := ⟨_, rfl⟩
  have HQ : Hid (quotaB u.now u.cs.length ⟨true, pa, na, we, cp, pe, ne, su, ⟨qu, po, sp, lo, dr⟩, sh⟩ = qb) := hqb
  rw [hnc] at hqb
  have HQN : Hid (quotaB u.now nc ⟨true, pa, na, we, cp, pe, ne, su, ⟨qu, po, sp, lo, dr⟩, sh⟩ = qb) := hqb
  clear hqb
  unfold ptr
  obtain ⟨W1, hW1⟩ : ∃ W1, w.alloc (.cells #[.bool true, .int .i64 pa, .string na, .int .i64 we, .int .i64 cp, .int .i64 pe, .int .i64 ne, .int .i64 su, .int .i64 qu, .int .i64 po, .int .i64 sp, .slice p1 n1 c1, .slice p2 n2 c2, .slice p3 n3 c3] 84) = W1 := ⟨_, rfl⟩
  have acc : Below w.heap.size w W1 := by rw [← hW1]; exact (Below.refl _ _).alloc (Nat.le_refl _) _
  have gb : W1.heap[w.heap.size]? = some (.cells #[.bool true, .int .i64 pa, .string na, .int .i64 we, .int .i64 cp, .int .i64 pe, .int .i64 ne, .int .i64 su, .int .i64 qu, .int .i64 po, .int .i64 sp, .slice p1 n1 c1, .slice p2 n2 c2, .slice p3 n3 c3] 84 (0, 0)) := by rw [← hW1]; exact World.alloc_heap_new w _
  have lg : w.heap.size < W1.heap.size := by rw [← hW1]; simp
  obtain ⟨g0, g1, g2, g3, g4, g5, g6, g7, g8, g9, g10, g11, g12, g13⟩ := gbox gb
  have v1' := (acc.cell (p := ⟨pw, 1, none⟩) hpw).trans v1
  have lp : pw < W1.heap.size := Nat.lt_of_lt_of_le hpw acc.size
  clear hb hz hA gb hr he hn1 hn2 hn3 hnc
  have hkk : k ≠ 0 := hk0
  have hk0 : ¬ (k : Int) = 0 := by omega
  cases h0 : l1in we 1 20
  · have HR : Hid (groupB u.now u.cs.length k ⟨true, pa, na, we, cp, pe, ne, su, ⟨qu, po, sp, lo, dr⟩, sh⟩ = false) := by unfold Hid; simp [groupB, rootGB, timeB, HN.out.2.2.1, HN.out.2.2.2, HQN.out, ← Int.natCast_inj, hkk, h0]
    go_enter Tryz.func109, Tryz.ntmps109
    go_wp2
    have cQ : ∀ d os, Calls Tryz.prog 144 #[.pointer (some ⟨pw, 0, none⟩), .agg #[.bool true, .int .i64 pa, .string na, .int .i64 we, .int .i64 cp, .int .i64 pe, .int .i64 ne, .int .i64 su, .int .i64 qu, .int .i64 po, .int .i64 sp, .slice p1 n1 c1, .slice p2 n2 c2, .slice p3 n3 c3]] (grow (redrawn W1 d) os) fun e' w'' => e' = .returned (.bool qb) ∧ ∃ p : Regrown, w'' = grow (redrawn W1 p.d) p.os := fun d os => by
      have h1 := quotaOk_any pw u ⟨⟨true, pa, na, we, cp, pe, ne, su, ⟨qu, po, sp, lo, dr⟩, sh⟩, .slice p1 n1 c1, .slice p2 n2 c2, .slice p3 n3 c3⟩ _ ((HA.out.below acc).below (below_regrown W1 d os)) ((HG.out.below acc).below (below_regrown W1 d os))
      rw [HQ.out] at h1
      exact Calls.regrown_of h1
    have cW : ∀ d os, Calls Tryz.prog 142 #[.int .i64 we] (grow (redrawn W1 d) os) fun e' w'' => e' = .returned (.bool (l1in we 1 20)) ∧ ∃ p : Regrown, w'' = grow (redrawn W1 p.d) p.os := fun d os => Calls.regrown_of ((isWeight_any we _).mono fun e' w' h => ⟨h.1, h.2 ▸ Below.refl _ _⟩)
    have cS : ∀ d os, Calls Tryz.prog 143 #[.int .i64 cp] (grow (redrawn W1 d) os) fun e' w'' => e' = .returned (.bool (setB cp)) ∧ ∃ p : Regrown, w'' = grow (redrawn W1 p.d) p.os := fun d os => Calls.regrown_of ((someSet_any cp _).mono fun e' w' h => ⟨h.1, h.2 ▸ Below.refl _ _⟩)
    have cT : ∀ d os, Calls Tryz.prog 138 #[.int .i64 su] (grow (redrawn W1 d) os) fun e' w'' => e' = .returned (.bool (l1in su 0 100000000000000000)) ∧ ∃ p : Regrown, w'' = grow (redrawn W1 p.d) p.os := fun d os => Calls.regrown_of ((isTime_any su _).mono fun e' w' h => ⟨h.1, h.2 ▸ Below.refl _ _⟩)
    try rw [h0] at cW
    try rw [h1] at cS
    try rw [h2] at cT
    try rw [h4] at cQ
    have k0 := cell_regrown g0
    have k1 := cell_regrown g1
    have k2 := cell_regrown g2
    have k3 := cell_regrown g3
    have k4 := cell_regrown g4
    have k5 := cell_regrown g5
    have k6 := cell_regrown g6
    have k7 := cell_regrown g7
    have k8 := cell_regrown g8
    have k9 := cell_regrown g9
    have k10 := cell_regrown g10
    have k11 := cell_regrown g11
    have k12 := cell_regrown g12
    have k13 := cell_regrown g13
    have j1 := cell_regrown v1'
    refine wp_region_quiet_below (by kernel_rfl) (by kernel_rfl) ?_
    clear hW1
    repeat (go_big_quiet_step (first | exact cW _ _ | exact cS _ _ | exact cT _ _ | exact cQ _ _))
    refine wpQuiet_nil ?_
    rintro _ ⟨⟨dq, osq⟩, rfl⟩
    replace acc := acc.trans ((below_regrown W1 dq osq).mono acc.size)
    go_wp2
    go_ret
    refine ⟨?_, acc⟩
    first | exact ret_bool HR.out.symm | (rw [HR.out]; simp [h0]; done) | (rw [HR.out]; simp [h0]; omega)
  · cases h1 : setB cp
    · have HR : Hid (groupB u.now u.cs.length k ⟨true, pa, na, we, cp, pe, ne, su, ⟨qu, po, sp, lo, dr⟩, sh⟩ = false) := by unfold Hid; simp [groupB, rootGB, timeB, HN.out.2.2.1, HN.out.2.2.2, HQN.out, ← Int.natCast_inj, hkk, h0, h1]
      go_enter Tryz.func109, Tryz.ntmps109
      go_wp2
      have cQ : ∀ d os, Calls Tryz.prog 144 #[.pointer (some ⟨pw, 0, none⟩), .agg #[.bool true, .int .i64 pa, .string na, .int .i64 we, .int .i64 cp, .int .i64 pe, .int .i64 ne, .int .i64 su, .int .i64 qu, .int .i64 po, .int .i64 sp, .slice p1 n1 c1, .slice p2 n2 c2, .slice p3 n3 c3]] (grow (redrawn W1 d) os) fun e' w'' => e' = .returned (.bool qb) ∧ ∃ p : Regrown, w'' = grow (redrawn W1 p.d) p.os := fun d os => by
        have h1 := quotaOk_any pw u ⟨⟨true, pa, na, we, cp, pe, ne, su, ⟨qu, po, sp, lo, dr⟩, sh⟩, .slice p1 n1 c1, .slice p2 n2 c2, .slice p3 n3 c3⟩ _ ((HA.out.below acc).below (below_regrown W1 d os)) ((HG.out.below acc).below (below_regrown W1 d os))
        rw [HQ.out] at h1
        exact Calls.regrown_of h1
      have cW : ∀ d os, Calls Tryz.prog 142 #[.int .i64 we] (grow (redrawn W1 d) os) fun e' w'' => e' = .returned (.bool (l1in we 1 20)) ∧ ∃ p : Regrown, w'' = grow (redrawn W1 p.d) p.os := fun d os => Calls.regrown_of ((isWeight_any we _).mono fun e' w' h => ⟨h.1, h.2 ▸ Below.refl _ _⟩)
      have cS : ∀ d os, Calls Tryz.prog 143 #[.int .i64 cp] (grow (redrawn W1 d) os) fun e' w'' => e' = .returned (.bool (setB cp)) ∧ ∃ p : Regrown, w'' = grow (redrawn W1 p.d) p.os := fun d os => Calls.regrown_of ((someSet_any cp _).mono fun e' w' h => ⟨h.1, h.2 ▸ Below.refl _ _⟩)
      have cT : ∀ d os, Calls Tryz.prog 138 #[.int .i64 su] (grow (redrawn W1 d) os) fun e' w'' => e' = .returned (.bool (l1in su 0 100000000000000000)) ∧ ∃ p : Regrown, w'' = grow (redrawn W1 p.d) p.os := fun d os => Calls.regrown_of ((isTime_any su _).mono fun e' w' h => ⟨h.1, h.2 ▸ Below.refl _ _⟩)
      try rw [h0] at cW
      try rw [h1] at cS
      try rw [h2] at cT
      try rw [h4] at cQ
      have k0 := cell_regrown g0
      have k1 := cell_regrown g1
      have k2 := cell_regrown g2
      have k3 := cell_regrown g3
      have k4 := cell_regrown g4
      have k5 := cell_regrown g5
      have k6 := cell_regrown g6
      have k7 := cell_regrown g7
      have k8 := cell_regrown g8
      have k9 := cell_regrown g9
      have k10 := cell_regrown g10
      have k11 := cell_regrown g11
      have k12 := cell_regrown g12
      have k13 := cell_regrown g13
      have j1 := cell_regrown v1'
      refine wp_region_quiet_below (by kernel_rfl) (by kernel_rfl) ?_
      clear hW1
      repeat (go_big_quiet_step (first | exact cW _ _ | exact cS _ _ | exact cT _ _ | exact cQ _ _))
      refine wpQuiet_nil ?_
      rintro _ ⟨⟨dq, osq⟩, rfl⟩
      replace acc := acc.trans ((below_regrown W1 dq osq).mono acc.size)
      go_wp2
      go_ret
      refine ⟨?_, acc⟩
      first | exact ret_bool HR.out.symm | (rw [HR.out]; simp [h0, h1]; done) | (rw [HR.out]; simp [h0, h1]; omega)
    · cases h2 : l1in su 0 100000000000000000
      · have HR : Hid (groupB u.now u.cs.length k ⟨true, pa, na, we, cp, pe, ne, su, ⟨qu, po, sp, lo, dr⟩, sh⟩ = false) := by unfold Hid; simp [groupB, rootGB, timeB, HN.out.2.2.1, HN.out.2.2.2, HQN.out, ← Int.natCast_inj, hkk, h0, h1, h2]
        go_enter Tryz.func109, Tryz.ntmps109
        go_wp2
        have cQ : ∀ d os, Calls Tryz.prog 144 #[.pointer (some ⟨pw, 0, none⟩), .agg #[.bool true, .int .i64 pa, .string na, .int .i64 we, .int .i64 cp, .int .i64 pe, .int .i64 ne, .int .i64 su, .int .i64 qu, .int .i64 po, .int .i64 sp, .slice p1 n1 c1, .slice p2 n2 c2, .slice p3 n3 c3]] (grow (redrawn W1 d) os) fun e' w'' => e' = .returned (.bool qb) ∧ ∃ p : Regrown, w'' = grow (redrawn W1 p.d) p.os := fun d os => by
          have h1 := quotaOk_any pw u ⟨⟨true, pa, na, we, cp, pe, ne, su, ⟨qu, po, sp, lo, dr⟩, sh⟩, .slice p1 n1 c1, .slice p2 n2 c2, .slice p3 n3 c3⟩ _ ((HA.out.below acc).below (below_regrown W1 d os)) ((HG.out.below acc).below (below_regrown W1 d os))
          rw [HQ.out] at h1
          exact Calls.regrown_of h1
        have cW : ∀ d os, Calls Tryz.prog 142 #[.int .i64 we] (grow (redrawn W1 d) os) fun e' w'' => e' = .returned (.bool (l1in we 1 20)) ∧ ∃ p : Regrown, w'' = grow (redrawn W1 p.d) p.os := fun d os => Calls.regrown_of ((isWeight_any we _).mono fun e' w' h => ⟨h.1, h.2 ▸ Below.refl _ _⟩)
        have cS : ∀ d os, Calls Tryz.prog 143 #[.int .i64 cp] (grow (redrawn W1 d) os) fun e' w'' => e' = .returned (.bool (setB cp)) ∧ ∃ p : Regrown, w'' = grow (redrawn W1 p.d) p.os := fun d os => Calls.regrown_of ((someSet_any cp _).mono fun e' w' h => ⟨h.1, h.2 ▸ Below.refl _ _⟩)
        have cT : ∀ d os, Calls Tryz.prog 138 #[.int .i64 su] (grow (redrawn W1 d) os) fun e' w'' => e' = .returned (.bool (l1in su 0 100000000000000000)) ∧ ∃ p : Regrown, w'' = grow (redrawn W1 p.d) p.os := fun d os => Calls.regrown_of ((isTime_any su _).mono fun e' w' h => ⟨h.1, h.2 ▸ Below.refl _ _⟩)
        try rw [h0] at cW
        try rw [h1] at cS
        try rw [h2] at cT
        try rw [h4] at cQ
        have k0 := cell_regrown g0
        have k1 := cell_regrown g1
        have k2 := cell_regrown g2
        have k3 := cell_regrown g3
        have k4 := cell_regrown g4
        have k5 := cell_regrown g5
        have k6 := cell_regrown g6
        have k7 := cell_regrown g7
        have k8 := cell_regrown g8
        have k9 := cell_regrown g9
        have k10 := cell_regrown g10
        have k11 := cell_regrown g11
        have k12 := cell_regrown g12
        have k13 := cell_regrown g13
        have j1 := cell_regrown v1'
        refine wp_region_quiet_below (by kernel_rfl) (by kernel_rfl) ?_
        clear hW1
        repeat (go_big_quiet_step (first | exact cW _ _ | exact cS _ _ | exact cT _ _ | exact cQ _ _))
        refine wpQuiet_nil ?_
        rintro _ ⟨⟨dq, osq⟩, rfl⟩
        replace acc := acc.trans ((below_regrown W1 dq osq).mono acc.size)
        go_wp2
        go_ret
        refine ⟨?_, acc⟩
        first | exact ret_bool HR.out.symm | (rw [HR.out]; simp [h0, h1, h2]; done) | (rw [HR.out]; simp [h0, h1, h2]; omega)
      · by_cases h3 : (n3 : Int) = nc
        · cases h4 : qb
          · have HR : Hid (groupB u.now u.cs.length k ⟨true, pa, na, we, cp, pe, ne, su, ⟨qu, po, sp, lo, dr⟩, sh⟩ = false) := by unfold Hid; simp [groupB, rootGB, timeB, HN.out.2.2.1, HN.out.2.2.2, HQN.out, ← Int.natCast_inj, hkk, h0, h1, h2, h3, h4]
            go_enter Tryz.func109, Tryz.ntmps109
            go_wp2
            have cQ : ∀ d os, Calls Tryz.prog 144 #[.pointer (some ⟨pw, 0, none⟩), .agg #[.bool true, .int .i64 pa, .string na, .int .i64 we, .int .i64 cp, .int .i64 pe, .int .i64 ne, .int .i64 su, .int .i64 qu, .int .i64 po, .int .i64 sp, .slice p1 n1 c1, .slice p2 n2 c2, .slice p3 n3 c3]] (grow (redrawn W1 d) os) fun e' w'' => e' = .returned (.bool qb) ∧ ∃ p : Regrown, w'' = grow (redrawn W1 p.d) p.os := fun d os => by
              have h1 := quotaOk_any pw u ⟨⟨true, pa, na, we, cp, pe, ne, su, ⟨qu, po, sp, lo, dr⟩, sh⟩, .slice p1 n1 c1, .slice p2 n2 c2, .slice p3 n3 c3⟩ _ ((HA.out.below acc).below (below_regrown W1 d os)) ((HG.out.below acc).below (below_regrown W1 d os))
              rw [HQ.out] at h1
              exact Calls.regrown_of h1
            have cW : ∀ d os, Calls Tryz.prog 142 #[.int .i64 we] (grow (redrawn W1 d) os) fun e' w'' => e' = .returned (.bool (l1in we 1 20)) ∧ ∃ p : Regrown, w'' = grow (redrawn W1 p.d) p.os := fun d os => Calls.regrown_of ((isWeight_any we _).mono fun e' w' h => ⟨h.1, h.2 ▸ Below.refl _ _⟩)
            have cS : ∀ d os, Calls Tryz.prog 143 #[.int .i64 cp] (grow (redrawn W1 d) os) fun e' w'' => e' = .returned (.bool (setB cp)) ∧ ∃ p : Regrown, w'' = grow (redrawn W1 p.d) p.os := fun d os => Calls.regrown_of ((someSet_any cp _).mono fun e' w' h => ⟨h.1, h.2 ▸ Below.refl _ _⟩)
            have cT : ∀ d os, Calls Tryz.prog 138 #[.int .i64 su] (grow (redrawn W1 d) os) fun e' w'' => e' = .returned (.bool (l1in su 0 100000000000000000)) ∧ ∃ p : Regrown, w'' = grow (redrawn W1 p.d) p.os := fun d os => Calls.regrown_of ((isTime_any su _).mono fun e' w' h => ⟨h.1, h.2 ▸ Below.refl _ _⟩)
            try rw [h0] at cW
            try rw [h1] at cS
            try rw [h2] at cT
            try rw [h4] at cQ
            have k0 := cell_regrown g0
            have k1 := cell_regrown g1
            have k2 := cell_regrown g2
            have k3 := cell_regrown g3
            have k4 := cell_regrown g4
            have k5 := cell_regrown g5
            have k6 := cell_regrown g6
            have k7 := cell_regrown g7
            have k8 := cell_regrown g8
            have k9 := cell_regrown g9
            have k10 := cell_regrown g10
            have k11 := cell_regrown g11
            have k12 := cell_regrown g12
            have k13 := cell_regrown g13
            have j1 := cell_regrown v1'
            refine wp_region_quiet_below (by kernel_rfl) (by kernel_rfl) ?_
            clear hW1
            repeat (go_big_quiet_step (first | exact cW _ _ | exact cS _ _ | exact cT _ _ | exact cQ _ _))
            refine wpQuiet_nil ?_
            rintro _ ⟨⟨dq, osq⟩, rfl⟩
            replace acc := acc.trans ((below_regrown W1 dq osq).mono acc.size)
            go_wp2
            go_ret
            refine ⟨?_, acc⟩
            first | exact ret_bool HR.out.symm | (rw [HR.out]; simp [h0, h1, h2, h3, h4]; done) | (rw [HR.out]; simp [h0, h1, h2, h3, h4]; omega)
          · have HR : Hid (groupB u.now u.cs.length k ⟨true, pa, na, we, cp, pe, ne, su, ⟨qu, po, sp, lo, dr⟩, sh⟩ = true) := by unfold Hid; simp [groupB, rootGB, timeB, HN.out.2.2.1, HN.out.2.2.2, HQN.out, ← Int.natCast_inj, hkk, h0, h1, h2, h3, h4]
            go_enter Tryz.func109, Tryz.ntmps109
            go_wp2
            have cQ : ∀ d os, Calls Tryz.prog 144 #[.pointer (some ⟨pw, 0, none⟩), .agg #[.bool true, .int .i64 pa, .string na, .int .i64 we, .int .i64 cp, .int .i64 pe, .int .i64 ne, .int .i64 su, .int .i64 qu, .int .i64 po, .int .i64 sp, .slice p1 n1 c1, .slice p2 n2 c2, .slice p3 n3 c3]] (grow (redrawn W1 d) os) fun e' w'' => e' = .returned (.bool qb) ∧ ∃ p : Regrown, w'' = grow (redrawn W1 p.d) p.os := fun d os => by
              have h1 := quotaOk_any pw u ⟨⟨true, pa, na, we, cp, pe, ne, su, ⟨qu, po, sp, lo, dr⟩, sh⟩, .slice p1 n1 c1, .slice p2 n2 c2, .slice p3 n3 c3⟩ _ ((HA.out.below acc).below (below_regrown W1 d os)) ((HG.out.below acc).below (below_regrown W1 d os))
              rw [HQ.out] at h1
              exact Calls.regrown_of h1
            have cW : ∀ d os, Calls Tryz.prog 142 #[.int .i64 we] (grow (redrawn W1 d) os) fun e' w'' => e' = .returned (.bool (l1in we 1 20)) ∧ ∃ p : Regrown, w'' = grow (redrawn W1 p.d) p.os := fun d os => Calls.regrown_of ((isWeight_any we _).mono fun e' w' h => ⟨h.1, h.2 ▸ Below.refl _ _⟩)
            have cS : ∀ d os, Calls Tryz.prog 143 #[.int .i64 cp] (grow (redrawn W1 d) os) fun e' w'' => e' = .returned (.bool (setB cp)) ∧ ∃ p : Regrown, w'' = grow (redrawn W1 p.d) p.os := fun d os => Calls.regrown_of ((someSet_any cp _).mono fun e' w' h => ⟨h.1, h.2 ▸ Below.refl _ _⟩)
            have cT : ∀ d os, Calls Tryz.prog 138 #[.int .i64 su] (grow (redrawn W1 d) os) fun e' w'' => e' = .returned (.bool (l1in su 0 100000000000000000)) ∧ ∃ p : Regrown, w'' = grow (redrawn W1 p.d) p.os := fun d os => Calls.regrown_of ((isTime_any su _).mono fun e' w' h => ⟨h.1, h.2 ▸ Below.refl _ _⟩)
            try rw [h0] at cW
            try rw [h1] at cS
            try rw [h2] at cT
            try rw [h4] at cQ
            have k0 := cell_regrown g0
            have k1 := cell_regrown g1
            have k2 := cell_regrown g2
            have k3 := cell_regrown g3
            have k4 := cell_regrown g4
            have k5 := cell_regrown g5
            have k6 := cell_regrown g6
            have k7 := cell_regrown g7
            have k8 := cell_regrown g8
            have k9 := cell_regrown g9
            have k10 := cell_regrown g10
            have k11 := cell_regrown g11
            have k12 := cell_regrown g12
            have k13 := cell_regrown g13
            have j1 := cell_regrown v1'
            refine wp_region_quiet_below (by kernel_rfl) (by kernel_rfl) ?_
            clear hW1
            repeat (go_big_quiet_step (first | exact cW _ _ | exact cS _ _ | exact cT _ _ | exact cQ _ _))
            refine wpQuiet_nil ?_
            rintro _ ⟨⟨dq, osq⟩, rfl⟩
            replace acc := acc.trans ((below_regrown W1 dq osq).mono acc.size)
            go_wp2
            go_ret
            refine ⟨?_, acc⟩
            first | exact ret_bool HR.out.symm | (rw [HR.out]; simp [h0, h1, h2, h3, h4]; done) | (rw [HR.out]; simp [h0, h1, h2, h3, h4]; omega)
        · have HR : Hid (groupB u.now u.cs.length k ⟨true, pa, na, we, cp, pe, ne, su, ⟨qu, po, sp, lo, dr⟩, sh⟩ = false) := by unfold Hid; simp [groupB, rootGB, timeB, HN.out.2.2.1, HN.out.2.2.2, HQN.out, ← Int.natCast_inj, hkk, h0, h1, h2, h3]
          have h3q : ((n3 : Int) == nc) = false := by simpa using h3
          have h3p : ((n3 : Int) != nc) = true := by simpa using h3
          go_enter Tryz.func109, Tryz.ntmps109
          go_wp2
          have cQ : ∀ d os, Calls Tryz.prog 144 #[.pointer (some ⟨pw, 0, none⟩), .agg #[.bool true, .int .i64 pa, .string na, .int .i64 we, .int .i64 cp, .int .i64 pe, .int .i64 ne, .int .i64 su, .int .i64 qu, .int .i64 po, .int .i64 sp, .slice p1 n1 c1, .slice p2 n2 c2, .slice p3 n3 c3]] (grow (redrawn W1 d) os) fun e' w'' => e' = .returned (.bool qb) ∧ ∃ p : Regrown, w'' = grow (redrawn W1 p.d) p.os := fun d os => by
            have h1 := quotaOk_any pw u ⟨⟨true, pa, na, we, cp, pe, ne, su, ⟨qu, po, sp, lo, dr⟩, sh⟩, .slice p1 n1 c1, .slice p2 n2 c2, .slice p3 n3 c3⟩ _ ((HA.out.below acc).below (below_regrown W1 d os)) ((HG.out.below acc).below (below_regrown W1 d os))
            rw [HQ.out] at h1
            exact Calls.regrown_of h1
          have cW : ∀ d os, Calls Tryz.prog 142 #[.int .i64 we] (grow (redrawn W1 d) os) fun e' w'' => e' = .returned (.bool (l1in we 1 20)) ∧ ∃ p : Regrown, w'' = grow (redrawn W1 p.d) p.os := fun d os => Calls.regrown_of ((isWeight_any we _).mono fun e' w' h => ⟨h.1, h.2 ▸ Below.refl _ _⟩)
          have cS : ∀ d os, Calls Tryz.prog 143 #[.int .i64 cp] (grow (redrawn W1 d) os) fun e' w'' => e' = .returned (.bool (setB cp)) ∧ ∃ p : Regrown, w'' = grow (redrawn W1 p.d) p.os := fun d os => Calls.regrown_of ((someSet_any cp _).mono fun e' w' h => ⟨h.1, h.2 ▸ Below.refl _ _⟩)
          have cT : ∀ d os, Calls Tryz.prog 138 #[.int .i64 su] (grow (redrawn W1 d) os) fun e' w'' => e' = .returned (.bool (l1in su 0 100000000000000000)) ∧ ∃ p : Regrown, w'' = grow (redrawn W1 p.d) p.os := fun d os => Calls.regrown_of ((isTime_any su _).mono fun e' w' h => ⟨h.1, h.2 ▸ Below.refl _ _⟩)
          try rw [h0] at cW
          try rw [h1] at cS
          try rw [h2] at cT
          try rw [h4] at cQ
          have k0 := cell_regrown g0
          have k1 := cell_regrown g1
          have k2 := cell_regrown g2
          have k3 := cell_regrown g3
          have k4 := cell_regrown g4
          have k5 := cell_regrown g5
          have k6 := cell_regrown g6
          have k7 := cell_regrown g7
          have k8 := cell_regrown g8
          have k9 := cell_regrown g9
          have k10 := cell_regrown g10
          have k11 := cell_regrown g11
          have k12 := cell_regrown g12
          have k13 := cell_regrown g13
          have j1 := cell_regrown v1'
          refine wp_region_quiet_below (by kernel_rfl) (by kernel_rfl) ?_
          clear hW1
          repeat (go_big_quiet_step (first | exact cW _ _ | exact cS _ _ | exact cT _ _ | exact cQ _ _))
          refine wpQuiet_nil ?_
          rintro _ ⟨⟨dq, osq⟩, rfl⟩
          replace acc := acc.trans ((below_regrown W1 dq osq).mono acc.size)
          go_wp2
          go_ret
          refine ⟨?_, acc⟩
          first | exact ret_bool HR.out.symm | (rw [HR.out]; simp [h0, h1, h2, h3]; done) | (rw [HR.out]; simp [h0, h1, h2, h3]; omega)
theorem groupOk_root (pw : Nat) (u : Wv) (e : Gv) (w : World) (hA : AtW w pw u) (he : u.gs[0]? = some e) (hu : e.d.us = true) :
    Calls Tryz.prog 109 #[ptr pw, .int .i64 ((0 : Nat) : Int)] w fun e' w' => e' = .returned (.bool (groupB u.now u.cs.length 0 e.d)) ∧ Below w.heap.size w w' := by
  obtain ⟨gr, go, cap, w3, hr, hk, hl⟩ := hA.cellsG he
  rw [Nat.zero_mul, Nat.add_zero] at hr
  obtain ⟨y0, y1, y2, y3, y4, y5, y6, y7, y8, y9, y10, y11, y12, y13⟩ := gv_cells hr
  have hok := hA.2.2.2.2 e (List.mem_of_getElem? he)
  obtain ⟨pc, cc, _, _, _, _, v1, _, _, hcl, _, _⟩ := hA.lens
  have hpw := hA.lt
  have HA : Hid (AtW w pw u) := hA
  have hgr : gr < w.heap.size := block_lt_of_cell y0
  obtain ⟨⟨us, pa, na, we, cp, pe, ne, su, ⟨qu, po, sp, lo, dr⟩, sh⟩, x, y, z⟩ := e
  dsimp only at hok hu y0 y1 y2 y3 y4 y5 y6 y7 y8 y9 y10 y11 y12 y13 ⊢
  subst hu
  have HG : Hid (GvOk w ⟨⟨true, pa, na, we, cp, pe, ne, su, ⟨qu, po, sp, lo, dr⟩, sh⟩, x, y, z⟩) := hok
  obtain ⟨hb, hz⟩ := hok
  obtain ⟨p1, c1, e1, hl1⟩ := hb.1.form
  obtain ⟨p2, c2, e2, hl2⟩ := hb.2.form
  obtain ⟨p3, c3, e3, hl3⟩ := SlR.form hz
  dsimp only at e1 e2 e3 hl1 hl2 hl3 y11 y12 y13
  subst e1 e2 e3
  obtain ⟨n1, hn1⟩ : ∃ n, lo.length = n := ⟨_, rfl⟩
  obtain ⟨n2, hn2⟩ : ∃ n, dr.length = n := ⟨_, rfl⟩
  obtain ⟨n3, hn3⟩ : ∃ n, sh.length = n := ⟨_, rfl⟩
  obtain ⟨nc, hnc⟩ : ∃ n, u.cs.length = n := ⟨_, rfl⟩
  have HBa : Hid (SlBa w (.slice p1 n1 c1) (.slice p2 n2 c2) ⟨qu, po, sp, lo, dr⟩) := by rw [← hn1, ← hn2]; exact hb
  have HN : Hid (lo.length = n1 ∧ dr.length = n2 ∧ sh.length = n3 ∧ u.cs.length = nc) := ⟨hn1, hn2, hn3, hnc⟩
  rw [hn1] at hl1 y11
  rw [hn2] at hl2 y12
  rw [hn3] at hl3 y13
  rw [hn1, hn2, hn3] at HG
  rw [hnc] at v1 hcl
  obtain ⟨qb, hqb⟩ : ∃ b, quotaB u.now u.cs.length ⟨true, pa, na, we, cp, pe, ne, su, ⟨qu, po, sp, lo, dr⟩, sh⟩ = b := ⟨_, rfl⟩
  have HQ : Hid (quotaB u.now u.cs.length ⟨true, pa, na, we, cp, pe, ne, su, ⟨qu, po, sp, lo, dr⟩, sh⟩ = qb) := hqb
  rw [hnc] at hqb
  have HQN : Hid (quotaB u.now nc ⟨true, pa, na, we, cp, pe, ne, su, ⟨qu, po, sp, lo, dr⟩, sh⟩ = qb) := hqb
  clear hqb
  unfold ptr
  obtain ⟨W1, hW1⟩ : ∃ W1, w.alloc (.cells #[.bool true, .int .i64 pa, .string na, .int .i64 we, .int .i64 cp, .int .i64 pe, .int .i64 ne, .int .i64 su, .int .i64 qu, .int .i64 po, .int .i64 sp, .slice p1 n1 c1, .slice p2 n2 c2, .slice p3 n3 c3] 84) = W1 := ⟨_, rfl⟩
  have acc : Below w.heap.size w W1 := by rw [← hW1]; exact (Below.refl _ _).alloc (Nat.le_refl _) _
  have gb : W1.heap[w.heap.size]? = some (.cells #[.bool true, .int .i64 pa, .string na, .int .i64 we, .int .i64 cp, .int .i64 pe, .int .i64 ne, .int .i64 su, .int .i64 qu, .int .i64 po, .int .i64 sp, .slice p1 n1 c1, .slice p2 n2 c2, .slice p3 n3 c3] 84 (0, 0)) := by rw [← hW1]; exact World.alloc_heap_new w _
  have lg : w.heap.size < W1.heap.size := by rw [← hW1]; simp
  obtain ⟨g0, g1, g2, g3, g4, g5, g6, g7, g8, g9, g10, g11, g12, g13⟩ := gbox gb
  have v1' := (acc.cell (p := ⟨pw, 1, none⟩) hpw).trans v1
  have lp : pw < W1.heap.size := Nat.lt_of_lt_of_le hpw acc.size
  clear hb hz hA gb hr he hn1 hn2 hn3 hnc
  by_cases hr : we = 10
  · subst hr
    by_cases hs : cp = 15
    · subst hs
      cases hq : noBandB ⟨qu, po, sp, lo, dr⟩
      · have HR : Hid (groupB u.now u.cs.length 0 ⟨true, pa, na, 10, 15, pe, ne, su, ⟨qu, po, sp, lo, dr⟩, sh⟩ = false) := by unfold Hid; simp [groupB, rootGB, timeB, HN.out.2.2.1, HN.out.2.2.2, HQN.out, ← Int.natCast_inj, hq]
        go_enter Tryz.func109, Tryz.ntmps109
        go_wp2_with (first | (go_at_call 140; refine (noGroup_any ⟨⟨true, pa, na, 10, 15, pe, ne, su, ⟨qu, po, sp, lo, dr⟩, sh⟩, .slice p1 n1 c1, .slice p2 n2 c2, .slice p3 n3 c3⟩ _ (HG.out.below acc)).mono ?_; rintro e1 V ⟨rfl, hb1⟩; replace acc := acc.trans (hb1.mono acc.size); clear hb1) | (go_at_call 141; refine (noBand_any ⟨qu, po, sp, lo, dr⟩ _ _ _ (HBa.out.below acc)).mono ?_; rintro e1 V ⟨rfl, hb1⟩; have v1' := (hb1.cell (p := ⟨pw, 1, none⟩) lp).trans v1'; obtain ⟨g0, g1, g2, g3, g4, g5, g6, g7, g8⟩ := cells_9 hb1 lg g0 g1 g2 g3 g4 g5 g6 g7 g8; obtain ⟨g9, g10, g11, g12, g13⟩ := cells_5 hb1 lg g9 g10 g11 g12 g13; have lp := Nat.lt_of_lt_of_le lp hb1.size; have lg := Nat.lt_of_lt_of_le lg hb1.size; replace acc := acc.trans (hb1.mono acc.size); clear hb1) | (go_at_call 142; refine (isWeight_any _ _).mono ?_; rintro e1 w1 ⟨rfl, rfl⟩) | (go_at_call 143; refine (someSet_any _ _).mono ?_; rintro e1 w1 ⟨rfl, rfl⟩) | (go_at_call 138; refine (isTime_any _ _).mono ?_; rintro e1 w1 ⟨rfl, rfl⟩) | (go_at_call 144; refine (quotaOk_any pw u ⟨⟨true, pa, na, 10, 15, pe, ne, su, ⟨qu, po, sp, lo, dr⟩, sh⟩, .slice p1 n1 c1, .slice p2 n2 c2, .slice p3 n3 c3⟩ _ (HA.out.below acc) (HG.out.below acc)).mono ?_; rintro e1 V ⟨rfl, hb1⟩; rw [HQ.out]; replace acc := acc.trans (hb1.mono acc.size); clear hb1))
        first
        | go_ret
        | (have cQ : ∀ d os, Calls Tryz.prog 144 #[.pointer (some ⟨pw, 0, none⟩), .agg #[.bool true, .int .i64 pa, .string na, .int .i64 10, .int .i64 15, .int .i64 pe, .int .i64 ne, .int .i64 su, .int .i64 qu, .int .i64 po, .int .i64 sp, .slice p1 n1 c1, .slice p2 n2 c2, .slice p3 n3 c3]] (grow (redrawn V d) os) fun e' w'' => e' = .returned (.bool qb) ∧ ∃ p : Regrown, w'' = grow (redrawn V p.d) p.os := fun d os => by
             have h1 := quotaOk_any pw u ⟨⟨true, pa, na, 10, 15, pe, ne, su, ⟨qu, po, sp, lo, dr⟩, sh⟩, .slice p1 n1 c1, .slice p2 n2 c2, .slice p3 n3 c3⟩ _ ((HA.out.below acc).below (below_regrown V d os)) ((HG.out.below acc).below (below_regrown V d os))
             rw [HQ.out] at h1
             exact Calls.regrown_of h1
           have cW : ∀ d os, Calls Tryz.prog 142 #[.int .i64 10] (grow (redrawn V d) os) fun e' w'' => e' = .returned (.bool (l1in 10 1 20)) ∧ ∃ p : Regrown, w'' = grow (redrawn V p.d) p.os := fun d os => Calls.regrown_of ((isWeight_any 10 _).mono fun e' w' h => ⟨h.1, h.2 ▸ Below.refl _ _⟩)
           have cS : ∀ d os, Calls Tryz.prog 143 #[.int .i64 15] (grow (redrawn V d) os) fun e' w'' => e' = .returned (.bool (setB 15)) ∧ ∃ p : Regrown, w'' = grow (redrawn V p.d) p.os := fun d os => Calls.regrown_of ((someSet_any 15 _).mono fun e' w' h => ⟨h.1, h.2 ▸ Below.refl _ _⟩)
           have cT : ∀ d os, Calls Tryz.prog 138 #[.int .i64 su] (grow (redrawn V d) os) fun e' w'' => e' = .returned (.bool (l1in su 0 100000000000000000)) ∧ ∃ p : Regrown, w'' = grow (redrawn V p.d) p.os := fun d os => Calls.regrown_of ((isTime_any su _).mono fun e' w' h => ⟨h.1, h.2 ▸ Below.refl _ _⟩)
           try rw [h0] at cW
           try rw [h1] at cS
           try rw [h2] at cT
           try rw [h4] at cQ
           have k0 := cell_regrown g0
           have k1 := cell_regrown g1
           have k2 := cell_regrown g2
           have k3 := cell_regrown g3
           have k4 := cell_regrown g4
           have k5 := cell_regrown g5
           have k6 := cell_regrown g6
           have k7 := cell_regrown g7
           have k8 := cell_regrown g8
           have k9 := cell_regrown g9
           have k10 := cell_regrown g10
           have k11 := cell_regrown g11
           have k12 := cell_regrown g12
           have k13 := cell_regrown g13
           have j1 := cell_regrown v1'
           refine wp_region_quiet_below (by kernel_rfl) (by kernel_rfl) ?_
           clear hW1
           repeat (go_big_quiet_step (first | exact cW _ _ | exact cS _ _ | exact cT _ _ | exact cQ _ _))
           refine wpQuiet_nil ?_
           rintro _ ⟨⟨dq, osq⟩, rfl⟩
           replace acc := acc.trans ((below_regrown V dq osq).mono acc.size)
           go_wp2
           go_ret)
        refine ⟨?_, acc⟩
        first | exact ret_bool HR.out.symm | (rw [HR.out]; simp [hq]; done) | (rw [HR.out]; simp [hq]; omega)
      · cases h0 : l1in 10 1 20
        · have HR : Hid (groupB u.now u.cs.length 0 ⟨true, pa, na, 10, 15, pe, ne, su, ⟨qu, po, sp, lo, dr⟩, sh⟩ = false) := by unfold Hid; simp [groupB, rootGB, timeB, HN.out.2.2.1, HN.out.2.2.2, HQN.out, ← Int.natCast_inj, hq, h0]
          go_enter Tryz.func109, Tryz.ntmps109
          go_wp2_with (first | (go_at_call 140; refine (noGroup_any ⟨⟨true, pa, na, 10, 15, pe, ne, su, ⟨qu, po, sp, lo, dr⟩, sh⟩, .slice p1 n1 c1, .slice p2 n2 c2, .slice p3 n3 c3⟩ _ (HG.out.below acc)).mono ?_; rintro e1 V ⟨rfl, hb1⟩; replace acc := acc.trans (hb1.mono acc.size); clear hb1) | (go_at_call 141; refine (noBand_any ⟨qu, po, sp, lo, dr⟩ _ _ _ (HBa.out.below acc)).mono ?_; rintro e1 V ⟨rfl, hb1⟩; have v1' := (hb1.cell (p := ⟨pw, 1, none⟩) lp).trans v1'; obtain ⟨g0, g1, g2, g3, g4, g5, g6, g7, g8⟩ := cells_9 hb1 lg g0 g1 g2 g3 g4 g5 g6 g7 g8; obtain ⟨g9, g10, g11, g12, g13⟩ := cells_5 hb1 lg g9 g10 g11 g12 g13; have lp := Nat.lt_of_lt_of_le lp hb1.size; have lg := Nat.lt_of_lt_of_le lg hb1.size; replace acc := acc.trans (hb1.mono acc.size); clear hb1) | (go_at_call 142; refine (isWeight_any _ _).mono ?_; rintro e1 w1 ⟨rfl, rfl⟩) | (go_at_call 143; refine (someSet_any _ _).mono ?_; rintro e1 w1 ⟨rfl, rfl⟩) | (go_at_call 138; refine (isTime_any _ _).mono ?_; rintro e1 w1 ⟨rfl, rfl⟩) | (go_at_call 144; refine (quotaOk_any pw u ⟨⟨true, pa, na, 10, 15, pe, ne, su, ⟨qu, po, sp, lo, dr⟩, sh⟩, .slice p1 n1 c1, .slice p2 n2 c2, .slice p3 n3 c3⟩ _ (HA.out.below acc) (HG.out.below acc)).mono ?_; rintro e1 V ⟨rfl, hb1⟩; rw [HQ.out]; replace acc := acc.trans (hb1.mono acc.size); clear hb1))
          first
          | go_ret
          | (have cQ : ∀ d os, Calls Tryz.prog 144 #[.pointer (some ⟨pw, 0, none⟩), .agg #[.bool true, .int .i64 pa, .string na, .int .i64 10, .int .i64 15, .int .i64 pe, .int .i64 ne, .int .i64 su, .int .i64 qu, .int .i64 po, .int .i64 sp, .slice p1 n1 c1, .slice p2 n2 c2, .slice p3 n3 c3]] (grow (redrawn V d) os) fun e' w'' => e' = .returned (.bool qb) ∧ ∃ p : Regrown, w'' = grow (redrawn V p.d) p.os := fun d os => by
               have h1 := quotaOk_any pw u ⟨⟨true, pa, na, 10, 15, pe, ne, su, ⟨qu, po, sp, lo, dr⟩, sh⟩, .slice p1 n1 c1, .slice p2 n2 c2, .slice p3 n3 c3⟩ _ ((HA.out.below acc).below (below_regrown V d os)) ((HG.out.below acc).below (below_regrown V d os))
               rw [HQ.out] at h1
               exact Calls.regrown_of h1
             have cW : ∀ d os, Calls Tryz.prog 142 #[.int .i64 10] (grow (redrawn V d) os) fun e' w'' => e' = .returned (.bool (l1in 10 1 20)) ∧ ∃ p : Regrown, w'' = grow (redrawn V p.d) p.os := fun d os => Calls.regrown_of ((isWeight_any 10 _).mono fun e' w' h => ⟨h.1, h.2 ▸ Below.refl _ _⟩)
             have cS : ∀ d os, Calls Tryz.prog 143 #[.int .i64 15] (grow (redrawn V d) os) fun e' w'' => e' = .returned (.bool (setB 15)) ∧ ∃ p : Regrown, w'' = grow (redrawn V p.d) p.os := fun d os => Calls.regrown_of ((someSet_any 15 _).mono fun e' w' h => ⟨h.1, h.2 ▸ Below.refl _ _⟩)
             have cT : ∀ d os, Calls Tryz.prog 138 #[.int .i64 su] (grow (redrawn V d) os) fun e' w'' => e' = .returned (.bool (l1in su 0 100000000000000000)) ∧ ∃ p : Regrown, w'' = grow (redrawn V p.d) p.os := fun d os => Calls.regrown_of ((isTime_any su _).mono fun e' w' h => ⟨h.1, h.2 ▸ Below.refl _ _⟩)
             try rw [h0] at cW
             try rw [h1] at cS
             try rw [h2] at cT
             try rw [h4] at cQ
             have k0 := cell_regrown g0
             have k1 := cell_regrown g1
             have k2 := cell_regrown g2
             have k3 := cell_regrown g3
             have k4 := cell_regrown g4
             have k5 := cell_regrown g5
             have k6 := cell_regrown g6
             have k7 := cell_regrown g7
             have k8 := cell_regrown g8
             have k9 := cell_regrown g9
             have k10 := cell_regrown g10
             have k11 := cell_regrown g11
             have k12 := cell_regrown g12
             have k13 := cell_regrown g13
             have j1 := cell_regrown v1'
             refine wp_region_quiet_below (by kernel_rfl) (by kernel_rfl) ?_
             clear hW1
             repeat (go_big_quiet_step (first | exact cW _ _ | exact cS _ _ | exact cT _ _ | exact cQ _ _))
             refine wpQuiet_nil ?_
             rintro _ ⟨⟨dq, osq⟩, rfl⟩
             replace acc := acc.trans ((below_regrown V dq osq).mono acc.size)
             go_wp2
             go_ret)
          refine ⟨?_, acc⟩
          first | exact ret_bool HR.out.symm | (rw [HR.out]; simp [hq, h0]; done) | (rw [HR.out]; simp [hq, h0]; omega)
        · cases h1 : setB 15
          · have HR : Hid (groupB u.now u.cs.length 0 ⟨true, pa, na, 10, 15, pe, ne, su, ⟨qu, po, sp, lo, dr⟩, sh⟩ = false) := by unfold Hid; simp [groupB, rootGB, timeB, HN.out.2.2.1, HN.out.2.2.2, HQN.out, ← Int.natCast_inj, hq, h0, h1]
            go_enter Tryz.func109, Tryz.ntmps109
            go_wp2_with (first | (go_at_call 140; refine (noGroup_any ⟨⟨true, pa, na, 10, 15, pe, ne, su, ⟨qu, po, sp, lo, dr⟩, sh⟩, .slice p1 n1 c1, .slice p2 n2 c2, .slice p3 n3 c3⟩ _ (HG.out.below acc)).mono ?_; rintro e1 V ⟨rfl, hb1⟩; replace acc := acc.trans (hb1.mono acc.size); clear hb1) | (go_at_call 141; refine (noBand_any ⟨qu, po, sp, lo, dr⟩ _ _ _ (HBa.out.below acc)).mono ?_; rintro e1 V ⟨rfl, hb1⟩; have v1' := (hb1.cell (p := ⟨pw, 1, none⟩) lp).trans v1'; obtain ⟨g0, g1, g2, g3, g4, g5, g6, g7, g8⟩ := cells_9 hb1 lg g0 g1 g2 g3 g4 g5 g6 g7 g8; obtain ⟨g9, g10, g11, g12, g13⟩ := cells_5 hb1 lg g9 g10 g11 g12 g13; have lp := Nat.lt_of_lt_of_le lp hb1.size; have lg := Nat.lt_of_lt_of_le lg hb1.size; replace acc := acc.trans (hb1.mono acc.size); clear hb1) | (go_at_call 142; refine (isWeight_any _ _).mono ?_; rintro e1 w1 ⟨rfl, rfl⟩) | (go_at_call 143; refine (someSet_any _ _).mono ?_; rintro e1 w1 ⟨rfl, rfl⟩) | (go_at_call 138; refine (isTime_any _ _).mono ?_; rintro e1 w1 ⟨rfl, rfl⟩) | (go_at_call 144; refine (quotaOk_any pw u ⟨⟨true, pa, na, 10, 15, pe, ne, su, ⟨qu, po, sp, lo, dr⟩, sh⟩, .slice p1 n1 c1, .slice p2 n2 c2, .slice p3 n3 c3⟩ _ (HA.out.below acc) (HG.out.below acc)).mono ?_; rintro e1 V ⟨rfl, hb1⟩; rw [HQ.out]; replace acc := acc.trans (hb1.mono acc.size); clear hb1))
            first
            | go_ret
            | (have cQ : ∀ d os, Calls Tryz.prog 144 #[.pointer (some ⟨pw, 0, none⟩), .agg #[.bool true, .int .i64 pa, .string na, .int .i64 10, .int .i64 15, .int .i64 pe, .int .i64 ne, .int .i64 su, .int .i64 qu, .int .i64 po, .int .i64 sp, .slice p1 n1 c1, .slice p2 n2 c2, .slice p3 n3 c3]] (grow (redrawn V d) os) fun e' w'' => e' = .returned (.bool qb) ∧ ∃ p : Regrown, w'' = grow (redrawn V p.d) p.os := fun d os => by
                 have h1 := quotaOk_any pw u ⟨⟨true, pa, na, 10, 15, pe, ne, su, ⟨qu, po, sp, lo, dr⟩, sh⟩, .slice p1 n1 c1, .slice p2 n2 c2, .slice p3 n3 c3⟩ _ ((HA.out.below acc).below (below_regrown V d os)) ((HG.out.below acc).below (below_regrown V d os))
                 rw [HQ.out] at h1
                 exact Calls.regrown_of h1
               have cW : ∀ d os, Calls Tryz.prog 142 #[.int .i64 10] (grow (redrawn V d) os) fun e' w'' => e' = .returned (.bool (l1in 10 1 20)) ∧ ∃ p : Regrown, w'' = grow (redrawn V p.d) p.os := fun d os => Calls.regrown_of ((isWeight_any 10 _).mono fun e' w' h => ⟨h.1, h.2 ▸ Below.refl _ _⟩)
               have cS : ∀ d os, Calls Tryz.prog 143 #[.int .i64 15] (grow (redrawn V d) os) fun e' w'' => e' = .returned (.bool (setB 15)) ∧ ∃ p : Regrown, w'' = grow (redrawn V p.d) p.os := fun d os => Calls.regrown_of ((someSet_any 15 _).mono fun e' w' h => ⟨h.1, h.2 ▸ Below.refl _ _⟩)
               have cT : ∀ d os, Calls Tryz.prog 138 #[.int .i64 su] (grow (redrawn V d) os) fun e' w'' => e' = .returned (.bool (l1in su 0 100000000000000000)) ∧ ∃ p : Regrown, w'' = grow (redrawn V p.d) p.os := fun d os => Calls.regrown_of ((isTime_any su _).mono fun e' w' h => ⟨h.1, h.2 ▸ Below.refl _ _⟩)
               try rw [h0] at cW
               try rw [h1] at cS
               try rw [h2] at cT
               try rw [h4] at cQ
               have k0 := cell_regrown g0
               have k1 := cell_regrown g1
               have k2 := cell_regrown g2
               have k3 := cell_regrown g3
               have k4 := cell_regrown g4
               have k5 := cell_regrown g5
               have k6 := cell_regrown g6
               have k7 := cell_regrown g7
               have k8 := cell_regrown g8
               have k9 := cell_regrown g9
               have k10 := cell_regrown g10
               have k11 := cell_regrown g11
               have k12 := cell_regrown g12
               have k13 := cell_regrown g13
               have j1 := cell_regrown v1'
               refine wp_region_quiet_below (by kernel_rfl) (by kernel_rfl) ?_
               clear hW1
               repeat (go_big_quiet_step (first | exact cW _ _ | exact cS _ _ | exact cT _ _ | exact cQ _ _))
               refine wpQuiet_nil ?_
               rintro _ ⟨⟨dq, osq⟩, rfl⟩
               replace acc := acc.trans ((below_regrown V dq osq).mono acc.size)
               go_wp2
               go_ret)
            refine ⟨?_, acc⟩
            first | exact ret_bool HR.out.symm | (rw [HR.out]; simp [hq, h0, h1]; done) | (rw [HR.out]; simp [hq, h0, h1]; omega)
          · cases h2 : l1in su 0 100000000000000000
            · have HR : Hid (groupB u.now u.cs.length 0 ⟨true, pa, na, 10, 15, pe, ne, su, ⟨qu, po, sp, lo, dr⟩, sh⟩ = false) := by unfold Hid; simp [groupB, rootGB, timeB, HN.out.2.2.1, HN.out.2.2.2, HQN.out, ← Int.natCast_inj, hq, h0, h1, h2]
              go_enter Tryz.func109, Tryz.ntmps109
              go_wp2_with (first | (go_at_call 140; refine (noGroup_any ⟨⟨true, pa, na, 10, 15, pe, ne, su, ⟨qu, po, sp, lo, dr⟩, sh⟩, .slice p1 n1 c1, .slice p2 n2 c2, .slice p3 n3 c3⟩ _ (HG.out.below acc)).mono ?_; rintro e1 V ⟨rfl, hb1⟩; replace acc := acc.trans (hb1.mono acc.size); clear hb1) | (go_at_call 141; refine (noBand_any ⟨qu, po, sp, lo, dr⟩ _ _ _ (HBa.out.below acc)).mono ?_; rintro e1 V ⟨rfl, hb1⟩; have v1' := (hb1.cell (p := ⟨pw, 1, none⟩) lp).trans v1'; obtain ⟨g0, g1, g2, g3, g4, g5, g6, g7, g8⟩ := cells_9 hb1 lg g0 g1 g2 g3 g4 g5 g6 g7 g8; obtain ⟨g9, g10, g11, g12, g13⟩ := cells_5 hb1 lg g9 g10 g11 g12 g13; have lp := Nat.lt_of_lt_of_le lp hb1.size; have lg := Nat.lt_of_lt_of_le lg hb1.size; replace acc := acc.trans (hb1.mono acc.size); clear hb1) | (go_at_call 142; refine (isWeight_any _ _).mono ?_; rintro e1 w1 ⟨rfl, rfl⟩) | (go_at_call 143; refine (someSet_any _ _).mono ?_; rintro e1 w1 ⟨rfl, rfl⟩) | (go_at_call 138; refine (isTime_any _ _).mono ?_; rintro e1 w1 ⟨rfl, rfl⟩) | (go_at_call 144; refine (quotaOk_any pw u ⟨⟨true, pa, na, 10, 15, pe, ne, su, ⟨qu, po, sp, lo, dr⟩, sh⟩, .slice p1 n1 c1, .slice p2 n2 c2, .slice p3 n3 c3⟩ _ (HA.out.below acc) (HG.out.below acc)).mono ?_; rintro e1 V ⟨rfl, hb1⟩; rw [HQ.out]; replace acc := acc.trans (hb1.mono acc.size); clear hb1))
              first
              | go_ret
              | (have cQ : ∀ d os, Calls Tryz.prog 144 #[.pointer (some ⟨pw, 0, none⟩), .agg #[.bool true, .int .i64 pa, .string na, .int .i64 10, .int .i64 15, .int .i64 pe, .int .i64 ne, .int .i64 su, .int .i64 qu, .int .i64 po, .int .i64 sp, .slice p1 n1 c1, .slice p2 n2 c2, .slice p3 n3 c3]] (grow (redrawn V d) os) fun e' w'' => e' = .returned (.bool qb) ∧ ∃ p : Regrown, w'' = grow (redrawn V p.d) p.os := fun d os => by
                   have h1 := quotaOk_any pw u ⟨⟨true, pa, na, 10, 15, pe, ne, su, ⟨qu, po, sp, lo, dr⟩, sh⟩, .slice p1 n1 c1, .slice p2 n2 c2, .slice p3 n3 c3⟩ _ ((HA.out.below acc).below (below_regrown V d os)) ((HG.out.below acc).below (below_regrown V d os))
                   rw [HQ.out] at h1
                   exact Calls.regrown_of h1
                 have cW : ∀ d os, Calls Tryz.prog 142 #[.int .i64 10] (grow (redrawn V d) os) fun e' w'' => e' = .returned (.bool (l1in 10 1 20)) ∧ ∃ p : Regrown, w'' = grow (redrawn V p.d) p.os := fun d os => Calls.regrown_of ((isWeight_any 10 _).mono fun e' w' h => ⟨h.1, h.2 ▸ Below.refl _ _⟩)
                 have cS : ∀ d os, Calls Tryz.prog 143 #[.int .i64 15] (grow (redrawn V d) os) fun e' w'' => e' = .returned (.bool (setB 15)) ∧ ∃ p : Regrown, w'' = grow (redrawn V p.d) p.os := fun d os => Calls.regrown_of ((someSet_any 15 _).mono fun e' w' h => ⟨h.1, h.2 ▸ Below.refl _ _⟩)
                 have cT : ∀ d os, Calls Tryz.prog 138 #[.int .i64 su] (grow (redrawn V d) os) fun e' w'' => e' = .returned (.bool (l1in su 0 100000000000000000)) ∧ ∃ p : Regrown, w'' = grow (redrawn V p.d) p.os := fun d os => Calls.regrown_of ((isTime_any su _).mono fun e' w' h => ⟨h.1, h.2 ▸ Below.refl _ _⟩)
                 try rw [h0] at cW
                 try rw [h1] at cS
                 try rw [h2] at cT
                 try rw [h4] at cQ
                 have k0 := cell_regrown g0
                 have k1 := cell_regrown g1
                 have k2 := cell_regrown g2
                 have k3 := cell_regrown g3
                 have k4 := cell_regrown g4
                 have k5 := cell_regrown g5
                 have k6 := cell_regrown g6
                 have k7 := cell_regrown g7
                 have k8 := cell_regrown g8
                 have k9 := cell_regrown g9
                 have k10 := cell_regrown g10
                 have k11 := cell_regrown g11
                 have k12 := cell_regrown g12
                 have k13 := cell_regrown g13
                 have j1 := cell_regrown v1'
                 refine wp_region_quiet_below (by kernel_rfl) (by kernel_rfl) ?_
                 clear hW1
                 repeat (go_big_quiet_step (first | exact cW _ _ | exact cS _ _ | exact cT _ _ | exact cQ _ _))
                 refine wpQuiet_nil ?_
                 rintro _ ⟨⟨dq, osq⟩, rfl⟩
                 replace acc := acc.trans ((below_regrown V dq osq).mono acc.size)
                 go_wp2
                 go_ret)
              refine ⟨?_, acc⟩
              first | exact ret_bool HR.out.symm | (rw [HR.out]; simp [hq, h0, h1, h2]; done) | (rw [HR.out]; simp [hq, h0, h1, h2]; omega)
            · by_cases h3 : (n3 : Int) = nc
              · cases h4 : qb
                · have HR : Hid (groupB u.now u.cs.length 0 ⟨true, pa, na, 10, 15, pe, ne, su, ⟨qu, po, sp, lo, dr⟩, sh⟩ = false) := by unfold Hid; simp [groupB, rootGB, timeB, HN.out.2.2.1, HN.out.2.2.2, HQN.out, ← Int.natCast_inj, hq, h0, h1, h2, h3, h4]
                  go_enter Tryz.func109, Tryz.ntmps109
                  go_wp2_with (first | (go_at_call 140; refine (noGroup_any ⟨⟨true, pa, na, 10, 15, pe, ne, su, ⟨qu, po, sp, lo, dr⟩, sh⟩, .slice p1 n1 c1, .slice p2 n2 c2, .slice p3 n3 c3⟩ _ (HG.out.below acc)).mono ?_; rintro e1 V ⟨rfl, hb1⟩; replace acc := acc.trans (hb1.mono acc.size); clear hb1) | (go_at_call 141; refine (noBand_any ⟨qu, po, sp, lo, dr⟩ _ _ _ (HBa.out.below acc)).mono ?_; rintro e1 V ⟨rfl, hb1⟩; have v1' := (hb1.cell (p := ⟨pw, 1, none⟩) lp).trans v1'; obtain ⟨g0, g1, g2, g3, g4, g5, g6, g7, g8⟩ := cells_9 hb1 lg g0 g1 g2 g3 g4 g5 g6 g7 g8; obtain ⟨g9, g10, g11, g12, g13⟩ := cells_5 hb1 lg g9 g10 g11 g12 g13; have lp := Nat.lt_of_lt_of_le lp hb1.size; have lg := Nat.lt_of_lt_of_le lg hb1.size; replace acc := acc.trans (hb1.mono acc.size); clear hb1) | (go_at_call 142; refine (isWeight_any _ _).mono ?_; rintro e1 w1 ⟨rfl, rfl⟩) | (go_at_call 143; refine (someSet_any _ _).mono ?_; rintro e1 w1 ⟨rfl, rfl⟩) | (go_at_call 138; refine (isTime_any _ _).mono ?_; rintro e1 w1 ⟨rfl, rfl⟩) | (go_at_call 144; refine (quotaOk_any pw u ⟨⟨true, pa, na, 10, 15, pe, ne, su, ⟨qu, po, sp, lo, dr⟩, sh⟩, .slice p1 n1 c1, .slice p2 n2 c2, .slice p3 n3 c3⟩ _ (HA.out.below acc) (HG.out.below acc)).mono ?_; rintro e1 V ⟨rfl, hb1⟩; rw [HQ.out]; replace acc := acc.trans (hb1.mono acc.size); clear hb1))
                  first
                  | go_ret
                  | (have cQ : ∀ d os, Calls Tryz.prog 144 #[.pointer (some ⟨pw, 0, none⟩), .agg #[.bool true, .int .i64 pa, .string na, .int .i64 10, .int .i64 15, .int .i64 pe, .int .i64 ne, .int .i64 su, .int .i64 qu, .int .i64 po, .int .i64 sp, .slice p1 n1 c1, .slice p2 n2 c2, .slice p3 n3 c3]] (grow (redrawn V d) os) fun e' w'' => e' = .returned (.bool qb) ∧ ∃ p : Regrown, w'' = grow (redrawn V p.d) p.os := fun d os => by
                       have h1 := quotaOk_any pw u ⟨⟨true, pa, na, 10, 15, pe, ne, su, ⟨qu, po, sp, lo, dr⟩, sh⟩, .slice p1 n1 c1, .slice p2 n2 c2, .slice p3 n3 c3⟩ _ ((HA.out.below acc).below (below_regrown V d os)) ((HG.out.below acc).below (below_regrown V d os))
                       rw [HQ.out] at h1
                       exact Calls.regrown_of h1
                     have cW : ∀ d os, Calls Tryz.prog 142 #[.int .i64 10] (grow (redrawn V d) os) fun e' w'' => e' = .returned (.bool (l1in 10 1 20)) ∧ ∃ p : Regrown, w'' = grow (redrawn V p.d) p.os := fun d os => Calls.regrown_of ((isWeight_any 10 _).mono fun e' w' h => ⟨h.1, h.2 ▸ Below.refl _ _⟩)
                     have cS : ∀ d os, Calls Tryz.prog 143 #[.int .i64 15] (grow (redrawn V d) os) fun e' w'' => e' = .returned (.bool (setB 15)) ∧ ∃ p : Regrown, w'' = grow (redrawn V p.d) p.os := fun d os => Calls.regrown_of ((someSet_any 15 _).mono fun e' w' h => ⟨h.1, h.2 ▸ Below.refl _ _⟩)
                     have cT : ∀ d os, Calls Tryz.prog 138 #[.int .i64 su] (grow (redrawn V d) os) fun e' w'' => e' = .returned (.bool (l1in su 0 100000000000000000)) ∧ ∃ p : Regrown, w'' = grow (redrawn V p.d) p.os := fun d os => Calls.regrown_of ((isTime_any su _).mono fun e' w' h => ⟨h.1, h.2 ▸ Below.refl _ _⟩)
                     try rw [h0] at cW
                     try rw [h1] at cS
                     try rw [h2] at cT
                     try rw [h4] at cQ
                     have k0 := cell_regrown g0
                     have k1 := cell_regrown g1
                     have k2 := cell_regrown g2
                     have k3 := cell_regrown g3
                     have k4 := cell_regrown g4
                     have k5 := cell_regrown g5
                     have k6 := cell_regrown g6
                     have k7 := cell_regrown g7
                     have k8 := cell_regrown g8
                     have k9 := cell_regrown g9
                     have k10 := cell_regrown g10
                     have k11 := cell_regrown g11
                     have k12 := cell_regrown g12
                     have k13 := cell_regrown g13
                     have j1 := cell_regrown v1'
                     refine wp_region_quiet_below (by kernel_rfl) (by kernel_rfl) ?_
                     clear hW1
                     repeat (go_big_quiet_step (first | exact cW _ _ | exact cS _ _ | exact cT _ _ | exact cQ _ _))
                     refine wpQuiet_nil ?_
                     rintro _ ⟨⟨dq, osq⟩, rfl⟩
                     replace acc := acc.trans ((below_regrown V dq osq).mono acc.size)
                     go_wp2
                     go_ret)
                  refine ⟨?_, acc⟩
                  first | exact ret_bool HR.out.symm | (rw [HR.out]; simp [hq, h0, h1, h2, h3, h4]; done) | (rw [HR.out]; simp [hq, h0, h1, h2, h3, h4]; omega)
                · have HR : Hid (groupB u.now u.cs.length 0 ⟨true, pa, na, 10, 15, pe, ne, su, ⟨qu, po, sp, lo, dr⟩, sh⟩ = true) := by unfold Hid; simp [groupB, rootGB, timeB, HN.out.2.2.1, HN.out.2.2.2, HQN.out, ← Int.natCast_inj, hq, h0, h1, h2, h3, h4]
                  go_enter Tryz.func109, Tryz.ntmps109
                  go_wp2_with (first | (go_at_call 140; refine (noGroup_any ⟨⟨true, pa, na, 10, 15, pe, ne, su, ⟨qu, po, sp, lo, dr⟩, sh⟩, .slice p1 n1 c1, .slice p2 n2 c2, .slice p3 n3 c3⟩ _ (HG.out.below acc)).mono ?_; rintro e1 V ⟨rfl, hb1⟩; replace acc := acc.trans (hb1.mono acc.size); clear hb1) | (go_at_call 141; refine (noBand_any ⟨qu, po, sp, lo, dr⟩ _ _ _ (HBa.out.below acc)).mono ?_; rintro e1 V ⟨rfl, hb1⟩; have v1' := (hb1.cell (p := ⟨pw, 1, none⟩) lp).trans v1'; obtain ⟨g0, g1, g2, g3, g4, g5, g6, g7, g8⟩ := cells_9 hb1 lg g0 g1 g2 g3 g4 g5 g6 g7 g8; obtain ⟨g9, g10, g11, g12, g13⟩ := cells_5 hb1 lg g9 g10 g11 g12 g13; have lp := Nat.lt_of_lt_of_le lp hb1.size; have lg := Nat.lt_of_lt_of_le lg hb1.size; replace acc := acc.trans (hb1.mono acc.size); clear hb1) | (go_at_call 142; refine (isWeight_any _ _).mono ?_; rintro e1 w1 ⟨rfl, rfl⟩) | (go_at_call 143; refine (someSet_any _ _).mono ?_; rintro e1 w1 ⟨rfl, rfl⟩) | (go_at_call 138; refine (isTime_any _ _).mono ?_; rintro e1 w1 ⟨rfl, rfl⟩) | (go_at_call 144; refine (quotaOk_any pw u ⟨⟨true, pa, na, 10, 15, pe, ne, su, ⟨qu, po, sp, lo, dr⟩, sh⟩, .slice p1 n1 c1, .slice p2 n2 c2, .slice p3 n3 c3⟩ _ (HA.out.below acc) (HG.out.below acc)).mono ?_; rintro e1 V ⟨rfl, hb1⟩; rw [HQ.out]; replace acc := acc.trans (hb1.mono acc.size); clear hb1))
                  first
                  | go_ret
                  | (have cQ : ∀ d os, Calls Tryz.prog 144 #[.pointer (some ⟨pw, 0, none⟩), .agg #[.bool true, .int .i64 pa, .string na, .int .i64 10, .int .i64 15, .int .i64 pe, .int .i64 ne, .int .i64 su, .int .i64 qu, .int .i64 po, .int .i64 sp, .slice p1 n1 c1, .slice p2 n2 c2, .slice p3 n3 c3]] (grow (redrawn V d) os) fun e' w'' => e' = .returned (.bool qb) ∧ ∃ p : Regrown, w'' = grow (redrawn V p.d) p.os := fun d os => by
                       have h1 := quotaOk_any pw u ⟨⟨true, pa, na, 10, 15, pe, ne, su, ⟨qu, po, sp, lo, dr⟩, sh⟩, .slice p1 n1 c1, .slice p2 n2 c2, .slice p3 n3 c3⟩ _ ((HA.out.below acc).below (below_regrown V d os)) ((HG.out.below acc).below (below_regrown V d os))
                       rw [HQ.out] at h1
                       exact Calls.regrown_of h1
                     have cW : ∀ d os, Calls Tryz.prog 142 #[.int .i64 10] (grow (redrawn V d) os) fun e' w'' => e' = .returned (.bool (l1in 10 1 20)) ∧ ∃ p : Regrown, w'' = grow (redrawn V p.d) p.os := fun d os => Calls.regrown_of ((isWeight_any 10 _).mono fun e' w' h => ⟨h.1, h.2 ▸ Below.refl _ _⟩)
                     have cS : ∀ d os, Calls Tryz.prog 143 #[.int .i64 15] (grow (redrawn V d) os) fun e' w'' => e' = .returned (.bool (setB 15)) ∧ ∃ p : Regrown, w'' = grow (redrawn V p.d) p.os := fun d os => Calls.regrown_of ((someSet_any 15 _).mono fun e' w' h => ⟨h.1, h.2 ▸ Below.refl _ _⟩)
                     have cT : ∀ d os, Calls Tryz.prog 138 #[.int .i64 su] (grow (redrawn V d) os) fun e' w'' => e' = .returned (.bool (l1in su 0 100000000000000000)) ∧ ∃ p : Regrown, w'' = grow (redrawn V p.d) p.os := fun d os => Calls.regrown_of ((isTime_any su _).mono fun e' w' h => ⟨h.1, h.2 ▸ Below.refl _ _⟩)
                     try rw [h0] at cW
                     try rw [h1] at cS
                     try rw [h2] at cT
                     try rw [h4] at cQ
                     have k0 := cell_regrown g0
                     have k1 := cell_regrown g1
                     have k2 := cell_regrown g2
                     have k3 := cell_regrown g3
                     have k4 := cell_regrown g4
                     have k5 := cell_regrown g5
                     have k6 := cell_regrown g6
                     have k7 := cell_regrown g7
                     have k8 := cell_regrown g8
                     have k9 := cell_regrown g9
                     have k10 := cell_regrown g10
                     have k11 := cell_regrown g11
                     have k12 := cell_regrown g12
                     have k13 := cell_regrown g13
                     have j1 := cell_regrown v1'
                     refine wp_region_quiet_below (by kernel_rfl) (by kernel_rfl) ?_
                     clear hW1
                     repeat (go_big_quiet_step (first | exact cW _ _ | exact cS _ _ | exact cT _ _ | exact cQ _ _))
                     refine wpQuiet_nil ?_
                     rintro _ ⟨⟨dq, osq⟩, rfl⟩
                     replace acc := acc.trans ((below_regrown V dq osq).mono acc.size)
                     go_wp2
                     go_ret)
                  refine ⟨?_, acc⟩
                  first | exact ret_bool HR.out.symm | (rw [HR.out]; simp [hq, h0, h1, h2, h3, h4]; done) | (rw [HR.out]; simp [hq, h0, h1, h2, h3, h4]; omega)
              · have HR : Hid (groupB u.now u.cs.length 0 ⟨true, pa, na, 10, 15, pe, ne, su, ⟨qu, po, sp, lo, dr⟩, sh⟩ = false) := by unfold Hid; simp [groupB, rootGB, timeB, HN.out.2.2.1, HN.out.2.2.2, HQN.out, ← Int.natCast_inj, hq, h0, h1, h2, h3]
                have h3q : ((n3 : Int) == nc) = false := by simpa using h3
                have h3p : ((n3 : Int) != nc) = true := by simpa using h3
                go_enter Tryz.func109, Tryz.ntmps109
                go_wp2_with (first | (go_at_call 140; refine (noGroup_any ⟨⟨true, pa, na, 10, 15, pe, ne, su, ⟨qu, po, sp, lo, dr⟩, sh⟩, .slice p1 n1 c1, .slice p2 n2 c2, .slice p3 n3 c3⟩ _ (HG.out.below acc)).mono ?_; rintro e1 V ⟨rfl, hb1⟩; replace acc := acc.trans (hb1.mono acc.size); clear hb1) | (go_at_call 141; refine (noBand_any ⟨qu, po, sp, lo, dr⟩ _ _ _ (HBa.out.below acc)).mono ?_; rintro e1 V ⟨rfl, hb1⟩; have v1' := (hb1.cell (p := ⟨pw, 1, none⟩) lp).trans v1'; obtain ⟨g0, g1, g2, g3, g4, g5, g6, g7, g8⟩ := cells_9 hb1 lg g0 g1 g2 g3 g4 g5 g6 g7 g8; obtain ⟨g9, g10, g11, g12, g13⟩ := cells_5 hb1 lg g9 g10 g11 g12 g13; have lp := Nat.lt_of_lt_of_le lp hb1.size; have lg := Nat.lt_of_lt_of_le lg hb1.size; replace acc := acc.trans (hb1.mono acc.size); clear hb1) | (go_at_call 142; refine (isWeight_any _ _).mono ?_; rintro e1 w1 ⟨rfl, rfl⟩) | (go_at_call 143; refine (someSet_any _ _).mono ?_; rintro e1 w1 ⟨rfl, rfl⟩) | (go_at_call 138; refine (isTime_any _ _).mono ?_; rintro e1 w1 ⟨rfl, rfl⟩) | (go_at_call 144; refine (quotaOk_any pw u ⟨⟨true, pa, na, 10, 15, pe, ne, su, ⟨qu, po, sp, lo, dr⟩, sh⟩, .slice p1 n1 c1, .slice p2 n2 c2, .slice p3 n3 c3⟩ _ (HA.out.below acc) (HG.out.below acc)).mono ?_; rintro e1 V ⟨rfl, hb1⟩; rw [HQ.out]; replace acc := acc.trans (hb1.mono acc.size); clear hb1))
                first
                | go_ret
                | (have cQ : ∀ d os, Calls Tryz.prog 144 #[.pointer (some ⟨pw, 0, none⟩), .agg #[.bool true, .int .i64 pa, .string na, .int .i64 10, .int .i64 15, .int .i64 pe, .int .i64 ne, .int .i64 su, .int .i64 qu, .int .i64 po, .int .i64 sp, .slice p1 n1 c1, .slice p2 n2 c2, .slice p3 n3 c3]] (grow (redrawn V d) os) fun e' w'' => e' = .returned (.bool qb) ∧ ∃ p : Regrown, w'' = grow (redrawn V p.d) p.os := fun d os => by
                     have h1 := quotaOk_any pw u ⟨⟨true, pa, na, 10, 15, pe, ne, su, ⟨qu, po, sp, lo, dr⟩, sh⟩, .slice p1 n1 c1, .slice p2 n2 c2, .slice p3 n3 c3⟩ _ ((HA.out.below acc).below (below_regrown V d os)) ((HG.out.below acc).below (below_regrown V d os))
                     rw [HQ.out] at h1
                     exact Calls.regrown_of h1
                   have cW : ∀ d os, Calls Tryz.prog 142 #[.int .i64 10] (grow (redrawn V d) os) fun e' w'' => e' = .returned (.bool (l1in 10 1 20)) ∧ ∃ p : Regrown, w'' = grow (redrawn V p.d) p.os := fun d os => Calls.regrown_of ((isWeight_any 10 _).mono fun e' w' h => ⟨h.1, h.2 ▸ Below.refl _ _⟩)
                   have cS : ∀ d os, Calls Tryz.prog 143 #[.int .i64 15] (grow (redrawn V d) os) fun e' w'' => e' = .returned (.bool (setB 15)) ∧ ∃ p : Regrown, w'' = grow (redrawn V p.d) p.os := fun d os => Calls.regrown_of ((someSet_any 15 _).mono fun e' w' h => ⟨h.1, h.2 ▸ Below.refl _ _⟩)
                   have cT : ∀ d os, Calls Tryz.prog 138 #[.int .i64 su] (grow (redrawn V d) os) fun e' w'' => e' = .returned (.bool (l1in su 0 100000000000000000)) ∧ ∃ p : Regrown, w'' = grow (redrawn V p.d) p.os := fun d os => Calls.regrown_of ((isTime_any su _).mono fun e' w' h => ⟨h.1, h.2 ▸ Below.refl _ _⟩)
                   try rw [h0] at cW
                   try rw [h1] at cS
                   try rw [h2] at cT
                   try rw [h4] at cQ
                   have k0 := cell_regrown g0
                   have k1 := cell_regrown g1
                   have k2 := cell_regrown g2
                   have k3 := cell_regrown g3
                   have k4 := cell_regrown g4
                   have k5 := cell_regrown g5
                   have k6 := cell_regrown g6
                   have k7 := cell_regrown g7
                   have k8 := cell_regrown g8
                   have k9 := cell_regrown g9
                   have k10 := cell_regrown g10
                   have k11 := cell_regrown g11
                   have k12 := cell_regrown g12
                   have k13 := cell_regrown g13
                   have j1 := cell_regrown v1'
                   refine wp_region_quiet_below (by kernel_rfl) (by kernel_rfl) ?_
                   clear hW1
                   repeat (go_big_quiet_step (first | exact cW _ _ | exact cS _ _ | exact cT _ _ | exact cQ _ _))
                   refine wpQuiet_nil ?_
                   rintro _ ⟨⟨dq, osq⟩, rfl⟩
                   replace acc := acc.trans ((below_regrown V dq osq).mono acc.size)
                   go_wp2
                   go_ret)
                refine ⟨?_, acc⟩
                first | exact ret_bool HR.out.symm | (rw [HR.out]; simp [hq, h0, h1, h2, h3]; done) | (rw [HR.out]; simp [hq, h0, h1, h2, h3]; omega)
    · have HR : Hid (groupB u.now u.cs.length 0 ⟨true, pa, na, 10, cp, pe, ne, su, ⟨qu, po, sp, lo, dr⟩, sh⟩ = false) := by unfold Hid; simp [groupB, rootGB, timeB, HN.out.2.2.1, HN.out.2.2.2, HQN.out, ← Int.natCast_inj, hs]
      go_enter Tryz.func109, Tryz.ntmps109
      go_wp2_with (first | (go_at_call 140; refine (noGroup_any ⟨⟨true, pa, na, 10, cp, pe, ne, su, ⟨qu, po, sp, lo, dr⟩, sh⟩, .slice p1 n1 c1, .slice p2 n2 c2, .slice p3 n3 c3⟩ _ (HG.out.below acc)).mono ?_; rintro e1 V ⟨rfl, hb1⟩; replace acc := acc.trans (hb1.mono acc.size); clear hb1) | (go_at_call 141; refine (noBand_any ⟨qu, po, sp, lo, dr⟩ _ _ _ (HBa.out.below acc)).mono ?_; rintro e1 V ⟨rfl, hb1⟩; have v1' := (hb1.cell (p := ⟨pw, 1, none⟩) lp).trans v1'; obtain ⟨g0, g1, g2, g3, g4, g5, g6, g7, g8⟩ := cells_9 hb1 lg g0 g1 g2 g3 g4 g5 g6 g7 g8; obtain ⟨g9, g10, g11, g12, g13⟩ := cells_5 hb1 lg g9 g10 g11 g12 g13; have lp := Nat.lt_of_lt_of_le lp hb1.size; have lg := Nat.lt_of_lt_of_le lg hb1.size; replace acc := acc.trans (hb1.mono acc.size); clear hb1) | (go_at_call 142; refine (isWeight_any _ _).mono ?_; rintro e1 w1 ⟨rfl, rfl⟩) | (go_at_call 143; refine (someSet_any _ _).mono ?_; rintro e1 w1 ⟨rfl, rfl⟩) | (go_at_call 138; refine (isTime_any _ _).mono ?_; rintro e1 w1 ⟨rfl, rfl⟩) | (go_at_call 144; refine (quotaOk_any pw u ⟨⟨true, pa, na, 10, cp, pe, ne, su, ⟨qu, po, sp, lo, dr⟩, sh⟩, .slice p1 n1 c1, .slice p2 n2 c2, .slice p3 n3 c3⟩ _ (HA.out.below acc) (HG.out.below acc)).mono ?_; rintro e1 V ⟨rfl, hb1⟩; rw [HQ.out]; replace acc := acc.trans (hb1.mono acc.size); clear hb1))
      first
      | go_ret
      | (have cQ : ∀ d os, Calls Tryz.prog 144 #[.pointer (some ⟨pw, 0, none⟩), .agg #[.bool true, .int .i64 pa, .string na, .int .i64 10, .int .i64 cp, .int .i64 pe, .int .i64 ne, .int .i64 su, .int .i64 qu, .int .i64 po, .int .i64 sp, .slice p1 n1 c1, .slice p2 n2 c2, .slice p3 n3 c3]] (grow (redrawn V d) os) fun e' w'' => e' = .returned (.bool qb) ∧ ∃ p : Regrown, w'' = grow (redrawn V p.d) p.os := fun d os => by
           have h1 := quotaOk_any pw u ⟨⟨true, pa, na, 10, cp, pe, ne, su, ⟨qu, po, sp, lo, dr⟩, sh⟩, .slice p1 n1 c1, .slice p2 n2 c2, .slice p3 n3 c3⟩ _ ((HA.out.below acc).below (below_regrown V d os)) ((HG.out.below acc).below (below_regrown V d os))
           rw [HQ.out] at h1
           exact Calls.regrown_of h1
         have cW : ∀ d os, Calls Tryz.prog 142 #[.int .i64 10] (grow (redrawn V d) os) fun e' w'' => e' = .returned (.bool (l1in 10 1 20)) ∧ ∃ p : Regrown, w'' = grow (redrawn V p.d) p.os := fun d os => Calls.regrown_of ((isWeight_any 10 _).mono fun e' w' h => ⟨h.1, h.2 ▸ Below.refl _ _⟩)
         have cS : ∀ d os, Calls Tryz.prog 143 #[.int .i64 cp] (grow (redrawn V d) os) fun e' w'' => e' = .returned (.bool (setB cp)) ∧ ∃ p : Regrown, w'' = grow (redrawn V p.d) p.os := fun d os => Calls.regrown_of ((someSet_any cp _).mono fun e' w' h => ⟨h.1, h.2 ▸ Below.refl _ _⟩)
         have cT : ∀ d os, Calls Tryz.prog 138 #[.int .i64 su] (grow (redrawn V d) os) fun e' w'' => e' = .returned (.bool (l1in su 0 100000000000000000)) ∧ ∃ p : Regrown, w'' = grow (redrawn V p.d) p.os := fun d os => Calls.regrown_of ((isTime_any su _).mono fun e' w' h => ⟨h.1, h.2 ▸ Below.refl _ _⟩)
         try rw [h0] at cW
         try rw [h1] at cS
         try rw [h2] at cT
         try rw [h4] at cQ
         have k0 := cell_regrown g0
         have k1 := cell_regrown g1
         have k2 := cell_regrown g2
         have k3 := cell_regrown g3
         have k4 := cell_regrown g4
         have k5 := cell_regrown g5
         have k6 := cell_regrown g6
         have k7 := cell_regrown g7
         have k8 := cell_regrown g8
         have k9 := cell_regrown g9
         have k10 := cell_regrown g10
         have k11 := cell_regrown g11
         have k12 := cell_regrown g12
         have k13 := cell_regrown g13
         have j1 := cell_regrown v1'
         refine wp_region_quiet_below (by kernel_rfl) (by kernel_rfl) ?_
         clear hW1
         repeat (go_big_quiet_step (first | exact cW _ _ | exact cS _ _ | exact cT _ _ | exact cQ _ _))
         refine wpQuiet_nil ?_
         rintro _ ⟨⟨dq, osq⟩, rfl⟩
         replace acc := acc.trans ((below_regrown V dq osq).mono acc.size)
         go_wp2
         go_ret)
      refine ⟨?_, acc⟩
      first | exact ret_bool HR.out.symm | (rw [HR.out]; simp [hs]; done) | (rw [HR.out]; simp [hs]; omega)
  · have HR : Hid (groupB u.now u.cs.length 0 ⟨true, pa, na, we, cp, pe, ne, su, ⟨qu, po, sp, lo, dr⟩, sh⟩ = false) := by unfold Hid; simp [groupB, rootGB, timeB, HN.out.2.2.1, HN.out.2.2.2, HQN.out, ← Int.natCast_inj, hr]
    go_enter Tryz.func109, Tryz.ntmps109
    go_wp2_with (first | (go_at_call 140; refine (noGroup_any ⟨⟨true, pa, na, we, cp, pe, ne, su, ⟨qu, po, sp, lo, dr⟩, sh⟩, .slice p1 n1 c1, .slice p2 n2 c2, .slice p3 n3 c3⟩ _ (HG.out.below acc)).mono ?_; rintro e1 V ⟨rfl, hb1⟩; replace acc := acc.trans (hb1.mono acc.size); clear hb1) | (go_at_call 141; refine (noBand_any ⟨qu, po, sp, lo, dr⟩ _ _ _ (HBa.out.below acc)).mono ?_; rintro e1 V ⟨rfl, hb1⟩; have v1' := (hb1.cell (p := ⟨pw, 1, none⟩) lp).trans v1'; obtain ⟨g0, g1, g2, g3, g4, g5, g6, g7, g8⟩ := cells_9 hb1 lg g0 g1 g2 g3 g4 g5 g6 g7 g8; obtain ⟨g9, g10, g11, g12, g13⟩ := cells_5 hb1 lg g9 g10 g11 g12 g13; have lp := Nat.lt_of_lt_of_le lp hb1.size; have lg := Nat.lt_of_lt_of_le lg hb1.size; replace acc := acc.trans (hb1.mono acc.size); clear hb1) | (go_at_call 142; refine (isWeight_any _ _).mono ?_; rintro e1 w1 ⟨rfl, rfl⟩) | (go_at_call 143; refine (someSet_any _ _).mono ?_; rintro e1 w1 ⟨rfl, rfl⟩) | (go_at_call 138; refine (isTime_any _ _).mono ?_; rintro e1 w1 ⟨rfl, rfl⟩) | (go_at_call 144; refine (quotaOk_any pw u ⟨⟨true, pa, na, we, cp, pe, ne, su, ⟨qu, po, sp, lo, dr⟩, sh⟩, .slice p1 n1 c1, .slice p2 n2 c2, .slice p3 n3 c3⟩ _ (HA.out.below acc) (HG.out.below acc)).mono ?_; rintro e1 V ⟨rfl, hb1⟩; rw [HQ.out]; replace acc := acc.trans (hb1.mono acc.size); clear hb1))
    first
    | go_ret
    | (have cQ : ∀ d os, Calls Tryz.prog 144 #[.pointer (some ⟨pw, 0, none⟩), .agg #[.bool true, .int .i64 pa, .string na, .int .i64 we, .int .i64 cp, .int .i64 pe, .int .i64 ne, .int .i64 su, .int .i64 qu, .int .i64 po, .int .i64 sp, .slice p1 n1 c1, .slice p2 n2 c2, .slice p3 n3 c3]] (grow (redrawn V d) os) fun e' w'' => e' = .returned (.bool qb) ∧ ∃ p : Regrown, w'' = grow (redrawn V p.d) p.os := fun d os => by
         have h1 := quotaOk_any pw u ⟨⟨true, pa, na, we, cp, pe, ne, su, ⟨qu, po, sp, lo, dr⟩, sh⟩, .slice p1 n1 c1, .slice p2 n2 c2, .slice p3 n3 c3⟩ _ ((HA.out.below acc).below (below_regrown V d os)) ((HG.out.below acc).below (below_regrown V d os))
         rw [HQ.out] at h1
         exact Calls.regrown_of h1
       have cW : ∀ d os, Calls Tryz.prog 142 #[.int .i64 we] (grow (redrawn V d) os) fun e' w'' => e' = .returned (.bool (l1in we 1 20)) ∧ ∃ p : Regrown, w'' = grow (redrawn V p.d) p.os := fun d os => Calls.regrown_of ((isWeight_any we _).mono fun e' w' h => ⟨h.1, h.2 ▸ Below.refl _ _⟩)
       have cS : ∀ d os, Calls Tryz.prog 143 #[.int .i64 cp] (grow (redrawn V d) os) fun e' w'' => e' = .returned (.bool (setB cp)) ∧ ∃ p : Regrown, w'' = grow (redrawn V p.d) p.os := fun d os => Calls.regrown_of ((someSet_any cp _).mono fun e' w' h => ⟨h.1, h.2 ▸ Below.refl _ _⟩)
       have cT : ∀ d os, Calls Tryz.prog 138 #[.int .i64 su] (grow (redrawn V d) os) fun e' w'' => e' = .returned (.bool (l1in su 0 100000000000000000)) ∧ ∃ p : Regrown, w'' = grow (redrawn V p.d) p.os := fun d os => Calls.regrown_of ((isTime_any su _).mono fun e' w' h => ⟨h.1, h.2 ▸ Below.refl _ _⟩)
       try rw [h0] at cW
       try rw [h1] at cS
       try rw [h2] at cT
       try rw [h4] at cQ
       have k0 := cell_regrown g0
       have k1 := cell_regrown g1
       have k2 := cell_regrown g2
       have k3 := cell_regrown g3
       have k4 := cell_regrown g4
       have k5 := cell_regrown g5
       have k6 := cell_regrown g6
       have k7 := cell_regrown g7
       have k8 := cell_regrown g8
       have k9 := cell_regrown g9
       have k10 := cell_regrown g10
       have k11 := cell_regrown g11
       have k12 := cell_regrown g12
       have k13 := cell_regrown g13
       have j1 := cell_regrown v1'
       refine wp_region_quiet_below (by kernel_rfl) (by kernel_rfl) ?_
       clear hW1
       repeat (go_big_quiet_step (first | exact cW _ _ | exact cS _ _ | exact cT _ _ | exact cQ _ _))
       refine wpQuiet_nil ?_
       rintro _ ⟨⟨dq, osq⟩, rfl⟩
       replace acc := acc.trans ((below_regrown V dq osq).mono acc.size)
       go_wp2
       go_ret)
    refine ⟨?_, acc⟩
    first | exact ret_bool HR.out.symm | (rw [HR.out]; simp [hr]; done) | (rw [HR.out]; simp [hr]; omega)
theorem isGroupOk_any (pw k : Nat) (u : Wv) (e : Gv) (w : World) (hA : AtW w pw u) (he : u.gs[k]? = some e) :
    Calls Tryz.prog 109 #[ptr pw, .int .i64 (k : Int)] w fun e' w' => e' = .returned (.bool (groupB u.now u.cs.length k e.d)) ∧ Below w.heap.size w w' := by
  cases hu : e.d.us
  · exact groupOk_no pw k u e w hA he hu
  · by_cases h0 : k = 0
    · subst h0; exact groupOk_root pw u e w hA he hu
    · exact groupOk_used pw k u e w hA he hu h0
end Go.Proofs.YtnmmglkigiakaaaGreat
