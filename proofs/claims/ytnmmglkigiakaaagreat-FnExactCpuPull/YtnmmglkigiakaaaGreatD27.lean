/- The specification: a group without a quota. The specification: a group with a quota. -/
import Derived.Test.YtnmmglkigiakaaaGreatD20
namespace Go.Proofs.YtnmmglkigiakaaaGreat
set_option maxRecDepth 100000
set_option maxHeartbeats 32000000
set_option linter.unusedVariables false
set_option linter.unusedSimpArgs false
open Go.ChangeShapes Go.WideShapes Go.ChangeAt Go.RowKit Go.Shelf Go.Sort
attribute [local go_sem] Oper.semAt_some
theorem specGroup_free (k : Nat) (u : Wv) (e : Gv) (w : World) (hs : SlW w u) (he : u.gs[k]? = some e) (hu : e.d.us = true) (hk0 : k ≠ 0) (hq : e.d.ba.qu = 0) :
    Calls Tryz.prog 64 #[wvV u, .int .i64 ((k : Nat) : Int)] w fun e' w' => e' = .returned (.bool (groupB u.now u.cs.length k e.d)) ∧ Below w.heap.size w w' := by
  obtain ⟨p1, l1, c1, p2, l2, c2, p3, l3, c3, e1, e2, e3, hv⟩ := wv_form hs
  rw [hv]
  obtain ⟨W1, hW1⟩ : ∃ W1, w.alloc (.cells #[.int .i64 u.now, .slice p1 l1 c1, .slice p2 l2 c2, .slice p3 l3 c3] 33) = W1 := ⟨_, rfl⟩
  obtain ⟨hA, acc0, hlt⟩ := boxed_w hs e1 e2 e3 hW1
  obtain ⟨gr, go, cap, w3, hr, hk, hl⟩ := hA.cellsG he
  obtain ⟨y0, y1, y2, y3, y4, y5, y6, y7, y8, y9, y10, y11, y12, y13⟩ := gv_cells hr
  have hok := hA.2.2.2.2 e (List.mem_of_getElem? he)
  obtain ⟨o0, o1, _, o3⟩ := hA.cells
  obtain ⟨k1, m1, f1, hlc⟩ := SlR.form hs.1
  rw [e1] at f1
  simp only [Value.slice.injEq] at f1
  obtain ⟨rfl, rfl, rfl⟩ := f1
  rw [e1] at o1
  rw [e3] at o3
  rw [o3] at w3
  simp only [Option.some.injEq, Value.slice.injEq] at w3
  obtain ⟨rfl, rfl, rfl⟩ := w3
  obtain ⟨⟨us, pa, na, we, cp, pe, ne, su, ⟨qu, po, sp, lo, dr⟩, sh⟩, x, y, z⟩ := e
  dsimp only at hok hu y0 y1 y2 y3 y4 y5 y6 y7 y8 y9 y10 y11 y12 y13 ⊢
  subst hu
  obtain ⟨hb, hz⟩ := hok
  obtain ⟨q1, d1, f1, hl1⟩ := hb.1.form
  obtain ⟨q2, d2, f2, hl2⟩ := hb.2.form
  obtain ⟨q3, d3, f3, hl3⟩ := SlR.form hz
  dsimp only at f1 f2 f3 hl1 hl2 hl3 y11 y12 y13
  subst f1 f2 f3
  have HBa : Hid (SlBa W1 (.slice q1 lo.length d1) (.slice q2 dr.length d2) ⟨qu, po, sp, lo, dr⟩) := hb
  obtain ⟨n1, hn1⟩ : ∃ n, lo.length = n := ⟨_, rfl⟩
  obtain ⟨n2, hn2⟩ : ∃ n, dr.length = n := ⟨_, rfl⟩
  obtain ⟨n3, hn3⟩ : ∃ n, sh.length = n := ⟨_, rfl⟩
  obtain ⟨nc, hnc⟩ : ∃ n, u.cs.length = n := ⟨_, rfl⟩
  obtain ⟨now, hnow⟩ : ∃ n, u.now = n := ⟨_, rfl⟩
  rw [hn1] at hl1 HBa y11
  rw [hn2] at hl2 HBa y12
  rw [hn3] at hl3 y13
  rw [hnc] at o1 hW1 hlc ⊢
  rw [hnow] at o0 hW1 ⊢
  obtain ⟨W2, hW2⟩ : ∃ W2, W1.alloc (.cells #[.bool true, .int .i64 pa, .string na, .int .i64 we, .int .i64 cp, .int .i64 pe, .int .i64 ne, .int .i64 su, .int .i64 qu, .int .i64 po, .int .i64 sp, .slice q1 n1 d1, .slice q2 n2 d2, .slice q3 n3 d3] 84) = W2 := ⟨_, rfl⟩
  have B2 : Below W1.heap.size W1 W2 := by rw [← hW2]; exact (Below.refl _ _).alloc (Nat.le_refl _) _
  have gb : W2.heap[W1.heap.size]? = some (.cells #[.bool true, .int .i64 pa, .string na, .int .i64 we, .int .i64 cp, .int .i64 pe, .int .i64 ne, .int .i64 su, .int .i64 qu, .int .i64 po, .int .i64 sp, .slice q1 n1 d1, .slice q2 n2 d2, .slice q3 n3 d3] 84 (0, 0)) := by rw [← hW2]; exact World.alloc_heap_new W1 _
  have lg : W1.heap.size < W2.heap.size := by rw [← hW2]; simp
  obtain ⟨g0, g1, g2, g3, g4, g5, g6, g7, g8, g9, g10, g11, g12, g13⟩ := gbox gb
  have acc : Below w.heap.size w W2 := acc0.trans (B2.mono acc0.size)
  have HBB : Hid (SlBa W2 (.slice q1 n1 d1) (.slice q2 n2 d2) ⟨qu, po, sp, lo, dr⟩) := HBa.out.below B2
  have lw : w.heap.size < W2.heap.size := Nat.lt_of_lt_of_le hlt B2.size
  have t0 := (B2.cell (p := ⟨w.heap.size, 0, none⟩) hlt).trans o0
  have t1 := (B2.cell (p := ⟨w.heap.size, 1, none⟩) hlt).trans o1
  have HN : Hid (lo.length = n1 ∧ dr.length = n2 ∧ sh.length = n3) := ⟨hn1, hn2, hn3⟩
  clear hA hs he hr e1 e2 e3 hv hb hz B2 HBa gb hnc hnow hn1 hn2 hn3
  have hkk : k ≠ 0 := hk0
  have hk0 : ¬ (k : Int) = 0 := by omega
  dsimp only at hq
  subst hq
  cases h0 : l1in we 1 20
  · have HR : Hid (groupB now nc k ⟨true, pa, na, we, cp, pe, ne, su, ⟨0, po, sp, lo, dr⟩, sh⟩ = false) := by unfold Hid; simp [noBand_ne, groupB, noGroupB, quotaB, rootGB, setB, timeB, HN.out.1, HN.out.2.1, HN.out.2.2, hkk, ← Int.natCast_inj, h0]
    go_enter Tryz.func64, Tryz.ntmps64
    go_wp2_with (first | (go_at_call 99; refine (l1Weight_any _ _).mono ?_; rintro e1 w1 ⟨rfl, rfl⟩) | (go_at_call 100; refine (spec_maskOk _ _).mono ?_; rintro e1 w1 ⟨rfl, rfl⟩) | (go_at_call 101; refine (l4Time_any _ _).mono ?_; rintro e1 w1 ⟨rfl, rfl⟩) | (go_at_call 33; refine (l1In_any _ _ _ _).mono ?_; rintro e1 w1 ⟨rfl, rfl⟩) | (go_at_call 98; refine (l8NoBand_any ⟨0, po, sp, lo, dr⟩ _ _ _ HBB.out).mono ?_; rintro e1 w1 ⟨rfl, hb1⟩; obtain ⟨t0, t1⟩ := cells_2 hb1 lw t0 t1; obtain ⟨g5, g6, g11⟩ := cells_3 hb1 lg g5 g6 g11; replace acc := acc.trans (hb1.mono acc.size); clear hb1) | (go_at_call 102; refine (spec_bandOk ⟨0, po, sp, lo, dr⟩ _ _ _ HBB.out).mono ?_; rintro e1 w1 ⟨rfl, hb1⟩; obtain ⟨t0, t1⟩ := cells_2 hb1 lw t0 t1; obtain ⟨g5, g6, g11⟩ := cells_3 hb1 lg g5 g6 g11; replace acc := acc.trans (hb1.mono acc.size); clear hb1))
    go_ret
    refine ⟨?_, acc⟩
    first | exact ret_bool HR.out.symm | (rw [HR.out]; simp [h0]; done) | (rw [HR.out]; simp [h0]; omega)
  · cases h1 : l1in cp 0 15
    · have HR : Hid (groupB now nc k ⟨true, pa, na, we, cp, pe, ne, su, ⟨0, po, sp, lo, dr⟩, sh⟩ = false) := by unfold Hid; simp [noBand_ne, groupB, noGroupB, quotaB, rootGB, setB, timeB, HN.out.1, HN.out.2.1, HN.out.2.2, hkk, ← Int.natCast_inj, h0, h1]
      go_enter Tryz.func64, Tryz.ntmps64
      go_wp2_with (first | (go_at_call 99; refine (l1Weight_any _ _).mono ?_; rintro e1 w1 ⟨rfl, rfl⟩) | (go_at_call 100; refine (spec_maskOk _ _).mono ?_; rintro e1 w1 ⟨rfl, rfl⟩) | (go_at_call 101; refine (l4Time_any _ _).mono ?_; rintro e1 w1 ⟨rfl, rfl⟩) | (go_at_call 33; refine (l1In_any _ _ _ _).mono ?_; rintro e1 w1 ⟨rfl, rfl⟩) | (go_at_call 98; refine (l8NoBand_any ⟨0, po, sp, lo, dr⟩ _ _ _ HBB.out).mono ?_; rintro e1 w1 ⟨rfl, hb1⟩; obtain ⟨t0, t1⟩ := cells_2 hb1 lw t0 t1; obtain ⟨g5, g6, g11⟩ := cells_3 hb1 lg g5 g6 g11; replace acc := acc.trans (hb1.mono acc.size); clear hb1) | (go_at_call 102; refine (spec_bandOk ⟨0, po, sp, lo, dr⟩ _ _ _ HBB.out).mono ?_; rintro e1 w1 ⟨rfl, hb1⟩; obtain ⟨t0, t1⟩ := cells_2 hb1 lw t0 t1; obtain ⟨g5, g6, g11⟩ := cells_3 hb1 lg g5 g6 g11; replace acc := acc.trans (hb1.mono acc.size); clear hb1))
      go_ret
      refine ⟨?_, acc⟩
      first | exact ret_bool HR.out.symm | (rw [HR.out]; simp [h0, h1]; done) | (rw [HR.out]; simp [h0, h1]; omega)
    · by_cases h2 : cp = 0
      · subst h2
        have HR : Hid (groupB now nc k ⟨true, pa, na, we, 0, pe, ne, su, ⟨0, po, sp, lo, dr⟩, sh⟩ = false) := by unfold Hid; simp [noBand_ne, groupB, noGroupB, quotaB, rootGB, setB, timeB, HN.out.1, HN.out.2.1, HN.out.2.2, hkk, ← Int.natCast_inj, h0, h1]
        go_enter Tryz.func64, Tryz.ntmps64
        go_wp2_with (first | (go_at_call 99; refine (l1Weight_any _ _).mono ?_; rintro e1 w1 ⟨rfl, rfl⟩) | (go_at_call 100; refine (spec_maskOk _ _).mono ?_; rintro e1 w1 ⟨rfl, rfl⟩) | (go_at_call 101; refine (l4Time_any _ _).mono ?_; rintro e1 w1 ⟨rfl, rfl⟩) | (go_at_call 33; refine (l1In_any _ _ _ _).mono ?_; rintro e1 w1 ⟨rfl, rfl⟩) | (go_at_call 98; refine (l8NoBand_any ⟨0, po, sp, lo, dr⟩ _ _ _ HBB.out).mono ?_; rintro e1 w1 ⟨rfl, hb1⟩; obtain ⟨t0, t1⟩ := cells_2 hb1 lw t0 t1; obtain ⟨g5, g6, g11⟩ := cells_3 hb1 lg g5 g6 g11; replace acc := acc.trans (hb1.mono acc.size); clear hb1) | (go_at_call 102; refine (spec_bandOk ⟨0, po, sp, lo, dr⟩ _ _ _ HBB.out).mono ?_; rintro e1 w1 ⟨rfl, hb1⟩; obtain ⟨t0, t1⟩ := cells_2 hb1 lw t0 t1; obtain ⟨g5, g6, g11⟩ := cells_3 hb1 lg g5 g6 g11; replace acc := acc.trans (hb1.mono acc.size); clear hb1))
        go_ret
        refine ⟨?_, acc⟩
        first | exact ret_bool HR.out.symm | (rw [HR.out]; simp [h0, h1]; done) | (rw [HR.out]; simp [h0, h1]; omega)
      · cases h3 : l1in su 0 100000000000000000
        · have HR : Hid (groupB now nc k ⟨true, pa, na, we, cp, pe, ne, su, ⟨0, po, sp, lo, dr⟩, sh⟩ = false) := by unfold Hid; simp [noBand_ne, groupB, noGroupB, quotaB, rootGB, setB, timeB, HN.out.1, HN.out.2.1, HN.out.2.2, hkk, ← Int.natCast_inj, h0, h1, h2, h3]
          go_enter Tryz.func64, Tryz.ntmps64
          go_wp2_with (first | (go_at_call 99; refine (l1Weight_any _ _).mono ?_; rintro e1 w1 ⟨rfl, rfl⟩) | (go_at_call 100; refine (spec_maskOk _ _).mono ?_; rintro e1 w1 ⟨rfl, rfl⟩) | (go_at_call 101; refine (l4Time_any _ _).mono ?_; rintro e1 w1 ⟨rfl, rfl⟩) | (go_at_call 33; refine (l1In_any _ _ _ _).mono ?_; rintro e1 w1 ⟨rfl, rfl⟩) | (go_at_call 98; refine (l8NoBand_any ⟨0, po, sp, lo, dr⟩ _ _ _ HBB.out).mono ?_; rintro e1 w1 ⟨rfl, hb1⟩; obtain ⟨t0, t1⟩ := cells_2 hb1 lw t0 t1; obtain ⟨g5, g6, g11⟩ := cells_3 hb1 lg g5 g6 g11; replace acc := acc.trans (hb1.mono acc.size); clear hb1) | (go_at_call 102; refine (spec_bandOk ⟨0, po, sp, lo, dr⟩ _ _ _ HBB.out).mono ?_; rintro e1 w1 ⟨rfl, hb1⟩; obtain ⟨t0, t1⟩ := cells_2 hb1 lw t0 t1; obtain ⟨g5, g6, g11⟩ := cells_3 hb1 lg g5 g6 g11; replace acc := acc.trans (hb1.mono acc.size); clear hb1))
          go_ret
          refine ⟨?_, acc⟩
          first | exact ret_bool HR.out.symm | (rw [HR.out]; simp [h0, h1, h2, h3]; done) | (rw [HR.out]; simp [h0, h1, h2, h3]; omega)
        · by_cases h4 : (n3 : Int) = nc
          · cases ha : noBandB ⟨0, po, sp, lo, dr⟩
            · have HR : Hid (groupB now nc k ⟨true, pa, na, we, cp, pe, ne, su, ⟨0, po, sp, lo, dr⟩, sh⟩ = false) := by unfold Hid; simp [noBand_ne, groupB, noGroupB, quotaB, rootGB, setB, timeB, HN.out.1, HN.out.2.1, HN.out.2.2, hkk, ← Int.natCast_inj, h0, h1, h2, h3, h4, ha]
              go_enter Tryz.func64, Tryz.ntmps64
              go_wp2_with (first | (go_at_call 99; refine (l1Weight_any _ _).mono ?_; rintro e1 w1 ⟨rfl, rfl⟩) | (go_at_call 100; refine (spec_maskOk _ _).mono ?_; rintro e1 w1 ⟨rfl, rfl⟩) | (go_at_call 101; refine (l4Time_any _ _).mono ?_; rintro e1 w1 ⟨rfl, rfl⟩) | (go_at_call 33; refine (l1In_any _ _ _ _).mono ?_; rintro e1 w1 ⟨rfl, rfl⟩) | (go_at_call 98; refine (l8NoBand_any ⟨0, po, sp, lo, dr⟩ _ _ _ HBB.out).mono ?_; rintro e1 w1 ⟨rfl, hb1⟩; obtain ⟨t0, t1⟩ := cells_2 hb1 lw t0 t1; obtain ⟨g5, g6, g11⟩ := cells_3 hb1 lg g5 g6 g11; replace acc := acc.trans (hb1.mono acc.size); clear hb1) | (go_at_call 102; refine (spec_bandOk ⟨0, po, sp, lo, dr⟩ _ _ _ HBB.out).mono ?_; rintro e1 w1 ⟨rfl, hb1⟩; obtain ⟨t0, t1⟩ := cells_2 hb1 lw t0 t1; obtain ⟨g5, g6, g11⟩ := cells_3 hb1 lg g5 g6 g11; replace acc := acc.trans (hb1.mono acc.size); clear hb1))
              go_ret
              refine ⟨?_, acc⟩
              first | exact ret_bool HR.out.symm | (rw [HR.out]; simp [h0, h1, h2, h3, h4, ha]; done) | (rw [HR.out]; simp [h0, h1, h2, h3, h4, ha]; omega)
            · by_cases hb : pe = 0
              · subst hb
                by_cases hc : ne = 0
                · subst hc
                  have HR : Hid (groupB now nc k ⟨true, pa, na, we, cp, 0, 0, su, ⟨0, po, sp, lo, dr⟩, sh⟩ = true) := by unfold Hid; simp [noBand_ne, groupB, noGroupB, quotaB, rootGB, setB, timeB, HN.out.1, HN.out.2.1, HN.out.2.2, hkk, ← Int.natCast_inj, h0, h1, h2, h3, h4, ha]
                  go_enter Tryz.func64, Tryz.ntmps64
                  go_wp2_with (first | (go_at_call 99; refine (l1Weight_any _ _).mono ?_; rintro e1 w1 ⟨rfl, rfl⟩) | (go_at_call 100; refine (spec_maskOk _ _).mono ?_; rintro e1 w1 ⟨rfl, rfl⟩) | (go_at_call 101; refine (l4Time_any _ _).mono ?_; rintro e1 w1 ⟨rfl, rfl⟩) | (go_at_call 33; refine (l1In_any _ _ _ _).mono ?_; rintro e1 w1 ⟨rfl, rfl⟩) | (go_at_call 98; refine (l8NoBand_any ⟨0, po, sp, lo, dr⟩ _ _ _ HBB.out).mono ?_; rintro e1 w1 ⟨rfl, hb1⟩; obtain ⟨t0, t1⟩ := cells_2 hb1 lw t0 t1; obtain ⟨g5, g6, g11⟩ := cells_3 hb1 lg g5 g6 g11; replace acc := acc.trans (hb1.mono acc.size); clear hb1) | (go_at_call 102; refine (spec_bandOk ⟨0, po, sp, lo, dr⟩ _ _ _ HBB.out).mono ?_; rintro e1 w1 ⟨rfl, hb1⟩; obtain ⟨t0, t1⟩ := cells_2 hb1 lw t0 t1; obtain ⟨g5, g6, g11⟩ := cells_3 hb1 lg g5 g6 g11; replace acc := acc.trans (hb1.mono acc.size); clear hb1))
                  go_ret
                  refine ⟨?_, acc⟩
                  first | exact ret_bool HR.out.symm | (rw [HR.out]; simp [h0, h1, h2, h3, h4, ha]; done) | (rw [HR.out]; simp [h0, h1, h2, h3, h4, ha]; omega)
                · have HR : Hid (groupB now nc k ⟨true, pa, na, we, cp, 0, ne, su, ⟨0, po, sp, lo, dr⟩, sh⟩ = false) := by unfold Hid; simp [noBand_ne, groupB, noGroupB, quotaB, rootGB, setB, timeB, HN.out.1, HN.out.2.1, HN.out.2.2, hkk, ← Int.natCast_inj, h0, h1, h2, h3, h4, ha, hc]
                  go_enter Tryz.func64, Tryz.ntmps64
                  go_wp2_with (first | (go_at_call 99; refine (l1Weight_any _ _).mono ?_; rintro e1 w1 ⟨rfl, rfl⟩) | (go_at_call 100; refine (spec_maskOk _ _).mono ?_; rintro e1 w1 ⟨rfl, rfl⟩) | (go_at_call 101; refine (l4Time_any _ _).mono ?_; rintro e1 w1 ⟨rfl, rfl⟩) | (go_at_call 33; refine (l1In_any _ _ _ _).mono ?_; rintro e1 w1 ⟨rfl, rfl⟩) | (go_at_call 98; refine (l8NoBand_any ⟨0, po, sp, lo, dr⟩ _ _ _ HBB.out).mono ?_; rintro e1 w1 ⟨rfl, hb1⟩; obtain ⟨t0, t1⟩ := cells_2 hb1 lw t0 t1; obtain ⟨g5, g6, g11⟩ := cells_3 hb1 lg g5 g6 g11; replace acc := acc.trans (hb1.mono acc.size); clear hb1) | (go_at_call 102; refine (spec_bandOk ⟨0, po, sp, lo, dr⟩ _ _ _ HBB.out).mono ?_; rintro e1 w1 ⟨rfl, hb1⟩; obtain ⟨t0, t1⟩ := cells_2 hb1 lw t0 t1; obtain ⟨g5, g6, g11⟩ := cells_3 hb1 lg g5 g6 g11; replace acc := acc.trans (hb1.mono acc.size); clear hb1))
                  go_ret
                  refine ⟨?_, acc⟩
                  first | exact ret_bool HR.out.symm | (rw [HR.out]; simp [h0, h1, h2, h3, h4, ha, hc]; done) | (rw [HR.out]; simp [h0, h1, h2, h3, h4, ha, hc]; omega)
              · have HR : Hid (groupB now nc k ⟨true, pa, na, we, cp, pe, ne, su, ⟨0, po, sp, lo, dr⟩, sh⟩ = false) := by unfold Hid; simp [noBand_ne, groupB, noGroupB, quotaB, rootGB, setB, timeB, HN.out.1, HN.out.2.1, HN.out.2.2, hkk, ← Int.natCast_inj, h0, h1, h2, h3, h4, ha, hb]
                go_enter Tryz.func64, Tryz.ntmps64
                go_wp2_with (first | (go_at_call 99; refine (l1Weight_any _ _).mono ?_; rintro e1 w1 ⟨rfl, rfl⟩) | (go_at_call 100; refine (spec_maskOk _ _).mono ?_; rintro e1 w1 ⟨rfl, rfl⟩) | (go_at_call 101; refine (l4Time_any _ _).mono ?_; rintro e1 w1 ⟨rfl, rfl⟩) | (go_at_call 33; refine (l1In_any _ _ _ _).mono ?_; rintro e1 w1 ⟨rfl, rfl⟩) | (go_at_call 98; refine (l8NoBand_any ⟨0, po, sp, lo, dr⟩ _ _ _ HBB.out).mono ?_; rintro e1 w1 ⟨rfl, hb1⟩; obtain ⟨t0, t1⟩ := cells_2 hb1 lw t0 t1; obtain ⟨g5, g6, g11⟩ := cells_3 hb1 lg g5 g6 g11; replace acc := acc.trans (hb1.mono acc.size); clear hb1) | (go_at_call 102; refine (spec_bandOk ⟨0, po, sp, lo, dr⟩ _ _ _ HBB.out).mono ?_; rintro e1 w1 ⟨rfl, hb1⟩; obtain ⟨t0, t1⟩ := cells_2 hb1 lw t0 t1; obtain ⟨g5, g6, g11⟩ := cells_3 hb1 lg g5 g6 g11; replace acc := acc.trans (hb1.mono acc.size); clear hb1))
                go_ret
                refine ⟨?_, acc⟩
                first | exact ret_bool HR.out.symm | (rw [HR.out]; simp [h0, h1, h2, h3, h4, ha, hb]; done) | (rw [HR.out]; simp [h0, h1, h2, h3, h4, ha, hb]; omega)
          · have HR : Hid (groupB now nc k ⟨true, pa, na, we, cp, pe, ne, su, ⟨0, po, sp, lo, dr⟩, sh⟩ = false) := by unfold Hid; simp [noBand_ne, groupB, noGroupB, quotaB, rootGB, setB, timeB, HN.out.1, HN.out.2.1, HN.out.2.2, hkk, ← Int.natCast_inj, h0, h1, h2, h3, h4]
            have h4q : ((n3 : Int) == nc) = false := by simpa using h4
            have h4p : ((n3 : Int) != nc) = true := by simpa using h4
            go_enter Tryz.func64, Tryz.ntmps64
            go_wp2_with (first | (go_at_call 99; refine (l1Weight_any _ _).mono ?_; rintro e1 w1 ⟨rfl, rfl⟩) | (go_at_call 100; refine (spec_maskOk _ _).mono ?_; rintro e1 w1 ⟨rfl, rfl⟩) | (go_at_call 101; refine (l4Time_any _ _).mono ?_; rintro e1 w1 ⟨rfl, rfl⟩) | (go_at_call 33; refine (l1In_any _ _ _ _).mono ?_; rintro e1 w1 ⟨rfl, rfl⟩) | (go_at_call 98; refine (l8NoBand_any ⟨0, po, sp, lo, dr⟩ _ _ _ HBB.out).mono ?_; rintro e1 w1 ⟨rfl, hb1⟩; obtain ⟨t0, t1⟩ := cells_2 hb1 lw t0 t1; obtain ⟨g5, g6, g11⟩ := cells_3 hb1 lg g5 g6 g11; replace acc := acc.trans (hb1.mono acc.size); clear hb1) | (go_at_call 102; refine (spec_bandOk ⟨0, po, sp, lo, dr⟩ _ _ _ HBB.out).mono ?_; rintro e1 w1 ⟨rfl, hb1⟩; obtain ⟨t0, t1⟩ := cells_2 hb1 lw t0 t1; obtain ⟨g5, g6, g11⟩ := cells_3 hb1 lg g5 g6 g11; replace acc := acc.trans (hb1.mono acc.size); clear hb1))
            go_ret
            refine ⟨?_, acc⟩
            first | exact ret_bool HR.out.symm | (rw [HR.out]; simp [h0, h1, h2, h3, h4]; done) | (rw [HR.out]; simp [h0, h1, h2, h3, h4]; omega)
theorem specGroup_quota (k : Nat) (u : Wv) (e : Gv) (w : World) (hs : SlW w u) (he : u.gs[k]? = some e) (hu : e.d.us = true) (hk0 : k ≠ 0) (hq : e.d.ba.qu ≠ 0) :
    Calls Tryz.prog 64 #[wvV u, .int .i64 ((k : Nat) : Int)] w fun e' w' => e' = .returned (.bool (groupB u.now u.cs.length k e.d)) ∧ Below w.heap.size w w' := by
  obtain ⟨p1, l1, c1, p2, l2, c2, p3, l3, c3, e1, e2, e3, hv⟩ := wv_form hs
  rw [hv]
  obtain ⟨W1, hW1⟩ : ∃ W1, w.alloc (.cells #[.int .i64 u.now, .slice p1 l1 c1, .slice p2 l2 c2, .slice p3 l3 c3] 33) = W1 := ⟨_, rfl⟩
  obtain ⟨hA, acc0, hlt⟩ := boxed_w hs e1 e2 e3 hW1
  obtain ⟨gr, go, cap, w3, hr, hk, hl⟩ := hA.cellsG he
  obtain ⟨y0, y1, y2, y3, y4, y5, y6, y7, y8, y9, y10, y11, y12, y13⟩ := gv_cells hr
  have hok := hA.2.2.2.2 e (List.mem_of_getElem? he)
  obtain ⟨o0, o1, _, o3⟩ := hA.cells
  obtain ⟨k1, m1, f1, hlc⟩ := SlR.form hs.1
  rw [e1] at f1
  simp only [Value.slice.injEq] at f1
  obtain ⟨rfl, rfl, rfl⟩ := f1
  rw [e1] at o1
  rw [e3] at o3
  rw [o3] at w3
  simp only [Option.some.injEq, Value.slice.injEq] at w3
  obtain ⟨rfl, rfl, rfl⟩ := w3
  obtain ⟨⟨us, pa, na, we, cp, pe, ne, su, ⟨qu, po, sp, lo, dr⟩, sh⟩, x, y, z⟩ := e
  dsimp only at hok hu y0 y1 y2 y3 y4 y5 y6 y7 y8 y9 y10 y11 y12 y13 ⊢
  subst hu
  obtain ⟨hb, hz⟩ := hok
  obtain ⟨q1, d1, f1, hl1⟩ := hb.1.form
  obtain ⟨q2, d2, f2, hl2⟩ := hb.2.form
  obtain ⟨q3, d3, f3, hl3⟩ := SlR.form hz
  dsimp only at f1 f2 f3 hl1 hl2 hl3 y11 y12 y13
  subst f1 f2 f3
  have HBa : Hid (SlBa W1 (.slice q1 lo.length d1) (.slice q2 dr.length d2) ⟨qu, po, sp, lo, dr⟩) := hb
  obtain ⟨n1, hn1⟩ : ∃ n, lo.length = n := ⟨_, rfl⟩
  obtain ⟨n2, hn2⟩ : ∃ n, dr.length = n := ⟨_, rfl⟩
  obtain ⟨n3, hn3⟩ : ∃ n, sh.length = n := ⟨_, rfl⟩
  obtain ⟨nc, hnc⟩ : ∃ n, u.cs.length = n := ⟨_, rfl⟩
  obtain ⟨now, hnow⟩ : ∃ n, u.now = n := ⟨_, rfl⟩
  rw [hn1] at hl1 HBa y11
  rw [hn2] at hl2 HBa y12
  rw [hn3] at hl3 y13
  rw [hnc] at o1 hW1 hlc ⊢
  rw [hnow] at o0 hW1 ⊢
  obtain ⟨W2, hW2⟩ : ∃ W2, W1.alloc (.cells #[.bool true, .int .i64 pa, .string na, .int .i64 we, .int .i64 cp, .int .i64 pe, .int .i64 ne, .int .i64 su, .int .i64 qu, .int .i64 po, .int .i64 sp, .slice q1 n1 d1, .slice q2 n2 d2, .slice q3 n3 d3] 84) = W2 := ⟨_, rfl⟩
  have B2 : Below W1.heap.size W1 W2 := by rw [← hW2]; exact (Below.refl _ _).alloc (Nat.le_refl _) _
  have gb : W2.heap[W1.heap.size]? = some (.cells #[.bool true, .int .i64 pa, .string na, .int .i64 we, .int .i64 cp, .int .i64 pe, .int .i64 ne, .int .i64 su, .int .i64 qu, .int .i64 po, .int .i64 sp, .slice q1 n1 d1, .slice q2 n2 d2, .slice q3 n3 d3] 84 (0, 0)) := by rw [← hW2]; exact World.alloc_heap_new W1 _
  have lg : W1.heap.size < W2.heap.size := by rw [← hW2]; simp
  obtain ⟨g0, g1, g2, g3, g4, g5, g6, g7, g8, g9, g10, g11, g12, g13⟩ := gbox gb
  have acc : Below w.heap.size w W2 := acc0.trans (B2.mono acc0.size)
  have HBB : Hid (SlBa W2 (.slice q1 n1 d1) (.slice q2 n2 d2) ⟨qu, po, sp, lo, dr⟩) := HBa.out.below B2
  have lw : w.heap.size < W2.heap.size := Nat.lt_of_lt_of_le hlt B2.size
  have t0 := (B2.cell (p := ⟨w.heap.size, 0, none⟩) hlt).trans o0
  have t1 := (B2.cell (p := ⟨w.heap.size, 1, none⟩) hlt).trans o1
  have HN : Hid (lo.length = n1 ∧ dr.length = n2 ∧ sh.length = n3) := ⟨hn1, hn2, hn3⟩
  clear hA hs he hr e1 e2 e3 hv hb hz B2 HBa gb hnc hnow hn1 hn2 hn3
  have hkk : k ≠ 0 := hk0
  have hk0 : ¬ (k : Int) = 0 := by omega
  dsimp only at hq
  have hq0 : ¬ qu = 0 := hq
  cases h0 : l1in we 1 20
  · have HR : Hid (groupB now nc k ⟨true, pa, na, we, cp, pe, ne, su, ⟨qu, po, sp, lo, dr⟩, sh⟩ = false) := by unfold Hid; simp [noBand_ne, groupB, noGroupB, quotaB, rootGB, setB, timeB, HN.out.1, HN.out.2.1, HN.out.2.2, hkk, hq0, ← Int.natCast_inj, h0]
    go_enter Tryz.func64, Tryz.ntmps64
    go_wp2_with (first | (go_at_call 99; refine (l1Weight_any _ _).mono ?_; rintro e1 w1 ⟨rfl, rfl⟩) | (go_at_call 100; refine (spec_maskOk _ _).mono ?_; rintro e1 w1 ⟨rfl, rfl⟩) | (go_at_call 101; refine (l4Time_any _ _).mono ?_; rintro e1 w1 ⟨rfl, rfl⟩) | (go_at_call 33; refine (l1In_any _ _ _ _).mono ?_; rintro e1 w1 ⟨rfl, rfl⟩) | (go_at_call 98; refine (l8NoBand_any ⟨qu, po, sp, lo, dr⟩ _ _ _ HBB.out).mono ?_; rintro e1 w1 ⟨rfl, hb1⟩; obtain ⟨t0, t1⟩ := cells_2 hb1 lw t0 t1; obtain ⟨g5, g6, g11⟩ := cells_3 hb1 lg g5 g6 g11; replace acc := acc.trans (hb1.mono acc.size); clear hb1) | (go_at_call 102; refine (spec_bandOk ⟨qu, po, sp, lo, dr⟩ _ _ _ HBB.out).mono ?_; rintro e1 w1 ⟨rfl, hb1⟩; obtain ⟨t0, t1⟩ := cells_2 hb1 lw t0 t1; obtain ⟨g5, g6, g11⟩ := cells_3 hb1 lg g5 g6 g11; replace acc := acc.trans (hb1.mono acc.size); clear hb1))
    go_ret
    refine ⟨?_, acc⟩
    first | exact ret_bool HR.out.symm | (rw [HR.out]; simp [h0]; done) | (rw [HR.out]; simp [h0]; omega)
  · cases h1 : l1in cp 0 15
    · have HR : Hid (groupB now nc k ⟨true, pa, na, we, cp, pe, ne, su, ⟨qu, po, sp, lo, dr⟩, sh⟩ = false) := by unfold Hid; simp [noBand_ne, groupB, noGroupB, quotaB, rootGB, setB, timeB, HN.out.1, HN.out.2.1, HN.out.2.2, hkk, hq0, ← Int.natCast_inj, h0, h1]
      go_enter Tryz.func64, Tryz.ntmps64
      go_wp2_with (first | (go_at_call 99; refine (l1Weight_any _ _).mono ?_; rintro e1 w1 ⟨rfl, rfl⟩) | (go_at_call 100; refine (spec_maskOk _ _).mono ?_; rintro e1 w1 ⟨rfl, rfl⟩) | (go_at_call 101; refine (l4Time_any _ _).mono ?_; rintro e1 w1 ⟨rfl, rfl⟩) | (go_at_call 33; refine (l1In_any _ _ _ _).mono ?_; rintro e1 w1 ⟨rfl, rfl⟩) | (go_at_call 98; refine (l8NoBand_any ⟨qu, po, sp, lo, dr⟩ _ _ _ HBB.out).mono ?_; rintro e1 w1 ⟨rfl, hb1⟩; obtain ⟨t0, t1⟩ := cells_2 hb1 lw t0 t1; obtain ⟨g5, g6, g11⟩ := cells_3 hb1 lg g5 g6 g11; replace acc := acc.trans (hb1.mono acc.size); clear hb1) | (go_at_call 102; refine (spec_bandOk ⟨qu, po, sp, lo, dr⟩ _ _ _ HBB.out).mono ?_; rintro e1 w1 ⟨rfl, hb1⟩; obtain ⟨t0, t1⟩ := cells_2 hb1 lw t0 t1; obtain ⟨g5, g6, g11⟩ := cells_3 hb1 lg g5 g6 g11; replace acc := acc.trans (hb1.mono acc.size); clear hb1))
      go_ret
      refine ⟨?_, acc⟩
      first | exact ret_bool HR.out.symm | (rw [HR.out]; simp [h0, h1]; done) | (rw [HR.out]; simp [h0, h1]; omega)
    · by_cases h2 : cp = 0
      · subst h2
        have HR : Hid (groupB now nc k ⟨true, pa, na, we, 0, pe, ne, su, ⟨qu, po, sp, lo, dr⟩, sh⟩ = false) := by unfold Hid; simp [noBand_ne, groupB, noGroupB, quotaB, rootGB, setB, timeB, HN.out.1, HN.out.2.1, HN.out.2.2, hkk, hq0, ← Int.natCast_inj, h0, h1]
        go_enter Tryz.func64, Tryz.ntmps64
        go_wp2_with (first | (go_at_call 99; refine (l1Weight_any _ _).mono ?_; rintro e1 w1 ⟨rfl, rfl⟩) | (go_at_call 100; refine (spec_maskOk _ _).mono ?_; rintro e1 w1 ⟨rfl, rfl⟩) | (go_at_call 101; refine (l4Time_any _ _).mono ?_; rintro e1 w1 ⟨rfl, rfl⟩) | (go_at_call 33; refine (l1In_any _ _ _ _).mono ?_; rintro e1 w1 ⟨rfl, rfl⟩) | (go_at_call 98; refine (l8NoBand_any ⟨qu, po, sp, lo, dr⟩ _ _ _ HBB.out).mono ?_; rintro e1 w1 ⟨rfl, hb1⟩; obtain ⟨t0, t1⟩ := cells_2 hb1 lw t0 t1; obtain ⟨g5, g6, g11⟩ := cells_3 hb1 lg g5 g6 g11; replace acc := acc.trans (hb1.mono acc.size); clear hb1) | (go_at_call 102; refine (spec_bandOk ⟨qu, po, sp, lo, dr⟩ _ _ _ HBB.out).mono ?_; rintro e1 w1 ⟨rfl, hb1⟩; obtain ⟨t0, t1⟩ := cells_2 hb1 lw t0 t1; obtain ⟨g5, g6, g11⟩ := cells_3 hb1 lg g5 g6 g11; replace acc := acc.trans (hb1.mono acc.size); clear hb1))
        go_ret
        refine ⟨?_, acc⟩
        first | exact ret_bool HR.out.symm | (rw [HR.out]; simp [h0, h1]; done) | (rw [HR.out]; simp [h0, h1]; omega)
      · cases h3 : l1in su 0 100000000000000000
        · have HR : Hid (groupB now nc k ⟨true, pa, na, we, cp, pe, ne, su, ⟨qu, po, sp, lo, dr⟩, sh⟩ = false) := by unfold Hid; simp [noBand_ne, groupB, noGroupB, quotaB, rootGB, setB, timeB, HN.out.1, HN.out.2.1, HN.out.2.2, hkk, hq0, ← Int.natCast_inj, h0, h1, h2, h3]
          go_enter Tryz.func64, Tryz.ntmps64
          go_wp2_with (first | (go_at_call 99; refine (l1Weight_any _ _).mono ?_; rintro e1 w1 ⟨rfl, rfl⟩) | (go_at_call 100; refine (spec_maskOk _ _).mono ?_; rintro e1 w1 ⟨rfl, rfl⟩) | (go_at_call 101; refine (l4Time_any _ _).mono ?_; rintro e1 w1 ⟨rfl, rfl⟩) | (go_at_call 33; refine (l1In_any _ _ _ _).mono ?_; rintro e1 w1 ⟨rfl, rfl⟩) | (go_at_call 98; refine (l8NoBand_any ⟨qu, po, sp, lo, dr⟩ _ _ _ HBB.out).mono ?_; rintro e1 w1 ⟨rfl, hb1⟩; obtain ⟨t0, t1⟩ := cells_2 hb1 lw t0 t1; obtain ⟨g5, g6, g11⟩ := cells_3 hb1 lg g5 g6 g11; replace acc := acc.trans (hb1.mono acc.size); clear hb1) | (go_at_call 102; refine (spec_bandOk ⟨qu, po, sp, lo, dr⟩ _ _ _ HBB.out).mono ?_; rintro e1 w1 ⟨rfl, hb1⟩; obtain ⟨t0, t1⟩ := cells_2 hb1 lw t0 t1; obtain ⟨g5, g6, g11⟩ := cells_3 hb1 lg g5 g6 g11; replace acc := acc.trans (hb1.mono acc.size); clear hb1))
          go_ret
          refine ⟨?_, acc⟩
          first | exact ret_bool HR.out.symm | (rw [HR.out]; simp [h0, h1, h2, h3]; done) | (rw [HR.out]; simp [h0, h1, h2, h3]; omega)
        · by_cases h4 : (n3 : Int) = nc
          · cases ha : bandOk ⟨qu, po, sp, lo, dr⟩
            · have HR : Hid (groupB now nc k ⟨true, pa, na, we, cp, pe, ne, su, ⟨qu, po, sp, lo, dr⟩, sh⟩ = false) := by unfold Hid; simp [noBand_ne, groupB, noGroupB, quotaB, rootGB, setB, timeB, HN.out.1, HN.out.2.1, HN.out.2.2, hkk, hq0, ← Int.natCast_inj, h0, h1, h2, h3, h4, ha]
              go_enter Tryz.func64, Tryz.ntmps64
              go_wp2_with (first | (go_at_call 99; refine (l1Weight_any _ _).mono ?_; rintro e1 w1 ⟨rfl, rfl⟩) | (go_at_call 100; refine (spec_maskOk _ _).mono ?_; rintro e1 w1 ⟨rfl, rfl⟩) | (go_at_call 101; refine (l4Time_any _ _).mono ?_; rintro e1 w1 ⟨rfl, rfl⟩) | (go_at_call 33; refine (l1In_any _ _ _ _).mono ?_; rintro e1 w1 ⟨rfl, rfl⟩) | (go_at_call 98; refine (l8NoBand_any ⟨qu, po, sp, lo, dr⟩ _ _ _ HBB.out).mono ?_; rintro e1 w1 ⟨rfl, hb1⟩; obtain ⟨t0, t1⟩ := cells_2 hb1 lw t0 t1; obtain ⟨g5, g6, g11⟩ := cells_3 hb1 lg g5 g6 g11; replace acc := acc.trans (hb1.mono acc.size); clear hb1) | (go_at_call 102; refine (spec_bandOk ⟨qu, po, sp, lo, dr⟩ _ _ _ HBB.out).mono ?_; rintro e1 w1 ⟨rfl, hb1⟩; obtain ⟨t0, t1⟩ := cells_2 hb1 lw t0 t1; obtain ⟨g5, g6, g11⟩ := cells_3 hb1 lg g5 g6 g11; replace acc := acc.trans (hb1.mono acc.size); clear hb1))
              go_ret
              refine ⟨?_, acc⟩
              first | exact ret_bool HR.out.symm | (rw [HR.out]; simp [h0, h1, h2, h3, h4, ha]; done) | (rw [HR.out]; simp [h0, h1, h2, h3, h4, ha]; omega)
            · by_cases hb : (n1 : Int) = nc
              · cases hc : l1in pe 1 1000
                · have HR : Hid (groupB now nc k ⟨true, pa, na, we, cp, pe, ne, su, ⟨qu, po, sp, lo, dr⟩, sh⟩ = false) := by unfold Hid; simp [noBand_ne, groupB, noGroupB, quotaB, rootGB, setB, timeB, HN.out.1, HN.out.2.1, HN.out.2.2, hkk, hq0, ← Int.natCast_inj, h0, h1, h2, h3, h4, ha, hb, hc]
                  go_enter Tryz.func64, Tryz.ntmps64
                  go_wp2_with (first | (go_at_call 99; refine (l1Weight_any _ _).mono ?_; rintro e1 w1 ⟨rfl, rfl⟩) | (go_at_call 100; refine (spec_maskOk _ _).mono ?_; rintro e1 w1 ⟨rfl, rfl⟩) | (go_at_call 101; refine (l4Time_any _ _).mono ?_; rintro e1 w1 ⟨rfl, rfl⟩) | (go_at_call 33; refine (l1In_any _ _ _ _).mono ?_; rintro e1 w1 ⟨rfl, rfl⟩) | (go_at_call 98; refine (l8NoBand_any ⟨qu, po, sp, lo, dr⟩ _ _ _ HBB.out).mono ?_; rintro e1 w1 ⟨rfl, hb1⟩; obtain ⟨t0, t1⟩ := cells_2 hb1 lw t0 t1; obtain ⟨g5, g6, g11⟩ := cells_3 hb1 lg g5 g6 g11; replace acc := acc.trans (hb1.mono acc.size); clear hb1) | (go_at_call 102; refine (spec_bandOk ⟨qu, po, sp, lo, dr⟩ _ _ _ HBB.out).mono ?_; rintro e1 w1 ⟨rfl, hb1⟩; obtain ⟨t0, t1⟩ := cells_2 hb1 lw t0 t1; obtain ⟨g5, g6, g11⟩ := cells_3 hb1 lg g5 g6 g11; replace acc := acc.trans (hb1.mono acc.size); clear hb1))
                  go_ret
                  refine ⟨?_, acc⟩
                  first | exact ret_bool HR.out.symm | (rw [HR.out]; simp [h0, h1, h2, h3, h4, ha, hb, hc]; done) | (rw [HR.out]; simp [h0, h1, h2, h3, h4, ha, hb, hc]; omega)
                · by_cases hd : now < ne
                  · by_cases he : wrap64 (ne - now) ≤ pe
                    · have HR : Hid (groupB now nc k ⟨true, pa, na, we, cp, pe, ne, su, ⟨qu, po, sp, lo, dr⟩, sh⟩ = true) := by unfold Hid; simp [noBand_ne, groupB, noGroupB, quotaB, rootGB, setB, timeB, HN.out.1, HN.out.2.1, HN.out.2.2, hkk, hq0, ← Int.natCast_inj, h0, h1, h2, h3, h4, ha, hb, hc, hd, he]
                      go_enter Tryz.func64, Tryz.ntmps64
                      go_wp2_with (first | (go_at_call 99; refine (l1Weight_any _ _).mono ?_; rintro e1 w1 ⟨rfl, rfl⟩) | (go_at_call 100; refine (spec_maskOk _ _).mono ?_; rintro e1 w1 ⟨rfl, rfl⟩) | (go_at_call 101; refine (l4Time_any _ _).mono ?_; rintro e1 w1 ⟨rfl, rfl⟩) | (go_at_call 33; refine (l1In_any _ _ _ _).mono ?_; rintro e1 w1 ⟨rfl, rfl⟩) | (go_at_call 98; refine (l8NoBand_any ⟨qu, po, sp, lo, dr⟩ _ _ _ HBB.out).mono ?_; rintro e1 w1 ⟨rfl, hb1⟩; obtain ⟨t0, t1⟩ := cells_2 hb1 lw t0 t1; obtain ⟨g5, g6, g11⟩ := cells_3 hb1 lg g5 g6 g11; replace acc := acc.trans (hb1.mono acc.size); clear hb1) | (go_at_call 102; refine (spec_bandOk ⟨qu, po, sp, lo, dr⟩ _ _ _ HBB.out).mono ?_; rintro e1 w1 ⟨rfl, hb1⟩; obtain ⟨t0, t1⟩ := cells_2 hb1 lw t0 t1; obtain ⟨g5, g6, g11⟩ := cells_3 hb1 lg g5 g6 g11; replace acc := acc.trans (hb1.mono acc.size); clear hb1))
                      go_ret
                      refine ⟨?_, acc⟩
                      first | exact ret_bool HR.out.symm | (rw [HR.out]; simp [h0, h1, h2, h3, h4, ha, hb, hc, hd, he]; done) | (rw [HR.out]; simp [h0, h1, h2, h3, h4, ha, hb, hc, hd, he]; omega)
                    · have HR : Hid (groupB now nc k ⟨true, pa, na, we, cp, pe, ne, su, ⟨qu, po, sp, lo, dr⟩, sh⟩ = false) := by unfold Hid; simp [noBand_ne, groupB, noGroupB, quotaB, rootGB, setB, timeB, HN.out.1, HN.out.2.1, HN.out.2.2, hkk, hq0, ← Int.natCast_inj, h0, h1, h2, h3, h4, ha, hb, hc, hd, he]
                      go_enter Tryz.func64, Tryz.ntmps64
                      go_wp2_with (first | (go_at_call 99; refine (l1Weight_any _ _).mono ?_; rintro e1 w1 ⟨rfl, rfl⟩) | (go_at_call 100; refine (spec_maskOk _ _).mono ?_; rintro e1 w1 ⟨rfl, rfl⟩) | (go_at_call 101; refine (l4Time_any _ _).mono ?_; rintro e1 w1 ⟨rfl, rfl⟩) | (go_at_call 33; refine (l1In_any _ _ _ _).mono ?_; rintro e1 w1 ⟨rfl, rfl⟩) | (go_at_call 98; refine (l8NoBand_any ⟨qu, po, sp, lo, dr⟩ _ _ _ HBB.out).mono ?_; rintro e1 w1 ⟨rfl, hb1⟩; obtain ⟨t0, t1⟩ := cells_2 hb1 lw t0 t1; obtain ⟨g5, g6, g11⟩ := cells_3 hb1 lg g5 g6 g11; replace acc := acc.trans (hb1.mono acc.size); clear hb1) | (go_at_call 102; refine (spec_bandOk ⟨qu, po, sp, lo, dr⟩ _ _ _ HBB.out).mono ?_; rintro e1 w1 ⟨rfl, hb1⟩; obtain ⟨t0, t1⟩ := cells_2 hb1 lw t0 t1; obtain ⟨g5, g6, g11⟩ := cells_3 hb1 lg g5 g6 g11; replace acc := acc.trans (hb1.mono acc.size); clear hb1))
                      go_ret
                      refine ⟨?_, acc⟩
                      first | exact ret_bool HR.out.symm | (rw [HR.out]; simp [h0, h1, h2, h3, h4, ha, hb, hc, hd, he]; done) | (rw [HR.out]; simp [h0, h1, h2, h3, h4, ha, hb, hc, hd, he]; omega)
                  · have HR : Hid (groupB now nc k ⟨true, pa, na, we, cp, pe, ne, su, ⟨qu, po, sp, lo, dr⟩, sh⟩ = false) := by unfold Hid; simp [noBand_ne, groupB, noGroupB, quotaB, rootGB, setB, timeB, HN.out.1, HN.out.2.1, HN.out.2.2, hkk, hq0, ← Int.natCast_inj, h0, h1, h2, h3, h4, ha, hb, hc, hd]
                    go_enter Tryz.func64, Tryz.ntmps64
                    go_wp2_with (first | (go_at_call 99; refine (l1Weight_any _ _).mono ?_; rintro e1 w1 ⟨rfl, rfl⟩) | (go_at_call 100; refine (spec_maskOk _ _).mono ?_; rintro e1 w1 ⟨rfl, rfl⟩) | (go_at_call 101; refine (l4Time_any _ _).mono ?_; rintro e1 w1 ⟨rfl, rfl⟩) | (go_at_call 33; refine (l1In_any _ _ _ _).mono ?_; rintro e1 w1 ⟨rfl, rfl⟩) | (go_at_call 98; refine (l8NoBand_any ⟨qu, po, sp, lo, dr⟩ _ _ _ HBB.out).mono ?_; rintro e1 w1 ⟨rfl, hb1⟩; obtain ⟨t0, t1⟩ := cells_2 hb1 lw t0 t1; obtain ⟨g5, g6, g11⟩ := cells_3 hb1 lg g5 g6 g11; replace acc := acc.trans (hb1.mono acc.size); clear hb1) | (go_at_call 102; refine (spec_bandOk ⟨qu, po, sp, lo, dr⟩ _ _ _ HBB.out).mono ?_; rintro e1 w1 ⟨rfl, hb1⟩; obtain ⟨t0, t1⟩ := cells_2 hb1 lw t0 t1; obtain ⟨g5, g6, g11⟩ := cells_3 hb1 lg g5 g6 g11; replace acc := acc.trans (hb1.mono acc.size); clear hb1))
                    go_ret
                    refine ⟨?_, acc⟩
                    first | exact ret_bool HR.out.symm | (rw [HR.out]; simp [h0, h1, h2, h3, h4, ha, hb, hc, hd]; done) | (rw [HR.out]; simp [h0, h1, h2, h3, h4, ha, hb, hc, hd]; omega)
              · have HR : Hid (groupB now nc k ⟨true, pa, na, we, cp, pe, ne, su, ⟨qu, po, sp, lo, dr⟩, sh⟩ = false) := by unfold Hid; simp [noBand_ne, groupB, noGroupB, quotaB, rootGB, setB, timeB, HN.out.1, HN.out.2.1, HN.out.2.2, hkk, hq0, ← Int.natCast_inj, h0, h1, h2, h3, h4, ha, hb]
                have hbq : ((n1 : Int) == nc) = false := by simpa using hb
                have hbp : ((n1 : Int) != nc) = true := by simpa using hb
                go_enter Tryz.func64, Tryz.ntmps64
                go_wp2_with (first | (go_at_call 99; refine (l1Weight_any _ _).mono ?_; rintro e1 w1 ⟨rfl, rfl⟩) | (go_at_call 100; refine (spec_maskOk _ _).mono ?_; rintro e1 w1 ⟨rfl, rfl⟩) | (go_at_call 101; refine (l4Time_any _ _).mono ?_; rintro e1 w1 ⟨rfl, rfl⟩) | (go_at_call 33; refine (l1In_any _ _ _ _).mono ?_; rintro e1 w1 ⟨rfl, rfl⟩) | (go_at_call 98; refine (l8NoBand_any ⟨qu, po, sp, lo, dr⟩ _ _ _ HBB.out).mono ?_; rintro e1 w1 ⟨rfl, hb1⟩; obtain ⟨t0, t1⟩ := cells_2 hb1 lw t0 t1; obtain ⟨g5, g6, g11⟩ := cells_3 hb1 lg g5 g6 g11; replace acc := acc.trans (hb1.mono acc.size); clear hb1) | (go_at_call 102; refine (spec_bandOk ⟨qu, po, sp, lo, dr⟩ _ _ _ HBB.out).mono ?_; rintro e1 w1 ⟨rfl, hb1⟩; obtain ⟨t0, t1⟩ := cells_2 hb1 lw t0 t1; obtain ⟨g5, g6, g11⟩ := cells_3 hb1 lg g5 g6 g11; replace acc := acc.trans (hb1.mono acc.size); clear hb1))
                go_ret
                refine ⟨?_, acc⟩
                first | exact ret_bool HR.out.symm | (rw [HR.out]; simp [h0, h1, h2, h3, h4, ha, hb]; done) | (rw [HR.out]; simp [h0, h1, h2, h3, h4, ha, hb]; omega)
          · have HR : Hid (groupB now nc k ⟨true, pa, na, we, cp, pe, ne, su, ⟨qu, po, sp, lo, dr⟩, sh⟩ = false) := by unfold Hid; simp [noBand_ne, groupB, noGroupB, quotaB, rootGB, setB, timeB, HN.out.1, HN.out.2.1, HN.out.2.2, hkk, hq0, ← Int.natCast_inj, h0, h1, h2, h3, h4]
            have h4q : ((n3 : Int) == nc) = false := by simpa using h4
            have h4p : ((n3 : Int) != nc) = true := by simpa using h4
            go_enter Tryz.func64, Tryz.ntmps64
            go_wp2_with (first | (go_at_call 99; refine (l1Weight_any _ _).mono ?_; rintro e1 w1 ⟨rfl, rfl⟩) | (go_at_call 100; refine (spec_maskOk _ _).mono ?_; rintro e1 w1 ⟨rfl, rfl⟩) | (go_at_call 101; refine (l4Time_any _ _).mono ?_; rintro e1 w1 ⟨rfl, rfl⟩) | (go_at_call 33; refine (l1In_any _ _ _ _).mono ?_; rintro e1 w1 ⟨rfl, rfl⟩) | (go_at_call 98; refine (l8NoBand_any ⟨qu, po, sp, lo, dr⟩ _ _ _ HBB.out).mono ?_; rintro e1 w1 ⟨rfl, hb1⟩; obtain ⟨t0, t1⟩ := cells_2 hb1 lw t0 t1; obtain ⟨g5, g6, g11⟩ := cells_3 hb1 lg g5 g6 g11; replace acc := acc.trans (hb1.mono acc.size); clear hb1) | (go_at_call 102; refine (spec_bandOk ⟨qu, po, sp, lo, dr⟩ _ _ _ HBB.out).mono ?_; rintro e1 w1 ⟨rfl, hb1⟩; obtain ⟨t0, t1⟩ := cells_2 hb1 lw t0 t1; obtain ⟨g5, g6, g11⟩ := cells_3 hb1 lg g5 g6 g11; replace acc := acc.trans (hb1.mono acc.size); clear hb1))
            go_ret
            refine ⟨?_, acc⟩
            first | exact ret_bool HR.out.symm | (rw [HR.out]; simp [h0, h1, h2, h3, h4]; done) | (rw [HR.out]; simp [h0, h1, h2, h3, h4]; omega)
end Go.Proofs.YtnmmglkigiakaaaGreat
