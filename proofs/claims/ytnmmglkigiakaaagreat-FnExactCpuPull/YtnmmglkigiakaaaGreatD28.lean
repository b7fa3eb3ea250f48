/- The specification: the root. The specification: groups. The specification: tasks. The specification: tasks, the blocked ones; all. -/
import Derived.Test.YtnmmglkigiakaaaGreatD27
import Derived.Test.YtnmmglkigiakaaaGreatD21
namespace Go.Proofs.YtnmmglkigiakaaaGreat
set_option maxRecDepth 100000
set_option maxHeartbeats 32000000
set_option linter.unusedVariables false
set_option linter.unusedSimpArgs false
open Go.ChangeShapes Go.WideShapes Go.ChangeAt Go.RowKit Go.Shelf Go.Sort
attribute [local go_sem] Oper.semAt_some
theorem specGroup_root (u : Wv) (e : Gv) (w : World) (hs : SlW w u) (he : u.gs[0]? = some e) (hu : e.d.us = true) :
    Calls Tryz.prog 64 #[wvV u, .int .i64 ((0 : Nat) : Int)] w fun e' w' => e' = .returned (.bool (groupB u.now u.cs.length 0 e.d)) ∧ Below w.heap.size w w' := by
  obtain ⟨p1, l1, c1, p2, l2, c2, p3, l3, c3, e1, e2, e3, hv⟩ := wv_form hs
  rw [hv]
  obtain ⟨W1, hW1⟩ : ∃ W1, w.alloc (.cells #[.int .i64 u.now, .slice p1 l1 c1, .slice p2 l2 c2, .slice p3 l3 c3] 33) = W1 := ⟨_, rfl⟩
  obtain ⟨hA, acc0, hlt⟩ := boxed_w hs e1 e2 e3 hW1
  obtain ⟨gr, go, cap, w3, hr, hk, hl⟩ := hA.cellsG he
  rw [Nat.zero_mul, Nat.add_zero] at hr
  obtain ⟨y0, y1, y2, y3, y4, y5, y6, y7, y8, y9, y10, y11, y12, y13⟩ := gv_cells hr
  have hok := hA.2.2.2.2 e (List.mem_of_getElem? he)
  obtain ⟨o0, o1, _, o3⟩ := hA.cells
  obtain ⟨k1, m1, f1, hlc⟩ := SlR.form hs.1
  rw [e1] at f1
  simp only [Value.slice.injEq] at f1
  obtain ⟨rfl, rfl, rfl⟩ := f1
  rw [e1] at o1
  rw [e3] at o3
  rw [o3] at w3
  simp only [Option.some.injEq, Value.slice.injEq] at w3
  obtain ⟨rfl, rfl, rfl⟩ := w3
  obtain ⟨⟨us, pa, na, we, cp, pe, ne, su, ⟨qu, po, sp, lo, dr⟩, sh⟩, x, y, z⟩ := e
  dsimp only at hok hu y0 y1 y2 y3 y4 y5 y6 y7 y8 y9 y10 y11 y12 y13 ⊢
  subst hu
  obtain ⟨hb, hz⟩ := hok
  obtain ⟨q1, d1, f1, hl1⟩ := hb.1.form
  obtain ⟨q2, d2, f2, hl2⟩ := hb.2.form
  obtain ⟨q3, d3, f3, hl3⟩ := SlR.form hz
  dsimp only at f1 f2 f3 hl1 hl2 hl3 y11 y12 y13
  subst f1 f2 f3
  have HBa : Hid (SlBa W1 (.slice q1 lo.length d1) (.slice q2 dr.length d2) ⟨qu, po, sp, lo, dr⟩) := hb
  obtain ⟨n1, hn1⟩ : ∃ n, lo.length = n := ⟨_, rfl⟩
  obtain ⟨n2, hn2⟩ : ∃ n, dr.length = n := ⟨_, rfl⟩
  obtain ⟨n3, hn3⟩ : ∃ n, sh.length = n := ⟨_, rfl⟩
  obtain ⟨nc, hnc⟩ : ∃ n, u.cs.length = n := ⟨_, rfl⟩
  obtain ⟨now, hnow⟩ : ∃ n, u.now = n := ⟨_, rfl⟩
  rw [hn1] at hl1 HBa y11
  rw [hn2] at hl2 HBa y12
  rw [hn3] at hl3 y13
  rw [hnc] at o1 hW1 hlc ⊢
  rw [hnow] at o0 hW1 ⊢
  obtain ⟨W2, hW2⟩ : ∃ W2, W1.alloc (.cells #[.bool true, .int .i64 pa, .string na, .int .i64 we, .int .i64 cp, .int .i64 pe, .int .i64 ne, .int .i64 su, .int .i64 qu, .int .i64 po, .int .i64 sp, .slice q1 n1 d1, .slice q2 n2 d2, .slice q3 n3 d3] 84) = W2 := ⟨_, rfl⟩
  have B2 : Below W1.heap.size W1 W2 := by rw [← hW2]; exact (Below.refl _ _).alloc (Nat.le_refl _) _
  have gb : W2.heap[W1.heap.size]? = some (.cells #[.bool true, .int .i64 pa, .string na, .int .i64 we, .int .i64 cp, .int .i64 pe, .int .i64 ne, .int .i64 su, .int .i64 qu, .int .i64 po, .int .i64 sp, .slice q1 n1 d1, .slice q2 n2 d2, .slice q3 n3 d3] 84 (0, 0)) := by rw [← hW2]; exact World.alloc_heap_new W1 _
  have lg : W1.heap.size < W2.heap.size := by rw [← hW2]; simp
  obtain ⟨g0, g1, g2, g3, g4, g5, g6, g7, g8, g9, g10, g11, g12, g13⟩ := gbox gb
  have acc : Below w.heap.size w W2 := acc0.trans (B2.mono acc0.size)
  have HBB : Hid (SlBa W2 (.slice q1 n1 d1) (.slice q2 n2 d2) ⟨qu, po, sp, lo, dr⟩) := HBa.out.below B2
  have lw : w.heap.size < W2.heap.size := Nat.lt_of_lt_of_le hlt B2.size
  have t0 := (B2.cell (p := ⟨w.heap.size, 0, none⟩) hlt).trans o0
  have t1 := (B2.cell (p := ⟨w.heap.size, 1, none⟩) hlt).trans o1
  have HN : Hid (lo.length = n1 ∧ dr.length = n2 ∧ sh.length = n3) := ⟨hn1, hn2, hn3⟩
  clear hA hs he hr e1 e2 e3 hv hb hz B2 HBa gb hnc hnow hn1 hn2 hn3
  cases h0 : l1in we 1 20
  · have HR : Hid (groupB now nc 0 ⟨true, pa, na, we, cp, pe, ne, su, ⟨qu, po, sp, lo, dr⟩, sh⟩ = false) := by unfold Hid; simp [noBand_ne, groupB, noGroupB, quotaB, rootGB, setB, timeB, HN.out.1, HN.out.2.1, HN.out.2.2, ← Int.natCast_inj, h0]
    go_enter Tryz.func64, Tryz.ntmps64
    go_wp2_with (first | (go_at_call 99; refine (l1Weight_any _ _).mono ?_; rintro e1 w1 ⟨rfl, rfl⟩) | (go_at_call 100; refine (spec_maskOk _ _).mono ?_; rintro e1 w1 ⟨rfl, rfl⟩) | (go_at_call 101; refine (l4Time_any _ _).mono ?_; rintro e1 w1 ⟨rfl, rfl⟩) | (go_at_call 33; refine (l1In_any _ _ _ _).mono ?_; rintro e1 w1 ⟨rfl, rfl⟩) | (go_at_call 98; refine (l8NoBand_any ⟨qu, po, sp, lo, dr⟩ _ _ _ HBB.out).mono ?_; rintro e1 w1 ⟨rfl, hb1⟩; obtain ⟨t0, t1⟩ := cells_2 hb1 lw t0 t1; obtain ⟨g5, g6, g11⟩ := cells_3 hb1 lg g5 g6 g11; replace acc := acc.trans (hb1.mono acc.size); clear hb1) | (go_at_call 102; refine (spec_bandOk ⟨qu, po, sp, lo, dr⟩ _ _ _ HBB.out).mono ?_; rintro e1 w1 ⟨rfl, hb1⟩; obtain ⟨t0, t1⟩ := cells_2 hb1 lw t0 t1; obtain ⟨g5, g6, g11⟩ := cells_3 hb1 lg g5 g6 g11; replace acc := acc.trans (hb1.mono acc.size); clear hb1))
    go_ret
    refine ⟨?_, acc⟩
    first | exact ret_bool HR.out.symm | (rw [HR.out]; simp [h0]; done) | (rw [HR.out]; simp [h0]; omega)
  · cases h1 : l1in cp 0 15
    · have HR : Hid (groupB now nc 0 ⟨true, pa, na, we, cp, pe, ne, su, ⟨qu, po, sp, lo, dr⟩, sh⟩ = false) := by unfold Hid; simp [noBand_ne, groupB, noGroupB, quotaB, rootGB, setB, timeB, HN.out.1, HN.out.2.1, HN.out.2.2, ← Int.natCast_inj, h0, h1]
      go_enter Tryz.func64, Tryz.ntmps64
      go_wp2_with (first | (go_at_call 99; refine (l1Weight_any _ _).mono ?_; rintro e1 w1 ⟨rfl, rfl⟩) | (go_at_call 100; refine (spec_maskOk _ _).mono ?_; rintro e1 w1 ⟨rfl, rfl⟩) | (go_at_call 101; refine (l4Time_any _ _).mono ?_; rintro e1 w1 ⟨rfl, rfl⟩) | (go_at_call 33; refine (l1In_any _ _ _ _).mono ?_; rintro e1 w1 ⟨rfl, rfl⟩) | (go_at_call 98; refine (l8NoBand_any ⟨qu, po, sp, lo, dr⟩ _ _ _ HBB.out).mono ?_; rintro e1 w1 ⟨rfl, hb1⟩; obtain ⟨t0, t1⟩ := cells_2 hb1 lw t0 t1; obtain ⟨g5, g6, g11⟩ := cells_3 hb1 lg g5 g6 g11; replace acc := acc.trans (hb1.mono acc.size); clear hb1) | (go_at_call 102; refine (spec_bandOk ⟨qu, po, sp, lo, dr⟩ _ _ _ HBB.out).mono ?_; rintro e1 w1 ⟨rfl, hb1⟩; obtain ⟨t0, t1⟩ := cells_2 hb1 lw t0 t1; obtain ⟨g5, g6, g11⟩ := cells_3 hb1 lg g5 g6 g11; replace acc := acc.trans (hb1.mono acc.size); clear hb1))
      go_ret
      refine ⟨?_, acc⟩
      first | exact ret_bool HR.out.symm | (rw [HR.out]; simp [h0, h1]; done) | (rw [HR.out]; simp [h0, h1]; omega)
    · by_cases h2 : cp = 0
      · subst h2
        have HR : Hid (groupB now nc 0 ⟨true, pa, na, we, 0, pe, ne, su, ⟨qu, po, sp, lo, dr⟩, sh⟩ = false) := by unfold Hid; simp [noBand_ne, groupB, noGroupB, quotaB, rootGB, setB, timeB, HN.out.1, HN.out.2.1, HN.out.2.2, ← Int.natCast_inj, h0, h1]
        go_enter Tryz.func64, Tryz.ntmps64
        go_wp2_with (first | (go_at_call 99; refine (l1Weight_any _ _).mono ?_; rintro e1 w1 ⟨rfl, rfl⟩) | (go_at_call 100; refine (spec_maskOk _ _).mono ?_; rintro e1 w1 ⟨rfl, rfl⟩) | (go_at_call 101; refine (l4Time_any _ _).mono ?_; rintro e1 w1 ⟨rfl, rfl⟩) | (go_at_call 33; refine (l1In_any _ _ _ _).mono ?_; rintro e1 w1 ⟨rfl, rfl⟩) | (go_at_call 98; refine (l8NoBand_any ⟨qu, po, sp, lo, dr⟩ _ _ _ HBB.out).mono ?_; rintro e1 w1 ⟨rfl, hb1⟩; obtain ⟨t0, t1⟩ := cells_2 hb1 lw t0 t1; obtain ⟨g5, g6, g11⟩ := cells_3 hb1 lg g5 g6 g11; replace acc := acc.trans (hb1.mono acc.size); clear hb1) | (go_at_call 102; refine (spec_bandOk ⟨qu, po, sp, lo, dr⟩ _ _ _ HBB.out).mono ?_; rintro e1 w1 ⟨rfl, hb1⟩; obtain ⟨t0, t1⟩ := cells_2 hb1 lw t0 t1; obtain ⟨g5, g6, g11⟩ := cells_3 hb1 lg g5 g6 g11; replace acc := acc.trans (hb1.mono acc.size); clear hb1))
        go_ret
        refine ⟨?_, acc⟩
        first | exact ret_bool HR.out.symm | (rw [HR.out]; simp [h0, h1]; done) | (rw [HR.out]; simp [h0, h1]; omega)
      · cases h3 : l1in su 0 100000000000000000
        · have HR : Hid (groupB now nc 0 ⟨true, pa, na, we, cp, pe, ne, su, ⟨qu, po, sp, lo, dr⟩, sh⟩ = false) := by unfold Hid; simp [noBand_ne, groupB, noGroupB, quotaB, rootGB, setB, timeB, HN.out.1, HN.out.2.1, HN.out.2.2, ← Int.natCast_inj, h0, h1, h2, h3]
          go_enter Tryz.func64, Tryz.ntmps64
          go_wp2_with (first | (go_at_call 99; refine (l1Weight_any _ _).mono ?_; rintro e1 w1 ⟨rfl, rfl⟩) | (go_at_call 100; refine (spec_maskOk _ _).mono ?_; rintro e1 w1 ⟨rfl, rfl⟩) | (go_at_call 101; refine (l4Time_any _ _).mono ?_; rintro e1 w1 ⟨rfl, rfl⟩) | (go_at_call 33; refine (l1In_any _ _ _ _).mono ?_; rintro e1 w1 ⟨rfl, rfl⟩) | (go_at_call 98; refine (l8NoBand_any ⟨qu, po, sp, lo, dr⟩ _ _ _ HBB.out).mono ?_; rintro e1 w1 ⟨rfl, hb1⟩; obtain ⟨t0, t1⟩ := cells_2 hb1 lw t0 t1; obtain ⟨g5, g6, g11⟩ := cells_3 hb1 lg g5 g6 g11; replace acc := acc.trans (hb1.mono acc.size); clear hb1) | (go_at_call 102; refine (spec_bandOk ⟨qu, po, sp, lo, dr⟩ _ _ _ HBB.out).mono ?_; rintro e1 w1 ⟨rfl, hb1⟩; obtain ⟨t0, t1⟩ := cells_2 hb1 lw t0 t1; obtain ⟨g5, g6, g11⟩ := cells_3 hb1 lg g5 g6 g11; replace acc := acc.trans (hb1.mono acc.size); clear hb1))
          go_ret
          refine ⟨?_, acc⟩
          first | exact ret_bool HR.out.symm | (rw [HR.out]; simp [h0, h1, h2, h3]; done) | (rw [HR.out]; simp [h0, h1, h2, h3]; omega)
        · by_cases h4 : (n3 : Int) = nc
          · by_cases hr : we = 10
            · subst hr
              by_cases hs : cp = 15
              · subst hs
                by_cases hq : qu = 0
                · subst hq
                  cases ha : noBandB ⟨0, po, sp, lo, dr⟩
                  · have HR : Hid (groupB now nc 0 ⟨true, pa, na, 10, 15, pe, ne, su, ⟨0, po, sp, lo, dr⟩, sh⟩ = false) := by unfold Hid; simp [noBand_ne, groupB, noGroupB, quotaB, rootGB, setB, timeB, HN.out.1, HN.out.2.1, HN.out.2.2, ← Int.natCast_inj, h0, h1, h2, h3, h4, ha]
                    go_enter Tryz.func64, Tryz.ntmps64
                    go_wp2_with (first | (go_at_call 99; refine (l1Weight_any _ _).mono ?_; rintro e1 w1 ⟨rfl, rfl⟩) | (go_at_call 100; refine (spec_maskOk _ _).mono ?_; rintro e1 w1 ⟨rfl, rfl⟩) | (go_at_call 101; refine (l4Time_any _ _).mono ?_; rintro e1 w1 ⟨rfl, rfl⟩) | (go_at_call 33; refine (l1In_any _ _ _ _).mono ?_; rintro e1 w1 ⟨rfl, rfl⟩) | (go_at_call 98; refine (l8NoBand_any ⟨0, po, sp, lo, dr⟩ _ _ _ HBB.out).mono ?_; rintro e1 w1 ⟨rfl, hb1⟩; obtain ⟨t0, t1⟩ := cells_2 hb1 lw t0 t1; obtain ⟨g5, g6, g11⟩ := cells_3 hb1 lg g5 g6 g11; replace acc := acc.trans (hb1.mono acc.size); clear hb1) | (go_at_call 102; refine (spec_bandOk ⟨0, po, sp, lo, dr⟩ _ _ _ HBB.out).mono ?_; rintro e1 w1 ⟨rfl, hb1⟩; obtain ⟨t0, t1⟩ := cells_2 hb1 lw t0 t1; obtain ⟨g5, g6, g11⟩ := cells_3 hb1 lg g5 g6 g11; replace acc := acc.trans (hb1.mono acc.size); clear hb1))
                    go_ret
                    refine ⟨?_, acc⟩
                    first | exact ret_bool HR.out.symm | (rw [HR.out]; simp [h0, h1, h2, h3, h4, ha]; done) | (rw [HR.out]; simp [h0, h1, h2, h3, h4, ha]; omega)
                  · by_cases hb : pe = 0
                    · subst hb
                      by_cases hc : ne = 0
                      · subst hc
                        have HR : Hid (groupB now nc 0 ⟨true, pa, na, 10, 15, 0, 0, su, ⟨0, po, sp, lo, dr⟩, sh⟩ = true) := by unfold Hid; simp [noBand_ne, groupB, noGroupB, quotaB, rootGB, setB, timeB, HN.out.1, HN.out.2.1, HN.out.2.2, ← Int.natCast_inj, h0, h1, h2, h3, h4, ha]
                        go_enter Tryz.func64, Tryz.ntmps64
                        go_wp2_with (first | (go_at_call 99; refine (l1Weight_any _ _).mono ?_; rintro e1 w1 ⟨rfl, rfl⟩) | (go_at_call 100; refine (spec_maskOk _ _).mono ?_; rintro e1 w1 ⟨rfl, rfl⟩) | (go_at_call 101; refine (l4Time_any _ _).mono ?_; rintro e1 w1 ⟨rfl, rfl⟩) | (go_at_call 33; refine (l1In_any _ _ _ _).mono ?_; rintro e1 w1 ⟨rfl, rfl⟩) | (go_at_call 98; refine (l8NoBand_any ⟨0, po, sp, lo, dr⟩ _ _ _ HBB.out).mono ?_; rintro e1 w1 ⟨rfl, hb1⟩; obtain ⟨t0, t1⟩ := cells_2 hb1 lw t0 t1; obtain ⟨g5, g6, g11⟩ := cells_3 hb1 lg g5 g6 g11; replace acc := acc.trans (hb1.mono acc.size); clear hb1) | (go_at_call 102; refine (spec_bandOk ⟨0, po, sp, lo, dr⟩ _ _ _ HBB.out).mono ?_; rintro e1 w1 ⟨rfl, hb1⟩; obtain ⟨t0, t1⟩ := cells_2 hb1 lw t0 t1; obtain ⟨g5, g6, g11⟩ := cells_3 hb1 lg g5 g6 g11; replace acc := acc.trans (hb1.mono acc.size); clear hb1))
                        go_ret
                        refine ⟨?_, acc⟩
                        first | exact ret_bool HR.out.symm | (rw [HR.out]; simp [h0, h1, h2, h3, h4, ha]; done) | (rw [HR.out]; simp [h0, h1, h2, h3, h4, ha]; omega)
                      · have HR : Hid (groupB now nc 0 ⟨true, pa, na, 10, 15, 0, ne, su, ⟨0, po, sp, lo, dr⟩, sh⟩ = false) := by unfold Hid; simp [noBand_ne, groupB, noGroupB, quotaB, rootGB, setB, timeB, HN.out.1, HN.out.2.1, HN.out.2.2, ← Int.natCast_inj, h0, h1, h2, h3, h4, ha, hc]
                        go_enter Tryz.func64, Tryz.ntmps64
                        go_wp2_with (first | (go_at_call 99; refine (l1Weight_any _ _).mono ?_; rintro e1 w1 ⟨rfl, rfl⟩) | (go_at_call 100; refine (spec_maskOk _ _).mono ?_; rintro e1 w1 ⟨rfl, rfl⟩) | (go_at_call 101; refine (l4Time_any _ _).mono ?_; rintro e1 w1 ⟨rfl, rfl⟩) | (go_at_call 33; refine (l1In_any _ _ _ _).mono ?_; rintro e1 w1 ⟨rfl, rfl⟩) | (go_at_call 98; refine (l8NoBand_any ⟨0, po, sp, lo, dr⟩ _ _ _ HBB.out).mono ?_; rintro e1 w1 ⟨rfl, hb1⟩; obtain ⟨t0, t1⟩ := cells_2 hb1 lw t0 t1; obtain ⟨g5, g6, g11⟩ := cells_3 hb1 lg g5 g6 g11; replace acc := acc.trans (hb1.mono acc.size); clear hb1) | (go_at_call 102; refine (spec_bandOk ⟨0, po, sp, lo, dr⟩ _ _ _ HBB.out).mono ?_; rintro e1 w1 ⟨rfl, hb1⟩; obtain ⟨t0, t1⟩ := cells_2 hb1 lw t0 t1; obtain ⟨g5, g6, g11⟩ := cells_3 hb1 lg g5 g6 g11; replace acc := acc.trans (hb1.mono acc.size); clear hb1))
                        go_ret
                        refine ⟨?_, acc⟩
                        first | exact ret_bool HR.out.symm | (rw [HR.out]; simp [h0, h1, h2, h3, h4, ha, hc]; done) | (rw [HR.out]; simp [h0, h1, h2, h3, h4, ha, hc]; omega)
                    · have HR : Hid (groupB now nc 0 ⟨true, pa, na, 10, 15, pe, ne, su, ⟨0, po, sp, lo, dr⟩, sh⟩ = false) := by unfold Hid; simp [noBand_ne, groupB, noGroupB, quotaB, rootGB, setB, timeB, HN.out.1, HN.out.2.1, HN.out.2.2, ← Int.natCast_inj, h0, h1, h2, h3, h4, ha, hb]
                      go_enter Tryz.func64, Tryz.ntmps64
                      go_wp2_with (first | (go_at_call 99; refine (l1Weight_any _ _).mono ?_; rintro e1 w1 ⟨rfl, rfl⟩) | (go_at_call 100; refine (spec_maskOk _ _).mono ?_; rintro e1 w1 ⟨rfl, rfl⟩) | (go_at_call 101; refine (l4Time_any _ _).mono ?_; rintro e1 w1 ⟨rfl, rfl⟩) | (go_at_call 33; refine (l1In_any _ _ _ _).mono ?_; rintro e1 w1 ⟨rfl, rfl⟩) | (go_at_call 98; refine (l8NoBand_any ⟨0, po, sp, lo, dr⟩ _ _ _ HBB.out).mono ?_; rintro e1 w1 ⟨rfl, hb1⟩; obtain ⟨t0, t1⟩ := cells_2 hb1 lw t0 t1; obtain ⟨g5, g6, g11⟩ := cells_3 hb1 lg g5 g6 g11; replace acc := acc.trans (hb1.mono acc.size); clear hb1) | (go_at_call 102; refine (spec_bandOk ⟨0, po, sp, lo, dr⟩ _ _ _ HBB.out).mono ?_; rintro e1 w1 ⟨rfl, hb1⟩; obtain ⟨t0, t1⟩ := cells_2 hb1 lw t0 t1; obtain ⟨g5, g6, g11⟩ := cells_3 hb1 lg g5 g6 g11; replace acc := acc.trans (hb1.mono acc.size); clear hb1))
                      go_ret
                      refine ⟨?_, acc⟩
                      first | exact ret_bool HR.out.symm | (rw [HR.out]; simp [h0, h1, h2, h3, h4, ha, hb]; done) | (rw [HR.out]; simp [h0, h1, h2, h3, h4, ha, hb]; omega)
                · have HR : Hid (groupB now nc 0 ⟨true, pa, na, 10, 15, pe, ne, su, ⟨qu, po, sp, lo, dr⟩, sh⟩ = false) := by unfold Hid; simp [noBand_ne, groupB, noGroupB, quotaB, rootGB, setB, timeB, HN.out.1, HN.out.2.1, HN.out.2.2, ← Int.natCast_inj, h0, h1, h2, h3, h4, hq]
                  go_enter Tryz.func64, Tryz.ntmps64
                  go_wp2_with (first | (go_at_call 99; refine (l1Weight_any _ _).mono ?_; rintro e1 w1 ⟨rfl, rfl⟩) | (go_at_call 100; refine (spec_maskOk _ _).mono ?_; rintro e1 w1 ⟨rfl, rfl⟩) | (go_at_call 101; refine (l4Time_any _ _).mono ?_; rintro e1 w1 ⟨rfl, rfl⟩) | (go_at_call 33; refine (l1In_any _ _ _ _).mono ?_; rintro e1 w1 ⟨rfl, rfl⟩) | (go_at_call 98; refine (l8NoBand_any ⟨qu, po, sp, lo, dr⟩ _ _ _ HBB.out).mono ?_; rintro e1 w1 ⟨rfl, hb1⟩; obtain ⟨t0, t1⟩ := cells_2 hb1 lw t0 t1; obtain ⟨g5, g6, g11⟩ := cells_3 hb1 lg g5 g6 g11; replace acc := acc.trans (hb1.mono acc.size); clear hb1) | (go_at_call 102; refine (spec_bandOk ⟨qu, po, sp, lo, dr⟩ _ _ _ HBB.out).mono ?_; rintro e1 w1 ⟨rfl, hb1⟩; obtain ⟨t0, t1⟩ := cells_2 hb1 lw t0 t1; obtain ⟨g5, g6, g11⟩ := cells_3 hb1 lg g5 g6 g11; replace acc := acc.trans (hb1.mono acc.size); clear hb1))
                  go_ret
                  refine ⟨?_, acc⟩
                  first | exact ret_bool HR.out.symm | (rw [HR.out]; simp [h0, h1, h2, h3, h4, hq]; done) | (rw [HR.out]; simp [h0, h1, h2, h3, h4, hq]; omega)
              · have HR : Hid (groupB now nc 0 ⟨true, pa, na, 10, cp, pe, ne, su, ⟨qu, po, sp, lo, dr⟩, sh⟩ = false) := by unfold Hid; simp [noBand_ne, groupB, noGroupB, quotaB, rootGB, setB, timeB, HN.out.1, HN.out.2.1, HN.out.2.2, ← Int.natCast_inj, h0, h1, h2, h3, h4, hs]
                go_enter Tryz.func64, Tryz.ntmps64
                go_wp2_with (first | (go_at_call 99; refine (l1Weight_any _ _).mono ?_; rintro e1 w1 ⟨rfl, rfl⟩) | (go_at_call 100; refine (spec_maskOk _ _).mono ?_; rintro e1 w1 ⟨rfl, rfl⟩) | (go_at_call 101; refine (l4Time_any _ _).mono ?_; rintro e1 w1 ⟨rfl, rfl⟩) | (go_at_call 33; refine (l1In_any _ _ _ _).mono ?_; rintro e1 w1 ⟨rfl, rfl⟩) | (go_at_call 98; refine (l8NoBand_any ⟨qu, po, sp, lo, dr⟩ _ _ _ HBB.out).mono ?_; rintro e1 w1 ⟨rfl, hb1⟩; obtain ⟨t0, t1⟩ := cells_2 hb1 lw t0 t1; obtain ⟨g5, g6, g11⟩ := cells_3 hb1 lg g5 g6 g11; replace acc := acc.trans (hb1.mono acc.size); clear hb1) | (go_at_call 102; refine (spec_bandOk ⟨qu, po, sp, lo, dr⟩ _ _ _ HBB.out).mono ?_; rintro e1 w1 ⟨rfl, hb1⟩; obtain ⟨t0, t1⟩ := cells_2 hb1 lw t0 t1; obtain ⟨g5, g6, g11⟩ := cells_3 hb1 lg g5 g6 g11; replace acc := acc.trans (hb1.mono acc.size); clear hb1))
                go_ret
                refine ⟨?_, acc⟩
                first | exact ret_bool HR.out.symm | (rw [HR.out]; simp [h0, h1, h2, h3, h4, hs]; done) | (rw [HR.out]; simp [h0, h1, h2, h3, h4, hs]; omega)
            · have HR : Hid (groupB now nc 0 ⟨true, pa, na, we, cp, pe, ne, su, ⟨qu, po, sp, lo, dr⟩, sh⟩ = false) := by unfold Hid; simp [noBand_ne, groupB, noGroupB, quotaB, rootGB, setB, timeB, HN.out.1, HN.out.2.1, HN.out.2.2, ← Int.natCast_inj, h0, h1, h2, h3, h4, hr]
              go_enter Tryz.func64, Tryz.ntmps64
              go_wp2_with (first | (go_at_call 99; refine (l1Weight_any _ _).mono ?_; rintro e1 w1 ⟨rfl, rfl⟩) | (go_at_call 100; refine (spec_maskOk _ _).mono ?_; rintro e1 w1 ⟨rfl, rfl⟩) | (go_at_call 101; refine (l4Time_any _ _).mono ?_; rintro e1 w1 ⟨rfl, rfl⟩) | (go_at_call 33; refine (l1In_any _ _ _ _).mono ?_; rintro e1 w1 ⟨rfl, rfl⟩) | (go_at_call 98; refine (l8NoBand_any ⟨qu, po, sp, lo, dr⟩ _ _ _ HBB.out).mono ?_; rintro e1 w1 ⟨rfl, hb1⟩; obtain ⟨t0, t1⟩ := cells_2 hb1 lw t0 t1; obtain ⟨g5, g6, g11⟩ := cells_3 hb1 lg g5 g6 g11; replace acc := acc.trans (hb1.mono acc.size); clear hb1) | (go_at_call 102; refine (spec_bandOk ⟨qu, po, sp, lo, dr⟩ _ _ _ HBB.out).mono ?_; rintro e1 w1 ⟨rfl, hb1⟩; obtain ⟨t0, t1⟩ := cells_2 hb1 lw t0 t1; obtain ⟨g5, g6, g11⟩ := cells_3 hb1 lg g5 g6 g11; replace acc := acc.trans (hb1.mono acc.size); clear hb1))
              go_ret
              refine ⟨?_, acc⟩
              first | exact ret_bool HR.out.symm | (rw [HR.out]; simp [h0, h1, h2, h3, h4, hr]; done) | (rw [HR.out]; simp [h0, h1, h2, h3, h4, hr]; omega)
          · have HR : Hid (groupB now nc 0 ⟨true, pa, na, we, cp, pe, ne, su, ⟨qu, po, sp, lo, dr⟩, sh⟩ = false) := by unfold Hid; simp [noBand_ne, groupB, noGroupB, quotaB, rootGB, setB, timeB, HN.out.1, HN.out.2.1, HN.out.2.2, ← Int.natCast_inj, h0, h1, h2, h3, h4]
            have h4q : ((n3 : Int) == nc) = false := by simpa using h4
            have h4p : ((n3 : Int) != nc) = true := by simpa using h4
            go_enter Tryz.func64, Tryz.ntmps64
            go_wp2_with (first | (go_at_call 99; refine (l1Weight_any _ _).mono ?_; rintro e1 w1 ⟨rfl, rfl⟩) | (go_at_call 100; refine (spec_maskOk _ _).mono ?_; rintro e1 w1 ⟨rfl, rfl⟩) | (go_at_call 101; refine (l4Time_any _ _).mono ?_; rintro e1 w1 ⟨rfl, rfl⟩) | (go_at_call 33; refine (l1In_any _ _ _ _).mono ?_; rintro e1 w1 ⟨rfl, rfl⟩) | (go_at_call 98; refine (l8NoBand_any ⟨qu, po, sp, lo, dr⟩ _ _ _ HBB.out).mono ?_; rintro e1 w1 ⟨rfl, hb1⟩; obtain ⟨t0, t1⟩ := cells_2 hb1 lw t0 t1; obtain ⟨g5, g6, g11⟩ := cells_3 hb1 lg g5 g6 g11; replace acc := acc.trans (hb1.mono acc.size); clear hb1) | (go_at_call 102; refine (spec_bandOk ⟨qu, po, sp, lo, dr⟩ _ _ _ HBB.out).mono ?_; rintro e1 w1 ⟨rfl, hb1⟩; obtain ⟨t0, t1⟩ := cells_2 hb1 lw t0 t1; obtain ⟨g5, g6, g11⟩ := cells_3 hb1 lg g5 g6 g11; replace acc := acc.trans (hb1.mono acc.size); clear hb1))
            go_ret
            refine ⟨?_, acc⟩
            first | exact ret_bool HR.out.symm | (rw [HR.out]; simp [h0, h1, h2, h3, h4]; done) | (rw [HR.out]; simp [h0, h1, h2, h3, h4]; omega)
theorem l8GroupOk_any (k : Nat) (u : Wv) (e : Gv) (w : World) (hs : SlW w u) (he : u.gs[k]? = some e) :
    Calls Tryz.prog 64 #[wvV u, .int .i64 (k : Int)] w fun e' w' => e' = .returned (.bool (groupB u.now u.cs.length k e.d)) ∧ Below w.heap.size w w' := by
  cases hu : e.d.us
  · exact specGroup_no k u e w hs he hu
  · by_cases h0 : k = 0
    · subst h0; exact specGroup_root u e w hs he hu
    · by_cases hq : e.d.ba.qu = 0
      · exact specGroup_free k u e w hs he hu h0 hq
      · exact specGroup_quota k u e w hs he hu h0 hq
theorem wof_zero {n : Int} (h : l1in n (-10) 9 = false) : wof n = 0 := by
  unfold wof
  rw [if_neg]
  intro hc
  rw [l1in_iff.2 hc] at h; cases h
theorem wof_pos {n : Int} (h : l1in n (-10) 9 = true) : (wof n == 0) = false := by
  obtain ⟨h1, h2⟩ := l1in_iff.1 h
  unfold wof
  rw [if_pos ⟨h1, h2⟩]
  simp; omega
theorem inBd_l1in (n : Int) : inBd 0 n = l1in n 0 8000000 := rfl
theorem specTask_none (k : Nat) (u : Wv) (t : Tk) (w : World) (hs : SlW w u) (hF : Fit u) (hC : CpIn (gsD u.gs)) (ht : u.ts[k]? = some t) (hst : t.st = 0) :
    Calls Tryz.prog 65 #[wvV u, .int .i64 (k : Int)] w fun e' w' => e' = .returned (.bool (taskOkB u t)) ∧ Below w.heap.size w w' := by
  obtain ⟨p1, l1, c1, p2, l2, c2, p3, l3, c3, e1, e2, e3, hv⟩ := wv_form hs
  have HV : Hid (wvV u = .agg #[.int .i64 u.now, .slice p1 l1 c1, .slice p2 l2 c2, .slice p3 l3 c3]) := hv
  rw [hv]
  obtain ⟨W1, hW1⟩ : ∃ W1, w.alloc (.cells #[.int .i64 u.now, .slice p1 l1 c1, .slice p2 l2 c2, .slice p3 l3 c3] 33) = W1 := ⟨_, rfl⟩
  obtain ⟨hA, acc0, hlt⟩ := boxed_w hs e1 e2 e3 hW1
  obtain ⟨tg, to, cap, m2, hr, hkl, hlen⟩ := hA.cellsT ht
  obtain ⟨x0, x1, x2, x3, x4, x5, x6, x7, x8⟩ := tk_cells hr
  obtain ⟨o0, o1, o2, o3⟩ := hA.cells
  rw [e1] at o1
  rw [e2] at o2
  rw [o2] at m2
  simp only [Option.some.injEq, Value.slice.injEq] at m2
  obtain ⟨rfl, rfl, rfl⟩ := m2
  rw [e3] at o3
  have HS : Hid (SlW w u) := hs
  have HZ : Hid (SlG W1 (.slice p3 l3 c3) u.gs) := by have := hA.2.2.2; rw [e3] at this; exact this
  obtain ⟨st, gr, cpu, ni, ma, v, su, us, lo⟩ := t
  dsimp only at hst
  subst hst
  dsimp only at x0 x1 x2 x3 x4 x5 x6 x7 x8 ⊢
  obtain ⟨W2, hW2⟩ : ∃ W2, W1.alloc (.cells #[.int .i64 0, .int .i64 gr, .int .i64 cpu, .int .i64 ni, .int .i64 ma, .int .i64 v, .int .i64 su, .int .i64 us, .int .i64 lo] 68) = W2 := ⟨_, rfl⟩
  obtain ⟨B2, lg, hrg⟩ := boxed_task hW2
  have n0 : W2.cell? ⟨W1.heap.size, 0, none⟩ = some (.int .i64 0) := hrg 0 _ rfl
  have n1 : W2.cell? ⟨W1.heap.size, 1, none⟩ = some (.int .i64 gr) := hrg 1 _ rfl
  have n2 : W2.cell? ⟨W1.heap.size, 2, none⟩ = some (.int .i64 cpu) := hrg 2 _ rfl
  have n3 : W2.cell? ⟨W1.heap.size, 3, none⟩ = some (.int .i64 ni) := hrg 3 _ rfl
  have n4 : W2.cell? ⟨W1.heap.size, 4, none⟩ = some (.int .i64 ma) := hrg 4 _ rfl
  have n5 : W2.cell? ⟨W1.heap.size, 5, none⟩ = some (.int .i64 v) := hrg 5 _ rfl
  have n6 : W2.cell? ⟨W1.heap.size, 6, none⟩ = some (.int .i64 su) := hrg 6 _ rfl
  have n7 : W2.cell? ⟨W1.heap.size, 7, none⟩ = some (.int .i64 us) := hrg 7 _ rfl
  have n8 : W2.cell? ⟨W1.heap.size, 8, none⟩ = some (.int .i64 lo) := hrg 8 _ rfl
  have t0 := (B2.cell (p := ⟨w.heap.size, 0, none⟩) hlt).trans o0
  have t1 := (B2.cell (p := ⟨w.heap.size, 1, none⟩) hlt).trans o1
  have t2 := (B2.cell (p := ⟨w.heap.size, 2, none⟩) hlt).trans o2
  have t3 := (B2.cell (p := ⟨w.heap.size, 3, none⟩) hlt).trans o3
  have acc : Below w.heap.size w W2 := acc0.trans (B2.mono acc0.size)
  have HZ2 : Hid (SlG W2 (.slice p3 l3 c3) u.gs) := HZ.out.below B2
  clear hA hs hr e1 e2 e3 hv hrg
  clear hF hC ht
  by_cases h0 : gr = 0
  · subst h0
    by_cases h1 : cpu = 0
    · subst h1
      by_cases h2 : ni = 0
      · subst h2
        by_cases h3 : ma = 0
        · subst h3
          by_cases h4 : v = 0
          · subst h4
            by_cases h5 : su = 0
            · subst h5
              by_cases h6 : us = 0
              · subst h6
                by_cases h7 : lo = 0
                · subst h7
                  have HR : Hid (taskOkB u ⟨0, 0, 0, 0, 0, 0, 0, 0, 0⟩ = true) := by unfold Hid; simp [taskOkB, zeroTB]
                  subst hW2
                  clear n0 n1 n2 n3 n4 n5 n6 n7 n8 t0 t1 t2 t3 lg B2 HZ2
                  go_enter Tryz.func65, Tryz.ntmps65
                  go_wp2
                  go_ret
                  refine ⟨?_, acc⟩
                  first | exact ret_bool HR.out.symm | (rw [HR.out]; simp []; done)
                · have HR : Hid (taskOkB u ⟨0, 0, 0, 0, 0, 0, 0, 0, lo⟩ = false) := by unfold Hid; simp [taskOkB, zeroTB, h7]
                  subst hW2
                  clear n0 n1 n2 n3 n4 n5 n6 n7 n8 t0 t1 t2 t3 lg B2 HZ2
                  go_enter Tryz.func65, Tryz.ntmps65
                  go_wp2
                  go_ret
                  refine ⟨?_, acc⟩
                  first | exact ret_bool HR.out.symm | (rw [HR.out]; simp [h7]; done)
              · have HR : Hid (taskOkB u ⟨0, 0, 0, 0, 0, 0, 0, us, lo⟩ = false) := by unfold Hid; simp [taskOkB, zeroTB, h6]
                subst hW2
                clear n0 n1 n2 n3 n4 n5 n6 n7 n8 t0 t1 t2 t3 lg B2 HZ2
                go_enter Tryz.func65, Tryz.ntmps65
                go_wp2
                go_ret
                refine ⟨?_, acc⟩
                first | exact ret_bool HR.out.symm | (rw [HR.out]; simp [h6]; done)
            · have HR : Hid (taskOkB u ⟨0, 0, 0, 0, 0, 0, su, us, lo⟩ = false) := by unfold Hid; simp [taskOkB, zeroTB, h5]
              subst hW2
              clear n0 n1 n2 n3 n4 n5 n6 n7 n8 t0 t1 t2 t3 lg B2 HZ2
              go_enter Tryz.func65, Tryz.ntmps65
              go_wp2
              go_ret
              refine ⟨?_, acc⟩
              first | exact ret_bool HR.out.symm | (rw [HR.out]; simp [h5]; done)
          · have HR : Hid (taskOkB u ⟨0, 0, 0, 0, 0, v, su, us, lo⟩ = false) := by unfold Hid; simp [taskOkB, zeroTB, h4]
            subst hW2
            clear n0 n1 n2 n3 n4 n5 n6 n7 n8 t0 t1 t2 t3 lg B2 HZ2
            go_enter Tryz.func65, Tryz.ntmps65
            go_wp2
            go_ret
            refine ⟨?_, acc⟩
            first | exact ret_bool HR.out.symm | (rw [HR.out]; simp [h4]; done)
        · have HR : Hid (taskOkB u ⟨0, 0, 0, 0, ma, v, su, us, lo⟩ = false) := by unfold Hid; simp [taskOkB, zeroTB, h3]
          subst hW2
          clear n0 n1 n2 n3 n4 n5 n6 n7 n8 t0 t1 t2 t3 lg B2 HZ2
          go_enter Tryz.func65, Tryz.ntmps65
          go_wp2
          go_ret
          refine ⟨?_, acc⟩
          first | exact ret_bool HR.out.symm | (rw [HR.out]; simp [h3]; done)
      · have HR : Hid (taskOkB u ⟨0, 0, 0, ni, ma, v, su, us, lo⟩ = false) := by unfold Hid; simp [taskOkB, zeroTB, h2]
        subst hW2
        clear n0 n1 n2 n3 n4 n5 n6 n7 n8 t0 t1 t2 t3 lg B2 HZ2
        go_enter Tryz.func65, Tryz.ntmps65
        go_wp2
        go_ret
        refine ⟨?_, acc⟩
        first | exact ret_bool HR.out.symm | (rw [HR.out]; simp [h2]; done)
    · have HR : Hid (taskOkB u ⟨0, 0, cpu, ni, ma, v, su, us, lo⟩ = false) := by unfold Hid; simp [taskOkB, zeroTB, h1]
      subst hW2
      clear n0 n1 n2 n3 n4 n5 n6 n7 n8 t0 t1 t2 t3 lg B2 HZ2
      go_enter Tryz.func65, Tryz.ntmps65
      go_wp2
      go_ret
      refine ⟨?_, acc⟩
      first | exact ret_bool HR.out.symm | (rw [HR.out]; simp [h1]; done)
  · have HR : Hid (taskOkB u ⟨0, gr, cpu, ni, ma, v, su, us, lo⟩ = false) := by unfold Hid; simp [taskOkB, zeroTB, h0]
    subst hW2
    clear n0 n1 n2 n3 n4 n5 n6 n7 n8 t0 t1 t2 t3 lg B2 HZ2
    go_enter Tryz.func65, Tryz.ntmps65
    go_wp2
    go_ret
    refine ⟨?_, acc⟩
    first | exact ret_bool HR.out.symm | (rw [HR.out]; simp [h0]; done)
theorem specTask_odd (k : Nat) (u : Wv) (t : Tk) (w : World) (hs : SlW w u) (hF : Fit u) (hC : CpIn (gsD u.gs)) (ht : u.ts[k]? = some t) (hst : t.st ≠ 0 ∧ t.st ≠ 1 ∧ t.st ≠ 2) :
    Calls Tryz.prog 65 #[wvV u, .int .i64 (k : Int)] w fun e' w' => e' = .returned (.bool (taskOkB u t)) ∧ Below w.heap.size w w' := by
  obtain ⟨p1, l1, c1, p2, l2, c2, p3, l3, c3, e1, e2, e3, hv⟩ := wv_form hs
  have HV : Hid (wvV u = .agg #[.int .i64 u.now, .slice p1 l1 c1, .slice p2 l2 c2, .slice p3 l3 c3]) := hv
  rw [hv]
  obtain ⟨W1, hW1⟩ : ∃ W1, w.alloc (.cells #[.int .i64 u.now, .slice p1 l1 c1, .slice p2 l2 c2, .slice p3 l3 c3] 33) = W1 := ⟨_, rfl⟩
  obtain ⟨hA, acc0, hlt⟩ := boxed_w hs e1 e2 e3 hW1
  obtain ⟨tg, to, cap, m2, hr, hkl, hlen⟩ := hA.cellsT ht
  obtain ⟨x0, x1, x2, x3, x4, x5, x6, x7, x8⟩ := tk_cells hr
  obtain ⟨o0, o1, o2, o3⟩ := hA.cells
  rw [e1] at o1
  rw [e2] at o2
  rw [o2] at m2
  simp only [Option.some.injEq, Value.slice.injEq] at m2
  obtain ⟨rfl, rfl, rfl⟩ := m2
  rw [e3] at o3
  have HS : Hid (SlW w u) := hs
  have HZ : Hid (SlG W1 (.slice p3 l3 c3) u.gs) := by have := hA.2.2.2; rw [e3] at this; exact this
  obtain ⟨st, gr, cpu, ni, ma, v, su, us, lo⟩ := t
  obtain ⟨s0, s1, s2⟩ := hst
  dsimp only at s0 s1 s2
  dsimp only at x0 x1 x2 x3 x4 x5 x6 x7 x8 ⊢
  obtain ⟨W2, hW2⟩ : ∃ W2, W1.alloc (.cells #[.int .i64 st, .int .i64 gr, .int .i64 cpu, .int .i64 ni, .int .i64 ma, .int .i64 v, .int .i64 su, .int .i64 us, .int .i64 lo] 68) = W2 := ⟨_, rfl⟩
  obtain ⟨B2, lg, hrg⟩ := boxed_task hW2
  have n0 : W2.cell? ⟨W1.heap.size, 0, none⟩ = some (.int .i64 st) := hrg 0 _ rfl
  have n1 : W2.cell? ⟨W1.heap.size, 1, none⟩ = some (.int .i64 gr) := hrg 1 _ rfl
  have n2 : W2.cell? ⟨W1.heap.size, 2, none⟩ = some (.int .i64 cpu) := hrg 2 _ rfl
  have n3 : W2.cell? ⟨W1.heap.size, 3, none⟩ = some (.int .i64 ni) := hrg 3 _ rfl
  have n4 : W2.cell? ⟨W1.heap.size, 4, none⟩ = some (.int .i64 ma) := hrg 4 _ rfl
  have n5 : W2.cell? ⟨W1.heap.size, 5, none⟩ = some (.int .i64 v) := hrg 5 _ rfl
  have n6 : W2.cell? ⟨W1.heap.size, 6, none⟩ = some (.int .i64 su) := hrg 6 _ rfl
  have n7 : W2.cell? ⟨W1.heap.size, 7, none⟩ = some (.int .i64 us) := hrg 7 _ rfl
  have n8 : W2.cell? ⟨W1.heap.size, 8, none⟩ = some (.int .i64 lo) := hrg 8 _ rfl
  have t0 := (B2.cell (p := ⟨w.heap.size, 0, none⟩) hlt).trans o0
  have t1 := (B2.cell (p := ⟨w.heap.size, 1, none⟩) hlt).trans o1
  have t2 := (B2.cell (p := ⟨w.heap.size, 2, none⟩) hlt).trans o2
  have t3 := (B2.cell (p := ⟨w.heap.size, 3, none⟩) hlt).trans o3
  have acc : Below w.heap.size w W2 := acc0.trans (B2.mono acc0.size)
  have HZ2 : Hid (SlG W2 (.slice p3 l3 c3) u.gs) := HZ.out.below B2
  clear hA hs hr e1 e2 e3 hv hrg
  have HR : Hid (taskOkB u ⟨st, gr, cpu, ni, ma, v, su, us, lo⟩ = false) := by unfold Hid taskOkB; simp [s0, s1, s2]
  clear hF hC ht
  go_enter Tryz.func65, Tryz.ntmps65
  go_wp2
  go_ret
  exact ⟨by rw [HR.out]; rfl, acc⟩
theorem specTask1_nogroup (k : Nat) (u : Wv) (t : Tk) (w : World) (hs : SlW w u) (hF : Fit u) (hC : CpIn (gsD u.gs)) (ht : u.ts[k]? = some t) (hst : t.st = 1) (hu : usedB (gsD u.gs) t.gr = false) :
    Calls Tryz.prog 65 #[wvV u, .int .i64 (k : Int)] w fun e' w' => e' = .returned (.bool (taskOkB u t)) ∧ Below w.heap.size w w' := by
  obtain ⟨p1, l1, c1, p2, l2, c2, p3, l3, c3, e1, e2, e3, hv⟩ := wv_form hs
  have HV : Hid (wvV u = .agg #[.int .i64 u.now, .slice p1 l1 c1, .slice p2 l2 c2, .slice p3 l3 c3]) := hv
  rw [hv]
  obtain ⟨W1, hW1⟩ : ∃ W1, w.alloc (.cells #[.int .i64 u.now, .slice p1 l1 c1, .slice p2 l2 c2, .slice p3 l3 c3] 33) = W1 := ⟨_, rfl⟩
  obtain ⟨hA, acc0, hlt⟩ := boxed_w hs e1 e2 e3 hW1
  obtain ⟨tg, to, cap, m2, hr, hkl, hlen⟩ := hA.cellsT ht
  obtain ⟨x0, x1, x2, x3, x4, x5, x6, x7, x8⟩ := tk_cells hr
  obtain ⟨o0, o1, o2, o3⟩ := hA.cells
  rw [e1] at o1
  rw [e2] at o2
  rw [o2] at m2
  simp only [Option.some.injEq, Value.slice.injEq] at m2
  obtain ⟨rfl, rfl, rfl⟩ := m2
  rw [e3] at o3
  have HS : Hid (SlW w u) := hs
  have HZ : Hid (SlG W1 (.slice p3 l3 c3) u.gs) := by have := hA.2.2.2; rw [e3] at this; exact this
  obtain ⟨st, gr, cpu, ni, ma, v, su, us, lo⟩ := t
  dsimp only at hst
  subst hst
  dsimp only at hu
  dsimp only at x0 x1 x2 x3 x4 x5 x6 x7 x8 ⊢
  obtain ⟨W2, hW2⟩ : ∃ W2, W1.alloc (.cells #[.int .i64 1, .int .i64 gr, .int .i64 cpu, .int .i64 ni, .int .i64 ma, .int .i64 v, .int .i64 su, .int .i64 us, .int .i64 lo] 68) = W2 := ⟨_, rfl⟩
  obtain ⟨B2, lg, hrg⟩ := boxed_task hW2
  have n0 : W2.cell? ⟨W1.heap.size, 0, none⟩ = some (.int .i64 1) := hrg 0 _ rfl
  have n1 : W2.cell? ⟨W1.heap.size, 1, none⟩ = some (.int .i64 gr) := hrg 1 _ rfl
  have n2 : W2.cell? ⟨W1.heap.size, 2, none⟩ = some (.int .i64 cpu) := hrg 2 _ rfl
  have n3 : W2.cell? ⟨W1.heap.size, 3, none⟩ = some (.int .i64 ni) := hrg 3 _ rfl
  have n4 : W2.cell? ⟨W1.heap.size, 4, none⟩ = some (.int .i64 ma) := hrg 4 _ rfl
  have n5 : W2.cell? ⟨W1.heap.size, 5, none⟩ = some (.int .i64 v) := hrg 5 _ rfl
  have n6 : W2.cell? ⟨W1.heap.size, 6, none⟩ = some (.int .i64 su) := hrg 6 _ rfl
  have n7 : W2.cell? ⟨W1.heap.size, 7, none⟩ = some (.int .i64 us) := hrg 7 _ rfl
  have n8 : W2.cell? ⟨W1.heap.size, 8, none⟩ = some (.int .i64 lo) := hrg 8 _ rfl
  have t0 := (B2.cell (p := ⟨w.heap.size, 0, none⟩) hlt).trans o0
  have t1 := (B2.cell (p := ⟨w.heap.size, 1, none⟩) hlt).trans o1
  have t2 := (B2.cell (p := ⟨w.heap.size, 2, none⟩) hlt).trans o2
  have t3 := (B2.cell (p := ⟨w.heap.size, 3, none⟩) hlt).trans o3
  have acc : Below w.heap.size w W2 := acc0.trans (B2.mono acc0.size)
  have HZ2 : Hid (SlG W2 (.slice p3 l3 c3) u.gs) := HZ.out.below B2
  clear hA hs hr e1 e2 e3 hv hrg
  have HR : Hid (taskOkB u ⟨1, gr, cpu, ni, ma, v, su, us, lo⟩ = false) := by unfold Hid taskOkB; simp [hu]
  have HU : Hid (usedB (gsD u.gs) gr = false) := hu
  clear hF hC ht hu
  go_enter Tryz.func65, Tryz.ntmps65
  go_wp2_with (first | (go_at_call 55; refine (spec_used _ u.gs _ _ HZ2.out).mono ?_; rintro e1 w1 ⟨rfl, hw1⟩; subst w1; rw [HU.out]) | (go_at_call 72; refine (spec_wof _ _).mono ?_; rintro e1 w1 ⟨rfl, hw1⟩; subst w1) | (go_at_call 100; refine (spec_maskOk _ _).mono ?_; rintro e1 w1 ⟨rfl, hw1⟩; subst w1))
  go_ret
  exact ⟨by rw [HR.out]; rfl, acc⟩
theorem specTask1_nonice (k : Nat) (u : Wv) (t : Tk) (w : World) (hs : SlW w u) (hF : Fit u) (hC : CpIn (gsD u.gs)) (ht : u.ts[k]? = some t) (hst : t.st = 1) (hu : usedB (gsD u.gs) t.gr = true) (hn : l1in t.ni (-10) 9 = false) :
    Calls Tryz.prog 65 #[wvV u, .int .i64 (k : Int)] w fun e' w' => e' = .returned (.bool (taskOkB u t)) ∧ Below w.heap.size w w' := by
  obtain ⟨p1, l1, c1, p2, l2, c2, p3, l3, c3, e1, e2, e3, hv⟩ := wv_form hs
  have HV : Hid (wvV u = .agg #[.int .i64 u.now, .slice p1 l1 c1, .slice p2 l2 c2, .slice p3 l3 c3]) := hv
  rw [hv]
  obtain ⟨W1, hW1⟩ : ∃ W1, w.alloc (.cells #[.int .i64 u.now, .slice p1 l1 c1, .slice p2 l2 c2, .slice p3 l3 c3] 33) = W1 := ⟨_, rfl⟩
  obtain ⟨hA, acc0, hlt⟩ := boxed_w hs e1 e2 e3 hW1
  obtain ⟨tg, to, cap, m2, hr, hkl, hlen⟩ := hA.cellsT ht
  obtain ⟨x0, x1, x2, x3, x4, x5, x6, x7, x8⟩ := tk_cells hr
  obtain ⟨o0, o1, o2, o3⟩ := hA.cells
  rw [e1] at o1
  rw [e2] at o2
  rw [o2] at m2
  simp only [Option.some.injEq, Value.slice.injEq] at m2
  obtain ⟨rfl, rfl, rfl⟩ := m2
  rw [e3] at o3
  have HS : Hid (SlW w u) := hs
  have HZ : Hid (SlG W1 (.slice p3 l3 c3) u.gs) := by have := hA.2.2.2; rw [e3] at this; exact this
  obtain ⟨st, gr, cpu, ni, ma, v, su, us, lo⟩ := t
  dsimp only at hst
  subst hst
  dsimp only at hu hn
  dsimp only at x0 x1 x2 x3 x4 x5 x6 x7 x8 ⊢
  obtain ⟨W2, hW2⟩ : ∃ W2, W1.alloc (.cells #[.int .i64 1, .int .i64 gr, .int .i64 cpu, .int .i64 ni, .int .i64 ma, .int .i64 v, .int .i64 su, .int .i64 us, .int .i64 lo] 68) = W2 := ⟨_, rfl⟩
  obtain ⟨B2, lg, hrg⟩ := boxed_task hW2
  have n0 : W2.cell? ⟨W1.heap.size, 0, none⟩ = some (.int .i64 1) := hrg 0 _ rfl
  have n1 : W2.cell? ⟨W1.heap.size, 1, none⟩ = some (.int .i64 gr) := hrg 1 _ rfl
  have n2 : W2.cell? ⟨W1.heap.size, 2, none⟩ = some (.int .i64 cpu) := hrg 2 _ rfl
  have n3 : W2.cell? ⟨W1.heap.size, 3, none⟩ = some (.int .i64 ni) := hrg 3 _ rfl
  have n4 : W2.cell? ⟨W1.heap.size, 4, none⟩ = some (.int .i64 ma) := hrg 4 _ rfl
  have n5 : W2.cell? ⟨W1.heap.size, 5, none⟩ = some (.int .i64 v) := hrg 5 _ rfl
  have n6 : W2.cell? ⟨W1.heap.size, 6, none⟩ = some (.int .i64 su) := hrg 6 _ rfl
  have n7 : W2.cell? ⟨W1.heap.size, 7, none⟩ = some (.int .i64 us) := hrg 7 _ rfl
  have n8 : W2.cell? ⟨W1.heap.size, 8, none⟩ = some (.int .i64 lo) := hrg 8 _ rfl
  have t0 := (B2.cell (p := ⟨w.heap.size, 0, none⟩) hlt).trans o0
  have t1 := (B2.cell (p := ⟨w.heap.size, 1, none⟩) hlt).trans o1
  have t2 := (B2.cell (p := ⟨w.heap.size, 2, none⟩) hlt).trans o2
  have t3 := (B2.cell (p := ⟨w.heap.size, 3, none⟩) hlt).trans o3
  have acc : Below w.heap.size w W2 := acc0.trans (B2.mono acc0.size)
  have HZ2 : Hid (SlG W2 (.slice p3 l3 c3) u.gs) := HZ.out.below B2
  clear hA hs hr e1 e2 e3 hv hrg
  have HR : Hid (taskOkB u ⟨1, gr, cpu, ni, ma, v, su, us, lo⟩ = false) := by unfold Hid taskOkB; simp [hu, hn, numB]
  have HU : Hid (usedB (gsD u.gs) gr = true) := hu
  have hwz := wof_zero hn
  clear hF hC ht hu
  go_enter Tryz.func65, Tryz.ntmps65
  go_wp2_with (first | (go_at_call 55; refine (spec_used _ u.gs _ _ HZ2.out).mono ?_; rintro e1 w1 ⟨rfl, hw1⟩; subst w1; rw [HU.out]) | (go_at_call 72; refine (spec_wof _ _).mono ?_; rintro e1 w1 ⟨rfl, hw1⟩; subst w1) | (go_at_call 100; refine (spec_maskOk _ _).mono ?_; rintro e1 w1 ⟨rfl, hw1⟩; subst w1))
  go_ret
  exact ⟨by rw [HR.out]; rfl, acc⟩
theorem specTask1_nomask (k : Nat) (u : Wv) (t : Tk) (w : World) (hs : SlW w u) (hF : Fit u) (hC : CpIn (gsD u.gs)) (ht : u.ts[k]? = some t) (hst : t.st = 1) (hu : usedB (gsD u.gs) t.gr = true) (hn : l1in t.ni (-10) 9 = true) (hm : l1in t.ma 0 15 = false) :
    Calls Tryz.prog 65 #[wvV u, .int .i64 (k : Int)] w fun e' w' => e' = .returned (.bool (taskOkB u t)) ∧ Below w.heap.size w w' := by
  obtain ⟨p1, l1, c1, p2, l2, c2, p3, l3, c3, e1, e2, e3, hv⟩ := wv_form hs
  have HV : Hid (wvV u = .agg #[.int .i64 u.now, .slice p1 l1 c1, .slice p2 l2 c2, .slice p3 l3 c3]) := hv
  rw [hv]
  obtain ⟨W1, hW1⟩ : ∃ W1, w.alloc (.cells #[.int .i64 u.now, .slice p1 l1 c1, .slice p2 l2 c2, .slice p3 l3 c3] 33) = W1 := ⟨_, rfl⟩
  obtain ⟨hA, acc0, hlt⟩ := boxed_w hs e1 e2 e3 hW1
  obtain ⟨tg, to, cap, m2, hr, hkl, hlen⟩ := hA.cellsT ht
  obtain ⟨x0, x1, x2, x3, x4, x5, x6, x7, x8⟩ := tk_cells hr
  obtain ⟨o0, o1, o2, o3⟩ := hA.cells
  rw [e1] at o1
  rw [e2] at o2
  rw [o2] at m2
  simp only [Option.some.injEq, Value.slice.injEq] at m2
  obtain ⟨rfl, rfl, rfl⟩ := m2
  rw [e3] at o3
  have HS : Hid (SlW w u) := hs
  have HZ : Hid (SlG W1 (.slice p3 l3 c3) u.gs) := by have := hA.2.2.2; rw [e3] at this; exact this
  obtain ⟨st, gr, cpu, ni, ma, v, su, us, lo⟩ := t
  dsimp only at hst
  subst hst
  dsimp only at hu hn hm
  dsimp only at x0 x1 x2 x3 x4 x5 x6 x7 x8 ⊢
  obtain ⟨W2, hW2⟩ : ∃ W2, W1.alloc (.cells #[.int .i64 1, .int .i64 gr, .int .i64 cpu, .int .i64 ni, .int .i64 ma, .int .i64 v, .int .i64 su, .int .i64 us, .int .i64 lo] 68) = W2 := ⟨_, rfl⟩
  obtain ⟨B2, lg, hrg⟩ := boxed_task hW2
  have n0 : W2.cell? ⟨W1.heap.size, 0, none⟩ = some (.int .i64 1) := hrg 0 _ rfl
  have n1 : W2.cell? ⟨W1.heap.size, 1, none⟩ = some (.int .i64 gr) := hrg 1 _ rfl
  have n2 : W2.cell? ⟨W1.heap.size, 2, none⟩ = some (.int .i64 cpu) := hrg 2 _ rfl
  have n3 : W2.cell? ⟨W1.heap.size, 3, none⟩ = some (.int .i64 ni) := hrg 3 _ rfl
  have n4 : W2.cell? ⟨W1.heap.size, 4, none⟩ = some (.int .i64 ma) := hrg 4 _ rfl
  have n5 : W2.cell? ⟨W1.heap.size, 5, none⟩ = some (.int .i64 v) := hrg 5 _ rfl
  have n6 : W2.cell? ⟨W1.heap.size, 6, none⟩ = some (.int .i64 su) := hrg 6 _ rfl
  have n7 : W2.cell? ⟨W1.heap.size, 7, none⟩ = some (.int .i64 us) := hrg 7 _ rfl
  have n8 : W2.cell? ⟨W1.heap.size, 8, none⟩ = some (.int .i64 lo) := hrg 8 _ rfl
  have t0 := (B2.cell (p := ⟨w.heap.size, 0, none⟩) hlt).trans o0
  have t1 := (B2.cell (p := ⟨w.heap.size, 1, none⟩) hlt).trans o1
  have t2 := (B2.cell (p := ⟨w.heap.size, 2, none⟩) hlt).trans o2
  have t3 := (B2.cell (p := ⟨w.heap.size, 3, none⟩) hlt).trans o3
  have acc : Below w.heap.size w W2 := acc0.trans (B2.mono acc0.size)
  have HZ2 : Hid (SlG W2 (.slice p3 l3 c3) u.gs) := HZ.out.below B2
  clear hA hs hr e1 e2 e3 hv hrg
  have HR : Hid (taskOkB u ⟨1, gr, cpu, ni, ma, v, su, us, lo⟩ = false) := by unfold Hid taskOkB; simp [hu, hn, hm, numB, setB]
  have HU : Hid (usedB (gsD u.gs) gr = true) := hu
  have hwz := wof_pos hn
  clear hF hC ht hu
  go_enter Tryz.func65, Tryz.ntmps65
  go_wp2_with (first | (go_at_call 55; refine (spec_used _ u.gs _ _ HZ2.out).mono ?_; rintro e1 w1 ⟨rfl, hw1⟩; subst w1; rw [HU.out]) | (go_at_call 72; refine (spec_wof _ _).mono ?_; rintro e1 w1 ⟨rfl, hw1⟩; subst w1) | (go_at_call 100; refine (spec_maskOk _ _).mono ?_; rintro e1 w1 ⟨rfl, hw1⟩; subst w1))
  go_ret
  exact ⟨by rw [HR.out]; rfl, acc⟩
theorem specTask1_nullmask (k : Nat) (u : Wv) (t : Tk) (w : World) (hs : SlW w u) (hF : Fit u) (hC : CpIn (gsD u.gs)) (ht : u.ts[k]? = some t) (hst : t.st = 1) (hu : usedB (gsD u.gs) t.gr = true) (hn : l1in t.ni (-10) 9 = true) (hm : t.ma = 0) :
    Calls Tryz.prog 65 #[wvV u, .int .i64 (k : Int)] w fun e' w' => e' = .returned (.bool (taskOkB u t)) ∧ Below w.heap.size w w' := by
  obtain ⟨p1, l1, c1, p2, l2, c2, p3, l3, c3, e1, e2, e3, hv⟩ := wv_form hs
  have HV : Hid (wvV u = .agg #[.int .i64 u.now, .slice p1 l1 c1, .slice p2 l2 c2, .slice p3 l3 c3]) := hv
  rw [hv]
  obtain ⟨W1, hW1⟩ : ∃ W1, w.alloc (.cells #[.int .i64 u.now, .slice p1 l1 c1, .slice p2 l2 c2, .slice p3 l3 c3] 33) = W1 := ⟨_, rfl⟩
  obtain ⟨hA, acc0, hlt⟩ := boxed_w hs e1 e2 e3 hW1
  obtain ⟨tg, to, cap, m2, hr, hkl, hlen⟩ := hA.cellsT ht
  obtain ⟨x0, x1, x2, x3, x4, x5, x6, x7, x8⟩ := tk_cells hr
  obtain ⟨o0, o1, o2, o3⟩ := hA.cells
  rw [e1] at o1
  rw [e2] at o2
  rw [o2] at m2
  simp only [Option.some.injEq, Value.slice.injEq] at m2
  obtain ⟨rfl, rfl, rfl⟩ := m2
  rw [e3] at o3
  have HS : Hid (SlW w u) := hs
  have HZ : Hid (SlG W1 (.slice p3 l3 c3) u.gs) := by have := hA.2.2.2; rw [e3] at this; exact this
  obtain ⟨st, gr, cpu, ni, ma, v, su, us, lo⟩ := t
  dsimp only at hst
  subst hst
  dsimp only at hu hn hm
  subst hm
  dsimp only at x0 x1 x2 x3 x4 x5 x6 x7 x8 ⊢
  obtain ⟨W2, hW2⟩ : ∃ W2, W1.alloc (.cells #[.int .i64 1, .int .i64 gr, .int .i64 cpu, .int .i64 ni, .int .i64 0, .int .i64 v, .int .i64 su, .int .i64 us, .int .i64 lo] 68) = W2 := ⟨_, rfl⟩
  obtain ⟨B2, lg, hrg⟩ := boxed_task hW2
  have n0 : W2.cell? ⟨W1.heap.size, 0, none⟩ = some (.int .i64 1) := hrg 0 _ rfl
  have n1 : W2.cell? ⟨W1.heap.size, 1, none⟩ = some (.int .i64 gr) := hrg 1 _ rfl
  have n2 : W2.cell? ⟨W1.heap.size, 2, none⟩ = some (.int .i64 cpu) := hrg 2 _ rfl
  have n3 : W2.cell? ⟨W1.heap.size, 3, none⟩ = some (.int .i64 ni) := hrg 3 _ rfl
  have n4 : W2.cell? ⟨W1.heap.size, 4, none⟩ = some (.int .i64 0) := hrg 4 _ rfl
  have n5 : W2.cell? ⟨W1.heap.size, 5, none⟩ = some (.int .i64 v) := hrg 5 _ rfl
  have n6 : W2.cell? ⟨W1.heap.size, 6, none⟩ = some (.int .i64 su) := hrg 6 _ rfl
  have n7 : W2.cell? ⟨W1.heap.size, 7, none⟩ = some (.int .i64 us) := hrg 7 _ rfl
  have n8 : W2.cell? ⟨W1.heap.size, 8, none⟩ = some (.int .i64 lo) := hrg 8 _ rfl
  have t0 := (B2.cell (p := ⟨w.heap.size, 0, none⟩) hlt).trans o0
  have t1 := (B2.cell (p := ⟨w.heap.size, 1, none⟩) hlt).trans o1
  have t2 := (B2.cell (p := ⟨w.heap.size, 2, none⟩) hlt).trans o2
  have t3 := (B2.cell (p := ⟨w.heap.size, 3, none⟩) hlt).trans o3
  have acc : Below w.heap.size w W2 := acc0.trans (B2.mono acc0.size)
  have HZ2 : Hid (SlG W2 (.slice p3 l3 c3) u.gs) := HZ.out.below B2
  clear hA hs hr e1 e2 e3 hv hrg
  have HR : Hid (taskOkB u ⟨1, gr, cpu, ni, 0, v, su, us, lo⟩ = false) := by unfold Hid taskOkB; simp [hu, hn, numB, setB]
  have HU : Hid (usedB (gsD u.gs) gr = true) := hu
  have hwz := wof_pos hn
  clear hF hC ht hu
  go_enter Tryz.func65, Tryz.ntmps65
  go_wp2_with (first | (go_at_call 55; refine (spec_used _ u.gs _ _ HZ2.out).mono ?_; rintro e1 w1 ⟨rfl, hw1⟩; subst w1; rw [HU.out]) | (go_at_call 72; refine (spec_wof _ _).mono ?_; rintro e1 w1 ⟨rfl, hw1⟩; subst w1) | (go_at_call 100; refine (spec_maskOk _ _).mono ?_; rintro e1 w1 ⟨rfl, hw1⟩; subst w1))
  go_ret
  exact ⟨by rw [HR.out]; rfl, acc⟩
theorem specTask1_rest (k : Nat) (u : Wv) (t : Tk) (w : World) (hs : SlW w u) (hF : Fit u) (hC : CpIn (gsD u.gs)) (ht : u.ts[k]? = some t) (hst : t.st = 1) (hu : usedB (gsD u.gs) t.gr = true) (hn : l1in t.ni (-10) 9 = true) (hm : setB t.ma = true) :
    Calls Tryz.prog 65 #[wvV u, .int .i64 (k : Int)] w fun e' w' => e' = .returned (.bool (taskOkB u t)) ∧ Below w.heap.size w w' := by
  obtain ⟨p1, l1, c1, p2, l2, c2, p3, l3, c3, e1, e2, e3, hv⟩ := wv_form hs
  have HV : Hid (wvV u = .agg #[.int .i64 u.now, .slice p1 l1 c1, .slice p2 l2 c2, .slice p3 l3 c3]) := hv
  rw [hv]
  obtain ⟨W1, hW1⟩ : ∃ W1, w.alloc (.cells #[.int .i64 u.now, .slice p1 l1 c1, .slice p2 l2 c2, .slice p3 l3 c3] 33) = W1 := ⟨_, rfl⟩
  obtain ⟨hA, acc0, hlt⟩ := boxed_w hs e1 e2 e3 hW1
  obtain ⟨tg, to, cap, m2, hr, hkl, hlen⟩ := hA.cellsT ht
  obtain ⟨x0, x1, x2, x3, x4, x5, x6, x7, x8⟩ := tk_cells hr
  obtain ⟨o0, o1, o2, o3⟩ := hA.cells
  rw [e1] at o1
  rw [e2] at o2
  rw [o2] at m2
  simp only [Option.some.injEq, Value.slice.injEq] at m2
  obtain ⟨rfl, rfl, rfl⟩ := m2
  rw [e3] at o3
  have HS : Hid (SlW w u) := hs
  have HZ : Hid (SlG W1 (.slice p3 l3 c3) u.gs) := by have := hA.2.2.2; rw [e3] at this; exact this
  obtain ⟨st, gr, cpu, ni, ma, v, su, us, lo⟩ := t
  dsimp only at hst
  subst hst
  obtain ⟨g, hgr, hgl, hug⟩ := usedB_yes hu
  dsimp only at hgr hu hn hm
  subst hgr
  have hg : g < 8 := by have := hF.g8; rw [gsD_length] at hgl; omega
  have hm2 := hm
  unfold setB at hm2
  simp only [Bool.and_eq_true, decide_eq_true_eq] at hm2
  obtain ⟨hm0, hmo⟩ := hm2
  have hmb : (ma == 0) = false := by simpa using hm0
  have hma : SetIn ma := l1in_iff.1 hmo
  dsimp only at x0 x1 x2 x3 x4 x5 x6 x7 x8 ⊢
  obtain ⟨W2, hW2⟩ : ∃ W2, W1.alloc (.cells #[.int .i64 1, .int .i64 (g : Int), .int .i64 cpu, .int .i64 ni, .int .i64 ma, .int .i64 v, .int .i64 su, .int .i64 us, .int .i64 lo] 68) = W2 := ⟨_, rfl⟩
  obtain ⟨B2, lg, hrg⟩ := boxed_task hW2
  have n0 : W2.cell? ⟨W1.heap.size, 0, none⟩ = some (.int .i64 1) := hrg 0 _ rfl
  have n1 : W2.cell? ⟨W1.heap.size, 1, none⟩ = some (.int .i64 (g : Int)) := hrg 1 _ rfl
  have n2 : W2.cell? ⟨W1.heap.size, 2, none⟩ = some (.int .i64 cpu) := hrg 2 _ rfl
  have n3 : W2.cell? ⟨W1.heap.size, 3, none⟩ = some (.int .i64 ni) := hrg 3 _ rfl
  have n4 : W2.cell? ⟨W1.heap.size, 4, none⟩ = some (.int .i64 ma) := hrg 4 _ rfl
  have n5 : W2.cell? ⟨W1.heap.size, 5, none⟩ = some (.int .i64 v) := hrg 5 _ rfl
  have n6 : W2.cell? ⟨W1.heap.size, 6, none⟩ = some (.int .i64 su) := hrg 6 _ rfl
  have n7 : W2.cell? ⟨W1.heap.size, 7, none⟩ = some (.int .i64 us) := hrg 7 _ rfl
  have n8 : W2.cell? ⟨W1.heap.size, 8, none⟩ = some (.int .i64 lo) := hrg 8 _ rfl
  have t0 := (B2.cell (p := ⟨w.heap.size, 0, none⟩) hlt).trans o0
  have t1 := (B2.cell (p := ⟨w.heap.size, 1, none⟩) hlt).trans o1
  have t2 := (B2.cell (p := ⟨w.heap.size, 2, none⟩) hlt).trans o2
  have t3 := (B2.cell (p := ⟨w.heap.size, 3, none⟩) hlt).trans o3
  have acc : Below w.heap.size w W2 := acc0.trans (B2.mono acc0.size)
  have HZ2 : Hid (SlG W2 (.slice p3 l3 c3) u.gs) := HZ.out.below B2
  clear hA hs hr e1 e2 e3 hv hrg
  have HU : Hid (usedB (gsD u.gs) (g : Int) = true) := hu
  have hwz := wof_pos hn
  have HM : Hid (setB ma = true) := hm
  obtain ⟨bv, HcV⟩ : ∃ b, l1in v 0 100000000000000000 = b := ⟨_, rfl⟩
  obtain ⟨bs, HcS⟩ : ∃ b, l1in su 0 100000000000000000 = b := ⟨_, rfl⟩
  obtain ⟨bu, HcU⟩ : ∃ b, l1in us 0 100000000000000000 = b := ⟨_, rfl⟩
  obtain ⟨bl, HcL⟩ : ∃ b, l1in lo 0 8000000 = b := ⟨_, rfl⟩
  obtain ⟨bw, HcH⟩ : ∃ b, Msk.hasB (whereM u.cs (gsD u.gs) g ma) cpu = b := ⟨_, rfl⟩
  have hwh : whereB u ⟨1, (g : Int), cpu, ni, ma, v, su, us, lo⟩ = bw := HcH
  have hnu : numB ⟨1, (g : Int), cpu, ni, ma, v, su, us, lo⟩ = (bv && (bs && (bu && bl))) := by unfold numB; rw [hn, hm, HcV, HcS, HcU]; show (true && (true && (bv && (bs && (bu && inBd 0 lo))))) = _; rw [inBd_l1in, HcL]; simp
  have HR0 : Hid (taskOkB u ⟨1, (g : Int), cpu, ni, ma, v, su, us, lo⟩ = ((bv && (bs && (bu && bl))) && (bw && taskWellB (gsD u.gs) ⟨1, (g : Int), cpu, ni, ma, v, su, us, lo⟩))) := by unfold Hid taskOkB; rw [hu, hnu, hwh]; simp
  have cV : ∀ d os, Calls Tryz.prog 101 #[.int .i64 v] (grow (redrawn W2 d) os) fun e' w'' => e' = .returned (.bool bv) ∧ ∃ p : Regrown, w'' = grow (redrawn W2 p.d) p.os := fun d os => by
    have h0 := l4Time_any v (grow (redrawn W2 d) os)
    rw [HcV] at h0
    exact Calls.regrown_of (h0.mono fun e' w' h => ⟨h.1, h.2 ▸ Below.refl _ _⟩)
  have cS : ∀ d os, Calls Tryz.prog 101 #[.int .i64 su] (grow (redrawn W2 d) os) fun e' w'' => e' = .returned (.bool bs) ∧ ∃ p : Regrown, w'' = grow (redrawn W2 p.d) p.os := fun d os => by
    have h0 := l4Time_any su (grow (redrawn W2 d) os)
    rw [HcS] at h0
    exact Calls.regrown_of (h0.mono fun e' w' h => ⟨h.1, h.2 ▸ Below.refl _ _⟩)
  have cU : ∀ d os, Calls Tryz.prog 101 #[.int .i64 us] (grow (redrawn W2 d) os) fun e' w'' => e' = .returned (.bool bu) ∧ ∃ p : Regrown, w'' = grow (redrawn W2 p.d) p.os := fun d os => by
    have h0 := l4Time_any us (grow (redrawn W2 d) os)
    rw [HcU] at h0
    exact Calls.regrown_of (h0.mono fun e' w' h => ⟨h.1, h.2 ▸ Below.refl _ _⟩)
  have cL : ∀ d os, Calls Tryz.prog 33 #[.int .i64 lo, .int .i64 0, .int .i64 8000000] (grow (redrawn W2 d) os) fun e' w'' => e' = .returned (.bool bl) ∧ ∃ p : Regrown, w'' = grow (redrawn W2 p.d) p.os := fun d os => by
    have h0 := l1In_any lo 0 8000000 (grow (redrawn W2 d) os)
    rw [HcL] at h0
    exact Calls.regrown_of (h0.mono fun e' w' h => ⟨h.1, h.2 ▸ Below.refl _ _⟩)
  have cH : ∀ d os, Calls Tryz.prog 87 #[.int .i64 (whereM u.cs (gsD u.gs) g ma), .int .i64 cpu] (grow (redrawn W2 d) os) fun e' w'' => e' = .returned (.bool bw) ∧ ∃ p : Regrown, w'' = grow (redrawn W2 p.d) p.os := fun d os => by
    have h0 := Msk.spec_has (whereM u.cs (gsD u.gs) g ma) cpu (grow (redrawn W2 d) os)
    rw [HcH] at h0
    exact Calls.regrown_of (h0.mono fun e' w' h => ⟨h.1, h.2 ▸ Below.refl _ _⟩)
  have cW : ∀ d os, Calls Tryz.prog 103 #[wvV u, .int .i64 (g : Int), .int .i64 ma] (grow (redrawn W2 d) os) fun e' w'' => e' = .returned (.int .i64 (whereM u.cs (gsD u.gs) g ma)) ∧ ∃ p : Regrown, w'' = grow (redrawn W2 p.d) p.os := fun d os => by
    have h0 := l8Where_any g ma u _ (HS.out.below (acc.trans ((below_regrown W2 d os).mono acc.size))) hF.n4 hF.tree hg hug
    rw [(where_eq hF.n4 hF.tree hC hg hug hma).1] at h0
    exact Calls.regrown_of h0
  rw [HV.out] at cW
  have HcH2 : Hid (Msk.hasB (whereM u.cs (gsD u.gs) g ma) cpu = bw) := HcH
  clear HcV HcS HcU HcL HcH hu hn hm hwh hnu ht
  have k0 := cell_regrown n0
  have k1 := cell_regrown n1
  have k2 := cell_regrown n2
  have k3 := cell_regrown n3
  have k4 := cell_regrown n4
  have k5 := cell_regrown n5
  have k6 := cell_regrown n6
  have k7 := cell_regrown n7
  have k8 := cell_regrown n8
  have j0 := cell_regrown t0
  have j1 := cell_regrown t1
  have j2 := cell_regrown t2
  have j3 := cell_regrown t3
  go_enter Tryz.func65, Tryz.ntmps65
  go_wp2_with (first | (go_at_call 55; refine (spec_used _ u.gs _ _ HZ2.out).mono ?_; rintro e1 w1 ⟨rfl, hw1⟩; subst w1; rw [HU.out]) | (go_at_call 72; refine (spec_wof _ _).mono ?_; rintro e1 w1 ⟨rfl, hw1⟩; subst w1) | (go_at_call 100; refine (spec_maskOk _ _).mono ?_; rintro e1 w1 ⟨rfl, hw1⟩; subst w1))
  refine wp_region_quiet_below (by kernel_rfl) (by kernel_rfl) ?_
  clear hW1 hW2
  cases bv
  · repeat (go_big_quiet_step (first | exact cV _ _ | exact cS _ _ | exact cU _ _ | exact cL _ _ | exact cW _ _ | exact cH _ _))
    refine wpQuiet_nil ?_
    rintro _ ⟨⟨dq, osq⟩, rfl⟩
    go_wp2
    go_ret
    exact ⟨by rw [HR0.out]; simp, acc.trans ((below_regrown W2 dq osq).mono acc.size)⟩
  · cases bs
    · repeat (go_big_quiet_step (first | exact cV _ _ | exact cS _ _ | exact cU _ _ | exact cL _ _ | exact cW _ _ | exact cH _ _))
      refine wpQuiet_nil ?_
      rintro _ ⟨⟨dq, osq⟩, rfl⟩
      go_wp2
      go_ret
      exact ⟨by rw [HR0.out]; simp, acc.trans ((below_regrown W2 dq osq).mono acc.size)⟩
    · cases bu
      · repeat (go_big_quiet_step (first | exact cV _ _ | exact cS _ _ | exact cU _ _ | exact cL _ _ | exact cW _ _ | exact cH _ _))
        refine wpQuiet_nil ?_
        rintro _ ⟨⟨dq, osq⟩, rfl⟩
        go_wp2
        go_ret
        exact ⟨by rw [HR0.out]; simp, acc.trans ((below_regrown W2 dq osq).mono acc.size)⟩
      · cases bl
        · repeat (go_big_quiet_step (first | exact cV _ _ | exact cS _ _ | exact cU _ _ | exact cL _ _ | exact cW _ _ | exact cH _ _))
          refine wpQuiet_nil ?_
          rintro _ ⟨⟨dq, osq⟩, rfl⟩
          go_wp2
          go_ret
          exact ⟨by rw [HR0.out]; simp, acc.trans ((below_regrown W2 dq osq).mono acc.size)⟩
        · cases bw
          · repeat (go_big_quiet_step (first | exact cV _ _ | exact cS _ _ | exact cU _ _ | exact cL _ _ | exact cW _ _ | exact cH _ _))
            refine wpQuiet_nil ?_
            rintro _ ⟨⟨dq, osq⟩, rfl⟩
            go_wp2
            go_ret
            exact ⟨by rw [HR0.out]; simp, acc.trans ((below_regrown W2 dq osq).mono acc.size)⟩
          · repeat (go_big_quiet_step (first | exact cV _ _ | exact cS _ _ | exact cU _ _ | exact cL _ _ | exact cW _ _ | exact cH _ _))
            refine wpQuiet_nil ?_
            rintro _ ⟨⟨dq, osq⟩, rfl⟩
            clear cV cS cU cL cW cH k0 k1 k2 k3 k4 k5 k6 k7 k8 j0 j1 j2 j3
            obtain ⟨c, hc, rfl⟩ := where_at hF.n4 hF.tree hC hg hug hma HcH2.out
            obtain ⟨V2, hV2⟩ : ∃ V2, grow (redrawn W2 dq) osq = V2 := ⟨_, rfl⟩
            have hb1 : Below W2.heap.size W2 V2 := by rw [← hV2]; exact below_regrown _ _ _
            rw [hV2]
            clear hV2
            replace n0 := (hb1.cell (p := ⟨W1.heap.size, 0, none⟩) lg).trans n0
            replace n1 := (hb1.cell (p := ⟨W1.heap.size, 1, none⟩) lg).trans n1
            replace n2 := (hb1.cell (p := ⟨W1.heap.size, 2, none⟩) lg).trans n2
            replace n3 := (hb1.cell (p := ⟨W1.heap.size, 3, none⟩) lg).trans n3
            replace n4 := (hb1.cell (p := ⟨W1.heap.size, 4, none⟩) lg).trans n4
            replace n5 := (hb1.cell (p := ⟨W1.heap.size, 5, none⟩) lg).trans n5
            replace n6 := (hb1.cell (p := ⟨W1.heap.size, 6, none⟩) lg).trans n6
            replace n7 := (hb1.cell (p := ⟨W1.heap.size, 7, none⟩) lg).trans n7
            replace n8 := (hb1.cell (p := ⟨W1.heap.size, 8, none⟩) lg).trans n8
            have lw : w.heap.size < W2.heap.size := Nat.lt_of_lt_of_le hlt B2.size
            replace t3 := (hb1.cell (p := ⟨w.heap.size, 3, none⟩) lw).trans t3
            have acc2 := acc.trans (hb1.mono acc.size)
            have hz2 : SlG V2 (.slice p3 l3 c3) u.gs := HZ2.out.below hb1
            obtain ⟨e, he, q0, _, _⟩ := gs_get (vs := u.gs) (k := g) (by rw [hF.g8]; exact hg)
            obtain ⟨pz, cz, hpz, hlz, hrz⟩ := row_read hz2.1
            simp only [Value.slice.injEq] at hpz
            obtain ⟨rfl, rfl, rfl⟩ := hpz
            obtain ⟨gr, go, rfl, hrow⟩ := hrz g e he
            obtain ⟨_, _, _, _, _, _, _, _, _, _, _, _, _, y13⟩ := gv_cells hrow
            obtain ⟨s, hsh⟩ := hF.ok hc g e.d (gsD_at he) (by rw [← q0]; exact hug)
            have hshA : shAt (gsD u.gs) g c = s := by unfold shAt; rw [gsD_at he]; simp [hsh]
            obtain ⟨ps, cs, hzz, hls, hrs⟩ := row_read (hz2.2 e (List.mem_of_getElem? he)).2
            obtain ⟨sg, so, rfl, hsr⟩ := hrs c s hsh
            rw [hzz] at y13
            obtain ⟨s0, _⟩ := sh_cells hsr
            have hcs : c < e.d.sh.length := (List.getElem?_eq_some_iff.1 hsh).1
            have hgl2 : g < u.gs.length := by rw [hF.g8]; exact hg
            obtain ⟨wb, hwb⟩ : ∃ b, withinB v s.fl (vstep 149 (wof ni)) = b := ⟨_, rfl⟩
            have HR : Hid (taskOkB u ⟨1, (g : Int), (c : Int), ni, ma, v, su, us, lo⟩ = wb) := by unfold Hid; rw [HR0.out]; simp only [Bool.true_and]; unfold taskWellB; dsimp only; rw [Int.toNat_natCast, Int.toNat_natCast, hshA, hwb]
            have cA : ∀ d os, Calls Tryz.prog 104 #[.int .i64 v, .int .i64 s.fl, .int .i64 (wof ni)] (grow (redrawn V2 d) os) fun e' w'' => e' = .returned (.bool wb) ∧ ∃ p : Regrown, w'' = grow (redrawn V2 p.d) p.os := fun d os => by
              have h0 := l8Stand_any v s.fl (wof ni) (grow (redrawn V2 d) os)
              rw [hwb] at h0
              exact Calls.regrown_of (h0.mono fun e' w' h => ⟨h.1, h.2 ▸ Below.refl _ _⟩)
            have cB : ∀ d os, Calls Tryz.prog 72 #[.int .i64 ni] (grow (redrawn V2 d) os) fun e' w'' => e' = .returned (.int .i64 (wof ni)) ∧ ∃ p : Regrown, w'' = grow (redrawn V2 p.d) p.os := fun d os => Calls.regrown_of ((spec_wof ni _).mono fun e' w' h => ⟨h.1, h.2 ▸ Below.refl _ _⟩)
            have ky := cell_regrown y13
            have ks := cell_regrown s0
            clear hrz hrs hz2 hrow hsr he hsh hshA hwb
            have k0 := cell_regrown n0
            have k1 := cell_regrown n1
            have k2 := cell_regrown n2
            have k3 := cell_regrown n3
            have k4 := cell_regrown n4
            have k5 := cell_regrown n5
            have k6 := cell_regrown n6
            have k7 := cell_regrown n7
            have k8 := cell_regrown n8
            have j3 := cell_regrown t3
            go_wp2
            refine wp_region_quiet_below (by kernel_rfl) (by kernel_rfl) ?_
            repeat (go_big_quiet_step (first | exact cA _ _ | exact cB _ _))
            refine wpQuiet_nil ?_
            rintro _ ⟨⟨dq2, osq2⟩, rfl⟩
            go_wp2
            go_ret
            exact ⟨by rw [HR.out]; first | rfl | simp, acc2.trans ((below_regrown V2 dq2 osq2).mono acc2.size)⟩
theorem specTask2_nogroup (k : Nat) (u : Wv) (t : Tk) (w : World) (hs : SlW w u) (hF : Fit u) (hC : CpIn (gsD u.gs)) (ht : u.ts[k]? = some t) (hst : t.st = 2) (hu : usedB (gsD u.gs) t.gr = false) :
    Calls Tryz.prog 65 #[wvV u, .int .i64 (k : Int)] w fun e' w' => e' = .returned (.bool (taskOkB u t)) ∧ Below w.heap.size w w' := by
  obtain ⟨p1, l1, c1, p2, l2, c2, p3, l3, c3, e1, e2, e3, hv⟩ := wv_form hs
  have HV : Hid (wvV u = .agg #[.int .i64 u.now, .slice p1 l1 c1, .slice p2 l2 c2, .slice p3 l3 c3]) := hv
  rw [hv]
  obtain ⟨W1, hW1⟩ : ∃ W1, w.alloc (.cells #[.int .i64 u.now, .slice p1 l1 c1, .slice p2 l2 c2, .slice p3 l3 c3] 33) = W1 := ⟨_, rfl⟩
  obtain ⟨hA, acc0, hlt⟩ := boxed_w hs e1 e2 e3 hW1
  obtain ⟨tg, to, cap, m2, hr, hkl, hlen⟩ := hA.cellsT ht
  obtain ⟨x0, x1, x2, x3, x4, x5, x6, x7, x8⟩ := tk_cells hr
  obtain ⟨o0, o1, o2, o3⟩ := hA.cells
  rw [e1] at o1
  rw [e2] at o2
  rw [o2] at m2
  simp only [Option.some.injEq, Value.slice.injEq] at m2
  obtain ⟨rfl, rfl, rfl⟩ := m2
  rw [e3] at o3
  have HS : Hid (SlW w u) := hs
  have HZ : Hid (SlG W1 (.slice p3 l3 c3) u.gs) := by have := hA.2.2.2; rw [e3] at this; exact this
  obtain ⟨st, gr, cpu, ni, ma, v, su, us, lo⟩ := t
  dsimp only at hst
  subst hst
  dsimp only at hu
  dsimp only at x0 x1 x2 x3 x4 x5 x6 x7 x8 ⊢
  obtain ⟨W2, hW2⟩ : ∃ W2, W1.alloc (.cells #[.int .i64 2, .int .i64 gr, .int .i64 cpu, .int .i64 ni, .int .i64 ma, .int .i64 v, .int .i64 su, .int .i64 us, .int .i64 lo] 68) = W2 := ⟨_, rfl⟩
  obtain ⟨B2, lg, hrg⟩ := boxed_task hW2
  have n0 : W2.cell? ⟨W1.heap.size, 0, none⟩ = some (.int .i64 2) := hrg 0 _ rfl
  have n1 : W2.cell? ⟨W1.heap.size, 1, none⟩ = some (.int .i64 gr) := hrg 1 _ rfl
  have n2 : W2.cell? ⟨W1.heap.size, 2, none⟩ = some (.int .i64 cpu) := hrg 2 _ rfl
  have n3 : W2.cell? ⟨W1.heap.size, 3, none⟩ = some (.int .i64 ni) := hrg 3 _ rfl
  have n4 : W2.cell? ⟨W1.heap.size, 4, none⟩ = some (.int .i64 ma) := hrg 4 _ rfl
  have n5 : W2.cell? ⟨W1.heap.size, 5, none⟩ = some (.int .i64 v) := hrg 5 _ rfl
  have n6 : W2.cell? ⟨W1.heap.size, 6, none⟩ = some (.int .i64 su) := hrg 6 _ rfl
  have n7 : W2.cell? ⟨W1.heap.size, 7, none⟩ = some (.int .i64 us) := hrg 7 _ rfl
  have n8 : W2.cell? ⟨W1.heap.size, 8, none⟩ = some (.int .i64 lo) := hrg 8 _ rfl
  have t0 := (B2.cell (p := ⟨w.heap.size, 0, none⟩) hlt).trans o0
  have t1 := (B2.cell (p := ⟨w.heap.size, 1, none⟩) hlt).trans o1
  have t2 := (B2.cell (p := ⟨w.heap.size, 2, none⟩) hlt).trans o2
  have t3 := (B2.cell (p := ⟨w.heap.size, 3, none⟩) hlt).trans o3
  have acc : Below w.heap.size w W2 := acc0.trans (B2.mono acc0.size)
  have HZ2 : Hid (SlG W2 (.slice p3 l3 c3) u.gs) := HZ.out.below B2
  clear hA hs hr e1 e2 e3 hv hrg
  have HR : Hid (taskOkB u ⟨2, gr, cpu, ni, ma, v, su, us, lo⟩ = false) := by unfold Hid taskOkB; simp [hu]
  have HU : Hid (usedB (gsD u.gs) gr = false) := hu
  clear hF hC ht hu
  go_enter Tryz.func65, Tryz.ntmps65
  go_wp2_with (first | (go_at_call 55; refine (spec_used _ u.gs _ _ HZ2.out).mono ?_; rintro e1 w1 ⟨rfl, hw1⟩; subst w1; rw [HU.out]) | (go_at_call 72; refine (spec_wof _ _).mono ?_; rintro e1 w1 ⟨rfl, hw1⟩; subst w1) | (go_at_call 100; refine (spec_maskOk _ _).mono ?_; rintro e1 w1 ⟨rfl, hw1⟩; subst w1))
  go_ret
  exact ⟨by rw [HR.out]; rfl, acc⟩
theorem specTask2_nonice (k : Nat) (u : Wv) (t : Tk) (w : World) (hs : SlW w u) (hF : Fit u) (hC : CpIn (gsD u.gs)) (ht : u.ts[k]? = some t) (hst : t.st = 2) (hu : usedB (gsD u.gs) t.gr = true) (hn : l1in t.ni (-10) 9 = false) :
    Calls Tryz.prog 65 #[wvV u, .int .i64 (k : Int)] w fun e' w' => e' = .returned (.bool (taskOkB u t)) ∧ Below w.heap.size w w' := by
  obtain ⟨p1, l1, c1, p2, l2, c2, p3, l3, c3, e1, e2, e3, hv⟩ := wv_form hs
  have HV : Hid (wvV u = .agg #[.int .i64 u.now, .slice p1 l1 c1, .slice p2 l2 c2, .slice p3 l3 c3]) := hv
  rw [hv]
  obtain ⟨W1, hW1⟩ : ∃ W1, w.alloc (.cells #[.int .i64 u.now, .slice p1 l1 c1, .slice p2 l2 c2, .slice p3 l3 c3] 33) = W1 := ⟨_, rfl⟩
  obtain ⟨hA, acc0, hlt⟩ := boxed_w hs e1 e2 e3 hW1
  obtain ⟨tg, to, cap, m2, hr, hkl, hlen⟩ := hA.cellsT ht
  obtain ⟨x0, x1, x2, x3, x4, x5, x6, x7, x8⟩ := tk_cells hr
  obtain ⟨o0, o1, o2, o3⟩ := hA.cells
  rw [e1] at o1
  rw [e2] at o2
  rw [o2] at m2
  simp only [Option.some.injEq, Value.slice.injEq] at m2
  obtain ⟨rfl, rfl, rfl⟩ := m2
  rw [e3] at o3
  have HS : Hid (SlW w u) := hs
  have HZ : Hid (SlG W1 (.slice p3 l3 c3) u.gs) := by have := hA.2.2.2; rw [e3] at this; exact this
  obtain ⟨st, gr, cpu, ni, ma, v, su, us, lo⟩ := t
  dsimp only at hst
  subst hst
  dsimp only at hu hn
  dsimp only at x0 x1 x2 x3 x4 x5 x6 x7 x8 ⊢
  obtain ⟨W2, hW2⟩ : ∃ W2, W1.alloc (.cells #[.int .i64 2, .int .i64 gr, .int .i64 cpu, .int .i64 ni, .int .i64 ma, .int .i64 v, .int .i64 su, .int .i64 us, .int .i64 lo] 68) = W2 := ⟨_, rfl⟩
  obtain ⟨B2, lg, hrg⟩ := boxed_task hW2
  have n0 : W2.cell? ⟨W1.heap.size, 0, none⟩ = some (.int .i64 2) := hrg 0 _ rfl
  have n1 : W2.cell? ⟨W1.heap.size, 1, none⟩ = some (.int .i64 gr) := hrg 1 _ rfl
  have n2 : W2.cell? ⟨W1.heap.size, 2, none⟩ = some (.int .i64 cpu) := hrg 2 _ rfl
  have n3 : W2.cell? ⟨W1.heap.size, 3, none⟩ = some (.int .i64 ni) := hrg 3 _ rfl
  have n4 : W2.cell? ⟨W1.heap.size, 4, none⟩ = some (.int .i64 ma) := hrg 4 _ rfl
  have n5 : W2.cell? ⟨W1.heap.size, 5, none⟩ = some (.int .i64 v) := hrg 5 _ rfl
  have n6 : W2.cell? ⟨W1.heap.size, 6, none⟩ = some (.int .i64 su) := hrg 6 _ rfl
  have n7 : W2.cell? ⟨W1.heap.size, 7, none⟩ = some (.int .i64 us) := hrg 7 _ rfl
  have n8 : W2.cell? ⟨W1.heap.size, 8, none⟩ = some (.int .i64 lo) := hrg 8 _ rfl
  have t0 := (B2.cell (p := ⟨w.heap.size, 0, none⟩) hlt).trans o0
  have t1 := (B2.cell (p := ⟨w.heap.size, 1, none⟩) hlt).trans o1
  have t2 := (B2.cell (p := ⟨w.heap.size, 2, none⟩) hlt).trans o2
  have t3 := (B2.cell (p := ⟨w.heap.size, 3, none⟩) hlt).trans o3
  have acc : Below w.heap.size w W2 := acc0.trans (B2.mono acc0.size)
  have HZ2 : Hid (SlG W2 (.slice p3 l3 c3) u.gs) := HZ.out.below B2
  clear hA hs hr e1 e2 e3 hv hrg
  have HR : Hid (taskOkB u ⟨2, gr, cpu, ni, ma, v, su, us, lo⟩ = false) := by unfold Hid taskOkB; simp [hu, hn, numB]
  have HU : Hid (usedB (gsD u.gs) gr = true) := hu
  have hwz := wof_zero hn
  clear hF hC ht hu
  go_enter Tryz.func65, Tryz.ntmps65
  go_wp2_with (first | (go_at_call 55; refine (spec_used _ u.gs _ _ HZ2.out).mono ?_; rintro e1 w1 ⟨rfl, hw1⟩; subst w1; rw [HU.out]) | (go_at_call 72; refine (spec_wof _ _).mono ?_; rintro e1 w1 ⟨rfl, hw1⟩; subst w1) | (go_at_call 100; refine (spec_maskOk _ _).mono ?_; rintro e1 w1 ⟨rfl, hw1⟩; subst w1))
  go_ret
  exact ⟨by rw [HR.out]; rfl, acc⟩
theorem specTask2_nomask (k : Nat) (u : Wv) (t : Tk) (w : World) (hs : SlW w u) (hF : Fit u) (hC : CpIn (gsD u.gs)) (ht : u.ts[k]? = some t) (hst : t.st = 2) (hu : usedB (gsD u.gs) t.gr = true) (hn : l1in t.ni (-10) 9 = true) (hm : l1in t.ma 0 15 = false) :
    Calls Tryz.prog 65 #[wvV u, .int .i64 (k : Int)] w fun e' w' => e' = .returned (.bool (taskOkB u t)) ∧ Below w.heap.size w w' := by
  obtain ⟨p1, l1, c1, p2, l2, c2, p3, l3, c3, e1, e2, e3, hv⟩ := wv_form hs
  have HV : Hid (wvV u = .agg #[.int .i64 u.now, .slice p1 l1 c1, .slice p2 l2 c2, .slice p3 l3 c3]) := hv
  rw [hv]
  obtain ⟨W1, hW1⟩ : ∃ W1, w.alloc (.cells #[.int .i64 u.now, .slice p1 l1 c1, .slice p2 l2 c2, .slice p3 l3 c3] 33) = W1 := ⟨_, rfl⟩
  obtain ⟨hA, acc0, hlt⟩ := boxed_w hs e1 e2 e3 hW1
  obtain ⟨tg, to, cap, m2, hr, hkl, hlen⟩ := hA.cellsT ht
  obtain ⟨x0, x1, x2, x3, x4, x5, x6, x7, x8⟩ := tk_cells hr
  obtain ⟨o0, o1, o2, o3⟩ := hA.cells
  rw [e1] at o1
  rw [e2] at o2
  rw [o2] at m2
  simp only [Option.some.injEq, Value.slice.injEq] at m2
  obtain ⟨rfl, rfl, rfl⟩ := m2
  rw [e3] at o3
  have HS : Hid (SlW w u) := hs
  have HZ : Hid (SlG W1 (.slice p3 l3 c3) u.gs) := by have := hA.2.2.2; rw [e3] at this; exact this
  obtain ⟨st, gr, cpu, ni, ma, v, su, us, lo⟩ := t
  dsimp only at hst
  subst hst
  dsimp only at hu hn hm
  dsimp only at x0 x1 x2 x3 x4 x5 x6 x7 x8 ⊢
  obtain ⟨W2, hW2⟩ : ∃ W2, W1.alloc (.cells #[.int .i64 2, .int .i64 gr, .int .i64 cpu, .int .i64 ni, .int .i64 ma, .int .i64 v, .int .i64 su, .int .i64 us, .int .i64 lo] 68) = W2 := ⟨_, rfl⟩
  obtain ⟨B2, lg, hrg⟩ := boxed_task hW2
  have n0 : W2.cell? ⟨W1.heap.size, 0, none⟩ = some (.int .i64 2) := hrg 0 _ rfl
  have n1 : W2.cell? ⟨W1.heap.size, 1, none⟩ = some (.int .i64 gr) := hrg 1 _ rfl
  have n2 : W2.cell? ⟨W1.heap.size, 2, none⟩ = some (.int .i64 cpu) := hrg 2 _ rfl
  have n3 : W2.cell? ⟨W1.heap.size, 3, none⟩ = some (.int .i64 ni) := hrg 3 _ rfl
  have n4 : W2.cell? ⟨W1.heap.size, 4, none⟩ = some (.int .i64 ma) := hrg 4 _ rfl
  have n5 : W2.cell? ⟨W1.heap.size, 5, none⟩ = some (.int .i64 v) := hrg 5 _ rfl
  have n6 : W2.cell? ⟨W1.heap.size, 6, none⟩ = some (.int .i64 su) := hrg 6 _ rfl
  have n7 : W2.cell? ⟨W1.heap.size, 7, none⟩ = some (.int .i64 us) := hrg 7 _ rfl
  have n8 : W2.cell? ⟨W1.heap.size, 8, none⟩ = some (.int .i64 lo) := hrg 8 _ rfl
  have t0 := (B2.cell (p := ⟨w.heap.size, 0, none⟩) hlt).trans o0
  have t1 := (B2.cell (p := ⟨w.heap.size, 1, none⟩) hlt).trans o1
  have t2 := (B2.cell (p := ⟨w.heap.size, 2, none⟩) hlt).trans o2
  have t3 := (B2.cell (p := ⟨w.heap.size, 3, none⟩) hlt).trans o3
  have acc : Below w.heap.size w W2 := acc0.trans (B2.mono acc0.size)
  have HZ2 : Hid (SlG W2 (.slice p3 l3 c3) u.gs) := HZ.out.below B2
  clear hA hs hr e1 e2 e3 hv hrg
  have HR : Hid (taskOkB u ⟨2, gr, cpu, ni, ma, v, su, us, lo⟩ = false) := by unfold Hid taskOkB; simp [hu, hn, hm, numB, setB]
  have HU : Hid (usedB (gsD u.gs) gr = true) := hu
  have hwz := wof_pos hn
  clear hF hC ht hu
  go_enter Tryz.func65, Tryz.ntmps65
  go_wp2_with (first | (go_at_call 55; refine (spec_used _ u.gs _ _ HZ2.out).mono ?_; rintro e1 w1 ⟨rfl, hw1⟩; subst w1; rw [HU.out]) | (go_at_call 72; refine (spec_wof _ _).mono ?_; rintro e1 w1 ⟨rfl, hw1⟩; subst w1) | (go_at_call 100; refine (spec_maskOk _ _).mono ?_; rintro e1 w1 ⟨rfl, hw1⟩; subst w1))
  go_ret
  exact ⟨by rw [HR.out]; rfl, acc⟩
theorem specTask2_nullmask (k : Nat) (u : Wv) (t : Tk) (w : World) (hs : SlW w u) (hF : Fit u) (hC : CpIn (gsD u.gs)) (ht : u.ts[k]? = some t) (hst : t.st = 2) (hu : usedB (gsD u.gs) t.gr = true) (hn : l1in t.ni (-10) 9 = true) (hm : t.ma = 0) :
    Calls Tryz.prog 65 #[wvV u, .int .i64 (k : Int)] w fun e' w' => e' = .returned (.bool (taskOkB u t)) ∧ Below w.heap.size w w' := by
  obtain ⟨p1, l1, c1, p2, l2, c2, p3, l3, c3, e1, e2, e3, hv⟩ := wv_form hs
  have HV : Hid (wvV u = .agg #[.int .i64 u.now, .slice p1 l1 c1, .slice p2 l2 c2, .slice p3 l3 c3]) := hv
  rw [hv]
  obtain ⟨W1, hW1⟩ : ∃ W1, w.alloc (.cells #[.int .i64 u.now, .slice p1 l1 c1, .slice p2 l2 c2, .slice p3 l3 c3] 33) = W1 := ⟨_, rfl⟩
  obtain ⟨hA, acc0, hlt⟩ := boxed_w hs e1 e2 e3 hW1
  obtain ⟨tg, to, cap, m2, hr, hkl, hlen⟩ := hA.cellsT ht
  obtain ⟨x0, x1, x2, x3, x4, x5, x6, x7, x8⟩ := tk_cells hr
  obtain ⟨o0, o1, o2, o3⟩ := hA.cells
  rw [e1] at o1
  rw [e2] at o2
  rw [o2] at m2
  simp only [Option.some.injEq, Value.slice.injEq] at m2
  obtain ⟨rfl, rfl, rfl⟩ := m2
  rw [e3] at o3
  have HS : Hid (SlW w u) := hs
  have HZ : Hid (SlG W1 (.slice p3 l3 c3) u.gs) := by have := hA.2.2.2; rw [e3] at this; exact this
  obtain ⟨st, gr, cpu, ni, ma, v, su, us, lo⟩ := t
  dsimp only at hst
  subst hst
  dsimp only at hu hn hm
  subst hm
  dsimp only at x0 x1 x2 x3 x4 x5 x6 x7 x8 ⊢
  obtain ⟨W2, hW2⟩ : ∃ W2, W1.alloc (.cells #[.int .i64 2, .int .i64 gr, .int .i64 cpu, .int .i64 ni, .int .i64 0, .int .i64 v, .int .i64 su, .int .i64 us, .int .i64 lo] 68) = W2 := ⟨_, rfl⟩
  obtain ⟨B2, lg, hrg⟩ := boxed_task hW2
  have n0 : W2.cell? ⟨W1.heap.size, 0, none⟩ = some (.int .i64 2) := hrg 0 _ rfl
  have n1 : W2.cell? ⟨W1.heap.size, 1, none⟩ = some (.int .i64 gr) := hrg 1 _ rfl
  have n2 : W2.cell? ⟨W1.heap.size, 2, none⟩ = some (.int .i64 cpu) := hrg 2 _ rfl
  have n3 : W2.cell? ⟨W1.heap.size, 3, none⟩ = some (.int .i64 ni) := hrg 3 _ rfl
  have n4 : W2.cell? ⟨W1.heap.size, 4, none⟩ = some (.int .i64 0) := hrg 4 _ rfl
  have n5 : W2.cell? ⟨W1.heap.size, 5, none⟩ = some (.int .i64 v) := hrg 5 _ rfl
  have n6 : W2.cell? ⟨W1.heap.size, 6, none⟩ = some (.int .i64 su) := hrg 6 _ rfl
  have n7 : W2.cell? ⟨W1.heap.size, 7, none⟩ = some (.int .i64 us) := hrg 7 _ rfl
  have n8 : W2.cell? ⟨W1.heap.size, 8, none⟩ = some (.int .i64 lo) := hrg 8 _ rfl
  have t0 := (B2.cell (p := ⟨w.heap.size, 0, none⟩) hlt).trans o0
  have t1 := (B2.cell (p := ⟨w.heap.size, 1, none⟩) hlt).trans o1
  have t2 := (B2.cell (p := ⟨w.heap.size, 2, none⟩) hlt).trans o2
  have t3 := (B2.cell (p := ⟨w.heap.size, 3, none⟩) hlt).trans o3
  have acc : Below w.heap.size w W2 := acc0.trans (B2.mono acc0.size)
  have HZ2 : Hid (SlG W2 (.slice p3 l3 c3) u.gs) := HZ.out.below B2
  clear hA hs hr e1 e2 e3 hv hrg
  have HR : Hid (taskOkB u ⟨2, gr, cpu, ni, 0, v, su, us, lo⟩ = false) := by unfold Hid taskOkB; simp [hu, hn, numB, setB]
  have HU : Hid (usedB (gsD u.gs) gr = true) := hu
  have hwz := wof_pos hn
  clear hF hC ht hu
  go_enter Tryz.func65, Tryz.ntmps65
  go_wp2_with (first | (go_at_call 55; refine (spec_used _ u.gs _ _ HZ2.out).mono ?_; rintro e1 w1 ⟨rfl, hw1⟩; subst w1; rw [HU.out]) | (go_at_call 72; refine (spec_wof _ _).mono ?_; rintro e1 w1 ⟨rfl, hw1⟩; subst w1) | (go_at_call 100; refine (spec_maskOk _ _).mono ?_; rintro e1 w1 ⟨rfl, hw1⟩; subst w1))
  go_ret
  exact ⟨by rw [HR.out]; rfl, acc⟩
theorem specTask2_rest (k : Nat) (u : Wv) (t : Tk) (w : World) (hs : SlW w u) (hF : Fit u) (hC : CpIn (gsD u.gs)) (ht : u.ts[k]? = some t) (hst : t.st = 2) (hu : usedB (gsD u.gs) t.gr = true) (hn : l1in t.ni (-10) 9 = true) (hm : setB t.ma = true) :
    Calls Tryz.prog 65 #[wvV u, .int .i64 (k : Int)] w fun e' w' => e' = .returned (.bool (taskOkB u t)) ∧ Below w.heap.size w w' := by
  obtain ⟨p1, l1, c1, p2, l2, c2, p3, l3, c3, e1, e2, e3, hv⟩ := wv_form hs
  have HV : Hid (wvV u = .agg #[.int .i64 u.now, .slice p1 l1 c1, .slice p2 l2 c2, .slice p3 l3 c3]) := hv
  rw [hv]
  obtain ⟨W1, hW1⟩ : ∃ W1, w.alloc (.cells #[.int .i64 u.now, .slice p1 l1 c1, .slice p2 l2 c2, .slice p3 l3 c3] 33) = W1 := ⟨_, rfl⟩
  obtain ⟨hA, acc0, hlt⟩ := boxed_w hs e1 e2 e3 hW1
  obtain ⟨tg, to, cap, m2, hr, hkl, hlen⟩ := hA.cellsT ht
  obtain ⟨x0, x1, x2, x3, x4, x5, x6, x7, x8⟩ := tk_cells hr
  obtain ⟨o0, o1, o2, o3⟩ := hA.cells
  rw [e1] at o1
  rw [e2] at o2
  rw [o2] at m2
  simp only [Option.some.injEq, Value.slice.injEq] at m2
  obtain ⟨rfl, rfl, rfl⟩ := m2
  rw [e3] at o3
  have HS : Hid (SlW w u) := hs
  have HZ : Hid (SlG W1 (.slice p3 l3 c3) u.gs) := by have := hA.2.2.2; rw [e3] at this; exact this
  obtain ⟨st, gr, cpu, ni, ma, v, su, us, lo⟩ := t
  dsimp only at hst
  subst hst
  obtain ⟨g, hgr, hgl, hug⟩ := usedB_yes hu
  dsimp only at hgr hu hn hm
  subst hgr
  have hg : g < 8 := by have := hF.g8; rw [gsD_length] at hgl; omega
  have hm2 := hm
  unfold setB at hm2
  simp only [Bool.and_eq_true, decide_eq_true_eq] at hm2
  obtain ⟨hm0, hmo⟩ := hm2
  have hmb : (ma == 0) = false := by simpa using hm0
  have hma : SetIn ma := l1in_iff.1 hmo
  dsimp only at x0 x1 x2 x3 x4 x5 x6 x7 x8 ⊢
  obtain ⟨W2, hW2⟩ : ∃ W2, W1.alloc (.cells #[.int .i64 2, .int .i64 (g : Int), .int .i64 cpu, .int .i64 ni, .int .i64 ma, .int .i64 v, .int .i64 su, .int .i64 us, .int .i64 lo] 68) = W2 := ⟨_, rfl⟩
  obtain ⟨B2, lg, hrg⟩ := boxed_task hW2
  have n0 : W2.cell? ⟨W1.heap.size, 0, none⟩ = some (.int .i64 2) := hrg 0 _ rfl
  have n1 : W2.cell? ⟨W1.heap.size, 1, none⟩ = some (.int .i64 (g : Int)) := hrg 1 _ rfl
  have n2 : W2.cell? ⟨W1.heap.size, 2, none⟩ = some (.int .i64 cpu) := hrg 2 _ rfl
  have n3 : W2.cell? ⟨W1.heap.size, 3, none⟩ = some (.int .i64 ni) := hrg 3 _ rfl
  have n4 : W2.cell? ⟨W1.heap.size, 4, none⟩ = some (.int .i64 ma) := hrg 4 _ rfl
  have n5 : W2.cell? ⟨W1.heap.size, 5, none⟩ = some (.int .i64 v) := hrg 5 _ rfl
  have n6 : W2.cell? ⟨W1.heap.size, 6, none⟩ = some (.int .i64 su) := hrg 6 _ rfl
  have n7 : W2.cell? ⟨W1.heap.size, 7, none⟩ = some (.int .i64 us) := hrg 7 _ rfl
  have n8 : W2.cell? ⟨W1.heap.size, 8, none⟩ = some (.int .i64 lo) := hrg 8 _ rfl
  have t0 := (B2.cell (p := ⟨w.heap.size, 0, none⟩) hlt).trans o0
  have t1 := (B2.cell (p := ⟨w.heap.size, 1, none⟩) hlt).trans o1
  have t2 := (B2.cell (p := ⟨w.heap.size, 2, none⟩) hlt).trans o2
  have t3 := (B2.cell (p := ⟨w.heap.size, 3, none⟩) hlt).trans o3
  have acc : Below w.heap.size w W2 := acc0.trans (B2.mono acc0.size)
  have HZ2 : Hid (SlG W2 (.slice p3 l3 c3) u.gs) := HZ.out.below B2
  clear hA hs hr e1 e2 e3 hv hrg
  have HU : Hid (usedB (gsD u.gs) (g : Int) = true) := hu
  have hwz := wof_pos hn
  have HM : Hid (setB ma = true) := hm
  obtain ⟨bv, HcV⟩ : ∃ b, l1in v 0 100000000000000000 = b := ⟨_, rfl⟩
  obtain ⟨bs, HcS⟩ : ∃ b, l1in su 0 100000000000000000 = b := ⟨_, rfl⟩
  obtain ⟨bu, HcU⟩ : ∃ b, l1in us 0 100000000000000000 = b := ⟨_, rfl⟩
  obtain ⟨bl, HcL⟩ : ∃ b, l1in lo 0 8000000 = b := ⟨_, rfl⟩
  obtain ⟨bw, HcH⟩ : ∃ b, Msk.hasB (whereM u.cs (gsD u.gs) g ma) cpu = b := ⟨_, rfl⟩
  have hwh : whereB u ⟨2, (g : Int), cpu, ni, ma, v, su, us, lo⟩ = bw := HcH
  have hnu : numB ⟨2, (g : Int), cpu, ni, ma, v, su, us, lo⟩ = (bv && (bs && (bu && bl))) := by unfold numB; rw [hn, hm, HcV, HcS, HcU]; show (true && (true && (bv && (bs && (bu && inBd 0 lo))))) = _; rw [inBd_l1in, HcL]; simp
  have HR0 : Hid (taskOkB u ⟨2, (g : Int), cpu, ni, ma, v, su, us, lo⟩ = ((bv && (bs && (bu && bl))) && (bw && true))) := by unfold Hid taskOkB; rw [hu, hnu, hwh]; simp
  have cV : ∀ d os, Calls Tryz.prog 101 #[.int .i64 v] (grow (redrawn W2 d) os) fun e' w'' => e' = .returned (.bool bv) ∧ ∃ p : Regrown, w'' = grow (redrawn W2 p.d) p.os := fun d os => by
    have h0 := l4Time_any v (grow (redrawn W2 d) os)
    rw [HcV] at h0
    exact Calls.regrown_of (h0.mono fun e' w' h => ⟨h.1, h.2 ▸ Below.refl _ _⟩)
  have cS : ∀ d os, Calls Tryz.prog 101 #[.int .i64 su] (grow (redrawn W2 d) os) fun e' w'' => e' = .returned (.bool bs) ∧ ∃ p : Regrown, w'' = grow (redrawn W2 p.d) p.os := fun d os => by
    have h0 := l4Time_any su (grow (redrawn W2 d) os)
    rw [HcS] at h0
    exact Calls.regrown_of (h0.mono fun e' w' h => ⟨h.1, h.2 ▸ Below.refl _ _⟩)
  have cU : ∀ d os, Calls Tryz.prog 101 #[.int .i64 us] (grow (redrawn W2 d) os) fun e' w'' => e' = .returned (.bool bu) ∧ ∃ p : Regrown, w'' = grow (redrawn W2 p.d) p.os := fun d os => by
    have h0 := l4Time_any us (grow (redrawn W2 d) os)
    rw [HcU] at h0
    exact Calls.regrown_of (h0.mono fun e' w' h => ⟨h.1, h.2 ▸ Below.refl _ _⟩)
  have cL : ∀ d os, Calls Tryz.prog 33 #[.int .i64 lo, .int .i64 0, .int .i64 8000000] (grow (redrawn W2 d) os) fun e' w'' => e' = .returned (.bool bl) ∧ ∃ p : Regrown, w'' = grow (redrawn W2 p.d) p.os := fun d os => by
    have h0 := l1In_any lo 0 8000000 (grow (redrawn W2 d) os)
    rw [HcL] at h0
    exact Calls.regrown_of (h0.mono fun e' w' h => ⟨h.1, h.2 ▸ Below.refl _ _⟩)
  have cH : ∀ d os, Calls Tryz.prog 87 #[.int .i64 (whereM u.cs (gsD u.gs) g ma), .int .i64 cpu] (grow (redrawn W2 d) os) fun e' w'' => e' = .returned (.bool bw) ∧ ∃ p : Regrown, w'' = grow (redrawn W2 p.d) p.os := fun d os => by
    have h0 := Msk.spec_has (whereM u.cs (gsD u.gs) g ma) cpu (grow (redrawn W2 d) os)
    rw [HcH] at h0
    exact Calls.regrown_of (h0.mono fun e' w' h => ⟨h.1, h.2 ▸ Below.refl _ _⟩)
  have cW : ∀ d os, Calls Tryz.prog 103 #[wvV u, .int .i64 (g : Int), .int .i64 ma] (grow (redrawn W2 d) os) fun e' w'' => e' = .returned (.int .i64 (whereM u.cs (gsD u.gs) g ma)) ∧ ∃ p : Regrown, w'' = grow (redrawn W2 p.d) p.os := fun d os => by
    have h0 := l8Where_any g ma u _ (HS.out.below (acc.trans ((below_regrown W2 d os).mono acc.size))) hF.n4 hF.tree hg hug
    rw [(where_eq hF.n4 hF.tree hC hg hug hma).1] at h0
    exact Calls.regrown_of h0
  rw [HV.out] at cW
  have HcH2 : Hid (Msk.hasB (whereM u.cs (gsD u.gs) g ma) cpu = bw) := HcH
  clear HcV HcS HcU HcL HcH hu hn hm hwh hnu ht
  have k0 := cell_regrown n0
  have k1 := cell_regrown n1
  have k2 := cell_regrown n2
  have k3 := cell_regrown n3
  have k4 := cell_regrown n4
  have k5 := cell_regrown n5
  have k6 := cell_regrown n6
  have k7 := cell_regrown n7
  have k8 := cell_regrown n8
  have j0 := cell_regrown t0
  have j1 := cell_regrown t1
  have j2 := cell_regrown t2
  have j3 := cell_regrown t3
  go_enter Tryz.func65, Tryz.ntmps65
  go_wp2_with (first | (go_at_call 55; refine (spec_used _ u.gs _ _ HZ2.out).mono ?_; rintro e1 w1 ⟨rfl, hw1⟩; subst w1; rw [HU.out]) | (go_at_call 72; refine (spec_wof _ _).mono ?_; rintro e1 w1 ⟨rfl, hw1⟩; subst w1) | (go_at_call 100; refine (spec_maskOk _ _).mono ?_; rintro e1 w1 ⟨rfl, hw1⟩; subst w1))
  refine wp_region_quiet_below (by kernel_rfl) (by kernel_rfl) ?_
  clear hW1 hW2
  cases bv
  · repeat (go_big_quiet_step (first | exact cV _ _ | exact cS _ _ | exact cU _ _ | exact cL _ _ | exact cW _ _ | exact cH _ _))
    refine wpQuiet_nil ?_
    rintro _ ⟨⟨dq, osq⟩, rfl⟩
    go_wp2
    go_ret
    exact ⟨by rw [HR0.out]; simp, acc.trans ((below_regrown W2 dq osq).mono acc.size)⟩
  · cases bs
    · repeat (go_big_quiet_step (first | exact cV _ _ | exact cS _ _ | exact cU _ _ | exact cL _ _ | exact cW _ _ | exact cH _ _))
      refine wpQuiet_nil ?_
      rintro _ ⟨⟨dq, osq⟩, rfl⟩
      go_wp2
      go_ret
      exact ⟨by rw [HR0.out]; simp, acc.trans ((below_regrown W2 dq osq).mono acc.size)⟩
    · cases bu
      · repeat (go_big_quiet_step (first | exact cV _ _ | exact cS _ _ | exact cU _ _ | exact cL _ _ | exact cW _ _ | exact cH _ _))
        refine wpQuiet_nil ?_
        rintro _ ⟨⟨dq, osq⟩, rfl⟩
        go_wp2
        go_ret
        exact ⟨by rw [HR0.out]; simp, acc.trans ((below_regrown W2 dq osq).mono acc.size)⟩
      · cases bl
        · repeat (go_big_quiet_step (first | exact cV _ _ | exact cS _ _ | exact cU _ _ | exact cL _ _ | exact cW _ _ | exact cH _ _))
          refine wpQuiet_nil ?_
          rintro _ ⟨⟨dq, osq⟩, rfl⟩
          go_wp2
          go_ret
          exact ⟨by rw [HR0.out]; simp, acc.trans ((below_regrown W2 dq osq).mono acc.size)⟩
        · cases bw
          · repeat (go_big_quiet_step (first | exact cV _ _ | exact cS _ _ | exact cU _ _ | exact cL _ _ | exact cW _ _ | exact cH _ _))
            refine wpQuiet_nil ?_
            rintro _ ⟨⟨dq, osq⟩, rfl⟩
            go_wp2
            go_ret
            exact ⟨by rw [HR0.out]; simp, acc.trans ((below_regrown W2 dq osq).mono acc.size)⟩
          · repeat (go_big_quiet_step (first | exact cV _ _ | exact cS _ _ | exact cU _ _ | exact cL _ _ | exact cW _ _ | exact cH _ _))
            refine wpQuiet_nil ?_
            rintro _ ⟨⟨dq, osq⟩, rfl⟩
            clear cV cS cU cL cW cH k0 k1 k2 k3 k4 k5 k6 k7 k8 j0 j1 j2 j3
            obtain ⟨c, hc, rfl⟩ := where_at hF.n4 hF.tree hC hg hug hma HcH2.out
            obtain ⟨V2, hV2⟩ : ∃ V2, grow (redrawn W2 dq) osq = V2 := ⟨_, rfl⟩
            have hb1 : Below W2.heap.size W2 V2 := by rw [← hV2]; exact below_regrown _ _ _
            rw [hV2]
            clear hV2
            replace n0 := (hb1.cell (p := ⟨W1.heap.size, 0, none⟩) lg).trans n0
            replace n1 := (hb1.cell (p := ⟨W1.heap.size, 1, none⟩) lg).trans n1
            replace n2 := (hb1.cell (p := ⟨W1.heap.size, 2, none⟩) lg).trans n2
            replace n3 := (hb1.cell (p := ⟨W1.heap.size, 3, none⟩) lg).trans n3
            replace n4 := (hb1.cell (p := ⟨W1.heap.size, 4, none⟩) lg).trans n4
            replace n5 := (hb1.cell (p := ⟨W1.heap.size, 5, none⟩) lg).trans n5
            replace n6 := (hb1.cell (p := ⟨W1.heap.size, 6, none⟩) lg).trans n6
            replace n7 := (hb1.cell (p := ⟨W1.heap.size, 7, none⟩) lg).trans n7
            replace n8 := (hb1.cell (p := ⟨W1.heap.size, 8, none⟩) lg).trans n8
            have lw : w.heap.size < W2.heap.size := Nat.lt_of_lt_of_le hlt B2.size
            replace t3 := (hb1.cell (p := ⟨w.heap.size, 3, none⟩) lw).trans t3
            have acc2 := acc.trans (hb1.mono acc.size)
            have HR : Hid (taskOkB u ⟨2, (g : Int), (c : Int), ni, ma, v, su, us, lo⟩ = true) := by unfold Hid; rw [HR0.out]; rfl
            have k0 := cell_regrown n0
            have k1 := cell_regrown n1
            have k2 := cell_regrown n2
            have k3 := cell_regrown n3
            have k4 := cell_regrown n4
            have k5 := cell_regrown n5
            have k6 := cell_regrown n6
            have k7 := cell_regrown n7
            have k8 := cell_regrown n8
            have j3 := cell_regrown t3
            go_wp2
            refine wp_region_quiet_below (by kernel_rfl) (by kernel_rfl) ?_
            repeat (go_big_quiet_step (fail))
            refine wpQuiet_nil ?_
            rintro _ ⟨⟨dq2, osq2⟩, rfl⟩
            go_wp2
            go_ret
            exact ⟨by rw [HR.out]; rfl, acc2.trans ((below_regrown V2 dq2 osq2).mono acc2.size)⟩
theorem l8TaskOk_any (k : Nat) (u : Wv) (t : Tk) (w : World) (hs : SlW w u) (hF : Fit u) (hC : CpIn (gsD u.gs)) (ht : u.ts[k]? = some t) :
    Calls Tryz.prog 65 #[wvV u, .int .i64 (k : Int)] w fun e' w' => e' = .returned (.bool (taskOkB u t)) ∧ Below w.heap.size w w' := by
  by_cases s0 : t.st = 0
  · exact specTask_none k u t w hs hF hC ht s0
  by_cases s1 : t.st = 1
  · cases hu : usedB (gsD u.gs) t.gr
    · exact specTask1_nogroup k u t w hs hF hC ht s1 hu
    · cases hn : l1in t.ni (-10) 9
      · exact specTask1_nonice k u t w hs hF hC ht s1 hu hn
      · cases hm : l1in t.ma 0 15
        · exact specTask1_nomask k u t w hs hF hC ht s1 hu hn hm
        · by_cases h0 : t.ma = 0
          · exact specTask1_nullmask k u t w hs hF hC ht s1 hu hn h0
          · exact specTask1_rest k u t w hs hF hC ht s1 hu hn (by unfold setB; rw [hm]; simp [h0])
  by_cases s2 : t.st = 2
  · cases hu : usedB (gsD u.gs) t.gr
    · exact specTask2_nogroup k u t w hs hF hC ht s2 hu
    · cases hn : l1in t.ni (-10) 9
      · exact specTask2_nonice k u t w hs hF hC ht s2 hu hn
      · cases hm : l1in t.ma 0 15
        · exact specTask2_nomask k u t w hs hF hC ht s2 hu hn hm
        · by_cases h0 : t.ma = 0
          · exact specTask2_nullmask k u t w hs hF hC ht s2 hu hn h0
          · exact specTask2_rest k u t w hs hF hC ht s2 hu hn (by unfold setB; rw [hm]; simp [h0])
  exact specTask_odd k u t w hs hF hC ht ⟨s0, s1, s2⟩
end Go.Proofs.YtnmmglkigiakaaaGreat
