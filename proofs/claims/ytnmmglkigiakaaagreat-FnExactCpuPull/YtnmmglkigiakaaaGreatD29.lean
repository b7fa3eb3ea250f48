/- The specification: whether a world is ok. -/
import Derived.Test.YtnmmglkigiakaaaGreatD23
import Derived.Test.YtnmmglkigiakaaaGreatD28
namespace Go.Proofs.YtnmmglkigiakaaaGreat
set_option maxRecDepth 100000
set_option maxHeartbeats 32000000
set_option linter.unusedVariables false
set_option linter.unusedSimpArgs false
open Go.ChangeShapes Go.WideShapes Go.ChangeAt Go.RowKit Go.Shelf Go.Sort
attribute [local go_sem] Oper.semAt_some
theorem AtW.forms {W : World} {b : Nat} {u : Wv} {p1 p2 p3 : Option Addr} {c1 c2 c3 : Nat} (hA : AtW W b u) (e1 : u.x = .slice p1 u.cs.length c1) (e2 : u.y = .slice p2 u.ts.length c2) (e3 : u.z = .slice p3 u.gs.length c3) :
    W.cell? ⟨b, 0, none⟩ = some (.int .i64 u.now) ∧ W.cell? ⟨b, 1, none⟩ = some (.slice p1 u.cs.length c1) ∧ W.cell? ⟨b, 2, none⟩ = some (.slice p2 u.ts.length c2) ∧ W.cell? ⟨b, 3, none⟩ = some (.slice p3 u.gs.length c3) := by
  obtain ⟨o0, o1, o2, o3⟩ := hA.cells
  rw [e1] at o1
  rw [e2] at o2
  rw [e3] at o3
  exact ⟨o0, o1, o2, o3⟩
theorem blurW {c : Code} {P : Program} {Q : Exit → Act → World → Prop} {a : Act} {w : World} (f : (Nat → Value) → Act) (ha : a = f (fun i => a.tmps.getD i undef)) (H : ∀ D, c.wp P Q (f D) w) : c.wp P Q a w := ha ▸ H _
theorem SlW.forms {W : World} {u : Wv} (hs : SlW W u) : ∃ p1 c1 p2 c2 p3 c3, u.x = .slice p1 u.cs.length c1 ∧ u.y = .slice p2 u.ts.length c2 ∧ u.z = .slice p3 u.gs.length c3 ∧ u.cs.length ≤ 9223372036854775807 ∧ u.ts.length ≤ 9223372036854775807 ∧ u.gs.length ≤ 9223372036854775807 := by
  obtain ⟨p1, c1, e1, h1⟩ := SlR.form hs.1
  obtain ⟨p2, c2, e2, h2⟩ := SlR.form hs.2.1
  obtain ⟨p3, c3, e3, h3⟩ := SlR.form hs.2.2.1
  exact ⟨p1, c1, p2, c2, p3, c3, e1, e2, e3, h1, h2, h3⟩
theorem specWorldOk_any (u : Wv) (w : World) (hs : SlW w u) (hf : GsFit u.gs) :
    Calls Tryz.prog 26 #[wvV u] w fun e' w' => e' = .returned (.bool (okS u)) ∧ Below w.heap.size w w' := by
  obtain ⟨p1, c1, p2, c2, p3, c3, e1, e2, e3, hl1, hl2, hl3⟩ := hs.forms
  have hv : wvV u = .agg #[.int .i64 u.now, .slice p1 u.cs.length c1, .slice p2 u.ts.length c2, .slice p3 u.gs.length c3] := by unfold wvV; rw [e1, e2, e3]
  have HV : Hid (wvV u = .agg #[.int .i64 u.now, .slice p1 u.cs.length c1, .slice p2 u.ts.length c2, .slice p3 u.gs.length c3]) := hv
  have hU : ∀ W, SlW W u → u.cs.length ≤ 4 → Calls Tryz.prog 63 #[wvV u] W fun e' w' => e' = .returned (.int .i64 (upsM u.cs)) ∧ Below W.heap.size W w' := fun W h hn => spec_ups u W h hn
  have hG : ∀ (k : Nat) W (e : Gv), u.gs[k]? = some e → SlW W u → Calls Tryz.prog 64 #[wvV u, .int .i64 (k : Int)] W fun e' w' => e' = .returned (.bool (groupAt u k)) ∧ Below W.heap.size W w' := fun k W e he h => by
    have h0 := l8GroupOk_any k u e W h he
    have : groupAt u k = groupB u.now u.cs.length k e.d := by unfold groupAt; rw [he]; rfl
    rw [← this] at h0; exact h0
  have hT : Fit u → CpIn (gsD u.gs) → ∀ (k : Nat) W (t : Tk), u.ts[k]? = some t → SlW W u → Calls Tryz.prog 65 #[wvV u, .int .i64 (k : Int)] W fun e' w' => e' = .returned (.bool (taskAt u k)) ∧ Below W.heap.size W w' := fun hF hC k W t ht h => by
    have h0 := l8TaskOk_any k u t W h hF hC ht
    have : taskAt u k = taskOkB u t := by unfold taskAt; rw [ht]; rfl
    rw [← this] at h0; exact h0
  have hS : Fit u → ∀ (k c : Nat) W (e : Gv) (s : Sh), u.gs[k]? = some e → e.d.sh[c]? = some s → c < u.cs.length → e.d.us = true → SlW W u → Calls Tryz.prog 66 #[wvV u, .int .i64 (k : Int), .int .i64 (c : Int)] W fun e' w' => e' = .returned (.bool (shelfAt u k c)) ∧ Below W.heap.size W w' := fun hF k c W e s he hsh hc hu h => by
    have h0 := l8ShelfOk_any k c u e s W h he hsh hF hc hu
    have : shelfAt u k c = shelfB u k c s := by unfold shelfAt; rw [he]; show ((e.d.sh[c]?).any (shelfB u k c)) = _; rw [hsh]; rfl
    rw [← this] at h0; exact h0
  have hP : Fit u → TGr u → ∀ (c : Nat) W (x : Cp), u.cs[c]? = some x → SlW W u → Calls Tryz.prog 67 #[wvV u, .int .i64 (c : Int)] W fun e' w' => e' = .returned (.bool (cpuAt u c)) ∧ Below W.heap.size W w' := fun hF hTG c W x hx h => by
    have h0 := l8CpuOk_any c u x W h hF hx hTG
    have : cpuAt u c = cpuSB u c x := by unfold cpuAt; rw [hx]; rfl
    rw [← this] at h0; exact h0
  rw [hv] at hU hG hT hS hP ⊢
  obtain ⟨W1, hW1⟩ : ∃ W1, w.alloc (.cells #[.int .i64 u.now, .slice p1 u.cs.length c1, .slice p2 u.ts.length c2, .slice p3 u.gs.length c3] 33) = W1 := ⟨_, rfl⟩
  obtain ⟨hA, acc, lw⟩ := boxed_w hs e1 e2 e3 hW1
  obtain ⟨t0, t1, t2, t3⟩ := hA.forms e1 e2 e3
  have HA : Hid (AtW W1 w.heap.size u) := hA
  have HS : Hid (SlW w u) := hs
  have HF : Hid (GsFit u.gs) := hf
  have HE : Hid (u.x = .slice p1 u.cs.length c1 ∧ u.y = .slice p2 u.ts.length c2 ∧ u.z = .slice p3 u.gs.length c3) := ⟨e1, e2, e3⟩
  have HZ : Hid (SlG w (.slice p3 u.gs.length c3) u.gs) := by have := hs.2.2; rw [e3] at this; exact this
  have hn4 : l1in (u.cs.length : Int) 1 4 = true → u.cs.length ≤ 4 := fun h => by have := (l1in_iff.1 h).2; omega
  obtain ⟨um, hum⟩ : ∃ m, upsM u.cs = m := ⟨_, rfl⟩
  have HUM : Hid (upsM u.cs = um) := hum
  have accH : Below W1.heap.size W1 W1 := Below.refl _ _
  clear hA hs hf e1 e2 e3 hv hum
  cases h0 : l1in u.now 0 100000000000000000
  · have HR : Hid (okS u = false) := by unfold Hid; simp [okS, placesB, timeB, HUM.out, ← Int.natCast_inj, h0]
    go_enter Tryz.func26, Tryz.ntmps26
    go_wp2_with (first | (go_at_call 33; refine (l1In_any _ _ _ _).mono ?_; rintro e1 w1 ⟨rfl, hw1⟩; subst w1) | (go_at_call 62; refine (spec_tree _ u.gs _ ((HZ.out).below acc) HF.out).mono ?_; rintro e1 V1 ⟨rfl, hb1⟩; obtain ⟨t0, t1, t2, t3⟩ := cells_4 hb1 lw t0 t1 t2 t3; have lw := Nat.lt_of_lt_of_le lw hb1.size; replace accH := accH.trans (hb1.mono accH.size); replace acc := acc.trans (hb1.mono acc.size); clear hb1) | (go_at_call 63; refine (hU _ (HS.out.below acc) (hn4 h1)).mono ?_; rintro e1 V ⟨rfl, hb1⟩; rw [HUM.out]; obtain ⟨t0, t1, t2, t3⟩ := cells_4 hb1 lw t0 t1 t2 t3; have lw := Nat.lt_of_lt_of_le lw hb1.size; replace accH := accH.trans (hb1.mono accH.size); replace acc := acc.trans (hb1.mono acc.size); clear hb1))
    go_ret
    refine ⟨?_, acc⟩
    first | exact ret_bool HR.out.symm | (rw [HR.out]; simp [h0]; done) | (rw [HR.out]; simp [h0]; omega)
  · cases h1 : l1in (u.cs.length : Int) 1 4
    · have HR : Hid (okS u = false) := by unfold Hid; simp [okS, placesB, timeB, HUM.out, ← Int.natCast_inj, h0, h1]
      go_enter Tryz.func26, Tryz.ntmps26
      go_wp2_with (first | (go_at_call 33; refine (l1In_any _ _ _ _).mono ?_; rintro e1 w1 ⟨rfl, hw1⟩; subst w1) | (go_at_call 62; refine (spec_tree _ u.gs _ ((HZ.out).below acc) HF.out).mono ?_; rintro e1 V1 ⟨rfl, hb1⟩; obtain ⟨t0, t1, t2, t3⟩ := cells_4 hb1 lw t0 t1 t2 t3; have lw := Nat.lt_of_lt_of_le lw hb1.size; replace accH := accH.trans (hb1.mono accH.size); replace acc := acc.trans (hb1.mono acc.size); clear hb1) | (go_at_call 63; refine (hU _ (HS.out.below acc) (hn4 h1)).mono ?_; rintro e1 V ⟨rfl, hb1⟩; rw [HUM.out]; obtain ⟨t0, t1, t2, t3⟩ := cells_4 hb1 lw t0 t1 t2 t3; have lw := Nat.lt_of_lt_of_le lw hb1.size; replace accH := accH.trans (hb1.mono accH.size); replace acc := acc.trans (hb1.mono acc.size); clear hb1))
      go_ret
      refine ⟨?_, acc⟩
      first | exact ret_bool HR.out.symm | (rw [HR.out]; simp [h0, h1]; done) | (rw [HR.out]; simp [h0, h1]; omega)
    · by_cases h2 : (u.ts.length : Int) = 12
      · cases h3 : treeB (gsD u.gs)
        · have HR : Hid (okS u = false) := by unfold Hid; simp [okS, placesB, timeB, HUM.out, ← Int.natCast_inj, h0, h1, h2, h3]
          go_enter Tryz.func26, Tryz.ntmps26
          go_wp2_with (first | (go_at_call 33; refine (l1In_any _ _ _ _).mono ?_; rintro e1 w1 ⟨rfl, hw1⟩; subst w1) | (go_at_call 62; refine (spec_tree _ u.gs _ ((HZ.out).below acc) HF.out).mono ?_; rintro e1 V1 ⟨rfl, hb1⟩; obtain ⟨t0, t1, t2, t3⟩ := cells_4 hb1 lw t0 t1 t2 t3; have lw := Nat.lt_of_lt_of_le lw hb1.size; replace accH := accH.trans (hb1.mono accH.size); replace acc := acc.trans (hb1.mono acc.size); clear hb1) | (go_at_call 63; refine (hU _ (HS.out.below acc) (hn4 h1)).mono ?_; rintro e1 V ⟨rfl, hb1⟩; rw [HUM.out]; obtain ⟨t0, t1, t2, t3⟩ := cells_4 hb1 lw t0 t1 t2 t3; have lw := Nat.lt_of_lt_of_le lw hb1.size; replace accH := accH.trans (hb1.mono accH.size); replace acc := acc.trans (hb1.mono acc.size); clear hb1))
          go_ret
          refine ⟨?_, acc⟩
          first | exact ret_bool HR.out.symm | (rw [HR.out]; simp [h0, h1, h2, h3]; done) | (rw [HR.out]; simp [h0, h1, h2, h3]; omega)
        · by_cases h4 : um = 0
          · subst h4
            have HR : Hid (okS u = false) := by unfold Hid; simp [okS, placesB, timeB, HUM.out, ← Int.natCast_inj, h0, h1, h2, h3]
            go_enter Tryz.func26, Tryz.ntmps26
            go_wp2_with (first | (go_at_call 33; refine (l1In_any _ _ _ _).mono ?_; rintro e1 w1 ⟨rfl, hw1⟩; subst w1) | (go_at_call 62; refine (spec_tree _ u.gs _ ((HZ.out).below acc) HF.out).mono ?_; rintro e1 V1 ⟨rfl, hb1⟩; obtain ⟨t0, t1, t2, t3⟩ := cells_4 hb1 lw t0 t1 t2 t3; have lw := Nat.lt_of_lt_of_le lw hb1.size; replace accH := accH.trans (hb1.mono accH.size); replace acc := acc.trans (hb1.mono acc.size); clear hb1) | (go_at_call 63; refine (hU _ (HS.out.below acc) (hn4 h1)).mono ?_; rintro e1 V ⟨rfl, hb1⟩; rw [HUM.out]; obtain ⟨t0, t1, t2, t3⟩ := cells_4 hb1 lw t0 t1 t2 t3; have lw := Nat.lt_of_lt_of_le lw hb1.size; replace accH := accH.trans (hb1.mono accH.size); replace acc := acc.trans (hb1.mono acc.size); clear hb1))
            go_ret
            refine ⟨?_, acc⟩
            first | exact ret_bool HR.out.symm | (rw [HR.out]; simp [h0, h1, h2, h3]; done) | (rw [HR.out]; simp [h0, h1, h2, h3]; omega)
          · have acc0 : Hid (Below w.heap.size w W1) := acc
            have hPl : Hid (placesB u = true) := by unfold Hid placesB timeB; rw [h0, h1, h3, HUM.out]; simp [h4, ← Int.natCast_inj, h2]
            go_enter Tryz.func26, Tryz.ntmps26
            go_wp2_with (first | (go_at_call 33; refine (l1In_any _ _ _ _).mono ?_; rintro e1 w1 ⟨rfl, hw1⟩; subst w1) | (go_at_call 62; refine (spec_tree _ u.gs _ ((HZ.out).below acc) HF.out).mono ?_; rintro e1 V1 ⟨rfl, hb1⟩; obtain ⟨t0, t1, t2, t3⟩ := cells_4 hb1 lw t0 t1 t2 t3; have lw := Nat.lt_of_lt_of_le lw hb1.size; replace accH := accH.trans (hb1.mono accH.size); replace acc := acc.trans (hb1.mono acc.size); clear hb1) | (go_at_call 63; refine (hU _ (HS.out.below acc) (hn4 h1)).mono ?_; rintro e1 V ⟨rfl, hb1⟩; rw [HUM.out]; obtain ⟨t0, t1, t2, t3⟩ := cells_4 hb1 lw t0 t1 t2 t3; have lw := Nat.lt_of_lt_of_le lw hb1.size; replace accH := accH.trans (hb1.mono accH.size); replace acc := acc.trans (hb1.mono acc.size); clear hb1))
            refine blurW (fun D : Nat → Value => { tmps := #[D 0, .pointer (some ⟨w.heap.size, 0, none⟩), D 2, .int .i64 0, D 4, D 5, D 6, D 7, D 8, D 9, D 10, D 11, D 12, D 13, D 14, D 15, D 16, D 17, D 18, D 19, D 20, D 21, D 22, D 23, D 24, D 25, D 26, D 27, D 28, D 29, D 30, D 31, D 32, D 33, D 34, D 35, D 36, D 37, D 38, D 39, D 40, D 41, D 42, D 43, D 44, D 45, D 46, D 47, D 48, D 49, D 50, D 51, D 52, D 53, D 54, D 55, D 56, D 57, D 58, D 59, D 60, D 61, D 62, D 63, D 64, D 65, D 66, D 67, D 68, D 69, D 70, D 71, D 72, D 73, D 74, D 75, D 76, D 77, D 78, D 79, D 80, D 81, D 82, D 83, D 84, D 85, D 86, D 87, D 88, D 89, D 90, D 91], defers := [] }) rfl ?_
            intro D
            dsimp only
            clear h0 h1 h2 h3 h4 hn4 hU t0 t1 t2 t3 hW1
            have hbH := accH
            go_loopw [3] (fun tt wr => ∃ k : Nat, k ≤ u.gs.length ∧ tt = .int .i64 (k : Int) ∧ Below W1.heap.size W1 wr ∧ ∀ i, i < k → groupAt u i = true) (fun tt _ => u.gs.length - (intOf tt).toNat)
            case atStart => exact ⟨0, Nat.zero_le _, rfl, hbH, fun i hi => absurd hi (Nat.not_lt_zero _)⟩
            case round =>
              obtain ⟨k, hk, rfl, hb, hall⟩ := hrel
              have HALL : Hid (∀ i, i < k → groupAt u i = true) := hall
              clear hall
              obtain ⟨b0, b1, b2, b3⟩ := (HA.out.below hb).forms HE.out.1 HE.out.2.1 HE.out.2.2
              by_cases hlt : k < u.gs.length
              · have hlt' : (k : Int) < (u.gs.length : Int) := by omega
                obtain ⟨e, he⟩ : ∃ e, u.gs[k]? = some e := ⟨_, List.getElem?_eq_getElem hlt⟩
                obtain ⟨gb, hgb⟩ : ∃ b, groupAt u k = b := ⟨_, rfl⟩
                have hq := hG k wr e he (HS.out.below (acc0.out.trans (hb.mono acc0.out.size)))
                rw [hgb] at hq
                have HG : Hid (groupAt u k = gb) := hgb
                have HW : Hid (Below w.heap.size w wr) := acc0.out.trans (hb.mono acc0.out.size)
                clear hgb
                cases gb
                · go_wp2_with (go_at_call 64; refine hq.mono ?_; rintro e' w' ⟨rfl, hb2⟩)
                  go_ret
                  refine ⟨?_, HW.out.trans (hb2.mono HW.out.size)⟩
                  have HX : Hid (okS u = false) := by unfold Hid okS groupsB; rw [all_range_no hlt HG.out]; simp
                  rw [HX.out]; rfl
                · go_wp2_with (go_at_call 64; refine hq.mono ?_; rintro e' w' ⟨rfl, hb2⟩; obtain ⟨b0, b1, b2, b3⟩ := (HA.out.below (hb.trans (hb2.mono hb.size))).forms HE.out.1 HE.out.2.1 HE.out.2.2)
                  have NX : ∀ i, i < k + 1 → groupAt u i = true := fun i hi => (Nat.lt_succ_iff_lt_or_eq.1 hi).elim (HALL.out i) (fun h => h ▸ HG.out)
                  have hbn := hb.trans (hb2.mono hb.size)
                  have HM : u.gs.length - ((k : Int) + 1).toNat < u.gs.length - (k : Int).toNat := by omega
                  first
                  | exact ⟨⟨k + 1, hlt, by go_num, hbn, NX⟩, HM⟩
                  | (refine ⟨?_, HM⟩
                     repeat apply Exists.intro
                     refine ⟨⟨k + 1, hlt, by go_num, hbn, NX⟩, rfl⟩)
              · have hlt' : ¬ (k : Int) < (u.gs.length : Int) := by omega
                obtain rfl : k = u.gs.length := by omega
                have hgG0 := all_range.2 HALL.out
                clear HALL hlt hk
                have hGr : Hid (groupsB u = true) := hgG0
                have hFit : Hid (Fit u) := (fit_of hPl.out hGr.out).1
                have hCp : Hid (CpIn (gsD u.gs)) := (fit_of hPl.out hGr.out).2
                clear hgG0 b0
                have hbG := hb
                go_wp2
                go_loopw [4] (fun tt wr => ∃ k : Nat, k ≤ u.ts.length ∧ tt = .int .i64 (k : Int) ∧ Below W1.heap.size W1 wr ∧ ∀ i, i < k → taskAt u i = true) (fun tt _ => u.ts.length - (intOf tt).toNat)
                case atStart => exact ⟨0, Nat.zero_le _, rfl, hbG, fun i hi => absurd hi (Nat.not_lt_zero _)⟩
                case round =>
                  obtain ⟨k, hk, rfl, hb, hall⟩ := hrel
                  have HALL : Hid (∀ i, i < k → taskAt u i = true) := hall
                  clear hall
                  obtain ⟨b0, b1, b2, b3⟩ := (HA.out.below hb).forms HE.out.1 HE.out.2.1 HE.out.2.2
                  by_cases hlt : k < u.ts.length
                  · have hlt' : (k : Int) < (u.ts.length : Int) := by omega
                    obtain ⟨t, ht⟩ : ∃ t, u.ts[k]? = some t := ⟨_, List.getElem?_eq_getElem hlt⟩
                    obtain ⟨gb, hgb⟩ : ∃ b, taskAt u k = b := ⟨_, rfl⟩
                    have hq := hT hFit.out hCp.out k wr t ht (HS.out.below (acc0.out.trans (hb.mono acc0.out.size)))
                    rw [hgb] at hq
                    have HG : Hid (taskAt u k = gb) := hgb
                    have HW : Hid (Below w.heap.size w wr) := acc0.out.trans (hb.mono acc0.out.size)
                    clear hgb
                    cases gb
                    · go_wp2_with (go_at_call 65; refine hq.mono ?_; rintro e' w' ⟨rfl, hb2⟩)
                      go_ret
                      refine ⟨?_, HW.out.trans (hb2.mono HW.out.size)⟩
                      have HX : Hid (okS u = false) := by unfold Hid okS tasksB; rw [all_range_no hlt HG.out]; simp
                      rw [HX.out]; rfl
                    · go_wp2_with (go_at_call 65; refine hq.mono ?_; rintro e' w' ⟨rfl, hb2⟩; obtain ⟨b0, b1, b2, b3⟩ := (HA.out.below (hb.trans (hb2.mono hb.size))).forms HE.out.1 HE.out.2.1 HE.out.2.2)
                      have NX : ∀ i, i < k + 1 → taskAt u i = true := fun i hi => (Nat.lt_succ_iff_lt_or_eq.1 hi).elim (HALL.out i) (fun h => h ▸ HG.out)
                      have hbn := hb.trans (hb2.mono hb.size)
                      have HM : u.ts.length - ((k : Int) + 1).toNat < u.ts.length - (k : Int).toNat := by omega
                      first
                      | exact ⟨⟨k + 1, hlt, by go_num, hbn, NX⟩, HM⟩
                      | (refine ⟨?_, HM⟩
                         repeat apply Exists.intro
                         refine ⟨⟨k + 1, hlt, by go_num, hbn, NX⟩, rfl⟩)
                  · have hlt' : ¬ (k : Int) < (u.ts.length : Int) := by omega
                    obtain rfl : k = u.ts.length := by omega
                    have hgT0 := all_range.2 HALL.out
                    clear HALL hlt hk
                    have hTs : Hid (tasksB u = true) := hgT0
                    have hTG : Hid (TGr u) := tgr_of hFit.out hTs.out
                    clear hgT0 b0
                    have hbT := hb
                    go_wp2
                    go_loopw [5] (fun tt wr => ∃ k : Nat, k ≤ u.gs.length ∧ tt = .int .i64 (k : Int) ∧ Below W1.heap.size W1 wr ∧ ∀ i, i < k → shelvesAt u i = true) (fun tt _ => u.gs.length - (intOf tt).toNat)
                    case atStart => exact ⟨0, Nat.zero_le _, rfl, hbT, fun i hi => absurd hi (Nat.not_lt_zero _)⟩
                    case round =>
                      obtain ⟨k, hk, rfl, hb, hall⟩ := hrel
                      obtain ⟨wo, hwo⟩ : ∃ W, W = wr := ⟨_, rfl⟩
                      subst hwo
                      have HALL : Hid (∀ i, i < k → shelvesAt u i = true) := hall
                      clear hall
                      obtain ⟨b0, b1, b2, b3⟩ := (HA.out.below hb).forms HE.out.1 HE.out.2.1 HE.out.2.2
                      by_cases hlt : k < u.gs.length
                      · have hlt' : (k : Int) < (u.gs.length : Int) := by omega
                        obtain ⟨e, he⟩ : ∃ e, u.gs[k]? = some e := ⟨_, List.getElem?_eq_getElem hlt⟩
                        have HE2 : Hid (u.gs[k]? = some e) := he
                        have HSA : Hid (shelvesAt u k = (List.range e.d.sh.length).all (shelfAt u k)) := by unfold Hid shelvesAt; rw [he]; rfl
                        have HLEN : Hid (e.d.us = true → e.d.sh.length = u.cs.length) := fun hu => hFit.out.sh k e he hu
                        have HFR : Hid (e.d.us = false → e.d.sh.length = 0) := fun hu => (group_free (groups_at hGr.out he) hu).2
                        obtain ⟨gr, go, cap, w3, hr, _, _⟩ := (HA.out.below hb).cellsG he
                        rw [b3] at w3
                        simp only [Option.some.injEq, Value.slice.injEq] at w3
                        obtain ⟨q1, q2, q3⟩ := w3
                        clear q2
                        subst q1 q3
                        obtain ⟨_, _, _, _, _, _, _, _, _, _, _, _, _, y13⟩ := gv_cells hr
                        have lgr := block_lt_of_cell y13
                        dsimp only at lgr
                        obtain ⟨pz, cz, hz, hsl⟩ := SlR.form ((HA.out.below hb).sh he)
                        rw [hz] at y13
                        have lwr : w.heap.size < wo.heap.size := block_lt_of_cell b0
                        clear hr hz he
                        go_wp2
                        go_loopw [6] (fun tt wq => ∃ c : Nat, c ≤ e.d.sh.length ∧ tt = .int .i64 (c : Int) ∧ Below wo.heap.size wo wq ∧ ∀ i, i < c → shelfAt u k i = true) (fun tt _ => e.d.sh.length - (intOf tt).toNat)
                        case atStart => exact ⟨0, Nat.zero_le _, rfl, Below.refl _ _, fun i hi => absurd hi (Nat.not_lt_zero _)⟩
                        case round =>
                          obtain ⟨c, hc, rfl, hd, hall2⟩ := hrel
                          have HALL2 : Hid (∀ i, i < c → shelfAt u k i = true) := hall2
                          clear hall2
                          have hbd : Below W1.heap.size W1 wr := hb.trans (hd.mono hb.size)
                          obtain ⟨d0, d1, d2, d3⟩ := (HA.out.below hbd).forms HE.out.1 HE.out.2.1 HE.out.2.2
                          have z13 := (hd.cell (p := ⟨gr, go + k * 14 + 13, none⟩) lgr).trans y13
                          by_cases hlc : c < e.d.sh.length
                          · have hlc' : (c : Int) < (e.d.sh.length : Int) := by omega
                            have hus : e.d.us = true := by cases hu : e.d.us with | false => (have := HFR.out hu; omega) | true => rfl
                            have hcc : c < u.cs.length := by have := HLEN.out hus; omega
                            obtain ⟨s, hsh⟩ : ∃ s, e.d.sh[c]? = some s := ⟨_, List.getElem?_eq_getElem hlc⟩
                            obtain ⟨gb, hgb⟩ : ∃ b, shelfAt u k c = b := ⟨_, rfl⟩
                            have hq := hS hFit.out k c wr e s HE2.out hsh hcc hus (HS.out.below (acc0.out.trans (hbd.mono acc0.out.size)))
                            rw [hgb] at hq
                            have HG : Hid (shelfAt u k c = gb) := hgb
                            have HW : Hid (Below w.heap.size w wr) := acc0.out.trans (hbd.mono acc0.out.size)
                            clear hgb hsh hus
                            cases gb
                            · go_wp2_with (go_at_call 66; refine hq.mono ?_; rintro e' w' ⟨rfl, hb2⟩)
                              go_ret
                              refine ⟨?_, HW.out.trans (hb2.mono HW.out.size)⟩
                              have HX : Hid (okS u = false) := by
                                unfold Hid okS shelvesB
                                rw [all_range_no (k := k) hlt (by rw [HSA.out]; exact all_range_no hlc HG.out)]; simp
                              rw [HX.out]; rfl
                            · go_wp2_with (go_at_call 66; refine hq.mono ?_; rintro e' w' ⟨rfl, hb2⟩; have hd2 := hd.trans (hb2.mono hd.size); obtain ⟨d0, d1, d2, d3⟩ := (HA.out.below (hb.trans (hd2.mono hb.size))).forms HE.out.1 HE.out.2.1 HE.out.2.2; have z13 := (hd2.cell (p := ⟨gr, go + k * 14 + 13, none⟩) lgr).trans y13)
                              have NX : ∀ i, i < c + 1 → shelfAt u k i = true := fun i hi => (Nat.lt_succ_iff_lt_or_eq.1 hi).elim (HALL2.out i) (fun h => h ▸ HG.out)
                              have hbn := hd.trans (hb2.mono hd.size)
                              have HM : e.d.sh.length - ((c : Int) + 1).toNat < e.d.sh.length - (c : Int).toNat := by omega
                              first
                              | exact ⟨⟨c + 1, hlc, by go_num, hbn, NX⟩, HM⟩
                              | (refine ⟨?_, HM⟩
                                 repeat apply Exists.intro
                                 refine ⟨⟨c + 1, hlc, by go_num, hbn, NX⟩, rfl⟩)
                          · have hlc' : ¬ (c : Int) < (e.d.sh.length : Int) := by omega
                            obtain rfl : c = e.d.sh.length := by omega
                            have HK : Hid (shelvesAt u k = true) := by unfold Hid; rw [HSA.out]; exact all_range.2 HALL2.out
                            go_wp2
                            have NX : ∀ i, i < k + 1 → shelvesAt u i = true := fun i hi => (Nat.lt_succ_iff_lt_or_eq.1 hi).elim (HALL.out i) (fun h => h ▸ HK.out)
                            have HM : u.gs.length - ((k : Int) + 1).toNat < u.gs.length - (k : Int).toNat := by omega
                            first
                            | exact ⟨⟨k + 1, hlt, by go_num, hbd, NX⟩, HM⟩
                            | (refine ⟨?_, HM⟩
                               repeat apply Exists.intro
                               refine ⟨⟨k + 1, hlt, by go_num, hbd, NX⟩, rfl⟩)
                      · have hlt' : ¬ (k : Int) < (u.gs.length : Int) := by omega
                        obtain rfl : k = u.gs.length := by omega
                        have hgS0 := all_range.2 HALL.out
                        clear HALL hlt hk
                        have hSh : Hid (shelvesB u = true) := hgS0
                        clear hgS0 b0
                        have hbS := hb
                        go_wp2
                        go_loopw [7] (fun tt wr => ∃ k : Nat, k ≤ u.cs.length ∧ tt = .int .i64 (k : Int) ∧ Below W1.heap.size W1 wr ∧ ∀ i, i < k → cpuAt u i = true) (fun tt _ => u.cs.length - (intOf tt).toNat)
                        case atStart => exact ⟨0, Nat.zero_le _, rfl, hbS, fun i hi => absurd hi (Nat.not_lt_zero _)⟩
                        case round =>
                          obtain ⟨k, hk, rfl, hb, hall⟩ := hrel
                          have HALL : Hid (∀ i, i < k → cpuAt u i = true) := hall
                          clear hall
                          obtain ⟨b0, b1, b2, b3⟩ := (HA.out.below hb).forms HE.out.1 HE.out.2.1 HE.out.2.2
                          by_cases hlt : k < u.cs.length
                          · have hlt' : (k : Int) < (u.cs.length : Int) := by omega
                            obtain ⟨x, hx⟩ : ∃ x, u.cs[k]? = some x := ⟨_, List.getElem?_eq_getElem hlt⟩
                            obtain ⟨gb, hgb⟩ : ∃ b, cpuAt u k = b := ⟨_, rfl⟩
                            have hq := hP hFit.out hTG.out k wr x hx (HS.out.below (acc0.out.trans (hb.mono acc0.out.size)))
                            rw [hgb] at hq
                            have HG : Hid (cpuAt u k = gb) := hgb
                            have HW : Hid (Below w.heap.size w wr) := acc0.out.trans (hb.mono acc0.out.size)
                            clear hgb
                            cases gb
                            · go_wp2_with (go_at_call 67; refine hq.mono ?_; rintro e' w' ⟨rfl, hb2⟩)
                              go_ret
                              refine ⟨?_, HW.out.trans (hb2.mono HW.out.size)⟩
                              have HX : Hid (okS u = false) := by unfold Hid okS cpusB; rw [all_range_no hlt HG.out]; simp
                              rw [HX.out]; rfl
                            · go_wp2_with (go_at_call 67; refine hq.mono ?_; rintro e' w' ⟨rfl, hb2⟩; obtain ⟨b0, b1, b2, b3⟩ := (HA.out.below (hb.trans (hb2.mono hb.size))).forms HE.out.1 HE.out.2.1 HE.out.2.2)
                              have NX : ∀ i, i < k + 1 → cpuAt u i = true := fun i hi => (Nat.lt_succ_iff_lt_or_eq.1 hi).elim (HALL.out i) (fun h => h ▸ HG.out)
                              have hbn := hb.trans (hb2.mono hb.size)
                              have HM : u.cs.length - ((k : Int) + 1).toNat < u.cs.length - (k : Int).toNat := by omega
                              first
                              | exact ⟨⟨k + 1, hlt, by go_num, hbn, NX⟩, HM⟩
                              | (refine ⟨?_, HM⟩
                                 repeat apply Exists.intro
                                 refine ⟨⟨k + 1, hlt, by go_num, hbn, NX⟩, rfl⟩)
                          · have hlt' : ¬ (k : Int) < (u.cs.length : Int) := by omega
                            obtain rfl : k = u.cs.length := by omega
                            have hgP0 := all_range.2 HALL.out
                            clear HALL hlt hk
                            have HX : Hid (okS u = true) := by unfold Hid okS; rw [hPl.out, hGr.out, hTs.out, hSh.out]; exact hgP0
                            go_wp2
                            go_ret
                            exact ⟨by rw [HX.out]; rfl, acc0.out.trans (hb.mono acc0.out.size)⟩
      · have HR : Hid (okS u = false) := by unfold Hid; simp [okS, placesB, timeB, HUM.out, ← Int.natCast_inj, h0, h1, h2]
        have h2q : ((u.ts.length : Int) == 12) = false := by simpa using h2
        have h2p : ((u.ts.length : Int) != 12) = true := by simpa using h2
        go_enter Tryz.func26, Tryz.ntmps26
        go_wp2_with (first | (go_at_call 33; refine (l1In_any _ _ _ _).mono ?_; rintro e1 w1 ⟨rfl, hw1⟩; subst w1) | (go_at_call 62; refine (spec_tree _ u.gs _ ((HZ.out).below acc) HF.out).mono ?_; rintro e1 V1 ⟨rfl, hb1⟩; obtain ⟨t0, t1, t2, t3⟩ := cells_4 hb1 lw t0 t1 t2 t3; have lw := Nat.lt_of_lt_of_le lw hb1.size; replace accH := accH.trans (hb1.mono accH.size); replace acc := acc.trans (hb1.mono acc.size); clear hb1) | (go_at_call 63; refine (hU _ (HS.out.below acc) (hn4 h1)).mono ?_; rintro e1 V ⟨rfl, hb1⟩; rw [HUM.out]; obtain ⟨t0, t1, t2, t3⟩ := cells_4 hb1 lw t0 t1 t2 t3; have lw := Nat.lt_of_lt_of_le lw hb1.size; replace accH := accH.trans (hb1.mono accH.size); replace acc := acc.trans (hb1.mono acc.size); clear hb1))
        go_ret
        refine ⟨?_, acc⟩
        first | exact ret_bool HR.out.symm | (rw [HR.out]; simp [h0, h1, h2]; done) | (rw [HR.out]; simp [h0, h1, h2]; omega)
end Go.Proofs.YtnmmglkigiakaaaGreat
