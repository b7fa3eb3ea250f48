/- WorldDry, the program's and the specification's. -/
import Derived.Test.YthplehohpihfpaaGreatC46
import Derived.Test.YthplehohpihfpaaGreatC05
namespace Go.Proofs.YthplehohpihfpaaGreat
set_option linter.unusedVariables false
set_option linter.unusedSimpArgs false
open Go.ChangeShapes Go.WideShapes Go.ChangeAt Go.RowKit Go.Shelf Go.Sort
attribute [local go_sem] Oper.semAt_some
/-- an ok world fits. -/
theorem okS_fit {u : Wv} (h : okS u = true) : placesB u = true ∧ groupsB u = true ∧ tasksB u = true ∧ Fit u ∧ CpIn (gsD u.gs) := by
  unfold okS at h
  simp only [Bool.and_eq_true] at h
  obtain ⟨h1, h2, h3, _⟩ := h
  exact ⟨h1, h2, h3, (fit_of h1 h2).1, (fit_of h1 h2).2⟩
def dryAt (u : Wv) (g c : Int) : Bool := usedB (gsD u.gs) g && (cpuB u.cs c && (u.gs[g.toNat]?).any (fun e => dryB e.d.ba c.toNat))
def dryS (u : Wv) (g c : Int) : Bool := okS u && dryAt u g c
theorem cpuB_nat {cs : List Cp} {c : Int} (h : cpuB cs c = true) : ∃ k : Nat, c = (k : Int) ∧ k < cs.length := by
  unfold cpuB at h
  simp only [Bool.and_eq_true, decide_eq_true_eq] at h
  obtain ⟨k, rfl⟩ := Int.eq_ofNat_of_zero_le h.1
  exact ⟨k, rfl, by omega⟩
set_option maxRecDepth 100000 in
set_option maxHeartbeats 16000000 in
theorem implDry_any (g c : Int) (u : Wv) (w : World) (hs : SlW w u) (hf : GsFit u.gs) :
    Calls Tryz.prog 21 #[wvV u, .int .i64 g, .int .i64 c] w fun e' w' => e' = .returned (.bool (dryS u g c)) ∧ Below w.heap.size w w' := by
  obtain ⟨p1, c1, p2, c2, p3, c3, e1, e2, e3, hl1, hl2, hl3⟩ := hs.forms
  have hv : wvV u = .agg #[.int .i64 u.now, .slice p1 u.cs.length c1, .slice p2 u.ts.length c2, .slice p3 u.gs.length c3] := by unfold wvV; rw [e1, e2, e3]
  obtain ⟨W1, hW1⟩ : ∃ W1, w.alloc (.cells #[.int .i64 u.now, .slice p1 u.cs.length c1, .slice p2 u.ts.length c2, .slice p3 u.gs.length c3] 33) = W1 := ⟨_, rfl⟩
  obtain ⟨hA, acc, lw⟩ := boxed_w hs e1 e2 e3 hW1
  obtain ⟨t0, t1, t2, t3⟩ := hA.forms e1 e2 e3
  have HA : Hid (AtW W1 w.heap.size u) := hA
  have HS : Hid (SlW w u) := hs
  have HZ : Hid (SlG w (.slice p3 u.gs.length c3) u.gs) := by have := hs.2.2; rw [e3] at this; exact this
  obtain ⟨ok, hok⟩ : ∃ b, okS u = b := ⟨_, rfl⟩
  have HO : Hid (okS u = ok) := hok
  have accH : Below W1.heap.size W1 W1 := Below.refl _ _
  have hK : ∀ W, SlW W u → Calls Tryz.prog 12 #[wvV u] W fun e' w' => e' = .returned (.bool ok) ∧ Below W.heap.size W w' := fun W h => by rw [← hok]; exact implWorldOk_eq u W h hf
  have hD : okS u = true → usedB (gsD u.gs) g = true → cpuB u.cs c = true → ∀ W, AtW W w.heap.size u → Calls Tryz.prog 53 #[.pointer (some ⟨w.heap.size, 0, none⟩), .int .i64 g, .int .i64 c] W fun e' w' => e' = .returned (.bool ((u.gs[g.toNat]?).any (fun e => dryB e.d.ba c.toNat))) ∧ Below W.heap.size W w' := fun h1 h2 h3 W hW => by
    obtain ⟨_, _, _, hF, _⟩ := okS_fit h1
    obtain ⟨k, rfl, hk, hu⟩ := usedB_yes h2
    obtain ⟨j, rfl, hj⟩ := cpuB_nat h3
    rw [gsD_length] at hk
    obtain ⟨e, he⟩ : ∃ e, u.gs[k]? = some e := ⟨_, List.getElem?_eq_getElem hk⟩
    have h0 := isDry_any w.heap.size k j u e W hW he (fun hq => by rw [hF.dr k e he hq]; exact hj)
    rw [Int.toNat_natCast, Int.toNat_natCast, he]
    exact h0
  obtain ⟨dr, hdr⟩ : ∃ b, (u.gs[g.toNat]?).any (fun e => dryB e.d.ba c.toNat) = b := ⟨_, rfl⟩
  have HDR : Hid ((u.gs[g.toNat]?).any (fun e => dryB e.d.ba c.toNat) = dr) := hdr
  have HRR : Hid (dryS u g c = (ok && (usedB (gsD u.gs) g && (cpuB u.cs c && dr)))) := by unfold Hid dryS dryAt; rw [hok, hdr]
  rw [hv] at hK ⊢
  clear hA hs hf e1 e2 e3 hv hok hdr
  cases ok
  · have HR : Hid (dryS u g c = false) := by unfold Hid; simp [HRR.out]
    go_enter Tryz.func21, Tryz.ntmps21
    go_wp2_with (first | (go_at_call 12; refine (hK _ (HS.out.below acc)).mono ?_; rintro e1 V1 ⟨rfl, hb1⟩; have t0 := (hb1.cell (p := ⟨w.heap.size, 0, none⟩) lw).trans t0; have t1 := (hb1.cell (p := ⟨w.heap.size, 1, none⟩) lw).trans t1; have t2 := (hb1.cell (p := ⟨w.heap.size, 2, none⟩) lw).trans t2; have t3 := (hb1.cell (p := ⟨w.heap.size, 3, none⟩) lw).trans t3; have lw := Nat.lt_of_lt_of_le lw hb1.size; replace accH := accH.trans (hb1.mono accH.size); replace acc := acc.trans (hb1.mono acc.size); clear hb1) | (go_at_call 51; refine (hasGroup_any w.heap.size g u _ (HA.out.below accH)).mono ?_; rintro e1 w1 ⟨rfl, hw1⟩; subst w1) | (go_at_call 52; refine (hasCpu_any w.heap.size c u _ (HA.out.below accH)).mono ?_; rintro e1 w1 ⟨rfl, hw1⟩; subst w1) | (go_at_call 53; refine (hD HO.out h1 h2 _ (HA.out.below accH)).mono ?_; rintro e1 V1 ⟨rfl, hb1⟩; rw [HDR.out]; have t0 := (hb1.cell (p := ⟨w.heap.size, 0, none⟩) lw).trans t0; have t1 := (hb1.cell (p := ⟨w.heap.size, 1, none⟩) lw).trans t1; have t2 := (hb1.cell (p := ⟨w.heap.size, 2, none⟩) lw).trans t2; have t3 := (hb1.cell (p := ⟨w.heap.size, 3, none⟩) lw).trans t3; have lw := Nat.lt_of_lt_of_le lw hb1.size; replace accH := accH.trans (hb1.mono accH.size); replace acc := acc.trans (hb1.mono acc.size); clear hb1))
    go_ret
    refine ⟨?_, acc⟩
    first | exact ret_bool HR.out.symm | (rw [HR.out]; simp []; done) | (rw [HR.out]; simp []; omega)
  · cases h1 : usedB (gsD u.gs) g
    · have HR : Hid (dryS u g c = false) := by unfold Hid; simp [HRR.out, h1]
      go_enter Tryz.func21, Tryz.ntmps21
      go_wp2_with (first | (go_at_call 12; refine (hK _ (HS.out.below acc)).mono ?_; rintro e1 V1 ⟨rfl, hb1⟩; have t0 := (hb1.cell (p := ⟨w.heap.size, 0, none⟩) lw).trans t0; have t1 := (hb1.cell (p := ⟨w.heap.size, 1, none⟩) lw).trans t1; have t2 := (hb1.cell (p := ⟨w.heap.size, 2, none⟩) lw).trans t2; have t3 := (hb1.cell (p := ⟨w.heap.size, 3, none⟩) lw).trans t3; have lw := Nat.lt_of_lt_of_le lw hb1.size; replace accH := accH.trans (hb1.mono accH.size); replace acc := acc.trans (hb1.mono acc.size); clear hb1) | (go_at_call 51; refine (hasGroup_any w.heap.size g u _ (HA.out.below accH)).mono ?_; rintro e1 w1 ⟨rfl, hw1⟩; subst w1) | (go_at_call 52; refine (hasCpu_any w.heap.size c u _ (HA.out.below accH)).mono ?_; rintro e1 w1 ⟨rfl, hw1⟩; subst w1) | (go_at_call 53; refine (hD HO.out h1 h2 _ (HA.out.below accH)).mono ?_; rintro e1 V1 ⟨rfl, hb1⟩; rw [HDR.out]; have t0 := (hb1.cell (p := ⟨w.heap.size, 0, none⟩) lw).trans t0; have t1 := (hb1.cell (p := ⟨w.heap.size, 1, none⟩) lw).trans t1; have t2 := (hb1.cell (p := ⟨w.heap.size, 2, none⟩) lw).trans t2; have t3 := (hb1.cell (p := ⟨w.heap.size, 3, none⟩) lw).trans t3; have lw := Nat.lt_of_lt_of_le lw hb1.size; replace accH := accH.trans (hb1.mono accH.size); replace acc := acc.trans (hb1.mono acc.size); clear hb1))
      go_ret
      refine ⟨?_, acc⟩
      first | exact ret_bool HR.out.symm | (rw [HR.out]; simp [h1]; done) | (rw [HR.out]; simp [h1]; omega)
    · cases h2 : cpuB u.cs c
      · have HR : Hid (dryS u g c = false) := by unfold Hid; simp [HRR.out, h1, h2]
        go_enter Tryz.func21, Tryz.ntmps21
        go_wp2_with (first | (go_at_call 12; refine (hK _ (HS.out.below acc)).mono ?_; rintro e1 V1 ⟨rfl, hb1⟩; have t0 := (hb1.cell (p := ⟨w.heap.size, 0, none⟩) lw).trans t0; have t1 := (hb1.cell (p := ⟨w.heap.size, 1, none⟩) lw).trans t1; have t2 := (hb1.cell (p := ⟨w.heap.size, 2, none⟩) lw).trans t2; have t3 := (hb1.cell (p := ⟨w.heap.size, 3, none⟩) lw).trans t3; have lw := Nat.lt_of_lt_of_le lw hb1.size; replace accH := accH.trans (hb1.mono accH.size); replace acc := acc.trans (hb1.mono acc.size); clear hb1) | (go_at_call 51; refine (hasGroup_any w.heap.size g u _ (HA.out.below accH)).mono ?_; rintro e1 w1 ⟨rfl, hw1⟩; subst w1) | (go_at_call 52; refine (hasCpu_any w.heap.size c u _ (HA.out.below accH)).mono ?_; rintro e1 w1 ⟨rfl, hw1⟩; subst w1) | (go_at_call 53; refine (hD HO.out h1 h2 _ (HA.out.below accH)).mono ?_; rintro e1 V1 ⟨rfl, hb1⟩; rw [HDR.out]; have t0 := (hb1.cell (p := ⟨w.heap.size, 0, none⟩) lw).trans t0; have t1 := (hb1.cell (p := ⟨w.heap.size, 1, none⟩) lw).trans t1; have t2 := (hb1.cell (p := ⟨w.heap.size, 2, none⟩) lw).trans t2; have t3 := (hb1.cell (p := ⟨w.heap.size, 3, none⟩) lw).trans t3; have lw := Nat.lt_of_lt_of_le lw hb1.size; replace accH := accH.trans (hb1.mono accH.size); replace acc := acc.trans (hb1.mono acc.size); clear hb1))
        go_ret
        refine ⟨?_, acc⟩
        first | exact ret_bool HR.out.symm | (rw [HR.out]; simp [h1, h2]; done) | (rw [HR.out]; simp [h1, h2]; omega)
      · cases dr
        · have HR : Hid (dryS u g c = false) := by unfold Hid; simp [HRR.out, h1, h2]
          go_enter Tryz.func21, Tryz.ntmps21
          go_wp2_with (first | (go_at_call 12; refine (hK _ (HS.out.below acc)).mono ?_; rintro e1 V1 ⟨rfl, hb1⟩; have t0 := (hb1.cell (p := ⟨w.heap.size, 0, none⟩) lw).trans t0; have t1 := (hb1.cell (p := ⟨w.heap.size, 1, none⟩) lw).trans t1; have t2 := (hb1.cell (p := ⟨w.heap.size, 2, none⟩) lw).trans t2; have t3 := (hb1.cell (p := ⟨w.heap.size, 3, none⟩) lw).trans t3; have lw := Nat.lt_of_lt_of_le lw hb1.size; replace accH := accH.trans (hb1.mono accH.size); replace acc := acc.trans (hb1.mono acc.size); clear hb1) | (go_at_call 51; refine (hasGroup_any w.heap.size g u _ (HA.out.below accH)).mono ?_; rintro e1 w1 ⟨rfl, hw1⟩; subst w1) | (go_at_call 52; refine (hasCpu_any w.heap.size c u _ (HA.out.below accH)).mono ?_; rintro e1 w1 ⟨rfl, hw1⟩; subst w1) | (go_at_call 53; refine (hD HO.out h1 h2 _ (HA.out.below accH)).mono ?_; rintro e1 V1 ⟨rfl, hb1⟩; rw [HDR.out]; have t0 := (hb1.cell (p := ⟨w.heap.size, 0, none⟩) lw).trans t0; have t1 := (hb1.cell (p := ⟨w.heap.size, 1, none⟩) lw).trans t1; have t2 := (hb1.cell (p := ⟨w.heap.size, 2, none⟩) lw).trans t2; have t3 := (hb1.cell (p := ⟨w.heap.size, 3, none⟩) lw).trans t3; have lw := Nat.lt_of_lt_of_le lw hb1.size; replace accH := accH.trans (hb1.mono accH.size); replace acc := acc.trans (hb1.mono acc.size); clear hb1))
          go_ret
          refine ⟨?_, acc⟩
          first | exact ret_bool HR.out.symm | (rw [HR.out]; simp [h1, h2]; done) | (rw [HR.out]; simp [h1, h2]; omega)
        · have HR : Hid (dryS u g c = true) := by unfold Hid; simp [HRR.out, h1, h2]
          go_enter Tryz.func21, Tryz.ntmps21
          go_wp2_with (first | (go_at_call 12; refine (hK _ (HS.out.below acc)).mono ?_; rintro e1 V1 ⟨rfl, hb1⟩; have t0 := (hb1.cell (p := ⟨w.heap.size, 0, none⟩) lw).trans t0; have t1 := (hb1.cell (p := ⟨w.heap.size, 1, none⟩) lw).trans t1; have t2 := (hb1.cell (p := ⟨w.heap.size, 2, none⟩) lw).trans t2; have t3 := (hb1.cell (p := ⟨w.heap.size, 3, none⟩) lw).trans t3; have lw := Nat.lt_of_lt_of_le lw hb1.size; replace accH := accH.trans (hb1.mono accH.size); replace acc := acc.trans (hb1.mono acc.size); clear hb1) | (go_at_call 51; refine (hasGroup_any w.heap.size g u _ (HA.out.below accH)).mono ?_; rintro e1 w1 ⟨rfl, hw1⟩; subst w1) | (go_at_call 52; refine (hasCpu_any w.heap.size c u _ (HA.out.below accH)).mono ?_; rintro e1 w1 ⟨rfl, hw1⟩; subst w1) | (go_at_call 53; refine (hD HO.out h1 h2 _ (HA.out.below accH)).mono ?_; rintro e1 V1 ⟨rfl, hb1⟩; rw [HDR.out]; have t0 := (hb1.cell (p := ⟨w.heap.size, 0, none⟩) lw).trans t0; have t1 := (hb1.cell (p := ⟨w.heap.size, 1, none⟩) lw).trans t1; have t2 := (hb1.cell (p := ⟨w.heap.size, 2, none⟩) lw).trans t2; have t3 := (hb1.cell (p := ⟨w.heap.size, 3, none⟩) lw).trans t3; have lw := Nat.lt_of_lt_of_le lw hb1.size; replace accH := accH.trans (hb1.mono accH.size); replace acc := acc.trans (hb1.mono acc.size); clear hb1))
          go_ret
          refine ⟨?_, acc⟩
          first | exact ret_bool HR.out.symm | (rw [HR.out]; simp [h1, h2]; done) | (rw [HR.out]; simp [h1, h2]; omega)
set_option maxRecDepth 100000 in
set_option maxHeartbeats 16000000 in
theorem specDry_any (g c : Int) (u : Wv) (w : World) (hs : SlW w u) (hf : GsFit u.gs) :
    Calls Tryz.prog 20 #[wvV u, .int .i64 g, .int .i64 c] w fun e' w' => e' = .returned (.bool (dryS u g c)) ∧ Below w.heap.size w w' := by
  obtain ⟨p1, c1, p2, c2, p3, c3, e1, e2, e3, hl1, hl2, hl3⟩ := hs.forms
  have hv : wvV u = .agg #[.int .i64 u.now, .slice p1 u.cs.length c1, .slice p2 u.ts.length c2, .slice p3 u.gs.length c3] := by unfold wvV; rw [e1, e2, e3]
  obtain ⟨W1, hW1⟩ : ∃ W1, w.alloc (.cells #[.int .i64 u.now, .slice p1 u.cs.length c1, .slice p2 u.ts.length c2, .slice p3 u.gs.length c3] 33) = W1 := ⟨_, rfl⟩
  obtain ⟨hA, acc, lw⟩ := boxed_w hs e1 e2 e3 hW1
  obtain ⟨t0, t1, t2, t3⟩ := hA.forms e1 e2 e3
  have HA : Hid (AtW W1 w.heap.size u) := hA
  have HS : Hid (SlW w u) := hs
  have HZ : Hid (SlG w (.slice p3 u.gs.length c3) u.gs) := by have := hs.2.2; rw [e3] at this; exact this
  obtain ⟨ok, hok⟩ : ∃ b, okS u = b := ⟨_, rfl⟩
  have HO : Hid (okS u = ok) := hok
  have accH : Below W1.heap.size W1 W1 := Below.refl _ _
  have hK : ∀ W, SlW W u → Calls Tryz.prog 10 #[wvV u] W fun e' w' => e' = .returned (.bool ok) ∧ Below W.heap.size W w' := fun W h => by rw [← hok]; exact specWorldOk_any u W h hf
  have hD : okS u = true → usedB (gsD u.gs) g = true → cpuB u.cs c = true → ∀ W, SlW W u → Calls Tryz.prog 50 #[wvV u, .int .i64 g, .int .i64 c] W fun e' w' => e' = .returned (.bool ((u.gs[g.toNat]?).any (fun e => dryB e.d.ba c.toNat))) ∧ Below W.heap.size W w' := fun h1 h2 h3 W hW => by
    obtain ⟨_, _, _, hF, _⟩ := okS_fit h1
    obtain ⟨k, rfl, hk, hu⟩ := usedB_yes h2
    obtain ⟨j, rfl, hj⟩ := cpuB_nat h3
    rw [gsD_length] at hk
    obtain ⟨e, he⟩ : ∃ e, u.gs[k]? = some e := ⟨_, List.getElem?_eq_getElem hk⟩
    have h0 := l8Dry_any k j u e W hW he (fun hq => by rw [hF.dr k e he hq]; exact hj)
    rw [Int.toNat_natCast, Int.toNat_natCast, he]
    exact h0
  have hcb : l1in c 0 (wrap64 ((u.cs.length : Int) - 1)) = cpuB u.cs c := by
    have : wrap64 ((u.cs.length : Int) - 1) = (u.cs.length : Int) - 1 := by unfold wrap64; omega
    rw [this]; unfold l1in cpuB
    rw [Bool.decide_and]; congr 1
    exact decide_eq_decide.2 (by omega)
  have HCB : Hid (l1in c 0 (wrap64 ((u.cs.length : Int) - 1)) = cpuB u.cs c) := hcb
  have HCB2 : Hid (l1in c 0 ((u.cs.length : Int) - 1) = cpuB u.cs c) := by
    have : wrap64 ((u.cs.length : Int) - 1) = (u.cs.length : Int) - 1 := by unfold wrap64; omega
    rw [this] at hcb; exact hcb
  clear hcb
  obtain ⟨dr, hdr⟩ : ∃ b, (u.gs[g.toNat]?).any (fun e => dryB e.d.ba c.toNat) = b := ⟨_, rfl⟩
  have HDR : Hid ((u.gs[g.toNat]?).any (fun e => dryB e.d.ba c.toNat) = dr) := hdr
  have HRR : Hid (dryS u g c = (ok && (usedB (gsD u.gs) g && (cpuB u.cs c && dr)))) := by unfold Hid dryS dryAt; rw [hok, hdr]
  rw [hv] at hK hD ⊢
  clear hA hs hf e1 e2 e3 hv hok hdr
  cases ok
  · have HR : Hid (dryS u g c = false) := by unfold Hid; simp [HRR.out]
    go_enter Tryz.func20, Tryz.ntmps20
    go_wp2_with (first | (go_at_call 10; refine (hK _ (HS.out.below acc)).mono ?_; rintro e1 V1 ⟨rfl, hb1⟩; have t0 := (hb1.cell (p := ⟨w.heap.size, 0, none⟩) lw).trans t0; have t1 := (hb1.cell (p := ⟨w.heap.size, 1, none⟩) lw).trans t1; have t2 := (hb1.cell (p := ⟨w.heap.size, 2, none⟩) lw).trans t2; have t3 := (hb1.cell (p := ⟨w.heap.size, 3, none⟩) lw).trans t3; have lw := Nat.lt_of_lt_of_le lw hb1.size; replace accH := accH.trans (hb1.mono accH.size); replace acc := acc.trans (hb1.mono acc.size); clear hb1) | (go_at_call 49; refine (spec_used _ u.gs g _ ((HZ.out).below acc)).mono ?_; rintro e1 w1 ⟨rfl, hw1⟩; subst w1) | (go_at_call 27; refine (l1In_any _ _ _ _).mono ?_; rintro e1 w1 ⟨rfl, hw1⟩; subst w1; (first | rw [HCB.out] | rw [HCB2.out] | skip)) | (go_at_call 50; refine (hD HO.out h1 h2 _ (HS.out.below acc)).mono ?_; rintro e1 V1 ⟨rfl, hb1⟩; rw [HDR.out]; have t0 := (hb1.cell (p := ⟨w.heap.size, 0, none⟩) lw).trans t0; have t1 := (hb1.cell (p := ⟨w.heap.size, 1, none⟩) lw).trans t1; have t2 := (hb1.cell (p := ⟨w.heap.size, 2, none⟩) lw).trans t2; have t3 := (hb1.cell (p := ⟨w.heap.size, 3, none⟩) lw).trans t3; have lw := Nat.lt_of_lt_of_le lw hb1.size; replace accH := accH.trans (hb1.mono accH.size); replace acc := acc.trans (hb1.mono acc.size); clear hb1))
    go_ret
    refine ⟨?_, acc⟩
    first | exact ret_bool HR.out.symm | (rw [HR.out]; simp []; done) | (rw [HR.out]; simp []; omega)
  · cases h1 : usedB (gsD u.gs) g
    · have HR : Hid (dryS u g c = false) := by unfold Hid; simp [HRR.out, h1]
      go_enter Tryz.func20, Tryz.ntmps20
      go_wp2_with (first | (go_at_call 10; refine (hK _ (HS.out.below acc)).mono ?_; rintro e1 V1 ⟨rfl, hb1⟩; have t0 := (hb1.cell (p := ⟨w.heap.size, 0, none⟩) lw).trans t0; have t1 := (hb1.cell (p := ⟨w.heap.size, 1, none⟩) lw).trans t1; have t2 := (hb1.cell (p := ⟨w.heap.size, 2, none⟩) lw).trans t2; have t3 := (hb1.cell (p := ⟨w.heap.size, 3, none⟩) lw).trans t3; have lw := Nat.lt_of_lt_of_le lw hb1.size; replace accH := accH.trans (hb1.mono accH.size); replace acc := acc.trans (hb1.mono acc.size); clear hb1) | (go_at_call 49; refine (spec_used _ u.gs g _ ((HZ.out).below acc)).mono ?_; rintro e1 w1 ⟨rfl, hw1⟩; subst w1) | (go_at_call 27; refine (l1In_any _ _ _ _).mono ?_; rintro e1 w1 ⟨rfl, hw1⟩; subst w1; (first | rw [HCB.out] | rw [HCB2.out] | skip)) | (go_at_call 50; refine (hD HO.out h1 h2 _ (HS.out.below acc)).mono ?_; rintro e1 V1 ⟨rfl, hb1⟩; rw [HDR.out]; have t0 := (hb1.cell (p := ⟨w.heap.size, 0, none⟩) lw).trans t0; have t1 := (hb1.cell (p := ⟨w.heap.size, 1, none⟩) lw).trans t1; have t2 := (hb1.cell (p := ⟨w.heap.size, 2, none⟩) lw).trans t2; have t3 := (hb1.cell (p := ⟨w.heap.size, 3, none⟩) lw).trans t3; have lw := Nat.lt_of_lt_of_le lw hb1.size; replace accH := accH.trans (hb1.mono accH.size); replace acc := acc.trans (hb1.mono acc.size); clear hb1))
      go_ret
      refine ⟨?_, acc⟩
      first | exact ret_bool HR.out.symm | (rw [HR.out]; simp [h1]; done) | (rw [HR.out]; simp [h1]; omega)
    · cases h2 : cpuB u.cs c
      · have HR : Hid (dryS u g c = false) := by unfold Hid; simp [HRR.out, h1, h2]
        go_enter Tryz.func20, Tryz.ntmps20
        go_wp2_with (first | (go_at_call 10; refine (hK _ (HS.out.below acc)).mono ?_; rintro e1 V1 ⟨rfl, hb1⟩; have t0 := (hb1.cell (p := ⟨w.heap.size, 0, none⟩) lw).trans t0; have t1 := (hb1.cell (p := ⟨w.heap.size, 1, none⟩) lw).trans t1; have t2 := (hb1.cell (p := ⟨w.heap.size, 2, none⟩) lw).trans t2; have t3 := (hb1.cell (p := ⟨w.heap.size, 3, none⟩) lw).trans t3; have lw := Nat.lt_of_lt_of_le lw hb1.size; replace accH := accH.trans (hb1.mono accH.size); replace acc := acc.trans (hb1.mono acc.size); clear hb1) | (go_at_call 49; refine (spec_used _ u.gs g _ ((HZ.out).below acc)).mono ?_; rintro e1 w1 ⟨rfl, hw1⟩; subst w1) | (go_at_call 27; refine (l1In_any _ _ _ _).mono ?_; rintro e1 w1 ⟨rfl, hw1⟩; subst w1; (first | rw [HCB.out] | rw [HCB2.out] | skip)) | (go_at_call 50; refine (hD HO.out h1 h2 _ (HS.out.below acc)).mono ?_; rintro e1 V1 ⟨rfl, hb1⟩; rw [HDR.out]; have t0 := (hb1.cell (p := ⟨w.heap.size, 0, none⟩) lw).trans t0; have t1 := (hb1.cell (p := ⟨w.heap.size, 1, none⟩) lw).trans t1; have t2 := (hb1.cell (p := ⟨w.heap.size, 2, none⟩) lw).trans t2; have t3 := (hb1.cell (p := ⟨w.heap.size, 3, none⟩) lw).trans t3; have lw := Nat.lt_of_lt_of_le lw hb1.size; replace accH := accH.trans (hb1.mono accH.size); replace acc := acc.trans (hb1.mono acc.size); clear hb1))
        go_ret
        refine ⟨?_, acc⟩
        first | exact ret_bool HR.out.symm | (rw [HR.out]; simp [h1, h2]; done) | (rw [HR.out]; simp [h1, h2]; omega)
      · cases dr
        · have HR : Hid (dryS u g c = false) := by unfold Hid; simp [HRR.out, h1, h2]
          go_enter Tryz.func20, Tryz.ntmps20
          go_wp2_with (first | (go_at_call 10; refine (hK _ (HS.out.below acc)).mono ?_; rintro e1 V1 ⟨rfl, hb1⟩; have t0 := (hb1.cell (p := ⟨w.heap.size, 0, none⟩) lw).trans t0; have t1 := (hb1.cell (p := ⟨w.heap.size, 1, none⟩) lw).trans t1; have t2 := (hb1.cell (p := ⟨w.heap.size, 2, none⟩) lw).trans t2; have t3 := (hb1.cell (p := ⟨w.heap.size, 3, none⟩) lw).trans t3; have lw := Nat.lt_of_lt_of_le lw hb1.size; replace accH := accH.trans (hb1.mono accH.size); replace acc := acc.trans (hb1.mono acc.size); clear hb1) | (go_at_call 49; refine (spec_used _ u.gs g _ ((HZ.out).below acc)).mono ?_; rintro e1 w1 ⟨rfl, hw1⟩; subst w1) | (go_at_call 27; refine (l1In_any _ _ _ _).mono ?_; rintro e1 w1 ⟨rfl, hw1⟩; subst w1; (first | rw [HCB.out] | rw [HCB2.out] | skip)) | (go_at_call 50; refine (hD HO.out h1 h2 _ (HS.out.below acc)).mono ?_; rintro e1 V1 ⟨rfl, hb1⟩; rw [HDR.out]; have t0 := (hb1.cell (p := ⟨w.heap.size, 0, none⟩) lw).trans t0; have t1 := (hb1.cell (p := ⟨w.heap.size, 1, none⟩) lw).trans t1; have t2 := (hb1.cell (p := ⟨w.heap.size, 2, none⟩) lw).trans t2; have t3 := (hb1.cell (p := ⟨w.heap.size, 3, none⟩) lw).trans t3; have lw := Nat.lt_of_lt_of_le lw hb1.size; replace accH := accH.trans (hb1.mono accH.size); replace acc := acc.trans (hb1.mono acc.size); clear hb1))
          go_ret
          refine ⟨?_, acc⟩
          first | exact ret_bool HR.out.symm | (rw [HR.out]; simp [h1, h2]; done) | (rw [HR.out]; simp [h1, h2]; omega)
        · have HR : Hid (dryS u g c = true) := by unfold Hid; simp [HRR.out, h1, h2]
          go_enter Tryz.func20, Tryz.ntmps20
          go_wp2_with (first | (go_at_call 10; refine (hK _ (HS.out.below acc)).mono ?_; rintro e1 V1 ⟨rfl, hb1⟩; have t0 := (hb1.cell (p := ⟨w.heap.size, 0, none⟩) lw).trans t0; have t1 := (hb1.cell (p := ⟨w.heap.size, 1, none⟩) lw).trans t1; have t2 := (hb1.cell (p := ⟨w.heap.size, 2, none⟩) lw).trans t2; have t3 := (hb1.cell (p := ⟨w.heap.size, 3, none⟩) lw).trans t3; have lw := Nat.lt_of_lt_of_le lw hb1.size; replace accH := accH.trans (hb1.mono accH.size); replace acc := acc.trans (hb1.mono acc.size); clear hb1) | (go_at_call 49; refine (spec_used _ u.gs g _ ((HZ.out).below acc)).mono ?_; rintro e1 w1 ⟨rfl, hw1⟩; subst w1) | (go_at_call 27; refine (l1In_any _ _ _ _).mono ?_; rintro e1 w1 ⟨rfl, hw1⟩; subst w1; (first | rw [HCB.out] | rw [HCB2.out] | skip)) | (go_at_call 50; refine (hD HO.out h1 h2 _ (HS.out.below acc)).mono ?_; rintro e1 V1 ⟨rfl, hb1⟩; rw [HDR.out]; have t0 := (hb1.cell (p := ⟨w.heap.size, 0, none⟩) lw).trans t0; have t1 := (hb1.cell (p := ⟨w.heap.size, 1, none⟩) lw).trans t1; have t2 := (hb1.cell (p := ⟨w.heap.size, 2, none⟩) lw).trans t2; have t3 := (hb1.cell (p := ⟨w.heap.size, 3, none⟩) lw).trans t3; have lw := Nat.lt_of_lt_of_le lw hb1.size; replace accH := accH.trans (hb1.mono accH.size); replace acc := acc.trans (hb1.mono acc.size); clear hb1))
          go_ret
          refine ⟨?_, acc⟩
          first | exact ret_bool HR.out.symm | (rw [HR.out]; simp [h1, h2]; done) | (rw [HR.out]; simp [h1, h2]; omega)
end Go.Proofs.YthplehohpihfpaaGreat
