/- WorldLine, the program's and the specification's. -/
import Derived.Test.YthplehohpihfpaaGreatC46
import Derived.Test.YthplehohpihfpaaGreatC05
import Derived.Test.YthplehohpihfpaaGreatHD
namespace Go.Proofs.YthplehohpihfpaaGreat
set_option linter.unusedVariables false
set_option linter.unusedSimpArgs false
open Go.ChangeShapes Go.WideShapes Go.ChangeAt Go.RowKit Go.Shelf Go.Sort
attribute [local go_sem] Oper.semAt_some
set_option maxRecDepth 100000 in
set_option maxHeartbeats 16000000 in
theorem l8Task_any (t : Int) (u : Wv) (w : World) (hs : SlW w u) :
    Calls Tryz.prog 43 #[wvV u, .int .i64 t] w fun e' w' => e' = .returned (.bool (taskB u.ts t)) ∧ Below w.heap.size w w' := by
  obtain ⟨p1, c1, p2, c2, p3, c3, e1, e2, e3, hl1, hl2, hl3⟩ := hs.forms
  have hv : wvV u = .agg #[.int .i64 u.now, .slice p1 u.cs.length c1, .slice p2 u.ts.length c2, .slice p3 u.gs.length c3] := by unfold wvV; rw [e1, e2, e3]
  rw [hv]
  obtain ⟨W1, hW1⟩ : ∃ W1, w.alloc (.cells #[.int .i64 u.now, .slice p1 u.cs.length c1, .slice p2 u.ts.length c2, .slice p3 u.gs.length c3] 33) = W1 := ⟨_, rfl⟩
  obtain ⟨hA, acc, lw⟩ := boxed_w hs e1 e2 e3 hW1
  obtain ⟨t0, t1, t2, t3⟩ := hA.forms e1 e2 e3
  have HA : Hid (AtW W1 w.heap.size u) := hA
  have hwr : wrap64 ((u.ts.length : Int) - 1) = (u.ts.length : Int) - 1 := by unfold wrap64; omega
  have HW : Hid (wrap64 ((u.ts.length : Int) - 1) = (u.ts.length : Int) - 1) := hwr
  clear hA hs e1 e2 e3 hv hwr
  by_cases h : 0 ≤ t ∧ t < u.ts.length
  · obtain ⟨k, rfl⟩ := Int.eq_ofNat_of_zero_le h.1
    have hk : k < u.ts.length := by omega
    obtain ⟨e, he⟩ : ∃ e, u.ts[k]? = some e := ⟨_, List.getElem?_eq_getElem hk⟩
    obtain ⟨tg, to, cap, m2, hr, _, _⟩ := HA.out.cellsT he
    rw [t2] at m2
    simp only [Option.some.injEq, Value.slice.injEq] at m2
    obtain ⟨q1, q2, q3⟩ := m2
    clear q2
    subst q1 q3
    obtain ⟨x0, _⟩ := tk_cells hr
    have HB : Hid (l1in (k : Int) 0 ((u.ts.length : Int) - 1) = true) := l1in_iff.2 ⟨by omega, by omega⟩
    have HT : Hid (taskB u.ts (k : Int) = decide (e.st ≠ 0)) := by unfold Hid taskB; rw [decide_eq_true (by omega : (0 : Int) ≤ (k : Int)), decide_eq_true (by omega : (k : Int) < (u.ts.length : Int)), Int.toNat_natCast, he]; rfl
    have hk' : (k : Int) < (u.ts.length : Int) := by omega
    clear hr he h
    by_cases hz : e.st = 0
    · rw [hz] at x0
      go_enter Tryz.func43, Tryz.ntmps43
      go_wp2_with (go_at_call 27; refine (l1In_any _ _ _ _).mono ?_; rintro e1 w1 ⟨rfl, hw1⟩; subst w1; (try rw [HW.out]); rw [HB.out])
      go_ret
      exact ⟨by rw [HT.out]; simp [hz], acc⟩
    · have hzb : (e.st == 0) = false := by simpa using hz
      go_enter Tryz.func43, Tryz.ntmps43
      go_wp2_with (go_at_call 27; refine (l1In_any _ _ _ _).mono ?_; rintro e1 w1 ⟨rfl, hw1⟩; subst w1; (try rw [HW.out]); rw [HB.out])
      go_ret
      exact ⟨by rw [HT.out]; simp [hz], acc⟩
  · have HB : Hid (l1in t 0 ((u.ts.length : Int) - 1) = false) := l1in_no (by omega)
    have HT : Hid (taskB u.ts t = false) := by
      unfold Hid taskB
      by_cases h1 : 0 ≤ t
      · rw [decide_eq_false (p := t < (u.ts.length : Int)) (by omega)]; simp
      · rw [decide_eq_false h1]; rfl
    clear h
    go_enter Tryz.func43, Tryz.ntmps43
    go_wp2_with (go_at_call 27; refine (l1In_any _ _ _ _).mono ?_; rintro e1 w1 ⟨rfl, hw1⟩; subst w1; (try rw [HW.out]); rw [HB.out])
    go_ret
    exact ⟨by rw [HT.out]; rfl, acc⟩
def lineAt (u : Wv) (t : Int) : Bool := taskB u.ts t && (u.ts[t.toNat]?).any (fun e => inlineB (gsD u.gs) e.st e.gr.toNat e.cpu.toNat)
def lineS (u : Wv) (t : Int) : Bool := okS u && lineAt u t
theorem okS_tfit {u : Wv} (h : okS u = true) : TFit u := by
  obtain ⟨_, _, h3, h4, h5⟩ := okS_fit h
  exact tfit_of h4 h5 h3
set_option maxRecDepth 100000 in
set_option maxHeartbeats 16000000 in
theorem implLine_no (t : Int) (u : Wv) (w : World) (hs : SlW w u) (hf : GsFit u.gs) (htb : taskB u.ts t = false) :
    Calls Tryz.prog 19 #[wvV u, .int .i64 t] w fun e' w' => e' = .returned (.bool (lineS u t)) ∧ Below w.heap.size w w' := by
  obtain ⟨p1, c1, p2, c2, p3, c3, e1, e2, e3, hl1, hl2, hl3⟩ := hs.forms
  have hv : wvV u = .agg #[.int .i64 u.now, .slice p1 u.cs.length c1, .slice p2 u.ts.length c2, .slice p3 u.gs.length c3] := by unfold wvV; rw [e1, e2, e3]
  obtain ⟨W1, hW1⟩ : ∃ W1, w.alloc (.cells #[.int .i64 u.now, .slice p1 u.cs.length c1, .slice p2 u.ts.length c2, .slice p3 u.gs.length c3] 33) = W1 := ⟨_, rfl⟩
  obtain ⟨hA, acc, lw⟩ := boxed_w hs e1 e2 e3 hW1
  obtain ⟨t0, t1, t2, t3⟩ := hA.forms e1 e2 e3
  have HA : Hid (AtW W1 w.heap.size u) := hA
  have HS : Hid (SlW w u) := hs
  have HZ : Hid (SlG w (.slice p3 u.gs.length c3) u.gs) := by have := hs.2.2; rw [e3] at this; exact this
  obtain ⟨ok, hok⟩ : ∃ b, okS u = b := ⟨_, rfl⟩
  have HO : Hid (okS u = ok) := hok
  have accH : Below W1.heap.size W1 W1 := Below.refl _ _
  have hK : ∀ W, SlW W u → Calls Tryz.prog 12 #[wvV u] W fun e' w' => e' = .returned (.bool ok) ∧ Below W.heap.size W w' := fun W h => by rw [← hok]; exact implWorldOk_eq u W h hf
  have HTB : Hid (taskB u.ts t = false) := htb
  have HR0 : Hid (lineS u t = false) := by unfold Hid lineS lineAt; rw [htb]; simp
  rw [hv] at hK ⊢
  clear hA hs hf e1 e2 e3 hv hok htb
  cases ok
  · go_enter Tryz.func19, Tryz.ntmps19
    go_wp2_with (go_at_call 12; refine (hK _ (HS.out.below acc)).mono ?_; rintro e1 V1 ⟨rfl, hb1⟩; have t0 := (hb1.cell (p := ⟨w.heap.size, 0, none⟩) lw).trans t0; have t1 := (hb1.cell (p := ⟨w.heap.size, 1, none⟩) lw).trans t1; have t2 := (hb1.cell (p := ⟨w.heap.size, 2, none⟩) lw).trans t2; have t3 := (hb1.cell (p := ⟨w.heap.size, 3, none⟩) lw).trans t3; have lw := Nat.lt_of_lt_of_le lw hb1.size; replace accH := accH.trans (hb1.mono accH.size); replace acc := acc.trans (hb1.mono acc.size); clear hb1)
    go_ret
    exact ⟨by rw [HR0.out]; rfl, acc⟩
  · go_enter Tryz.func19, Tryz.ntmps19
    go_wp2_with (first | (go_at_call 12; refine (hK _ (HS.out.below acc)).mono ?_; rintro e1 V1 ⟨rfl, hb1⟩; have t0 := (hb1.cell (p := ⟨w.heap.size, 0, none⟩) lw).trans t0; have t1 := (hb1.cell (p := ⟨w.heap.size, 1, none⟩) lw).trans t1; have t2 := (hb1.cell (p := ⟨w.heap.size, 2, none⟩) lw).trans t2; have t3 := (hb1.cell (p := ⟨w.heap.size, 3, none⟩) lw).trans t3; have lw := Nat.lt_of_lt_of_le lw hb1.size; replace accH := accH.trans (hb1.mono accH.size); replace acc := acc.trans (hb1.mono acc.size); clear hb1) | (go_at_call 45; refine (hasTask_any w.heap.size t u _ (HA.out.below accH)).mono ?_; rintro e1 w1 ⟨rfl, hw1⟩; subst w1; rw [HTB.out]))
    go_ret
    exact ⟨by rw [HR0.out]; rfl, acc⟩
set_option maxRecDepth 100000 in
set_option maxHeartbeats 16000000 in
theorem implLine_yes (t : Int) (u : Wv) (w : World) (hs : SlW w u) (hf : GsFit u.gs) (htb : taskB u.ts t = true) :
    Calls Tryz.prog 19 #[wvV u, .int .i64 t] w fun e' w' => e' = .returned (.bool (lineS u t)) ∧ Below w.heap.size w w' := by
  obtain ⟨p1, c1, p2, c2, p3, c3, e1, e2, e3, hl1, hl2, hl3⟩ := hs.forms
  have hv : wvV u = .agg #[.int .i64 u.now, .slice p1 u.cs.length c1, .slice p2 u.ts.length c2, .slice p3 u.gs.length c3] := by unfold wvV; rw [e1, e2, e3]
  obtain ⟨W1, hW1⟩ : ∃ W1, w.alloc (.cells #[.int .i64 u.now, .slice p1 u.cs.length c1, .slice p2 u.ts.length c2, .slice p3 u.gs.length c3] 33) = W1 := ⟨_, rfl⟩
  obtain ⟨hA, acc, lw⟩ := boxed_w hs e1 e2 e3 hW1
  obtain ⟨t0, t1, t2, t3⟩ := hA.forms e1 e2 e3
  have HA : Hid (AtW W1 w.heap.size u) := hA
  have HS : Hid (SlW w u) := hs
  have HZ : Hid (SlG w (.slice p3 u.gs.length c3) u.gs) := by have := hs.2.2; rw [e3] at this; exact this
  obtain ⟨ok, hok⟩ : ∃ b, okS u = b := ⟨_, rfl⟩
  have HO : Hid (okS u = ok) := hok
  have accH : Below W1.heap.size W1 W1 := Below.refl _ _
  have hK : ∀ W, SlW W u → Calls Tryz.prog 12 #[wvV u] W fun e' w' => e' = .returned (.bool ok) ∧ Below W.heap.size W w' := fun W h => by rw [← hok]; exact implWorldOk_eq u W h hf
  have HTB : Hid (taskB u.ts t = true) := htb
  have htb2 := htb
  obtain ⟨k, e, rfl, hk, he, hne⟩ := task_at htb
  obtain ⟨il, hil⟩ : ∃ b, inlineB (gsD u.gs) e.st e.gr.toNat e.cpu.toNat = b := ⟨_, rfl⟩
  have HRR : Hid (lineS u (k : Int) = (ok && il)) := by unfold Hid lineS lineAt; rw [htb2, hok, Int.toNat_natCast, he]; show (ok && (true && inlineB (gsD u.gs) e.st e.gr.toNat e.cpu.toNat)) = _; rw [hil, Bool.true_and]
  have hI : okS u = true → ∀ W, AtW W w.heap.size u → Calls Tryz.prog 48 #[.pointer (some ⟨w.heap.size, 0, none⟩), tkV e] W fun e' w' => e' = .returned (.bool il) ∧ Below W.heap.size W w' := fun h1 W hW => by
    obtain ⟨_, _, _, hF, _⟩ := okS_fit h1
    obtain ⟨g, c, hg, hg8, hug, hcp, hc⟩ := okS_tfit h1 k e he hne
    have h0 := inLine_any w.heap.size g c e u W hW hF.tree hg8 hug (hF.ok hc) hg hcp
    have : inlineB (gsD u.gs) e.st g c = il := by rw [← hil, hg, hcp, Int.toNat_natCast, Int.toNat_natCast]
    rw [this] at h0; exact h0
  unfold tkV at hI
  obtain ⟨tg, to, cap, m2, hr, _, htl⟩ := HA.out.cellsT he
  rw [t2] at m2
  simp only [Option.some.injEq, Value.slice.injEq] at m2
  obtain ⟨q1, q2, q3⟩ := m2
  clear q2
  subst q1 q3
  obtain ⟨x0, x1, x2, x3, x4, x5, x6, x7, x8⟩ := tk_cells hr
  have lt := block_lt_of_cell x0
  dsimp only at lt
  have hk' : (k : Int) < (u.ts.length : Int) := by omega
  rw [hv] at hK ⊢
  clear hA hs hf e1 e2 e3 hv hok htb htb2 hr he hil
  cases ok
  · go_enter Tryz.func19, Tryz.ntmps19
    go_wp2_with (go_at_call 12; refine (hK _ (HS.out.below acc)).mono ?_; rintro e1 V1 ⟨rfl, hb1⟩; have hbx := hb1; have x0 := (hbx.cell (p := ⟨tg, to + k * 9, none⟩) lt).trans x0; have x1 := (hbx.cell (p := ⟨tg, to + k * 9 + 1, none⟩) lt).trans x1; have x2 := (hbx.cell (p := ⟨tg, to + k * 9 + 2, none⟩) lt).trans x2; have x3 := (hbx.cell (p := ⟨tg, to + k * 9 + 3, none⟩) lt).trans x3; have x4 := (hbx.cell (p := ⟨tg, to + k * 9 + 4, none⟩) lt).trans x4; have x5 := (hbx.cell (p := ⟨tg, to + k * 9 + 5, none⟩) lt).trans x5; have x6 := (hbx.cell (p := ⟨tg, to + k * 9 + 6, none⟩) lt).trans x6; have x7 := (hbx.cell (p := ⟨tg, to + k * 9 + 7, none⟩) lt).trans x7; have x8 := (hbx.cell (p := ⟨tg, to + k * 9 + 8, none⟩) lt).trans x8; clear hbx; have t0 := (hb1.cell (p := ⟨w.heap.size, 0, none⟩) lw).trans t0; have t1 := (hb1.cell (p := ⟨w.heap.size, 1, none⟩) lw).trans t1; have t2 := (hb1.cell (p := ⟨w.heap.size, 2, none⟩) lw).trans t2; have t3 := (hb1.cell (p := ⟨w.heap.size, 3, none⟩) lw).trans t3; have lw := Nat.lt_of_lt_of_le lw hb1.size; replace accH := accH.trans (hb1.mono accH.size); replace acc := acc.trans (hb1.mono acc.size); clear hb1)
    go_ret
    exact ⟨by rw [HRR.out]; rfl, acc⟩
  · go_enter Tryz.func19, Tryz.ntmps19
    go_wp2_with (first | (go_at_call 12; refine (hK _ (HS.out.below acc)).mono ?_; rintro e1 V1 ⟨rfl, hb1⟩; have hbx := hb1; have x0 := (hbx.cell (p := ⟨tg, to + k * 9, none⟩) lt).trans x0; have x1 := (hbx.cell (p := ⟨tg, to + k * 9 + 1, none⟩) lt).trans x1; have x2 := (hbx.cell (p := ⟨tg, to + k * 9 + 2, none⟩) lt).trans x2; have x3 := (hbx.cell (p := ⟨tg, to + k * 9 + 3, none⟩) lt).trans x3; have x4 := (hbx.cell (p := ⟨tg, to + k * 9 + 4, none⟩) lt).trans x4; have x5 := (hbx.cell (p := ⟨tg, to + k * 9 + 5, none⟩) lt).trans x5; have x6 := (hbx.cell (p := ⟨tg, to + k * 9 + 6, none⟩) lt).trans x6; have x7 := (hbx.cell (p := ⟨tg, to + k * 9 + 7, none⟩) lt).trans x7; have x8 := (hbx.cell (p := ⟨tg, to + k * 9 + 8, none⟩) lt).trans x8; clear hbx; have t0 := (hb1.cell (p := ⟨w.heap.size, 0, none⟩) lw).trans t0; have t1 := (hb1.cell (p := ⟨w.heap.size, 1, none⟩) lw).trans t1; have t2 := (hb1.cell (p := ⟨w.heap.size, 2, none⟩) lw).trans t2; have t3 := (hb1.cell (p := ⟨w.heap.size, 3, none⟩) lw).trans t3; have lw := Nat.lt_of_lt_of_le lw hb1.size; replace accH := accH.trans (hb1.mono accH.size); replace acc := acc.trans (hb1.mono acc.size); clear hb1) | (go_at_call 45; refine (hasTask_any w.heap.size (k : Int) u _ (HA.out.below accH)).mono ?_; rintro e1 w1 ⟨rfl, hw1⟩; subst w1; rw [HTB.out]) | (go_at_call 48; refine (hI HO.out _ (HA.out.below accH)).mono ?_; rintro e1 V1 ⟨rfl, hb1⟩; have t0 := (hb1.cell (p := ⟨w.heap.size, 0, none⟩) lw).trans t0; have t1 := (hb1.cell (p := ⟨w.heap.size, 1, none⟩) lw).trans t1; have t2 := (hb1.cell (p := ⟨w.heap.size, 2, none⟩) lw).trans t2; have t3 := (hb1.cell (p := ⟨w.heap.size, 3, none⟩) lw).trans t3; have lw := Nat.lt_of_lt_of_le lw hb1.size; replace accH := accH.trans (hb1.mono accH.size); replace acc := acc.trans (hb1.mono acc.size); clear hb1))
    go_ret
    exact ⟨by rw [HRR.out]; first | rfl | simp, acc⟩
theorem implLine_any (t : Int) (u : Wv) (w : World) (hs : SlW w u) (hf : GsFit u.gs) :
    Calls Tryz.prog 19 #[wvV u, .int .i64 t] w fun e' w' => e' = .returned (.bool (lineS u t)) ∧ Below w.heap.size w w' := by
  cases htb : taskB u.ts t
  · exact implLine_no t u w hs hf htb
  · exact implLine_yes t u w hs hf htb
set_option maxRecDepth 100000 in
set_option maxHeartbeats 16000000 in
theorem specLine_no (t : Int) (u : Wv) (w : World) (hs : SlW w u) (hf : GsFit u.gs) (htb : taskB u.ts t = false) :
    Calls Tryz.prog 18 #[wvV u, .int .i64 t] w fun e' w' => e' = .returned (.bool (lineS u t)) ∧ Below w.heap.size w w' := by
  obtain ⟨p1, c1, p2, c2, p3, c3, e1, e2, e3, hl1, hl2, hl3⟩ := hs.forms
  have hv : wvV u = .agg #[.int .i64 u.now, .slice p1 u.cs.length c1, .slice p2 u.ts.length c2, .slice p3 u.gs.length c3] := by unfold wvV; rw [e1, e2, e3]
  obtain ⟨W1, hW1⟩ : ∃ W1, w.alloc (.cells #[.int .i64 u.now, .slice p1 u.cs.length c1, .slice p2 u.ts.length c2, .slice p3 u.gs.length c3] 33) = W1 := ⟨_, rfl⟩
  obtain ⟨hA, acc, lw⟩ := boxed_w hs e1 e2 e3 hW1
  obtain ⟨t0, t1, t2, t3⟩ := hA.forms e1 e2 e3
  have HA : Hid (AtW W1 w.heap.size u) := hA
  have HS : Hid (SlW w u) := hs
  have HZ : Hid (SlG w (.slice p3 u.gs.length c3) u.gs) := by have := hs.2.2; rw [e3] at this; exact this
  obtain ⟨ok, hok⟩ : ∃ b, okS u = b := ⟨_, rfl⟩
  have HO : Hid (okS u = ok) := hok
  have accH : Below W1.heap.size W1 W1 := Below.refl _ _
  have hK : ∀ W, SlW W u → Calls Tryz.prog 10 #[wvV u] W fun e' w' => e' = .returned (.bool ok) ∧ Below W.heap.size W w' := fun W h => by rw [← hok]; exact specWorldOk_any u W h hf
  have hTk : ∀ W, SlW W u → Calls Tryz.prog 43 #[wvV u, .int .i64 t] W fun e' w' => e' = .returned (.bool false) ∧ Below W.heap.size W w' := fun W h => by have h0 := l8Task_any t u W h; rw [htb] at h0; exact h0
  have HTB : Hid (taskB u.ts t = false) := htb
  have HR0 : Hid (lineS u t = false) := by unfold Hid lineS lineAt; rw [htb]; simp
  rw [hv] at hK hTk ⊢
  clear hA hs hf e1 e2 e3 hv hok htb
  cases ok
  · go_enter Tryz.func18, Tryz.ntmps18
    go_wp2_with (go_at_call 10; refine (hK _ (HS.out.below acc)).mono ?_; rintro e1 V1 ⟨rfl, hb1⟩; have t0 := (hb1.cell (p := ⟨w.heap.size, 0, none⟩) lw).trans t0; have t1 := (hb1.cell (p := ⟨w.heap.size, 1, none⟩) lw).trans t1; have t2 := (hb1.cell (p := ⟨w.heap.size, 2, none⟩) lw).trans t2; have t3 := (hb1.cell (p := ⟨w.heap.size, 3, none⟩) lw).trans t3; have lw := Nat.lt_of_lt_of_le lw hb1.size; replace accH := accH.trans (hb1.mono accH.size); replace acc := acc.trans (hb1.mono acc.size); clear hb1)
    go_ret
    exact ⟨by rw [HR0.out]; rfl, acc⟩
  · go_enter Tryz.func18, Tryz.ntmps18
    go_wp2_with (first | (go_at_call 10; refine (hK _ (HS.out.below acc)).mono ?_; rintro e1 V1 ⟨rfl, hb1⟩; have t0 := (hb1.cell (p := ⟨w.heap.size, 0, none⟩) lw).trans t0; have t1 := (hb1.cell (p := ⟨w.heap.size, 1, none⟩) lw).trans t1; have t2 := (hb1.cell (p := ⟨w.heap.size, 2, none⟩) lw).trans t2; have t3 := (hb1.cell (p := ⟨w.heap.size, 3, none⟩) lw).trans t3; have lw := Nat.lt_of_lt_of_le lw hb1.size; replace accH := accH.trans (hb1.mono accH.size); replace acc := acc.trans (hb1.mono acc.size); clear hb1) | (go_at_call 43; refine (hTk _ (HS.out.below acc)).mono ?_; rintro e1 V1 ⟨rfl, hb1⟩; have t0 := (hb1.cell (p := ⟨w.heap.size, 0, none⟩) lw).trans t0; have t1 := (hb1.cell (p := ⟨w.heap.size, 1, none⟩) lw).trans t1; have t2 := (hb1.cell (p := ⟨w.heap.size, 2, none⟩) lw).trans t2; have t3 := (hb1.cell (p := ⟨w.heap.size, 3, none⟩) lw).trans t3; have lw := Nat.lt_of_lt_of_le lw hb1.size; replace accH := accH.trans (hb1.mono accH.size); replace acc := acc.trans (hb1.mono acc.size); clear hb1))
    go_ret
    exact ⟨by rw [HR0.out]; rfl, acc⟩
set_option maxRecDepth 100000 in
set_option maxHeartbeats 16000000 in
theorem specLine_yes (t : Int) (u : Wv) (w : World) (hs : SlW w u) (hf : GsFit u.gs) (htb : taskB u.ts t = true) :
    Calls Tryz.prog 18 #[wvV u, .int .i64 t] w fun e' w' => e' = .returned (.bool (lineS u t)) ∧ Below w.heap.size w w' := by
  obtain ⟨p1, c1, p2, c2, p3, c3, e1, e2, e3, hl1, hl2, hl3⟩ := hs.forms
  have hv : wvV u = .agg #[.int .i64 u.now, .slice p1 u.cs.length c1, .slice p2 u.ts.length c2, .slice p3 u.gs.length c3] := by unfold wvV; rw [e1, e2, e3]
  obtain ⟨W1, hW1⟩ : ∃ W1, w.alloc (.cells #[.int .i64 u.now, .slice p1 u.cs.length c1, .slice p2 u.ts.length c2, .slice p3 u.gs.length c3] 33) = W1 := ⟨_, rfl⟩
  obtain ⟨hA, acc, lw⟩ := boxed_w hs e1 e2 e3 hW1
  obtain ⟨t0, t1, t2, t3⟩ := hA.forms e1 e2 e3
  have HA : Hid (AtW W1 w.heap.size u) := hA
  have HS : Hid (SlW w u) := hs
  have HZ : Hid (SlG w (.slice p3 u.gs.length c3) u.gs) := by have := hs.2.2; rw [e3] at this; exact this
  obtain ⟨ok, hok⟩ : ∃ b, okS u = b := ⟨_, rfl⟩
  have HO : Hid (okS u = ok) := hok
  have accH : Below W1.heap.size W1 W1 := Below.refl _ _
  have hK : ∀ W, SlW W u → Calls Tryz.prog 10 #[wvV u] W fun e' w' => e' = .returned (.bool ok) ∧ Below W.heap.size W w' := fun W h => by rw [← hok]; exact specWorldOk_any u W h hf
  have hTk : ∀ W, SlW W u → Calls Tryz.prog 43 #[wvV u, .int .i64 t] W fun e' w' => e' = .returned (.bool true) ∧ Below W.heap.size W w' := fun W h => by have h0 := l8Task_any t u W h; rw [htb] at h0; exact h0
  have htb2 := htb
  obtain ⟨k, e, rfl, hk, he, hne⟩ := task_at htb
  obtain ⟨il, hil⟩ : ∃ b, inlineB (gsD u.gs) e.st e.gr.toNat e.cpu.toNat = b := ⟨_, rfl⟩
  have HRR : Hid (lineS u (k : Int) = (ok && il)) := by unfold Hid lineS lineAt; rw [htb2, hok, Int.toNat_natCast, he]; show (ok && (true && inlineB (gsD u.gs) e.st e.gr.toNat e.cpu.toNat)) = _; rw [hil, Bool.true_and]
  have hI : okS u = true → ∀ W, SlW W u → Calls Tryz.prog 47 #[wvV u, .int .i64 (k : Int)] W fun e' w' => e' = .returned (.bool il) ∧ Below W.heap.size W w' := fun h1 W hW => by
    obtain ⟨_, _, _, hF, _⟩ := okS_fit h1
    obtain ⟨g, c, hg, hg8, hug, hcp, hc⟩ := okS_tfit h1 k e he hne
    have h0 := l8InLine_any k g c u e W hW hF.tree he hg8 hug (hF.ok hc) hg hcp
    have : inlineB (gsD u.gs) e.st g c = il := by rw [← hil, hg, hcp, Int.toNat_natCast, Int.toNat_natCast]
    rw [this] at h0; exact h0
  rw [hv] at hK hTk hI ⊢
  clear hA hs hf e1 e2 e3 hv hok htb htb2 he hil
  cases ok
  · go_enter Tryz.func18, Tryz.ntmps18
    go_wp2_with (go_at_call 10; refine (hK _ (HS.out.below acc)).mono ?_; rintro e1 V1 ⟨rfl, hb1⟩; have t0 := (hb1.cell (p := ⟨w.heap.size, 0, none⟩) lw).trans t0; have t1 := (hb1.cell (p := ⟨w.heap.size, 1, none⟩) lw).trans t1; have t2 := (hb1.cell (p := ⟨w.heap.size, 2, none⟩) lw).trans t2; have t3 := (hb1.cell (p := ⟨w.heap.size, 3, none⟩) lw).trans t3; have lw := Nat.lt_of_lt_of_le lw hb1.size; replace accH := accH.trans (hb1.mono accH.size); replace acc := acc.trans (hb1.mono acc.size); clear hb1)
    go_ret
    exact ⟨by rw [HRR.out]; rfl, acc⟩
  · go_enter Tryz.func18, Tryz.ntmps18
    go_wp2_with (first | (go_at_call 10; refine (hK _ (HS.out.below acc)).mono ?_; rintro e1 V1 ⟨rfl, hb1⟩; have t0 := (hb1.cell (p := ⟨w.heap.size, 0, none⟩) lw).trans t0; have t1 := (hb1.cell (p := ⟨w.heap.size, 1, none⟩) lw).trans t1; have t2 := (hb1.cell (p := ⟨w.heap.size, 2, none⟩) lw).trans t2; have t3 := (hb1.cell (p := ⟨w.heap.size, 3, none⟩) lw).trans t3; have lw := Nat.lt_of_lt_of_le lw hb1.size; replace accH := accH.trans (hb1.mono accH.size); replace acc := acc.trans (hb1.mono acc.size); clear hb1) | (go_at_call 43; refine (hTk _ (HS.out.below acc)).mono ?_; rintro e1 V1 ⟨rfl, hb1⟩; have t0 := (hb1.cell (p := ⟨w.heap.size, 0, none⟩) lw).trans t0; have t1 := (hb1.cell (p := ⟨w.heap.size, 1, none⟩) lw).trans t1; have t2 := (hb1.cell (p := ⟨w.heap.size, 2, none⟩) lw).trans t2; have t3 := (hb1.cell (p := ⟨w.heap.size, 3, none⟩) lw).trans t3; have lw := Nat.lt_of_lt_of_le lw hb1.size; replace accH := accH.trans (hb1.mono accH.size); replace acc := acc.trans (hb1.mono acc.size); clear hb1) | (go_at_call 47; refine (hI HO.out _ (HS.out.below acc)).mono ?_; rintro e1 V1 ⟨rfl, hb1⟩; have t0 := (hb1.cell (p := ⟨w.heap.size, 0, none⟩) lw).trans t0; have t1 := (hb1.cell (p := ⟨w.heap.size, 1, none⟩) lw).trans t1; have t2 := (hb1.cell (p := ⟨w.heap.size, 2, none⟩) lw).trans t2; have t3 := (hb1.cell (p := ⟨w.heap.size, 3, none⟩) lw).trans t3; have lw := Nat.lt_of_lt_of_le lw hb1.size; replace accH := accH.trans (hb1.mono accH.size); replace acc := acc.trans (hb1.mono acc.size); clear hb1))
    go_ret
    exact ⟨by rw [HRR.out]; first | rfl | simp, acc⟩
theorem specLine_any (t : Int) (u : Wv) (w : World) (hs : SlW w u) (hf : GsFit u.gs) :
    Calls Tryz.prog 18 #[wvV u, .int .i64 t] w fun e' w' => e' = .returned (.bool (lineS u t)) ∧ Below w.heap.size w w' := by
  cases htb : taskB u.ts t
  · exact specLine_no t u w hs hf htb
  · exact specLine_yes t u w hs hf htb
end Go.Proofs.YthplehohpihfpaaGreat
