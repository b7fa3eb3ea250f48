/- WorldMask, the program's and the specification's. -/
import Derived.Test.YthplehohpihfpaaGreatC46
import Derived.Test.YthplehohpihfpaaGreatC05
import Derived.Test.YthplehohpihfpaaGreatHL
namespace Go.Proofs.YthplehohpihfpaaGreat
set_option linter.unusedVariables false
set_option linter.unusedSimpArgs false
open Go.ChangeShapes Go.WideShapes Go.ChangeAt Go.RowKit Go.Shelf Go.Sort
attribute [local go_sem] Oper.semAt_some
def maskAt (u : Wv) (t : Int) : Int := ((u.ts[t.toNat]?).map (fun e => whereM u.cs (gsD u.gs) e.gr.toNat e.ma)).getD 0
def maskS (u : Wv) (t : Int) : Int := if (okS u && taskB u.ts t) = true then maskAt u t else 0
set_option maxRecDepth 100000 in
set_option maxHeartbeats 16000000 in
theorem implMask_no (t : Int) (u : Wv) (w : World) (hs : SlW w u) (hf : GsFit u.gs) (htb : taskB u.ts t = false) :
    Calls Tryz.prog 17 #[wvV u, .int .i64 t] w fun e' w' => e' = .returned (.int .i64 (maskS u t)) ∧ Below w.heap.size w w' := by
  obtain ⟨p1, c1, p2, c2, p3, c3, e1, e2, e3, hl1, hl2, hl3⟩ := hs.forms
  have hv : wvV u = .agg #[.int .i64 u.now, .slice p1 u.cs.length c1, .slice p2 u.ts.length c2, .slice p3 u.gs.length c3] := by unfold wvV; rw [e1, e2, e3]
  obtain ⟨W1, hW1⟩ : ∃ W1, w.alloc (.cells #[.int .i64 u.now, .slice p1 u.cs.length c1, .slice p2 u.ts.length c2, .slice p3 u.gs.length c3] 33) = W1 := ⟨_, rfl⟩
  obtain ⟨hA, acc, lw⟩ := boxed_w hs e1 e2 e3 hW1
  obtain ⟨t0, t1, t2, t3⟩ := hA.forms e1 e2 e3
  have HA : Hid (AtW W1 w.heap.size u) := hA
  have HS : Hid (SlW w u) := hs
  have HZ : Hid (SlG w (.slice p3 u.gs.length c3) u.gs) := by have := hs.2.2; rw [e3] at this; exact this
  obtain ⟨ok, hok⟩ : ∃ b, okS u = b := ⟨_, rfl⟩
  have HO : Hid (okS u = ok) := hok
  have accH : Below W1.heap.size W1 W1 := Below.refl _ _
  have hK : ∀ W, SlW W u → Calls Tryz.prog 12 #[wvV u] W fun e' w' => e' = .returned (.bool ok) ∧ Below W.heap.size W w' := fun W h => by rw [← hok]; exact implWorldOk_eq u W h hf
  have HTB : Hid (taskB u.ts t = false) := htb
  have HR0 : Hid (maskS u t = 0) := by unfold Hid maskS; rw [htb]; simp
  rw [hv] at hK ⊢
  clear hA hs hf e1 e2 e3 hv hok htb
  cases ok
  · go_enter Tryz.func17, Tryz.ntmps17
    go_wp2_with (go_at_call 12; refine (hK _ (HS.out.below acc)).mono ?_; rintro e1 V1 ⟨rfl, hb1⟩; have t0 := (hb1.cell (p := ⟨w.heap.size, 0, none⟩) lw).trans t0; have t1 := (hb1.cell (p := ⟨w.heap.size, 1, none⟩) lw).trans t1; have t2 := (hb1.cell (p := ⟨w.heap.size, 2, none⟩) lw).trans t2; have t3 := (hb1.cell (p := ⟨w.heap.size, 3, none⟩) lw).trans t3; have lw := Nat.lt_of_lt_of_le lw hb1.size; replace accH := accH.trans (hb1.mono accH.size); replace acc := acc.trans (hb1.mono acc.size); clear hb1)
    go_ret
    exact ⟨by rw [HR0.out]; rfl, acc⟩
  · go_enter Tryz.func17, Tryz.ntmps17
    go_wp2_with (first | (go_at_call 12; refine (hK _ (HS.out.below acc)).mono ?_; rintro e1 V1 ⟨rfl, hb1⟩; have t0 := (hb1.cell (p := ⟨w.heap.size, 0, none⟩) lw).trans t0; have t1 := (hb1.cell (p := ⟨w.heap.size, 1, none⟩) lw).trans t1; have t2 := (hb1.cell (p := ⟨w.heap.size, 2, none⟩) lw).trans t2; have t3 := (hb1.cell (p := ⟨w.heap.size, 3, none⟩) lw).trans t3; have lw := Nat.lt_of_lt_of_le lw hb1.size; replace accH := accH.trans (hb1.mono accH.size); replace acc := acc.trans (hb1.mono acc.size); clear hb1) | (go_at_call 45; refine (hasTask_any w.heap.size t u _ (HA.out.below accH)).mono ?_; rintro e1 w1 ⟨rfl, hw1⟩; subst w1; rw [HTB.out]))
    go_ret
    exact ⟨by rw [HR0.out]; rfl, acc⟩
set_option maxRecDepth 100000 in
set_option maxHeartbeats 16000000 in
theorem implMask_yes (t : Int) (u : Wv) (w : World) (hs : SlW w u) (hf : GsFit u.gs) (htb : taskB u.ts t = true) :
    Calls Tryz.prog 17 #[wvV u, .int .i64 t] w fun e' w' => e' = .returned (.int .i64 (maskS u t)) ∧ Below w.heap.size w w' := by
  obtain ⟨p1, c1, p2, c2, p3, c3, e1, e2, e3, hl1, hl2, hl3⟩ := hs.forms
  have hv : wvV u = .agg #[.int .i64 u.now, .slice p1 u.cs.length c1, .slice p2 u.ts.length c2, .slice p3 u.gs.length c3] := by unfold wvV; rw [e1, e2, e3]
  obtain ⟨W1, hW1⟩ : ∃ W1, w.alloc (.cells #[.int .i64 u.now, .slice p1 u.cs.length c1, .slice p2 u.ts.length c2, .slice p3 u.gs.length c3] 33) = W1 := ⟨_, rfl⟩
  obtain ⟨hA, acc, lw⟩ := boxed_w hs e1 e2 e3 hW1
  obtain ⟨t0, t1, t2, t3⟩ := hA.forms e1 e2 e3
  have HA : Hid (AtW W1 w.heap.size u) := hA
  have HS : Hid (SlW w u) := hs
  have HZ : Hid (SlG w (.slice p3 u.gs.length c3) u.gs) := by have := hs.2.2; rw [e3] at this; exact this
  obtain ⟨ok, hok⟩ : ∃ b, okS u = b := ⟨_, rfl⟩
  have HO : Hid (okS u = ok) := hok
  have accH : Below W1.heap.size W1 W1 := Below.refl _ _
  have hK : ∀ W, SlW W u → Calls Tryz.prog 12 #[wvV u] W fun e' w' => e' = .returned (.bool ok) ∧ Below W.heap.size W w' := fun W h => by rw [← hok]; exact implWorldOk_eq u W h hf
  have HTB : Hid (taskB u.ts t = true) := htb
  have htb2 := htb
  obtain ⟨k, e, rfl, hk, he, hne⟩ := task_at htb
  obtain ⟨mw, hmw⟩ : ∃ m, whereM u.cs (gsD u.gs) e.gr.toNat e.ma = m := ⟨_, rfl⟩
  have HRR : Hid (maskS u (k : Int) = if ok = true then mw else 0) := by unfold Hid maskS maskAt; rw [htb2, hok, Bool.and_true, Int.toNat_natCast, he]; show (if ok = true then whereM u.cs (gsD u.gs) e.gr.toNat e.ma else 0) = _; rw [hmw]
  have hI : okS u = true → ∀ W, AtW W w.heap.size u → Calls Tryz.prog 46 #[.pointer (some ⟨w.heap.size, 0, none⟩), tkV e] W fun e' w' => e' = .returned (.int .i64 mw) ∧ Below W.heap.size W w' := fun h1 W hW => by
    obtain ⟨_, _, _, hF, _⟩ := okS_fit h1
    obtain ⟨g, c, hg, hg8, hug, hcp, hc⟩ := okS_tfit h1 k e he hne
    have h0 := whereOf_any w.heap.size g e u W hW hF.n4 hF.tree hg8 hug hg
    have : whereM u.cs (gsD u.gs) g e.ma = mw := by rw [← hmw, hg, Int.toNat_natCast]
    rw [this] at h0; exact h0
  unfold tkV at hI
  obtain ⟨tg, to, cap, m2, hr, _, htl⟩ := HA.out.cellsT he
  rw [t2] at m2
  simp only [Option.some.injEq, Value.slice.injEq] at m2
  obtain ⟨q1, q2, q3⟩ := m2
  clear q2
  subst q1 q3
  obtain ⟨x0, x1, x2, x3, x4, x5, x6, x7, x8⟩ := tk_cells hr
  have lt := block_lt_of_cell x0
  dsimp only at lt
  have hk' : (k : Int) < (u.ts.length : Int) := by omega
  rw [hv] at hK ⊢
  clear hA hs hf e1 e2 e3 hv hok htb htb2 hr he hmw
  cases ok
  · go_enter Tryz.func17, Tryz.ntmps17
    go_wp2_with (go_at_call 12; refine (hK _ (HS.out.below acc)).mono ?_; rintro e1 V1 ⟨rfl, hb1⟩; have hbx := hb1; have x0 := (hbx.cell (p := ⟨tg, to + k * 9, none⟩) lt).trans x0; have x1 := (hbx.cell (p := ⟨tg, to + k * 9 + 1, none⟩) lt).trans x1; have x2 := (hbx.cell (p := ⟨tg, to + k * 9 + 2, none⟩) lt).trans x2; have x3 := (hbx.cell (p := ⟨tg, to + k * 9 + 3, none⟩) lt).trans x3; have x4 := (hbx.cell (p := ⟨tg, to + k * 9 + 4, none⟩) lt).trans x4; have x5 := (hbx.cell (p := ⟨tg, to + k * 9 + 5, none⟩) lt).trans x5; have x6 := (hbx.cell (p := ⟨tg, to + k * 9 + 6, none⟩) lt).trans x6; have x7 := (hbx.cell (p := ⟨tg, to + k * 9 + 7, none⟩) lt).trans x7; have x8 := (hbx.cell (p := ⟨tg, to + k * 9 + 8, none⟩) lt).trans x8; have lt := Nat.lt_of_lt_of_le lt hbx.size; clear hbx; have t0 := (hb1.cell (p := ⟨w.heap.size, 0, none⟩) lw).trans t0; have t1 := (hb1.cell (p := ⟨w.heap.size, 1, none⟩) lw).trans t1; have t2 := (hb1.cell (p := ⟨w.heap.size, 2, none⟩) lw).trans t2; have t3 := (hb1.cell (p := ⟨w.heap.size, 3, none⟩) lw).trans t3; have lw := Nat.lt_of_lt_of_le lw hb1.size; replace accH := accH.trans (hb1.mono accH.size); replace acc := acc.trans (hb1.mono acc.size); clear hb1)
    go_ret
    exact ⟨by rw [HRR.out]; rfl, acc⟩
  · go_enter Tryz.func17, Tryz.ntmps17
    go_wp2_with (first | (go_at_call 12; refine (hK _ (HS.out.below acc)).mono ?_; rintro e1 V1 ⟨rfl, hb1⟩; have hbx := hb1; have x0 := (hbx.cell (p := ⟨tg, to + k * 9, none⟩) lt).trans x0; have x1 := (hbx.cell (p := ⟨tg, to + k * 9 + 1, none⟩) lt).trans x1; have x2 := (hbx.cell (p := ⟨tg, to + k * 9 + 2, none⟩) lt).trans x2; have x3 := (hbx.cell (p := ⟨tg, to + k * 9 + 3, none⟩) lt).trans x3; have x4 := (hbx.cell (p := ⟨tg, to + k * 9 + 4, none⟩) lt).trans x4; have x5 := (hbx.cell (p := ⟨tg, to + k * 9 + 5, none⟩) lt).trans x5; have x6 := (hbx.cell (p := ⟨tg, to + k * 9 + 6, none⟩) lt).trans x6; have x7 := (hbx.cell (p := ⟨tg, to + k * 9 + 7, none⟩) lt).trans x7; have x8 := (hbx.cell (p := ⟨tg, to + k * 9 + 8, none⟩) lt).trans x8; have lt := Nat.lt_of_lt_of_le lt hbx.size; clear hbx; have t0 := (hb1.cell (p := ⟨w.heap.size, 0, none⟩) lw).trans t0; have t1 := (hb1.cell (p := ⟨w.heap.size, 1, none⟩) lw).trans t1; have t2 := (hb1.cell (p := ⟨w.heap.size, 2, none⟩) lw).trans t2; have t3 := (hb1.cell (p := ⟨w.heap.size, 3, none⟩) lw).trans t3; have lw := Nat.lt_of_lt_of_le lw hb1.size; replace accH := accH.trans (hb1.mono accH.size); replace acc := acc.trans (hb1.mono acc.size); clear hb1) | (go_at_call 45; refine (hasTask_any w.heap.size (k : Int) u _ (HA.out.below accH)).mono ?_; rintro e1 w1 ⟨rfl, hw1⟩; subst w1; rw [HTB.out]) | (go_at_call 46; refine (hI HO.out _ (HA.out.below accH)).mono ?_; rintro e1 V1 ⟨rfl, hb1⟩; have t0 := (hb1.cell (p := ⟨w.heap.size, 0, none⟩) lw).trans t0; have t1 := (hb1.cell (p := ⟨w.heap.size, 1, none⟩) lw).trans t1; have t2 := (hb1.cell (p := ⟨w.heap.size, 2, none⟩) lw).trans t2; have t3 := (hb1.cell (p := ⟨w.heap.size, 3, none⟩) lw).trans t3; have lw := Nat.lt_of_lt_of_le lw hb1.size; replace accH := accH.trans (hb1.mono accH.size); replace acc := acc.trans (hb1.mono acc.size); clear hb1))
    go_ret
    exact ⟨by rw [HRR.out]; rfl, acc⟩
theorem implMask_any (t : Int) (u : Wv) (w : World) (hs : SlW w u) (hf : GsFit u.gs) :
    Calls Tryz.prog 17 #[wvV u, .int .i64 t] w fun e' w' => e' = .returned (.int .i64 (maskS u t)) ∧ Below w.heap.size w w' := by
  cases htb : taskB u.ts t
  · exact implMask_no t u w hs hf htb
  · exact implMask_yes t u w hs hf htb
set_option maxRecDepth 100000 in
set_option maxHeartbeats 16000000 in
theorem specMask_no (t : Int) (u : Wv) (w : World) (hs : SlW w u) (hf : GsFit u.gs) (htb : taskB u.ts t = false) :
    Calls Tryz.prog 16 #[wvV u, .int .i64 t] w fun e' w' => e' = .returned (.int .i64 (maskS u t)) ∧ Below w.heap.size w w' := by
  obtain ⟨p1, c1, p2, c2, p3, c3, e1, e2, e3, hl1, hl2, hl3⟩ := hs.forms
  have hv : wvV u = .agg #[.int .i64 u.now, .slice p1 u.cs.length c1, .slice p2 u.ts.length c2, .slice p3 u.gs.length c3] := by unfold wvV; rw [e1, e2, e3]
  obtain ⟨W1, hW1⟩ : ∃ W1, w.alloc (.cells #[.int .i64 u.now, .slice p1 u.cs.length c1, .slice p2 u.ts.length c2, .slice p3 u.gs.length c3] 33) = W1 := ⟨_, rfl⟩
  obtain ⟨hA, acc, lw⟩ := boxed_w hs e1 e2 e3 hW1
  obtain ⟨t0, t1, t2, t3⟩ := hA.forms e1 e2 e3
  have HA : Hid (AtW W1 w.heap.size u) := hA
  have HS : Hid (SlW w u) := hs
  have HZ : Hid (SlG w (.slice p3 u.gs.length c3) u.gs) := by have := hs.2.2; rw [e3] at this; exact this
  obtain ⟨ok, hok⟩ : ∃ b, okS u = b := ⟨_, rfl⟩
  have HO : Hid (okS u = ok) := hok
  have accH : Below W1.heap.size W1 W1 := Below.refl _ _
  have hK : ∀ W, SlW W u → Calls Tryz.prog 10 #[wvV u] W fun e' w' => e' = .returned (.bool ok) ∧ Below W.heap.size W w' := fun W h => by rw [← hok]; exact specWorldOk_any u W h hf
  have hTk : ∀ W, SlW W u → Calls Tryz.prog 43 #[wvV u, .int .i64 t] W fun e' w' => e' = .returned (.bool false) ∧ Below W.heap.size W w' := fun W h => by have h0 := l8Task_any t u W h; rw [htb] at h0; exact h0
  have HTB : Hid (taskB u.ts t = false) := htb
  have HR0 : Hid (maskS u t = 0) := by unfold Hid maskS; rw [htb]; simp
  rw [hv] at hK hTk ⊢
  clear hA hs hf e1 e2 e3 hv hok htb
  cases ok
  · go_enter Tryz.func16, Tryz.ntmps16
    go_wp2_with (go_at_call 10; refine (hK _ (HS.out.below acc)).mono ?_; rintro e1 V1 ⟨rfl, hb1⟩; have t0 := (hb1.cell (p := ⟨w.heap.size, 0, none⟩) lw).trans t0; have t1 := (hb1.cell (p := ⟨w.heap.size, 1, none⟩) lw).trans t1; have t2 := (hb1.cell (p := ⟨w.heap.size, 2, none⟩) lw).trans t2; have t3 := (hb1.cell (p := ⟨w.heap.size, 3, none⟩) lw).trans t3; have lw := Nat.lt_of_lt_of_le lw hb1.size; replace accH := accH.trans (hb1.mono accH.size); replace acc := acc.trans (hb1.mono acc.size); clear hb1)
    go_ret
    exact ⟨by rw [HR0.out]; rfl, acc⟩
  · go_enter Tryz.func16, Tryz.ntmps16
    go_wp2_with (first | (go_at_call 10; refine (hK _ (HS.out.below acc)).mono ?_; rintro e1 V1 ⟨rfl, hb1⟩; have t0 := (hb1.cell (p := ⟨w.heap.size, 0, none⟩) lw).trans t0; have t1 := (hb1.cell (p := ⟨w.heap.size, 1, none⟩) lw).trans t1; have t2 := (hb1.cell (p := ⟨w.heap.size, 2, none⟩) lw).trans t2; have t3 := (hb1.cell (p := ⟨w.heap.size, 3, none⟩) lw).trans t3; have lw := Nat.lt_of_lt_of_le lw hb1.size; replace accH := accH.trans (hb1.mono accH.size); replace acc := acc.trans (hb1.mono acc.size); clear hb1) | (go_at_call 43; refine (hTk _ (HS.out.below acc)).mono ?_; rintro e1 V1 ⟨rfl, hb1⟩; have t0 := (hb1.cell (p := ⟨w.heap.size, 0, none⟩) lw).trans t0; have t1 := (hb1.cell (p := ⟨w.heap.size, 1, none⟩) lw).trans t1; have t2 := (hb1.cell (p := ⟨w.heap.size, 2, none⟩) lw).trans t2; have t3 := (hb1.cell (p := ⟨w.heap.size, 3, none⟩) lw).trans t3; have lw := Nat.lt_of_lt_of_le lw hb1.size; replace accH := accH.trans (hb1.mono accH.size); replace acc := acc.trans (hb1.mono acc.size); clear hb1))
    go_ret
    exact ⟨by rw [HR0.out]; rfl, acc⟩
set_option maxRecDepth 100000 in
set_option maxHeartbeats 16000000 in
theorem specMask_yes (t : Int) (u : Wv) (w : World) (hs : SlW w u) (hf : GsFit u.gs) (htb : taskB u.ts t = true) :
    Calls Tryz.prog 16 #[wvV u, .int .i64 t] w fun e' w' => e' = .returned (.int .i64 (maskS u t)) ∧ Below w.heap.size w w' := by
  obtain ⟨p1, c1, p2, c2, p3, c3, e1, e2, e3, hl1, hl2, hl3⟩ := hs.forms
  have hv : wvV u = .agg #[.int .i64 u.now, .slice p1 u.cs.length c1, .slice p2 u.ts.length c2, .slice p3 u.gs.length c3] := by unfold wvV; rw [e1, e2, e3]
  obtain ⟨W1, hW1⟩ : ∃ W1, w.alloc (.cells #[.int .i64 u.now, .slice p1 u.cs.length c1, .slice p2 u.ts.length c2, .slice p3 u.gs.length c3] 33) = W1 := ⟨_, rfl⟩
  obtain ⟨hA, acc, lw⟩ := boxed_w hs e1 e2 e3 hW1
  obtain ⟨t0, t1, t2, t3⟩ := hA.forms e1 e2 e3
  have HA : Hid (AtW W1 w.heap.size u) := hA
  have HS : Hid (SlW w u) := hs
  have HZ : Hid (SlG w (.slice p3 u.gs.length c3) u.gs) := by have := hs.2.2; rw [e3] at this; exact this
  obtain ⟨ok, hok⟩ : ∃ b, okS u = b := ⟨_, rfl⟩
  have HO : Hid (okS u = ok) := hok
  have accH : Below W1.heap.size W1 W1 := Below.refl _ _
  have hK : ∀ W, SlW W u → Calls Tryz.prog 10 #[wvV u] W fun e' w' => e' = .returned (.bool ok) ∧ Below W.heap.size W w' := fun W h => by rw [← hok]; exact specWorldOk_any u W h hf
  have hTk : ∀ W, SlW W u → Calls Tryz.prog 43 #[wvV u, .int .i64 t] W fun e' w' => e' = .returned (.bool true) ∧ Below W.heap.size W w' := fun W h => by have h0 := l8Task_any t u W h; rw [htb] at h0; exact h0
  have HTB : Hid (taskB u.ts t = true) := htb
  have htb2 := htb
  obtain ⟨k, e, rfl, hk, he, hne⟩ := task_at htb
  obtain ⟨mw, hmw⟩ : ∃ m, whereM u.cs (gsD u.gs) e.gr.toNat e.ma = m := ⟨_, rfl⟩
  have HRR : Hid (maskS u (k : Int) = if ok = true then mw else 0) := by unfold Hid maskS maskAt; rw [htb2, hok, Bool.and_true, Int.toNat_natCast, he]; show (if ok = true then whereM u.cs (gsD u.gs) e.gr.toNat e.ma else 0) = _; rw [hmw]
  have hI : okS u = true → ∀ W, SlW W u → Calls Tryz.prog 44 #[wvV u, .int .i64 e.gr, .int .i64 e.ma] W fun e' w' => e' = .returned (.int .i64 mw) ∧ Below W.heap.size W w' := fun h1 W hW => by
    obtain ⟨_, _, h3, hF, hC⟩ := okS_fit h1
    obtain ⟨g, c, hg, hg8, hug, hcp, hc⟩ := okS_tfit h1 k e he hne
    have h0 := l8Where_any g e.ma u W hW hF.n4 hF.tree hg8 hug
    have : whereS u.cs (gsD u.gs) g e.ma = mw := by rw [← hmw, hg, Int.toNat_natCast]; exact (where_eq hF.n4 hF.tree hC hg8 hug (num_set (task_there (tasks_at h3 he) hne).2.1)).1
    rw [this] at h0
    rw [hg]; exact h0
  obtain ⟨tg, to, cap, m2, hr, _, htl⟩ := HA.out.cellsT he
  rw [t2] at m2
  simp only [Option.some.injEq, Value.slice.injEq] at m2
  obtain ⟨q1, q2, q3⟩ := m2
  clear q2
  subst q1 q3
  obtain ⟨x0, x1, x2, x3, x4, x5, x6, x7, x8⟩ := tk_cells hr
  have lt := block_lt_of_cell x0
  dsimp only at lt
  have hk' : (k : Int) < (u.ts.length : Int) := by omega
  rw [hv] at hK hTk hI ⊢
  clear hA hs hf e1 e2 e3 hv hok htb htb2 hr he hmw
  cases ok
  · go_enter Tryz.func16, Tryz.ntmps16
    go_wp2_with (go_at_call 10; refine (hK _ (HS.out.below acc)).mono ?_; rintro e1 V1 ⟨rfl, hb1⟩; have hbx := hb1; have x0 := (hbx.cell (p := ⟨tg, to + k * 9, none⟩) lt).trans x0; have x1 := (hbx.cell (p := ⟨tg, to + k * 9 + 1, none⟩) lt).trans x1; have x2 := (hbx.cell (p := ⟨tg, to + k * 9 + 2, none⟩) lt).trans x2; have x3 := (hbx.cell (p := ⟨tg, to + k * 9 + 3, none⟩) lt).trans x3; have x4 := (hbx.cell (p := ⟨tg, to + k * 9 + 4, none⟩) lt).trans x4; have x5 := (hbx.cell (p := ⟨tg, to + k * 9 + 5, none⟩) lt).trans x5; have x6 := (hbx.cell (p := ⟨tg, to + k * 9 + 6, none⟩) lt).trans x6; have x7 := (hbx.cell (p := ⟨tg, to + k * 9 + 7, none⟩) lt).trans x7; have x8 := (hbx.cell (p := ⟨tg, to + k * 9 + 8, none⟩) lt).trans x8; have lt := Nat.lt_of_lt_of_le lt hbx.size; clear hbx; have t0 := (hb1.cell (p := ⟨w.heap.size, 0, none⟩) lw).trans t0; have t1 := (hb1.cell (p := ⟨w.heap.size, 1, none⟩) lw).trans t1; have t2 := (hb1.cell (p := ⟨w.heap.size, 2, none⟩) lw).trans t2; have t3 := (hb1.cell (p := ⟨w.heap.size, 3, none⟩) lw).trans t3; have lw := Nat.lt_of_lt_of_le lw hb1.size; replace accH := accH.trans (hb1.mono accH.size); replace acc := acc.trans (hb1.mono acc.size); clear hb1)
    go_ret
    exact ⟨by rw [HRR.out]; rfl, acc⟩
  · go_enter Tryz.func16, Tryz.ntmps16
    go_wp2_with (first | (go_at_call 10; refine (hK _ (HS.out.below acc)).mono ?_; rintro e1 V1 ⟨rfl, hb1⟩; have hbx := hb1; have x0 := (hbx.cell (p := ⟨tg, to + k * 9, none⟩) lt).trans x0; have x1 := (hbx.cell (p := ⟨tg, to + k * 9 + 1, none⟩) lt).trans x1; have x2 := (hbx.cell (p := ⟨tg, to + k * 9 + 2, none⟩) lt).trans x2; have x3 := (hbx.cell (p := ⟨tg, to + k * 9 + 3, none⟩) lt).trans x3; have x4 := (hbx.cell (p := ⟨tg, to + k * 9 + 4, none⟩) lt).trans x4; have x5 := (hbx.cell (p := ⟨tg, to + k * 9 + 5, none⟩) lt).trans x5; have x6 := (hbx.cell (p := ⟨tg, to + k * 9 + 6, none⟩) lt).trans x6; have x7 := (hbx.cell (p := ⟨tg, to + k * 9 + 7, none⟩) lt).trans x7; have x8 := (hbx.cell (p := ⟨tg, to + k * 9 + 8, none⟩) lt).trans x8; have lt := Nat.lt_of_lt_of_le lt hbx.size; clear hbx; have t0 := (hb1.cell (p := ⟨w.heap.size, 0, none⟩) lw).trans t0; have t1 := (hb1.cell (p := ⟨w.heap.size, 1, none⟩) lw).trans t1; have t2 := (hb1.cell (p := ⟨w.heap.size, 2, none⟩) lw).trans t2; have t3 := (hb1.cell (p := ⟨w.heap.size, 3, none⟩) lw).trans t3; have lw := Nat.lt_of_lt_of_le lw hb1.size; replace accH := accH.trans (hb1.mono accH.size); replace acc := acc.trans (hb1.mono acc.size); clear hb1) | (go_at_call 43; refine (hTk _ (HS.out.below acc)).mono ?_; rintro e1 V ⟨rfl, hb1⟩; have hbx := hb1; have x0 := (hbx.cell (p := ⟨tg, to + k * 9, none⟩) lt).trans x0; have x1 := (hbx.cell (p := ⟨tg, to + k * 9 + 1, none⟩) lt).trans x1; have x2 := (hbx.cell (p := ⟨tg, to + k * 9 + 2, none⟩) lt).trans x2; have x3 := (hbx.cell (p := ⟨tg, to + k * 9 + 3, none⟩) lt).trans x3; have x4 := (hbx.cell (p := ⟨tg, to + k * 9 + 4, none⟩) lt).trans x4; have x5 := (hbx.cell (p := ⟨tg, to + k * 9 + 5, none⟩) lt).trans x5; have x6 := (hbx.cell (p := ⟨tg, to + k * 9 + 6, none⟩) lt).trans x6; have x7 := (hbx.cell (p := ⟨tg, to + k * 9 + 7, none⟩) lt).trans x7; have x8 := (hbx.cell (p := ⟨tg, to + k * 9 + 8, none⟩) lt).trans x8; have lt := Nat.lt_of_lt_of_le lt hbx.size; clear hbx; have t0 := (hb1.cell (p := ⟨w.heap.size, 0, none⟩) lw).trans t0; have t1 := (hb1.cell (p := ⟨w.heap.size, 1, none⟩) lw).trans t1; have t2 := (hb1.cell (p := ⟨w.heap.size, 2, none⟩) lw).trans t2; have t3 := (hb1.cell (p := ⟨w.heap.size, 3, none⟩) lw).trans t3; have lw := Nat.lt_of_lt_of_le lw hb1.size; replace accH := accH.trans (hb1.mono accH.size); replace acc := acc.trans (hb1.mono acc.size); clear hb1))
    have cW : ∀ d os, Calls Tryz.prog 44 #[.agg #[.int .i64 u.now, .slice p1 u.cs.length c1, .slice (some ⟨tg, to, none⟩) u.ts.length c2, .slice p3 u.gs.length c3], .int .i64 e.gr, .int .i64 e.ma] (grow (redrawn V d) os) fun e' w'' => e' = .returned (.int .i64 mw) ∧ ∃ p : Regrown, w'' = grow (redrawn V p.d) p.os := fun d os => Calls.regrown_of (hI HO.out _ (HS.out.below (acc.trans ((below_regrown V d os).mono acc.size))))
    have j0 := cell_regrown t0
    have j1 := cell_regrown t1
    have j2 := cell_regrown t2
    have j3 := cell_regrown t3
    have k1 := cell_regrown x1
    have k4 := cell_regrown x4
    refine wp_region_quiet_below (by kernel_rfl) (by kernel_rfl) ?_
    clear hW1
    repeat (go_big_quiet_step (exact cW _ _))
    refine wpQuiet_nil ?_
    rintro _ ⟨⟨dq, osq⟩, rfl⟩
    go_wp2
    go_ret
    exact ⟨by rw [HRR.out]; rfl, acc.trans ((below_regrown V dq osq).mono acc.size)⟩
theorem specMask_any (t : Int) (u : Wv) (w : World) (hs : SlW w u) (hf : GsFit u.gs) :
    Calls Tryz.prog 16 #[wvV u, .int .i64 t] w fun e' w' => e' = .returned (.int .i64 (maskS u t)) ∧ Below w.heap.size w w' := by
  cases htb : taskB u.ts t
  · exact specMask_no t u w hs hf htb
  · exact specMask_yes t u w hs hf htb
end Go.Proofs.YthplehohpihfpaaGreat
