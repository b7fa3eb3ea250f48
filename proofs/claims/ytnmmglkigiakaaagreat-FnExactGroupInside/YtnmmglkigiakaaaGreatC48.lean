/- What an ok world shows to who reads it. The specification: what a world shows to a walk; the load of a processor. Chapter 12: what its functions tell; the specification: how many wait. Chapter 12: alike worlds tell alike. -/
import Derived.Test.YtnmmglkigiakaaaGreatC46
import Derived.Test.YtnmmglkigiakaaaGreatC47
import Derived.Test.YtnmmglkigiakaaaGreatC01
namespace Go.Proofs.YtnmmglkigiakaaaGreat
set_option linter.unusedVariables false
set_option linter.unusedSimpArgs false
open Go.ChangeShapes Go.WideShapes Go.ChangeAt Go.RowKit Go.Shelf Go.Sort

/-- what an ok world shows: all that is wanted to read of it. -/
theorem okS_read {u : Wv} (h : okS u = true) : Fit u ∧ CpIn (gsD u.gs) ∧ TFit u ∧ TGr u := by
  obtain ⟨h1, h2, h3, hF, hC⟩ := okS_fit h
  exact ⟨hF, hC, tfit_of hF hC h3, tgr_of hF h3⟩
theorem weAt_range {u : Wv} (h : okS u = true) {g : Nat} (hu : usAt (gsD u.gs) g = true) : 1 ≤ weAt u g ∧ weAt u g ≤ 20 := by
  obtain ⟨h1, h2, h3, hF, hC⟩ := okS_fit h
  have hg : g < u.gs.length := by
    rcases Nat.lt_or_ge g u.gs.length with h | h
    · exact h
    · unfold usAt gsD at hu
      rw [List.getElem?_map, List.getElem?_eq_none h] at hu
      cases hu
  obtain ⟨e, he, q0, _⟩ := gs_get hg
  have hb := groups_at h2 he
  unfold weAt
  rw [he]
  show 1 ≤ e.d.we ∧ e.d.we ≤ 20
  rw [q0] at hu
  unfold groupB at hb
  rw [hu] at hb
  simp only [Bool.true_eq_false, if_false, Bool.and_eq_true] at hb
  exact l1in_iff.1 hb.2.1
end Go.Proofs.YtnmmglkigiakaaaGreat
namespace Go.Proofs.YtnmmglkigiakaaaGreat
set_option linter.unusedVariables false
set_option linter.unusedSimpArgs false
open Go.ChangeShapes Go.WideShapes Go.ChangeAt Go.RowKit Go.Shelf Go.Sort
attribute [local go_sem] Oper.semAt_some
/-- the specification tells who is in line. -/
theorem spec_line (k c : Nat) (u : Wv) (e : Tk) (W : World) (hW : SlW W u) (hF : Fit u) (hTG : TGr u) (hc : c < u.cs.length) (he : u.ts[k]? = some e) (hcp : e.cpu = (c : Int)) :
    Calls Tryz.prog 49 #[wvV u, .int .i64 (k : Int)] W fun e' w' => e' = .returned (.bool (lineB u c k)) ∧ Below W.heap.size W w' := by
  obtain ⟨g, hg, hg8, hug⟩ := hTG k e he
  have h0 := l8InLine_any k g c u e W hW hF.tree he hg8 hug (hF.ok hc) hg hcp
  have : lineB u c k = inlineB (gsD u.gs) e.st g c := by rw [lineB_at he, hcp, decide_eq_true rfl, Bool.true_and, hg, Int.toNat_natCast]
  rw [this]; exact h0
set_option maxRecDepth 100000 in
set_option maxHeartbeats 16000000 in
theorem l12Load_any (c : Nat) (u : Wv) (w : World) (hs : SlW w u) (ho : okS u = true) (hc : c < u.cs.length) :
    Calls Tryz.prog 34 #[wvV u, .int .i64 (c : Int)] w fun e' w' => e' = .returned (.int .i64 (loadN u c)) ∧ Below w.heap.size w w' := by
  obtain ⟨p1, c1, p2, c2, p3, c3, e1, e2, e3, hl1, hl2, hl3⟩ := hs.forms
  have hv : wvV u = .agg #[.int .i64 u.now, .slice p1 u.cs.length c1, .slice p2 u.ts.length c2, .slice p3 u.gs.length c3] := by unfold wvV; rw [e1, e2, e3]
  obtain ⟨W1, hW1⟩ : ∃ W1, w.alloc (.cells #[.int .i64 u.now, .slice p1 u.cs.length c1, .slice p2 u.ts.length c2, .slice p3 u.gs.length c3] 33) = W1 := ⟨_, rfl⟩
  obtain ⟨hA, acc, lw⟩ := boxed_w hs e1 e2 e3 hW1
  have HS : Hid (SlW w u) := hs
  obtain ⟨HC, HTT, HCC, HGG⟩ := rows_at hA e1 e2 e3
  obtain ⟨o0, o1, o2, o3⟩ := HC.out _ (Below.refl _ _)
  have ACC : Hid (Below w.heap.size w W1) := acc
  obtain ⟨hF, hCP, hTF, hTG⟩ := okS_read ho
  have HL : Hid (u.ts.length = 12) := hF.nt
  have hI : ∀ (k : Nat) (e : Tk), u.ts[k]? = some e → e.cpu = (c : Int) → ∀ W, SlW W u → Calls Tryz.prog 49 #[wvV u, .int .i64 (k : Int)] W fun e' w' => e' = .returned (.bool (lineB u c k)) ∧ Below W.heap.size W w' := fun (k : Nat) (e : Tk) he hcp W hW => spec_line k c u e W hW hF hTG hc he hcp
  rw [hv] at hI ⊢
  have HI : Hid (∀ (k : Nat) (e : Tk), u.ts[k]? = some e → e.cpu = (c : Int) → ∀ W, SlW W u → Calls Tryz.prog 49 #[.agg #[.int .i64 u.now, .slice p1 u.cs.length c1, .slice p2 u.ts.length c2, .slice p3 u.gs.length c3], .int .i64 (k : Int)] W fun e' w' => e' = .returned (.bool (lineB u c k)) ∧ Below W.heap.size W w') := hI
  clear hA hs e1 e2 e3 hv hI hF hCP hTF hTG ho acc
  go_enter Tryz.func34, Tryz.ntmps34
  go_wp2
  clear o0 o1 o2 o3
  go_loopw [5, 6] (fun n t wr => ∃ k : Nat, k ≤ u.ts.length ∧ n = .int .i64 (sumW u (pickTo (lineB u c) k)) ∧ t = .int .i64 (k : Int) ∧ Below W1.heap.size W1 wr) (fun _ t _ => u.ts.length - (intOf t).toNat)
  case atStart => exact ⟨0, Nat.zero_le _, rfl, rfl, Below.refl _ _⟩
  case round =>
    obtain ⟨k, hk, rfl, rfl, hb⟩ := hrel
    obtain ⟨n, hn⟩ : ∃ n, sumW u (pickTo (lineB u c) k) = n := ⟨_, rfl⟩
    have hnr := sumW_pick u (lineB u c) k
    rw [hn] at hnr ⊢
    have HN : Hid (sumW u (pickTo (lineB u c) k) = n) := hn
    have hk12 : (k : Int) ≤ 12 := by have := HL.out; omega
    clear hn
    obtain ⟨o0, o1, o2, o3⟩ := HC.out _ hb
    have lwr : w.heap.size < wr.heap.size := Nat.lt_of_lt_of_le lw hb.size
    by_cases hlt : k < u.ts.length
    · have hlt' : (k : Int) < (u.ts.length : Int) := by omega
      obtain ⟨e, he⟩ := row_get hlt
      obtain ⟨tg, to, rfl, hr, ltg⟩ := HTT.out _ k e hb he
      obtain ⟨x0, x1, x2, x3, x4, x5, x6, x7, x8⟩ := tk_cells hr
      clear hr
      have HE : Hid (u.ts[k]? = some e) := he
      have HLT : Hid (k < u.ts.length) := hlt
      have HNO : Hid (lineB u c k = false → sumW u (pickTo (lineB u c) (k + 1)) = n) := fun h => by rw [pickTo_no h]; exact HN.out
      clear he hlt
      by_cases s1 : e.st = 1
      · rw [s1] at x0
        by_cases s2 : e.cpu = (c : Int)
        · have hq := HI.out k e HE.out s2
          rw [s2] at x2
          cases hln : lineB u c k
          · have HNN := HNO.out hln
            rw [hln] at hq
            have HX : Hid (sumW u (pickTo (lineB u c) (k + 1)) = n) := HNN
            clear HNN hln s1 s2
            go_wp2_with (go_at_call 49; refine (hq _ (HS.out.below (ACC.out.trans (hb.mono ACC.out.size)))).mono ?_; rintro e1 V1 ⟨rfl, hb1⟩; have hbn := hb.trans (hb1.mono hb.size); have o0 := (HC.out _ hbn).1; have o1 := (HC.out _ hbn).2.1; have o2 := (HC.out _ hbn).2.2.1; have o3 := (HC.out _ hbn).2.2.2; have x0 := (hb1.cell (p := ⟨tg, to + k * 9, none⟩) (Nat.lt_of_lt_of_le ltg hb.size)).trans x0; have x1 := (hb1.cell (p := ⟨tg, to + k * 9 + 1, none⟩) (Nat.lt_of_lt_of_le ltg hb.size)).trans x1; have x2 := (hb1.cell (p := ⟨tg, to + k * 9 + 2, none⟩) (Nat.lt_of_lt_of_le ltg hb.size)).trans x2; have x3 := (hb1.cell (p := ⟨tg, to + k * 9 + 3, none⟩) (Nat.lt_of_lt_of_le ltg hb.size)).trans x3; have x4 := (hb1.cell (p := ⟨tg, to + k * 9 + 4, none⟩) (Nat.lt_of_lt_of_le ltg hb.size)).trans x4; have x5 := (hb1.cell (p := ⟨tg, to + k * 9 + 5, none⟩) (Nat.lt_of_lt_of_le ltg hb.size)).trans x5; have x6 := (hb1.cell (p := ⟨tg, to + k * 9 + 6, none⟩) (Nat.lt_of_lt_of_le ltg hb.size)).trans x6; have x7 := (hb1.cell (p := ⟨tg, to + k * 9 + 7, none⟩) (Nat.lt_of_lt_of_le ltg hb.size)).trans x7; have x8 := (hb1.cell (p := ⟨tg, to + k * 9 + 8, none⟩) (Nat.lt_of_lt_of_le ltg hb.size)).trans x8; replace hb := hbn; clear hb1 hbn)
            exact ⟨⟨k + 1, HLT.out, by rw [HX.out] <;> rfl, by go_num, hb⟩, by simp [intOf]; omega⟩
          · have HX : Hid (sumW u (pickTo (lineB u c) (k + 1)) = n + wof e.ni) := by unfold Hid; rw [pickTo_yes hln, sumW_one, HN.out, niK_at HE.out]
            have hwr := wof_range e.ni
            rw [hln] at hq
            clear hln s1 s2
            go_wp2_with (first | (go_at_call 49; refine (hq _ (HS.out.below (ACC.out.trans (hb.mono ACC.out.size)))).mono ?_; rintro e1 V1 ⟨rfl, hb1⟩; have hbn := hb.trans (hb1.mono hb.size); have o0 := (HC.out _ hbn).1; have o1 := (HC.out _ hbn).2.1; have o2 := (HC.out _ hbn).2.2.1; have o3 := (HC.out _ hbn).2.2.2; have x0 := (hb1.cell (p := ⟨tg, to + k * 9, none⟩) (Nat.lt_of_lt_of_le ltg hb.size)).trans x0; have x1 := (hb1.cell (p := ⟨tg, to + k * 9 + 1, none⟩) (Nat.lt_of_lt_of_le ltg hb.size)).trans x1; have x2 := (hb1.cell (p := ⟨tg, to + k * 9 + 2, none⟩) (Nat.lt_of_lt_of_le ltg hb.size)).trans x2; have x3 := (hb1.cell (p := ⟨tg, to + k * 9 + 3, none⟩) (Nat.lt_of_lt_of_le ltg hb.size)).trans x3; have x4 := (hb1.cell (p := ⟨tg, to + k * 9 + 4, none⟩) (Nat.lt_of_lt_of_le ltg hb.size)).trans x4; have x5 := (hb1.cell (p := ⟨tg, to + k * 9 + 5, none⟩) (Nat.lt_of_lt_of_le ltg hb.size)).trans x5; have x6 := (hb1.cell (p := ⟨tg, to + k * 9 + 6, none⟩) (Nat.lt_of_lt_of_le ltg hb.size)).trans x6; have x7 := (hb1.cell (p := ⟨tg, to + k * 9 + 7, none⟩) (Nat.lt_of_lt_of_le ltg hb.size)).trans x7; have x8 := (hb1.cell (p := ⟨tg, to + k * 9 + 8, none⟩) (Nat.lt_of_lt_of_le ltg hb.size)).trans x8; replace hb := hbn; clear hb1 hbn) | (go_at_call 72; refine (spec_wof _ _).mono ?_; rintro e1 V1 ⟨rfl, rfl⟩))
            exact ⟨⟨k + 1, HLT.out, by rw [HX.out] <;> go_num, by go_num, hb⟩, by simp [intOf]; omega⟩
        · have HX : Hid (sumW u (pickTo (lineB u c) (k + 1)) = n) := HNO.out (by rw [lineB_at HE.out, decide_eq_false s2]; rfl)
          clear s1
          go_wp2
          exact ⟨⟨k + 1, HLT.out, by rw [HX.out] <;> rfl, by go_num, hb⟩, by simp [intOf]; omega⟩
      · have HX : Hid (sumW u (pickTo (lineB u c) (k + 1)) = n) := HNO.out (by rw [lineB_at HE.out, Bool.and_eq_false_iff]; right; cases h : inlineB (gsD u.gs) e.st e.gr.toNat c; rfl; exact absurd (inline_ready h) s1)
        go_wp2
        exact ⟨⟨k + 1, HLT.out, by rw [HX.out] <;> rfl, by go_num, hb⟩, by simp [intOf]; omega⟩
    · have hlt' : ¬ (k : Int) < (u.ts.length : Int) := by omega
      have HX : Hid (loadN u c = n) := by unfold Hid loadN lineL; rw [show u.ts.length = k by omega]; exact HN.out
      clear hlt
      go_wp2
      go_ret
      exact ⟨by rw [HX.out] <;> rfl, ACC.out.trans (hb.mono ACC.out.size)⟩
end Go.Proofs.YtnmmglkigiakaaaGreat
namespace Go.Proofs.YtnmmglkigiakaaaGreat
set_option linter.unusedVariables false
set_option linter.unusedSimpArgs false
open Go.ChangeShapes Go.WideShapes Go.ChangeAt Go.RowKit Go.Shelf Go.Sort
attribute [local go_sem] Oper.semAt_some
def loadS (u : Wv) (c : Int) : Int := if (okS u && cpuB u.cs c) = true then loadN u c.toNat else 0
def waitS (u : Wv) (c : Int) : Int := if (okS u && cpuB u.cs c) = true then waitN u c.toNat else 0
def insideS (u : Wv) (g c : Int) : Int := if (okS u && (usedB (gsD u.gs) g && cpuB u.cs c)) = true then insideN u g c.toNat else 0
def shareS (u : Wv) (g c : Int) : Int := if (okS u && (usedB (gsD u.gs) g && (decide (g ≠ 0) && cpuB u.cs c))) = true then shareN u g.toNat c.toNat else 0
theorem cpu_cases {cs : List Cp} {c : Int} : cpuB cs c = false ∨ ∃ k : Nat, c = (k : Int) ∧ k < cs.length := by
  cases h : cpuB cs c
  · exact .inl rfl
  · exact .inr (cpuB_nat h)
set_option maxRecDepth 100000 in
set_option maxHeartbeats 16000000 in
theorem specWaiting_any (cpu : Int) (u : Wv) (w : World) (hs : SlW w u) (hf : GsFit u.gs) :
    Calls Tryz.prog 18 #[wvV u, .int .i64 cpu] w fun e' w' => e' = .returned (.int .i64 (waitS u cpu)) ∧ Below w.heap.size w w' := by
  obtain ⟨p1, c1, p2, c2, p3, c3, e1, e2, e3, hl1, hl2, hl3⟩ := hs.forms
  have hv : wvV u = .agg #[.int .i64 u.now, .slice p1 u.cs.length c1, .slice p2 u.ts.length c2, .slice p3 u.gs.length c3] := by unfold wvV; rw [e1, e2, e3]
  obtain ⟨W1, hW1⟩ : ∃ W1, w.alloc (.cells #[.int .i64 u.now, .slice p1 u.cs.length c1, .slice p2 u.ts.length c2, .slice p3 u.gs.length c3] 33) = W1 := ⟨_, rfl⟩
  obtain ⟨hA, acc, lw⟩ := boxed_w hs e1 e2 e3 hW1
  have HS : Hid (SlW w u) := hs
  obtain ⟨HC, HTT, HCC, HGG⟩ := rows_at hA e1 e2 e3
  obtain ⟨o0, o1, o2, o3⟩ := HC.out _ (Below.refl _ _)
  have ACC : Hid (Below w.heap.size w W1) := acc
  obtain ⟨ok, hok⟩ : ∃ b, okS u = b := ⟨_, rfl⟩
  have HO : Hid (okS u = ok) := hok
  have hK : ∀ W, SlW W u → Calls Tryz.prog 26 #[wvV u] W fun e' w' => e' = .returned (.bool ok) ∧ Below W.heap.size W w' := fun W h => by rw [← hok]; exact specWorldOk_any u W h hf
  have HCB : Hid (l1in cpu 0 (wrap64 ((u.cs.length : Int) - 1)) = cpuB u.cs cpu) := by
    have : wrap64 ((u.cs.length : Int) - 1) = (u.cs.length : Int) - 1 := by unfold wrap64; omega
    unfold Hid; rw [this]; unfold l1in cpuB
    rw [Bool.decide_and]; congr 1
    exact decide_eq_decide.2 (by omega)
  have HCB2 : Hid (l1in cpu 0 ((u.cs.length : Int) - 1) = cpuB u.cs cpu) := by
    have : wrap64 ((u.cs.length : Int) - 1) = (u.cs.length : Int) - 1 := by unfold wrap64; omega
    have h := HCB.out
    rw [this] at h; exact h
  cases ok
  · have HR : Hid (waitS u cpu = 0) := by unfold Hid waitS; rw [hok]; rfl
    rw [hv] at hK ⊢
    clear hA hs hf e1 e2 e3 hv hok acc
    go_enter Tryz.func18, Tryz.ntmps18
    go_wp2_with (first | (go_at_call 26; refine (hK _ (HS.out.below ACC.out)).mono ?_; rintro e1 V1 ⟨rfl, hb1⟩; obtain ⟨o0, o1, o2, o3⟩ := HC.out _ hb1; have lv : w.heap.size < V1.heap.size := Nat.lt_of_lt_of_le lw hb1.size))
    go_ret
    exact ⟨by rw [HR.out] <;> rfl, ACC.out.trans (hb1.mono ACC.out.size)⟩
  · rcases cpu_cases (cs := u.cs) (c := cpu) with hcv | ⟨c, rfl, hc⟩
    · have HR : Hid (waitS u cpu = 0) := by unfold Hid waitS; rw [hcv, Bool.and_false]; rfl
      have HCV : Hid (cpuB u.cs cpu = false) := hcv
      rw [hv] at hK ⊢
      clear hA hs hf e1 e2 e3 hv hok acc hcv
      go_enter Tryz.func18, Tryz.ntmps18
      go_wp2_with (first | (go_at_call 26; refine (hK _ (HS.out.below ACC.out)).mono ?_; rintro e1 V1 ⟨rfl, hb1⟩; obtain ⟨o0, o1, o2, o3⟩ := HC.out _ hb1; have lv : w.heap.size < V1.heap.size := Nat.lt_of_lt_of_le lw hb1.size) | (go_at_call 33; refine (l1In_any _ _ _ _).mono ?_; rintro e1 w1 ⟨rfl, hw1⟩; subst w1; (first | rw [HCB.out] | rw [HCB2.out] | skip); rw [HCV.out]))
      go_ret
      exact ⟨by rw [HR.out] <;> rfl, ACC.out.trans (hb1.mono ACC.out.size)⟩
    · have HCV : Hid (cpuB u.cs (c : Int) = true) := cpuB_at hc
      have HR : Hid (waitS u (c : Int) = waitN u c) := by unfold Hid waitS; rw [hok, HCV.out, Int.toNat_natCast]; rfl
      obtain ⟨hF, hCP, hTF, hTG⟩ := okS_read hok
      have HL : Hid (u.ts.length = 12) := hF.nt
      have hI : ∀ (k : Nat) (e : Tk), u.ts[k]? = some e → e.cpu = (c : Int) → ∀ W, SlW W u → Calls Tryz.prog 49 #[wvV u, .int .i64 (k : Int)] W fun e' w' => e' = .returned (.bool (lineB u c k)) ∧ Below W.heap.size W w' := fun (k : Nat) (e : Tk) he hcp W hW => spec_line k c u e W hW hF hTG hc he hcp
      rw [hv] at hK hI ⊢
      have HI : Hid (∀ (k : Nat) (e : Tk), u.ts[k]? = some e → e.cpu = (c : Int) → ∀ W, SlW W u → Calls Tryz.prog 49 #[.agg #[.int .i64 u.now, .slice p1 u.cs.length c1, .slice p2 u.ts.length c2, .slice p3 u.gs.length c3], .int .i64 (k : Int)] W fun e' w' => e' = .returned (.bool (lineB u c k)) ∧ Below W.heap.size W w') := hI
      obtain ⟨ec, hec⟩ := row_get hc
      have HEC : Hid (u.cs[c]? = some ec) := hec
      have HCUR : Hid (curAt u c = ec.cur) := by unfold Hid curAt; rw [hec]; rfl
      have hc' : (c : Int) < (u.cs.length : Int) := by omega
      clear hA hs hf e1 e2 e3 hv hok acc hI hF hCP hTF hTG hec
      go_enter Tryz.func18, Tryz.ntmps18
      go_wp2_with (first | (go_at_call 26; refine (hK _ (HS.out.below ACC.out)).mono ?_; rintro e1 V1 ⟨rfl, hb1⟩; obtain ⟨o0, o1, o2, o3⟩ := HC.out _ hb1; have lv : w.heap.size < V1.heap.size := Nat.lt_of_lt_of_le lw hb1.size) | (go_at_call 33; refine (l1In_any _ _ _ _).mono ?_; rintro e1 w1 ⟨rfl, hw1⟩; subst w1; (first | rw [HCB.out] | rw [HCB2.out] | skip); rw [HCV.out]))
      clear o0 o1 o2 o3 hK lv
      go_loopw [5, 6] (fun n t wr => ∃ k : Nat, k ≤ u.ts.length ∧ n = .int .i64 ((pickTo (waitB u c ec.cur) k).length : Int) ∧ t = .int .i64 (k : Int) ∧ Below W1.heap.size W1 wr) (fun _ t _ => u.ts.length - (intOf t).toNat)
      case atStart => exact ⟨0, Nat.zero_le _, rfl, rfl, hb1⟩
      case round =>
        obtain ⟨k, hk, rfl, rfl, hb⟩ := hrel
        obtain ⟨n, hn⟩ : ∃ n, (pickTo (waitB u c ec.cur) k).length = n := ⟨_, rfl⟩
        have hnr := pickTo_len (waitB u c ec.cur) k
        rw [hn] at hnr ⊢
        have HN : Hid ((pickTo (waitB u c ec.cur) k).length = n) := hn
        have hk12 : (k : Int) ≤ 12 := by have := HL.out; omega
        have hn12 : (n : Int) ≤ 12 := by omega
        clear hn hnr
        obtain ⟨o0, o1, o2, o3⟩ := HC.out _ hb
        have lwr : w.heap.size < wr.heap.size := Nat.lt_of_lt_of_le lw hb.size
        by_cases hlt : k < u.ts.length
        · have hlt' : (k : Int) < (u.ts.length : Int) := by omega
          obtain ⟨e, he⟩ := row_get hlt
          obtain ⟨tg, to, rfl, hr, ltg⟩ := HTT.out _ k e hb he
          obtain ⟨x0, x1, x2, x3, x4, x5, x6, x7, x8⟩ := tk_cells hr
          obtain ⟨cg, co, rfl, hcr, lcg⟩ := HCC.out _ c ec hb HEC.out
          obtain ⟨y0, y1, y2, y3, y4⟩ := cp_cells hcr
          clear hr hcr y0 y2 y3 y4
          have HE : Hid (u.ts[k]? = some e) := he
          have HLT : Hid (k < u.ts.length) := hlt
          have HNO : Hid (waitB u c ec.cur k = false → (pickTo (waitB u c ec.cur) (k + 1)).length = n) := fun h => by rw [pickTo_no h]; exact HN.out
          have HYE : Hid (waitB u c ec.cur k = true → (pickTo (waitB u c ec.cur) (k + 1)).length = n + 1) := fun h => by rw [pickTo_yes h, List.length_append, HN.out]; rfl
          clear he hlt
          by_cases s2 : e.cpu = (c : Int)
          · have hq := HI.out k e HE.out s2
            rw [s2] at x2
            cases hln : lineB u c k
            · have HX : Hid ((pickTo (waitB u c ec.cur) (k + 1)).length = n) := HNO.out (by unfold waitB; rw [hln]; rfl)
              rw [hln] at hq
              clear hln s2
              go_wp2_with (go_at_call 49; refine (hq _ (HS.out.below (ACC.out.trans (hb.mono ACC.out.size)))).mono ?_; rintro e1 V2 ⟨rfl, hb2⟩; have hbn := hb.trans (hb2.mono hb.size); have o0 := (HC.out _ hbn).1; have o1 := (HC.out _ hbn).2.1; have o2 := (HC.out _ hbn).2.2.1; have o3 := (HC.out _ hbn).2.2.2; have x0 := (hb2.cell (p := ⟨tg, to + k * 9, none⟩) (Nat.lt_of_lt_of_le ltg hb.size)).trans x0; have x1 := (hb2.cell (p := ⟨tg, to + k * 9 + 1, none⟩) (Nat.lt_of_lt_of_le ltg hb.size)).trans x1; have x2 := (hb2.cell (p := ⟨tg, to + k * 9 + 2, none⟩) (Nat.lt_of_lt_of_le ltg hb.size)).trans x2; have x3 := (hb2.cell (p := ⟨tg, to + k * 9 + 3, none⟩) (Nat.lt_of_lt_of_le ltg hb.size)).trans x3; have x4 := (hb2.cell (p := ⟨tg, to + k * 9 + 4, none⟩) (Nat.lt_of_lt_of_le ltg hb.size)).trans x4; have x5 := (hb2.cell (p := ⟨tg, to + k * 9 + 5, none⟩) (Nat.lt_of_lt_of_le ltg hb.size)).trans x5; have x6 := (hb2.cell (p := ⟨tg, to + k * 9 + 6, none⟩) (Nat.lt_of_lt_of_le ltg hb.size)).trans x6; have x7 := (hb2.cell (p := ⟨tg, to + k * 9 + 7, none⟩) (Nat.lt_of_lt_of_le ltg hb.size)).trans x7; have x8 := (hb2.cell (p := ⟨tg, to + k * 9 + 8, none⟩) (Nat.lt_of_lt_of_le ltg hb.size)).trans x8; replace hb := hbn; clear hb2 hbn)
              exact ⟨⟨k + 1, HLT.out, by rw [HX.out] <;> rfl, by go_num, hb⟩, by simp [intOf]; omega⟩
            · rw [hln] at hq
              by_cases hcu : ec.cur = (k : Int)
              · have HX : Hid ((pickTo (waitB u c ec.cur) (k + 1)).length = n) := HNO.out (by unfold waitB; rw [hln, hcu]; simp)
                rw [hcu] at y1
                clear hln s2
                go_wp2_with (go_at_call 49; refine (hq _ (HS.out.below (ACC.out.trans (hb.mono ACC.out.size)))).mono ?_; rintro e1 V2 ⟨rfl, hb2⟩; have y1 := (hb2.cell (p := ⟨cg, co + c * 5 + 1, none⟩) (Nat.lt_of_lt_of_le lcg hb.size)).trans y1; have hbn := hb.trans (hb2.mono hb.size); have o0 := (HC.out _ hbn).1; have o1 := (HC.out _ hbn).2.1; have o2 := (HC.out _ hbn).2.2.1; have o3 := (HC.out _ hbn).2.2.2; have x0 := (hb2.cell (p := ⟨tg, to + k * 9, none⟩) (Nat.lt_of_lt_of_le ltg hb.size)).trans x0; have x1 := (hb2.cell (p := ⟨tg, to + k * 9 + 1, none⟩) (Nat.lt_of_lt_of_le ltg hb.size)).trans x1; have x2 := (hb2.cell (p := ⟨tg, to + k * 9 + 2, none⟩) (Nat.lt_of_lt_of_le ltg hb.size)).trans x2; have x3 := (hb2.cell (p := ⟨tg, to + k * 9 + 3, none⟩) (Nat.lt_of_lt_of_le ltg hb.size)).trans x3; have x4 := (hb2.cell (p := ⟨tg, to + k * 9 + 4, none⟩) (Nat.lt_of_lt_of_le ltg hb.size)).trans x4; have x5 := (hb2.cell (p := ⟨tg, to + k * 9 + 5, none⟩) (Nat.lt_of_lt_of_le ltg hb.size)).trans x5; have x6 := (hb2.cell (p := ⟨tg, to + k * 9 + 6, none⟩) (Nat.lt_of_lt_of_le ltg hb.size)).trans x6; have x7 := (hb2.cell (p := ⟨tg, to + k * 9 + 7, none⟩) (Nat.lt_of_lt_of_le ltg hb.size)).trans x7; have x8 := (hb2.cell (p := ⟨tg, to + k * 9 + 8, none⟩) (Nat.lt_of_lt_of_le ltg hb.size)).trans x8; replace hb := hbn; clear hb2 hbn)
                exact ⟨⟨k + 1, HLT.out, by rw [HX.out] <;> rfl, by go_num, hb⟩, by simp [intOf]; omega⟩
              · have HX : Hid ((pickTo (waitB u c ec.cur) (k + 1)).length = n + 1) := HYE.out (by unfold waitB; rw [hln, decide_eq_true hcu]; rfl)
                have hcb : (ec.cur == (k : Int)) = false := by simpa using hcu
                have hcb2 : (ec.cur != (k : Int)) = true := by simpa using hcu
                clear hln s2
                go_wp2_with (go_at_call 49; refine (hq _ (HS.out.below (ACC.out.trans (hb.mono ACC.out.size)))).mono ?_; rintro e1 V2 ⟨rfl, hb2⟩; have y1 := (hb2.cell (p := ⟨cg, co + c * 5 + 1, none⟩) (Nat.lt_of_lt_of_le lcg hb.size)).trans y1; have hbn := hb.trans (hb2.mono hb.size); have o0 := (HC.out _ hbn).1; have o1 := (HC.out _ hbn).2.1; have o2 := (HC.out _ hbn).2.2.1; have o3 := (HC.out _ hbn).2.2.2; have x0 := (hb2.cell (p := ⟨tg, to + k * 9, none⟩) (Nat.lt_of_lt_of_le ltg hb.size)).trans x0; have x1 := (hb2.cell (p := ⟨tg, to + k * 9 + 1, none⟩) (Nat.lt_of_lt_of_le ltg hb.size)).trans x1; have x2 := (hb2.cell (p := ⟨tg, to + k * 9 + 2, none⟩) (Nat.lt_of_lt_of_le ltg hb.size)).trans x2; have x3 := (hb2.cell (p := ⟨tg, to + k * 9 + 3, none⟩) (Nat.lt_of_lt_of_le ltg hb.size)).trans x3; have x4 := (hb2.cell (p := ⟨tg, to + k * 9 + 4, none⟩) (Nat.lt_of_lt_of_le ltg hb.size)).trans x4; have x5 := (hb2.cell (p := ⟨tg, to + k * 9 + 5, none⟩) (Nat.lt_of_lt_of_le ltg hb.size)).trans x5; have x6 := (hb2.cell (p := ⟨tg, to + k * 9 + 6, none⟩) (Nat.lt_of_lt_of_le ltg hb.size)).trans x6; have x7 := (hb2.cell (p := ⟨tg, to + k * 9 + 7, none⟩) (Nat.lt_of_lt_of_le ltg hb.size)).trans x7; have x8 := (hb2.cell (p := ⟨tg, to + k * 9 + 8, none⟩) (Nat.lt_of_lt_of_le ltg hb.size)).trans x8; replace hb := hbn; clear hb2 hbn)
                exact ⟨⟨k + 1, HLT.out, by rw [HX.out] <;> go_num, by go_num, hb⟩, by simp [intOf]; omega⟩
          · have HX : Hid ((pickTo (waitB u c ec.cur) (k + 1)).length = n) := HNO.out (by unfold waitB; rw [lineB_at HE.out, decide_eq_false s2]; rfl)
            go_wp2
            exact ⟨⟨k + 1, HLT.out, by rw [HX.out] <;> rfl, by go_num, hb⟩, by simp [intOf]; omega⟩
        · have hlt' : ¬ (k : Int) < (u.ts.length : Int) := by omega
          have HX : Hid (waitS u (c : Int) = (n : Int)) := by unfold Hid; rw [HR.out]; unfold waitN; rw [HCUR.out, show u.ts.length = k by omega, HN.out]
          clear hlt
          go_wp2
          go_ret
          exact ⟨by rw [HX.out] <;> rfl, ACC.out.trans (hb.mono ACC.out.size)⟩
end Go.Proofs.YtnmmglkigiakaaaGreat
namespace Go.Proofs.YtnmmglkigiakaaaGreat
set_option linter.unusedVariables false
set_option linter.unusedSimpArgs false
open Go.ChangeShapes Go.WideShapes Go.ChangeAt Go.RowKit Go.Shelf Go.Sort
theorem lineB_same {u v : Wv} (h : SameW u v) : lineB v = lineB u := by
  funext c i; unfold lineB; rw [h.ts, h.gs]
theorem inB_same {u v : Wv} (h : SameW u v) : inB v = inB u := by
  funext g c i; unfold inB; rw [h.ts, h.gs]
theorem sumW_same {u v : Wv} (h : SameW u v) : sumW v = sumW u := by
  funext l
  induction l with
  | nil => rfl
  | cons k l ih =>
    unfold sumW
    rw [ih]
    unfold niK
    rw [h.ts]
theorem loadN_same {u v : Wv} (h : SameW u v) : loadN v = loadN u := by
  funext c; unfold loadN lineL; rw [sumW_same h, lineB_same h, h.ts]
theorem insideN_same {u v : Wv} (h : SameW u v) : insideN v = insideN u := by
  funext g c; unfold insideN; rw [sumW_same h, inB_same h, h.ts]
theorem allTo_same {u v : Wv} (h : SameW u v) : allTo v = allTo u := by
  funext g k
  induction k with
  | zero => rfl
  | succ k ih => unfold allTo; rw [ih, insideN_same h]
theorem weAt_gsD (u : Wv) (g : Nat) : weAt u g = (((gsD u.gs)[g]?).map (fun d => d.we)).getD 0 := by
  unfold weAt gsD
  rw [List.getElem?_map]
  cases u.gs[g]? <;> rfl
theorem shareN_same {u v : Wv} (h : SameW u v) : shareN v = shareN u := by
  funext g c; unfold shareN; rw [allTo_same h, insideN_same h, weAt_gsD, weAt_gsD, h.gs, h.cs]
theorem loadS_same {u v : Wv} (h : SameW u v) (c : Int) : loadS v c = loadS u c := by
  unfold loadS; rw [okS_same h, loadN_same h, h.cs]
theorem waitS_same {u v : Wv} (h : SameW u v) (c : Int) : waitS v c = waitS u c := by
  unfold waitS waitN
  rw [okS_same h]
  unfold waitB curAt
  rw [lineB_same h, h.cs, h.ts]
theorem insideS_same {u v : Wv} (h : SameW u v) (g c : Int) : insideS v g c = insideS u g c := by
  unfold insideS; rw [okS_same h, insideN_same h, h.cs, h.gs]
theorem shareS_same {u v : Wv} (h : SameW u v) (g c : Int) : shareS v g c = shareS u g c := by
  unfold shareS; rw [okS_same h, shareN_same h, h.cs, h.gs]
end Go.Proofs.YtnmmglkigiakaaaGreat
