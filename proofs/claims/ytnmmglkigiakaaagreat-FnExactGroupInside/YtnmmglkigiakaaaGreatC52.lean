/- The specification: the weights within a group. The specification: shares. Chapter 12, the specification: CpuLoad, GroupInside, GroupShare. -/
import Derived.Test.YtnmmglkigiakaaaGreatC48
import Derived.Test.YtnmmglkigiakaaaGreatC11
namespace Go.Proofs.YtnmmglkigiakaaaGreat
set_option linter.unusedVariables false
set_option linter.unusedSimpArgs false
open Go.ChangeShapes Go.WideShapes Go.ChangeAt Go.RowKit Go.Shelf Go.Sort
attribute [local go_sem] Oper.semAt_some
theorem task_new3 (W : World) (a0 a1 a2 a3 a4 a5 a6 a7 a8 : Value) : (W.alloc (.cells #[a0, a1, a2, a3, a4, a5, a6, a7, a8] 68)).cell? ⟨W.heap.size, 3, none⟩ = some a3 := by
  simp
set_option maxRecDepth 100000 in
set_option maxHeartbeats 16000000 in
theorem l12Inside_any (g c : Nat) (u : Wv) (w : World) (hs : SlW w u) (hf : GsFit u.gs) (ho : okS u = true) (hu : usAt (gsD u.gs) g = true) (hg : g < 8) :
    Calls Tryz.prog 56 #[wvV u, .int .i64 (g : Int), .int .i64 (c : Int)] w fun e' w' => e' = .returned (.int .i64 (insideN u (g : Int) c)) ∧ Below w.heap.size w w' := by
  obtain ⟨p1, c1, p2, c2, p3, c3, e1, e2, e3, hl1, hl2, hl3⟩ := hs.forms
  have hv : wvV u = .agg #[.int .i64 u.now, .slice p1 u.cs.length c1, .slice p2 u.ts.length c2, .slice p3 u.gs.length c3] := by unfold wvV; rw [e1, e2, e3]
  obtain ⟨W1, hW1⟩ : ∃ W1, w.alloc (.cells #[.int .i64 u.now, .slice p1 u.cs.length c1, .slice p2 u.ts.length c2, .slice p3 u.gs.length c3] 33) = W1 := ⟨_, rfl⟩
  obtain ⟨hA, acc, lw⟩ := boxed_w hs e1 e2 e3 hW1
  have HS : Hid (SlW w u) := hs
  obtain ⟨HC, HTT, HCC, HGG⟩ := rows_at hA e1 e2 e3
  obtain ⟨o0, o1, o2, o3⟩ := HC.out _ (Below.refl _ _)
  have ACC : Hid (Below w.heap.size w W1) := acc
  obtain ⟨hF, hCP, hTF, hTG⟩ := okS_read ho
  have HL : Hid (u.ts.length = 12) := hF.nt
  have hU : ∀ (k : Nat) (e : Tk), u.ts[k]? = some e → ∀ W, SlW W u → Calls Tryz.prog 93 #[u.z, .int .i64 (g : Int), .int .i64 e.gr] W fun e' w' => e' = .returned (.bool (underD (gsD u.gs) (g : Int) e.gr.toNat)) ∧ Below W.heap.size W w' := fun (k : Nat) (e : Tk) he W hW => by
    obtain ⟨j, hj, hj8, huj⟩ := hTG k e he
    have h0 := spec_under u.z u.gs (g : Int) e.gr W hW.2.2 hf
    have h8 : (gsD u.gs).length = 8 := by rw [gsD_length]; exact hF.g8
    have hb1 : usedB (gsD u.gs) (g : Int) = true := by unfold usedB; rw [Int.toNat_natCast, hu, decide_eq_true (by omega : (0 : Int) ≤ (g : Int)), decide_eq_true (by omega : (g : Int) < ((gsD u.gs).length : Int))]; rfl
    have hb2 : usedB (gsD u.gs) e.gr = true := by unfold usedB; rw [hj, Int.toNat_natCast, huj, decide_eq_true (by omega : (0 : Int) ≤ (j : Int)), decide_eq_true (by omega : (j : Int) < ((gsD u.gs).length : Int))]; rfl
    have : underM (gsD u.gs) (g : Int) e.gr = underD (gsD u.gs) (g : Int) e.gr.toNat := by unfold underM; rw [hF.tree, hb1, hb2]; rfl
    rw [this] at h0; exact h0
  rw [hv]
  rw [e3] at hU
  have HI : Hid (∀ (k : Nat) (e : Tk), u.ts[k]? = some e → ∀ W, SlW W u → Calls Tryz.prog 93 #[.slice p3 u.gs.length c3, .int .i64 (g : Int), .int .i64 e.gr] W fun e' w' => e' = .returned (.bool (underD (gsD u.gs) (g : Int) e.gr.toNat)) ∧ Below W.heap.size W w') := hU
  clear hA hs e1 e2 e3 hv hU hF hCP hTF hTG ho acc hu hf hg
  go_enter Tryz.func56, Tryz.ntmps56
  go_wp2
  clear o0 o1 o2 o3
  go_loopw [7, 8] (fun n t wr => ∃ k : Nat, k ≤ u.ts.length ∧ n = .int .i64 (sumW u (pickTo (inB u (g : Int) c) k)) ∧ t = .int .i64 (k : Int) ∧ Below W1.heap.size W1 wr) (fun _ t _ => u.ts.length - (intOf t).toNat)
  case atStart => exact ⟨0, Nat.zero_le _, rfl, rfl, Below.refl _ _⟩
  case round =>
    obtain ⟨k, hk, rfl, rfl, hb⟩ := hrel
    obtain ⟨n, hn⟩ : ∃ n, sumW u (pickTo (inB u (g : Int) c) k) = n := ⟨_, rfl⟩
    have hnr := sumW_pick u (inB u (g : Int) c) k
    rw [hn] at hnr ⊢
    have HN : Hid (sumW u (pickTo (inB u (g : Int) c) k) = n) := hn
    have hk12 : (k : Int) ≤ 12 := by have := HL.out; omega
    clear hn
    obtain ⟨o0, o1, o2, o3⟩ := HC.out _ hb
    have lwr : w.heap.size < wr.heap.size := Nat.lt_of_lt_of_le lw hb.size
    by_cases hlt : k < u.ts.length
    · have hlt' : (k : Int) < (u.ts.length : Int) := by omega
      obtain ⟨e, he⟩ := row_get hlt
      obtain ⟨tg, to, rfl, hr, ltg⟩ := HTT.out _ k e hb he
      obtain ⟨x0, x1, x2, x3, x4, x5, x6, x7, x8⟩ := tk_cells hr
      clear hr
      have HE : Hid (u.ts[k]? = some e) := he
      have HLT : Hid (k < u.ts.length) := hlt
      have HNO : Hid (inB u (g : Int) c k = false → sumW u (pickTo (inB u (g : Int) c) (k + 1)) = n) := fun h => by rw [pickTo_no h]; exact HN.out
      have HBA : ∀ A, Below W1.heap.size W1 (wr.alloc A) := fun A => hb.alloc hb.size A
      have HB2 : Hid (∀ A, Below W1.heap.size W1 (wr.alloc A)) := HBA
      clear he hlt HBA
      by_cases s1 : e.st = 1
      · rw [s1] at x0
        by_cases s2 : e.cpu = (c : Int)
        · have hq := HI.out k e HE.out
          rw [s2] at x2
          cases hln : underD (gsD u.gs) (g : Int) e.gr.toNat
          · have HX : Hid (sumW u (pickTo (inB u (g : Int) c) (k + 1)) = n) := HNO.out (by rw [inB_at HE.out, hln]; simp)
            rw [hln] at hq
            clear hln s1 s2
            go_wp2_with (go_at_call 93; refine (hq _ (HS.out.below (ACC.out.trans ((HB2.out _).mono ACC.out.size)))).mono ?_; rintro e1 V1 ⟨rfl, hb1⟩)
            exact ⟨⟨k + 1, HLT.out, by rw [HX.out] <;> rfl, by go_num, (HB2.out _).trans (hb1.mono (HB2.out _).size)⟩, by simp [intOf]; omega⟩
          · have HX : Hid (sumW u (pickTo (inB u (g : Int) c) (k + 1)) = n + wof e.ni) := by unfold Hid; rw [pickTo_yes (by rw [inB_at HE.out, hln, s1, s2]; simp), sumW_one, HN.out, niK_at HE.out]
            have hwr := wof_range e.ni
            rw [hln] at hq
            clear hln s1 s2
            go_wp2_with (first | (go_at_call 93; refine (hq _ (HS.out.below (ACC.out.trans ((HB2.out _).mono ACC.out.size)))).mono ?_; rintro e1 V1 ⟨rfl, hb1⟩; have hbx := (HB2.out _).trans (hb1.mono (HB2.out _).size); have o3n := (HC.out _ hbx).2.2.2; have n3 := (hb1.cell (p := ⟨wr.heap.size, 3, none⟩) (by simp)).trans (task_new3 _ _ _ _ _ _ _ _ _ _)) | (go_at_call 72; refine (spec_wof _ _).mono ?_; rintro e1 V1 ⟨rfl, rfl⟩))
            exact ⟨⟨k + 1, HLT.out, by rw [HX.out] <;> go_num, by go_num, hbx⟩, by simp [intOf]; omega⟩
        · have HX : Hid (sumW u (pickTo (inB u (g : Int) c) (k + 1)) = n) := HNO.out (by rw [inB_at HE.out, decide_eq_false s2]; simp)
          clear s1
          go_wp2
          exact ⟨⟨k + 1, HLT.out, by rw [HX.out] <;> rfl, by go_num, HB2.out _⟩, by simp [intOf]; omega⟩
      · have HX : Hid (sumW u (pickTo (inB u (g : Int) c) (k + 1)) = n) := HNO.out (by rw [inB_at HE.out, decide_eq_false s1]; rfl)
        go_wp2
        exact ⟨⟨k + 1, HLT.out, by rw [HX.out] <;> rfl, by go_num, HB2.out _⟩, by simp [intOf]; omega⟩
    · have hlt' : ¬ (k : Int) < (u.ts.length : Int) := by omega
      have HX : Hid (insideN u (g : Int) c = n) := by unfold Hid insideN; rw [show u.ts.length = k by omega]; exact HN.out
      clear hlt
      go_wp2
      go_ret
      exact ⟨by rw [HX.out] <;> rfl, ACC.out.trans (hb.mono ACC.out.size)⟩
end Go.Proofs.YtnmmglkigiakaaaGreat
namespace Go.Proofs.YtnmmglkigiakaaaGreat
set_option linter.unusedVariables false
set_option linter.unusedSimpArgs false
open Go.ChangeShapes Go.WideShapes Go.ChangeAt Go.RowKit Go.Shelf Go.Sort
attribute [local go_sem] Oper.semAt_some
set_option maxRecDepth 100000 in
set_option maxHeartbeats 16000000 in
theorem l12Share_any (g c : Nat) (u : Wv) (w : World) (hs : SlW w u) (hf : GsFit u.gs) (ho : okS u = true) (hu : usAt (gsD u.gs) g = true) (hg : g < u.gs.length) :
    Calls Tryz.prog 60 #[wvV u, .int .i64 (g : Int), .int .i64 (c : Int)] w fun e' w' => e' = .returned (.int .i64 (shareN u g c)) ∧ Below w.heap.size w w' := by
  obtain ⟨p1, c1, p2, c2, p3, c3, e1, e2, e3, hl1, hl2, hl3⟩ := hs.forms
  have hv : wvV u = .agg #[.int .i64 u.now, .slice p1 u.cs.length c1, .slice p2 u.ts.length c2, .slice p3 u.gs.length c3] := by unfold wvV; rw [e1, e2, e3]
  obtain ⟨W1, hW1⟩ : ∃ W1, w.alloc (.cells #[.int .i64 u.now, .slice p1 u.cs.length c1, .slice p2 u.ts.length c2, .slice p3 u.gs.length c3] 33) = W1 := ⟨_, rfl⟩
  obtain ⟨hA, acc, lw⟩ := boxed_w hs e1 e2 e3 hW1
  have HS : Hid (SlW w u) := hs
  obtain ⟨HC, HTT, HCC, HGG⟩ := rows_at hA e1 e2 e3
  obtain ⟨o0, o1, o2, o3⟩ := HC.out _ (Below.refl _ _)
  have ACC : Hid (Below w.heap.size w W1) := acc
  obtain ⟨hF, hCP, hTF, hTG⟩ := okS_read ho
  have HL : Hid (u.ts.length = 12) := hF.nt
  have hwe := weAt_range ho hu
  have hg8 : g < 8 := by have := hF.g8; omega
  have hn4 := hF.n4
  have hI : ∀ (j : Nat) W, SlW W u → Calls Tryz.prog 56 #[wvV u, .int .i64 (g : Int), .int .i64 (j : Int)] W fun e' w' => e' = .returned (.int .i64 (insideN u (g : Int) j)) ∧ Below W.heap.size W w' := fun j W hW => l12Inside_any g j u W hW hf ho hu hg8
  rw [hv] at hI ⊢
  have HI : Hid (∀ (j : Nat) W, SlW W u → Calls Tryz.prog 56 #[.agg #[.int .i64 u.now, .slice p1 u.cs.length c1, .slice p2 u.ts.length c2, .slice p3 u.gs.length c3], .int .i64 (g : Int), .int .i64 (j : Int)] W fun e' w' => e' = .returned (.int .i64 (insideN u (g : Int) j)) ∧ Below W.heap.size W w') := hI
  obtain ⟨eg, heg⟩ := row_get hg
  have hweg : weAt u g = eg.d.we := by unfold weAt; rw [heg]; rfl
  rw [hweg] at hwe
  have HWE : Hid (weAt u g = eg.d.we) := hweg
  have HEG : Hid (u.gs[g]? = some eg) := heg
  have hg' : (g : Int) < (u.gs.length : Int) := by omega
  clear hA hs e1 e2 e3 hv hI hF hCP hTF hTG ho acc hu hf hweg heg hg8 hg
  go_enter Tryz.func60, Tryz.ntmps60
  go_wp2
  clear o0 o1 o2 o3
  go_loopw [7, 8] (fun n t wr => ∃ k : Nat, k ≤ u.cs.length ∧ n = .int .i64 (allTo u (g : Int) k) ∧ t = .int .i64 (k : Int) ∧ Below W1.heap.size W1 wr) (fun _ t _ => u.cs.length - (intOf t).toNat)
  case atStart => exact ⟨0, Nat.zero_le _, rfl, rfl, Below.refl _ _⟩
  case round =>
    obtain ⟨k, hk, rfl, rfl, hb⟩ := hrel
    obtain ⟨n, hn⟩ : ∃ n, allTo u (g : Int) k = n := ⟨_, rfl⟩
    have hnr := allTo_range HL.out (g : Int) k
    rw [hn] at hnr ⊢
    have hnr' : 0 ≤ n ∧ n ≤ 960 := by omega
    have HN : Hid (allTo u (g : Int) k = n) := hn
    clear hn hnr
    obtain ⟨o0, o1, o2, o3⟩ := HC.out _ hb
    have lwr : w.heap.size < wr.heap.size := Nat.lt_of_lt_of_le lw hb.size
    have HSW : Hid (SlW wr u) := HS.out.below (ACC.out.trans (hb.mono ACC.out.size))
    by_cases hlt : k < u.cs.length
    · have hlt' : (k : Int) < (u.cs.length : Int) := by omega
      obtain ⟨m, hm⟩ : ∃ m, insideN u (g : Int) k = m := ⟨_, rfl⟩
      have hmr := inside_range HL.out (g : Int) k
      rw [hm] at hmr
      have HX : Hid (allTo u (g : Int) (k + 1) = n + m) := by unfold Hid; simp only [allTo]; rw [HN.out, hm]
      have HLT : Hid (k < u.cs.length) := hlt
      have hq := HI.out k
      rw [hm] at hq
      clear hlt hm
      go_wp2_with (go_at_call 56; refine (hq _ HSW.out).mono ?_; rintro e2 V2 ⟨rfl, hb2⟩; have hbn := hb.trans (hb2.mono hb.size); have o0 := (HC.out _ hbn).1; have o1 := (HC.out _ hbn).2.1; have o2 := (HC.out _ hbn).2.2.1; have o3 := (HC.out _ hbn).2.2.2)
      exact ⟨⟨k + 1, HLT.out, by rw [HX.out] <;> go_num, by go_num, hbn⟩, by simp [intOf]; omega⟩
    · have hlt' : ¬ (k : Int) < (u.cs.length : Int) := by omega
      have HA : Hid (allTo u (g : Int) u.cs.length = n) := by unfold Hid; rw [show u.cs.length = k by omega]; exact HN.out
      obtain ⟨tg, to, rfl, hr, ltg⟩ := HGG.out _ g eg hb HEG.out
      obtain ⟨y0, y1, y2, y3, y4, y5, y6, y7, y8, y9, y10, y11, y12, y13⟩ := gv_cells hr
      clear hr hlt y0 y1 y2 y4 y5 y6 y7 y8 y9 y10 y11 y12 y13
      by_cases h0 : n = 0
      · have HX : Hid (shareN u g c = eg.d.we) := by unfold Hid shareN; rw [HA.out, if_pos h0, HWE.out]
        subst h0
        go_wp2
        go_ret
        exact ⟨by rw [HX.out] <;> rfl, ACC.out.trans (hb.mono ACC.out.size)⟩
      · obtain ⟨m, hm⟩ : ∃ m, insideN u (g : Int) c = m := ⟨_, rfl⟩
        have hmr := inside_range HL.out (g : Int) c
        rw [hm] at hmr
        have HX : Hid (shareN u g c = mx1 (eg.d.we * m / n)) := by unfold Hid shareN; rw [HA.out, if_neg h0, HWE.out, hm]
        have hnz : (n == 0) = false := by simpa using h0
        have hn1 : 1 ≤ n := by omega
        have hmul : 0 ≤ eg.d.we * m ∧ eg.d.we * m ≤ 4800 := by
          have a := Int.mul_nonneg (by omega : 0 ≤ eg.d.we) hmr.1
          have b := Int.mul_le_mul hwe.2 hmr.2 hmr.1 (by omega)
          omega
        have hq : ∀ W, SlW W u → Calls Tryz.prog 56 #[.agg #[.int .i64 u.now, .slice p1 u.cs.length c1, .slice p2 u.ts.length c2, .slice (some ⟨tg, to, none⟩) u.gs.length c3], .int .i64 (g : Int), .int .i64 (c : Int)] W fun e' w' => e' = .returned (.int .i64 m) ∧ Below W.heap.size W w' := fun W h => by have := HI.out c W h; rw [hm] at this; exact this
        have HQ : Hid (∀ W, SlW W u → Calls Tryz.prog 56 #[.agg #[.int .i64 u.now, .slice p1 u.cs.length c1, .slice p2 u.ts.length c2, .slice (some ⟨tg, to, none⟩) u.gs.length c3], .int .i64 (g : Int), .int .i64 (c : Int)] W fun e' w' => e' = .returned (.int .i64 m) ∧ Below W.heap.size W w') := hq
        have cI : ∀ d os, Calls Tryz.prog 56 #[.agg #[.int .i64 u.now, .slice p1 u.cs.length c1, .slice p2 u.ts.length c2, .slice (some ⟨tg, to, none⟩) u.gs.length c3], .int .i64 (g : Int), .int .i64 (c : Int)] (grow (redrawn wr d) os) fun e' w'' => e' = .returned (.int .i64 m) ∧ ∃ p : Regrown, w'' = grow (redrawn wr p.d) p.os := fun d os => Calls.regrown_of (HQ.out _ (HSW.out.below (below_regrown wr d os)))
        have cM : ∀ x d os, Calls Tryz.prog 95 #[.int .i64 1, .int .i64 x] (grow (redrawn wr d) os) fun e' w'' => e' = .returned (.int .i64 (mx1 x)) ∧ ∃ p : Regrown, w'' = grow (redrawn wr p.d) p.os := fun x d os => Calls.regrown_of ((l1Max_any 1 x _).mono fun e' w' h => ⟨by rw [h.1]; unfold mx1; rfl, h.2 ▸ Below.refl _ _⟩)
        have j0 := cell_regrown o0
        have j1 := cell_regrown o1
        have j2 := cell_regrown o2
        have j3 := cell_regrown o3
        have k3 := cell_regrown y3
        clear hm h0 hq
        go_wp2
        refine wp_region_quiet_below (by kernel_rfl) (by kernel_rfl) ?_
        clear hW1
        repeat (go_big_quiet_step (first | exact cI _ _ | exact cM _ _ _))
        refine wpQuiet_nil ?_
        rintro _ ⟨⟨dq, osq⟩, rfl⟩
        go_wp2
        go_ret
        exact ⟨by rw [HX.out] <;> rfl, ACC.out.trans ((hb.trans ((below_regrown wr dq osq).mono hb.size)).mono ACC.out.size)⟩
end Go.Proofs.YtnmmglkigiakaaaGreat
namespace Go.Proofs.YtnmmglkigiakaaaGreat
set_option linter.unusedVariables false
set_option linter.unusedSimpArgs false
open Go.ChangeShapes Go.WideShapes Go.ChangeAt Go.RowKit Go.Shelf Go.Sort
attribute [local go_sem] Oper.semAt_some
set_option maxRecDepth 100000 in
set_option maxHeartbeats 16000000 in
theorem specLoad_any (cpu : Int) (u : Wv) (w : World) (hs : SlW w u) (hf : GsFit u.gs) :
    Calls Tryz.prog 12 #[wvV u, .int .i64 cpu] w fun e' w' => e' = .returned (.int .i64 (loadS u cpu)) ∧ Below w.heap.size w w' := by
  obtain ⟨p1, c1, p2, c2, p3, c3, e1, e2, e3, hl1, hl2, hl3⟩ := hs.forms
  have hv : wvV u = .agg #[.int .i64 u.now, .slice p1 u.cs.length c1, .slice p2 u.ts.length c2, .slice p3 u.gs.length c3] := by unfold wvV; rw [e1, e2, e3]
  obtain ⟨W1, hW1⟩ : ∃ W1, w.alloc (.cells #[.int .i64 u.now, .slice p1 u.cs.length c1, .slice p2 u.ts.length c2, .slice p3 u.gs.length c3] 33) = W1 := ⟨_, rfl⟩
  obtain ⟨hA, acc, lw⟩ := boxed_w hs e1 e2 e3 hW1
  have HS : Hid (SlW w u) := hs
  obtain ⟨HC, HTT, HCC, HGG⟩ := rows_at hA e1 e2 e3
  obtain ⟨o0, o1, o2, o3⟩ := HC.out _ (Below.refl _ _)
  have ACC : Hid (Below w.heap.size w W1) := acc
  have HZ : Hid (SlG w (.slice p3 u.gs.length c3) u.gs) := by have := hs.2.2; rw [e3] at this; exact this
  obtain ⟨ok, hok⟩ : ∃ b, okS u = b := ⟨_, rfl⟩
  have HO : Hid (okS u = ok) := hok
  have hK : ∀ W, SlW W u → Calls Tryz.prog 26 #[wvV u] W fun e' w' => e' = .returned (.bool ok) ∧ Below W.heap.size W w' := fun W h => by rw [← hok]; exact specWorldOk_any u W h hf
  have HCB : Hid (l1in cpu 0 (wrap64 ((u.cs.length : Int) - 1)) = cpuB u.cs cpu) := by
    have : wrap64 ((u.cs.length : Int) - 1) = (u.cs.length : Int) - 1 := by unfold wrap64; omega
    unfold Hid; rw [this]; unfold l1in cpuB
    rw [Bool.decide_and]; congr 1
    exact decide_eq_decide.2 (by omega)
  have HCB2 : Hid (l1in cpu 0 ((u.cs.length : Int) - 1) = cpuB u.cs cpu) := by
    have : wrap64 ((u.cs.length : Int) - 1) = (u.cs.length : Int) - 1 := by unfold wrap64; omega
    have h := HCB.out
    rw [this] at h; exact h
  cases ok
  · have HR : Hid (loadS u cpu = 0) := by unfold Hid loadS; rw [hok]; rfl
    rw [hv] at hK ⊢
    clear hA hs hf e1 e2 e3 hv hok acc
    go_enter Tryz.func12, Tryz.ntmps12
    go_wp2_with (first | (go_at_call 26; refine (hK _ (HS.out.below ACC.out)).mono ?_; rintro e1 V1 ⟨rfl, hb1⟩; obtain ⟨o0, o1, o2, o3⟩ := HC.out _ hb1; have lv : w.heap.size < V1.heap.size := Nat.lt_of_lt_of_le lw hb1.size))
    go_ret
    exact ⟨by rw [HR.out] <;> rfl, ACC.out.trans (hb1.mono ACC.out.size)⟩
  · rcases cpu_cases (cs := u.cs) (c := cpu) with hcv | ⟨c, rfl, hc⟩
    · have HR : Hid (loadS u cpu = 0) := by unfold Hid loadS; rw [hcv]; simp
      have HCV : Hid (cpuB u.cs cpu = false) := hcv
      rw [hv] at hK ⊢
      clear hA hs hf e1 e2 e3 hv hok acc hcv
      go_enter Tryz.func12, Tryz.ntmps12
      go_wp2_with (first | (go_at_call 26; refine (hK _ (HS.out.below ACC.out)).mono ?_; rintro e1 V1 ⟨rfl, hb1⟩; obtain ⟨o0, o1, o2, o3⟩ := HC.out _ hb1; have lv : w.heap.size < V1.heap.size := Nat.lt_of_lt_of_le lw hb1.size) | (go_at_call 33; refine (l1In_any _ _ _ _).mono ?_; rintro e1 w1 ⟨rfl, hw1⟩; subst w1; (first | rw [HCB.out] | rw [HCB2.out] | skip); rw [HCV.out]))
      go_ret
      exact ⟨by rw [HR.out] <;> rfl, ACC.out.trans (hb1.mono ACC.out.size)⟩
    · have HCV : Hid (cpuB u.cs (c : Int) = true) := cpuB_at hc
      have HR : Hid (loadS u (c : Int) = loadN u c) := by unfold Hid loadS; rw [hok, HCV.out, Int.toNat_natCast]; rfl
      have hI : ∀ W, SlW W u → Calls Tryz.prog 34 #[wvV u, .int .i64 (c : Int)] W fun e' w' => e' = .returned (.int .i64 (loadN u c)) ∧ Below W.heap.size W w' := fun W hW => l12Load_any c u W hW hok hc
      rw [hv] at hK hI ⊢
      clear hA hs hf e1 e2 e3 hv hok acc
      go_enter Tryz.func12, Tryz.ntmps12
      go_wp2_with (first | (go_at_call 26; refine (hK _ (HS.out.below ACC.out)).mono ?_; rintro e1 V1 ⟨rfl, hb1⟩; obtain ⟨o0, o1, o2, o3⟩ := HC.out _ hb1; have lv : w.heap.size < V1.heap.size := Nat.lt_of_lt_of_le lw hb1.size) | (go_at_call 33; refine (l1In_any _ _ _ _).mono ?_; rintro e1 w1 ⟨rfl, hw1⟩; subst w1; (first | rw [HCB.out] | rw [HCB2.out] | skip); rw [HCV.out]) | (go_at_call 34; refine (hI _ (HS.out.below (ACC.out.trans (hb1.mono ACC.out.size)))).mono ?_; rintro e3 V3 ⟨rfl, hb3⟩))
      go_ret
      exact ⟨by rw [HR.out] <;> rfl, ACC.out.trans ((hb1.trans (hb3.mono hb1.size)).mono ACC.out.size)⟩
set_option maxRecDepth 100000 in
set_option maxHeartbeats 16000000 in
theorem specInside_any (group cpu : Int) (u : Wv) (w : World) (hs : SlW w u) (hf : GsFit u.gs) :
    Calls Tryz.prog 22 #[wvV u, .int .i64 group, .int .i64 cpu] w fun e' w' => e' = .returned (.int .i64 (insideS u group cpu)) ∧ Below w.heap.size w w' := by
  obtain ⟨p1, c1, p2, c2, p3, c3, e1, e2, e3, hl1, hl2, hl3⟩ := hs.forms
  have hv : wvV u = .agg #[.int .i64 u.now, .slice p1 u.cs.length c1, .slice p2 u.ts.length c2, .slice p3 u.gs.length c3] := by unfold wvV; rw [e1, e2, e3]
  obtain ⟨W1, hW1⟩ : ∃ W1, w.alloc (.cells #[.int .i64 u.now, .slice p1 u.cs.length c1, .slice p2 u.ts.length c2, .slice p3 u.gs.length c3] 33) = W1 := ⟨_, rfl⟩
  obtain ⟨hA, acc, lw⟩ := boxed_w hs e1 e2 e3 hW1
  have HS : Hid (SlW w u) := hs
  obtain ⟨HC, HTT, HCC, HGG⟩ := rows_at hA e1 e2 e3
  obtain ⟨o0, o1, o2, o3⟩ := HC.out _ (Below.refl _ _)
  have ACC : Hid (Below w.heap.size w W1) := acc
  have HZ : Hid (SlG w (.slice p3 u.gs.length c3) u.gs) := by have := hs.2.2; rw [e3] at this; exact this
  obtain ⟨ok, hok⟩ : ∃ b, okS u = b := ⟨_, rfl⟩
  have HO : Hid (okS u = ok) := hok
  have hK : ∀ W, SlW W u → Calls Tryz.prog 26 #[wvV u] W fun e' w' => e' = .returned (.bool ok) ∧ Below W.heap.size W w' := fun W h => by rw [← hok]; exact specWorldOk_any u W h hf
  have HCB : Hid (l1in cpu 0 (wrap64 ((u.cs.length : Int) - 1)) = cpuB u.cs cpu) := by
    have : wrap64 ((u.cs.length : Int) - 1) = (u.cs.length : Int) - 1 := by unfold wrap64; omega
    unfold Hid; rw [this]; unfold l1in cpuB
    rw [Bool.decide_and]; congr 1
    exact decide_eq_decide.2 (by omega)
  have HCB2 : Hid (l1in cpu 0 ((u.cs.length : Int) - 1) = cpuB u.cs cpu) := by
    have : wrap64 ((u.cs.length : Int) - 1) = (u.cs.length : Int) - 1 := by unfold wrap64; omega
    have h := HCB.out
    rw [this] at h; exact h
  cases ok
  · have HR : Hid (insideS u group cpu = 0) := by unfold Hid insideS; rw [hok]; rfl
    rw [hv] at hK ⊢
    clear hA hs hf e1 e2 e3 hv hok acc
    go_enter Tryz.func22, Tryz.ntmps22
    go_wp2_with (first | (go_at_call 26; refine (hK _ (HS.out.below ACC.out)).mono ?_; rintro e1 V1 ⟨rfl, hb1⟩; obtain ⟨o0, o1, o2, o3⟩ := HC.out _ hb1; have lv : w.heap.size < V1.heap.size := Nat.lt_of_lt_of_le lw hb1.size))
    go_ret
    exact ⟨by rw [HR.out] <;> rfl, ACC.out.trans (hb1.mono ACC.out.size)⟩
  · cases hus : usedB (gsD u.gs) group
    · have HUS : Hid (usedB (gsD u.gs) group = false) := hus
      have HR : Hid (insideS u group cpu = 0) := by unfold Hid insideS; rw [hok, hus]; rfl
      rw [hv] at hK ⊢
      clear hA hs hf e1 e2 e3 hv hok acc hus
      go_enter Tryz.func22, Tryz.ntmps22
      go_wp2_with (first | (go_at_call 26; refine (hK _ (HS.out.below ACC.out)).mono ?_; rintro e1 V1 ⟨rfl, hb1⟩; obtain ⟨o0, o1, o2, o3⟩ := HC.out _ hb1; have lv : w.heap.size < V1.heap.size := Nat.lt_of_lt_of_le lw hb1.size) | (go_at_call 55; refine (spec_used _ u.gs group _ ((HZ.out).below (ACC.out.trans (hb1.mono ACC.out.size)))).mono ?_; rintro e1 w1 ⟨rfl, hw1⟩; subst w1; rw [HUS.out]))
      go_ret
      exact ⟨by rw [HR.out] <;> rfl, ACC.out.trans (hb1.mono ACC.out.size)⟩
    · rcases cpu_cases (cs := u.cs) (c := cpu) with hcv | ⟨c, rfl, hc⟩
      · have HR : Hid (insideS u group cpu = 0) := by unfold Hid insideS; rw [hcv]; simp
        have HCV : Hid (cpuB u.cs cpu = false) := hcv
        have HUS : Hid (usedB (gsD u.gs) group = true) := hus
        rw [hv] at hK ⊢
        clear hA hs hf e1 e2 e3 hv hok acc hcv hus
        go_enter Tryz.func22, Tryz.ntmps22
        go_wp2_with (first | (go_at_call 26; refine (hK _ (HS.out.below ACC.out)).mono ?_; rintro e1 V1 ⟨rfl, hb1⟩; obtain ⟨o0, o1, o2, o3⟩ := HC.out _ hb1; have lv : w.heap.size < V1.heap.size := Nat.lt_of_lt_of_le lw hb1.size) | (go_at_call 55; refine (spec_used _ u.gs group _ ((HZ.out).below (ACC.out.trans (hb1.mono ACC.out.size)))).mono ?_; rintro e1 w1 ⟨rfl, hw1⟩; subst w1; rw [HUS.out]) | (go_at_call 33; refine (l1In_any _ _ _ _).mono ?_; rintro e1 w1 ⟨rfl, hw1⟩; subst w1; (first | rw [HCB.out] | rw [HCB2.out] | skip); rw [HCV.out]))
        go_ret
        exact ⟨by rw [HR.out] <;> rfl, ACC.out.trans (hb1.mono ACC.out.size)⟩
      · have HCV : Hid (cpuB u.cs (c : Int) = true) := cpuB_at hc
        have HUS : Hid (usedB (gsD u.gs) group = true) := hus
        obtain ⟨g, rfl, hg8, hug⟩ := used_nat (okS_read hok).1 hus
        have hgl : g < u.gs.length := by rw [(okS_read hok).1.g8]; exact hg8
        have HR : Hid (insideS u (g : Int) (c : Int) = insideN u (g : Int) c) := by unfold Hid insideS; rw [hok, HCV.out, hus, Int.toNat_natCast]; rfl
        have hI : ∀ W, SlW W u → Calls Tryz.prog 56 #[wvV u, .int .i64 (g : Int), .int .i64 (c : Int)] W fun e' w' => e' = .returned (.int .i64 (insideN u (g : Int) c)) ∧ Below W.heap.size W w' := fun W hW => l12Inside_any g c u W hW hf hok hug hg8
        rw [hv] at hK hI ⊢
        clear hA hs hf e1 e2 e3 hv hok acc hus hug hgl
        go_enter Tryz.func22, Tryz.ntmps22
        go_wp2_with (first | (go_at_call 26; refine (hK _ (HS.out.below ACC.out)).mono ?_; rintro e1 V1 ⟨rfl, hb1⟩; obtain ⟨o0, o1, o2, o3⟩ := HC.out _ hb1; have lv : w.heap.size < V1.heap.size := Nat.lt_of_lt_of_le lw hb1.size) | (go_at_call 55; refine (spec_used _ u.gs (g : Int) _ ((HZ.out).below (ACC.out.trans (hb1.mono ACC.out.size)))).mono ?_; rintro e1 w1 ⟨rfl, hw1⟩; subst w1; rw [HUS.out]) | (go_at_call 33; refine (l1In_any _ _ _ _).mono ?_; rintro e1 w1 ⟨rfl, hw1⟩; subst w1; (first | rw [HCB.out] | rw [HCB2.out] | skip); rw [HCV.out]) | (go_at_call 56; refine (hI _ (HS.out.below (ACC.out.trans (hb1.mono ACC.out.size)))).mono ?_; rintro e3 V3 ⟨rfl, hb3⟩))
        go_ret
        exact ⟨by rw [HR.out] <;> rfl, ACC.out.trans ((hb1.trans (hb3.mono hb1.size)).mono ACC.out.size)⟩
set_option maxRecDepth 100000 in
set_option maxHeartbeats 16000000 in
theorem specShare_any (group cpu : Int) (u : Wv) (w : World) (hs : SlW w u) (hf : GsFit u.gs) :
    Calls Tryz.prog 24 #[wvV u, .int .i64 group, .int .i64 cpu] w fun e' w' => e' = .returned (.int .i64 (shareS u group cpu)) ∧ Below w.heap.size w w' := by
  obtain ⟨p1, c1, p2, c2, p3, c3, e1, e2, e3, hl1, hl2, hl3⟩ := hs.forms
  have hv : wvV u = .agg #[.int .i64 u.now, .slice p1 u.cs.length c1, .slice p2 u.ts.length c2, .slice p3 u.gs.length c3] := by unfold wvV; rw [e1, e2, e3]
  obtain ⟨W1, hW1⟩ : ∃ W1, w.alloc (.cells #[.int .i64 u.now, .slice p1 u.cs.length c1, .slice p2 u.ts.length c2, .slice p3 u.gs.length c3] 33) = W1 := ⟨_, rfl⟩
  obtain ⟨hA, acc, lw⟩ := boxed_w hs e1 e2 e3 hW1
  have HS : Hid (SlW w u) := hs
  obtain ⟨HC, HTT, HCC, HGG⟩ := rows_at hA e1 e2 e3
  obtain ⟨o0, o1, o2, o3⟩ := HC.out _ (Below.refl _ _)
  have ACC : Hid (Below w.heap.size w W1) := acc
  have HZ : Hid (SlG w (.slice p3 u.gs.length c3) u.gs) := by have := hs.2.2; rw [e3] at this; exact this
  obtain ⟨ok, hok⟩ : ∃ b, okS u = b := ⟨_, rfl⟩
  have HO : Hid (okS u = ok) := hok
  have hK : ∀ W, SlW W u → Calls Tryz.prog 26 #[wvV u] W fun e' w' => e' = .returned (.bool ok) ∧ Below W.heap.size W w' := fun W h => by rw [← hok]; exact specWorldOk_any u W h hf
  have HCB : Hid (l1in cpu 0 (wrap64 ((u.cs.length : Int) - 1)) = cpuB u.cs cpu) := by
    have : wrap64 ((u.cs.length : Int) - 1) = (u.cs.length : Int) - 1 := by unfold wrap64; omega
    unfold Hid; rw [this]; unfold l1in cpuB
    rw [Bool.decide_and]; congr 1
    exact decide_eq_decide.2 (by omega)
  have HCB2 : Hid (l1in cpu 0 ((u.cs.length : Int) - 1) = cpuB u.cs cpu) := by
    have : wrap64 ((u.cs.length : Int) - 1) = (u.cs.length : Int) - 1 := by unfold wrap64; omega
    have h := HCB.out
    rw [this] at h; exact h
  cases ok
  · have HR : Hid (shareS u group cpu = 0) := by unfold Hid shareS; rw [hok]; rfl
    rw [hv] at hK ⊢
    clear hA hs hf e1 e2 e3 hv hok acc
    go_enter Tryz.func24, Tryz.ntmps24
    go_wp2_with (first | (go_at_call 26; refine (hK _ (HS.out.below ACC.out)).mono ?_; rintro e1 V1 ⟨rfl, hb1⟩; obtain ⟨o0, o1, o2, o3⟩ := HC.out _ hb1; have lv : w.heap.size < V1.heap.size := Nat.lt_of_lt_of_le lw hb1.size))
    go_ret
    exact ⟨by rw [HR.out] <;> rfl, ACC.out.trans (hb1.mono ACC.out.size)⟩
  · cases hus : usedB (gsD u.gs) group
    · have HUS : Hid (usedB (gsD u.gs) group = false) := hus
      have HR : Hid (shareS u group cpu = 0) := by unfold Hid shareS; rw [hok, hus]; rfl
      rw [hv] at hK ⊢
      clear hA hs hf e1 e2 e3 hv hok acc hus
      go_enter Tryz.func24, Tryz.ntmps24
      go_wp2_with (first | (go_at_call 26; refine (hK _ (HS.out.below ACC.out)).mono ?_; rintro e1 V1 ⟨rfl, hb1⟩; obtain ⟨o0, o1, o2, o3⟩ := HC.out _ hb1; have lv : w.heap.size < V1.heap.size := Nat.lt_of_lt_of_le lw hb1.size) | (go_at_call 55; refine (spec_used _ u.gs group _ ((HZ.out).below (ACC.out.trans (hb1.mono ACC.out.size)))).mono ?_; rintro e1 w1 ⟨rfl, hw1⟩; subst w1; rw [HUS.out]))
      go_ret
      exact ⟨by rw [HR.out] <;> rfl, ACC.out.trans (hb1.mono ACC.out.size)⟩
    · by_cases hg0 : group = 0
      · have HUS : Hid (usedB (gsD u.gs) group = true) := hus
        have HR : Hid (shareS u group cpu = 0) := by unfold Hid shareS; rw [hok, hg0]; simp
        rw [hv] at hK ⊢
        subst hg0
        clear hA hs hf e1 e2 e3 hv hok acc hus
        go_enter Tryz.func24, Tryz.ntmps24
        go_wp2_with (first | (go_at_call 26; refine (hK _ (HS.out.below ACC.out)).mono ?_; rintro e1 V1 ⟨rfl, hb1⟩; obtain ⟨o0, o1, o2, o3⟩ := HC.out _ hb1; have lv : w.heap.size < V1.heap.size := Nat.lt_of_lt_of_le lw hb1.size) | (go_at_call 55; refine (spec_used _ u.gs 0 _ ((HZ.out).below (ACC.out.trans (hb1.mono ACC.out.size)))).mono ?_; rintro e1 w1 ⟨rfl, hw1⟩; subst w1; rw [HUS.out]))
        go_ret
        exact ⟨by rw [HR.out] <;> rfl, ACC.out.trans (hb1.mono ACC.out.size)⟩
      · rcases cpu_cases (cs := u.cs) (c := cpu) with hcv | ⟨c, rfl, hc⟩
        · have HR : Hid (shareS u group cpu = 0) := by unfold Hid shareS; rw [hcv]; simp
          have HCV : Hid (cpuB u.cs cpu = false) := hcv
          have HUS : Hid (usedB (gsD u.gs) group = true) := hus
          have hgz : (group == 0) = false := by simpa using hg0
          rw [hv] at hK ⊢
          clear hA hs hf e1 e2 e3 hv hok acc hcv hus
          go_enter Tryz.func24, Tryz.ntmps24
          go_wp2_with (first | (go_at_call 26; refine (hK _ (HS.out.below ACC.out)).mono ?_; rintro e1 V1 ⟨rfl, hb1⟩; obtain ⟨o0, o1, o2, o3⟩ := HC.out _ hb1; have lv : w.heap.size < V1.heap.size := Nat.lt_of_lt_of_le lw hb1.size) | (go_at_call 55; refine (spec_used _ u.gs group _ ((HZ.out).below (ACC.out.trans (hb1.mono ACC.out.size)))).mono ?_; rintro e1 w1 ⟨rfl, hw1⟩; subst w1; rw [HUS.out]) | (go_at_call 33; refine (l1In_any _ _ _ _).mono ?_; rintro e1 w1 ⟨rfl, hw1⟩; subst w1; (first | rw [HCB.out] | rw [HCB2.out] | skip); rw [HCV.out]))
          go_ret
          exact ⟨by rw [HR.out] <;> rfl, ACC.out.trans (hb1.mono ACC.out.size)⟩
        · have HCV : Hid (cpuB u.cs (c : Int) = true) := cpuB_at hc
          have HUS : Hid (usedB (gsD u.gs) group = true) := hus
          obtain ⟨g, rfl, hg8, hug⟩ := used_nat (okS_read hok).1 hus
          have hgl : g < u.gs.length := by rw [(okS_read hok).1.g8]; exact hg8
          have hgz : ((g : Int) == 0) = false := by simpa using hg0
          have HR : Hid (shareS u (g : Int) (c : Int) = shareN u g c) := by unfold Hid shareS; rw [hok, HCV.out, hus, decide_eq_true hg0, Int.toNat_natCast, Int.toNat_natCast]; rfl
          have hI : ∀ W, SlW W u → Calls Tryz.prog 60 #[wvV u, .int .i64 (g : Int), .int .i64 (c : Int)] W fun e' w' => e' = .returned (.int .i64 (shareN u g c)) ∧ Below W.heap.size W w' := fun W hW => l12Share_any g c u W hW hf hok hug hgl
          rw [hv] at hK hI ⊢
          clear hA hs hf e1 e2 e3 hv hok acc hus hug hgl
          go_enter Tryz.func24, Tryz.ntmps24
          go_wp2_with (first | (go_at_call 26; refine (hK _ (HS.out.below ACC.out)).mono ?_; rintro e1 V1 ⟨rfl, hb1⟩; obtain ⟨o0, o1, o2, o3⟩ := HC.out _ hb1; have lv : w.heap.size < V1.heap.size := Nat.lt_of_lt_of_le lw hb1.size) | (go_at_call 55; refine (spec_used _ u.gs (g : Int) _ ((HZ.out).below (ACC.out.trans (hb1.mono ACC.out.size)))).mono ?_; rintro e1 w1 ⟨rfl, hw1⟩; subst w1; rw [HUS.out]) | (go_at_call 33; refine (l1In_any _ _ _ _).mono ?_; rintro e1 w1 ⟨rfl, hw1⟩; subst w1; (first | rw [HCB.out] | rw [HCB2.out] | skip); rw [HCV.out]) | (go_at_call 60; refine (hI _ (HS.out.below (ACC.out.trans (hb1.mono ACC.out.size)))).mono ?_; rintro e3 V3 ⟨rfl, hb3⟩))
          go_ret
          exact ⟨by rw [HR.out] <;> rfl, ACC.out.trans ((hb1.trans (hb3.mono hb1.size)).mono ACC.out.size)⟩
end Go.Proofs.YtnmmglkigiakaaaGreat
