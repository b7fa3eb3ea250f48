/- Chapter 12, the program: CpuLoad, CpuWaiting, GroupInside, GroupShare. -/
import Derived.Test.YtnmmglkigiakaaaGreatC48
import Derived.Test.YtnmmglkigiakaaaGreatC47
import Derived.Test.YtnmmglkigiakaaaGreatC50
namespace Go.Proofs.YtnmmglkigiakaaaGreat
set_option linter.unusedVariables false
set_option linter.unusedSimpArgs false
open Go.ChangeShapes Go.WideShapes Go.ChangeAt Go.RowKit Go.Shelf Go.Sort
attribute [local go_sem] Oper.semAt_some
set_option maxRecDepth 100000 in
set_option maxHeartbeats 16000000 in
theorem implLoad_any (cpu : Int) (u : Wv) (w : World) (hs : SlW w u) (hf : GsFit u.gs) :
    Calls Tryz.prog 14 #[wvV u, .int .i64 cpu] w fun e' w' => e' = .returned (.int .i64 (loadS u cpu)) ∧ Below w.heap.size w w' := by
  obtain ⟨p1, c1, p2, c2, p3, c3, e1, e2, e3, hl1, hl2, hl3⟩ := hs.forms
  have hv : wvV u = .agg #[.int .i64 u.now, .slice p1 u.cs.length c1, .slice p2 u.ts.length c2, .slice p3 u.gs.length c3] := by unfold wvV; rw [e1, e2, e3]
  obtain ⟨W1, hW1⟩ : ∃ W1, w.alloc (.cells #[.int .i64 u.now, .slice p1 u.cs.length c1, .slice p2 u.ts.length c2, .slice p3 u.gs.length c3] 33) = W1 := ⟨_, rfl⟩
  obtain ⟨hA, acc, lw⟩ := boxed_w hs e1 e2 e3 hW1
  have HS : Hid (SlW w u) := hs
  obtain ⟨HC, HTT, HCC, HGG⟩ := rows_at hA e1 e2 e3
  obtain ⟨o0, o1, o2, o3⟩ := HC.out _ (Below.refl _ _)
  have ACC : Hid (Below w.heap.size w W1) := acc
  have HA : Hid (AtW W1 w.heap.size u) := hA
  obtain ⟨ok, hok⟩ : ∃ b, okS u = b := ⟨_, rfl⟩
  have HO : Hid (okS u = ok) := hok
  have hK : ∀ W, SlW W u → Calls Tryz.prog 27 #[wvV u] W fun e' w' => e' = .returned (.bool ok) ∧ Below W.heap.size W w' := fun W h => by rw [← hok]; exact implWorldOk_eq u W h hf
  cases ok
  · have HR : Hid (loadS u cpu = 0) := by unfold Hid loadS; rw [hok]; rfl
    rw [hv] at hK ⊢
    clear hA hs hf e1 e2 e3 hv hok acc
    go_enter Tryz.func14, Tryz.ntmps14
    go_wp2_with (first | (go_at_call 27; refine (hK _ (HS.out.below ACC.out)).mono ?_; rintro e1 V1 ⟨rfl, hb1⟩; obtain ⟨o0, o1, o2, o3⟩ := HC.out _ hb1; have lv : w.heap.size < V1.heap.size := Nat.lt_of_lt_of_le lw hb1.size))
    go_ret
    exact ⟨by rw [HR.out] <;> rfl, ACC.out.trans (hb1.mono ACC.out.size)⟩
  · rcases cpu_cases (cs := u.cs) (c := cpu) with hcv | ⟨c, rfl, hc⟩
    · have HR : Hid (loadS u cpu = 0) := by unfold Hid loadS; rw [hcv]; simp
      have HCV : Hid (cpuB u.cs cpu = false) := hcv
      rw [hv] at hK ⊢
      clear hA hs hf e1 e2 e3 hv hok acc hcv
      go_enter Tryz.func14, Tryz.ntmps14
      go_wp2_with (first | (go_at_call 27; refine (hK _ (HS.out.below ACC.out)).mono ?_; rintro e1 V1 ⟨rfl, hb1⟩; obtain ⟨o0, o1, o2, o3⟩ := HC.out _ hb1; have lv : w.heap.size < V1.heap.size := Nat.lt_of_lt_of_le lw hb1.size) | (go_at_call 38; refine (hasCpu_any w.heap.size cpu u _ (HA.out.below hb1)).mono ?_; rintro e1 w1 ⟨rfl, hw1⟩; subst w1; rw [HCV.out]))
      go_ret
      exact ⟨by rw [HR.out] <;> rfl, ACC.out.trans (hb1.mono ACC.out.size)⟩
    · have HCV : Hid (cpuB u.cs (c : Int) = true) := cpuB_at hc
      have hrd := okS_read hok
      have hfit := hrd.1
      have htf := hrd.2.2.1
      have htg := hrd.2.2.2
      have HR : Hid (loadS u (c : Int) = loadN u c) := by unfold Hid loadS; rw [hok, HCV.out, Int.toNat_natCast]; rfl
      obtain ⟨ec, hec⟩ := row_get hc
      have HI : Hid (∀ (pg po : Nat) W, AtW W w.heap.size u → Calls Tryz.prog 40 #[.agg #[.pointer (some ⟨w.heap.size, 0, none⟩), .int .i64 (c : Int), .pointer (some ⟨pg, po, none⟩)]] W fun e' w' => e' = .returned (.int .i64 (loadN u c)) ∧ Below W.heap.size W w') := fun pg po W hW => load_any w.heap.size c pg po u W hW hfit htf hc
      have HPA : Hid (∀ W, AtW W w.heap.size u → Calls Tryz.prog 39 #[.pointer (some ⟨w.heap.size, 0, none⟩), .int .i64 (c : Int)] W fun e' w' => ∃ pg po, e' = .returned (.agg #[.pointer (some ⟨w.heap.size, 0, none⟩), .int .i64 (c : Int), .pointer (some ⟨pg, po, none⟩)]) ∧ w'.rangeAt pg po (cpC ec) ∧ pg < W.heap.size ∧ Below W.heap.size W w') := fun W hW => procAt_any w.heap.size c u ec W hW hec
      rw [hv] at hK ⊢
      clear hA hs hf e1 e2 e3 hv hok acc hfit htf htg hrd hec
      go_enter Tryz.func14, Tryz.ntmps14
      go_wp2_with (first | (go_at_call 27; refine (hK _ (HS.out.below ACC.out)).mono ?_; rintro e1 V1 ⟨rfl, hb1⟩; obtain ⟨o0, o1, o2, o3⟩ := HC.out _ hb1; have lv : w.heap.size < V1.heap.size := Nat.lt_of_lt_of_le lw hb1.size) | (go_at_call 38; refine (hasCpu_any w.heap.size (c : Int) u _ (HA.out.below hb1)).mono ?_; rintro e1 w1 ⟨rfl, hw1⟩; subst w1; rw [HCV.out]) | (go_at_call 39; refine (HPA.out _ (HA.out.below hb1)).mono ?_; rintro e2 V2 ⟨pg, po, rfl, hrow, hlg, hb2⟩; have hbx := hb1.trans (hb2.mono hb1.size)) | (go_at_call 40; refine (HI.out pg po _ (HA.out.below hbx)).mono ?_; rintro e3 V3 ⟨rfl, hb3⟩))
      go_ret
      exact ⟨by rw [HR.out] <;> rfl, ACC.out.trans ((hbx.trans (hb3.mono hbx.size)).mono ACC.out.size)⟩
set_option maxRecDepth 100000 in
set_option maxHeartbeats 16000000 in
theorem implWaiting_any (cpu : Int) (u : Wv) (w : World) (hs : SlW w u) (hf : GsFit u.gs) :
    Calls Tryz.prog 19 #[wvV u, .int .i64 cpu] w fun e' w' => e' = .returned (.int .i64 (waitS u cpu)) ∧ Below w.heap.size w w' := by
  obtain ⟨p1, c1, p2, c2, p3, c3, e1, e2, e3, hl1, hl2, hl3⟩ := hs.forms
  have hv : wvV u = .agg #[.int .i64 u.now, .slice p1 u.cs.length c1, .slice p2 u.ts.length c2, .slice p3 u.gs.length c3] := by unfold wvV; rw [e1, e2, e3]
  obtain ⟨W1, hW1⟩ : ∃ W1, w.alloc (.cells #[.int .i64 u.now, .slice p1 u.cs.length c1, .slice p2 u.ts.length c2, .slice p3 u.gs.length c3] 33) = W1 := ⟨_, rfl⟩
  obtain ⟨hA, acc, lw⟩ := boxed_w hs e1 e2 e3 hW1
  have HS : Hid (SlW w u) := hs
  obtain ⟨HC, HTT, HCC, HGG⟩ := rows_at hA e1 e2 e3
  obtain ⟨o0, o1, o2, o3⟩ := HC.out _ (Below.refl _ _)
  have ACC : Hid (Below w.heap.size w W1) := acc
  have HA : Hid (AtW W1 w.heap.size u) := hA
  obtain ⟨ok, hok⟩ : ∃ b, okS u = b := ⟨_, rfl⟩
  have HO : Hid (okS u = ok) := hok
  have hK : ∀ W, SlW W u → Calls Tryz.prog 27 #[wvV u] W fun e' w' => e' = .returned (.bool ok) ∧ Below W.heap.size W w' := fun W h => by rw [← hok]; exact implWorldOk_eq u W h hf
  cases ok
  · have HR : Hid (waitS u cpu = 0) := by unfold Hid waitS; rw [hok]; rfl
    rw [hv] at hK ⊢
    clear hA hs hf e1 e2 e3 hv hok acc
    go_enter Tryz.func19, Tryz.ntmps19
    go_wp2_with (first | (go_at_call 27; refine (hK _ (HS.out.below ACC.out)).mono ?_; rintro e1 V1 ⟨rfl, hb1⟩; obtain ⟨o0, o1, o2, o3⟩ := HC.out _ hb1; have lv : w.heap.size < V1.heap.size := Nat.lt_of_lt_of_le lw hb1.size))
    go_ret
    exact ⟨by rw [HR.out] <;> rfl, ACC.out.trans (hb1.mono ACC.out.size)⟩
  · rcases cpu_cases (cs := u.cs) (c := cpu) with hcv | ⟨c, rfl, hc⟩
    · have HR : Hid (waitS u cpu = 0) := by unfold Hid waitS; rw [hcv]; simp
      have HCV : Hid (cpuB u.cs cpu = false) := hcv
      rw [hv] at hK ⊢
      clear hA hs hf e1 e2 e3 hv hok acc hcv
      go_enter Tryz.func19, Tryz.ntmps19
      go_wp2_with (first | (go_at_call 27; refine (hK _ (HS.out.below ACC.out)).mono ?_; rintro e1 V1 ⟨rfl, hb1⟩; obtain ⟨o0, o1, o2, o3⟩ := HC.out _ hb1; have lv : w.heap.size < V1.heap.size := Nat.lt_of_lt_of_le lw hb1.size) | (go_at_call 38; refine (hasCpu_any w.heap.size cpu u _ (HA.out.below hb1)).mono ?_; rintro e1 w1 ⟨rfl, hw1⟩; subst w1; rw [HCV.out]))
      go_ret
      exact ⟨by rw [HR.out] <;> rfl, ACC.out.trans (hb1.mono ACC.out.size)⟩
    · have HCV : Hid (cpuB u.cs (c : Int) = true) := cpuB_at hc
      have hrd := okS_read hok
      have hfit := hrd.1
      have htf := hrd.2.2.1
      have htg := hrd.2.2.2
      have HR : Hid (waitS u (c : Int) = waitN u c) := by unfold Hid waitS; rw [hok, HCV.out, Int.toNat_natCast]; rfl
      obtain ⟨ec, hec⟩ := row_get hc
      have HI : Hid (∀ (pg po : Nat) W, AtW W w.heap.size u → W.rangeAt pg po (cpC ec) → Calls Tryz.prog 50 #[.agg #[.pointer (some ⟨w.heap.size, 0, none⟩), .int .i64 (c : Int), .pointer (some ⟨pg, po, none⟩)]] W fun e' w' => e' = .returned (.int .i64 (waitN u c)) ∧ Below W.heap.size W w') := fun pg po W hW hrow => waiting_any w.heap.size c pg po ec u W hW hfit htf hc hec hrow
      have HPA : Hid (∀ W, AtW W w.heap.size u → Calls Tryz.prog 39 #[.pointer (some ⟨w.heap.size, 0, none⟩), .int .i64 (c : Int)] W fun e' w' => ∃ pg po, e' = .returned (.agg #[.pointer (some ⟨w.heap.size, 0, none⟩), .int .i64 (c : Int), .pointer (some ⟨pg, po, none⟩)]) ∧ w'.rangeAt pg po (cpC ec) ∧ pg < W.heap.size ∧ Below W.heap.size W w') := fun W hW => procAt_any w.heap.size c u ec W hW hec
      rw [hv] at hK ⊢
      clear hA hs hf e1 e2 e3 hv hok acc hfit htf htg hrd hec
      go_enter Tryz.func19, Tryz.ntmps19
      go_wp2_with (first | (go_at_call 27; refine (hK _ (HS.out.below ACC.out)).mono ?_; rintro e1 V1 ⟨rfl, hb1⟩; obtain ⟨o0, o1, o2, o3⟩ := HC.out _ hb1; have lv : w.heap.size < V1.heap.size := Nat.lt_of_lt_of_le lw hb1.size) | (go_at_call 38; refine (hasCpu_any w.heap.size (c : Int) u _ (HA.out.below hb1)).mono ?_; rintro e1 w1 ⟨rfl, hw1⟩; subst w1; rw [HCV.out]) | (go_at_call 39; refine (HPA.out _ (HA.out.below hb1)).mono ?_; rintro e2 V2 ⟨pg, po, rfl, hrow, hlg, hb2⟩; have hbx := hb1.trans (hb2.mono hb1.size)) | (go_at_call 50; refine (HI.out pg po _ (HA.out.below hbx) hrow).mono ?_; rintro e3 V3 ⟨rfl, hb3⟩))
      go_ret
      exact ⟨by rw [HR.out] <;> rfl, ACC.out.trans ((hbx.trans (hb3.mono hbx.size)).mono ACC.out.size)⟩
set_option maxRecDepth 100000 in
set_option maxHeartbeats 16000000 in
theorem implInside_any (group cpu : Int) (u : Wv) (w : World) (hs : SlW w u) (hf : GsFit u.gs) :
    Calls Tryz.prog 23 #[wvV u, .int .i64 group, .int .i64 cpu] w fun e' w' => e' = .returned (.int .i64 (insideS u group cpu)) ∧ Below w.heap.size w w' := by
  obtain ⟨p1, c1, p2, c2, p3, c3, e1, e2, e3, hl1, hl2, hl3⟩ := hs.forms
  have hv : wvV u = .agg #[.int .i64 u.now, .slice p1 u.cs.length c1, .slice p2 u.ts.length c2, .slice p3 u.gs.length c3] := by unfold wvV; rw [e1, e2, e3]
  obtain ⟨W1, hW1⟩ : ∃ W1, w.alloc (.cells #[.int .i64 u.now, .slice p1 u.cs.length c1, .slice p2 u.ts.length c2, .slice p3 u.gs.length c3] 33) = W1 := ⟨_, rfl⟩
  obtain ⟨hA, acc, lw⟩ := boxed_w hs e1 e2 e3 hW1
  have HS : Hid (SlW w u) := hs
  obtain ⟨HC, HTT, HCC, HGG⟩ := rows_at hA e1 e2 e3
  obtain ⟨o0, o1, o2, o3⟩ := HC.out _ (Below.refl _ _)
  have ACC : Hid (Below w.heap.size w W1) := acc
  have HA : Hid (AtW W1 w.heap.size u) := hA
  obtain ⟨ok, hok⟩ : ∃ b, okS u = b := ⟨_, rfl⟩
  have HO : Hid (okS u = ok) := hok
  have hK : ∀ W, SlW W u → Calls Tryz.prog 27 #[wvV u] W fun e' w' => e' = .returned (.bool ok) ∧ Below W.heap.size W w' := fun W h => by rw [← hok]; exact implWorldOk_eq u W h hf
  cases ok
  · have HR : Hid (insideS u group cpu = 0) := by unfold Hid insideS; rw [hok]; rfl
    rw [hv] at hK ⊢
    clear hA hs hf e1 e2 e3 hv hok acc
    go_enter Tryz.func23, Tryz.ntmps23
    go_wp2_with (first | (go_at_call 27; refine (hK _ (HS.out.below ACC.out)).mono ?_; rintro e1 V1 ⟨rfl, hb1⟩; obtain ⟨o0, o1, o2, o3⟩ := HC.out _ hb1; have lv : w.heap.size < V1.heap.size := Nat.lt_of_lt_of_le lw hb1.size))
    go_ret
    exact ⟨by rw [HR.out] <;> rfl, ACC.out.trans (hb1.mono ACC.out.size)⟩
  · cases hus : usedB (gsD u.gs) group
    · have HUS : Hid (usedB (gsD u.gs) group = false) := hus
      have HR : Hid (insideS u group cpu = 0) := by unfold Hid insideS; rw [hok, hus]; rfl
      rw [hv] at hK ⊢
      clear hA hs hf e1 e2 e3 hv hok acc hus
      go_enter Tryz.func23, Tryz.ntmps23
      go_wp2_with (first | (go_at_call 27; refine (hK _ (HS.out.below ACC.out)).mono ?_; rintro e1 V1 ⟨rfl, hb1⟩; obtain ⟨o0, o1, o2, o3⟩ := HC.out _ hb1; have lv : w.heap.size < V1.heap.size := Nat.lt_of_lt_of_le lw hb1.size) | (go_at_call 57; refine (hasGroup_any w.heap.size group u _ (HA.out.below hb1)).mono ?_; rintro e1 w1 ⟨rfl, hw1⟩; subst w1; rw [HUS.out]))
      go_ret
      exact ⟨by rw [HR.out] <;> rfl, ACC.out.trans (hb1.mono ACC.out.size)⟩
    · rcases cpu_cases (cs := u.cs) (c := cpu) with hcv | ⟨c, rfl, hc⟩
      · have HR : Hid (insideS u group cpu = 0) := by unfold Hid insideS; rw [hcv]; simp
        have HCV : Hid (cpuB u.cs cpu = false) := hcv
        have HUS : Hid (usedB (gsD u.gs) group = true) := hus
        rw [hv] at hK ⊢
        clear hA hs hf e1 e2 e3 hv hok acc hcv hus
        go_enter Tryz.func23, Tryz.ntmps23
        go_wp2_with (first | (go_at_call 27; refine (hK _ (HS.out.below ACC.out)).mono ?_; rintro e1 V1 ⟨rfl, hb1⟩; obtain ⟨o0, o1, o2, o3⟩ := HC.out _ hb1; have lv : w.heap.size < V1.heap.size := Nat.lt_of_lt_of_le lw hb1.size) | (go_at_call 57; refine (hasGroup_any w.heap.size group u _ (HA.out.below hb1)).mono ?_; rintro e1 w1 ⟨rfl, hw1⟩; subst w1; rw [HUS.out]) | (go_at_call 38; refine (hasCpu_any w.heap.size cpu u _ (HA.out.below hb1)).mono ?_; rintro e1 w1 ⟨rfl, hw1⟩; subst w1; rw [HCV.out]))
        go_ret
        exact ⟨by rw [HR.out] <;> rfl, ACC.out.trans (hb1.mono ACC.out.size)⟩
      · have HCV : Hid (cpuB u.cs (c : Int) = true) := cpuB_at hc
        have hrd := okS_read hok
        have hfit := hrd.1
        have htf := hrd.2.2.1
        have htg := hrd.2.2.2
        have HUS : Hid (usedB (gsD u.gs) group = true) := hus
        obtain ⟨g, rfl, hg8, hug⟩ := used_nat hfit hus
        have hgl : g < u.gs.length := by rw [hfit.g8]; exact hg8
        have HR : Hid (insideS u (g : Int) (c : Int) = insideN u (g : Int) c) := by unfold Hid insideS; rw [hok, HCV.out, hus, Int.toNat_natCast]; rfl
        have hI : ∀ W, AtW W w.heap.size u → Calls Tryz.prog 59 #[.agg #[.pointer (some ⟨w.heap.size, 0, none⟩), .int .i64 (c : Int)], .int .i64 (g : Int)] W fun e' w' => e' = .returned (.int .i64 (insideN u (g : Int) c)) ∧ Below W.heap.size W w' := fun W hW => inside_any w.heap.size c (g : Int) u W hW hfit htg
        have hQ : ∀ W, Calls Tryz.prog 58 #[.pointer (some ⟨w.heap.size, 0, none⟩), .int .i64 (c : Int)] W fun e' w' => e' = .returned (.agg #[.pointer (some ⟨w.heap.size, 0, none⟩), .int .i64 (c : Int)]) ∧ Below W.heap.size W w' := fun W => mk_queues w.heap.size (c : Int) W
        rw [hv] at hK ⊢
        clear hA hs hf e1 e2 e3 hv hok acc hus hug hgl hfit htf htg hrd
        go_enter Tryz.func23, Tryz.ntmps23
        go_wp2_with (first | (go_at_call 27; refine (hK _ (HS.out.below ACC.out)).mono ?_; rintro e1 V1 ⟨rfl, hb1⟩; obtain ⟨o0, o1, o2, o3⟩ := HC.out _ hb1; have lv : w.heap.size < V1.heap.size := Nat.lt_of_lt_of_le lw hb1.size) | (go_at_call 57; refine (hasGroup_any w.heap.size (g : Int) u _ (HA.out.below hb1)).mono ?_; rintro e1 w1 ⟨rfl, hw1⟩; subst w1; rw [HUS.out]) | (go_at_call 38; refine (hasCpu_any w.heap.size (c : Int) u _ (HA.out.below hb1)).mono ?_; rintro e1 w1 ⟨rfl, hw1⟩; subst w1; rw [HCV.out]) | (go_at_call 58; refine (hQ _).mono ?_; rintro e2 V2 ⟨rfl, hb2⟩; have hbx := hb1.trans (hb2.mono hb1.size)) | (go_at_call 59; refine (hI _ (HA.out.below hbx)).mono ?_; rintro e3 V3 ⟨rfl, hb3⟩))
        go_ret
        exact ⟨by rw [HR.out] <;> rfl, ACC.out.trans ((hbx.trans (hb3.mono hbx.size)).mono ACC.out.size)⟩
set_option maxRecDepth 100000 in
set_option maxHeartbeats 16000000 in
theorem implShare_any (group cpu : Int) (u : Wv) (w : World) (hs : SlW w u) (hf : GsFit u.gs) :
    Calls Tryz.prog 25 #[wvV u, .int .i64 group, .int .i64 cpu] w fun e' w' => e' = .returned (.int .i64 (shareS u group cpu)) ∧ Below w.heap.size w w' := by
  obtain ⟨p1, c1, p2, c2, p3, c3, e1, e2, e3, hl1, hl2, hl3⟩ := hs.forms
  have hv : wvV u = .agg #[.int .i64 u.now, .slice p1 u.cs.length c1, .slice p2 u.ts.length c2, .slice p3 u.gs.length c3] := by unfold wvV; rw [e1, e2, e3]
  obtain ⟨W1, hW1⟩ : ∃ W1, w.alloc (.cells #[.int .i64 u.now, .slice p1 u.cs.length c1, .slice p2 u.ts.length c2, .slice p3 u.gs.length c3] 33) = W1 := ⟨_, rfl⟩
  obtain ⟨hA, acc, lw⟩ := boxed_w hs e1 e2 e3 hW1
  have HS : Hid (SlW w u) := hs
  obtain ⟨HC, HTT, HCC, HGG⟩ := rows_at hA e1 e2 e3
  obtain ⟨o0, o1, o2, o3⟩ := HC.out _ (Below.refl _ _)
  have ACC : Hid (Below w.heap.size w W1) := acc
  have HA : Hid (AtW W1 w.heap.size u) := hA
  obtain ⟨ok, hok⟩ : ∃ b, okS u = b := ⟨_, rfl⟩
  have HO : Hid (okS u = ok) := hok
  have hK : ∀ W, SlW W u → Calls Tryz.prog 27 #[wvV u] W fun e' w' => e' = .returned (.bool ok) ∧ Below W.heap.size W w' := fun W h => by rw [← hok]; exact implWorldOk_eq u W h hf
  cases ok
  · have HR : Hid (shareS u group cpu = 0) := by unfold Hid shareS; rw [hok]; rfl
    rw [hv] at hK ⊢
    clear hA hs hf e1 e2 e3 hv hok acc
    go_enter Tryz.func25, Tryz.ntmps25
    go_wp2_with (first | (go_at_call 27; refine (hK _ (HS.out.below ACC.out)).mono ?_; rintro e1 V1 ⟨rfl, hb1⟩; obtain ⟨o0, o1, o2, o3⟩ := HC.out _ hb1; have lv : w.heap.size < V1.heap.size := Nat.lt_of_lt_of_le lw hb1.size))
    go_ret
    exact ⟨by rw [HR.out] <;> rfl, ACC.out.trans (hb1.mono ACC.out.size)⟩
  · cases hus : usedB (gsD u.gs) group
    · have HUS : Hid (usedB (gsD u.gs) group = false) := hus
      have HR : Hid (shareS u group cpu = 0) := by unfold Hid shareS; rw [hok, hus]; rfl
      rw [hv] at hK ⊢
      clear hA hs hf e1 e2 e3 hv hok acc hus
      go_enter Tryz.func25, Tryz.ntmps25
      go_wp2_with (first | (go_at_call 27; refine (hK _ (HS.out.below ACC.out)).mono ?_; rintro e1 V1 ⟨rfl, hb1⟩; obtain ⟨o0, o1, o2, o3⟩ := HC.out _ hb1; have lv : w.heap.size < V1.heap.size := Nat.lt_of_lt_of_le lw hb1.size) | (go_at_call 57; refine (hasGroup_any w.heap.size group u _ (HA.out.below hb1)).mono ?_; rintro e1 w1 ⟨rfl, hw1⟩; subst w1; rw [HUS.out]))
      go_ret
      exact ⟨by rw [HR.out] <;> rfl, ACC.out.trans (hb1.mono ACC.out.size)⟩
    · by_cases hg0 : group = 0
      · have HUS : Hid (usedB (gsD u.gs) group = true) := hus
        have HR : Hid (shareS u group cpu = 0) := by unfold Hid shareS; rw [hok, hg0]; simp
        rw [hv] at hK ⊢
        subst hg0
        clear hA hs hf e1 e2 e3 hv hok acc hus
        go_enter Tryz.func25, Tryz.ntmps25
        go_wp2_with (first | (go_at_call 27; refine (hK _ (HS.out.below ACC.out)).mono ?_; rintro e1 V1 ⟨rfl, hb1⟩; obtain ⟨o0, o1, o2, o3⟩ := HC.out _ hb1; have lv : w.heap.size < V1.heap.size := Nat.lt_of_lt_of_le lw hb1.size) | (go_at_call 57; refine (hasGroup_any w.heap.size 0 u _ (HA.out.below hb1)).mono ?_; rintro e1 w1 ⟨rfl, hw1⟩; subst w1; rw [HUS.out]))
        go_ret
        exact ⟨by rw [HR.out] <;> rfl, ACC.out.trans (hb1.mono ACC.out.size)⟩
      · rcases cpu_cases (cs := u.cs) (c := cpu) with hcv | ⟨c, rfl, hc⟩
        · have HR : Hid (shareS u group cpu = 0) := by unfold Hid shareS; rw [hcv]; simp
          have HCV : Hid (cpuB u.cs cpu = false) := hcv
          have HUS : Hid (usedB (gsD u.gs) group = true) := hus
          have hgz : (group == 0) = false := by simpa using hg0
          rw [hv] at hK ⊢
          clear hA hs hf e1 e2 e3 hv hok acc hcv hus
          go_enter Tryz.func25, Tryz.ntmps25
          go_wp2_with (first | (go_at_call 27; refine (hK _ (HS.out.below ACC.out)).mono ?_; rintro e1 V1 ⟨rfl, hb1⟩; obtain ⟨o0, o1, o2, o3⟩ := HC.out _ hb1; have lv : w.heap.size < V1.heap.size := Nat.lt_of_lt_of_le lw hb1.size) | (go_at_call 57; refine (hasGroup_any w.heap.size group u _ (HA.out.below hb1)).mono ?_; rintro e1 w1 ⟨rfl, hw1⟩; subst w1; rw [HUS.out]) | (go_at_call 38; refine (hasCpu_any w.heap.size cpu u _ (HA.out.below hb1)).mono ?_; rintro e1 w1 ⟨rfl, hw1⟩; subst w1; rw [HCV.out]))
          go_ret
          exact ⟨by rw [HR.out] <;> rfl, ACC.out.trans (hb1.mono ACC.out.size)⟩
        · have HCV : Hid (cpuB u.cs (c : Int) = true) := cpuB_at hc
          have hrd := okS_read hok
          have hfit := hrd.1
          have htf := hrd.2.2.1
          have htg := hrd.2.2.2
          have HUS : Hid (usedB (gsD u.gs) group = true) := hus
          obtain ⟨g, rfl, hg8, hug⟩ := used_nat hfit hus
          have hgl : g < u.gs.length := by rw [hfit.g8]; exact hg8
          have hgz : ((g : Int) == 0) = false := by simpa using hg0
          have HR : Hid (shareS u (g : Int) (c : Int) = shareN u g c) := by unfold Hid shareS; rw [hok, HCV.out, hus, decide_eq_true hg0, Int.toNat_natCast, Int.toNat_natCast]; rfl
          have hI : ∀ W, AtW W w.heap.size u → Calls Tryz.prog 61 #[.agg #[.pointer (some ⟨w.heap.size, 0, none⟩), .int .i64 (c : Int)], .int .i64 (g : Int)] W fun e' w' => e' = .returned (.int .i64 (shareN u g c)) ∧ Below W.heap.size W w' := fun W hW => share_any w.heap.size c g u W hW hfit htg hgl (weAt_range hok hug) hc
          have hQ : ∀ W, Calls Tryz.prog 58 #[.pointer (some ⟨w.heap.size, 0, none⟩), .int .i64 (c : Int)] W fun e' w' => e' = .returned (.agg #[.pointer (some ⟨w.heap.size, 0, none⟩), .int .i64 (c : Int)]) ∧ Below W.heap.size W w' := fun W => mk_queues w.heap.size (c : Int) W
          rw [hv] at hK ⊢
          clear hA hs hf e1 e2 e3 hv hok acc hus hug hgl hfit htf htg hrd
          go_enter Tryz.func25, Tryz.ntmps25
          go_wp2_with (first | (go_at_call 27; refine (hK _ (HS.out.below ACC.out)).mono ?_; rintro e1 V1 ⟨rfl, hb1⟩; obtain ⟨o0, o1, o2, o3⟩ := HC.out _ hb1; have lv : w.heap.size < V1.heap.size := Nat.lt_of_lt_of_le lw hb1.size) | (go_at_call 57; refine (hasGroup_any w.heap.size (g : Int) u _ (HA.out.below hb1)).mono ?_; rintro e1 w1 ⟨rfl, hw1⟩; subst w1; rw [HUS.out]) | (go_at_call 38; refine (hasCpu_any w.heap.size (c : Int) u _ (HA.out.below hb1)).mono ?_; rintro e1 w1 ⟨rfl, hw1⟩; subst w1; rw [HCV.out]) | (go_at_call 58; refine (hQ _).mono ?_; rintro e2 V2 ⟨rfl, hb2⟩; have hbx := hb1.trans (hb2.mono hb1.size)) | (go_at_call 61; refine (hI _ (HA.out.below hbx)).mono ?_; rintro e3 V3 ⟨rfl, hb3⟩))
          go_ret
          exact ⟨by rw [HR.out] <;> rfl, ACC.out.trans ((hbx.trans (hb3.mono hbx.size)).mono ACC.out.size)⟩
end Go.Proofs.YtnmmglkigiakaaaGreat
