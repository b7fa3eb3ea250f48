/- Chapter 12: CpuBusiest, CpuPull: plain; the program. Chapter 12: CpuBusiest, CpuPull: the specification; alike worlds. -/
import Derived.Test.YtnmmglkigiakaaaGreatD34
import Derived.Test.YtnmmglkigiakaaaGreatD35
namespace Go.Proofs.YtnmmglkigiakaaaGreat
set_option maxRecDepth 100000
set_option maxHeartbeats 32000000
set_option linter.unusedVariables false
set_option linter.unusedSimpArgs false
open Go.ChangeShapes Go.WideShapes Go.ChangeAt Go.RowKit Go.Shelf Go.Sort
attribute [local go_sem] Oper.semAt_some
theorem ups_bits {cs : List Cp} : ∀ k, k ≤ 4 → ∀ i : Nat, i < 4 → Msk.hasB (upsTo cs k) (i : Int) = (decide (i < k) && upB cs i) := by
  intro k
  induction k with
  | zero => intro _ i hi; rw [show upsTo cs 0 = 0 from rfl, set_zero.2 i hi]; simp
  | succ k ih =>
    intro hk i hi
    have ih := ih (by omega) i hi
    have hin : SetIn (upsTo cs k) := by
      obtain ⟨h1, h2⟩ := upsTo_bound cs k
      refine ⟨h1, ?_⟩
      have : k = 0 ∨ k = 1 ∨ k = 2 ∨ k = 3 := by omega
      rcases this with rfl | rfl | rfl | rfl <;> simp at h2 <;> omega
    have hs : upsTo cs (k + 1) = upsTo cs k + (if upB cs k = true then 2 ^ k else 0) := rfl
    rw [hs]
    cases hu : upB cs k
    · rw [if_neg (by decide), Int.add_zero, ih]
      by_cases hik : i = k
      · subst hik; rw [hu]; simp
      · rw [show decide (i < k + 1) = decide (i < k) from decide_eq_decide.2 (by omega)]
    · rw [if_pos rfl, ← or_ups cs k (by omega), (or_bit hin (by omega)).2 i hi, ih]
      by_cases hik : i = k
      · subst hik; rw [hu]; simp
      · rw [show decide (i < k + 1) = decide (i < k) from decide_eq_decide.2 (by omega), decide_eq_false hik, Bool.or_false]
def upAt (u : Wv) (c : Int) : Bool := cpuB u.cs c && upB u.cs c.toNat
theorem ups_has {u : Wv} (hn : u.cs.length ≤ 4) (c : Int) : Msk.hasB (upsM u.cs) c = upAt u c := by
  by_cases h : 0 ≤ c ∧ c ≤ 3
  · obtain ⟨k, rfl⟩ := Int.eq_ofNat_of_zero_le h.1
    have hk : k < 4 := by omega
    unfold upsM upAt
    rw [ups_bits u.cs.length hn k hk, Int.toNat_natCast]
    unfold cpuB
    rw [decide_eq_true (by omega : (0 : Int) ≤ (k : Int)), Bool.true_and]
    rw [show decide ((k : Int) < (u.cs.length : Int)) = decide (k < u.cs.length) from decide_eq_decide.2 (by omega)]
  · rw [Msk.hasB_c (by omega)]
    unfold upAt cpuB
    by_cases h0 : 0 ≤ c
    · rw [decide_eq_true h0, decide_eq_false (by omega)]; rfl
    · rw [decide_eq_false h0]; rfl
theorem upAt_cases {u : Wv} {c : Int} : upAt u c = false ∨ ∃ k : Nat, c = (k : Int) ∧ k < u.cs.length ∧ upB u.cs k = true := by
  cases h : upAt u c
  · exact .inl rfl
  · unfold upAt at h
    rw [Bool.and_eq_true] at h
    obtain ⟨k, rfl, hk⟩ := cpuB_nat h.1
    exact .inr ⟨k, rfl, hk, by rw [Int.toNat_natCast] at h; exact h.2⟩
theorem upAt_at {u : Wv} {k : Nat} (hk : k < u.cs.length) (h : upB u.cs k = true) : upAt u (k : Int) = true := by unfold upAt; rw [cpuB_at hk, Int.toNat_natCast, h]; rfl
theorem best_zero {u : Wv} (hn : u.cs.length ≤ 4) (c : Nat) : bestM u c 0 = -1 := by
  unfold bestM
  have key : ∀ k, k ≤ 4 → bestTo u c 0 k = -1 := by
    intro k
    induction k with
    | zero => intro _; rfl
    | succ k ih =>
      intro hk
      rw [bestTo_succ, set_zero.2 k (by omega), if_neg (by simp)]
      exact ih (by omega)
  exact key _ hn
def busyS (u : Wv) (c lv : Int) : Int := if (okS u && upAt u c) = true then bestM u c.toNat (Msk.spanM (u.cs.length : Int) c lv) else -1
theorem implBusiest_any (cpu lv : Int) (u : Wv) (w : World) (hs : SlW w u) (hf : GsFit u.gs) :
    Calls Tryz.prog 21 #[wvV u, .int .i64 cpu, .int .i64 lv] w fun e' w' => e' = .returned (.int .i64 (busyS u cpu lv)) ∧ Below w.heap.size w w' := by
  obtain ⟨p1, c1, p2, c2, p3, c3, e1, e2, e3, hl1, hl2, hl3⟩ := hs.forms
  have hv : wvV u = .agg #[.int .i64 u.now, .slice p1 u.cs.length c1, .slice p2 u.ts.length c2, .slice p3 u.gs.length c3] := by unfold wvV; rw [e1, e2, e3]
  obtain ⟨W1, hW1⟩ : ∃ W1, w.alloc (.cells #[.int .i64 u.now, .slice p1 u.cs.length c1, .slice p2 u.ts.length c2, .slice p3 u.gs.length c3] 33) = W1 := ⟨_, rfl⟩
  obtain ⟨hA, acc, lw⟩ := boxed_w hs e1 e2 e3 hW1
  have HS : Hid (SlW w u) := hs
  obtain ⟨HC, HTT, HCC, HGG⟩ := rows_at hA e1 e2 e3
  obtain ⟨o0, o1, o2, o3⟩ := HC.out _ (Below.refl _ _)
  have ACC : Hid (Below w.heap.size w W1) := acc
  have HA : Hid (AtW W1 w.heap.size u) := hA
  obtain ⟨ok, hok⟩ : ∃ b, okS u = b := ⟨_, rfl⟩
  have HO : Hid (okS u = ok) := hok
  have hK : ∀ W, SlW W u → Calls Tryz.prog 27 #[wvV u] W fun e' w' => e' = .returned (.bool ok) ∧ Below W.heap.size W w' := fun W h => by rw [← hok]; exact implWorldOk_eq u W h hf
  cases ok
  · have HR : Hid (busyS u cpu lv = -1) := by unfold Hid busyS; rw [hok]; rfl
    rw [hv] at hK ⊢
    clear hA hs hf e1 e2 e3 hv hok acc
    go_enter Tryz.func21, Tryz.ntmps21
    go_wp2_with (first | (go_at_call 27; refine (hK _ (HS.out.below ACC.out)).mono ?_; rintro e1 V1 ⟨rfl, hb1⟩; obtain ⟨o0, o1, o2, o3⟩ := HC.out _ hb1; have lv : w.heap.size < V1.heap.size := Nat.lt_of_lt_of_le lw hb1.size))
    go_ret
    exact ⟨by rw [HR.out] <;> rfl, ACC.out.trans (hb1.mono ACC.out.size)⟩
  · obtain ⟨hF, hCP, hTF, hTG⟩ := okS_read hok
    have HN4 : Hid (u.cs.length ≤ 4) := hF.n4
    have HUS : Hid (SetIn (upsM u.cs)) := ups_in u.cs hF.n4
    have HUH : Hid (Msk.hasB (upsM u.cs) cpu = upAt u cpu) := ups_has hF.n4 cpu
    rcases upAt_cases (u := u) (c := cpu) with hup | ⟨c, rfl, hc, hub⟩
    · have HR : Hid (busyS u cpu lv = -1) := by unfold Hid busyS; rw [hup, Bool.and_false]; rfl
      have HUA : Hid (upAt u cpu = false) := hup
      rw [hv] at hK ⊢
      clear hA hs hf e1 e2 e3 hv hok acc hup hF hCP hTF hTG
      go_enter Tryz.func21, Tryz.ntmps21
      go_wp2_with (first | (go_at_call 27; refine (hK _ (HS.out.below ACC.out)).mono ?_; rintro e1 V1 ⟨rfl, hb1⟩; obtain ⟨o0, o1, o2, o3⟩ := HC.out _ hb1; have lv : w.heap.size < V1.heap.size := Nat.lt_of_lt_of_le lw hb1.size) | (go_at_call 46; refine (impl_ups w.heap.size u _ (HA.out.below hb1) HN4.out).mono ?_; rintro e2 V2 ⟨rfl, hb2⟩; have hbx := hb1.trans (hb2.mono hb1.size)) | (go_at_call 47; refine (Msk.set_has _ _ _ HUS.out.1 HUS.out.2).mono ?_; rintro e3 V3 ⟨rfl, hv3⟩; subst V3; rw [HUH.out, HUA.out]))
      go_ret
      exact ⟨by rw [HR.out] <;> rfl, ACC.out.trans (hbx.mono ACC.out.size)⟩
    · have HUA : Hid (upAt u (c : Int) = true) := upAt_at hc hub
      obtain ⟨ec, hec⟩ := row_get hc
      have HPA : Hid (∀ W, AtW W w.heap.size u → Calls Tryz.prog 39 #[.pointer (some ⟨w.heap.size, 0, none⟩), .int .i64 (c : Int)] W fun e' w' => ∃ pg po, e' = .returned (.agg #[.pointer (some ⟨w.heap.size, 0, none⟩), .int .i64 (c : Int), .pointer (some ⟨pg, po, none⟩)]) ∧ w'.rangeAt pg po (cpC ec) ∧ pg < W.heap.size ∧ Below W.heap.size W w') := fun W hW => procAt_any w.heap.size c u ec W hW hec
      obtain ⟨bm, hbm⟩ : ∃ z, bestM u c (Msk.spanM (u.cs.length : Int) (c : Int) lv) = z := ⟨_, rfl⟩
      have hR0 : busyS u (c : Int) lv = bm := by unfold busyS; rw [hok, HUA.out, Int.toNat_natCast, hbm]; rfl
      have hI0 : ∀ (pg po : Nat) W, AtW W w.heap.size u → Calls Tryz.prog 54 #[.agg #[.pointer (some ⟨w.heap.size, 0, none⟩), .int .i64 (c : Int), .pointer (some ⟨pg, po, none⟩)], .int .i64 lv] W fun e' w' => e' = .returned (.tuple #[.int .i64 ((encB bm).1 : Int), .bool (encB bm).2]) ∧ Below W.heap.size W w' := fun pg po W hW => by
        have h0 := busiest_any w.heap.size c pg po lv u W hW hok hc
        rw [hbm] at h0; exact h0
      have hrg : bm = -1 ∨ ∃ b : Nat, bm = (b : Int) := by
        rcases bestTo_range u c (Msk.spanM (u.cs.length : Int) (c : Int) lv) u.cs.length with h | ⟨b, h, _⟩
        · exact .inl (by rw [← hbm]; exact h)
        · exact .inr ⟨b, by rw [← hbm]; exact h⟩
      rw [hv] at hK ⊢
      clear hA hs hf e1 e2 e3 hv hok acc hF hCP hTF hTG hec hbm
      rcases hrg with rfl | ⟨b, rfl⟩
      · have HR : Hid (busyS u (c : Int) lv = -1) := hR0
        rw [encB_none] at hI0
        have HI : Hid (∀ (pg po : Nat) W, AtW W w.heap.size u → Calls Tryz.prog 54 #[.agg #[.pointer (some ⟨w.heap.size, 0, none⟩), .int .i64 (c : Int), .pointer (some ⟨pg, po, none⟩)], .int .i64 lv] W fun e' w' => e' = .returned (.tuple #[.int .i64 ((0 : Nat) : Int), .bool false]) ∧ Below W.heap.size W w') := hI0
        clear hI0 hR0
        go_enter Tryz.func21, Tryz.ntmps21
        go_wp2_with (first | (go_at_call 27; refine (hK _ (HS.out.below ACC.out)).mono ?_; rintro e1 V1 ⟨rfl, hb1⟩; obtain ⟨o0, o1, o2, o3⟩ := HC.out _ hb1; have lv : w.heap.size < V1.heap.size := Nat.lt_of_lt_of_le lw hb1.size) | (go_at_call 46; refine (impl_ups w.heap.size u _ (HA.out.below hb1) HN4.out).mono ?_; rintro e2 V2 ⟨rfl, hb2⟩; have hbx := hb1.trans (hb2.mono hb1.size)) | (go_at_call 47; refine (Msk.set_has _ _ _ HUS.out.1 HUS.out.2).mono ?_; rintro e3 V3 ⟨rfl, hv3⟩; subst V3; rw [HUH.out, HUA.out]) | (go_at_call 39; refine (HPA.out _ (HA.out.below hbx)).mono ?_; rintro e4 V4 ⟨pg, po, rfl, hrow, hlg, hb4⟩; have hby := hbx.trans (hb4.mono hbx.size)) | (go_at_call 54; refine (HI.out pg po _ (HA.out.below hby)).mono ?_; rintro e5 V5 ⟨rfl, hb5⟩))
        go_ret
        exact ⟨by rw [HR.out] <;> rfl, ACC.out.trans ((hby.trans (hb5.mono hby.size)).mono ACC.out.size)⟩
      · have HR : Hid (busyS u (c : Int) lv = (b : Int)) := hR0
        rw [encB_some] at hI0
        have HI : Hid (∀ (pg po : Nat) W, AtW W w.heap.size u → Calls Tryz.prog 54 #[.agg #[.pointer (some ⟨w.heap.size, 0, none⟩), .int .i64 (c : Int), .pointer (some ⟨pg, po, none⟩)], .int .i64 lv] W fun e' w' => e' = .returned (.tuple #[.int .i64 (b : Int), .bool true]) ∧ Below W.heap.size W w') := hI0
        clear hI0 hR0
        go_enter Tryz.func21, Tryz.ntmps21
        go_wp2_with (first | (go_at_call 27; refine (hK _ (HS.out.below ACC.out)).mono ?_; rintro e1 V1 ⟨rfl, hb1⟩; obtain ⟨o0, o1, o2, o3⟩ := HC.out _ hb1; have lv : w.heap.size < V1.heap.size := Nat.lt_of_lt_of_le lw hb1.size) | (go_at_call 46; refine (impl_ups w.heap.size u _ (HA.out.below hb1) HN4.out).mono ?_; rintro e2 V2 ⟨rfl, hb2⟩; have hbx := hb1.trans (hb2.mono hb1.size)) | (go_at_call 47; refine (Msk.set_has _ _ _ HUS.out.1 HUS.out.2).mono ?_; rintro e3 V3 ⟨rfl, hv3⟩; subst V3; rw [HUH.out, HUA.out]) | (go_at_call 39; refine (HPA.out _ (HA.out.below hbx)).mono ?_; rintro e4 V4 ⟨pg, po, rfl, hrow, hlg, hb4⟩; have hby := hbx.trans (hb4.mono hbx.size)) | (go_at_call 54; refine (HI.out pg po _ (HA.out.below hby)).mono ?_; rintro e5 V5 ⟨rfl, hb5⟩))
        go_ret
        exact ⟨by rw [HR.out] <;> rfl, ACC.out.trans ((hby.trans (hb5.mono hby.size)).mono ACC.out.size)⟩
theorem l9Up_any (cpu : Int) (u : Wv) (w : World) (hs : SlW w u) :
    Calls Tryz.prog 44 #[wvV u, .int .i64 cpu] w fun e' w' => e' = .returned (.bool (upAt u cpu)) ∧ Below w.heap.size w w' := by
  obtain ⟨p1, c1, p2, c2, p3, c3, e1, e2, e3, hl1, hl2, hl3⟩ := hs.forms
  have hv : wvV u = .agg #[.int .i64 u.now, .slice p1 u.cs.length c1, .slice p2 u.ts.length c2, .slice p3 u.gs.length c3] := by unfold wvV; rw [e1, e2, e3]
  obtain ⟨W1, hW1⟩ : ∃ W1, w.alloc (.cells #[.int .i64 u.now, .slice p1 u.cs.length c1, .slice p2 u.ts.length c2, .slice p3 u.gs.length c3] 33) = W1 := ⟨_, rfl⟩
  obtain ⟨hA, acc, lw⟩ := boxed_w hs e1 e2 e3 hW1
  have HS : Hid (SlW w u) := hs
  obtain ⟨HC, HTT, HCC, HGG⟩ := rows_at hA e1 e2 e3
  obtain ⟨o0, o1, o2, o3⟩ := HC.out _ (Below.refl _ _)
  have ACC : Hid (Below w.heap.size w W1) := acc
  have HCB : Hid (l1in cpu 0 (wrap64 ((u.cs.length : Int) - 1)) = cpuB u.cs cpu) := by
    have : wrap64 ((u.cs.length : Int) - 1) = (u.cs.length : Int) - 1 := by unfold wrap64; omega
    unfold Hid; rw [this]; unfold l1in cpuB
    rw [Bool.decide_and]; congr 1
    exact decide_eq_decide.2 (by omega)
  have HCB2 : Hid (l1in cpu 0 ((u.cs.length : Int) - 1) = cpuB u.cs cpu) := by
    have : wrap64 ((u.cs.length : Int) - 1) = (u.cs.length : Int) - 1 := by unfold wrap64; omega
    have h := HCB.out
    rw [this] at h; exact h
  rcases cpu_cases (cs := u.cs) (c := cpu) with hcv | ⟨c, rfl, hc⟩
  · have HR : Hid (upAt u cpu = false) := by unfold Hid upAt; rw [hcv]; rfl
    have HCV : Hid (cpuB u.cs cpu = false) := hcv
    rw [hv]
    clear hA hs e1 e2 e3 hv acc hcv
    go_enter Tryz.func44, Tryz.ntmps44
    go_wp2_with (go_at_call 33; refine (l1In_any _ _ _ _).mono ?_; rintro e1 w1 ⟨rfl, hw1⟩; subst w1; (first | rw [HCB.out] | rw [HCB2.out] | skip); rw [HCV.out])
    go_ret
    exact ⟨by rw [HR.out] <;> rfl, ACC.out⟩
  · have HCV : Hid (cpuB u.cs (c : Int) = true) := cpuB_at hc
    obtain ⟨ec, hec⟩ := row_get hc
    have HR : Hid (upAt u (c : Int) = ec.up) := by unfold Hid upAt upB; rw [HCV.out, Int.toNat_natCast, hec]; rfl
    obtain ⟨cg, co, rfl, hcr, lcg⟩ := HCC.out _ c ec (Below.refl _ _) hec
    obtain ⟨y0, y1, y2, y3, y4⟩ := cp_cells hcr
    have hc' : (c : Int) < (u.cs.length : Int) := by omega
    rw [hv]
    clear hA hs e1 e2 e3 hv acc hcr hec y1 y2 y3 y4
    go_enter Tryz.func44, Tryz.ntmps44
    go_wp2_with (go_at_call 33; refine (l1In_any _ _ _ _).mono ?_; rintro e1 w1 ⟨rfl, hw1⟩; subst w1; (first | rw [HCB.out] | rw [HCB2.out] | skip); rw [HCV.out])
    go_ret
    exact ⟨by rw [HR.out] <;> rfl, ACC.out⟩
theorem specBusiest_any (cpu lev : Int) (u : Wv) (w : World) (hs : SlW w u) (hf : GsFit u.gs) :
    Calls Tryz.prog 20 #[wvV u, .int .i64 cpu, .int .i64 lev] w fun e' w' => e' = .returned (.int .i64 (busyS u cpu lev)) ∧ Below w.heap.size w w' := by
  obtain ⟨p1, c1, p2, c2, p3, c3, e1, e2, e3, hl1, hl2, hl3⟩ := hs.forms
  have hv : wvV u = .agg #[.int .i64 u.now, .slice p1 u.cs.length c1, .slice p2 u.ts.length c2, .slice p3 u.gs.length c3] := by unfold wvV; rw [e1, e2, e3]
  obtain ⟨W1, hW1⟩ : ∃ W1, w.alloc (.cells #[.int .i64 u.now, .slice p1 u.cs.length c1, .slice p2 u.ts.length c2, .slice p3 u.gs.length c3] 33) = W1 := ⟨_, rfl⟩
  obtain ⟨hA, acc, lw⟩ := boxed_w hs e1 e2 e3 hW1
  have HS : Hid (SlW w u) := hs
  obtain ⟨HC, HTT, HCC, HGG⟩ := rows_at hA e1 e2 e3
  obtain ⟨o0, o1, o2, o3⟩ := HC.out _ (Below.refl _ _)
  have ACC : Hid (Below w.heap.size w W1) := acc
  obtain ⟨ok, hok⟩ : ∃ b, okS u = b := ⟨_, rfl⟩
  have HO : Hid (okS u = ok) := hok
  have hK : ∀ W, SlW W u → Calls Tryz.prog 26 #[wvV u] W fun e' w' => e' = .returned (.bool ok) ∧ Below W.heap.size W w' := fun W h => by rw [← hok]; exact specWorldOk_any u W h hf
  have hU : ∀ W, SlW W u → Calls Tryz.prog 44 #[wvV u, .int .i64 cpu] W fun e' w' => e' = .returned (.bool (upAt u cpu)) ∧ Below W.heap.size W w' := fun W hW => l9Up_any cpu u W hW
  cases ok
  · have HR : Hid (busyS u cpu lev = -1) := by unfold Hid busyS; rw [hok]; rfl
    rw [hv] at hK ⊢
    clear hA hs hf e1 e2 e3 hv hok acc hU
    go_enter Tryz.func20, Tryz.ntmps20
    go_wp2_with (first | (go_at_call 26; refine (hK _ (HS.out.below ACC.out)).mono ?_; rintro e1 V1 ⟨rfl, hb1⟩; obtain ⟨o0, o1, o2, o3⟩ := HC.out _ hb1; have lv : w.heap.size < V1.heap.size := Nat.lt_of_lt_of_le lw hb1.size))
    go_ret
    exact ⟨by rw [HR.out] <;> rfl, ACC.out.trans (hb1.mono ACC.out.size)⟩
  · have hn4 := (okS_read hok).1.n4
    rcases upAt_cases (u := u) (c := cpu) with hup | ⟨c, rfl, hc, hub⟩
    · have HR : Hid (busyS u cpu lev = -1) := by unfold Hid busyS; rw [hup, Bool.and_false]; rfl
      rw [hup, hv] at hU
      have HUP : Hid (∀ W, SlW W u → Calls Tryz.prog 44 #[.agg #[.int .i64 u.now, .slice p1 u.cs.length c1, .slice p2 u.ts.length c2, .slice p3 u.gs.length c3], .int .i64 cpu] W fun e' w' => e' = .returned (.bool false) ∧ Below W.heap.size W w') := hU
      rw [hv] at hK ⊢
      clear hA hs hf e1 e2 e3 hv hok acc hU hup
      go_enter Tryz.func20, Tryz.ntmps20
      go_wp2_with (first | (go_at_call 26; refine (hK _ (HS.out.below ACC.out)).mono ?_; rintro e1 V1 ⟨rfl, hb1⟩; obtain ⟨o0, o1, o2, o3⟩ := HC.out _ hb1; have lv : w.heap.size < V1.heap.size := Nat.lt_of_lt_of_le lw hb1.size) | (go_at_call 44; refine (HUP.out _ (HS.out.below (ACC.out.trans (hb1.mono ACC.out.size)))).mono ?_; rintro e2 V2 ⟨rfl, hb2⟩; have hbx := hb1.trans (hb2.mono hb1.size); obtain ⟨o0, o1, o2, o3⟩ := HC.out _ hbx; have lv2 : w.heap.size < V2.heap.size := Nat.lt_of_lt_of_le lw hbx.size))
      go_ret
      exact ⟨by rw [HR.out] <;> rfl, ACC.out.trans (hbx.mono ACC.out.size)⟩
    · have hup := upAt_at hc hub
      rw [hup, hv] at hU
      have HUP : Hid (∀ W, SlW W u → Calls Tryz.prog 44 #[.agg #[.int .i64 u.now, .slice p1 u.cs.length c1, .slice p2 u.ts.length c2, .slice p3 u.gs.length c3], .int .i64 (c : Int)] W fun e' w' => e' = .returned (.bool true) ∧ Below W.heap.size W w') := hU
      have hR0 : busyS u (c : Int) lev = bestM u c (Msk.spanM (u.cs.length : Int) (c : Int) lev) := by unfold busyS; rw [hok, hup, Int.toNat_natCast]; rfl
      obtain ⟨nl, hnl⟩ : ∃ n, Msk.levelsF (u.cs.length : Int) = n := ⟨_, rfl⟩
      have hlr : 0 ≤ nl ∧ nl ≤ 2 := by rw [← hnl]; unfold Msk.levelsF; split; omega; split <;> omega
      have HLV : Hid (∀ W, Calls Tryz.prog 51 #[.int .i64 (u.cs.length : Int)] W fun e w' => e = .returned (.int .i64 nl) ∧ w' = W) := fun W => by
        have h0 := Msk.spec_levels (u.cs.length : Int) W
        rw [hnl] at h0; exact h0
      have hw1 : wrap64 (nl - 1) = nl - 1 := by unfold wrap64; omega
      have hB : ∀ m W, SlW W u → Calls Tryz.prog 52 #[wvV u, .int .i64 m, .int .i64 (c : Int)] W fun e' w' => e' = .returned (.int .i64 (bestM u c m)) ∧ Below W.heap.size W w' := fun m W hW => l12Busiest_any c m u W hW hok hc
      rw [hv] at hB hK ⊢
      by_cases hin : 0 ≤ lev ∧ lev ≤ nl - 1
      · have HIN : Hid (l1in lev 0 (nl - 1) = true) := l1in_iff.2 hin
        have HIN2 : Hid (l1in lev 0 (wrap64 (nl - 1)) = true) := by unfold Hid; rw [hw1]; exact HIN.out
        obtain ⟨sp, hsp⟩ : ∃ sp, Msk.spanM (u.cs.length : Int) (c : Int) lev = sp := ⟨_, rfl⟩
        obtain ⟨bm, hbm⟩ : ∃ z, bestM u c sp = z := ⟨_, rfl⟩
        have HR : Hid (busyS u (c : Int) lev = bm) := by unfold Hid; rw [hR0, hsp, hbm]
        have HBB : Hid (∀ W, SlW W u → Calls Tryz.prog 52 #[.agg #[.int .i64 u.now, .slice p1 u.cs.length c1, .slice p2 u.ts.length c2, .slice p3 u.gs.length c3], .int .i64 sp, .int .i64 (c : Int)] W fun e' w' => e' = .returned (.int .i64 bm) ∧ Below W.heap.size W w') := fun W hW => by have h0 := hB sp W hW; rw [hbm] at h0; exact h0
        have HSP : Hid (∀ W, Calls Tryz.prog 53 #[.int .i64 (u.cs.length : Int), .int .i64 (c : Int), .int .i64 lev] W fun e w' => e = .returned (.int .i64 sp) ∧ w' = W) := fun W => by
          have h0 := Msk.spec_span (u.cs.length : Int) (c : Int) lev W
          rw [hsp] at h0; exact h0
        clear hA hs hf e1 e2 e3 hv hok acc hU hup hB hR0 hsp hbm hw1 hin hnl
        go_enter Tryz.func20, Tryz.ntmps20
        go_wp2_with (first | (go_at_call 26; refine (hK _ (HS.out.below ACC.out)).mono ?_; rintro e1 V1 ⟨rfl, hb1⟩; obtain ⟨o0, o1, o2, o3⟩ := HC.out _ hb1; have lv : w.heap.size < V1.heap.size := Nat.lt_of_lt_of_le lw hb1.size) | (go_at_call 44; refine (HUP.out _ (HS.out.below (ACC.out.trans (hb1.mono ACC.out.size)))).mono ?_; rintro e2 V2 ⟨rfl, hb2⟩; have hbx := hb1.trans (hb2.mono hb1.size); obtain ⟨o0, o1, o2, o3⟩ := HC.out _ hbx; have lv2 : w.heap.size < V2.heap.size := Nat.lt_of_lt_of_le lw hbx.size) | (go_at_call 51; refine (HLV.out _).mono ?_; rintro e3 V3 ⟨rfl, hv3⟩; subst V3) | (go_at_call 33; refine (l1In_any _ _ _ _).mono ?_; rintro e4 V4 ⟨rfl, hv4⟩; subst V4; (first | rw [HIN.out] | rw [HIN2.out])))
        have HSV : Hid (SlW V2 u) := HS.out.below (ACC.out.trans (hbx.mono ACC.out.size))
        have cS : ∀ d os, Calls Tryz.prog 53 #[.int .i64 (u.cs.length : Int), .int .i64 (c : Int), .int .i64 lev] (grow (redrawn V2 d) os) fun e' w'' => e' = .returned (.int .i64 sp) ∧ ∃ p : Regrown, w'' = grow (redrawn V2 p.d) p.os := fun d os => by
          have h0 := HSP.out (grow (redrawn V2 d) os)
          exact Calls.regrown_of (h0.mono fun e' w' h => ⟨h.1, by rw [h.2]; exact Below.refl _ _⟩)
        have cU : ∀ d os, Calls Tryz.prog 52 #[.agg #[.int .i64 u.now, .slice p1 u.cs.length c1, .slice p2 u.ts.length c2, .slice p3 u.gs.length c3], .int .i64 sp, .int .i64 (c : Int)] (grow (redrawn V2 d) os) fun e' w'' => e' = .returned (.int .i64 bm) ∧ ∃ p : Regrown, w'' = grow (redrawn V2 p.d) p.os := fun d os => Calls.regrown_of (HBB.out _ (HSV.out.below (below_regrown V2 d os)))
        have r0 := cell_regrown o0
        have r1 := cell_regrown o1
        have r2 := cell_regrown o2
        have r3 := cell_regrown o3
        refine wp_region_quiet_below (by kernel_rfl) (by kernel_rfl) ?_
        go_big_quiet_step (exact cS _ _)
        go_big_quiet_step (exact cS _ _)
        go_big_quiet_step (exact cS _ _)
        go_big_quiet_step (exact cS _ _)
        go_big_quiet_step (exact cS _ _)
        go_big_quiet_step (exact cS _ _)
        go_big_quiet_step (exact cS _ _)
        go_big_quiet_step (exact cU _ _)
        go_big_quiet_step (exact cU _ _)
        go_big_quiet_step (exact cU _ _)
        refine wpQuiet_nil ?_
        rintro _ ⟨⟨dq, osq⟩, rfl⟩
        go_wp2
        go_ret
        exact ⟨by rw [HR.out] <;> rfl, ACC.out.trans ((hbx.trans ((below_regrown V2 dq osq).mono hbx.size)).mono ACC.out.size)⟩
      · have HIN : Hid (l1in lev 0 (nl - 1) = false) := l1in_no (by omega)
        have HIN2 : Hid (l1in lev 0 (wrap64 (nl - 1)) = false) := by unfold Hid; rw [hw1]; exact HIN.out
        have HR : Hid (busyS u (c : Int) lev = -1) := by
          unfold Hid
          rw [hR0, Msk.spanM_no (Msk.okSp_l (by rw [hnl]; omega))]
          exact best_zero hn4 c
        clear hA hs hf e1 e2 e3 hv hok acc hU hup hB hR0 hw1 hin hnl
        go_enter Tryz.func20, Tryz.ntmps20
        go_wp2_with (first | (go_at_call 26; refine (hK _ (HS.out.below ACC.out)).mono ?_; rintro e1 V1 ⟨rfl, hb1⟩; obtain ⟨o0, o1, o2, o3⟩ := HC.out _ hb1; have lv : w.heap.size < V1.heap.size := Nat.lt_of_lt_of_le lw hb1.size) | (go_at_call 44; refine (HUP.out _ (HS.out.below (ACC.out.trans (hb1.mono ACC.out.size)))).mono ?_; rintro e2 V2 ⟨rfl, hb2⟩; have hbx := hb1.trans (hb2.mono hb1.size); obtain ⟨o0, o1, o2, o3⟩ := HC.out _ hbx; have lv2 : w.heap.size < V2.heap.size := Nat.lt_of_lt_of_le lw hbx.size) | (go_at_call 51; refine (HLV.out _).mono ?_; rintro e3 V3 ⟨rfl, hv3⟩; subst V3) | (go_at_call 33; refine (l1In_any _ _ _ _).mono ?_; rintro e4 V4 ⟨rfl, hv4⟩; subst V4; (first | rw [HIN.out] | rw [HIN2.out])))
        go_ret
        exact ⟨by rw [HR.out] <;> rfl, ACC.out.trans (hbx.mono ACC.out.size)⟩
theorem dryG_gsD (u : Wv) (c k : Nat) : dryG u c k = (((gsD u.gs)[k]?).any fun d => dryB d.ba c) := by
  unfold dryG gsD
  rw [List.getElem?_map]
  cases u.gs[k]? <;> rfl
theorem dryG_same {u v : Wv} (h : SameW u v) : dryG v = dryG u := by
  funext c k
  rw [dryG_gsD, dryG_gsD, h.gs]
theorem curAt_same {u v : Wv} (h : SameW u v) : curAt v = curAt u := by
  funext c; unfold curAt; rw [h.cs]
theorem couldB_same {u v : Wv} (h : SameW u v) : couldB v = couldB u := by
  funext c t
  unfold couldB
  rw [h.ts, h.gs, h.cs, dryG_same h, curAt_same h]
theorem giveB_same {u v : Wv} (h : SameW u v) : giveB v = giveB u := by
  funext c b
  unfold giveB giveTo
  rw [couldB_same h, h.ts]
theorem bestTo_same {u v : Wv} (h : SameW u v) (c : Nat) (m : Int) (k : Nat) : bestTo v c m k = bestTo u c m k := by
  induction k with
  | zero => rfl
  | succ k ih => rw [bestTo_succ, bestTo_succ, ih, giveB_same h, loadN_same h]
theorem bestM_same {u v : Wv} (h : SameW u v) : bestM v = bestM u := by
  funext c m
  unfold bestM
  rw [bestTo_same h, h.cs]
theorem upAt_same {u v : Wv} (h : SameW u v) : upAt v = upAt u := by
  funext c
  unfold upAt
  rw [h.cs]
theorem busyS_same {u v : Wv} (h : SameW u v) (c lv : Int) : busyS v c lv = busyS u c lv := by
  unfold busyS
  rw [okS_same h, upAt_same h, bestM_same h, h.cs]
end Go.Proofs.YtnmmglkigiakaaaGreat
