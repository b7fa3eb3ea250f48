/- The specification: a task's groups, from its own one to the root. The specification: whether a task could run on a processor. The specification: whose load is the greatest, whether a task fits. Chapter 12: alike worlds tell alike. -/
import Derived.Test.YtnmmglkigiakaaaGreatD30
namespace Go.Proofs.YtnmmglkigiakaaaGreat
set_option maxRecDepth 100000
set_option maxHeartbeats 32000000
set_option linter.unusedVariables false
set_option linter.unusedSimpArgs false
open Go.ChangeShapes Go.WideShapes Go.ChangeAt Go.RowKit Go.Shelf Go.Sort
attribute [local go_sem] Oper.semAt_some
theorem root_dry {u : Wv} (ho : okS u = true) (c : Nat) : dryG u c 0 = false := by
  obtain ⟨h1, h2, h3, hF, hC⟩ := okS_fit ho
  obtain ⟨e, he, q0, _⟩ := gs_get (vs := u.gs) (k := 0) (by rw [hF.g8]; omega)
  have hu := root_used hF.tree
  rw [q0] at hu
  have hb := groups_at h2 he
  unfold groupB at hb
  rw [hu] at hb
  simp only [Bool.true_eq_false, if_false, Bool.and_eq_true] at hb
  have h4 := hb.1
  rw [decide_eq_false (by decide : ¬ (0 : Nat) ≠ 0), Bool.false_or] at h4
  unfold rootGB noBandB at h4
  simp only [Bool.and_eq_true, decide_eq_true_eq] at h4
  rw [dryG_at he]
  unfold dryB
  rw [decide_eq_false (by omega)]; rfl
theorem cells_lit1 {W : World} {x : Int} : (W.alloc (.cells #[.int .i64 x] 3)).ownsRow W.heap.size 3 1 (.slice (some ⟨W.heap.size, 0, none⟩) 1 1) 1 [.int .i64 x] :=
  World.ownsRow_lit (e := 3) (size := 1) W #[.int .i64 x] 1 (Nat.le_refl _) (by unfold maxLen; omega) rfl
theorem l9Groups_any (t g0 : Nat) (e : Tk) (u : Wv) (w : World) (hs : SlW w u) (ho : okS u = true) (he : u.ts[t]? = some e) (hg0 : e.gr = (g0 : Int)) (hg8 : g0 < 8) (hug : usAt (gsD u.gs) g0 = true) :
    Calls Tryz.prog 126 #[wvV u, .int .i64 (t : Int)] w fun e' w' => ∃ v, e' = .returned v ∧ RowI w' v (outs (gsD u.gs) g0 ++ [0]) ∧ Below w.heap.size w w' := by
  obtain ⟨i0, hi, hz0, hz1, hz2⟩ := info_parts info_int
  obtain ⟨p1, c1, p2, c2, p3, c3, e1, e2, e3, hl1, hl2, hl3⟩ := hs.forms
  have hv : wvV u = .agg #[.int .i64 u.now, .slice p1 u.cs.length c1, .slice p2 u.ts.length c2, .slice p3 u.gs.length c3] := by unfold wvV; rw [e1, e2, e3]
  obtain ⟨W1, hW1⟩ : ∃ W1, w.alloc (.cells #[.int .i64 u.now, .slice p1 u.cs.length c1, .slice p2 u.ts.length c2, .slice p3 u.gs.length c3] 33) = W1 := ⟨_, rfl⟩
  obtain ⟨hA, acc, lw⟩ := boxed_w hs e1 e2 e3 hW1
  have HS : Hid (SlW w u) := hs
  obtain ⟨HC, HTT, HCC, HGG⟩ := rows_at hA e1 e2 e3
  obtain ⟨o0, o1, o2, o3⟩ := HC.out _ (Below.refl _ _)
  have ACC : Hid (Below w.heap.size w W1) := acc
  obtain ⟨hF, hCP, hTF, hTG⟩ := okS_read ho
  have HL : Hid (u.ts.length = 12) := hF.nt
  have htl := (List.getElem?_eq_some_iff.1 he).1
  have htl' : (t : Int) < (u.ts.length : Int) := by omega
  have HTREE : Hid (treeB (gsD u.gs) = true) := hF.tree
  have HG8 : Hid (u.gs.length = 8) := hF.g8
  rw [hv]
  obtain ⟨tg, to, rfl, hr, ltg⟩ := HTT.out _ t e (Below.refl _ _) he
  obtain ⟨x0, x1, x2, x3, x4, x5, x6, x7, x8⟩ := tk_cells hr
  rw [hg0] at x1
  clear hr hA hs e1 e2 hv hF hCP hTF hTG ho acc x0 x2 x3 x4 x5 x6 x7 x8
  go_enter Tryz.func126, Tryz.ntmps126
  go_wp2
  have hown0 : (W1.alloc (.cells #[.int .i64 (g0 : Int)] 3)).ownsRow W1.heap.size 3 1 (.slice (some ⟨W1.heap.size, 0, none⟩) 1 1) 1 [.int .i64 (g0 : Int)] := cells_lit1
  clear o0 o1 o2 o3 x1
  go_loopw [5, 6] (fun c x wr => ∃ (j : Nat) (pre : List Nat) (v : Value), j < 8 ∧ usAt (gsD u.gs) j = true ∧ c = .int .i64 (j : Int) ∧ v = x ∧ outs (gsD u.gs) g0 = pre ++ outs (gsD u.gs) j ∧ pre.length + (depB (gsD u.gs) (j : Int)).toNat ≤ 3 ∧ 0 ≤ depB (gsD u.gs) (j : Int) ∧ wr.ownsRow W1.heap.size 3 1 v (pre ++ [j]).length (cellsN (pre ++ [j])) ∧ Below W1.heap.size W1 wr) (fun c _ _ => (depB (gsD u.gs) (intOf c)).toNat)
  case atStart =>
    rcases tree_step HTREE.out hg8 hug with ⟨rfl, hd⟩ | ⟨_, _, _, _, _, hd, hz, hd3⟩
    · exact ⟨0, [], _, hg8, hug, rfl, rfl, rfl, by rw [hd]; decide, by rw [hd]; decide, hown0, (Below.refl _ _).alloc (Nat.le_refl _) _⟩
    · exact ⟨g0, [], _, hg8, hug, rfl, rfl, rfl, by simp; omega, by omega, hown0, (Below.refl _ _).alloc (Nat.le_refl _) _⟩
  case round =>
    obtain ⟨j, pre, v, hj, huj, rfl, rfl, hx, hlen, hd0, hown, hb⟩ := hrel
    obtain ⟨o0, o1, o2, o3⟩ := HC.out _ hb
    have lwr : w.heap.size < wr.heap.size := Nat.lt_of_lt_of_le lw hb.size
    rcases tree_step HTREE.out hj huj with ⟨rfl, hd⟩ | ⟨hj0, j', hp, hj', huj', hd, hz, hd3⟩
    · have HX : Hid (outs (gsD u.gs) g0 = pre) := by unfold Hid; rw [hx, outs_root HTREE.out, List.append_nil]
      have HR : Hid (RowI wr v (outs (gsD u.gs) g0 ++ [0])) := by unfold Hid; rw [HX.out]; exact rowI_own hown
      clear hx hown hd hlen hd0
      simp only [Int.natCast_zero] at *
      go_wp2
      go_ret
      exact ⟨v, rfl, HR.out, ACC.out.trans (hb.mono ACC.out.size)⟩
    · have hj0' : ¬ (j : Int) = 0 := by omega
      have hjb : ((j : Int) != 0) = true := by simpa using hj0
      obtain ⟨eg, heg, _, q1, _⟩ := gs_get (vs := u.gs) (k := j) (by rw [HG8.out]; exact hj)
      obtain ⟨gg, go, rfl, hgr, lgg⟩ := HGG.out _ j eg hb heg
      obtain ⟨y0, y1, y2, y3, y4, y5, y6, y7, y8, y9, y10, y11, y12, y13⟩ := gv_cells hgr
      rw [← q1, hp] at y1
      have hjl : (j : Int) < (u.gs.length : Int) := by have := HG8.out; omega
      have hmx : (pre ++ [j]).length + 1 ≤ maxLen := by unfold maxLen; simp; omega
      have hb8 : ((pre ++ [j]).length + 1) * 8 ≤ 140737488355328 := by simp; omega
      have HX : Hid (outs (gsD u.gs) g0 = (pre ++ [j]) ++ outs (gsD u.gs) j') := by unfold Hid; rw [hx, outs_step hj0 hp hd hz]; simp
      have HD : Hid (depB (gsD u.gs) (j : Int) = depB (gsD u.gs) (j' : Int) + 1 ∧ 0 ≤ depB (gsD u.gs) (j' : Int) ∧ pre.length + (depB (gsD u.gs) (j : Int)).toNat ≤ 3) := ⟨hd, hz, hlen⟩
      have HJ : Hid (j' < 8 ∧ usAt (gsD u.gs) j' = true) := ⟨hj', huj'⟩
      obtain ⟨L, hL⟩ : ∃ L, pre ++ [j] = L := ⟨_, rfl⟩
      have HL2 : Hid (L.length = pre.length + 1) := by unfold Hid; rw [← hL]; simp
      rw [hL] at hown hmx hb8
      rw [hL] at HX
      clear hgr hp heg hx hd hz hd3 hlen hd0 y0 y2 y3 y4 y5 y6 y7 y8 y9 y10 y11 y12 y13 q1 hL hj' huj' hown0
      go_wp2_with (at_builtin; (refine wpList_append_own _ rfl _ _ 78 rfl W1.heap.size 3 i0 _ 1 8 Tryz.underlying78 hi hz0 hz1 hz2 rfl (by decide) _ _ _ rfl (hown.alloc _) ⟨wr.heap.size, 0, none⟩ 1 1 [.int .i64 (j' : Int)] rfl rfl (cell_one_new _ _ _) (fun x hx => by simp at hx; subst hx; rfl) hmx hb8 (by have := hb.size; simp; omega) ?_); intro v' w3 hown' hgrow3 hnil3)
      have hDD := HD.out
      refine ⟨⟨j', L, v', HJ.out.1, HJ.out.2, rfl, rfl, HX.out, by have := HL2.out; omega, hDD.2.1, ?_, ?_⟩, ?_⟩
      · rw [cellsN_app, List.length_append]; exact hown'
      · exact (hb.alloc hb.size _).grown hgrow3 (by have := hb.size; simp; omega) (fun k hk => (hown.lt k hk).1)
      · simp only [intOf]; omega
theorem outs_len {ds : List Gr} (ht : treeB ds = true) : ∀ {g : Nat}, g < 8 → usAt ds g = true → (outs ds g).length ≤ 3 := by
  have key : ∀ (n g : Nat), (depB ds (g : Int)).toNat = n → g < 8 → usAt ds g = true → (outs ds g).length = n := by
    intro n
    induction n with
    | zero =>
      intro g hn hg hu
      rcases tree_step ht hg hu with ⟨rfl, _⟩ | ⟨_, _, _, _, _, h2, h3, _⟩
      · rw [outs_root ht]; rfl
      · omega
    | succ n ih =>
      intro g hn hg hu
      rcases tree_step ht hg hu with ⟨rfl, hd⟩ | ⟨h0, j, hp, hj, huj, hd, hz, _⟩
      · rw [hd] at hn; cases hn
      · rw [outs_step h0 hp hd hz, List.length_cons, ih j (by omega) hj huj]
  intro g hg hu
  rw [key _ g rfl hg hu]
  rcases tree_step ht hg hu with ⟨rfl, hd⟩ | ⟨_, _, _, _, _, h2, h3, h4⟩
  · rw [hd]; decide
  · omega
theorem scould_state (c t g0 c' : Nat) (st ni ma v su us lo : Int) (x : Cp) (u : Wv) (w : World) (hs : SlW w u) (ho : okS u = true) (hc : c < u.cs.length) (he : u.ts[t]? = some ⟨st, (g0 : Int), (c' : Int), ni, ma, v, su, us, lo⟩) (hg8 : g0 < 8) (hug : usAt (gsD u.gs) g0 = true) (hc' : c' < u.cs.length) (hx : u.cs[c']? = some x) (hst : st ≠ 1) :
    Calls Tryz.prog 82 #[wvV u, .int .i64 (t : Int), .int .i64 (c : Int)] w fun e' w' => e' = .returned (.bool (couldB u c t)) ∧ Below w.heap.size w w' := by
  obtain ⟨p1, c1, p2, c2, p3, c3, e1, e2, e3, hl1, hl2, hl3⟩ := hs.forms
  have hv : wvV u = .agg #[.int .i64 u.now, .slice p1 u.cs.length c1, .slice p2 u.ts.length c2, .slice p3 u.gs.length c3] := by unfold wvV; rw [e1, e2, e3]
  obtain ⟨W1, hW1⟩ : ∃ W1, w.alloc (.cells #[.int .i64 u.now, .slice p1 u.cs.length c1, .slice p2 u.ts.length c2, .slice p3 u.gs.length c3] 33) = W1 := ⟨_, rfl⟩
  obtain ⟨hA, acc, lw⟩ := boxed_w hs e1 e2 e3 hW1
  have HS : Hid (SlW w u) := hs
  obtain ⟨HC, HTT, HCC, HGG⟩ := rows_at hA e1 e2 e3
  obtain ⟨o0, o1, o2, o3⟩ := HC.out _ (Below.refl _ _)
  have ACC : Hid (Below w.heap.size w W1) := acc
  obtain ⟨hF, hCP, hTF, hTG⟩ := okS_read ho
  have HL : Hid (u.ts.length = 12) := hF.nt
  have htl := (List.getElem?_eq_some_iff.1 he).1
  have htl' : (t : Int) < (u.ts.length : Int) := by omega
  have hcl' : (c' : Int) < (u.cs.length : Int) := by omega
  have hcb := couldB_at (c := c) he
  dsimp only at hcb
  rw [Int.toNat_natCast, Int.toNat_natCast] at hcb
  have HR : Hid (couldB u c t = false) := by unfold Hid; rw [hcb]; cases h : inlineB (gsD u.gs) st g0 c'; simp; exact absurd (inline_ready h) hst
  have hsb : (st != 1) = true := by simpa using hst
  obtain ⟨tg, to, rfl, hr, ltg⟩ := HTT.out _ t _ (Below.refl _ _) he
  obtain ⟨x0, x1, x2, x3, x4, x5, x6, x7, x8⟩ := tk_cells hr
  dsimp only at x0 x1 x2 x3 x4 x5 x6 x7 x8
  obtain ⟨cg, co, rfl, hcr, lcg⟩ := HCC.out _ c' x (Below.refl _ _) hx
  obtain ⟨y0, y1, y2, y3, y4⟩ := cp_cells hcr
  obtain ⟨W2, hW2⟩ : ∃ W2, W1.alloc (.cells #[.int .i64 st, .int .i64 (g0 : Int), .int .i64 (c' : Int), .int .i64 ni, .int .i64 ma, .int .i64 v, .int .i64 su, .int .i64 us, .int .i64 lo] 68) = W2 := ⟨_, rfl⟩
  have B2 : Below W1.heap.size W1 W2 := by rw [← hW2]; exact (Below.refl _ _).alloc (Nat.le_refl _) _
  have hl2' : W1.heap.size < W2.heap.size := by rw [← hW2]; simp
  have htk := range_of_block (cs := [.int .i64 st, .int .i64 (g0 : Int), .int .i64 (c' : Int), .int .i64 ni, .int .i64 ma, .int .i64 v, .int .i64 su, .int .i64 us, .int .i64 lo]) (show W2.heap[W1.heap.size]? = _ by rw [← hW2]; exact heap_alloc_new W1 _)
  have n0 : W2.cell? ⟨W1.heap.size, 0, none⟩ = some (.int .i64 st) := by simpa using htk 0 _ rfl
  have n1 : W2.cell? ⟨W1.heap.size, 1, none⟩ = some (.int .i64 (g0 : Int)) := by simpa using htk 1 _ rfl
  have n2 : W2.cell? ⟨W1.heap.size, 2, none⟩ = some (.int .i64 (c' : Int)) := by simpa using htk 2 _ rfl
  have n4 : W2.cell? ⟨W1.heap.size, 4, none⟩ = some (.int .i64 ma) := by simpa using htk 4 _ rfl
  have HCELL : Hid (∀ W, Below W2.heap.size W2 W → W.cell? ⟨w.heap.size, 0, none⟩ = some (.int .i64 u.now) ∧ W.cell? ⟨w.heap.size, 1, none⟩ = some (.slice (some ⟨cg, co, none⟩) u.cs.length c1) ∧ W.cell? ⟨w.heap.size, 2, none⟩ = some (.slice (some ⟨tg, to, none⟩) u.ts.length c2) ∧ W.cell? ⟨w.heap.size, 3, none⟩ = some (.slice p3 u.gs.length c3) ∧ W.cell? ⟨W1.heap.size, 0, none⟩ = some (.int .i64 st) ∧ W.cell? ⟨W1.heap.size, 1, none⟩ = some (.int .i64 (g0 : Int)) ∧ W.cell? ⟨W1.heap.size, 2, none⟩ = some (.int .i64 (c' : Int)) ∧ W.cell? ⟨W1.heap.size, 4, none⟩ = some (.int .i64 ma) ∧ W.cell? ⟨cg, co + c' * 5 + 1, none⟩ = some (.int .i64 x.cur) ∧ SlW W u ∧ Below w.heap.size w W) := by
    intro W hW
    have h1 := B2.trans (hW.mono B2.size)
    obtain ⟨a0, a1, a2, a3⟩ := HC.out _ h1
    exact ⟨a0, a1, a2, a3, (hW.cell (p := ⟨W1.heap.size, 0, none⟩) hl2').trans n0, (hW.cell (p := ⟨W1.heap.size, 1, none⟩) hl2').trans n1, (hW.cell (p := ⟨W1.heap.size, 2, none⟩) hl2').trans n2, (hW.cell (p := ⟨W1.heap.size, 4, none⟩) hl2').trans n4, (h1.cell (p := ⟨cg, co + c' * 5 + 1, none⟩) lcg).trans y1, HS.out.below (ACC.out.trans (h1.mono ACC.out.size)), ACC.out.trans (h1.mono ACC.out.size)⟩
  obtain ⟨d0, d1, d2, d3, m0, m1, m2, m4, mc, _, _⟩ := HCELL.out _ (Below.refl _ _)
  rw [hv]
  clear hr hcr hA hs e1 e2 e3 hF hCP hTF hTG acc n0 n1 n2 n4 htk y0 y1 y2 y3 y4 B2 hx he
  go_enter Tryz.func82, Tryz.ntmps82
  go_wp2_with fail
  go_ret
  exact ⟨by rw [HR.out] <;> rfl, (HCELL.out _ (Below.refl _ _)).2.2.2.2.2.2.2.2.2.2⟩
theorem scould_one (c t g0 c' : Nat) (ni ma v su us lo : Int) (x : Cp) (u : Wv) (w : World) (hs : SlW w u) (ho : okS u = true) (hc : c < u.cs.length) (he : u.ts[t]? = some ⟨1, (g0 : Int), (c' : Int), ni, ma, v, su, us, lo⟩) (hg8 : g0 < 8) (hug : usAt (gsD u.gs) g0 = true) (hc' : c' < u.cs.length) (hx : u.cs[c']? = some x) (hwm : whereS u.cs (gsD u.gs) g0 ma = whereM u.cs (gsD u.gs) g0 ma) :
    Calls Tryz.prog 82 #[wvV u, .int .i64 (t : Int), .int .i64 (c : Int)] w fun e' w' => e' = .returned (.bool (couldB u c t)) ∧ Below w.heap.size w w' := by
  obtain ⟨p1, c1, p2, c2, p3, c3, e1, e2, e3, hl1, hl2, hl3⟩ := hs.forms
  have hv : wvV u = .agg #[.int .i64 u.now, .slice p1 u.cs.length c1, .slice p2 u.ts.length c2, .slice p3 u.gs.length c3] := by unfold wvV; rw [e1, e2, e3]
  obtain ⟨W1, hW1⟩ : ∃ W1, w.alloc (.cells #[.int .i64 u.now, .slice p1 u.cs.length c1, .slice p2 u.ts.length c2, .slice p3 u.gs.length c3] 33) = W1 := ⟨_, rfl⟩
  obtain ⟨hA, acc, lw⟩ := boxed_w hs e1 e2 e3 hW1
  have HS : Hid (SlW w u) := hs
  obtain ⟨HC, HTT, HCC, HGG⟩ := rows_at hA e1 e2 e3
  obtain ⟨o0, o1, o2, o3⟩ := HC.out _ (Below.refl _ _)
  have ACC : Hid (Below w.heap.size w W1) := acc
  obtain ⟨hF, hCP, hTF, hTG⟩ := okS_read ho
  have HL : Hid (u.ts.length = 12) := hF.nt
  have htl := (List.getElem?_eq_some_iff.1 he).1
  have htl' : (t : Int) < (u.ts.length : Int) := by omega
  have hcl' : (c' : Int) < (u.cs.length : Int) := by omega
  have hcb := couldB_at (c := c) he
  dsimp only at hcb
  rw [Int.toNat_natCast, Int.toNat_natCast] at hcb
  have HG2 : Hid (∀ W, SlW W u → Calls Tryz.prog 49 #[.agg #[.int .i64 u.now, .slice p1 u.cs.length c1, .slice p2 u.ts.length c2, .slice p3 u.gs.length c3], .int .i64 (t : Int)] W fun e' w' => e' = .returned (.bool (inlineB (gsD u.gs) 1 g0 c')) ∧ Below W.heap.size W w') := fun W hW => by
    have h0 := l8InLine_any t g0 c' u _ W hW hF.tree he hg8 hug (hF.ok hc') rfl rfl
    rw [hv] at h0; exact h0
  have HW2 : Hid (∀ W, SlW W u → Calls Tryz.prog 103 #[.agg #[.int .i64 u.now, .slice p1 u.cs.length c1, .slice p2 u.ts.length c2, .slice p3 u.gs.length c3], .int .i64 (g0 : Int), .int .i64 ma] W fun e' w' => e' = .returned (.int .i64 (whereM u.cs (gsD u.gs) g0 ma)) ∧ Below W.heap.size W w') := fun W hW => by
    have h0 := l8Where_any g0 ma u W hW hF.n4 hF.tree hg8 hug
    rw [hwm, hv] at h0; exact h0
  have HRD : Hid (dryG u c 0 = false) := root_dry ho c
  have HOL : Hid ((outs (gsD u.gs) g0 ++ [0]).length ≤ 4) := by have := outs_len hF.tree hg8 hug; unfold Hid; simp; omega
  have HGR : Hid (∀ W, SlW W u → Calls Tryz.prog 126 #[.agg #[.int .i64 u.now, .slice p1 u.cs.length c1, .slice p2 u.ts.length c2, .slice p3 u.gs.length c3], .int .i64 (t : Int)] W fun e' w' => ∃ v, e' = .returned v ∧ RowI w' v (outs (gsD u.gs) g0 ++ [0]) ∧ Below W.heap.size W w') := fun W hW => by
    have h0 := l9Groups_any t g0 _ u W hW ho he rfl hg8 hug
    rw [hv] at h0; exact h0
  have HDRY : Hid (∀ (y : Nat), y ∈ outs (gsD u.gs) g0 ++ [0] → ∀ W, SlW W u → Calls Tryz.prog 106 #[.agg #[.int .i64 u.now, .slice p1 u.cs.length c1, .slice p2 u.ts.length c2, .slice p3 u.gs.length c3], .int .i64 (y : Int), .int .i64 (c : Int)] W fun e' w' => e' = .returned (.bool (dryG u c y)) ∧ Below W.heap.size W w') := fun y hy W hW => by
    have h8 : y < 8 := by
      rcases List.mem_append.1 hy with hm | hm
      · exact (outs_used hF.tree hg8 hug hm).1
      · obtain rfl : y = 0 := by simpa using hm
        omega
    obtain ⟨eg, heg, _⟩ := gs_get (vs := u.gs) (k := y) (by rw [hF.g8]; exact h8)
    rw [dryG_at heg]
    have h0 := l8Dry_any y c u eg W hW heg (fun hq => by rw [hF.dr y eg heg hq]; exact hc)
    rw [hv] at h0; exact h0
  obtain ⟨il, hil⟩ : ∃ b, inlineB (gsD u.gs) 1 g0 c' = b := ⟨_, rfl⟩
  obtain ⟨hs9, hhs⟩ : ∃ b, Msk.hasB (whereM u.cs (gsD u.gs) g0 ma) (c : Int) = b := ⟨_, rfl⟩
  have HCB : Hid (couldB u c t = (decide ((c' : Int) ≠ (c : Int)) && (il && (decide (x.cur ≠ (t : Int)) && (hs9 && (outs (gsD u.gs) g0).all fun g => !dryG u c g))))) := by unfold Hid; rw [hcb, curAt_at hx, hil, hhs]
  have HHS : Hid (Msk.hasB (whereM u.cs (gsD u.gs) g0 ma) (c : Int) = hs9) := hhs
  rw [hil] at HG2
  clear hcb hil hhs
  obtain ⟨tg, to, rfl, hr, ltg⟩ := HTT.out _ t _ (Below.refl _ _) he
  obtain ⟨x0, x1, x2, x3, x4, x5, x6, x7, x8⟩ := tk_cells hr
  dsimp only at x0 x1 x2 x3 x4 x5 x6 x7 x8
  obtain ⟨cg, co, rfl, hcr, lcg⟩ := HCC.out _ c' x (Below.refl _ _) hx
  obtain ⟨y0, y1, y2, y3, y4⟩ := cp_cells hcr
  obtain ⟨W2, hW2⟩ : ∃ W2, W1.alloc (.cells #[.int .i64 1, .int .i64 (g0 : Int), .int .i64 (c' : Int), .int .i64 ni, .int .i64 ma, .int .i64 v, .int .i64 su, .int .i64 us, .int .i64 lo] 68) = W2 := ⟨_, rfl⟩
  have B2 : Below W1.heap.size W1 W2 := by rw [← hW2]; exact (Below.refl _ _).alloc (Nat.le_refl _) _
  have hl2' : W1.heap.size < W2.heap.size := by rw [← hW2]; simp
  have htk := range_of_block (cs := [.int .i64 1, .int .i64 (g0 : Int), .int .i64 (c' : Int), .int .i64 ni, .int .i64 ma, .int .i64 v, .int .i64 su, .int .i64 us, .int .i64 lo]) (show W2.heap[W1.heap.size]? = _ by rw [← hW2]; exact heap_alloc_new W1 _)
  have n0 : W2.cell? ⟨W1.heap.size, 0, none⟩ = some (.int .i64 1) := by simpa using htk 0 _ rfl
  have n1 : W2.cell? ⟨W1.heap.size, 1, none⟩ = some (.int .i64 (g0 : Int)) := by simpa using htk 1 _ rfl
  have n2 : W2.cell? ⟨W1.heap.size, 2, none⟩ = some (.int .i64 (c' : Int)) := by simpa using htk 2 _ rfl
  have n4 : W2.cell? ⟨W1.heap.size, 4, none⟩ = some (.int .i64 ma) := by simpa using htk 4 _ rfl
  have HCELL : Hid (∀ W, Below W2.heap.size W2 W → W.cell? ⟨w.heap.size, 0, none⟩ = some (.int .i64 u.now) ∧ W.cell? ⟨w.heap.size, 1, none⟩ = some (.slice (some ⟨cg, co, none⟩) u.cs.length c1) ∧ W.cell? ⟨w.heap.size, 2, none⟩ = some (.slice (some ⟨tg, to, none⟩) u.ts.length c2) ∧ W.cell? ⟨w.heap.size, 3, none⟩ = some (.slice p3 u.gs.length c3) ∧ W.cell? ⟨W1.heap.size, 0, none⟩ = some (.int .i64 1) ∧ W.cell? ⟨W1.heap.size, 1, none⟩ = some (.int .i64 (g0 : Int)) ∧ W.cell? ⟨W1.heap.size, 2, none⟩ = some (.int .i64 (c' : Int)) ∧ W.cell? ⟨W1.heap.size, 4, none⟩ = some (.int .i64 ma) ∧ W.cell? ⟨cg, co + c' * 5 + 1, none⟩ = some (.int .i64 x.cur) ∧ SlW W u ∧ Below w.heap.size w W) := by
    intro W hW
    have h1 := B2.trans (hW.mono B2.size)
    obtain ⟨a0, a1, a2, a3⟩ := HC.out _ h1
    exact ⟨a0, a1, a2, a3, (hW.cell (p := ⟨W1.heap.size, 0, none⟩) hl2').trans n0, (hW.cell (p := ⟨W1.heap.size, 1, none⟩) hl2').trans n1, (hW.cell (p := ⟨W1.heap.size, 2, none⟩) hl2').trans n2, (hW.cell (p := ⟨W1.heap.size, 4, none⟩) hl2').trans n4, (h1.cell (p := ⟨cg, co + c' * 5 + 1, none⟩) lcg).trans y1, HS.out.below (ACC.out.trans (h1.mono ACC.out.size)), ACC.out.trans (h1.mono ACC.out.size)⟩
  obtain ⟨d0, d1, d2, d3, m0, m1, m2, m4, mc, hsw0, _⟩ := HCELL.out _ (Below.refl _ _)
  rw [hv]
  clear hr hcr hA hs e1 e2 e3 hF hCP hTF hTG acc n0 n1 n2 n4 htk y0 y1 y2 y3 y4 B2 hx he
  by_cases hh : (c' : Int) = (c : Int)
  · rw [hh] at m2
    have HR : Hid (couldB u c t = false) := by unfold Hid; rw [HCB.out, hh]; simp
    clear hh
    go_enter Tryz.func82, Tryz.ntmps82
    go_wp2_with fail
    go_ret
    exact ⟨by rw [HR.out] <;> rfl, (HCELL.out _ (Below.refl _ _)).2.2.2.2.2.2.2.2.2.2⟩
  · have hne : ((c' : Int) == (c : Int)) = false := by simpa using hh
    by_cases hcu : x.cur = (t : Int)
    · have HR : Hid (couldB u c t = false) := by unfold Hid; rw [HCB.out, hcu]; simp
      rw [hcu] at mc
      clear hcu
      go_enter Tryz.func82, Tryz.ntmps82
      go_wp2_with fail
      go_ret
      exact ⟨by rw [HR.out] <;> rfl, (HCELL.out _ (Below.refl _ _)).2.2.2.2.2.2.2.2.2.2⟩
    · have hcn : (x.cur == (t : Int)) = false := by simpa using hcu
      cases il
      · have HR : Hid (couldB u c t = false) := by unfold Hid; rw [HCB.out]; simp
        go_enter Tryz.func82, Tryz.ntmps82
        go_wp2_with (go_at_call 49; refine (HG2.out _ (HCELL.out _ (Below.refl _ _)).2.2.2.2.2.2.2.2.2.1).mono ?_; rintro e1 V1 ⟨rfl, hb1⟩; have hbx := hb1; obtain ⟨d0, d1, d2, d3, m0, m1, m2, m4, mc, hsw, _⟩ := HCELL.out _ hbx)
        go_ret
        exact ⟨by rw [HR.out] <;> rfl, (HCELL.out _ hbx).2.2.2.2.2.2.2.2.2.2⟩
      · cases hs9
        · have HR : Hid (couldB u c t = false) := by unfold Hid; rw [HCB.out]; simp
          go_enter Tryz.func82, Tryz.ntmps82
          go_wp2_with (first | (go_at_call 49; refine (HG2.out _ (HCELL.out _ (Below.refl _ _)).2.2.2.2.2.2.2.2.2.1).mono ?_; rintro e1 V1 ⟨rfl, hb1⟩; have hbx := hb1; obtain ⟨d0, d1, d2, d3, m0, m1, m2, m4, mc, hsw, _⟩ := HCELL.out _ hbx) | (go_at_call 103; refine (HW2.out _ hsw).mono ?_; rintro e2 V2 ⟨rfl, hb2⟩; have hby := hbx.trans (hb2.mono hbx.size); obtain ⟨d0, d1, d2, d3, m0, m1, m2, m4, mc, hsw, _⟩ := HCELL.out _ hby) | (go_at_call 87; refine (Msk.spec_has _ _ _).mono ?_; rintro e3 V3 ⟨rfl, hv3⟩; subst V3; rw [HHS.out]))
          go_ret
          exact ⟨by rw [HR.out] <;> rfl, (HCELL.out _ hby).2.2.2.2.2.2.2.2.2.2⟩
        · have HNN : Hid ((c' : Int) ≠ (c : Int)) := hh
          have HCN : Hid (x.cur ≠ (t : Int)) := hcu
          go_enter Tryz.func82, Tryz.ntmps82
          go_wp2_with (first | (go_at_call 49; refine (HG2.out _ (HCELL.out _ (Below.refl _ _)).2.2.2.2.2.2.2.2.2.1).mono ?_; rintro e1 V1 ⟨rfl, hb1⟩; have hbx := hb1; obtain ⟨d0, d1, d2, d3, m0, m1, m2, m4, mc, hsw, _⟩ := HCELL.out _ hbx) | (go_at_call 103; refine (HW2.out _ hsw).mono ?_; rintro e2 V2 ⟨rfl, hb2⟩; have hby := hbx.trans (hb2.mono hbx.size); obtain ⟨d0, d1, d2, d3, m0, m1, m2, m4, mc, hsw, _⟩ := HCELL.out _ hby) | (go_at_call 87; refine (Msk.spec_has _ _ _).mono ?_; rintro e3 V3 ⟨rfl, hv3⟩; subst V3; rw [HHS.out]) | (go_at_call 126; refine (HGR.out _ hsw).mono ?_; rintro e4 V4 ⟨pv, rfl, hrw, hb4⟩; have hbz := hby.trans (hb4.mono hby.size); obtain ⟨d0, d1, d2, d3, m0, m1, m2, m4, mc, hsw, _⟩ := HCELL.out _ hbz))
          obtain ⟨pp, pcap, rfl, hrow⟩ := hrw
          have HROW : Hid (∀ (i x : Nat), (outs (gsD u.gs) g0 ++ [0])[i]? = some x → ∃ g o, pp = some ⟨g, o, none⟩ ∧ V4.cell? ⟨g, o + i, none⟩ = some (.int .i64 (x : Int))) := hrow
          clear hrow d0 d1 d2 d3 m0 m1 m2 m4 mc
          obtain ⟨PL, hPL⟩ : ∃ l, outs (gsD u.gs) g0 ++ [0] = l := ⟨_, rfl⟩
          have HPL : Hid (outs (gsD u.gs) g0 ++ [0] = PL) := hPL
          have hpl : PL.length ≤ 4 := by rw [← hPL]; exact HOL.out
          rw [hPL] at HROW
          rw [hPL]
          go_loopw [9] (fun i wr => ∃ k : Nat, k ≤ PL.length ∧ i = .int .i64 (k : Int) ∧ (∀ (j x : Nat), j < k → PL[j]? = some x → dryG u c x = false) ∧ Below V4.heap.size V4 wr) (fun i _ => PL.length - (intOf i).toNat)
          case atStart => exact ⟨0, Nat.zero_le _, rfl, fun j x hj => absurd hj (Nat.not_lt_zero _), Below.refl _ _⟩
          case round =>
            obtain ⟨k, hk, rfl, hno, hb⟩ := hrel
            have hbz' := hbz.trans (hb.mono hbz.size)
            obtain ⟨d0, d1, d2, d3, m0, m1, m2, m4, mc, hsw, _⟩ := HCELL.out _ hbz'
            have HNO : Hid (∀ (j x : Nat), j < k → PL[j]? = some x → dryG u c x = false) := hno
            clear hno
            by_cases hlt : k < PL.length
            · have hlt' : (k : Int) < (PL.length : Int) := by omega
              obtain ⟨y, hy⟩ : ∃ y, PL[k]? = some y := ⟨_, List.getElem?_eq_getElem hlt⟩
              obtain ⟨rg, ro, rfl, hcell⟩ := HROW.out k y hy
              have hcell := (hb.cell (p := ⟨rg, ro + k, none⟩) (block_lt_of_cell hcell)).trans hcell
              have HY : Hid (PL[k]? = some y) := hy
              have HLT : Hid (k < PL.length) := hlt
              have hq := HDRY.out y (by rw [HPL.out]; exact List.mem_of_getElem? hy)
              clear hy hlt
              have i0' := cell_regrown d0
              have i1' := cell_regrown d1
              have i2' := cell_regrown d2
              have i3' := cell_regrown d3
              have ic' := cell_regrown hcell
              have HSW : Hid (SlW wr u) := hsw
              cases hd : dryG u c y
              · rw [hd] at hq
                have cD : ∀ d os, Calls Tryz.prog 106 #[.agg #[.int .i64 u.now, .slice (some ⟨cg, co, none⟩) u.cs.length c1, .slice (some ⟨tg, to, none⟩) u.ts.length c2, .slice p3 u.gs.length c3], .int .i64 (y : Int), .int .i64 (c : Int)] (grow (redrawn wr d) os) fun e' w'' => e' = .returned (.bool false) ∧ ∃ p : Regrown, w'' = grow (redrawn wr p.d) p.os := fun d os => Calls.regrown_of (hq _ (HSW.out.below (below_regrown wr d os)))
                clear hq hsw
                go_wp2
                refine wp_region_quiet_below (by kernel_rfl) (by kernel_rfl) ?_
                repeat (go_big_quiet_step (exact cD _ _))
                refine wpQuiet_nil ?_
                rintro _ ⟨⟨dq, osq⟩, rfl⟩
                go_wp2
                refine ⟨⟨k + 1, HLT.out, by go_num, fun j x hj hx' => ?_, hb.trans ((below_regrown wr dq osq).mono hb.size)⟩, by simp [intOf]; omega⟩
                rcases Nat.lt_succ_iff_lt_or_eq.1 hj with h | rfl
                · exact HNO.out j x h hx'
                · have := HY.out
                  rw [hx'] at this
                  obtain rfl := Option.some.inj this
                  exact hd
              · rw [hd] at hq
                have HR : Hid (couldB u c t = false) := by
                  unfold Hid
                  rw [← Bool.not_eq_true, HCB.out]
                  intro hal
                  simp only [Bool.and_eq_true, List.all_eq_true] at hal
                  have hm : y ∈ outs (gsD u.gs) g0 ++ [0] := by rw [HPL.out]; exact List.mem_of_getElem? HY.out
                  rcases List.mem_append.1 hm with hm | hm
                  · have := hal.2.2.2.2 y hm
                    rw [hd] at this; cases this
                  · obtain rfl : y = 0 := by simpa using hm
                    rw [HRD.out] at hd; cases hd
                have cD : ∀ d os, Calls Tryz.prog 106 #[.agg #[.int .i64 u.now, .slice (some ⟨cg, co, none⟩) u.cs.length c1, .slice (some ⟨tg, to, none⟩) u.ts.length c2, .slice p3 u.gs.length c3], .int .i64 (y : Int), .int .i64 (c : Int)] (grow (redrawn wr d) os) fun e' w'' => e' = .returned (.bool true) ∧ ∃ p : Regrown, w'' = grow (redrawn wr p.d) p.os := fun d os => Calls.regrown_of (hq _ (HSW.out.below (below_regrown wr d os)))
                clear hq hsw
                go_wp2
                refine wp_region_quiet_below (by kernel_rfl) (by kernel_rfl) ?_
                repeat (go_big_quiet_step (exact cD _ _))
                refine wpQuiet_nil ?_
                rintro _ ⟨⟨dq, osq⟩, rfl⟩
                go_wp2
                go_ret
                exact ⟨by rw [HR.out] <;> rfl, (HCELL.out _ (hbz'.trans ((below_regrown wr dq osq).mono hbz'.size))).2.2.2.2.2.2.2.2.2.2⟩
            · have hlt' : ¬ (k : Int) < (PL.length : Int) := by omega
              have HR : Hid (couldB u c t = true) := by
                unfold Hid
                rw [HCB.out]
                simp only [Bool.and_eq_true, List.all_eq_true]
                refine ⟨decide_eq_true HNN.out, trivial, decide_eq_true HCN.out, trivial, fun y hy => ?_⟩
                have hm : y ∈ PL := by rw [← HPL.out]; exact List.mem_append.2 (.inl hy)
                obtain ⟨j, hj, hjy⟩ := List.getElem_of_mem hm
                have := HNO.out j y (by omega) (by rw [← hjy]; exact List.getElem?_eq_getElem hj)
                rw [this]; rfl
              clear hlt
              go_wp2
              go_ret
              exact ⟨by rw [HR.out] <;> rfl, (HCELL.out _ hbz').2.2.2.2.2.2.2.2.2.2⟩
theorem l12Could_any (c t : Nat) (e : Tk) (u : Wv) (w : World) (hs : SlW w u) (ho : okS u = true) (hc : c < u.cs.length) (he : u.ts[t]? = some e) :
    Calls Tryz.prog 82 #[wvV u, .int .i64 (t : Int), .int .i64 (c : Int)] w fun e' w' => e' = .returned (.bool (couldB u c t)) ∧ Below w.heap.size w w' := by
  obtain ⟨g, c', hg, hg8, hug, hcc, hcl, hset⟩ := task_is ho he
  obtain ⟨st, gr, cpu, ni, ma, v, su, us, lo⟩ := e
  dsimp only at hg hcc hset
  subst hg hcc
  obtain ⟨x, hx⟩ := row_get hcl
  by_cases hst : st = 1
  · subst hst
    exact scould_one c t g c' ni ma v su us lo x u w hs ho hc he hg8 hug hcl hx (hset (by omega)).2
  · exact scould_state c t g c' st ni ma v su us lo x u w hs ho hc he hg8 hug hcl hx hst
theorem bestTo_succ (u : Wv) (c : Nat) (m : Int) (k : Nat) : bestTo u c m (k + 1) = if (Msk.hasB m (k : Int) && (giveB u c k && (decide (bestTo u c m k < 0) || decide (loadN u (bestTo u c m k).toNat < loadN u k)))) = true then (k : Int) else bestTo u c m k := rfl
theorem l12Busiest_any (c : Nat) (m : Int) (u : Wv) (w : World) (hs : SlW w u) (ho : okS u = true) (hc : c < u.cs.length) :
    Calls Tryz.prog 52 #[wvV u, .int .i64 m, .int .i64 (c : Int)] w fun e' w' => e' = .returned (.int .i64 (bestM u c m)) ∧ Below w.heap.size w w' := by
  obtain ⟨p1, c1, p2, c2, p3, c3, e1, e2, e3, hl1, hl2, hl3⟩ := hs.forms
  have hv : wvV u = .agg #[.int .i64 u.now, .slice p1 u.cs.length c1, .slice p2 u.ts.length c2, .slice p3 u.gs.length c3] := by unfold wvV; rw [e1, e2, e3]
  obtain ⟨W1, hW1⟩ : ∃ W1, w.alloc (.cells #[.int .i64 u.now, .slice p1 u.cs.length c1, .slice p2 u.ts.length c2, .slice p3 u.gs.length c3] 33) = W1 := ⟨_, rfl⟩
  obtain ⟨hA, acc, lw⟩ := boxed_w hs e1 e2 e3 hW1
  have HS : Hid (SlW w u) := hs
  obtain ⟨HC, HTT, HCC, HGG⟩ := rows_at hA e1 e2 e3
  obtain ⟨o0, o1, o2, o3⟩ := HC.out _ (Below.refl _ _)
  have ACC : Hid (Below w.heap.size w W1) := acc
  obtain ⟨hF, hCP, hTF, hTG⟩ := okS_read ho
  have HL : Hid (u.ts.length = 12) := hF.nt
  have hn4 := hF.n4
  have hI : ∀ (t : Nat) (e : Tk), u.ts[t]? = some e → ∀ W, SlW W u → Calls Tryz.prog 82 #[wvV u, .int .i64 (t : Int), .int .i64 (c : Int)] W fun e' w' => e' = .returned (.bool (couldB u c t)) ∧ Below W.heap.size W w' := fun t e he W hW => l12Could_any c t e u W hW ho hc he
  have hL : ∀ (b : Nat), b < u.cs.length → ∀ W, SlW W u → Calls Tryz.prog 34 #[wvV u, .int .i64 (b : Int)] W fun e' w' => e' = .returned (.int .i64 (loadN u b)) ∧ Below W.heap.size W w' := fun b hb W hW => l12Load_any b u W hW ho hb
  rw [hv] at hI hL ⊢
  have HI : Hid (∀ (t : Nat) (e : Tk), u.ts[t]? = some e → ∀ W, SlW W u → Calls Tryz.prog 82 #[.agg #[.int .i64 u.now, .slice p1 u.cs.length c1, .slice p2 u.ts.length c2, .slice p3 u.gs.length c3], .int .i64 (t : Int), .int .i64 (c : Int)] W fun e' w' => e' = .returned (.bool (couldB u c t)) ∧ Below W.heap.size W w') := hI
  have HLD : Hid (∀ (b : Nat), b < u.cs.length → ∀ W, SlW W u → Calls Tryz.prog 34 #[.agg #[.int .i64 u.now, .slice p1 u.cs.length c1, .slice p2 u.ts.length c2, .slice p3 u.gs.length c3], .int .i64 (b : Int)] W fun e' w' => e' = .returned (.int .i64 (loadN u b)) ∧ Below W.heap.size W w') := hL
  clear hA hs e1 e2 e3 hv hI hL hF hCP hTF hTG ho acc
  go_enter Tryz.func52, Tryz.ntmps52
  go_wp2
  clear o0 o1 o2 o3
  go_loopw [7, 8] (fun x t wr => ∃ k : Nat, k ≤ u.cs.length ∧ x = .int .i64 (bestTo u c m k) ∧ t = .int .i64 (k : Int) ∧ Below W1.heap.size W1 wr) (fun _ t _ => u.cs.length - (intOf t).toNat)
  case atStart => exact ⟨0, Nat.zero_le _, rfl, rfl, Below.refl _ _⟩
  case round =>
    obtain ⟨k, hk, rfl, rfl, hb⟩ := hrel
    obtain ⟨q0, q1, q2, q3⟩ := HC.out _ hb
    have lwr : w.heap.size < wr.heap.size := Nat.lt_of_lt_of_le lw hb.size
    by_cases hlt : k < u.cs.length
    · have hlt' : (k : Int) < (u.cs.length : Int) := by omega
      have HLT : Hid (k < u.cs.length) := hlt
      have HSW : Hid (SlW wr u) := HS.out.below (ACC.out.trans (hb.mono ACC.out.size))
      have hqk := HLD.out k hlt
      have cK : ∀ d os, Calls Tryz.prog 34 #[.agg #[.int .i64 u.now, .slice p1 u.cs.length c1, .slice p2 u.ts.length c2, .slice p3 u.gs.length c3], .int .i64 (k : Int)] (grow (redrawn wr d) os) fun e' w'' => e' = .returned (.int .i64 (loadN u k)) ∧ ∃ p : Regrown, w'' = grow (redrawn wr p.d) p.os := fun d os => Calls.regrown_of (hqk _ (HSW.out.below (below_regrown wr d os)))
      have cB := cK
      have cH : ∀ d os, Calls Tryz.prog 87 #[.int .i64 m, .int .i64 (k : Int)] (grow (redrawn wr d) os) fun e' w'' => e' = .returned (.bool (Msk.hasB m (k : Int))) ∧ ∃ p : Regrown, w'' = grow (redrawn wr p.d) p.os := fun d os => Calls.regrown_of ((Msk.spec_has m (k : Int) _).mono fun e' w' h => ⟨h.1, h.2 ▸ Below.refl _ _⟩)
      have r0 := cell_regrown q0
      have r1 := cell_regrown q1
      have r2 := cell_regrown q2
      have r3 := cell_regrown q3
      clear hqk hlt
      by_cases hkc : k = c
      · have HX : Hid (bestTo u c m (k + 1) = bestTo u c m k) := by unfold Hid; rw [bestTo_succ, if_neg (by rw [hkc, giveB_self]; simp)]
        have hkb : ((k : Int) == (c : Int)) = true := by simp [hkc]
        clear hkc
        go_wp2
        refine wp_region_quiet_below (by kernel_rfl) (by kernel_rfl) ?_
        go_big_quiet_step (exact cH _ _)
        go_big_quiet_step (exact cH _ _)
        go_big_quiet_step (exact cH _ _)
        go_big_quiet_step (exact cH _ _)
        go_big_quiet_step (exact cH _ _)
        go_big_quiet_step (exact cH _ _)
        go_big_quiet_step (exact cH _ _)
        go_big_quiet_step (exact cK _ _)
        go_big_quiet_step (exact cK _ _)
        go_big_quiet_step (exact cK _ _)
        go_big_quiet_step (exact cK _ _)
        go_big_quiet_step (exact cK _ _)
        go_big_quiet_step (exact cK _ _)
        go_big_quiet_step (exact cK _ _)
        go_big_quiet_step (exact cK _ _)
        go_big_quiet_step (exact cK _ _)
        go_big_quiet_step (exact cB _ _)
        go_big_quiet_step (exact cB _ _)
        go_big_quiet_step (exact cB _ _)
        go_big_quiet_step (exact cB _ _)
        go_big_quiet_step (exact cB _ _)
        go_big_quiet_step (exact cB _ _)
        refine wpQuiet_nil ?_
        rintro _ ⟨⟨dq, osq⟩, rfl⟩
        have hbq := hb.trans ((below_regrown wr dq osq).mono hb.size)
        clear HSW
        go_wp2
        exact ⟨⟨k + 1, HLT.out, by rw [HX.out] <;> rfl, by go_num, hbq⟩, by simp [intOf]; omega⟩
      · have hkb : ((k : Int) == (c : Int)) = false := by have h1 : (k : Int) ≠ (c : Int) := (by omega); simpa using h1
        clear hkc
        cases hh : Msk.hasB m (k : Int)
        · have HX : Hid (bestTo u c m (k + 1) = bestTo u c m k) := by unfold Hid; rw [bestTo_succ, if_neg (by rw [hh]; simp)]
          rw [hh] at cH
          clear hh
          go_wp2
          refine wp_region_quiet_below (by kernel_rfl) (by kernel_rfl) ?_
          go_big_quiet_step (exact cH _ _)
          go_big_quiet_step (exact cH _ _)
          go_big_quiet_step (exact cH _ _)
          go_big_quiet_step (exact cH _ _)
          go_big_quiet_step (exact cH _ _)
          go_big_quiet_step (exact cH _ _)
          go_big_quiet_step (exact cH _ _)
          go_big_quiet_step (exact cK _ _)
          go_big_quiet_step (exact cK _ _)
          go_big_quiet_step (exact cK _ _)
          go_big_quiet_step (exact cK _ _)
          go_big_quiet_step (exact cK _ _)
          go_big_quiet_step (exact cK _ _)
          go_big_quiet_step (exact cK _ _)
          go_big_quiet_step (exact cK _ _)
          go_big_quiet_step (exact cK _ _)
          go_big_quiet_step (exact cB _ _)
          go_big_quiet_step (exact cB _ _)
          go_big_quiet_step (exact cB _ _)
          go_big_quiet_step (exact cB _ _)
          go_big_quiet_step (exact cB _ _)
          go_big_quiet_step (exact cB _ _)
          refine wpQuiet_nil ?_
          rintro _ ⟨⟨dq, osq⟩, rfl⟩
          have hbq := hb.trans ((below_regrown wr dq osq).mono hb.size)
          clear HSW
          go_wp2
          exact ⟨⟨k + 1, HLT.out, by rw [HX.out] <;> rfl, by go_num, hbq⟩, by simp [intOf]; omega⟩
        · rw [hh] at cH
          rcases bestTo_range u c m k with hbn | ⟨b0, hbb, hbl⟩
          · have HIN : Hid (bestTo u c m (k + 1) = if giveB u c k = true then (k : Int) else -1) := by
              unfold Hid; rw [bestTo_succ]
              rw [hh, hbn]; cases giveB u c k <;> rfl
            rw [hbn]
            clear hh hbn
            go_wp2
            refine wp_region_quiet_below (by kernel_rfl) (by kernel_rfl) ?_
            go_big_quiet_step (exact cH _ _)
            go_big_quiet_step (exact cH _ _)
            go_big_quiet_step (exact cH _ _)
            go_big_quiet_step (exact cH _ _)
            go_big_quiet_step (exact cH _ _)
            go_big_quiet_step (exact cH _ _)
            go_big_quiet_step (exact cH _ _)
            go_big_quiet_step (exact cK _ _)
            go_big_quiet_step (exact cK _ _)
            go_big_quiet_step (exact cK _ _)
            go_big_quiet_step (exact cK _ _)
            go_big_quiet_step (exact cK _ _)
            go_big_quiet_step (exact cK _ _)
            go_big_quiet_step (exact cK _ _)
            go_big_quiet_step (exact cK _ _)
            go_big_quiet_step (exact cK _ _)
            go_big_quiet_step (exact cB _ _)
            go_big_quiet_step (exact cB _ _)
            go_big_quiet_step (exact cB _ _)
            go_big_quiet_step (exact cB _ _)
            go_big_quiet_step (exact cB _ _)
            go_big_quiet_step (exact cB _ _)
            refine wpQuiet_nil ?_
            rintro _ ⟨⟨dq, osq⟩, rfl⟩
            have hbq := hb.trans ((below_regrown wr dq osq).mono hb.size)
            clear HSW
            obtain ⟨V, hV⟩ : ∃ V, grow (redrawn wr dq) osq = V := ⟨_, rfl⟩
            rw [hV] at hbq ⊢
            have HBQ : Hid (Below W1.heap.size W1 V) := hbq
            clear hV hb q0 q1 q2 q3 r0 r1 r2 r3 cH cK cB hbq
            go_wp2
            go_loopw [7, 9] (fun x t wr => ∃ j : Nat, j ≤ u.ts.length ∧ x = .int .i64 (if giveTo u c k j = true then (k : Int) else (-1 : Int)) ∧ t = .int .i64 (j : Int) ∧ Below W1.heap.size W1 wr) (fun _ t _ => u.ts.length - (intOf t).toNat)
            case atStart => exact ⟨0, Nat.zero_le _, by rw [giveTo_zero] <;> rfl, rfl, HBQ.out⟩
            case round =>
              obtain ⟨j, hj, rfl, rfl, hb⟩ := hrel
              obtain ⟨bv, hbv⟩ : ∃ z : Int, (if giveTo u c k j = true then (k : Int) else (-1 : Int)) = z := ⟨_, rfl⟩
              have HBV : Hid ((if giveTo u c k j = true then (k : Int) else (-1 : Int)) = bv) := hbv
              rw [hbv]
              have hj12 : (j : Int) ≤ 12 := by have := HL.out; omega
              obtain ⟨o0, o1, o2, o3⟩ := HC.out _ hb
              have lwr2 : w.heap.size < wr.heap.size := Nat.lt_of_lt_of_le lw hb.size
              clear hbv
              by_cases hjl : j < u.ts.length
              · have hjl' : (j : Int) < (u.ts.length : Int) := by omega
                obtain ⟨e, he⟩ := row_get hjl
                obtain ⟨tg, to, rfl, hr, ltg⟩ := HTT.out _ j e hb he
                obtain ⟨x0, x1, x2, x3, x4, x5, x6, x7, x8⟩ := tk_cells hr
                clear hr
                have HE : Hid (u.ts[j]? = some e) := he
                have HJL : Hid (j < u.ts.length) := hjl
                have HNO : Hid (((u.ts[j]?).any (fun e => decide (e.cpu = (k : Int))) && couldB u c j) = false → (if giveTo u c k (j + 1) = true then (k : Int) else (-1 : Int)) = bv) := fun h => by rw [giveTo_succ, h, Bool.or_false]; exact HBV.out
                clear he hjl
                by_cases s2 : e.cpu = (k : Int)
                · have hq := HI.out j e HE.out
                  rw [s2] at x2
                  cases hcb : couldB u c j
                  · have HX : Hid ((if giveTo u c k (j + 1) = true then (k : Int) else (-1 : Int)) = bv) := HNO.out (by rw [hcb, Bool.and_false])
                    rw [hcb] at hq
                    clear hcb s2
                    go_wp2_with (go_at_call 82; refine (hq _ (HS.out.below (ACC.out.trans (hb.mono ACC.out.size)))).mono ?_; rintro e1 V1 ⟨rfl, hb1⟩)
                    exact ⟨⟨j + 1, HJL.out, by rw [HX.out] <;> rfl, by go_num, hb.trans (hb1.mono hb.size)⟩, by simp [intOf]; omega⟩
                  · have HX : Hid ((if giveTo u c k (j + 1) = true then (k : Int) else (-1 : Int)) = (k : Int)) := by unfold Hid; rw [giveTo_succ, hcb, HE.out, if_pos]; rw [Bool.and_true, Bool.or_eq_true]; exact .inr (decide_eq_true s2)
                    rw [hcb] at hq
                    clear hcb s2
                    go_wp2_with (go_at_call 82; refine (hq _ (HS.out.below (ACC.out.trans (hb.mono ACC.out.size)))).mono ?_; rintro e1 V1 ⟨rfl, hb1⟩)
                    exact ⟨⟨j + 1, HJL.out, by rw [HX.out] <;> rfl, by go_num, hb.trans (hb1.mono hb.size)⟩, by simp [intOf]; omega⟩
                · have HX : Hid ((if giveTo u c k (j + 1) = true then (k : Int) else (-1 : Int)) = bv) := HNO.out (by rw [HE.out]; show (decide (e.cpu = (k : Int)) && _) = false; rw [decide_eq_false s2]; rfl)
                  go_wp2
                  exact ⟨⟨j + 1, HJL.out, by rw [HX.out] <;> rfl, by go_num, hb⟩, by simp [intOf]; omega⟩
              · have hjl' : ¬ (j : Int) < (u.ts.length : Int) := by omega
                have HX : Hid (bestTo u c m (k + 1) = bv) := by unfold Hid; rw [HIN.out, ← HBV.out]; unfold giveB; rw [show u.ts.length = j by omega]
                clear hjl
                go_wp2
                exact ⟨⟨k + 1, HLT.out, by rw [HX.out] <;> rfl, by go_num, hb⟩, by simp [intOf]; omega⟩
          · have hb0 : b0 < u.cs.length := by omega
            obtain ⟨lb, hlb⟩ : ∃ n, loadN u b0 = n := ⟨_, rfl⟩
            obtain ⟨lk, hlk⟩ : ∃ n, loadN u k = n := ⟨_, rfl⟩
            have hqb := HLD.out b0 hb0
            rw [hlb] at hqb
            rw [hlk] at cK
            have cB : ∀ d os, Calls Tryz.prog 34 #[.agg #[.int .i64 u.now, .slice p1 u.cs.length c1, .slice p2 u.ts.length c2, .slice p3 u.gs.length c3], .int .i64 (b0 : Int)] (grow (redrawn wr d) os) fun e' w'' => e' = .returned (.int .i64 lb) ∧ ∃ p : Regrown, w'' = grow (redrawn wr p.d) p.os := fun d os => Calls.regrown_of (hqb _ (HSW.out.below (below_regrown wr d os)))
            rw [hbb]
            have hge : (0 : Int) ≤ (b0 : Int) := by omega
            by_cases hlt2 : lb < lk
            · have HIN : Hid (bestTo u c m (k + 1) = if giveB u c k = true then (k : Int) else (b0 : Int)) := by
                unfold Hid; rw [bestTo_succ]
                rw [hh, hbb, Int.toNat_natCast, hlb, hlk, decide_eq_true hlt2]; cases giveB u c k <;> simp
              have hle : ¬ lk ≤ lb := by omega
              clear hh hbb hlb hlk hqb
              go_wp2
              refine wp_region_quiet_below (by kernel_rfl) (by kernel_rfl) ?_
              go_big_quiet_step (exact cH _ _)
              go_big_quiet_step (exact cH _ _)
              go_big_quiet_step (exact cH _ _)
              go_big_quiet_step (exact cH _ _)
              go_big_quiet_step (exact cH _ _)
              go_big_quiet_step (exact cH _ _)
              go_big_quiet_step (exact cH _ _)
              go_big_quiet_step (exact cK _ _)
              go_big_quiet_step (exact cK _ _)
              go_big_quiet_step (exact cK _ _)
              go_big_quiet_step (exact cK _ _)
              go_big_quiet_step (exact cK _ _)
              go_big_quiet_step (exact cK _ _)
              go_big_quiet_step (exact cK _ _)
              go_big_quiet_step (exact cK _ _)
              go_big_quiet_step (exact cK _ _)
              go_big_quiet_step (exact cB _ _)
              go_big_quiet_step (exact cB _ _)
              go_big_quiet_step (exact cB _ _)
              go_big_quiet_step (exact cB _ _)
              go_big_quiet_step (exact cB _ _)
              go_big_quiet_step (exact cB _ _)
              refine wpQuiet_nil ?_
              rintro _ ⟨⟨dq, osq⟩, rfl⟩
              have hbq := hb.trans ((below_regrown wr dq osq).mono hb.size)
              clear HSW
              obtain ⟨V, hV⟩ : ∃ V, grow (redrawn wr dq) osq = V := ⟨_, rfl⟩
              rw [hV] at hbq ⊢
              have HBQ : Hid (Below W1.heap.size W1 V) := hbq
              clear hV hb q0 q1 q2 q3 r0 r1 r2 r3 cH cK cB hbq
              go_wp2
              go_loopw [7, 9] (fun x t wr => ∃ j : Nat, j ≤ u.ts.length ∧ x = .int .i64 (if giveTo u c k j = true then (k : Int) else (b0 : Int)) ∧ t = .int .i64 (j : Int) ∧ Below W1.heap.size W1 wr) (fun _ t _ => u.ts.length - (intOf t).toNat)
              case atStart => exact ⟨0, Nat.zero_le _, by rw [giveTo_zero] <;> rfl, rfl, HBQ.out⟩
              case round =>
                obtain ⟨j, hj, rfl, rfl, hb⟩ := hrel
                obtain ⟨bv, hbv⟩ : ∃ z : Int, (if giveTo u c k j = true then (k : Int) else (b0 : Int)) = z := ⟨_, rfl⟩
                have HBV : Hid ((if giveTo u c k j = true then (k : Int) else (b0 : Int)) = bv) := hbv
                rw [hbv]
                have hj12 : (j : Int) ≤ 12 := by have := HL.out; omega
                obtain ⟨o0, o1, o2, o3⟩ := HC.out _ hb
                have lwr2 : w.heap.size < wr.heap.size := Nat.lt_of_lt_of_le lw hb.size
                clear hbv
                by_cases hjl : j < u.ts.length
                · have hjl' : (j : Int) < (u.ts.length : Int) := by omega
                  obtain ⟨e, he⟩ := row_get hjl
                  obtain ⟨tg, to, rfl, hr, ltg⟩ := HTT.out _ j e hb he
                  obtain ⟨x0, x1, x2, x3, x4, x5, x6, x7, x8⟩ := tk_cells hr
                  clear hr
                  have HE : Hid (u.ts[j]? = some e) := he
                  have HJL : Hid (j < u.ts.length) := hjl
                  have HNO : Hid (((u.ts[j]?).any (fun e => decide (e.cpu = (k : Int))) && couldB u c j) = false → (if giveTo u c k (j + 1) = true then (k : Int) else (b0 : Int)) = bv) := fun h => by rw [giveTo_succ, h, Bool.or_false]; exact HBV.out
                  clear he hjl
                  by_cases s2 : e.cpu = (k : Int)
                  · have hq := HI.out j e HE.out
                    rw [s2] at x2
                    cases hcb : couldB u c j
                    · have HX : Hid ((if giveTo u c k (j + 1) = true then (k : Int) else (b0 : Int)) = bv) := HNO.out (by rw [hcb, Bool.and_false])
                      rw [hcb] at hq
                      clear hcb s2
                      go_wp2_with (go_at_call 82; refine (hq _ (HS.out.below (ACC.out.trans (hb.mono ACC.out.size)))).mono ?_; rintro e1 V1 ⟨rfl, hb1⟩)
                      exact ⟨⟨j + 1, HJL.out, by rw [HX.out] <;> rfl, by go_num, hb.trans (hb1.mono hb.size)⟩, by simp [intOf]; omega⟩
                    · have HX : Hid ((if giveTo u c k (j + 1) = true then (k : Int) else (b0 : Int)) = (k : Int)) := by unfold Hid; rw [giveTo_succ, hcb, HE.out, if_pos]; rw [Bool.and_true, Bool.or_eq_true]; exact .inr (decide_eq_true s2)
                      rw [hcb] at hq
                      clear hcb s2
                      go_wp2_with (go_at_call 82; refine (hq _ (HS.out.below (ACC.out.trans (hb.mono ACC.out.size)))).mono ?_; rintro e1 V1 ⟨rfl, hb1⟩)
                      exact ⟨⟨j + 1, HJL.out, by rw [HX.out] <;> rfl, by go_num, hb.trans (hb1.mono hb.size)⟩, by simp [intOf]; omega⟩
                  · have HX : Hid ((if giveTo u c k (j + 1) = true then (k : Int) else (b0 : Int)) = bv) := HNO.out (by rw [HE.out]; show (decide (e.cpu = (k : Int)) && _) = false; rw [decide_eq_false s2]; rfl)
                    go_wp2
                    exact ⟨⟨j + 1, HJL.out, by rw [HX.out] <;> rfl, by go_num, hb⟩, by simp [intOf]; omega⟩
                · have hjl' : ¬ (j : Int) < (u.ts.length : Int) := by omega
                  have HX : Hid (bestTo u c m (k + 1) = bv) := by unfold Hid; rw [HIN.out, ← HBV.out]; unfold giveB; rw [show u.ts.length = j by omega]
                  clear hjl
                  go_wp2
                  exact ⟨⟨k + 1, HLT.out, by rw [HX.out] <;> rfl, by go_num, hb⟩, by simp [intOf]; omega⟩
            · have HX : Hid (bestTo u c m (k + 1) = (b0 : Int)) := by
                unfold Hid; rw [bestTo_succ]
                rw [hh, hbb, Int.toNat_natCast, hlb, hlk, decide_eq_false hlt2, decide_eq_false (by omega)]; cases giveB u c k <;> simp
              have hle : lk ≤ lb := by omega
              clear hh hbb hlb hlk hqb
              go_wp2
              refine wp_region_quiet_below (by kernel_rfl) (by kernel_rfl) ?_
              go_big_quiet_step (exact cH _ _)
              go_big_quiet_step (exact cH _ _)
              go_big_quiet_step (exact cH _ _)
              go_big_quiet_step (exact cH _ _)
              go_big_quiet_step (exact cH _ _)
              go_big_quiet_step (exact cH _ _)
              go_big_quiet_step (exact cH _ _)
              go_big_quiet_step (exact cK _ _)
              go_big_quiet_step (exact cK _ _)
              go_big_quiet_step (exact cK _ _)
              go_big_quiet_step (exact cK _ _)
              go_big_quiet_step (exact cK _ _)
              go_big_quiet_step (exact cK _ _)
              go_big_quiet_step (exact cK _ _)
              go_big_quiet_step (exact cK _ _)
              go_big_quiet_step (exact cK _ _)
              go_big_quiet_step (exact cB _ _)
              go_big_quiet_step (exact cB _ _)
              go_big_quiet_step (exact cB _ _)
              go_big_quiet_step (exact cB _ _)
              go_big_quiet_step (exact cB _ _)
              go_big_quiet_step (exact cB _ _)
              refine wpQuiet_nil ?_
              rintro _ ⟨⟨dq, osq⟩, rfl⟩
              have hbq := hb.trans ((below_regrown wr dq osq).mono hb.size)
              clear HSW
              go_wp2
              exact ⟨⟨k + 1, HLT.out, by rw [HX.out] <;> rfl, by go_num, hbq⟩, by simp [intOf]; omega⟩
    · have hlt' : ¬ (k : Int) < (u.cs.length : Int) := by omega
      have HX : Hid (bestM u c m = bestTo u c m k) := by unfold Hid bestM; rw [show u.cs.length = k by omega]
      clear hlt
      go_wp2
      go_ret
      exact ⟨by rw [HX.out] <;> rfl, ACC.out.trans (hb.mono ACC.out.size)⟩
end Go.Proofs.YtnmmglkigiakaaaGreat
namespace Go.Proofs.YtnmmglkigiakaaaGreat
set_option maxRecDepth 100000
set_option maxHeartbeats 32000000
set_option linter.unusedVariables false
set_option linter.unusedSimpArgs false
open Go.ChangeShapes Go.WideShapes Go.ChangeAt Go.RowKit Go.Shelf Go.Sort
theorem lineB_same {u v : Wv} (h : SameW u v) : lineB v = lineB u := by
  funext c i; unfold lineB; rw [h.ts, h.gs]
theorem sumW_same {u v : Wv} (h : SameW u v) : sumW v = sumW u := by
  funext l
  induction l with
  | nil => rfl
  | cons k l ih =>
    unfold sumW
    rw [ih]
    unfold niK
    rw [h.ts]
theorem loadN_same {u v : Wv} (h : SameW u v) : loadN v = loadN u := by
  funext c; unfold loadN lineL; rw [sumW_same h, lineB_same h, h.ts]
end Go.Proofs.YtnmmglkigiakaaaGreat
