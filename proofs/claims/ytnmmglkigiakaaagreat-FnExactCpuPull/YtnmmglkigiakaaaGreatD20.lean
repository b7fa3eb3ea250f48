/- The specification on worlds: where a group's tasks may be; who is dry, who stands. The specification on worlds: where a task may be; who is dry; who is in line. The specification: no band; the half of all time. The specification: who is in line. The specification: whether somebody stands in a group's queue on a processor. What must hold of a world, as plain functions of its rows. The specification: a place of groups that is not used. The specification: whether the current one is no further ahead than its stay. The specification: processors. -/
import Derived.Test.YtnmmglkigiakaaaGreatD19
namespace Go.Proofs.YtnmmglkigiakaaaGreat
set_option maxRecDepth 100000
set_option maxHeartbeats 32000000
set_option linter.unusedVariables false
set_option linter.unusedSimpArgs false
open Go.ChangeShapes Go.WideShapes Go.ChangeAt Go.RowKit Go.Shelf Go.Sort
theorem boxed_w {w W1 : World} {u : Wv} {b c d : Value} (hs : SlW w u) (hb : u.x = b) (hc : u.y = c) (hd : u.z = d) (h : w.alloc (.cells #[.int .i64 u.now, b, c, d] 33) = W1) : AtW W1 w.heap.size u ∧ Below w.heap.size w W1 ∧ w.heap.size < W1.heap.size := by
  subst h hb hc hd
  exact ⟨⟨heap_alloc_new w _, hs.below ((Below.refl _ _).alloc (Nat.le_refl _) _)⟩, (Below.refl _ _).alloc (Nat.le_refl _) _, by simp⟩
theorem wv_form {w : World} {u : Wv} (hs : SlW w u) : ∃ p1 l1 c1 p2 l2 c2 p3 l3 c3, u.x = .slice p1 l1 c1 ∧ u.y = .slice p2 l2 c2 ∧ u.z = .slice p3 l3 c3 ∧ wvV u = .agg #[.int .i64 u.now, .slice p1 l1 c1, .slice p2 l2 c2, .slice p3 l3 c3] := by
  obtain ⟨⟨p1, l1, c1, e1⟩, ⟨p2, l2, c2, e2⟩, ⟨p3, l3, c3, e3⟩⟩ := hs.form
  exact ⟨p1, l1, c1, p2, l2, c2, p3, l3, c3, e1, e2, e3, by unfold wvV; rw [e1, e2, e3]⟩
theorem l4Time_any (n : Int) (w : World) : Calls Tryz.prog 101 #[.int .i64 n] w fun e w' => e = .returned (.bool (l1in n 0 100000000000000000)) ∧ w' = w := by
  go_enter Tryz.func101, Tryz.ntmps101
  go_wp2_with (go_at_call 33; refine (l1In_any _ _ _ _).mono ?_; rintro e w1 ⟨rfl, rfl⟩)
  go_ret
  exact ⟨rfl, rfl⟩
theorem l8Stand_any (v f wt : Int) (w : World) : Calls Tryz.prog 104 #[.int .i64 v, .int .i64 f, .int .i64 wt] w fun e w' => e = .returned (.bool (withinB v f (vstep 149 wt))) ∧ w' = w := by
  by_cases a : f ≤ v
  · by_cases b : wrap64 (v - f) ≤ vstep 149 wt
    · have HT : Hid (withinB v f (vstep 149 wt) = true) := by unfold Hid withinB; simp [a, b]
      go_enter Tryz.func104, Tryz.ntmps104
      go_wp2_with (go_at_call 136; refine (spec_lagmost _ _).mono ?_; rintro e w1 ⟨rfl, rfl⟩)
      go_ret
      exact ⟨by rw [HT.out]; first | rfl | simp [b], rfl⟩
    · have HT : Hid (withinB v f (vstep 149 wt) = false) := by unfold Hid withinB; simp [b]
      go_enter Tryz.func104, Tryz.ntmps104
      go_wp2_with (go_at_call 136; refine (spec_lagmost _ _).mono ?_; rintro e w1 ⟨rfl, rfl⟩)
      go_ret
      exact ⟨by rw [HT.out]; first | rfl | simp [b], rfl⟩
  · have HT : Hid (withinB v f (vstep 149 wt) = false) := by unfold Hid withinB; simp [a]
    go_enter Tryz.func104, Tryz.ntmps104
    go_wp2
    go_ret
    exact ⟨by rw [HT.out]; rfl, rfl⟩
theorem l8Queued_any (k c : Nat) (u : Wv) (e : Gv) (s : Sh) (w : World) (hs : SlW w u) (he : u.gs[k]? = some e) (hc : e.d.sh[c]? = some s) :
    Calls Tryz.prog 86 #[wvV u, .int .i64 (k : Int), .int .i64 (c : Int)] w fun e' w' => e' = .returned (.bool s.on) ∧ Below w.heap.size w w' := by
  obtain ⟨p1, l1, c1, p2, l2, c2, p3, l3, c3, e1, e2, e3, hv⟩ := wv_form hs
  rw [hv]
  obtain ⟨W1, hW1⟩ : ∃ W1, w.alloc (.cells #[.int .i64 u.now, .slice p1 l1 c1, .slice p2 l2 c2, .slice p3 l3 c3] 33) = W1 := ⟨_, rfl⟩
  obtain ⟨hA, acc, hlt⟩ := boxed_w hs e1 e2 e3 hW1
  obtain ⟨gr, go, cap, w3, hr, hk, hl⟩ := hA.cellsG he
  obtain ⟨_, _, _, _, _, _, _, _, _, _, _, _, _, y13⟩ := gv_cells hr
  obtain ⟨zg, zo, zc, hz, hsr⟩ := hA.shelf he hc
  obtain ⟨_, s1, _⟩ := sh_cells hsr
  rw [hz] at y13
  have hcs : c < e.d.sh.length := (List.getElem?_eq_some_iff.1 hc).1
  have hsl : e.d.sh.length ≤ 9223372036854775807 := (SlR.form (hA.sh he)).choose_spec.choose_spec.2
  clear hA hr hsr hz he hc hs e1 e2 e3 hv
  go_enter Tryz.func86, Tryz.ntmps86
  go_wp2
  go_ret
  exact ⟨rfl, acc⟩
def pinF (ds : List Gr) : Nat → Nat → Int → Int
  | 0, _, m => m
  | f + 1, g, m => if g = 0 then m else pinF ds f (paAt ds g).toNat (Msk.andM m (cpAt ds (paAt ds g).toNat))
def pinS (ds : List Gr) (g : Nat) : Int := pinF ds (depB ds (g : Int)).toNat g (cpAt ds g)
theorem l8Pins_any (g : Nat) (u : Wv) (w : World) (hs : SlW w u) (ht : treeB (gsD u.gs) = true) (hg : g < 8) (hu : usAt (gsD u.gs) g = true) :
    Calls Tryz.prog 135 #[wvV u, .int .i64 (g : Int)] w fun e' w' => e' = .returned (.int .i64 (pinS (gsD u.gs) g)) ∧ Below w.heap.size w w' := by
  have h8 := (tree_facts ht).1
  rw [gsD_length] at h8
  have H8 : Hid (u.gs.length = 8) := h8
  clear h8
  obtain ⟨p1, l1, c1, p2, l2, c2, p3, l3, c3, e1, e2, e3, hv⟩ := wv_form hs
  rw [hv]
  obtain ⟨W1, hW1⟩ : ∃ W1, w.alloc (.cells #[.int .i64 u.now, .slice p1 l1 c1, .slice p2 l2 c2, .slice p3 l3 c3] 33) = W1 := ⟨_, rfl⟩
  obtain ⟨hA, acc, hlt⟩ := boxed_w hs e1 e2 e3 hW1
  have hrow : Hid (∀ k, k < 8 → ∃ e gr go cap, u.gs[k]? = some e ∧ W1.cell? ⟨w.heap.size, 3, none⟩ = some (.slice (some ⟨gr, go, none⟩) u.gs.length cap) ∧ W1.cell? ⟨gr, go + k * 14 + 1, none⟩ = some (.int .i64 (paAt (gsD u.gs) k)) ∧ W1.cell? ⟨gr, go + k * 14 + 4, none⟩ = some (.int .i64 (cpAt (gsD u.gs) k)) ∧ k < u.gs.length ∧ u.gs.length ≤ 9223372036854775807) := by
    intro k hk
    obtain ⟨e, he, _, q1, _⟩ := gs_get (vs := u.gs) (k := k) (by rw [H8.out]; exact hk)
    obtain ⟨gr, go, cap, w3, hr, hk', hl⟩ := hA.cellsG he
    obtain ⟨_, y1, _, _, y4, _⟩ := gv_cells hr
    exact ⟨e, gr, go, cap, he, w3, by rw [q1]; exact y1, by rw [cpAt_eq he]; exact y4, hk', hl⟩
  obtain ⟨e, gr, go, cap, he, w3, y1, y4, hk, hl⟩ := hrow.out g hg
  clear hA hs e1 e2 e3 hv he
  go_enter Tryz.func135, Tryz.ntmps135
  go_wp2
  clear w3 y1 y4 hk
  go_loop [1, 5] (fun t m => ∃ (j : Nat) (x : Int), j < 8 ∧ usAt (gsD u.gs) j = true ∧ t = .int .i64 (j : Int) ∧ m = .int .i64 x ∧ pinS (gsD u.gs) g = pinF (gsD u.gs) (depB (gsD u.gs) (j : Int)).toNat j x) (fun t _ => (depB (gsD u.gs) (intOf t)).toNat)
  case atStart => exact ⟨g, _, hg, hu, rfl, rfl, rfl⟩
  case round =>
    obtain ⟨j, x, hj, uj, rfl, rfl, hx⟩ := hrel
    rcases tree_step ht hj uj with ⟨rfl, hd⟩ | ⟨hj0, j', hp, hj', uj', hd, hd', _⟩
    · have HX : Hid (pinS (gsD u.gs) g = x) := by
        unfold Hid; rw [hx, hd]; rfl
      clear hx hd
      go_wp2
      go_ret
      exact ⟨by rw [HX.out]; rfl, acc⟩
    · have hj0' : ¬ (j : Int) = 0 := by omega
      obtain ⟨_, gr1, go1, cap1, _, w3, y1, _, hk1, hl1⟩ := hrow.out j hj
      obtain ⟨_, gr2, go2, cap2, _, w3', _, y4, hk2, _⟩ := hrow.out j' hj'
      rw [w3] at w3'
      simp only [Option.some.injEq, Value.slice.injEq, Addr.mk.injEq, and_true, true_and] at w3'
      obtain ⟨⟨rfl, rfl⟩, rfl⟩ := w3'
      rw [hp] at y1
      have HX : Hid (pinS (gsD u.gs) g = pinF (gsD u.gs) (depB (gsD u.gs) (j' : Int)).toNat j' (Msk.andM x (cpAt (gsD u.gs) j'))) := by
        unfold Hid
        rw [hx]
        have : (depB (gsD u.gs) (j : Int)).toNat = (depB (gsD u.gs) (j' : Int)).toNat + 1 := by omega
        rw [this]
        conv => lhs; unfold pinF
        rw [if_neg hj0, hp, Int.toNat_natCast]
      have HD : Hid (depB (gsD u.gs) (j : Int) = depB (gsD u.gs) (j' : Int) + 1 ∧ 0 ≤ depB (gsD u.gs) (j' : Int)) := ⟨hd, hd'⟩
      clear hx hd hd' hp
      go_wp2_with (go_at_call 134; refine (Msk.spec_and _ _ _).mono ?_; rintro e' w' ⟨rfl, rfl⟩)
      refine ⟨⟨j', _, hj', uj', rfl, rfl, HX.out⟩, ?_⟩
      have := HD.out
      simp only [intOf]; omega
def whereS (cs : List Cp) (ds : List Gr) (g : Nat) (ma : Int) : Int :=
  if Msk.andM ma (Msk.andM (pinS ds g) (upsM cs)) ≠ 0 then Msk.andM ma (Msk.andM (pinS ds g) (upsM cs)) else if Msk.andM (pinS ds g) (upsM cs) ≠ 0 then Msk.andM (pinS ds g) (upsM cs) else upsM cs
theorem l8Where_any (g : Nat) (ma : Int) (u : Wv) (w : World) (hs : SlW w u) (hn : u.cs.length ≤ 4) (ht : treeB (gsD u.gs) = true) (hg : g < 8) (hu : usAt (gsD u.gs) g = true) :
    Calls Tryz.prog 103 #[wvV u, .int .i64 (g : Int), .int .i64 ma] w fun e' w' => e' = .returned (.int .i64 (whereS u.cs (gsD u.gs) g ma)) ∧ Below w.heap.size w w' := by
  obtain ⟨p1, l1, c1, p2, l2, c2, p3, l3, c3, e1, e2, e3, hv⟩ := wv_form hs
  have hP : ∀ W, SlW W u → Calls Tryz.prog 135 #[wvV u, .int .i64 (g : Int)] W fun e' w' => e' = .returned (.int .i64 (pinS (gsD u.gs) g)) ∧ Below W.heap.size W w' := fun W h => l8Pins_any g u W h ht hg hu
  have hU : ∀ W, SlW W u → Calls Tryz.prog 63 #[wvV u] W fun e' w' => e' = .returned (.int .i64 (upsM u.cs)) ∧ Below W.heap.size W w' := fun W h => spec_ups u W h hn
  rw [hv] at hP hU ⊢
  obtain ⟨W1, hW1⟩ : ∃ W1, w.alloc (.cells #[.int .i64 u.now, .slice p1 l1 c1, .slice p2 l2 c2, .slice p3 l3 c3] 33) = W1 := ⟨_, rfl⟩
  obtain ⟨hA, acc, hlt⟩ := boxed_w hs e1 e2 e3 hW1
  obtain ⟨o0, o1, o2, o3⟩ := hA.cells
  rw [e1] at o1
  rw [e2] at o2
  rw [e3] at o3
  obtain ⟨p, hp⟩ : ∃ p, Msk.andM (pinS (gsD u.gs) g) (upsM u.cs) = p := ⟨_, rfl⟩
  obtain ⟨o, ho⟩ : ∃ o, Msk.andM ma p = o := ⟨_, rfl⟩
  have HR : Hid (whereS u.cs (gsD u.gs) g ma = if o ≠ 0 then o else if p ≠ 0 then p else upsM u.cs) := by unfold Hid whereS; rw [hp, ho]
  have HS : Hid (SlW w u) := hs
  have HA : Hid (Msk.andM (pinS (gsD u.gs) g) (upsM u.cs) = p) := hp
  have HB : Hid (Msk.andM ma p = o) := ho
  clear hA hs e1 e2 e3 hv hp ho
  by_cases ho0 : o = 0
  · subst ho0
    by_cases hp0 : p = 0
    · subst hp0
      go_enter Tryz.func103, Tryz.ntmps103
      go_wp2_with (first | (go_at_call 63; refine (hU _ (HS.out.below acc)).mono ?_; rintro e' w' ⟨rfl, hb⟩; have o0 := (hb.cell hlt).trans o0; have o1 := (hb.cell hlt).trans o1; have o2 := (hb.cell hlt).trans o2; have o3 := (hb.cell hlt).trans o3; have hlt := Nat.lt_of_lt_of_le hlt hb.size; replace acc := acc.trans (hb.mono acc.size); clear hb) | (go_at_call 135; refine (hP _ (HS.out.below acc)).mono ?_; rintro e' w' ⟨rfl, hb⟩; replace acc := acc.trans (hb.mono acc.size); clear hb) | (go_at_call 134; refine (Msk.spec_and _ _ _).mono ?_; rintro e' w' ⟨rfl, rfl⟩; first | rw [HA.out] | rw [HB.out]))
      go_ret
      exact ⟨by rw [HR.out]; rfl, acc⟩
    · go_enter Tryz.func103, Tryz.ntmps103
      go_wp2_with (first | (go_at_call 63; refine (hU _ (HS.out.below acc)).mono ?_; rintro e' w' ⟨rfl, hb⟩; have o0 := (hb.cell hlt).trans o0; have o1 := (hb.cell hlt).trans o1; have o2 := (hb.cell hlt).trans o2; have o3 := (hb.cell hlt).trans o3; have hlt := Nat.lt_of_lt_of_le hlt hb.size; replace acc := acc.trans (hb.mono acc.size); clear hb) | (go_at_call 135; refine (hP _ (HS.out.below acc)).mono ?_; rintro e' w' ⟨rfl, hb⟩; replace acc := acc.trans (hb.mono acc.size); clear hb) | (go_at_call 134; refine (Msk.spec_and _ _ _).mono ?_; rintro e' w' ⟨rfl, rfl⟩; first | rw [HA.out] | rw [HB.out]))
      go_ret
      exact ⟨by rw [HR.out, if_neg (by simp), if_pos hp0]; rfl, acc⟩
  · go_enter Tryz.func103, Tryz.ntmps103
    go_wp2_with (first | (go_at_call 63; refine (hU _ (HS.out.below acc)).mono ?_; rintro e' w' ⟨rfl, hb⟩; have o0 := (hb.cell hlt).trans o0; have o1 := (hb.cell hlt).trans o1; have o2 := (hb.cell hlt).trans o2; have o3 := (hb.cell hlt).trans o3; have hlt := Nat.lt_of_lt_of_le hlt hb.size; replace acc := acc.trans (hb.mono acc.size); clear hb) | (go_at_call 135; refine (hP _ (HS.out.below acc)).mono ?_; rintro e' w' ⟨rfl, hb⟩; replace acc := acc.trans (hb.mono acc.size); clear hb) | (go_at_call 134; refine (Msk.spec_and _ _ _).mono ?_; rintro e' w' ⟨rfl, rfl⟩; first | rw [HA.out] | rw [HB.out]))
    go_ret
    exact ⟨by rw [HR.out, if_pos ho0]; rfl, acc⟩
theorem l8Dry_any (k c : Nat) (u : Wv) (e : Gv) (w : World) (hs : SlW w u) (he : u.gs[k]? = some e) (hd : 0 < e.d.ba.qu → c < e.d.ba.dr.length) :
    Calls Tryz.prog 106 #[wvV u, .int .i64 (k : Int), .int .i64 (c : Int)] w fun e' w' => e' = .returned (.bool (dryB e.d.ba c)) ∧ Below w.heap.size w w' := by
  obtain ⟨p1', l1', c1', p2', l2', c2', p3', l3', c3', e1, e2, e3, hv⟩ := wv_form hs
  rw [hv]
  obtain ⟨W1, hW1⟩ : ∃ W1, w.alloc (.cells #[.int .i64 u.now, .slice p1' l1' c1', .slice p2' l2' c2', .slice p3' l3' c3'] 33) = W1 := ⟨_, rfl⟩
  obtain ⟨h, acc, hlt⟩ := boxed_w hs e1 e2 e3 hW1
  obtain ⟨gr, go, cap, w3, hc, hk, hlen⟩ := h.cellsG he
  obtain ⟨y0, y1, y2, y3, y4, y5, y6, y7, y8, y9, y10, y11, y12, y13⟩ := gv_cells hc
  have hok := h.2.2.2.2 e (List.mem_of_getElem? he)
  obtain ⟨p1, c1, f1, l1⟩ := hok.1.1.form
  obtain ⟨p2, c2, f2, l2⟩ := hok.1.2.form
  rw [f1] at y11
  rw [f2] at y12
  have hdr : ∀ v, drAt e.d.ba c = v → 0 < e.d.ba.qu → ∃ g o, p2 = some ⟨g, o, none⟩ ∧ W1.cell? ⟨g, o + c, none⟩ = some (.bool v) ∧ c < e.d.ba.dr.length ∧ g < W1.heap.size := by
    intro v hv hq
    have hlt := hd hq
    have h2 := hok.1.2
    rw [f2] at h2
    rcases h2 with ⟨h0, _⟩ | ⟨g, o, cp, e1, hB, _⟩
    · rw [h0] at hlt; exact absurd hlt (by simp)
    · simp only [Value.slice.injEq] at e1
      obtain ⟨rfl, _, _⟩ := e1
      have hx : e.d.ba.dr[c]? = some v := by
        have := List.getElem?_eq_getElem hlt
        rw [this]; unfold drAt at hv; rw [this] at hv; simpa using hv
      have hcell := hB c v hx
      exact ⟨g, o, rfl, hcell, hlt, block_lt_of_cell hcell⟩
  obtain ⟨⟨us, pa, na, we, cp, pe, ne, su, ⟨qu, po, sp, lo, dr⟩, sh⟩, x, y, z⟩ := e
  dsimp only at *
  have hbB : ∀ A, Below w.heap.size w (W1.alloc A) := fun A => acc.alloc acc.size _
  clear h he hc hok f1 f2 hd y0 y1 y2 y3 y4 y5 y6 y7 y13 hs e1 e2 e3 hv
  by_cases hq : 0 < qu
  · cases hv : drAt ⟨qu, po, sp, lo, dr⟩ c
    · obtain ⟨g, o, rfl, hcell, hlt2, hg⟩ := hdr _ hv hq
      have HR : Hid (dryB ⟨qu, po, sp, lo, dr⟩ c = false) := by unfold Hid dryB; rw [hv]; simp
      clear hdr hv
      go_enter Tryz.func106, Tryz.ntmps106
      go_wp2
      go_ret
      exact ⟨ret_bool HR.out.symm, hbB _⟩
    · obtain ⟨g, o, rfl, hcell, hlt2, hg⟩ := hdr _ hv hq
      have HR : Hid (dryB ⟨qu, po, sp, lo, dr⟩ c = true) := by unfold Hid dryB; rw [hv]; simp [hq]
      clear hdr hv
      go_enter Tryz.func106, Tryz.ntmps106
      go_wp2
      go_ret
      exact ⟨ret_bool HR.out.symm, hbB _⟩
  · have HR : Hid (dryB ⟨qu, po, sp, lo, dr⟩ c = false) := by unfold Hid dryB; simp [hq]
    clear hdr
    go_enter Tryz.func106, Tryz.ntmps106
    go_wp2
    go_ret
    exact ⟨ret_bool HR.out.symm, hbB _⟩
end Go.Proofs.YtnmmglkigiakaaaGreat
namespace Go.Proofs.YtnmmglkigiakaaaGreat
set_option maxRecDepth 100000
set_option maxHeartbeats 32000000
set_option linter.unusedVariables false
set_option linter.unusedSimpArgs false
open Go.ChangeShapes Go.WideShapes Go.ChangeAt Go.RowKit Go.Shelf Go.Sort
attribute [local go_sem] Oper.semAt_some
theorem l8NoBand_any (b : Ba) (x y : Value) (w : World) (hs : SlBa w x y b) : Calls Tryz.prog 98 #[baV b x y] w fun e w' => e = .returned (.bool (noBandB b)) ∧ Below w.heap.size w w' := by
  obtain ⟨p1, c1, rfl, hl1⟩ := hs.1.form
  obtain ⟨p2, c2, rfl, hl2⟩ := hs.2.form
  obtain ⟨qu, po, sp, lo, dr⟩ := b
  obtain ⟨n1, hn1⟩ : ∃ n, lo.length = n := ⟨_, rfl⟩
  obtain ⟨n2, hn2⟩ : ∃ n, dr.length = n := ⟨_, rfl⟩
  have HNB : Hid (noBandB ⟨qu, po, sp, lo, dr⟩ = (decide (qu = 0) && (decide (po = 0) && (decide (sp = 0) && (decide (n1 = 0) && decide (n2 = 0)))))) := by rw [← hn1, ← hn2]; rfl
  dsimp only at hl1 hl2 ⊢
  unfold baV
  dsimp only
  rw [hn1] at hl1 ⊢
  rw [hn2] at hl2 ⊢
  clear hs hn1 hn2
  rw [HNB.out]
  by_cases h0 : qu = 0
  · by_cases h1 : po = 0
    · by_cases h2 : sp = 0
      · by_cases h3 : (n1 : Int) = 0
        · by_cases h4 : (n2 : Int) = 0
          · have HR : Hid ((decide (qu = 0) && (decide (po = 0) && (decide (sp = 0) && (decide (n1 = 0) && decide (n2 = 0))))) = true) := by unfold Hid; simp [← Int.natCast_eq_zero, h0, h1, h2, h3, h4]
            go_enter Tryz.func98, Tryz.ntmps98
            go_wp2
            go_ret
            refine ⟨?_, (Below.refl _ _).alloc (Nat.le_refl _) _⟩
            first | exact ret_bool HR.out.symm | (rw [HR.out]; simp [h0, h1, h2, h3, h4]; done) | (rw [HR.out]; simp [h0, h1, h2, h3, h4]; omega)
          · have HR : Hid ((decide (qu = 0) && (decide (po = 0) && (decide (sp = 0) && (decide (n1 = 0) && decide (n2 = 0))))) = false) := by unfold Hid; simp [← Int.natCast_eq_zero, h0, h1, h2, h3, h4]
            go_enter Tryz.func98, Tryz.ntmps98
            go_wp2
            go_ret
            refine ⟨?_, (Below.refl _ _).alloc (Nat.le_refl _) _⟩
            first | exact ret_bool HR.out.symm | (rw [HR.out]; simp [h0, h1, h2, h3, h4]; done) | (rw [HR.out]; simp [h0, h1, h2, h3, h4]; omega)
        · have HR : Hid ((decide (qu = 0) && (decide (po = 0) && (decide (sp = 0) && (decide (n1 = 0) && decide (n2 = 0))))) = false) := by unfold Hid; simp [← Int.natCast_eq_zero, h0, h1, h2, h3]
          go_enter Tryz.func98, Tryz.ntmps98
          go_wp2
          go_ret
          refine ⟨?_, (Below.refl _ _).alloc (Nat.le_refl _) _⟩
          first | exact ret_bool HR.out.symm | (rw [HR.out]; simp [h0, h1, h2, h3]; done) | (rw [HR.out]; simp [h0, h1, h2, h3]; omega)
      · have HR : Hid ((decide (qu = 0) && (decide (po = 0) && (decide (sp = 0) && (decide (n1 = 0) && decide (n2 = 0))))) = false) := by unfold Hid; simp [← Int.natCast_eq_zero, h0, h1, h2]
        go_enter Tryz.func98, Tryz.ntmps98
        go_wp2
        go_ret
        refine ⟨?_, (Below.refl _ _).alloc (Nat.le_refl _) _⟩
        first | exact ret_bool HR.out.symm | (rw [HR.out]; simp [h0, h1, h2]; done) | (rw [HR.out]; simp [h0, h1, h2]; omega)
    · have HR : Hid ((decide (qu = 0) && (decide (po = 0) && (decide (sp = 0) && (decide (n1 = 0) && decide (n2 = 0))))) = false) := by unfold Hid; simp [← Int.natCast_eq_zero, h0, h1]
      go_enter Tryz.func98, Tryz.ntmps98
      go_wp2
      go_ret
      refine ⟨?_, (Below.refl _ _).alloc (Nat.le_refl _) _⟩
      first | exact ret_bool HR.out.symm | (rw [HR.out]; simp [h0, h1]; done) | (rw [HR.out]; simp [h0, h1]; omega)
  · have HR : Hid ((decide (qu = 0) && (decide (po = 0) && (decide (sp = 0) && (decide (n1 = 0) && decide (n2 = 0))))) = false) := by unfold Hid; simp [← Int.natCast_eq_zero, h0]
    go_enter Tryz.func98, Tryz.ntmps98
    go_wp2
    go_ret
    refine ⟨?_, (Below.refl _ _).alloc (Nat.le_refl _) _⟩
    first | exact ret_bool HR.out.symm | (rw [HR.out]; simp [h0]; done) | (rw [HR.out]; simp [h0]; omega)
end Go.Proofs.YtnmmglkigiakaaaGreat
namespace Go.Proofs.YtnmmglkigiakaaaGreat
set_option maxRecDepth 100000
set_option maxHeartbeats 32000000
set_option linter.unusedVariables false
set_option linter.unusedSimpArgs false
open Go.ChangeShapes Go.WideShapes Go.ChangeAt Go.RowKit Go.Shelf Go.Sort
theorem queued_at (j c : Nat) (u : Wv) (W : World) (h : SlW W u) (hj : j < u.gs.length) (uj : usAt (gsD u.gs) j = true) (hok : ShOk (gsD u.gs) c) :
    Calls Tryz.prog 86 #[wvV u, .int .i64 (j : Int), .int .i64 (c : Int)] W fun e' w' => e' = .returned (.bool (shAt (gsD u.gs) j c).on) ∧ Below W.heap.size W w' := by
  obtain ⟨e, he, e1, _⟩ := gs_get hj
  obtain ⟨s, hs⟩ := hok j e.d (gsD_at he) (by rw [← e1]; exact uj)
  have hsh : shAt (gsD u.gs) j c = s := by unfold shAt; rw [gsD_at he]; simp [hs]
  rw [hsh]
  exact l8Queued_any j c u e s W h he hs
theorem l8InLine_any (k g c : Nat) (u : Wv) (t : Tk) (w : World) (hs : SlW w u) (ht : treeB (gsD u.gs) = true) (hk : u.ts[k]? = some t) (hg : g < 8) (hu : usAt (gsD u.gs) g = true) (hok : ShOk (gsD u.gs) c) (htg : t.gr = (g : Int)) (htc : t.cpu = (c : Int)) :
    Calls Tryz.prog 49 #[wvV u, .int .i64 (k : Int)] w fun e' w' => e' = .returned (.bool (inlineB (gsD u.gs) t.st g c)) ∧ Below w.heap.size w w' := by
  have h8 := (tree_facts ht).1
  rw [gsD_length] at h8
  have H8 : Hid (u.gs.length = 8) := h8
  clear h8
  obtain ⟨p1, l1, c1, p2, l2, c2, p3, l3, c3, e1, e2, e3, hv⟩ := wv_form hs
  have hQ : ∀ j W, SlW W u → j < 8 → usAt (gsD u.gs) j = true → Calls Tryz.prog 86 #[wvV u, .int .i64 (j : Int), .int .i64 (c : Int)] W fun e' w' => e' = .returned (.bool (shAt (gsD u.gs) j c).on) ∧ Below W.heap.size W w' :=
    fun j W h hj uj => queued_at j c u W h (by rw [H8.out]; exact hj) uj hok
  rw [hv] at hQ ⊢
  obtain ⟨W1, hW1⟩ : ∃ W1, w.alloc (.cells #[.int .i64 u.now, .slice p1 l1 c1, .slice p2 l2 c2, .slice p3 l3 c3] 33) = W1 := ⟨_, rfl⟩
  obtain ⟨hA, acc, hlt⟩ := boxed_w hs e1 e2 e3 hW1
  have hrow : Hid (∀ k, k < 8 → ∃ gr go cap, W1.cell? ⟨w.heap.size, 3, none⟩ = some (.slice (some ⟨gr, go, none⟩) u.gs.length cap) ∧ W1.cell? ⟨gr, go + k * 14 + 1, none⟩ = some (.int .i64 (paAt (gsD u.gs) k)) ∧ k < u.gs.length ∧ u.gs.length ≤ 9223372036854775807 ∧ gr < W1.heap.size) := by
    intro k hk
    obtain ⟨e, he, _, q1, _⟩ := gs_get (vs := u.gs) (k := k) (by rw [H8.out]; exact hk)
    obtain ⟨gr, go, cap, w3, hr, hk', hl⟩ := hA.cellsG he
    obtain ⟨_, y1, _⟩ := gv_cells hr
    exact ⟨gr, go, cap, w3, by rw [q1]; exact y1, hk', hl, block_lt_of_cell y1⟩
  obtain ⟨tg, to, cap, m2, hr, hkl, hlen⟩ := hA.cellsT hk
  obtain ⟨t0, t1, t2, t3, t4, t5, t6, t7, t8⟩ := tk_cells hr
  obtain ⟨o0, o1, o2, o3⟩ := hA.cells
  rw [e1] at o1
  rw [e2] at o2
  rw [e3] at o3
  have ltg : tg < W1.heap.size := block_lt_of_cell t0
  have HS : Hid (SlW w u) := hs
  obtain ⟨st, gr, cpu, ni, ma, v, su, us, lo⟩ := t
  dsimp only at htg htc t0 t1 t2 t3 t4 t5 t6 t7 t8 ⊢
  subst htg htc
  clear hA hs hr e1 e2 e3 hv hk
  by_cases hst : st = 1
  · subst hst
    obtain ⟨Y, hY⟩ : ∃ Y, W1.alloc (.cells #[.int .i64 1, .int .i64 (g : Int), .int .i64 (c : Int), .int .i64 ni, .int .i64 ma, .int .i64 v, .int .i64 su, .int .i64 us, .int .i64 lo] 68) = Y := ⟨_, rfl⟩
    have hB : Below W1.heap.size W1 Y := by rw [← hY]; exact (Below.refl _ _).alloc (Nat.le_refl _) _
    have hT : Y.heap[W1.heap.size]? = some (.cells #[.int .i64 1, .int .i64 (g : Int), .int .i64 (c : Int), .int .i64 ni, .int .i64 ma, .int .i64 v, .int .i64 su, .int .i64 us, .int .i64 lo] 68) := by rw [← hY]; exact heap_alloc_new W1 _
    have htk : Y.rangeAt W1.heap.size 0 [.int .i64 1, .int .i64 (g : Int), .int .i64 (c : Int), .int .i64 ni, .int .i64 ma, .int .i64 v, .int .i64 su, .int .i64 us, .int .i64 lo] := range_of_block hT
    have n0 : Y.cell? ⟨W1.heap.size, 0, none⟩ = some (.int .i64 1) := htk 0 _ rfl
    have n1 : Y.cell? ⟨W1.heap.size, 1, none⟩ = some (.int .i64 (g : Int)) := htk 1 _ rfl
    have n2 : Y.cell? ⟨W1.heap.size, 2, none⟩ = some (.int .i64 (c : Int)) := htk 2 _ rfl
    have lY : W1.heap.size < Y.heap.size := block_lt_of_cell n2
    have HI : Hid (inlineB (gsD u.gs) 1 g c = (outs (gsD u.gs) g).all fun k => (shAt (gsD u.gs) k c).on) := by unfold Hid inlineB; simp
    have a0 := (hB.cell (p := ⟨w.heap.size, 0, none⟩) hlt).trans o0
    have a1 := (hB.cell (p := ⟨w.heap.size, 1, none⟩) hlt).trans o1
    have a2 := (hB.cell (p := ⟨w.heap.size, 2, none⟩) hlt).trans o2
    have a3 := (hB.cell (p := ⟨w.heap.size, 3, none⟩) hlt).trans o3
    have hAY : Below w.heap.size w Y := acc.trans (hB.mono acc.size)
    clear hT htk
    go_enter Tryz.func49, Tryz.ntmps49
    go_wp2
    have hrowY : Hid (∀ k, k < 8 → ∃ gr go cap, Y.cell? ⟨w.heap.size, 3, none⟩ = some (.slice (some ⟨gr, go, none⟩) u.gs.length cap) ∧ Y.cell? ⟨gr, go + k * 14 + 1, none⟩ = some (.int .i64 (paAt (gsD u.gs) k)) ∧ k < u.gs.length ∧ u.gs.length ≤ 9223372036854775807 ∧ gr < Y.heap.size) := by
      intro k hk
      obtain ⟨gr, go, cap, q1, q2, q3, q4, q5⟩ := hrow.out k hk
      exact ⟨gr, go, cap, (hB.cell (p := ⟨w.heap.size, 3, none⟩) hlt).trans q1, (hB.cell (p := ⟨gr, go + k * 14 + 1, none⟩) q5).trans q2, q3, q4, Nat.lt_of_lt_of_le q5 hB.size⟩
    have lw : w.heap.size < Y.heap.size := Nat.lt_of_lt_of_le hlt hB.size
    clear hrow o0 o1 o2 o3 t0 t1 t2 t3 t4 t5 t6 t7 t8 m2 hY hB
    go_loopw [6] (fun t wr => ∃ j : Nat, j < 8 ∧ usAt (gsD u.gs) j = true ∧ t = .int .i64 (j : Int) ∧ Below Y.heap.size Y wr ∧ (outs (gsD u.gs) g).all (fun k => (shAt (gsD u.gs) k c).on) = (outs (gsD u.gs) j).all (fun k => (shAt (gsD u.gs) k c).on)) (fun t _ => (depB (gsD u.gs) (intOf t)).toNat)
    case atStart => exact ⟨g, hg, hu, rfl, Below.refl _ _, rfl⟩
    case round =>
      obtain ⟨j, hj, uj, rfl, hb, hx⟩ := hrel
      have b0 := (hb.cell (p := ⟨w.heap.size, 0, none⟩) lw).trans a0
      have b1 := (hb.cell (p := ⟨w.heap.size, 1, none⟩) lw).trans a1
      have b2 := (hb.cell (p := ⟨w.heap.size, 2, none⟩) lw).trans a2
      have b3 := (hb.cell (p := ⟨w.heap.size, 3, none⟩) lw).trans a3
      have m2 := (hb.cell (p := ⟨W1.heap.size, 2, none⟩) lY).trans n2
      rcases tree_step ht hj uj with ⟨rfl, hd⟩ | ⟨hj0, j', hp, hj', uj', hd, hd', _⟩
      · have HX : Hid (inlineB (gsD u.gs) 1 g c = true) := by
          unfold Hid; rw [HI.out, hx, outs_root ht]; rfl
        clear hx hd
        go_wp2
        go_ret
        exact ⟨by rw [HX.out]; rfl, hAY.trans (hb.mono hAY.size)⟩
      · have hj0' : ¬ (j : Int) = 0 := by omega
        obtain ⟨gr1, go1, cap1, w3, y1, hk1, hl1, lg⟩ := hrowY.out j hj
        rw [hp] at y1
        rw [a3] at w3
        simp only [Option.some.injEq, Value.slice.injEq] at w3
        obtain ⟨rfl, rfl, rfl⟩ := w3
        have HX : Hid ((outs (gsD u.gs) g).all (fun k => (shAt (gsD u.gs) k c).on) = ((shAt (gsD u.gs) j c).on && (outs (gsD u.gs) j').all (fun k => (shAt (gsD u.gs) k c).on))) := by
          unfold Hid
          rw [hx, outs_step hj0 hp hd hd']; rfl
        have HD : Hid (depB (gsD u.gs) (j : Int) = depB (gsD u.gs) (j' : Int) + 1 ∧ 0 ≤ depB (gsD u.gs) (j' : Int)) := ⟨hd, hd'⟩
        have hw := HS.out.below (hAY.trans (hb.mono hAY.size))
        have hq := hQ j _ hw hj uj
        clear hx hd hd' hp hQ hw
        cases hon : (shAt (gsD u.gs) j c).on
        · rw [hon] at hq
          go_wp2_with (go_at_call 86; refine hq.mono ?_; rintro e' w' ⟨rfl, hb2⟩)
          go_ret
          refine ⟨by rw [HI.out, HX.out, hon]; rfl, ?_⟩
          exact hAY.trans ((hb.trans (hb2.mono hb.size)).mono hAY.size)
        · rw [hon] at hq
          go_wp2_with (go_at_call 86; refine hq.mono ?_; rintro e' w' ⟨rfl, hb2⟩; have hbb := hb.trans (hb2.mono hb.size); have b3 := (hbb.cell (p := ⟨w.heap.size, 3, none⟩) lw).trans a3; have y1 := (hbb.cell lg).trans y1; clear hb2)
          refine ⟨⟨j', hj', uj', rfl, hbb, by rw [HX.out, hon]; rfl⟩, ?_⟩
          have := HD.out
          simp only [intOf]; omega
  · have HI : Hid (inlineB (gsD u.gs) st g c = false) := by unfold Hid inlineB; simp [hst]
    go_enter Tryz.func49, Tryz.ntmps49
    go_wp2
    go_ret
    exact ⟨by rw [HI.out]; rfl, (acc.alloc acc.size _)⟩
def actG (ds : List Gr) (g : Int) (c k : Nat) : Bool := usAt ds k && (decide (paAt ds k = g) && (shAt ds k c).on)
def actB (ts : List Tk) (ds : List Gr) (g : Int) (c : Nat) : Bool := decide (∃ k, k < ts.length ∧ taskIn ts g (c : Int) k = true) || decide (∃ k, k < ds.length ∧ k ≠ 0 ∧ actG ds g c k = true)
theorem actB_task {ts : List Tk} {ds : List Gr} {g : Int} {c k : Nat} (hk : k < ts.length) (h : taskIn ts g (c : Int) k = true) : actB ts ds g c = true := by
  unfold actB; rw [decide_eq_true (p := ∃ k, k < ts.length ∧ taskIn ts g (c : Int) k = true) ⟨k, hk, h⟩]; rfl
theorem actB_group {ts : List Tk} {ds : List Gr} {g : Int} {c k : Nat} (hk : k < ds.length) (h0 : k ≠ 0) (h : actG ds g c k = true) : actB ts ds g c = true := by
  unfold actB; rw [decide_eq_true (p := ∃ k, k < ds.length ∧ k ≠ 0 ∧ actG ds g c k = true) ⟨k, hk, h0, h⟩, Bool.or_true]
theorem actB_no {ts : List Tk} {ds : List Gr} {g : Int} {c : Nat} (h1 : ∀ k, k < ts.length → taskIn ts g (c : Int) k = false) (h2 : ∀ k, k < ds.length → k ≠ 0 → actG ds g c k = false) : actB ts ds g c = false := by
  unfold actB
  rw [decide_eq_false (p := ∃ k, k < ts.length ∧ taskIn ts g (c : Int) k = true) (by rintro ⟨k, a, b⟩; rw [h1 k a] at b; cases b), decide_eq_false (p := ∃ k, k < ds.length ∧ k ≠ 0 ∧ actG ds g c k = true) (by rintro ⟨k, a, b, d⟩; rw [h2 k a b] at d; cases d)]; rfl
theorem l8Active_any (g : Int) (c : Nat) (u : Wv) (w : World) (hs : SlW w u) (hl8 : u.gs.length = 8) (hok : ShOk (gsD u.gs) c) :
    Calls Tryz.prog 105 #[wvV u, .int .i64 g, .int .i64 (c : Int)] w fun e' w' => e' = .returned (.bool (actB u.ts (gsD u.gs) g c)) ∧ Below w.heap.size w w' := by
  have H8 : Hid (u.gs.length = 8) := hl8
  clear hl8
  obtain ⟨p1, l1, c1, p2, l2, c2, p3, l3, c3, e1, e2, e3, hv⟩ := wv_form hs
  have hQ : ∀ j W, SlW W u → j < 8 → usAt (gsD u.gs) j = true → Calls Tryz.prog 86 #[wvV u, .int .i64 (j : Int), .int .i64 (c : Int)] W fun e' w' => e' = .returned (.bool (shAt (gsD u.gs) j c).on) ∧ Below W.heap.size W w' :=
    fun j W h hj uj => queued_at j c u W h (by rw [H8.out]; exact hj) uj hok
  rw [hv] at hQ ⊢
  obtain ⟨W1, hW1⟩ : ∃ W1, w.alloc (.cells #[.int .i64 u.now, .slice p1 l1 c1, .slice p2 l2 c2, .slice p3 l3 c3] 33) = W1 := ⟨_, rfl⟩
  obtain ⟨hA, acc, hlt⟩ := boxed_w hs e1 e2 e3 hW1
  have hrow : Hid (∀ k, k < 8 → ∃ gr go, p3 = some ⟨gr, go, none⟩ ∧ W1.cell? ⟨gr, go + k * 14, none⟩ = some (.bool (usAt (gsD u.gs) k)) ∧ W1.cell? ⟨gr, go + k * 14 + 1, none⟩ = some (.int .i64 (paAt (gsD u.gs) k)) ∧ gr < W1.heap.size) := by
    intro k hk
    obtain ⟨e, he, q0, q1, _⟩ := gs_get (vs := u.gs) (k := k) (by rw [H8.out]; exact hk)
    obtain ⟨gr, go, cap, w3, hr, hk', hl⟩ := hA.cellsG he
    obtain ⟨y0, y1, _⟩ := gv_cells hr
    obtain ⟨_, _, _, o3⟩ := hA.cells
    rw [e3] at o3
    rw [o3] at w3
    simp only [Option.some.injEq, Value.slice.injEq] at w3
    exact ⟨gr, go, w3.1, by rw [q0]; exact y0, by rw [q1]; exact y1, block_lt_of_cell y0⟩
  have hl3 : l3 = 8 := by
    obtain ⟨e, he, _⟩ := gs_get (vs := u.gs) (k := 0) (by rw [H8.out]; decide)
    obtain ⟨gr, go, cap, w3, hr, hk', hl⟩ := hA.cellsG he
    obtain ⟨_, _, _, o3⟩ := hA.cells
    rw [e3] at o3
    rw [o3] at w3
    simp only [Option.some.injEq, Value.slice.injEq] at w3
    rw [w3.2.1, H8.out]
  have htrow : Hid (∀ k t, u.ts[k]? = some t → ∃ gr go, p2 = some ⟨gr, go, none⟩ ∧ W1.cell? ⟨gr, go + k * 9, none⟩ = some (.int .i64 t.st) ∧ W1.cell? ⟨gr, go + k * 9 + 1, none⟩ = some (.int .i64 t.gr) ∧ W1.cell? ⟨gr, go + k * 9 + 2, none⟩ = some (.int .i64 t.cpu)) := by
    intro k t hk
    obtain ⟨gr, go, cap, w3, hr, hk', hl⟩ := hA.cellsT hk
    obtain ⟨y0, y1, y2, _⟩ := tk_cells hr
    obtain ⟨_, _, o2, _⟩ := hA.cells
    rw [e2] at o2
    rw [o2] at w3
    simp only [Option.some.injEq, Value.slice.injEq] at w3
    exact ⟨gr, go, w3.1, y0, y1, y2⟩
  have hl2 : l2 = u.ts.length ∧ u.ts.length ≤ 9223372036854775807 := by
    obtain ⟨p, cp, q, hq⟩ := hs.2.1.form
    rw [e2] at q
    simp only [Value.slice.injEq] at q
    exact ⟨q.2.1, hq⟩
  obtain ⟨rfl, hlm⟩ := hl2
  subst hl3
  obtain ⟨o0, o1, o2, o3⟩ := hA.cells
  rw [e1] at o1
  rw [e2] at o2
  rw [e3] at o3
  have HS : Hid (SlW w u) := hs
  have HB : Hid (Below w.heap.size w W1) := acc
  clear hA hs e1 e2 e3 hv acc
  go_enter Tryz.func105, Tryz.ntmps105
  go_wp2
  go_loop [7] (fun t => ∃ k : Nat, k ≤ u.ts.length ∧ t = .int .i64 (k : Int) ∧ ∀ i, i < k → taskIn u.ts g (c : Int) i = false) (fun t => u.ts.length - (intOf t).toNat)
  case atStart => exact ⟨0, Nat.zero_le _, rfl, fun i hi => absurd hi (Nat.not_lt_zero _)⟩
  case round =>
    obtain ⟨k, hk, rfl, hno⟩ := hrel
    by_cases hlt1 : k < u.ts.length
    · have hlt' : (k : Int) < (u.ts.length : Int) := by omega
      obtain ⟨t, ht⟩ : ∃ t, u.ts[k]? = some t := ⟨_, List.getElem?_eq_getElem hlt1⟩
      obtain ⟨gr, go, rfl, y0, y1, y2⟩ := htrow.out k t ht
      have HT : Hid (taskIn u.ts g (c : Int) k = decide (t.st = 1 ∧ t.gr = g ∧ t.cpu = (c : Int))) := by unfold Hid taskIn; rw [ht]; rfl
      have HN : Hid (∀ i, i < k → taskIn u.ts g (c : Int) i = false) := hno
      have HK : Hid (k < u.ts.length) := hlt1
      clear hno ht
      by_cases h1 : t.st = 1
      · by_cases h2 : t.gr = g
        · by_cases h3 : t.cpu = (c : Int)
          · have HA : Hid (actB u.ts (gsD u.gs) g c = true) := actB_task HK.out (by rw [HT.out]; simp [h1, h2, h3])
            rw [h1] at y0
            rw [h2] at y1
            rw [h3] at y2
            go_wp2
            go_ret
            exact ⟨by rw [HA.out]; rfl, HB.out⟩
          · have HF : Hid (taskIn u.ts g (c : Int) k = false) := by unfold Hid; rw [HT.out]; simp [h3]
            rw [h1] at y0
            rw [h2] at y1
            go_wp2
            refine ⟨⟨k + 1, HK.out, by go_num, fun i hi => ?_⟩, by simp [intOf]; omega⟩
            rcases Nat.lt_succ_iff_lt_or_eq.1 hi with h | rfl
            · exact HN.out i h
            · exact HF.out
        · have HF : Hid (taskIn u.ts g (c : Int) k = false) := by unfold Hid; rw [HT.out]; simp [h2]
          rw [h1] at y0
          go_wp2
          refine ⟨⟨k + 1, HK.out, by go_num, fun i hi => ?_⟩, by simp [intOf]; omega⟩
          rcases Nat.lt_succ_iff_lt_or_eq.1 hi with h | rfl
          · exact HN.out i h
          · exact HF.out
      · have HF : Hid (taskIn u.ts g (c : Int) k = false) := by unfold Hid; rw [HT.out]; simp [h1]
        go_wp2
        refine ⟨⟨k + 1, HK.out, by go_num, fun i hi => ?_⟩, by simp [intOf]; omega⟩
        rcases Nat.lt_succ_iff_lt_or_eq.1 hi with h | rfl
        · exact HN.out i h
        · exact HF.out
    · have hlt' : ¬ (k : Int) < (u.ts.length : Int) := by omega
      obtain rfl : k = u.ts.length := by omega
      have HN : Hid (∀ i, i < u.ts.length → taskIn u.ts g (c : Int) i = false) := hno
      clear hno hlt1
      go_wp2
      go_loopw [8] (fun t wr => ∃ k : Nat, 1 ≤ k ∧ k ≤ 8 ∧ t = .int .i64 (k : Int) ∧ Below W1.heap.size W1 wr ∧ ∀ i, i < k → i ≠ 0 → actG (gsD u.gs) g c i = false) (fun t _ => 8 - (intOf t).toNat)
      case atStart => exact ⟨1, Nat.le_refl _, by decide, rfl, Below.refl _ _, fun i hi h0 => absurd hi (by omega)⟩
      case round =>
        obtain ⟨k, hk1, hk8, rfl, hb, hnog⟩ := hrel
        have b0 := (hb.cell (p := ⟨w.heap.size, 0, none⟩) hlt).trans o0
        have b1 := (hb.cell (p := ⟨w.heap.size, 1, none⟩) hlt).trans o1
        have b2 := (hb.cell (p := ⟨w.heap.size, 2, none⟩) hlt).trans o2
        have b3 := (hb.cell (p := ⟨w.heap.size, 3, none⟩) hlt).trans o3
        have HG : Hid (∀ i, i < k → i ≠ 0 → actG (gsD u.gs) g c i = false) := hnog
        clear hnog
        by_cases hkl : k < 8
        · have hlt' : (k : Int) < 8 := by omega
          obtain ⟨gr, go, rfl, y0, y1, lg⟩ := hrow.out k hkl
          obtain ⟨y0, y1⟩ := cells_2 hb lg y0 y1
          have HK : Hid (k < 8 ∧ 1 ≤ k) := ⟨hkl, hk1⟩
          have HW : Hid (Below w.heap.size w _) := HB.out.trans (hb.mono HB.out.size)
          have next : ∀ wr', Below W1.heap.size W1 wr' → Hid (actG (gsD u.gs) g c k = false) → (∃ k' : Nat, 1 ≤ k' ∧ k' ≤ 8 ∧ Value.int .i64 ((k : Int) + 1) = .int .i64 (k' : Int) ∧ Below W1.heap.size W1 wr' ∧ ∀ i, i < k' → i ≠ 0 → actG (gsD u.gs) g c i = false) := by
            intro wr' hb' hf
            refine ⟨k + 1, by omega, by have := HK.out; omega, rfl, hb', fun i hi h0 => ?_⟩
            rcases Nat.lt_succ_iff_lt_or_eq.1 hi with h | rfl
            · exact HG.out i h h0
            · exact hf.out
          have NX : Hid (∀ wr', Below W1.heap.size W1 wr' → Hid (actG (gsD u.gs) g c k = false) → (∃ k' : Nat, 1 ≤ k' ∧ k' ≤ 8 ∧ Value.int .i64 ((k : Int) + 1) = .int .i64 (k' : Int) ∧ Below W1.heap.size W1 wr' ∧ ∀ i, i < k' → i ≠ 0 → actG (gsD u.gs) g c i = false)) := next
          clear next
          cases hu : usAt (gsD u.gs) k
          · have HF : Hid (actG (gsD u.gs) g c k = false) := by unfold Hid actG; rw [hu]; rfl
            rw [hu] at y0
            go_wp2
            exact ⟨NX.out _ hb HF, by simp [intOf]; omega⟩
          · by_cases hp : paAt (gsD u.gs) k = g
            · have hq := hQ k _ (HS.out.below HW.out) HK.out.1 hu
              rw [hu] at y0
              rw [hp] at y1
              cases hon : (shAt (gsD u.gs) k c).on
              · have HF : Hid (actG (gsD u.gs) g c k = false) := by unfold Hid actG; rw [hon]; simp
                rw [hon] at hq
                clear hQ
                go_wp2_with (go_at_call 86; refine hq.mono ?_; rintro e' w' ⟨rfl, hb2⟩)
                exact ⟨NX.out _ (hb.trans (hb2.mono hb.size)) HF, by simp [intOf]; omega⟩
              · have HA : Hid (actB u.ts (gsD u.gs) g c = true) := actB_group (by rw [gsD_length, H8.out]; exact HK.out.1) (by have := HK.out.2; omega) (by unfold actG; rw [hu, hon, hp]; simp)
                rw [hon] at hq
                clear hQ
                go_wp2_with (go_at_call 86; refine hq.mono ?_; rintro e' w' ⟨rfl, hb2⟩)
                go_ret
                exact ⟨by rw [HA.out]; rfl, HW.out.trans (hb2.mono HW.out.size)⟩
            · have HF : Hid (actG (gsD u.gs) g c k = false) := by unfold Hid actG; simp [hp]
              rw [hu] at y0
              go_wp2
              exact ⟨NX.out _ hb HF, by simp [intOf]; omega⟩
        · have hlt' : ¬ (k : Int) < 8 := by omega
          obtain rfl : k = 8 := by omega
          have HA : Hid (actB u.ts (gsD u.gs) g c = false) := actB_no HN.out (fun i hi h0 => HG.out i (by rw [gsD_length, H8.out] at hi; exact hi) h0)
          go_wp2
          go_ret
          exact ⟨by rw [HA.out]; rfl, HB.out.trans (hb.mono HB.out.size)⟩
def timeB (n : Int) : Bool := l1in n 0 100000000000000000
def noGroupB (d : Gr) : Bool := !d.us && (decide (d.pa = 0) && ((d.na.toList == []) && (decide (d.we = 0) && (decide (d.cp = 0) && (decide (d.sh.length = 0) && (decide (d.pe = 0) && (decide (d.ne = 0) && (decide (d.su = 0) && noBandB d.ba))))))))
def quotaB (now : Int) (n : Nat) (d : Gr) : Bool :=
  if d.ba.qu = 0 then noBandB d.ba && (decide (d.pe = 0) && decide (d.ne = 0))
  else bandOk d.ba && (decide (d.ba.lo.length = n) && (l1in d.pe 1 1000 && (decide (now < d.ne) && decide (wrap64 (d.ne - now) ≤ d.pe))))
def rootGB (d : Gr) : Bool := decide (d.we = 10) && (decide (d.cp = 15) && noBandB d.ba)
def groupB (now : Int) (n k : Nat) (d : Gr) : Bool :=
  if d.us = false then noGroupB d
  else (decide (k ≠ 0) || rootGB d) && (l1in d.we 1 20 && (setB d.cp && (timeB d.su && (decide (d.sh.length = n) && quotaB now n d))))
def shelfNB (k : Nat) (s : Sh) : Bool :=
  (timeB s.fl && (timeB s.v && (timeB s.s && l1in s.w 1 20))) && (decide (k ≠ 0) || (!s.on && (decide (s.v = 0) && decide (s.w = 10))))
def queueB (ts : List Tk) (ds : List Gr) (c k : Nat) (s : Sh) (ba : Ba) : Bool :=
  ((s.on == (actB ts ds (k : Int) c && !dryB ba c))) && (!s.on || withinB s.v (shAt ds (paAt ds k).toNat c).fl (vstep 149 s.w))
def taskWellB (ds : List Gr) (t : Tk) : Bool := withinB t.v (shAt ds t.gr.toNat t.cpu.toNat).fl (vstep 149 (wof t.ni))
def placesB (u : Wv) : Bool := timeB u.now && (l1in u.cs.length 1 4 && (decide (upsM u.cs ≠ 0) && (decide (u.ts.length = 12) && treeB (gsD u.gs))))
end Go.Proofs.YtnmmglkigiakaaaGreat
namespace Go.Proofs.YtnmmglkigiakaaaGreat
set_option maxRecDepth 100000
set_option maxHeartbeats 32000000
set_option linter.unusedVariables false
set_option linter.unusedSimpArgs false
open Go.ChangeShapes Go.WideShapes Go.ChangeAt Go.RowKit Go.Shelf Go.Sort
attribute [local go_sem] Oper.semAt_some
theorem noBand_ne {qu po sp : Int} {lo : List Int} {dr : List Bool} (h : ¬ qu = 0) : noBandB ⟨qu, po, sp, lo, dr⟩ = false := by unfold noBandB; simp [h]
theorem l1Weight_any (n : Int) (w : World) : Calls Tryz.prog 99 #[.int .i64 n] w fun e w' => e = .returned (.bool (l1in n 1 20)) ∧ w' = w := by
  by_cases a : 1 ≤ n
  · by_cases b : n ≤ 20
    · rw [l1in_iff.2 ⟨a, b⟩]; exact l1Weight_yes n w a b
    · rw [l1in_no (by omega)]; exact l1Weight_no n w (by omega)
  · rw [l1in_no (by omega)]; exact l1Weight_no n w (by omega)
theorem spec_maskOk (n : Int) (w : World) : Calls Tryz.prog 100 #[.int .i64 n] w fun e w' => e = .returned (.bool (l1in n 0 15)) ∧ w' = w := Msk.spec_ok n w
theorem specGroup_no (k : Nat) (u : Wv) (e : Gv) (w : World) (hs : SlW w u) (he : u.gs[k]? = some e) (hu : e.d.us = false) :
    Calls Tryz.prog 64 #[wvV u, .int .i64 ((k : Nat) : Int)] w fun e' w' => e' = .returned (.bool (groupB u.now u.cs.length k e.d)) ∧ Below w.heap.size w w' := by
  obtain ⟨p1, l1, c1, p2, l2, c2, p3, l3, c3, e1, e2, e3, hv⟩ := wv_form hs
  rw [hv]
  obtain ⟨W1, hW1⟩ : ∃ W1, w.alloc (.cells #[.int .i64 u.now, .slice p1 l1 c1, .slice p2 l2 c2, .slice p3 l3 c3] 33) = W1 := ⟨_, rfl⟩
  obtain ⟨hA, acc0, hlt⟩ := boxed_w hs e1 e2 e3 hW1
  obtain ⟨gr, go, cap, w3, hr, hk, hl⟩ := hA.cellsG he
  obtain ⟨y0, y1, y2, y3, y4, y5, y6, y7, y8, y9, y10, y11, y12, y13⟩ := gv_cells hr
  have hok := hA.2.2.2.2 e (List.mem_of_getElem? he)
  obtain ⟨o0, o1, _, o3⟩ := hA.cells
  obtain ⟨k1, m1, f1, hlc⟩ := SlR.form hs.1
  rw [e1] at f1
  simp only [Value.slice.injEq] at f1
  obtain ⟨rfl, rfl, rfl⟩ := f1
  rw [e1] at o1
  rw [e3] at o3
  rw [o3] at w3
  simp only [Option.some.injEq, Value.slice.injEq] at w3
  obtain ⟨rfl, rfl, rfl⟩ := w3
  obtain ⟨⟨us, pa, na, we, cp, pe, ne, su, ⟨qu, po, sp, lo, dr⟩, sh⟩, x, y, z⟩ := e
  dsimp only at hok hu y0 y1 y2 y3 y4 y5 y6 y7 y8 y9 y10 y11 y12 y13 ⊢
  subst hu
  obtain ⟨hb, hz⟩ := hok
  obtain ⟨q1, d1, f1, hl1⟩ := hb.1.form
  obtain ⟨q2, d2, f2, hl2⟩ := hb.2.form
  obtain ⟨q3, d3, f3, hl3⟩ := SlR.form hz
  dsimp only at f1 f2 f3 hl1 hl2 hl3 y11 y12 y13
  subst f1 f2 f3
  have HBa : Hid (SlBa W1 (.slice q1 lo.length d1) (.slice q2 dr.length d2) ⟨qu, po, sp, lo, dr⟩) := hb
  obtain ⟨n1, hn1⟩ : ∃ n, lo.length = n := ⟨_, rfl⟩
  obtain ⟨n2, hn2⟩ : ∃ n, dr.length = n := ⟨_, rfl⟩
  obtain ⟨n3, hn3⟩ : ∃ n, sh.length = n := ⟨_, rfl⟩
  obtain ⟨nc, hnc⟩ : ∃ n, u.cs.length = n := ⟨_, rfl⟩
  obtain ⟨now, hnow⟩ : ∃ n, u.now = n := ⟨_, rfl⟩
  rw [hn1] at hl1 HBa y11
  rw [hn2] at hl2 HBa y12
  rw [hn3] at hl3 y13
  rw [hnc] at o1 hW1 hlc ⊢
  rw [hnow] at o0 hW1 ⊢
  obtain ⟨W2, hW2⟩ : ∃ W2, W1.alloc (.cells #[.bool false, .int .i64 pa, .string na, .int .i64 we, .int .i64 cp, .int .i64 pe, .int .i64 ne, .int .i64 su, .int .i64 qu, .int .i64 po, .int .i64 sp, .slice q1 n1 d1, .slice q2 n2 d2, .slice q3 n3 d3] 84) = W2 := ⟨_, rfl⟩
  have B2 : Below W1.heap.size W1 W2 := by rw [← hW2]; exact (Below.refl _ _).alloc (Nat.le_refl _) _
  have gb : W2.heap[W1.heap.size]? = some (.cells #[.bool false, .int .i64 pa, .string na, .int .i64 we, .int .i64 cp, .int .i64 pe, .int .i64 ne, .int .i64 su, .int .i64 qu, .int .i64 po, .int .i64 sp, .slice q1 n1 d1, .slice q2 n2 d2, .slice q3 n3 d3] 84 (0, 0)) := by rw [← hW2]; exact World.alloc_heap_new W1 _
  have lg : W1.heap.size < W2.heap.size := by rw [← hW2]; simp
  obtain ⟨g0, g1, g2, g3, g4, g5, g6, g7, g8, g9, g10, g11, g12, g13⟩ := gbox gb
  have acc : Below w.heap.size w W2 := acc0.trans (B2.mono acc0.size)
  have HBB : Hid (SlBa W2 (.slice q1 n1 d1) (.slice q2 n2 d2) ⟨qu, po, sp, lo, dr⟩) := HBa.out.below B2
  have lw : w.heap.size < W2.heap.size := Nat.lt_of_lt_of_le hlt B2.size
  have t0 := (B2.cell (p := ⟨w.heap.size, 0, none⟩) hlt).trans o0
  have t1 := (B2.cell (p := ⟨w.heap.size, 1, none⟩) hlt).trans o1
  have HN : Hid (lo.length = n1 ∧ dr.length = n2 ∧ sh.length = n3) := ⟨hn1, hn2, hn3⟩
  clear hA hs he hr e1 e2 e3 hv hb hz B2 HBa gb hnc hnow hn1 hn2 hn3
  by_cases h0 : pa = 0
  · subst h0
    cases h1 : (na.toList == [])
    · have HR : Hid (groupB now nc k ⟨false, 0, na, we, cp, pe, ne, su, ⟨qu, po, sp, lo, dr⟩, sh⟩ = false) := by unfold Hid; simp [noBand_ne, groupB, noGroupB, quotaB, rootGB, setB, timeB, HN.out.1, HN.out.2.1, HN.out.2.2, ← Int.natCast_eq_zero, h1]
      go_enter Tryz.func64, Tryz.ntmps64
      go_wp2_with (first | (go_at_call 99; refine (l1Weight_any _ _).mono ?_; rintro e1 w1 ⟨rfl, rfl⟩) | (go_at_call 100; refine (spec_maskOk _ _).mono ?_; rintro e1 w1 ⟨rfl, rfl⟩) | (go_at_call 101; refine (l4Time_any _ _).mono ?_; rintro e1 w1 ⟨rfl, rfl⟩) | (go_at_call 33; refine (l1In_any _ _ _ _).mono ?_; rintro e1 w1 ⟨rfl, rfl⟩) | (go_at_call 98; refine (l8NoBand_any ⟨qu, po, sp, lo, dr⟩ _ _ _ HBB.out).mono ?_; rintro e1 w1 ⟨rfl, hb1⟩; obtain ⟨t0, t1⟩ := cells_2 hb1 lw t0 t1; obtain ⟨g5, g6, g11⟩ := cells_3 hb1 lg g5 g6 g11; replace acc := acc.trans (hb1.mono acc.size); clear hb1) | (go_at_call 102; refine (spec_bandOk ⟨qu, po, sp, lo, dr⟩ _ _ _ HBB.out).mono ?_; rintro e1 w1 ⟨rfl, hb1⟩; obtain ⟨t0, t1⟩ := cells_2 hb1 lw t0 t1; obtain ⟨g5, g6, g11⟩ := cells_3 hb1 lg g5 g6 g11; replace acc := acc.trans (hb1.mono acc.size); clear hb1))
      go_ret
      refine ⟨?_, acc⟩
      first | exact ret_bool HR.out.symm | (rw [HR.out]; simp [h1]; done) | (rw [HR.out]; simp [h1]; omega)
    · by_cases h2 : we = 0
      · subst h2
        by_cases h3 : cp = 0
        · subst h3
          by_cases h4 : pe = 0
          · subst h4
            by_cases h5 : ne = 0
            · subst h5
              by_cases h6 : su = 0
              · subst h6
                by_cases h7 : (n3 : Int) = 0
                · cases h8 : noBandB ⟨qu, po, sp, lo, dr⟩
                  · have HR : Hid (groupB now nc k ⟨false, 0, na, 0, 0, 0, 0, 0, ⟨qu, po, sp, lo, dr⟩, sh⟩ = false) := by unfold Hid; simp [noBand_ne, groupB, noGroupB, quotaB, rootGB, setB, timeB, HN.out.1, HN.out.2.1, HN.out.2.2, ← Int.natCast_eq_zero, h1, h7, h8]
                    go_enter Tryz.func64, Tryz.ntmps64
                    go_wp2_with (first | (go_at_call 99; refine (l1Weight_any _ _).mono ?_; rintro e1 w1 ⟨rfl, rfl⟩) | (go_at_call 100; refine (spec_maskOk _ _).mono ?_; rintro e1 w1 ⟨rfl, rfl⟩) | (go_at_call 101; refine (l4Time_any _ _).mono ?_; rintro e1 w1 ⟨rfl, rfl⟩) | (go_at_call 33; refine (l1In_any _ _ _ _).mono ?_; rintro e1 w1 ⟨rfl, rfl⟩) | (go_at_call 98; refine (l8NoBand_any ⟨qu, po, sp, lo, dr⟩ _ _ _ HBB.out).mono ?_; rintro e1 w1 ⟨rfl, hb1⟩; obtain ⟨t0, t1⟩ := cells_2 hb1 lw t0 t1; obtain ⟨g5, g6, g11⟩ := cells_3 hb1 lg g5 g6 g11; replace acc := acc.trans (hb1.mono acc.size); clear hb1) | (go_at_call 102; refine (spec_bandOk ⟨qu, po, sp, lo, dr⟩ _ _ _ HBB.out).mono ?_; rintro e1 w1 ⟨rfl, hb1⟩; obtain ⟨t0, t1⟩ := cells_2 hb1 lw t0 t1; obtain ⟨g5, g6, g11⟩ := cells_3 hb1 lg g5 g6 g11; replace acc := acc.trans (hb1.mono acc.size); clear hb1))
                    go_ret
                    refine ⟨?_, acc⟩
                    first | exact ret_bool HR.out.symm | (rw [HR.out]; simp [h1, h7, h8]; done) | (rw [HR.out]; simp [h1, h7, h8]; omega)
                  · have HR : Hid (groupB now nc k ⟨false, 0, na, 0, 0, 0, 0, 0, ⟨qu, po, sp, lo, dr⟩, sh⟩ = true) := by unfold Hid; simp [noBand_ne, groupB, noGroupB, quotaB, rootGB, setB, timeB, HN.out.1, HN.out.2.1, HN.out.2.2, ← Int.natCast_eq_zero, h1, h7, h8]
                    go_enter Tryz.func64, Tryz.ntmps64
                    go_wp2_with (first | (go_at_call 99; refine (l1Weight_any _ _).mono ?_; rintro e1 w1 ⟨rfl, rfl⟩) | (go_at_call 100; refine (spec_maskOk _ _).mono ?_; rintro e1 w1 ⟨rfl, rfl⟩) | (go_at_call 101; refine (l4Time_any _ _).mono ?_; rintro e1 w1 ⟨rfl, rfl⟩) | (go_at_call 33; refine (l1In_any _ _ _ _).mono ?_; rintro e1 w1 ⟨rfl, rfl⟩) | (go_at_call 98; refine (l8NoBand_any ⟨qu, po, sp, lo, dr⟩ _ _ _ HBB.out).mono ?_; rintro e1 w1 ⟨rfl, hb1⟩; obtain ⟨t0, t1⟩ := cells_2 hb1 lw t0 t1; obtain ⟨g5, g6, g11⟩ := cells_3 hb1 lg g5 g6 g11; replace acc := acc.trans (hb1.mono acc.size); clear hb1) | (go_at_call 102; refine (spec_bandOk ⟨qu, po, sp, lo, dr⟩ _ _ _ HBB.out).mono ?_; rintro e1 w1 ⟨rfl, hb1⟩; obtain ⟨t0, t1⟩ := cells_2 hb1 lw t0 t1; obtain ⟨g5, g6, g11⟩ := cells_3 hb1 lg g5 g6 g11; replace acc := acc.trans (hb1.mono acc.size); clear hb1))
                    go_ret
                    refine ⟨?_, acc⟩
                    first | exact ret_bool HR.out.symm | (rw [HR.out]; simp [h1, h7, h8]; done) | (rw [HR.out]; simp [h1, h7, h8]; omega)
                · have HR : Hid (groupB now nc k ⟨false, 0, na, 0, 0, 0, 0, 0, ⟨qu, po, sp, lo, dr⟩, sh⟩ = false) := by unfold Hid; simp [noBand_ne, groupB, noGroupB, quotaB, rootGB, setB, timeB, HN.out.1, HN.out.2.1, HN.out.2.2, ← Int.natCast_eq_zero, h1, h7]
                  go_enter Tryz.func64, Tryz.ntmps64
                  go_wp2_with (first | (go_at_call 99; refine (l1Weight_any _ _).mono ?_; rintro e1 w1 ⟨rfl, rfl⟩) | (go_at_call 100; refine (spec_maskOk _ _).mono ?_; rintro e1 w1 ⟨rfl, rfl⟩) | (go_at_call 101; refine (l4Time_any _ _).mono ?_; rintro e1 w1 ⟨rfl, rfl⟩) | (go_at_call 33; refine (l1In_any _ _ _ _).mono ?_; rintro e1 w1 ⟨rfl, rfl⟩) | (go_at_call 98; refine (l8NoBand_any ⟨qu, po, sp, lo, dr⟩ _ _ _ HBB.out).mono ?_; rintro e1 w1 ⟨rfl, hb1⟩; obtain ⟨t0, t1⟩ := cells_2 hb1 lw t0 t1; obtain ⟨g5, g6, g11⟩ := cells_3 hb1 lg g5 g6 g11; replace acc := acc.trans (hb1.mono acc.size); clear hb1) | (go_at_call 102; refine (spec_bandOk ⟨qu, po, sp, lo, dr⟩ _ _ _ HBB.out).mono ?_; rintro e1 w1 ⟨rfl, hb1⟩; obtain ⟨t0, t1⟩ := cells_2 hb1 lw t0 t1; obtain ⟨g5, g6, g11⟩ := cells_3 hb1 lg g5 g6 g11; replace acc := acc.trans (hb1.mono acc.size); clear hb1))
                  go_ret
                  refine ⟨?_, acc⟩
                  first | exact ret_bool HR.out.symm | (rw [HR.out]; simp [h1, h7]; done) | (rw [HR.out]; simp [h1, h7]; omega)
              · have HR : Hid (groupB now nc k ⟨false, 0, na, 0, 0, 0, 0, su, ⟨qu, po, sp, lo, dr⟩, sh⟩ = false) := by unfold Hid; simp [noBand_ne, groupB, noGroupB, quotaB, rootGB, setB, timeB, HN.out.1, HN.out.2.1, HN.out.2.2, ← Int.natCast_eq_zero, h1, h6]
                go_enter Tryz.func64, Tryz.ntmps64
                go_wp2_with (first | (go_at_call 99; refine (l1Weight_any _ _).mono ?_; rintro e1 w1 ⟨rfl, rfl⟩) | (go_at_call 100; refine (spec_maskOk _ _).mono ?_; rintro e1 w1 ⟨rfl, rfl⟩) | (go_at_call 101; refine (l4Time_any _ _).mono ?_; rintro e1 w1 ⟨rfl, rfl⟩) | (go_at_call 33; refine (l1In_any _ _ _ _).mono ?_; rintro e1 w1 ⟨rfl, rfl⟩) | (go_at_call 98; refine (l8NoBand_any ⟨qu, po, sp, lo, dr⟩ _ _ _ HBB.out).mono ?_; rintro e1 w1 ⟨rfl, hb1⟩; obtain ⟨t0, t1⟩ := cells_2 hb1 lw t0 t1; obtain ⟨g5, g6, g11⟩ := cells_3 hb1 lg g5 g6 g11; replace acc := acc.trans (hb1.mono acc.size); clear hb1) | (go_at_call 102; refine (spec_bandOk ⟨qu, po, sp, lo, dr⟩ _ _ _ HBB.out).mono ?_; rintro e1 w1 ⟨rfl, hb1⟩; obtain ⟨t0, t1⟩ := cells_2 hb1 lw t0 t1; obtain ⟨g5, g6, g11⟩ := cells_3 hb1 lg g5 g6 g11; replace acc := acc.trans (hb1.mono acc.size); clear hb1))
                go_ret
                refine ⟨?_, acc⟩
                first | exact ret_bool HR.out.symm | (rw [HR.out]; simp [h1, h6]; done) | (rw [HR.out]; simp [h1, h6]; omega)
            · have HR : Hid (groupB now nc k ⟨false, 0, na, 0, 0, 0, ne, su, ⟨qu, po, sp, lo, dr⟩, sh⟩ = false) := by unfold Hid; simp [noBand_ne, groupB, noGroupB, quotaB, rootGB, setB, timeB, HN.out.1, HN.out.2.1, HN.out.2.2, ← Int.natCast_eq_zero, h1, h5]
              go_enter Tryz.func64, Tryz.ntmps64
              go_wp2_with (first | (go_at_call 99; refine (l1Weight_any _ _).mono ?_; rintro e1 w1 ⟨rfl, rfl⟩) | (go_at_call 100; refine (spec_maskOk _ _).mono ?_; rintro e1 w1 ⟨rfl, rfl⟩) | (go_at_call 101; refine (l4Time_any _ _).mono ?_; rintro e1 w1 ⟨rfl, rfl⟩) | (go_at_call 33; refine (l1In_any _ _ _ _).mono ?_; rintro e1 w1 ⟨rfl, rfl⟩) | (go_at_call 98; refine (l8NoBand_any ⟨qu, po, sp, lo, dr⟩ _ _ _ HBB.out).mono ?_; rintro e1 w1 ⟨rfl, hb1⟩; obtain ⟨t0, t1⟩ := cells_2 hb1 lw t0 t1; obtain ⟨g5, g6, g11⟩ := cells_3 hb1 lg g5 g6 g11; replace acc := acc.trans (hb1.mono acc.size); clear hb1) | (go_at_call 102; refine (spec_bandOk ⟨qu, po, sp, lo, dr⟩ _ _ _ HBB.out).mono ?_; rintro e1 w1 ⟨rfl, hb1⟩; obtain ⟨t0, t1⟩ := cells_2 hb1 lw t0 t1; obtain ⟨g5, g6, g11⟩ := cells_3 hb1 lg g5 g6 g11; replace acc := acc.trans (hb1.mono acc.size); clear hb1))
              go_ret
              refine ⟨?_, acc⟩
              first | exact ret_bool HR.out.symm | (rw [HR.out]; simp [h1, h5]; done) | (rw [HR.out]; simp [h1, h5]; omega)
          · have HR : Hid (groupB now nc k ⟨false, 0, na, 0, 0, pe, ne, su, ⟨qu, po, sp, lo, dr⟩, sh⟩ = false) := by unfold Hid; simp [noBand_ne, groupB, noGroupB, quotaB, rootGB, setB, timeB, HN.out.1, HN.out.2.1, HN.out.2.2, ← Int.natCast_eq_zero, h1, h4]
            go_enter Tryz.func64, Tryz.ntmps64
            go_wp2_with (first | (go_at_call 99; refine (l1Weight_any _ _).mono ?_; rintro e1 w1 ⟨rfl, rfl⟩) | (go_at_call 100; refine (spec_maskOk _ _).mono ?_; rintro e1 w1 ⟨rfl, rfl⟩) | (go_at_call 101; refine (l4Time_any _ _).mono ?_; rintro e1 w1 ⟨rfl, rfl⟩) | (go_at_call 33; refine (l1In_any _ _ _ _).mono ?_; rintro e1 w1 ⟨rfl, rfl⟩) | (go_at_call 98; refine (l8NoBand_any ⟨qu, po, sp, lo, dr⟩ _ _ _ HBB.out).mono ?_; rintro e1 w1 ⟨rfl, hb1⟩; obtain ⟨t0, t1⟩ := cells_2 hb1 lw t0 t1; obtain ⟨g5, g6, g11⟩ := cells_3 hb1 lg g5 g6 g11; replace acc := acc.trans (hb1.mono acc.size); clear hb1) | (go_at_call 102; refine (spec_bandOk ⟨qu, po, sp, lo, dr⟩ _ _ _ HBB.out).mono ?_; rintro e1 w1 ⟨rfl, hb1⟩; obtain ⟨t0, t1⟩ := cells_2 hb1 lw t0 t1; obtain ⟨g5, g6, g11⟩ := cells_3 hb1 lg g5 g6 g11; replace acc := acc.trans (hb1.mono acc.size); clear hb1))
            go_ret
            refine ⟨?_, acc⟩
            first | exact ret_bool HR.out.symm | (rw [HR.out]; simp [h1, h4]; done) | (rw [HR.out]; simp [h1, h4]; omega)
        · have HR : Hid (groupB now nc k ⟨false, 0, na, 0, cp, pe, ne, su, ⟨qu, po, sp, lo, dr⟩, sh⟩ = false) := by unfold Hid; simp [noBand_ne, groupB, noGroupB, quotaB, rootGB, setB, timeB, HN.out.1, HN.out.2.1, HN.out.2.2, ← Int.natCast_eq_zero, h1, h3]
          go_enter Tryz.func64, Tryz.ntmps64
          go_wp2_with (first | (go_at_call 99; refine (l1Weight_any _ _).mono ?_; rintro e1 w1 ⟨rfl, rfl⟩) | (go_at_call 100; refine (spec_maskOk _ _).mono ?_; rintro e1 w1 ⟨rfl, rfl⟩) | (go_at_call 101; refine (l4Time_any _ _).mono ?_; rintro e1 w1 ⟨rfl, rfl⟩) | (go_at_call 33; refine (l1In_any _ _ _ _).mono ?_; rintro e1 w1 ⟨rfl, rfl⟩) | (go_at_call 98; refine (l8NoBand_any ⟨qu, po, sp, lo, dr⟩ _ _ _ HBB.out).mono ?_; rintro e1 w1 ⟨rfl, hb1⟩; obtain ⟨t0, t1⟩ := cells_2 hb1 lw t0 t1; obtain ⟨g5, g6, g11⟩ := cells_3 hb1 lg g5 g6 g11; replace acc := acc.trans (hb1.mono acc.size); clear hb1) | (go_at_call 102; refine (spec_bandOk ⟨qu, po, sp, lo, dr⟩ _ _ _ HBB.out).mono ?_; rintro e1 w1 ⟨rfl, hb1⟩; obtain ⟨t0, t1⟩ := cells_2 hb1 lw t0 t1; obtain ⟨g5, g6, g11⟩ := cells_3 hb1 lg g5 g6 g11; replace acc := acc.trans (hb1.mono acc.size); clear hb1))
          go_ret
          refine ⟨?_, acc⟩
          first | exact ret_bool HR.out.symm | (rw [HR.out]; simp [h1, h3]; done) | (rw [HR.out]; simp [h1, h3]; omega)
      · have HR : Hid (groupB now nc k ⟨false, 0, na, we, cp, pe, ne, su, ⟨qu, po, sp, lo, dr⟩, sh⟩ = false) := by unfold Hid; simp [noBand_ne, groupB, noGroupB, quotaB, rootGB, setB, timeB, HN.out.1, HN.out.2.1, HN.out.2.2, ← Int.natCast_eq_zero, h1, h2]
        go_enter Tryz.func64, Tryz.ntmps64
        go_wp2_with (first | (go_at_call 99; refine (l1Weight_any _ _).mono ?_; rintro e1 w1 ⟨rfl, rfl⟩) | (go_at_call 100; refine (spec_maskOk _ _).mono ?_; rintro e1 w1 ⟨rfl, rfl⟩) | (go_at_call 101; refine (l4Time_any _ _).mono ?_; rintro e1 w1 ⟨rfl, rfl⟩) | (go_at_call 33; refine (l1In_any _ _ _ _).mono ?_; rintro e1 w1 ⟨rfl, rfl⟩) | (go_at_call 98; refine (l8NoBand_any ⟨qu, po, sp, lo, dr⟩ _ _ _ HBB.out).mono ?_; rintro e1 w1 ⟨rfl, hb1⟩; obtain ⟨t0, t1⟩ := cells_2 hb1 lw t0 t1; obtain ⟨g5, g6, g11⟩ := cells_3 hb1 lg g5 g6 g11; replace acc := acc.trans (hb1.mono acc.size); clear hb1) | (go_at_call 102; refine (spec_bandOk ⟨qu, po, sp, lo, dr⟩ _ _ _ HBB.out).mono ?_; rintro e1 w1 ⟨rfl, hb1⟩; obtain ⟨t0, t1⟩ := cells_2 hb1 lw t0 t1; obtain ⟨g5, g6, g11⟩ := cells_3 hb1 lg g5 g6 g11; replace acc := acc.trans (hb1.mono acc.size); clear hb1))
        go_ret
        refine ⟨?_, acc⟩
        first | exact ret_bool HR.out.symm | (rw [HR.out]; simp [h1, h2]; done) | (rw [HR.out]; simp [h1, h2]; omega)
  · have HR : Hid (groupB now nc k ⟨false, pa, na, we, cp, pe, ne, su, ⟨qu, po, sp, lo, dr⟩, sh⟩ = false) := by unfold Hid; simp [noBand_ne, groupB, noGroupB, quotaB, rootGB, setB, timeB, HN.out.1, HN.out.2.1, HN.out.2.2, ← Int.natCast_eq_zero, h0]
    go_enter Tryz.func64, Tryz.ntmps64
    go_wp2_with (first | (go_at_call 99; refine (l1Weight_any _ _).mono ?_; rintro e1 w1 ⟨rfl, rfl⟩) | (go_at_call 100; refine (spec_maskOk _ _).mono ?_; rintro e1 w1 ⟨rfl, rfl⟩) | (go_at_call 101; refine (l4Time_any _ _).mono ?_; rintro e1 w1 ⟨rfl, rfl⟩) | (go_at_call 33; refine (l1In_any _ _ _ _).mono ?_; rintro e1 w1 ⟨rfl, rfl⟩) | (go_at_call 98; refine (l8NoBand_any ⟨qu, po, sp, lo, dr⟩ _ _ _ HBB.out).mono ?_; rintro e1 w1 ⟨rfl, hb1⟩; obtain ⟨t0, t1⟩ := cells_2 hb1 lw t0 t1; obtain ⟨g5, g6, g11⟩ := cells_3 hb1 lg g5 g6 g11; replace acc := acc.trans (hb1.mono acc.size); clear hb1) | (go_at_call 102; refine (spec_bandOk ⟨qu, po, sp, lo, dr⟩ _ _ _ HBB.out).mono ?_; rintro e1 w1 ⟨rfl, hb1⟩; obtain ⟨t0, t1⟩ := cells_2 hb1 lw t0 t1; obtain ⟨g5, g6, g11⟩ := cells_3 hb1 lg g5 g6 g11; replace acc := acc.trans (hb1.mono acc.size); clear hb1))
    go_ret
    refine ⟨?_, acc⟩
    first | exact ret_bool HR.out.symm | (rw [HR.out]; simp [h0]; done) | (rw [HR.out]; simp [h0]; omega)
theorem AtW.at {V : World} {b : Nat} {u : Wv} (hA : AtW V b u) (h8 : u.gs.length = 8) {gr go n cap : Nat} (h3 : V.cell? ⟨b, 3, none⟩ = some (.slice (some ⟨gr, go, none⟩) n cap)) {j c : Nat} (hj : j < 8) (uj : usAt (gsD u.gs) j = true) (hok : ShOk (gsD u.gs) c) :
    ∃ yg yo l cp, V.cell? ⟨gr, go + j * 14 + 13, none⟩ = some (.slice (some ⟨yg, yo, none⟩) l cp) ∧ c < l ∧ l ≤ 9223372036854775807 ∧ V.rangeAt yg (yo + c * 5) (shC (shAt (gsD u.gs) j c)) ∧ V.cell? ⟨gr, go + j * 14 + 1, none⟩ = some (.int .i64 (paAt (gsD u.gs) j)) := by
  obtain ⟨eb, yg, yo, yc, heb, hpa, hy, hsb, hrb⟩ := hA.group (k := j) (by rw [h8]; exact hj) uj hok
  obtain ⟨gr2, go2, cap3, w4, hr2, hk2, _⟩ := hA.cellsG heb
  rw [h3] at w4
  simp only [Option.some.injEq, Value.slice.injEq, Addr.mk.injEq, and_true, true_and] at w4
  obtain ⟨⟨rfl, rfl⟩, rfl, rfl⟩ := w4
  obtain ⟨_, z1, _, _, _, _, _, _, _, _, _, _, _, z13⟩ := gv_cells hr2
  rw [hy] at z13
  exact ⟨yg, yo, _, yc, z13, (List.getElem?_eq_some_iff.1 hsb).1, (SlR.form (hA.sh heb)).choose_spec.choose_spec.2, hrb, by rw [← hpa]; exact z1⟩
def lowB (v f m : Int) : Bool := decide (wrap64 (v - f) ≤ m)
def lowG (ds : List Gr) (ran : Int) (c k : Nat) : Bool := lowB (shAt ds k c).v (shAt ds (paAt ds k).toNat c).fl (vstep ran (shAt ds k c).w)
def stayS (ds : List Gr) (c : Nat) (ran : Int) (t : Tk) (g : Nat) : Bool := lowB t.v (shAt ds g c).fl (vstep ran (wof t.ni)) && (outs ds g).all (lowG ds ran c)
theorem l8Stayed_any (c k g : Nat) (u : Wv) (x : Cp) (t : Tk) (w : World) (hs : SlW w u) (hF : Fit u) (hx : u.cs[c]? = some x) (hcur : x.cur = (k : Int)) (ht : u.ts[k]? = some t) (hg : t.gr = (g : Int)) (hg8 : g < 8) (hug : usAt (gsD u.gs) g = true) :
    Calls Tryz.prog 107 #[wvV u, .int .i64 (c : Int)] w fun e' w' => e' = .returned (.bool (stayS (gsD u.gs) c x.ran t g)) ∧ Below w.heap.size w w' := by
  have hc : c < u.cs.length := (List.getElem?_eq_some_iff.1 hx).1
  have H8 : Hid (u.gs.length = 8) := hF.g8
  have HO : Hid (ShOk (gsD u.gs) c) := hF.ok hc
  have htree := hF.tree
  obtain ⟨p1, l1, c1, p2, l2, c2, p3, l3, c3, e1, e2, e3, hv⟩ := wv_form hs
  rw [hv]
  obtain ⟨W1, hW1⟩ : ∃ W1, w.alloc (.cells #[.int .i64 u.now, .slice p1 l1 c1, .slice p2 l2 c2, .slice p3 l3 c3] 33) = W1 := ⟨_, rfl⟩
  obtain ⟨hA, acc0, hlt⟩ := boxed_w hs e1 e2 e3 hW1
  obtain ⟨o0, o1, o2, o3⟩ := hA.cells
  rw [e1] at o1
  rw [e2] at o2
  rw [e3] at o3
  obtain ⟨cg, co, ccap, w1, hcr, hck, hcl⟩ := hA.cellsC hx
  rw [o1] at w1
  simp only [Option.some.injEq, Value.slice.injEq] at w1
  obtain ⟨q1, q2, q3⟩ := w1
  subst q1 q2 q3
  obtain ⟨a0, a1, a2, a3, a4⟩ := cp_cells hcr
  obtain ⟨tg, to, tcap, w2, htr, htk, htl⟩ := hA.cellsT ht
  rw [o2] at w2
  simp only [Option.some.injEq, Value.slice.injEq] at w2
  obtain ⟨q1, q2, q3⟩ := w2
  subst q1 q2 q3
  obtain ⟨b0, b1, b2, b3, b4, b5, b6, b7, b8⟩ := tk_cells htr
  obtain ⟨gr, go, hq3⟩ : ∃ gr go, p3 = some ⟨gr, go, none⟩ := by
    obtain ⟨e0, he0, _⟩ := gs_get (vs := u.gs) (k := 0) (by rw [H8.out]; decide)
    obtain ⟨gr, go, cap, w3, _⟩ := hA.cellsG he0
    rw [o3] at w3
    simp only [Option.some.injEq, Value.slice.injEq] at w3
    exact ⟨gr, go, w3.1⟩
  have hn3 : l3 = 8 := by
    obtain ⟨e0, he0, _⟩ := gs_get (vs := u.gs) (k := 0) (by rw [H8.out]; decide)
    obtain ⟨gr, go, cap, w3, _⟩ := hA.cellsG he0
    rw [o3] at w3
    simp only [Option.some.injEq, Value.slice.injEq] at w3
    rw [w3.2.1, H8.out]
  subst hq3 hn3
  obtain ⟨up, cur, ran, bu, idl⟩ := x
  obtain ⟨st, grp, cpu, ni, ma, v, su, us, lo⟩ := t
  dsimp only at hcur hg a0 a1 a2 a3 a4 b0 b1 b2 b3 b4 b5 b6 b7 b8 ⊢
  subst hcur hg
  have lcg := block_lt_of_cell a0
  have ltg := block_lt_of_cell b0
  dsimp only at lcg ltg
  obtain ⟨W2, hW2⟩ : ∃ W2, W1.alloc (.cells #[.bool up, .int .i64 (k : Int), .int .i64 ran, .int .i64 bu, .int .i64 idl] 70) = W2 := ⟨_, rfl⟩
  have B2 : Below W1.heap.size W1 W2 := by rw [← hW2]; exact (Below.refl _ _).alloc (Nat.le_refl _) _
  have cb : W2.rangeAt W1.heap.size 0 [.bool up, .int .i64 (k : Int), .int .i64 ran, .int .i64 bu, .int .i64 idl] := range_of_block (by rw [← hW2]; exact World.alloc_heap_new W1 _)
  have lc2 : W1.heap.size < W2.heap.size := by rw [← hW2]; simp
  have m1 : W2.cell? ⟨W1.heap.size, 1, none⟩ = some (.int .i64 (k : Int)) := cb 1 _ rfl
  have m2 : W2.cell? ⟨W1.heap.size, 2, none⟩ = some (.int .i64 ran) := cb 2 _ rfl
  have lw2 : w.heap.size < W2.heap.size := Nat.lt_of_lt_of_le hlt B2.size
  have u2 := (B2.cell (p := ⟨w.heap.size, 2, none⟩) hlt).trans o2
  have u3 := (B2.cell (p := ⟨w.heap.size, 3, none⟩) hlt).trans o3
  replace b0 := (B2.cell (p := ⟨tg, to + k * 9, none⟩) ltg).trans b0
  replace b1 := (B2.cell (p := ⟨tg, to + k * 9 + 1, none⟩) ltg).trans b1
  replace b2 := (B2.cell (p := ⟨tg, to + k * 9 + 2, none⟩) ltg).trans b2
  replace b3 := (B2.cell (p := ⟨tg, to + k * 9 + 3, none⟩) ltg).trans b3
  replace b4 := (B2.cell (p := ⟨tg, to + k * 9 + 4, none⟩) ltg).trans b4
  replace b5 := (B2.cell (p := ⟨tg, to + k * 9 + 5, none⟩) ltg).trans b5
  replace b6 := (B2.cell (p := ⟨tg, to + k * 9 + 6, none⟩) ltg).trans b6
  replace b7 := (B2.cell (p := ⟨tg, to + k * 9 + 7, none⟩) ltg).trans b7
  replace b8 := (B2.cell (p := ⟨tg, to + k * 9 + 8, none⟩) ltg).trans b8
  obtain ⟨W3, hW3⟩ : ∃ W3, W2.alloc (.cells #[.int .i64 st, .int .i64 (g : Int), .int .i64 cpu, .int .i64 ni, .int .i64 ma, .int .i64 v, .int .i64 su, .int .i64 us, .int .i64 lo] 68) = W3 := ⟨_, rfl⟩
  obtain ⟨B3, l3, htb⟩ := boxed_task hW3
  have n1 : W3.cell? ⟨W2.heap.size, 1, none⟩ = some (.int .i64 (g : Int)) := htb 1 _ rfl
  have n3 : W3.cell? ⟨W2.heap.size, 3, none⟩ = some (.int .i64 ni) := htb 3 _ rfl
  have n5 : W3.cell? ⟨W2.heap.size, 5, none⟩ = some (.int .i64 v) := htb 5 _ rfl
  have m1' := (B3.cell (p := ⟨W1.heap.size, 1, none⟩) lc2).trans m1
  have m2' := (B3.cell (p := ⟨W1.heap.size, 2, none⟩) lc2).trans m2
  have t3 := (B3.cell (p := ⟨w.heap.size, 3, none⟩) lw2).trans u3
  have HA : Hid (AtW W3 w.heap.size u) := (hA.below B2).below B3
  have accA : Below w.heap.size w W2 := acc0.trans (B2.mono acc0.size)
  have acc : Below w.heap.size w W3 := accA.trans (B3.mono accA.size)
  obtain ⟨yg, yo, yl, yc, z13, hcy, hyl, hrb, _⟩ := HA.out.at H8.out t3 hg8 hug HO.out
  obtain ⟨f0, _⟩ := sh_cells hrb
  have lwW : w.heap.size < W3.heap.size := Nat.lt_of_lt_of_le lw2 B3.size
  have lcW : W1.heap.size < W3.heap.size := Nat.lt_of_lt_of_le lc2 B3.size
  have cE : ∀ d os, Calls Tryz.prog 72 #[.int .i64 ni] (grow (redrawn W3 d) os) fun e' w'' => e' = .returned (.int .i64 (wof ni)) ∧ ∃ p : Regrown, w'' = grow (redrawn W3 p.d) p.os := fun d os => Calls.regrown_of ((spec_wof ni _).mono fun e' w' h => ⟨h.1, h.2 ▸ Below.refl _ _⟩)
  have cV : ∀ d os, Calls Tryz.prog 137 #[.int .i64 ran, .int .i64 (wof ni)] (grow (redrawn W3 d) os) fun e' w'' => e' = .returned (.int .i64 (vstep ran (wof ni))) ∧ ∃ p : Regrown, w'' = grow (redrawn W3 p.d) p.os := fun d os => Calls.regrown_of ((spec_vstep ran (wof ni) _).mono fun e' w' h => ⟨h.1, h.2 ▸ Below.refl _ _⟩)
  have HR0 : Hid (stayS (gsD u.gs) c ran ⟨st, (g : Int), cpu, ni, ma, v, su, us, lo⟩ g = (lowB v (shAt (gsD u.gs) g c).fl (vstep ran (wof ni)) && (outs (gsD u.gs) g).all (lowG (gsD u.gs) ran c))) := rfl
  have kz := cell_regrown z13
  have kf := cell_regrown f0
  have k1 := cell_regrown n1
  have k3 := cell_regrown n3
  have k5 := cell_regrown n5
  have km := cell_regrown m2'
  have kt := cell_regrown t3
  clear hA hs hcr htr e1 e2 e3 hv cb htb hrb z13 f0 o0
  go_enter Tryz.func107, Tryz.ntmps107
  go_wp2
  refine wp_region_quiet_below (by kernel_rfl) (by kernel_rfl) ?_
  clear hW1 hW2 hW3
  by_cases hlow : wrap64 (v - (shAt (gsD u.gs) g c).fl) ≤ vstep ran (wof ni)
  · have hd : decide (vstep ran (wof ni) < wrap64 (v - (shAt (gsD u.gs) g c).fl)) = false := decide_eq_false (by omega)
    repeat (go_big_quiet_step (first | exact cE _ _ | exact cV _ _))
    refine wpQuiet_nil ?_
    rintro _ ⟨⟨dq, osq⟩, rfl⟩
    obtain ⟨V, hV⟩ : ∃ V, grow (redrawn W3 dq) osq = V := ⟨_, rfl⟩
    have hb1 : Below W3.heap.size W3 V := by rw [← hV]; exact below_regrown _ _ _
    rw [hV]
    clear hV cE cV kz kf k1 k3 k5 km kt
    have HR : Hid (stayS (gsD u.gs) c ran ⟨st, (g : Int), cpu, ni, ma, v, su, us, lo⟩ g = (outs (gsD u.gs) g).all (lowG (gsD u.gs) ran c)) := by
      unfold Hid; rw [HR0.out]; unfold lowB; rw [decide_eq_true hlow, Bool.true_and]
    replace n1 := (hb1.cell (p := ⟨W2.heap.size, 1, none⟩) l3).trans n1
    replace m2 := (hb1.cell (p := ⟨W1.heap.size, 2, none⟩) lcW).trans m2'
    replace t3 := (hb1.cell (p := ⟨w.heap.size, 3, none⟩) lwW).trans t3
    replace acc := acc.trans (hb1.mono acc.size)
    have HV : Hid (AtW V w.heap.size u) := HA.out.below hb1
    have lw : w.heap.size < V.heap.size := Nat.lt_of_lt_of_le lwW hb1.size
    have lc : W1.heap.size < V.heap.size := Nat.lt_of_lt_of_le lcW hb1.size
    clear hlow hd m1 m1' m2' b0 b1 b2 b3 b4 b5 b6 b7 b8 a0 a1 a2 a3 u2 u3 o1 o2 o3
    go_wp2
    go_loopw [7] (fun tt wr => ∃ j : Nat, j < 8 ∧ usAt (gsD u.gs) j = true ∧ tt = .int .i64 (j : Int) ∧ Below V.heap.size V wr ∧ (outs (gsD u.gs) g).all (lowG (gsD u.gs) ran c) = (outs (gsD u.gs) j).all (lowG (gsD u.gs) ran c)) (fun tt _ => (depB (gsD u.gs) (intOf tt)).toNat)
    case atStart => exact ⟨g, hg8, hug, rfl, Below.refl _ _, rfl⟩
    case round =>
      obtain ⟨j, hj, uj, rfl, hb, hx⟩ := hrel
      have b3 := (hb.cell (p := ⟨w.heap.size, 3, none⟩) lw).trans t3
      have bm := (hb.cell (p := ⟨W1.heap.size, 2, none⟩) lc).trans m2
      rcases tree_step htree hj uj with ⟨rfl, hd⟩ | ⟨hj0, j', hp, hj', uj', hd, hd', _⟩
      · have HX : Hid (stayS (gsD u.gs) c ran ⟨st, (g : Int), cpu, ni, ma, v, su, us, lo⟩ g = true) := by
          unfold Hid; rw [HR.out, hx, outs_root htree]; rfl
        clear hx hd
        go_wp2
        go_ret
        exact ⟨by rw [HX.out]; rfl, acc.trans (hb.mono acc.size)⟩
      · have hj0' : ¬ (j : Int) = 0 := by omega
        have HX : Hid (stayS (gsD u.gs) c ran ⟨st, (g : Int), cpu, ni, ma, v, su, us, lo⟩ g = (lowG (gsD u.gs) ran c j && (outs (gsD u.gs) j').all (lowG (gsD u.gs) ran c))) := by
          unfold Hid; rw [HR.out, hx, outs_step hj0 hp hd hd']; rfl
        have HY : Hid ((outs (gsD u.gs) g).all (lowG (gsD u.gs) ran c) = (lowG (gsD u.gs) ran c j && (outs (gsD u.gs) j').all (lowG (gsD u.gs) ran c))) := by rw [← HX.out]; exact HR.out.symm
        have HD : Hid (depB (gsD u.gs) (j : Int) = depB (gsD u.gs) (j' : Int) + 1 ∧ 0 ≤ depB (gsD u.gs) (j' : Int)) := ⟨hd, hd'⟩
        have HW : Hid (AtW wr w.heap.size u) := HV.out.below hb
        obtain ⟨sg, so, sl, sc, y13, hcs, hsl, hsr, y1⟩ := HW.out.at H8.out b3 hj uj HO.out
        obtain ⟨s0, s1, s2, s3, s4⟩ := sh_cells hsr
        rw [hp] at y1
        obtain ⟨s, hsE⟩ : ∃ s, shAt (gsD u.gs) j c = s := ⟨_, rfl⟩
        rw [hsE] at s0 s1 s2 s3 s4
        obtain ⟨sfl, son, sv, sw, ss⟩ := s
        dsimp only at s0 s1 s2 s3 s4
        obtain ⟨wr2, hwr2⟩ : ∃ X, wr.alloc (.cells #[.int .i64 sfl, .bool son, .int .i64 sv, .int .i64 sw, .int .i64 ss] 121) = X := ⟨_, rfl⟩
        have Bs : Below wr.heap.size wr wr2 := by rw [← hwr2]; exact (Below.refl _ _).alloc (Nat.le_refl _) _
        have hsb : wr2.rangeAt wr.heap.size 0 [.int .i64 sfl, .bool son, .int .i64 sv, .int .i64 sw, .int .i64 ss] := range_of_block (by rw [← hwr2]; exact World.alloc_heap_new wr _)
        have q2 : wr2.cell? ⟨wr.heap.size, 2, none⟩ = some (.int .i64 sv) := hsb 2 _ rfl
        have q3 : wr2.cell? ⟨wr.heap.size, 3, none⟩ = some (.int .i64 sw) := hsb 3 _ rfl
        have lwr : w.heap.size < wr.heap.size := Nat.lt_of_lt_of_le lw hb.size
        have lcr : W1.heap.size < wr.heap.size := Nat.lt_of_lt_of_le lc hb.size
        have r3 := (Bs.cell (p := ⟨w.heap.size, 3, none⟩) lwr).trans b3
        have rm := (Bs.cell (p := ⟨W1.heap.size, 2, none⟩) lcr).trans bm
        have lgr := block_lt_of_cell y1
        dsimp only at lgr
        have r1 := (Bs.cell (p := ⟨gr, go + j * 14 + 1, none⟩) lgr).trans y1
        have HW2 : Hid (AtW wr2 w.heap.size u) := HW.out.below Bs
        obtain ⟨pg, po, pl, pc, w13, hcp, hpl, hpr, _⟩ := HW2.out.at H8.out r3 hj' uj' HO.out
        obtain ⟨f0, _⟩ := sh_cells hpr
        have hb2 : Below V.heap.size V wr2 := hb.trans (Bs.mono hb.size)
        have HL : Hid (lowG (gsD u.gs) ran c j = lowB sv (shAt (gsD u.gs) j' c).fl (vstep ran sw)) := by unfold Hid lowG; rw [hp, Int.toNat_natCast, hsE]
        have cV : ∀ d os, Calls Tryz.prog 137 #[.int .i64 ran, .int .i64 sw] (grow (redrawn wr2 d) os) fun e' w'' => e' = .returned (.int .i64 (vstep ran sw)) ∧ ∃ p : Regrown, w'' = grow (redrawn wr2 p.d) p.os := fun d os => Calls.regrown_of ((spec_vstep ran sw _).mono fun e' w' h => ⟨h.1, h.2 ▸ Below.refl _ _⟩)
        have k1 := cell_regrown q2
        have k2 := cell_regrown q3
        have k3 := cell_regrown r3
        have k4 := cell_regrown rm
        have k5 := cell_regrown r1
        have k6 := cell_regrown w13
        have k7 := cell_regrown f0
        clear hx hd hd' hp hsE hsr hsb hpr q2 q3 rm f0 w13
        go_wp2
        refine wp_region_quiet_below (by kernel_rfl) (by kernel_rfl) ?_
        clear hwr2
        by_cases hlow : wrap64 (sv - (shAt (gsD u.gs) j' c).fl) ≤ vstep ran sw
        · have hdd : decide (vstep ran sw < wrap64 (sv - (shAt (gsD u.gs) j' c).fl)) = false := decide_eq_false (by omega)
          have HL2 : Hid (lowG (gsD u.gs) ran c j = true) := by unfold Hid; rw [HL.out]; unfold lowB; exact decide_eq_true hlow
          repeat (go_big_quiet_step (exact cV _ _))
          refine wpQuiet_nil ?_
          rintro _ ⟨⟨dq2, osq2⟩, rfl⟩
          have hb3 := hb2.trans ((below_regrown wr2 dq2 osq2).mono hb2.size)
          clear cV k1 k2 k4 k6 k7
          go_wp2
          refine ⟨⟨j', hj', uj', rfl, hb3, by rw [HY.out, HL2.out, Bool.true_and]⟩, ?_⟩
          have := HD.out
          simp only [intOf]; omega
        · have hdd : decide (vstep ran sw < wrap64 (sv - (shAt (gsD u.gs) j' c).fl)) = true := decide_eq_true (by omega)
          have HL2 : Hid (lowG (gsD u.gs) ran c j = false) := by unfold Hid; rw [HL.out]; unfold lowB; exact decide_eq_false hlow
          repeat (go_big_quiet_step (exact cV _ _))
          refine wpQuiet_nil ?_
          rintro _ ⟨⟨dq2, osq2⟩, rfl⟩
          have hb3 := hb2.trans ((below_regrown wr2 dq2 osq2).mono hb2.size)
          clear cV k1 k2 k3 k4 k5 k6 k7
          go_wp2
          go_ret
          exact ⟨by rw [HX.out, HL2.out]; rfl, acc.trans (hb3.mono acc.size)⟩
  · have hd : decide (vstep ran (wof ni) < wrap64 (v - (shAt (gsD u.gs) g c).fl)) = true := decide_eq_true (by omega)
    have HR : Hid (stayS (gsD u.gs) c ran ⟨st, (g : Int), cpu, ni, ma, v, su, us, lo⟩ g = false) := by
      unfold Hid; rw [HR0.out]; unfold lowB; rw [decide_eq_false hlow, Bool.false_and]
    repeat (go_big_quiet_step (first | exact cE _ _ | exact cV _ _))
    refine wpQuiet_nil ?_
    rintro _ ⟨⟨dq, osq⟩, rfl⟩
    clear cE cV kz kf k1 k3 k5 km kt
    go_wp2
    go_ret
    exact ⟨by rw [HR.out]; rfl, acc.trans ((below_regrown W3 dq osq).mono acc.size)⟩
def TGr (u : Wv) : Prop := ∀ (k : Nat) (t : Tk), u.ts[k]? = some t → ∃ g : Nat, t.gr = (g : Int) ∧ g < 8 ∧ usAt (gsD u.gs) g = true
def cpuSB (u : Wv) (c : Nat) (x : Cp) : Bool :=
  timeB x.busy && (timeB x.idle && (l1in x.cur (-1) 11 && (if x.cur = -1 then decide (x.ran = 0) else x.up && (l1in x.ran 1 149 && (u.ts[x.cur.toNat]?).any (fun t => decide (t.cpu = (c : Int)) && (inlineB (gsD u.gs) t.st t.gr.toNat c && stayS (gsD u.gs) c x.ran t t.gr.toNat))))))
theorem specCpu_out (c : Nat) (u : Wv) (x : Cp) (w : World) (hs : SlW w u) (hF : Fit u) (hx : u.cs[c]? = some x) (hcur : l1in x.cur (-1) 11 = false) :
    Calls Tryz.prog 67 #[wvV u, .int .i64 (c : Int)] w fun e' w' => e' = .returned (.bool (cpuSB u c x)) ∧ Below w.heap.size w w' := by
  have hc : c < u.cs.length := (List.getElem?_eq_some_iff.1 hx).1
  have HX : Hid (u.cs[c]? = some x) := hx
  have hnt := hF.nt
  obtain ⟨p1, l1, c1, p2, l2, c2, p3, l3, c3, e1, e2, e3, hv⟩ := wv_form hs
  have HV : Hid (wvV u = .agg #[.int .i64 u.now, .slice p1 l1 c1, .slice p2 l2 c2, .slice p3 l3 c3]) := hv
  rw [hv]
  obtain ⟨W1, hW1⟩ : ∃ W1, w.alloc (.cells #[.int .i64 u.now, .slice p1 l1 c1, .slice p2 l2 c2, .slice p3 l3 c3] 33) = W1 := ⟨_, rfl⟩
  obtain ⟨hA, acc0, hlt⟩ := boxed_w hs e1 e2 e3 hW1
  obtain ⟨o0, o1, o2, o3⟩ := hA.cells
  rw [e1] at o1
  rw [e2] at o2
  rw [e3] at o3
  obtain ⟨cg, co, ccap, w1, hcr, hck, hcl⟩ := hA.cellsC hx
  rw [o1] at w1
  simp only [Option.some.injEq, Value.slice.injEq] at w1
  obtain ⟨q1, q2, q3⟩ := w1
  subst q1 q2 q3
  obtain ⟨a0, a1, a2, a3, a4⟩ := cp_cells hcr
  obtain ⟨k2, m2, f2, hlt2⟩ := SlR.form hs.2.1
  rw [e2] at f2
  simp only [Value.slice.injEq] at f2
  obtain ⟨r1, r2, r3⟩ := f2
  rw [hnt] at r2
  subst r1 r2 r3
  have HS : Hid (SlW w u) := hs
  have HA : Hid (AtW W1 w.heap.size u) := hA
  obtain ⟨up, cur, ran, bu, idl⟩ := x
  dsimp only at hcur a0 a1 a2 a3 a4 ⊢
  obtain ⟨W2, hW2⟩ : ∃ W2, W1.alloc (.cells #[.bool up, .int .i64 cur, .int .i64 ran, .int .i64 bu, .int .i64 idl] 70) = W2 := ⟨_, rfl⟩
  have B2 : Below W1.heap.size W1 W2 := by rw [← hW2]; exact (Below.refl _ _).alloc (Nat.le_refl _) _
  have cb : W2.rangeAt W1.heap.size 0 [.bool up, .int .i64 cur, .int .i64 ran, .int .i64 bu, .int .i64 idl] := range_of_block (by rw [← hW2]; exact World.alloc_heap_new W1 _)
  have lc : W1.heap.size < W2.heap.size := by rw [← hW2]; simp
  have m0 : W2.cell? ⟨W1.heap.size, 0, none⟩ = some (.bool up) := cb 0 _ rfl
  have m1 : W2.cell? ⟨W1.heap.size, 1, none⟩ = some (.int .i64 cur) := cb 1 _ rfl
  have m2 : W2.cell? ⟨W1.heap.size, 2, none⟩ = some (.int .i64 ran) := cb 2 _ rfl
  have m3 : W2.cell? ⟨W1.heap.size, 3, none⟩ = some (.int .i64 bu) := cb 3 _ rfl
  have m4 : W2.cell? ⟨W1.heap.size, 4, none⟩ = some (.int .i64 idl) := cb 4 _ rfl
  have lw : w.heap.size < W2.heap.size := Nat.lt_of_lt_of_le hlt B2.size
  have t0 := (B2.cell (p := ⟨w.heap.size, 0, none⟩) hlt).trans o0
  have t1 := (B2.cell (p := ⟨w.heap.size, 1, none⟩) hlt).trans o1
  have t2 := (B2.cell (p := ⟨w.heap.size, 2, none⟩) hlt).trans o2
  have t3 := (B2.cell (p := ⟨w.heap.size, 3, none⟩) hlt).trans o3
  have acc : Below w.heap.size w W2 := acc0.trans (B2.mono acc0.size)
  clear hA hs hcr e1 e2 e3 hv cb
  cases h0 : l1in bu 0 100000000000000000
  · have HR : Hid (cpuSB u c ⟨up, cur, ran, bu, idl⟩ = false) := by unfold Hid; simp [cpuSB, timeB, hcur, h0]
    go_enter Tryz.func67, Tryz.ntmps67
    go_wp2_with (first | (go_at_call 101; refine (l4Time_any _ _).mono ?_; rintro e1 w1 ⟨rfl, hw1⟩; subst w1) | (go_at_call 33; refine (l1In_any _ _ _ _).mono ?_; rintro e1 w1 ⟨rfl, hw1⟩; subst w1))
    go_ret
    refine ⟨?_, acc⟩
    first | exact ret_bool HR.out.symm | (rw [HR.out]; simp [h0]; done) | (rw [HR.out]; simp [h0]; omega)
  · cases h1 : l1in idl 0 100000000000000000
    · have HR : Hid (cpuSB u c ⟨up, cur, ran, bu, idl⟩ = false) := by unfold Hid; simp [cpuSB, timeB, hcur, h0, h1]
      go_enter Tryz.func67, Tryz.ntmps67
      go_wp2_with (first | (go_at_call 101; refine (l4Time_any _ _).mono ?_; rintro e1 w1 ⟨rfl, hw1⟩; subst w1) | (go_at_call 33; refine (l1In_any _ _ _ _).mono ?_; rintro e1 w1 ⟨rfl, hw1⟩; subst w1))
      go_ret
      refine ⟨?_, acc⟩
      first | exact ret_bool HR.out.symm | (rw [HR.out]; simp [h0, h1]; done) | (rw [HR.out]; simp [h0, h1]; omega)
    · have HR : Hid (cpuSB u c ⟨up, cur, ran, bu, idl⟩ = false) := by unfold Hid; simp [cpuSB, timeB, hcur, h0, h1]
      go_enter Tryz.func67, Tryz.ntmps67
      go_wp2_with (first | (go_at_call 101; refine (l4Time_any _ _).mono ?_; rintro e1 w1 ⟨rfl, hw1⟩; subst w1) | (go_at_call 33; refine (l1In_any _ _ _ _).mono ?_; rintro e1 w1 ⟨rfl, hw1⟩; subst w1))
      go_ret
      refine ⟨?_, acc⟩
      first | exact ret_bool HR.out.symm | (rw [HR.out]; simp [h0, h1]; done) | (rw [HR.out]; simp [h0, h1]; omega)
theorem specCpu_none (c : Nat) (u : Wv) (x : Cp) (w : World) (hs : SlW w u) (hF : Fit u) (hx : u.cs[c]? = some x) (hcur : x.cur = -1) :
    Calls Tryz.prog 67 #[wvV u, .int .i64 (c : Int)] w fun e' w' => e' = .returned (.bool (cpuSB u c x)) ∧ Below w.heap.size w w' := by
  have hc : c < u.cs.length := (List.getElem?_eq_some_iff.1 hx).1
  have HX : Hid (u.cs[c]? = some x) := hx
  have hnt := hF.nt
  obtain ⟨p1, l1, c1, p2, l2, c2, p3, l3, c3, e1, e2, e3, hv⟩ := wv_form hs
  have HV : Hid (wvV u = .agg #[.int .i64 u.now, .slice p1 l1 c1, .slice p2 l2 c2, .slice p3 l3 c3]) := hv
  rw [hv]
  obtain ⟨W1, hW1⟩ : ∃ W1, w.alloc (.cells #[.int .i64 u.now, .slice p1 l1 c1, .slice p2 l2 c2, .slice p3 l3 c3] 33) = W1 := ⟨_, rfl⟩
  obtain ⟨hA, acc0, hlt⟩ := boxed_w hs e1 e2 e3 hW1
  obtain ⟨o0, o1, o2, o3⟩ := hA.cells
  rw [e1] at o1
  rw [e2] at o2
  rw [e3] at o3
  obtain ⟨cg, co, ccap, w1, hcr, hck, hcl⟩ := hA.cellsC hx
  rw [o1] at w1
  simp only [Option.some.injEq, Value.slice.injEq] at w1
  obtain ⟨q1, q2, q3⟩ := w1
  subst q1 q2 q3
  obtain ⟨a0, a1, a2, a3, a4⟩ := cp_cells hcr
  obtain ⟨k2, m2, f2, hlt2⟩ := SlR.form hs.2.1
  rw [e2] at f2
  simp only [Value.slice.injEq] at f2
  obtain ⟨r1, r2, r3⟩ := f2
  rw [hnt] at r2
  subst r1 r2 r3
  have HS : Hid (SlW w u) := hs
  have HA : Hid (AtW W1 w.heap.size u) := hA
  obtain ⟨up, cur, ran, bu, idl⟩ := x
  dsimp only at hcur a0 a1 a2 a3 a4 ⊢
  subst hcur
  have hr : l1in (-1) (-1) 11 = true := rfl
  obtain ⟨W2, hW2⟩ : ∃ W2, W1.alloc (.cells #[.bool up, .int .i64 (-1), .int .i64 ran, .int .i64 bu, .int .i64 idl] 70) = W2 := ⟨_, rfl⟩
  have B2 : Below W1.heap.size W1 W2 := by rw [← hW2]; exact (Below.refl _ _).alloc (Nat.le_refl _) _
  have cb : W2.rangeAt W1.heap.size 0 [.bool up, .int .i64 (-1), .int .i64 ran, .int .i64 bu, .int .i64 idl] := range_of_block (by rw [← hW2]; exact World.alloc_heap_new W1 _)
  have lc : W1.heap.size < W2.heap.size := by rw [← hW2]; simp
  have m0 : W2.cell? ⟨W1.heap.size, 0, none⟩ = some (.bool up) := cb 0 _ rfl
  have m1 : W2.cell? ⟨W1.heap.size, 1, none⟩ = some (.int .i64 (-1)) := cb 1 _ rfl
  have m2 : W2.cell? ⟨W1.heap.size, 2, none⟩ = some (.int .i64 ran) := cb 2 _ rfl
  have m3 : W2.cell? ⟨W1.heap.size, 3, none⟩ = some (.int .i64 bu) := cb 3 _ rfl
  have m4 : W2.cell? ⟨W1.heap.size, 4, none⟩ = some (.int .i64 idl) := cb 4 _ rfl
  have lw : w.heap.size < W2.heap.size := Nat.lt_of_lt_of_le hlt B2.size
  have t0 := (B2.cell (p := ⟨w.heap.size, 0, none⟩) hlt).trans o0
  have t1 := (B2.cell (p := ⟨w.heap.size, 1, none⟩) hlt).trans o1
  have t2 := (B2.cell (p := ⟨w.heap.size, 2, none⟩) hlt).trans o2
  have t3 := (B2.cell (p := ⟨w.heap.size, 3, none⟩) hlt).trans o3
  have acc : Below w.heap.size w W2 := acc0.trans (B2.mono acc0.size)
  clear hA hs hcr e1 e2 e3 hv cb
  cases h0 : l1in bu 0 100000000000000000
  · have HR : Hid (cpuSB u c ⟨up, -1, ran, bu, idl⟩ = false) := by unfold Hid; simp [cpuSB, timeB, hr, h0]
    go_enter Tryz.func67, Tryz.ntmps67
    go_wp2_with (first | (go_at_call 101; refine (l4Time_any _ _).mono ?_; rintro e1 w1 ⟨rfl, hw1⟩; subst w1) | (go_at_call 33; refine (l1In_any _ _ _ _).mono ?_; rintro e1 w1 ⟨rfl, hw1⟩; subst w1))
    go_ret
    refine ⟨?_, acc⟩
    first | exact ret_bool HR.out.symm | (rw [HR.out]; simp [h0]; done) | (rw [HR.out]; simp [h0]; omega)
  · cases h1 : l1in idl 0 100000000000000000
    · have HR : Hid (cpuSB u c ⟨up, -1, ran, bu, idl⟩ = false) := by unfold Hid; simp [cpuSB, timeB, hr, h0, h1]
      go_enter Tryz.func67, Tryz.ntmps67
      go_wp2_with (first | (go_at_call 101; refine (l4Time_any _ _).mono ?_; rintro e1 w1 ⟨rfl, hw1⟩; subst w1) | (go_at_call 33; refine (l1In_any _ _ _ _).mono ?_; rintro e1 w1 ⟨rfl, hw1⟩; subst w1))
      go_ret
      refine ⟨?_, acc⟩
      first | exact ret_bool HR.out.symm | (rw [HR.out]; simp [h0, h1]; done) | (rw [HR.out]; simp [h0, h1]; omega)
    · by_cases h2 : ran = 0
      · subst h2
        have HR : Hid (cpuSB u c ⟨up, -1, 0, bu, idl⟩ = true) := by unfold Hid; simp [cpuSB, timeB, hr, h0, h1]
        go_enter Tryz.func67, Tryz.ntmps67
        go_wp2_with (first | (go_at_call 101; refine (l4Time_any _ _).mono ?_; rintro e1 w1 ⟨rfl, hw1⟩; subst w1) | (go_at_call 33; refine (l1In_any _ _ _ _).mono ?_; rintro e1 w1 ⟨rfl, hw1⟩; subst w1))
        go_ret
        refine ⟨?_, acc⟩
        first | exact ret_bool HR.out.symm | (rw [HR.out]; simp [h0, h1]; done) | (rw [HR.out]; simp [h0, h1]; omega)
      · have HR : Hid (cpuSB u c ⟨up, -1, ran, bu, idl⟩ = false) := by unfold Hid; simp [cpuSB, timeB, hr, h0, h1, h2]
        go_enter Tryz.func67, Tryz.ntmps67
        go_wp2_with (first | (go_at_call 101; refine (l4Time_any _ _).mono ?_; rintro e1 w1 ⟨rfl, hw1⟩; subst w1) | (go_at_call 33; refine (l1In_any _ _ _ _).mono ?_; rintro e1 w1 ⟨rfl, hw1⟩; subst w1))
        go_ret
        refine ⟨?_, acc⟩
        first | exact ret_bool HR.out.symm | (rw [HR.out]; simp [h0, h1, h2]; done) | (rw [HR.out]; simp [h0, h1, h2]; omega)
theorem specCpu_else (c : Nat) (u : Wv) (x : Cp) (w : World) (hs : SlW w u) (hF : Fit u) (hx : u.cs[c]? = some x) (k : Nat) (t : Tk) (hcur : x.cur = (k : Int)) (hk : k < 12) (ht : u.ts[k]? = some t) (hT : TGr u) (hcp : ¬ t.cpu = (c : Int)) :
    Calls Tryz.prog 67 #[wvV u, .int .i64 (c : Int)] w fun e' w' => e' = .returned (.bool (cpuSB u c x)) ∧ Below w.heap.size w w' := by
  have hc : c < u.cs.length := (List.getElem?_eq_some_iff.1 hx).1
  have HX : Hid (u.cs[c]? = some x) := hx
  have hnt := hF.nt
  obtain ⟨p1, l1, c1, p2, l2, c2, p3, l3, c3, e1, e2, e3, hv⟩ := wv_form hs
  have HV : Hid (wvV u = .agg #[.int .i64 u.now, .slice p1 l1 c1, .slice p2 l2 c2, .slice p3 l3 c3]) := hv
  rw [hv]
  obtain ⟨W1, hW1⟩ : ∃ W1, w.alloc (.cells #[.int .i64 u.now, .slice p1 l1 c1, .slice p2 l2 c2, .slice p3 l3 c3] 33) = W1 := ⟨_, rfl⟩
  obtain ⟨hA, acc0, hlt⟩ := boxed_w hs e1 e2 e3 hW1
  obtain ⟨o0, o1, o2, o3⟩ := hA.cells
  rw [e1] at o1
  rw [e2] at o2
  rw [e3] at o3
  obtain ⟨cg, co, ccap, w1, hcr, hck, hcl⟩ := hA.cellsC hx
  rw [o1] at w1
  simp only [Option.some.injEq, Value.slice.injEq] at w1
  obtain ⟨q1, q2, q3⟩ := w1
  subst q1 q2 q3
  obtain ⟨a0, a1, a2, a3, a4⟩ := cp_cells hcr
  obtain ⟨k2, m2, f2, hlt2⟩ := SlR.form hs.2.1
  rw [e2] at f2
  simp only [Value.slice.injEq] at f2
  obtain ⟨r1, r2, r3⟩ := f2
  rw [hnt] at r2
  subst r1 r2 r3
  have HS : Hid (SlW w u) := hs
  have HA : Hid (AtW W1 w.heap.size u) := hA
  obtain ⟨up, cur, ran, bu, idl⟩ := x
  dsimp only at hcur a0 a1 a2 a3 a4 ⊢
  subst hcur
  have hr : l1in (k : Int) (-1) 11 = true := l1in_iff.2 ⟨by omega, by omega⟩
  have hr2 : ¬ (k : Int) = -1 := by omega
  have hr3 : ¬ (k : Int) < 0 := by omega
  obtain ⟨tg, to, tcap, w2, htr, htk, htl⟩ := HA.out.cellsT ht
  rw [o2] at w2
  simp only [Option.some.injEq, Value.slice.injEq] at w2
  obtain ⟨q1, q2, q3⟩ := w2
  clear q2
  subst q1 q3
  obtain ⟨_, _, b2, _⟩ := tk_cells htr
  have lbt := block_lt_of_cell b2
  obtain ⟨g, hg, hg8, hug⟩ := hT k t ht
  obtain ⟨il, hil⟩ : ∃ b, inlineB (gsD u.gs) t.st g c = b := ⟨_, rfl⟩
  obtain ⟨sy, hsy⟩ : ∃ b, stayS (gsD u.gs) c ran t g = b := ⟨_, rfl⟩
  have HR1 : Hid (cpuSB u c ⟨up, (k : Int), ran, bu, idl⟩ = (l1in bu 0 100000000000000000 && (l1in idl 0 100000000000000000 && (up && (l1in ran 1 149 && (decide (t.cpu = (c : Int)) && (il && sy))))))) := by
    unfold Hid cpuSB timeB; dsimp only; rw [hr, if_neg hr2, Int.toNat_natCast, ht]; simp only [Option.any_some, Bool.true_and]; rw [hg, Int.toNat_natCast, hil, hsy]
  have hSt : ∀ W, SlW W u → Calls Tryz.prog 107 #[wvV u, .int .i64 (c : Int)] W fun e' w' => e' = .returned (.bool sy) ∧ Below W.heap.size W w' := fun W h => by
    have h0 := l8Stayed_any c k g u _ t W h hF HX.out rfl ht hg hg8 hug
    rw [hsy] at h0
    exact h0
  rw [HV.out] at hSt
  obtain ⟨W2, hW2⟩ : ∃ W2, W1.alloc (.cells #[.bool up, .int .i64 (k : Int), .int .i64 ran, .int .i64 bu, .int .i64 idl] 70) = W2 := ⟨_, rfl⟩
  have B2 : Below W1.heap.size W1 W2 := by rw [← hW2]; exact (Below.refl _ _).alloc (Nat.le_refl _) _
  have cb : W2.rangeAt W1.heap.size 0 [.bool up, .int .i64 (k : Int), .int .i64 ran, .int .i64 bu, .int .i64 idl] := range_of_block (by rw [← hW2]; exact World.alloc_heap_new W1 _)
  have lc : W1.heap.size < W2.heap.size := by rw [← hW2]; simp
  have m0 : W2.cell? ⟨W1.heap.size, 0, none⟩ = some (.bool up) := cb 0 _ rfl
  have m1 : W2.cell? ⟨W1.heap.size, 1, none⟩ = some (.int .i64 (k : Int)) := cb 1 _ rfl
  have m2 : W2.cell? ⟨W1.heap.size, 2, none⟩ = some (.int .i64 ran) := cb 2 _ rfl
  have m3 : W2.cell? ⟨W1.heap.size, 3, none⟩ = some (.int .i64 bu) := cb 3 _ rfl
  have m4 : W2.cell? ⟨W1.heap.size, 4, none⟩ = some (.int .i64 idl) := cb 4 _ rfl
  have lw : w.heap.size < W2.heap.size := Nat.lt_of_lt_of_le hlt B2.size
  have t0 := (B2.cell (p := ⟨w.heap.size, 0, none⟩) hlt).trans o0
  have t1 := (B2.cell (p := ⟨w.heap.size, 1, none⟩) hlt).trans o1
  have t2 := (B2.cell (p := ⟨w.heap.size, 2, none⟩) hlt).trans o2
  have t3 := (B2.cell (p := ⟨w.heap.size, 3, none⟩) hlt).trans o3
  have acc : Below w.heap.size w W2 := acc0.trans (B2.mono acc0.size)
  clear hA hs hcr e1 e2 e3 hv cb
  replace b2 := (B2.cell (p := ⟨tg, to + k * 9 + 2, none⟩) lbt).trans b2
  clear htr
  have hcq : (t.cpu == (c : Int)) = false := by simpa using hcp
  have HRq : Hid (cpuSB u c ⟨up, (k : Int), ran, bu, idl⟩ = false) := by unfold Hid; rw [HR1.out, decide_eq_false hcp]; simp
  clear ht hil hsy hSt
  cases h0 : l1in bu 0 100000000000000000
  · have HR : Hid (cpuSB u c ⟨up, (k : Int), ran, bu, idl⟩ = false) := by unfold Hid; simp [HRq.out, h0]
    go_enter Tryz.func67, Tryz.ntmps67
    go_wp2_with (first | (go_at_call 101; refine (l4Time_any _ _).mono ?_; rintro e1 w1 ⟨rfl, hw1⟩; subst w1) | (go_at_call 33; refine (l1In_any _ _ _ _).mono ?_; rintro e1 w1 ⟨rfl, hw1⟩; subst w1))
    go_ret
    refine ⟨?_, acc⟩
    first | exact ret_bool HR.out.symm | (rw [HR.out]; simp [h0]; done) | (rw [HR.out]; simp [h0]; omega)
  · cases h1 : l1in idl 0 100000000000000000
    · have HR : Hid (cpuSB u c ⟨up, (k : Int), ran, bu, idl⟩ = false) := by unfold Hid; simp [HRq.out, h0, h1]
      go_enter Tryz.func67, Tryz.ntmps67
      go_wp2_with (first | (go_at_call 101; refine (l4Time_any _ _).mono ?_; rintro e1 w1 ⟨rfl, hw1⟩; subst w1) | (go_at_call 33; refine (l1In_any _ _ _ _).mono ?_; rintro e1 w1 ⟨rfl, hw1⟩; subst w1))
      go_ret
      refine ⟨?_, acc⟩
      first | exact ret_bool HR.out.symm | (rw [HR.out]; simp [h0, h1]; done) | (rw [HR.out]; simp [h0, h1]; omega)
    · cases up
      · have HR : Hid (cpuSB u c ⟨false, (k : Int), ran, bu, idl⟩ = false) := by unfold Hid; simp [HRq.out, h0, h1]
        go_enter Tryz.func67, Tryz.ntmps67
        go_wp2_with (first | (go_at_call 101; refine (l4Time_any _ _).mono ?_; rintro e1 w1 ⟨rfl, hw1⟩; subst w1) | (go_at_call 33; refine (l1In_any _ _ _ _).mono ?_; rintro e1 w1 ⟨rfl, hw1⟩; subst w1))
        go_ret
        refine ⟨?_, acc⟩
        first | exact ret_bool HR.out.symm | (rw [HR.out]; simp [h0, h1]; done) | (rw [HR.out]; simp [h0, h1]; omega)
      · cases h3 : l1in ran 1 149
        · have HR : Hid (cpuSB u c ⟨true, (k : Int), ran, bu, idl⟩ = false) := by unfold Hid; simp [HRq.out, h0, h1, h3]
          go_enter Tryz.func67, Tryz.ntmps67
          go_wp2_with (first | (go_at_call 101; refine (l4Time_any _ _).mono ?_; rintro e1 w1 ⟨rfl, hw1⟩; subst w1) | (go_at_call 33; refine (l1In_any _ _ _ _).mono ?_; rintro e1 w1 ⟨rfl, hw1⟩; subst w1))
          go_ret
          refine ⟨?_, acc⟩
          first | exact ret_bool HR.out.symm | (rw [HR.out]; simp [h0, h1, h3]; done) | (rw [HR.out]; simp [h0, h1, h3]; omega)
        · have HR : Hid (cpuSB u c ⟨true, (k : Int), ran, bu, idl⟩ = false) := by unfold Hid; simp [HRq.out, h0, h1, h3]
          go_enter Tryz.func67, Tryz.ntmps67
          go_wp2_with (first | (go_at_call 101; refine (l4Time_any _ _).mono ?_; rintro e1 w1 ⟨rfl, hw1⟩; subst w1) | (go_at_call 33; refine (l1In_any _ _ _ _).mono ?_; rintro e1 w1 ⟨rfl, hw1⟩; subst w1))
          go_ret
          refine ⟨?_, acc⟩
          first | exact ret_bool HR.out.symm | (rw [HR.out]; simp [h0, h1, h3]; done) | (rw [HR.out]; simp [h0, h1, h3]; omega)
theorem specCpu_some (c : Nat) (u : Wv) (x : Cp) (w : World) (hs : SlW w u) (hF : Fit u) (hx : u.cs[c]? = some x) (k : Nat) (t : Tk) (hcur : x.cur = (k : Int)) (hk : k < 12) (ht : u.ts[k]? = some t) (hT : TGr u) (hcp : t.cpu = (c : Int)) :
    Calls Tryz.prog 67 #[wvV u, .int .i64 (c : Int)] w fun e' w' => e' = .returned (.bool (cpuSB u c x)) ∧ Below w.heap.size w w' := by
  have hc : c < u.cs.length := (List.getElem?_eq_some_iff.1 hx).1
  have HX : Hid (u.cs[c]? = some x) := hx
  have hnt := hF.nt
  obtain ⟨p1, l1, c1, p2, l2, c2, p3, l3, c3, e1, e2, e3, hv⟩ := wv_form hs
  have HV : Hid (wvV u = .agg #[.int .i64 u.now, .slice p1 l1 c1, .slice p2 l2 c2, .slice p3 l3 c3]) := hv
  rw [hv]
  obtain ⟨W1, hW1⟩ : ∃ W1, w.alloc (.cells #[.int .i64 u.now, .slice p1 l1 c1, .slice p2 l2 c2, .slice p3 l3 c3] 33) = W1 := ⟨_, rfl⟩
  obtain ⟨hA, acc0, hlt⟩ := boxed_w hs e1 e2 e3 hW1
  obtain ⟨o0, o1, o2, o3⟩ := hA.cells
  rw [e1] at o1
  rw [e2] at o2
  rw [e3] at o3
  obtain ⟨cg, co, ccap, w1, hcr, hck, hcl⟩ := hA.cellsC hx
  rw [o1] at w1
  simp only [Option.some.injEq, Value.slice.injEq] at w1
  obtain ⟨q1, q2, q3⟩ := w1
  subst q1 q2 q3
  obtain ⟨a0, a1, a2, a3, a4⟩ := cp_cells hcr
  obtain ⟨k2, m2, f2, hlt2⟩ := SlR.form hs.2.1
  rw [e2] at f2
  simp only [Value.slice.injEq] at f2
  obtain ⟨r1, r2, r3⟩ := f2
  rw [hnt] at r2
  subst r1 r2 r3
  have HS : Hid (SlW w u) := hs
  have HA : Hid (AtW W1 w.heap.size u) := hA
  obtain ⟨up, cur, ran, bu, idl⟩ := x
  dsimp only at hcur a0 a1 a2 a3 a4 ⊢
  subst hcur
  have hr : l1in (k : Int) (-1) 11 = true := l1in_iff.2 ⟨by omega, by omega⟩
  have hr2 : ¬ (k : Int) = -1 := by omega
  have hr3 : ¬ (k : Int) < 0 := by omega
  obtain ⟨tg, to, tcap, w2, htr, htk, htl⟩ := HA.out.cellsT ht
  rw [o2] at w2
  simp only [Option.some.injEq, Value.slice.injEq] at w2
  obtain ⟨q1, q2, q3⟩ := w2
  clear q2
  subst q1 q3
  obtain ⟨_, _, b2, _⟩ := tk_cells htr
  have lbt := block_lt_of_cell b2
  obtain ⟨g, hg, hg8, hug⟩ := hT k t ht
  obtain ⟨il, hil⟩ : ∃ b, inlineB (gsD u.gs) t.st g c = b := ⟨_, rfl⟩
  obtain ⟨sy, hsy⟩ : ∃ b, stayS (gsD u.gs) c ran t g = b := ⟨_, rfl⟩
  have HR1 : Hid (cpuSB u c ⟨up, (k : Int), ran, bu, idl⟩ = (l1in bu 0 100000000000000000 && (l1in idl 0 100000000000000000 && (up && (l1in ran 1 149 && (decide (t.cpu = (c : Int)) && (il && sy))))))) := by
    unfold Hid cpuSB timeB; dsimp only; rw [hr, if_neg hr2, Int.toNat_natCast, ht]; simp only [Option.any_some, Bool.true_and]; rw [hg, Int.toNat_natCast, hil, hsy]
  have hSt : ∀ W, SlW W u → Calls Tryz.prog 107 #[wvV u, .int .i64 (c : Int)] W fun e' w' => e' = .returned (.bool sy) ∧ Below W.heap.size W w' := fun W h => by
    have h0 := l8Stayed_any c k g u _ t W h hF HX.out rfl ht hg hg8 hug
    rw [hsy] at h0
    exact h0
  rw [HV.out] at hSt
  obtain ⟨W2, hW2⟩ : ∃ W2, W1.alloc (.cells #[.bool up, .int .i64 (k : Int), .int .i64 ran, .int .i64 bu, .int .i64 idl] 70) = W2 := ⟨_, rfl⟩
  have B2 : Below W1.heap.size W1 W2 := by rw [← hW2]; exact (Below.refl _ _).alloc (Nat.le_refl _) _
  have cb : W2.rangeAt W1.heap.size 0 [.bool up, .int .i64 (k : Int), .int .i64 ran, .int .i64 bu, .int .i64 idl] := range_of_block (by rw [← hW2]; exact World.alloc_heap_new W1 _)
  have lc : W1.heap.size < W2.heap.size := by rw [← hW2]; simp
  have m0 : W2.cell? ⟨W1.heap.size, 0, none⟩ = some (.bool up) := cb 0 _ rfl
  have m1 : W2.cell? ⟨W1.heap.size, 1, none⟩ = some (.int .i64 (k : Int)) := cb 1 _ rfl
  have m2 : W2.cell? ⟨W1.heap.size, 2, none⟩ = some (.int .i64 ran) := cb 2 _ rfl
  have m3 : W2.cell? ⟨W1.heap.size, 3, none⟩ = some (.int .i64 bu) := cb 3 _ rfl
  have m4 : W2.cell? ⟨W1.heap.size, 4, none⟩ = some (.int .i64 idl) := cb 4 _ rfl
  have lw : w.heap.size < W2.heap.size := Nat.lt_of_lt_of_le hlt B2.size
  have t0 := (B2.cell (p := ⟨w.heap.size, 0, none⟩) hlt).trans o0
  have t1 := (B2.cell (p := ⟨w.heap.size, 1, none⟩) hlt).trans o1
  have t2 := (B2.cell (p := ⟨w.heap.size, 2, none⟩) hlt).trans o2
  have t3 := (B2.cell (p := ⟨w.heap.size, 3, none⟩) hlt).trans o3
  have acc : Below w.heap.size w W2 := acc0.trans (B2.mono acc0.size)
  clear hA hs hcr e1 e2 e3 hv cb
  replace b2 := (B2.cell (p := ⟨tg, to + k * 9 + 2, none⟩) lbt).trans b2
  clear htr
  have hI : ∀ W, SlW W u → Calls Tryz.prog 49 #[wvV u, .int .i64 (k : Int)] W fun e' w' => e' = .returned (.bool il) ∧ Below W.heap.size W w' := fun W h => by
    have h0 := l8InLine_any k g c u t W h hF.tree ht hg8 hug (hF.ok hc) hg hcp
    rw [hil] at h0
    exact h0
  rw [HV.out] at hI
  rw [hcp] at b2
  have HR2 : Hid (cpuSB u c ⟨up, (k : Int), ran, bu, idl⟩ = (l1in bu 0 100000000000000000 && (l1in idl 0 100000000000000000 && (up && (l1in ran 1 149 && (il && sy)))))) := by unfold Hid; rw [HR1.out, decide_eq_true hcp, Bool.true_and]
  clear ht hil hsy
  cases h0 : l1in bu 0 100000000000000000
  · have HR : Hid (cpuSB u c ⟨up, (k : Int), ran, bu, idl⟩ = false) := by unfold Hid; simp [HR2.out, h0]
    go_enter Tryz.func67, Tryz.ntmps67
    go_wp2_with (first | (go_at_call 101; refine (l4Time_any _ _).mono ?_; rintro e1 w1 ⟨rfl, hw1⟩; subst w1) | (go_at_call 33; refine (l1In_any _ _ _ _).mono ?_; rintro e1 w1 ⟨rfl, hw1⟩; subst w1) | (go_at_call 49; refine (hI _ (HS.out.below acc)).mono ?_; rintro e1 w1 ⟨rfl, hb1⟩; obtain ⟨t0, t1, t2, t3⟩ := cells_4 hb1 lw t0 t1 t2 t3; have lw := Nat.lt_of_lt_of_le lw hb1.size; replace acc := acc.trans (hb1.mono acc.size); clear hb1) | (go_at_call 107; refine (hSt _ (HS.out.below acc)).mono ?_; rintro e1 w1 ⟨rfl, hb1⟩; obtain ⟨t0, t1, t2, t3⟩ := cells_4 hb1 lw t0 t1 t2 t3; have lw := Nat.lt_of_lt_of_le lw hb1.size; replace acc := acc.trans (hb1.mono acc.size); clear hb1))
    go_ret
    refine ⟨?_, acc⟩
    first | exact ret_bool HR.out.symm | (rw [HR.out]; simp [h0]; done) | (rw [HR.out]; simp [h0]; omega)
  · cases h1 : l1in idl 0 100000000000000000
    · have HR : Hid (cpuSB u c ⟨up, (k : Int), ran, bu, idl⟩ = false) := by unfold Hid; simp [HR2.out, h0, h1]
      go_enter Tryz.func67, Tryz.ntmps67
      go_wp2_with (first | (go_at_call 101; refine (l4Time_any _ _).mono ?_; rintro e1 w1 ⟨rfl, hw1⟩; subst w1) | (go_at_call 33; refine (l1In_any _ _ _ _).mono ?_; rintro e1 w1 ⟨rfl, hw1⟩; subst w1) | (go_at_call 49; refine (hI _ (HS.out.below acc)).mono ?_; rintro e1 w1 ⟨rfl, hb1⟩; obtain ⟨t0, t1, t2, t3⟩ := cells_4 hb1 lw t0 t1 t2 t3; have lw := Nat.lt_of_lt_of_le lw hb1.size; replace acc := acc.trans (hb1.mono acc.size); clear hb1) | (go_at_call 107; refine (hSt _ (HS.out.below acc)).mono ?_; rintro e1 w1 ⟨rfl, hb1⟩; obtain ⟨t0, t1, t2, t3⟩ := cells_4 hb1 lw t0 t1 t2 t3; have lw := Nat.lt_of_lt_of_le lw hb1.size; replace acc := acc.trans (hb1.mono acc.size); clear hb1))
      go_ret
      refine ⟨?_, acc⟩
      first | exact ret_bool HR.out.symm | (rw [HR.out]; simp [h0, h1]; done) | (rw [HR.out]; simp [h0, h1]; omega)
    · cases up
      · have HR : Hid (cpuSB u c ⟨false, (k : Int), ran, bu, idl⟩ = false) := by unfold Hid; simp [HR2.out, h0, h1]
        go_enter Tryz.func67, Tryz.ntmps67
        go_wp2_with (first | (go_at_call 101; refine (l4Time_any _ _).mono ?_; rintro e1 w1 ⟨rfl, hw1⟩; subst w1) | (go_at_call 33; refine (l1In_any _ _ _ _).mono ?_; rintro e1 w1 ⟨rfl, hw1⟩; subst w1) | (go_at_call 49; refine (hI _ (HS.out.below acc)).mono ?_; rintro e1 w1 ⟨rfl, hb1⟩; obtain ⟨t0, t1, t2, t3⟩ := cells_4 hb1 lw t0 t1 t2 t3; have lw := Nat.lt_of_lt_of_le lw hb1.size; replace acc := acc.trans (hb1.mono acc.size); clear hb1) | (go_at_call 107; refine (hSt _ (HS.out.below acc)).mono ?_; rintro e1 w1 ⟨rfl, hb1⟩; obtain ⟨t0, t1, t2, t3⟩ := cells_4 hb1 lw t0 t1 t2 t3; have lw := Nat.lt_of_lt_of_le lw hb1.size; replace acc := acc.trans (hb1.mono acc.size); clear hb1))
        go_ret
        refine ⟨?_, acc⟩
        first | exact ret_bool HR.out.symm | (rw [HR.out]; simp [h0, h1]; done) | (rw [HR.out]; simp [h0, h1]; omega)
      · cases h3 : l1in ran 1 149
        · have HR : Hid (cpuSB u c ⟨true, (k : Int), ran, bu, idl⟩ = false) := by unfold Hid; simp [HR2.out, h0, h1, h3]
          go_enter Tryz.func67, Tryz.ntmps67
          go_wp2_with (first | (go_at_call 101; refine (l4Time_any _ _).mono ?_; rintro e1 w1 ⟨rfl, hw1⟩; subst w1) | (go_at_call 33; refine (l1In_any _ _ _ _).mono ?_; rintro e1 w1 ⟨rfl, hw1⟩; subst w1) | (go_at_call 49; refine (hI _ (HS.out.below acc)).mono ?_; rintro e1 w1 ⟨rfl, hb1⟩; obtain ⟨t0, t1, t2, t3⟩ := cells_4 hb1 lw t0 t1 t2 t3; have lw := Nat.lt_of_lt_of_le lw hb1.size; replace acc := acc.trans (hb1.mono acc.size); clear hb1) | (go_at_call 107; refine (hSt _ (HS.out.below acc)).mono ?_; rintro e1 w1 ⟨rfl, hb1⟩; obtain ⟨t0, t1, t2, t3⟩ := cells_4 hb1 lw t0 t1 t2 t3; have lw := Nat.lt_of_lt_of_le lw hb1.size; replace acc := acc.trans (hb1.mono acc.size); clear hb1))
          go_ret
          refine ⟨?_, acc⟩
          first | exact ret_bool HR.out.symm | (rw [HR.out]; simp [h0, h1, h3]; done) | (rw [HR.out]; simp [h0, h1, h3]; omega)
        · cases h4 : il
          · have HR : Hid (cpuSB u c ⟨true, (k : Int), ran, bu, idl⟩ = false) := by unfold Hid; simp [HR2.out, h0, h1, h3, h4]
            go_enter Tryz.func67, Tryz.ntmps67
            go_wp2_with (first | (go_at_call 101; refine (l4Time_any _ _).mono ?_; rintro e1 w1 ⟨rfl, hw1⟩; subst w1) | (go_at_call 33; refine (l1In_any _ _ _ _).mono ?_; rintro e1 w1 ⟨rfl, hw1⟩; subst w1) | (go_at_call 49; refine (hI _ (HS.out.below acc)).mono ?_; rintro e1 w1 ⟨rfl, hb1⟩; obtain ⟨t0, t1, t2, t3⟩ := cells_4 hb1 lw t0 t1 t2 t3; have lw := Nat.lt_of_lt_of_le lw hb1.size; replace acc := acc.trans (hb1.mono acc.size); clear hb1) | (go_at_call 107; refine (hSt _ (HS.out.below acc)).mono ?_; rintro e1 w1 ⟨rfl, hb1⟩; obtain ⟨t0, t1, t2, t3⟩ := cells_4 hb1 lw t0 t1 t2 t3; have lw := Nat.lt_of_lt_of_le lw hb1.size; replace acc := acc.trans (hb1.mono acc.size); clear hb1))
            go_ret
            refine ⟨?_, acc⟩
            first | exact ret_bool HR.out.symm | (rw [HR.out]; simp [h0, h1, h3, h4]; done) | (rw [HR.out]; simp [h0, h1, h3, h4]; omega)
          · cases h5 : sy
            · have HR : Hid (cpuSB u c ⟨true, (k : Int), ran, bu, idl⟩ = false) := by unfold Hid; simp [HR2.out, h0, h1, h3, h4, h5]
              go_enter Tryz.func67, Tryz.ntmps67
              go_wp2_with (first | (go_at_call 101; refine (l4Time_any _ _).mono ?_; rintro e1 w1 ⟨rfl, hw1⟩; subst w1) | (go_at_call 33; refine (l1In_any _ _ _ _).mono ?_; rintro e1 w1 ⟨rfl, hw1⟩; subst w1) | (go_at_call 49; refine (hI _ (HS.out.below acc)).mono ?_; rintro e1 w1 ⟨rfl, hb1⟩; obtain ⟨t0, t1, t2, t3⟩ := cells_4 hb1 lw t0 t1 t2 t3; have lw := Nat.lt_of_lt_of_le lw hb1.size; replace acc := acc.trans (hb1.mono acc.size); clear hb1) | (go_at_call 107; refine (hSt _ (HS.out.below acc)).mono ?_; rintro e1 w1 ⟨rfl, hb1⟩; obtain ⟨t0, t1, t2, t3⟩ := cells_4 hb1 lw t0 t1 t2 t3; have lw := Nat.lt_of_lt_of_le lw hb1.size; replace acc := acc.trans (hb1.mono acc.size); clear hb1))
              go_ret
              refine ⟨?_, acc⟩
              first | exact ret_bool HR.out.symm | (rw [HR.out]; simp [h0, h1, h3, h4, h5]; done) | (rw [HR.out]; simp [h0, h1, h3, h4, h5]; omega)
            · have HR : Hid (cpuSB u c ⟨true, (k : Int), ran, bu, idl⟩ = true) := by unfold Hid; simp [HR2.out, h0, h1, h3, h4, h5]
              go_enter Tryz.func67, Tryz.ntmps67
              go_wp2_with (first | (go_at_call 101; refine (l4Time_any _ _).mono ?_; rintro e1 w1 ⟨rfl, hw1⟩; subst w1) | (go_at_call 33; refine (l1In_any _ _ _ _).mono ?_; rintro e1 w1 ⟨rfl, hw1⟩; subst w1) | (go_at_call 49; refine (hI _ (HS.out.below acc)).mono ?_; rintro e1 w1 ⟨rfl, hb1⟩; obtain ⟨t0, t1, t2, t3⟩ := cells_4 hb1 lw t0 t1 t2 t3; have lw := Nat.lt_of_lt_of_le lw hb1.size; replace acc := acc.trans (hb1.mono acc.size); clear hb1) | (go_at_call 107; refine (hSt _ (HS.out.below acc)).mono ?_; rintro e1 w1 ⟨rfl, hb1⟩; obtain ⟨t0, t1, t2, t3⟩ := cells_4 hb1 lw t0 t1 t2 t3; have lw := Nat.lt_of_lt_of_le lw hb1.size; replace acc := acc.trans (hb1.mono acc.size); clear hb1))
              go_ret
              refine ⟨?_, acc⟩
              first | exact ret_bool HR.out.symm | (rw [HR.out]; simp [h0, h1, h3, h4, h5]; done) | (rw [HR.out]; simp [h0, h1, h3, h4, h5]; omega)
theorem l8CpuOk_any (c : Nat) (u : Wv) (x : Cp) (w : World) (hs : SlW w u) (hF : Fit u) (hx : u.cs[c]? = some x) (hT : TGr u) :
    Calls Tryz.prog 67 #[wvV u, .int .i64 (c : Int)] w fun e' w' => e' = .returned (.bool (cpuSB u c x)) ∧ Below w.heap.size w w' := by
  cases hr : l1in x.cur (-1) 11
  · exact specCpu_out c u x w hs hF hx hr
  · obtain ⟨h1, h2⟩ := l1in_iff.1 hr
    by_cases h0 : x.cur = -1
    · exact specCpu_none c u x w hs hF hx h0
    · obtain ⟨k, hk⟩ := Int.eq_ofNat_of_zero_le (show 0 ≤ x.cur by omega)
      have hk12 : k < 12 := by omega
      obtain ⟨t, ht⟩ : ∃ t, u.ts[k]? = some t := ⟨_, List.getElem?_eq_getElem (by rw [hF.nt]; exact hk12)⟩
      by_cases hcp : t.cpu = (c : Int)
      · exact specCpu_some c u x w hs hF hx k t hk hk12 ht hT hcp
      · exact specCpu_else c u x w hs hF hx k t hk hk12 ht hT hcp
end Go.Proofs.YtnmmglkigiakaaaGreat
