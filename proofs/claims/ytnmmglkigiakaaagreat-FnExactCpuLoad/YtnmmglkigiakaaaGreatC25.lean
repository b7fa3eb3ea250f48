/- The specification on worlds: where a group's tasks may be; who is dry, who stands. The specification on worlds: where a task may be; who is dry; who is in line. The specification: no band; the half of all time. The specification: who is in line. The specification: whether somebody stands in a group's queue on a processor. What must hold of a world, as plain functions of its rows. Sets of processors: what the program and the specification call a group's pins is one; where a task may be is a processor that there is. -/
import Derived.Test.YtnmmglkigiakaaaGreatC24
namespace Go.Proofs.YtnmmglkigiakaaaGreat
set_option linter.unusedVariables false
set_option linter.unusedSimpArgs false
open Go.ChangeShapes Go.WideShapes Go.ChangeAt Go.RowKit Go.Shelf Go.Sort

theorem boxed_w {w W1 : World} {u : Wv} {b c d : Value} (hs : SlW w u) (hb : u.x = b) (hc : u.y = c) (hd : u.z = d) (h : w.alloc (.cells #[.int .i64 u.now, b, c, d] 33) = W1) : AtW W1 w.heap.size u ∧ Below w.heap.size w W1 ∧ w.heap.size < W1.heap.size := by
  subst h hb hc hd
  exact ⟨⟨heap_alloc_new w _, hs.below ((Below.refl _ _).alloc (Nat.le_refl _) _)⟩, (Below.refl _ _).alloc (Nat.le_refl _) _, by simp⟩
theorem wv_form {w : World} {u : Wv} (hs : SlW w u) : ∃ p1 l1 c1 p2 l2 c2 p3 l3 c3, u.x = .slice p1 l1 c1 ∧ u.y = .slice p2 l2 c2 ∧ u.z = .slice p3 l3 c3 ∧ wvV u = .agg #[.int .i64 u.now, .slice p1 l1 c1, .slice p2 l2 c2, .slice p3 l3 c3] := by
  obtain ⟨⟨p1, l1, c1, e1⟩, ⟨p2, l2, c2, e2⟩, ⟨p3, l3, c3, e3⟩⟩ := hs.form
  exact ⟨p1, l1, c1, p2, l2, c2, p3, l3, c3, e1, e2, e3, by unfold wvV; rw [e1, e2, e3]⟩
theorem l4Time_any (n : Int) (w : World) : Calls Tryz.prog 101 #[.int .i64 n] w fun e w' => e = .returned (.bool (l1in n 0 100000000000000000)) ∧ w' = w := by
  go_enter Tryz.func101, Tryz.ntmps101
  go_wp2_with (go_at_call 33; refine (l1In_any _ _ _ _).mono ?_; rintro e w1 ⟨rfl, rfl⟩)
  go_ret
  exact ⟨rfl, rfl⟩
theorem l8Stand_any (v f wt : Int) (w : World) : Calls Tryz.prog 104 #[.int .i64 v, .int .i64 f, .int .i64 wt] w fun e w' => e = .returned (.bool (withinB v f (vstep 149 wt))) ∧ w' = w := by
  by_cases a : f ≤ v
  · by_cases b : wrap64 (v - f) ≤ vstep 149 wt
    · have HT : Hid (withinB v f (vstep 149 wt) = true) := by unfold Hid withinB; simp [a, b]
      go_enter Tryz.func104, Tryz.ntmps104
      go_wp2_with (go_at_call 136; refine (spec_lagmost _ _).mono ?_; rintro e w1 ⟨rfl, rfl⟩)
      go_ret
      exact ⟨by rw [HT.out]; first | rfl | simp [b], rfl⟩
    · have HT : Hid (withinB v f (vstep 149 wt) = false) := by unfold Hid withinB; simp [b]
      go_enter Tryz.func104, Tryz.ntmps104
      go_wp2_with (go_at_call 136; refine (spec_lagmost _ _).mono ?_; rintro e w1 ⟨rfl, rfl⟩)
      go_ret
      exact ⟨by rw [HT.out]; first | rfl | simp [b], rfl⟩
  · have HT : Hid (withinB v f (vstep 149 wt) = false) := by unfold Hid withinB; simp [a]
    go_enter Tryz.func104, Tryz.ntmps104
    go_wp2
    go_ret
    exact ⟨by rw [HT.out]; rfl, rfl⟩
set_option maxHeartbeats 4000000 in
theorem l8Queued_any (k c : Nat) (u : Wv) (e : Gv) (s : Sh) (w : World) (hs : SlW w u) (he : u.gs[k]? = some e) (hc : e.d.sh[c]? = some s) :
    Calls Tryz.prog 86 #[wvV u, .int .i64 (k : Int), .int .i64 (c : Int)] w fun e' w' => e' = .returned (.bool s.on) ∧ Below w.heap.size w w' := by
  obtain ⟨p1, l1, c1, p2, l2, c2, p3, l3, c3, e1, e2, e3, hv⟩ := wv_form hs
  rw [hv]
  obtain ⟨W1, hW1⟩ : ∃ W1, w.alloc (.cells #[.int .i64 u.now, .slice p1 l1 c1, .slice p2 l2 c2, .slice p3 l3 c3] 33) = W1 := ⟨_, rfl⟩
  obtain ⟨hA, acc, hlt⟩ := boxed_w hs e1 e2 e3 hW1
  obtain ⟨gr, go, cap, w3, hr, hk, hl⟩ := hA.cellsG he
  obtain ⟨_, _, _, _, _, _, _, _, _, _, _, _, _, y13⟩ := gv_cells hr
  obtain ⟨zg, zo, zc, hz, hsr⟩ := hA.shelf he hc
  obtain ⟨_, s1, _⟩ := sh_cells hsr
  rw [hz] at y13
  have hcs : c < e.d.sh.length := (List.getElem?_eq_some_iff.1 hc).1
  have hsl : e.d.sh.length ≤ 9223372036854775807 := (SlR.form (hA.sh he)).choose_spec.choose_spec.2
  clear hA hr hsr hz he hc hs e1 e2 e3 hv
  go_enter Tryz.func86, Tryz.ntmps86
  go_wp2
  go_ret
  exact ⟨rfl, acc⟩
/-- the sets of all groups are sets. -/
def CpFit (ds : List Gr) : Prop := ∀ (k : Nat) (d : Gr), ds[k]? = some d → d.us = true → 0 ≤ d.cp ∧ d.cp ≤ 15
def pinF (ds : List Gr) : Nat → Nat → Int → Int
  | 0, _, m => m
  | f + 1, g, m => if g = 0 then m else pinF ds f (paAt ds g).toNat (Msk.andM m (cpAt ds (paAt ds g).toNat))
def pinS (ds : List Gr) (g : Nat) : Int := pinF ds (depB ds (g : Int)).toNat g (cpAt ds g)
set_option maxRecDepth 100000 in
set_option maxHeartbeats 8000000 in
theorem l8Pins_any (g : Nat) (u : Wv) (w : World) (hs : SlW w u) (ht : treeB (gsD u.gs) = true) (hg : g < 8) (hu : usAt (gsD u.gs) g = true) :
    Calls Tryz.prog 135 #[wvV u, .int .i64 (g : Int)] w fun e' w' => e' = .returned (.int .i64 (pinS (gsD u.gs) g)) ∧ Below w.heap.size w w' := by
  have h8 := (tree_facts ht).1
  rw [gsD_length] at h8
  have H8 : Hid (u.gs.length = 8) := h8
  clear h8
  obtain ⟨p1, l1, c1, p2, l2, c2, p3, l3, c3, e1, e2, e3, hv⟩ := wv_form hs
  rw [hv]
  obtain ⟨W1, hW1⟩ : ∃ W1, w.alloc (.cells #[.int .i64 u.now, .slice p1 l1 c1, .slice p2 l2 c2, .slice p3 l3 c3] 33) = W1 := ⟨_, rfl⟩
  obtain ⟨hA, acc, hlt⟩ := boxed_w hs e1 e2 e3 hW1
  have hrow : Hid (∀ k, k < 8 → ∃ e gr go cap, u.gs[k]? = some e ∧ W1.cell? ⟨w.heap.size, 3, none⟩ = some (.slice (some ⟨gr, go, none⟩) u.gs.length cap) ∧ W1.cell? ⟨gr, go + k * 14 + 1, none⟩ = some (.int .i64 (paAt (gsD u.gs) k)) ∧ W1.cell? ⟨gr, go + k * 14 + 4, none⟩ = some (.int .i64 (cpAt (gsD u.gs) k)) ∧ k < u.gs.length ∧ u.gs.length ≤ 9223372036854775807) := by
    intro k hk
    obtain ⟨e, he, _, q1, _⟩ := gs_get (vs := u.gs) (k := k) (by rw [H8.out]; exact hk)
    obtain ⟨gr, go, cap, w3, hr, hk', hl⟩ := hA.cellsG he
    obtain ⟨_, y1, _, _, y4, _⟩ := gv_cells hr
    exact ⟨e, gr, go, cap, he, w3, by rw [q1]; exact y1, by rw [cpAt_eq he]; exact y4, hk', hl⟩
  obtain ⟨e, gr, go, cap, he, w3, y1, y4, hk, hl⟩ := hrow.out g hg
  clear hA hs e1 e2 e3 hv he
  go_enter Tryz.func135, Tryz.ntmps135
  go_wp2
  clear w3 y1 y4 hk
  go_loop [1, 5] (fun t m => ∃ (j : Nat) (x : Int), j < 8 ∧ usAt (gsD u.gs) j = true ∧ t = .int .i64 (j : Int) ∧ m = .int .i64 x ∧ pinS (gsD u.gs) g = pinF (gsD u.gs) (depB (gsD u.gs) (j : Int)).toNat j x) (fun t _ => (depB (gsD u.gs) (intOf t)).toNat)
  case atStart => exact ⟨g, _, hg, hu, rfl, rfl, rfl⟩
  case round =>
    obtain ⟨j, x, hj, uj, rfl, rfl, hx⟩ := hrel
    rcases tree_step ht hj uj with ⟨rfl, hd⟩ | ⟨hj0, j', hp, hj', uj', hd, hd', _⟩
    · have HX : Hid (pinS (gsD u.gs) g = x) := by
        unfold Hid; rw [hx, hd]; rfl
      clear hx hd
      go_wp2
      go_ret
      exact ⟨by rw [HX.out]; rfl, acc⟩
    · have hj0' : ¬ (j : Int) = 0 := by omega
      obtain ⟨_, gr1, go1, cap1, _, w3, y1, _, hk1, hl1⟩ := hrow.out j hj
      obtain ⟨_, gr2, go2, cap2, _, w3', _, y4, hk2, _⟩ := hrow.out j' hj'
      rw [w3] at w3'
      simp only [Option.some.injEq, Value.slice.injEq, Addr.mk.injEq, and_true, true_and] at w3'
      obtain ⟨⟨rfl, rfl⟩, rfl⟩ := w3'
      rw [hp] at y1
      have HX : Hid (pinS (gsD u.gs) g = pinF (gsD u.gs) (depB (gsD u.gs) (j' : Int)).toNat j' (Msk.andM x (cpAt (gsD u.gs) j'))) := by
        unfold Hid
        rw [hx]
        have : (depB (gsD u.gs) (j : Int)).toNat = (depB (gsD u.gs) (j' : Int)).toNat + 1 := by omega
        rw [this]
        conv => lhs; unfold pinF
        rw [if_neg hj0, hp, Int.toNat_natCast]
      have HD : Hid (depB (gsD u.gs) (j : Int) = depB (gsD u.gs) (j' : Int) + 1 ∧ 0 ≤ depB (gsD u.gs) (j' : Int)) := ⟨hd, hd'⟩
      clear hx hd hd' hp
      go_wp2_with (go_at_call 134; refine (Msk.spec_and _ _ _).mono ?_; rintro e' w' ⟨rfl, rfl⟩)
      refine ⟨⟨j', _, hj', uj', rfl, rfl, HX.out⟩, ?_⟩
      have := HD.out
      simp only [intOf]; omega
end Go.Proofs.YtnmmglkigiakaaaGreat
namespace Go.Proofs.YtnmmglkigiakaaaGreat
set_option linter.unusedVariables false
set_option linter.unusedSimpArgs false
open Go.ChangeShapes Go.WideShapes Go.ChangeAt Go.RowKit Go.Shelf Go.Sort

def whereS (cs : List Cp) (ds : List Gr) (g : Nat) (ma : Int) : Int :=
  if Msk.andM ma (Msk.andM (pinS ds g) (upsM cs)) ≠ 0 then Msk.andM ma (Msk.andM (pinS ds g) (upsM cs)) else if Msk.andM (pinS ds g) (upsM cs) ≠ 0 then Msk.andM (pinS ds g) (upsM cs) else upsM cs
set_option maxHeartbeats 4000000 in
theorem l8Where_any (g : Nat) (ma : Int) (u : Wv) (w : World) (hs : SlW w u) (hn : u.cs.length ≤ 4) (ht : treeB (gsD u.gs) = true) (hg : g < 8) (hu : usAt (gsD u.gs) g = true) :
    Calls Tryz.prog 103 #[wvV u, .int .i64 (g : Int), .int .i64 ma] w fun e' w' => e' = .returned (.int .i64 (whereS u.cs (gsD u.gs) g ma)) ∧ Below w.heap.size w w' := by
  obtain ⟨p1, l1, c1, p2, l2, c2, p3, l3, c3, e1, e2, e3, hv⟩ := wv_form hs
  have hP : ∀ W, SlW W u → Calls Tryz.prog 135 #[wvV u, .int .i64 (g : Int)] W fun e' w' => e' = .returned (.int .i64 (pinS (gsD u.gs) g)) ∧ Below W.heap.size W w' := fun W h => l8Pins_any g u W h ht hg hu
  have hU : ∀ W, SlW W u → Calls Tryz.prog 63 #[wvV u] W fun e' w' => e' = .returned (.int .i64 (upsM u.cs)) ∧ Below W.heap.size W w' := fun W h => spec_ups u W h hn
  rw [hv] at hP hU ⊢
  obtain ⟨W1, hW1⟩ : ∃ W1, w.alloc (.cells #[.int .i64 u.now, .slice p1 l1 c1, .slice p2 l2 c2, .slice p3 l3 c3] 33) = W1 := ⟨_, rfl⟩
  obtain ⟨hA, acc, hlt⟩ := boxed_w hs e1 e2 e3 hW1
  obtain ⟨o0, o1, o2, o3⟩ := hA.cells
  rw [e1] at o1
  rw [e2] at o2
  rw [e3] at o3
  obtain ⟨p, hp⟩ : ∃ p, Msk.andM (pinS (gsD u.gs) g) (upsM u.cs) = p := ⟨_, rfl⟩
  obtain ⟨o, ho⟩ : ∃ o, Msk.andM ma p = o := ⟨_, rfl⟩
  have HR : Hid (whereS u.cs (gsD u.gs) g ma = if o ≠ 0 then o else if p ≠ 0 then p else upsM u.cs) := by unfold Hid whereS; rw [hp, ho]
  have HS : Hid (SlW w u) := hs
  have HA : Hid (Msk.andM (pinS (gsD u.gs) g) (upsM u.cs) = p) := hp
  have HB : Hid (Msk.andM ma p = o) := ho
  clear hA hs e1 e2 e3 hv hp ho
  by_cases ho0 : o = 0
  · subst ho0
    by_cases hp0 : p = 0
    · subst hp0
      go_enter Tryz.func103, Tryz.ntmps103
      go_wp2_with (first | (go_at_call 63; refine (hU _ (HS.out.below acc)).mono ?_; rintro e' w' ⟨rfl, hb⟩; have o0 := (hb.cell hlt).trans o0; have o1 := (hb.cell hlt).trans o1; have o2 := (hb.cell hlt).trans o2; have o3 := (hb.cell hlt).trans o3; have hlt := Nat.lt_of_lt_of_le hlt hb.size; replace acc := acc.trans (hb.mono acc.size); clear hb) | (go_at_call 135; refine (hP _ (HS.out.below acc)).mono ?_; rintro e' w' ⟨rfl, hb⟩; replace acc := acc.trans (hb.mono acc.size); clear hb) | (go_at_call 134; refine (Msk.spec_and _ _ _).mono ?_; rintro e' w' ⟨rfl, rfl⟩; first | rw [HA.out] | rw [HB.out]))
      go_ret
      exact ⟨by rw [HR.out]; rfl, acc⟩
    · go_enter Tryz.func103, Tryz.ntmps103
      go_wp2_with (first | (go_at_call 63; refine (hU _ (HS.out.below acc)).mono ?_; rintro e' w' ⟨rfl, hb⟩; have o0 := (hb.cell hlt).trans o0; have o1 := (hb.cell hlt).trans o1; have o2 := (hb.cell hlt).trans o2; have o3 := (hb.cell hlt).trans o3; have hlt := Nat.lt_of_lt_of_le hlt hb.size; replace acc := acc.trans (hb.mono acc.size); clear hb) | (go_at_call 135; refine (hP _ (HS.out.below acc)).mono ?_; rintro e' w' ⟨rfl, hb⟩; replace acc := acc.trans (hb.mono acc.size); clear hb) | (go_at_call 134; refine (Msk.spec_and _ _ _).mono ?_; rintro e' w' ⟨rfl, rfl⟩; first | rw [HA.out] | rw [HB.out]))
      go_ret
      exact ⟨by rw [HR.out, if_neg (by simp), if_pos hp0]; rfl, acc⟩
  · go_enter Tryz.func103, Tryz.ntmps103
    go_wp2_with (first | (go_at_call 63; refine (hU _ (HS.out.below acc)).mono ?_; rintro e' w' ⟨rfl, hb⟩; have o0 := (hb.cell hlt).trans o0; have o1 := (hb.cell hlt).trans o1; have o2 := (hb.cell hlt).trans o2; have o3 := (hb.cell hlt).trans o3; have hlt := Nat.lt_of_lt_of_le hlt hb.size; replace acc := acc.trans (hb.mono acc.size); clear hb) | (go_at_call 135; refine (hP _ (HS.out.below acc)).mono ?_; rintro e' w' ⟨rfl, hb⟩; replace acc := acc.trans (hb.mono acc.size); clear hb) | (go_at_call 134; refine (Msk.spec_and _ _ _).mono ?_; rintro e' w' ⟨rfl, rfl⟩; first | rw [HA.out] | rw [HB.out]))
    go_ret
    exact ⟨by rw [HR.out, if_pos ho0]; rfl, acc⟩
set_option maxHeartbeats 4000000 in
theorem l8Dry_any (k c : Nat) (u : Wv) (e : Gv) (w : World) (hs : SlW w u) (he : u.gs[k]? = some e) (hd : 0 < e.d.ba.qu → c < e.d.ba.dr.length) :
    Calls Tryz.prog 106 #[wvV u, .int .i64 (k : Int), .int .i64 (c : Int)] w fun e' w' => e' = .returned (.bool (dryB e.d.ba c)) ∧ Below w.heap.size w w' := by
  obtain ⟨p1', l1', c1', p2', l2', c2', p3', l3', c3', e1, e2, e3, hv⟩ := wv_form hs
  rw [hv]
  obtain ⟨W1, hW1⟩ : ∃ W1, w.alloc (.cells #[.int .i64 u.now, .slice p1' l1' c1', .slice p2' l2' c2', .slice p3' l3' c3'] 33) = W1 := ⟨_, rfl⟩
  obtain ⟨h, acc, hlt⟩ := boxed_w hs e1 e2 e3 hW1
  obtain ⟨gr, go, cap, w3, hc, hk, hlen⟩ := h.cellsG he
  obtain ⟨y0, y1, y2, y3, y4, y5, y6, y7, y8, y9, y10, y11, y12, y13⟩ := gv_cells hc
  have hok := h.2.2.2.2 e (List.mem_of_getElem? he)
  obtain ⟨p1, c1, f1, l1⟩ := hok.1.1.form
  obtain ⟨p2, c2, f2, l2⟩ := hok.1.2.form
  rw [f1] at y11
  rw [f2] at y12
  have hdr : ∀ v, drAt e.d.ba c = v → 0 < e.d.ba.qu → ∃ g o, p2 = some ⟨g, o, none⟩ ∧ W1.cell? ⟨g, o + c, none⟩ = some (.bool v) ∧ c < e.d.ba.dr.length ∧ g < W1.heap.size := by
    intro v hv hq
    have hlt := hd hq
    have h2 := hok.1.2
    rw [f2] at h2
    rcases h2 with ⟨h0, _⟩ | ⟨g, o, cp, e1, hB, _⟩
    · rw [h0] at hlt; exact absurd hlt (by simp)
    · simp only [Value.slice.injEq] at e1
      obtain ⟨rfl, _, _⟩ := e1
      have hx : e.d.ba.dr[c]? = some v := by
        have := List.getElem?_eq_getElem hlt
        rw [this]; unfold drAt at hv; rw [this] at hv; simpa using hv
      have hcell := hB c v hx
      exact ⟨g, o, rfl, hcell, hlt, block_lt_of_cell hcell⟩
  obtain ⟨⟨us, pa, na, we, cp, pe, ne, su, ⟨qu, po, sp, lo, dr⟩, sh⟩, x, y, z⟩ := e
  dsimp only at *
  have hbB : ∀ A, Below w.heap.size w (W1.alloc A) := fun A => acc.alloc acc.size _
  clear h he hc hok f1 f2 hd y0 y1 y2 y3 y4 y5 y6 y7 y13 hs e1 e2 e3 hv
  by_cases hq : 0 < qu
  · cases hv : drAt ⟨qu, po, sp, lo, dr⟩ c
    · obtain ⟨g, o, rfl, hcell, hlt2, hg⟩ := hdr _ hv hq
      have HR : Hid (dryB ⟨qu, po, sp, lo, dr⟩ c = false) := by unfold Hid dryB; rw [hv]; simp
      clear hdr hv
      go_enter Tryz.func106, Tryz.ntmps106
      go_wp2
      go_ret
      exact ⟨ret_bool HR.out.symm, hbB _⟩
    · obtain ⟨g, o, rfl, hcell, hlt2, hg⟩ := hdr _ hv hq
      have HR : Hid (dryB ⟨qu, po, sp, lo, dr⟩ c = true) := by unfold Hid dryB; rw [hv]; simp [hq]
      clear hdr hv
      go_enter Tryz.func106, Tryz.ntmps106
      go_wp2
      go_ret
      exact ⟨ret_bool HR.out.symm, hbB _⟩
  · have HR : Hid (dryB ⟨qu, po, sp, lo, dr⟩ c = false) := by unfold Hid dryB; simp [hq]
    clear hdr
    go_enter Tryz.func106, Tryz.ntmps106
    go_wp2
    go_ret
    exact ⟨ret_bool HR.out.symm, hbB _⟩
end Go.Proofs.YtnmmglkigiakaaaGreat
namespace Go.Proofs.YtnmmglkigiakaaaGreat
set_option linter.unusedVariables false
set_option linter.unusedSimpArgs false
open Go.ChangeShapes Go.WideShapes Go.ChangeAt Go.RowKit Go.Shelf Go.Sort
attribute [local go_sem] Oper.semAt_some

set_option maxHeartbeats 4000000 in
theorem l8NoBand_any (b : Ba) (x y : Value) (w : World) (hs : SlBa w x y b) : Calls Tryz.prog 98 #[baV b x y] w fun e w' => e = .returned (.bool (noBandB b)) ∧ Below w.heap.size w w' := by
  obtain ⟨p1, c1, rfl, hl1⟩ := hs.1.form
  obtain ⟨p2, c2, rfl, hl2⟩ := hs.2.form
  obtain ⟨qu, po, sp, lo, dr⟩ := b
  obtain ⟨n1, hn1⟩ : ∃ n, lo.length = n := ⟨_, rfl⟩
  obtain ⟨n2, hn2⟩ : ∃ n, dr.length = n := ⟨_, rfl⟩
  have HNB : Hid (noBandB ⟨qu, po, sp, lo, dr⟩ = (decide (qu = 0) && (decide (po = 0) && (decide (sp = 0) && (decide (n1 = 0) && decide (n2 = 0)))))) := by rw [← hn1, ← hn2]; rfl
  dsimp only at hl1 hl2 ⊢
  unfold baV
  dsimp only
  rw [hn1] at hl1 ⊢
  rw [hn2] at hl2 ⊢
  clear hs hn1 hn2
  rw [HNB.out]
  by_cases h0 : qu = 0
  · by_cases h1 : po = 0
    · by_cases h2 : sp = 0
      · by_cases h3 : (n1 : Int) = 0
        · by_cases h4 : (n2 : Int) = 0
          · have HR : Hid ((decide (qu = 0) && (decide (po = 0) && (decide (sp = 0) && (decide (n1 = 0) && decide (n2 = 0))))) = true) := by unfold Hid; simp [← Int.natCast_eq_zero, h0, h1, h2, h3, h4]
            go_enter Tryz.func98, Tryz.ntmps98
            go_wp2
            go_ret
            refine ⟨?_, (Below.refl _ _).alloc (Nat.le_refl _) _⟩
            first | exact ret_bool HR.out.symm | (rw [HR.out]; simp [h0, h1, h2, h3, h4]; done) | (rw [HR.out]; simp [h0, h1, h2, h3, h4]; omega)
          · have HR : Hid ((decide (qu = 0) && (decide (po = 0) && (decide (sp = 0) && (decide (n1 = 0) && decide (n2 = 0))))) = false) := by unfold Hid; simp [← Int.natCast_eq_zero, h0, h1, h2, h3, h4]
            go_enter Tryz.func98, Tryz.ntmps98
            go_wp2
            go_ret
            refine ⟨?_, (Below.refl _ _).alloc (Nat.le_refl _) _⟩
            first | exact ret_bool HR.out.symm | (rw [HR.out]; simp [h0, h1, h2, h3, h4]; done) | (rw [HR.out]; simp [h0, h1, h2, h3, h4]; omega)
        · have HR : Hid ((decide (qu = 0) && (decide (po = 0) && (decide (sp = 0) && (decide (n1 = 0) && decide (n2 = 0))))) = false) := by unfold Hid; simp [← Int.natCast_eq_zero, h0, h1, h2, h3]
          go_enter Tryz.func98, Tryz.ntmps98
          go_wp2
          go_ret
          refine ⟨?_, (Below.refl _ _).alloc (Nat.le_refl _) _⟩
          first | exact ret_bool HR.out.symm | (rw [HR.out]; simp [h0, h1, h2, h3]; done) | (rw [HR.out]; simp [h0, h1, h2, h3]; omega)
      · have HR : Hid ((decide (qu = 0) && (decide (po = 0) && (decide (sp = 0) && (decide (n1 = 0) && decide (n2 = 0))))) = false) := by unfold Hid; simp [← Int.natCast_eq_zero, h0, h1, h2]
        go_enter Tryz.func98, Tryz.ntmps98
        go_wp2
        go_ret
        refine ⟨?_, (Below.refl _ _).alloc (Nat.le_refl _) _⟩
        first | exact ret_bool HR.out.symm | (rw [HR.out]; simp [h0, h1, h2]; done) | (rw [HR.out]; simp [h0, h1, h2]; omega)
    · have HR : Hid ((decide (qu = 0) && (decide (po = 0) && (decide (sp = 0) && (decide (n1 = 0) && decide (n2 = 0))))) = false) := by unfold Hid; simp [← Int.natCast_eq_zero, h0, h1]
      go_enter Tryz.func98, Tryz.ntmps98
      go_wp2
      go_ret
      refine ⟨?_, (Below.refl _ _).alloc (Nat.le_refl _) _⟩
      first | exact ret_bool HR.out.symm | (rw [HR.out]; simp [h0, h1]; done) | (rw [HR.out]; simp [h0, h1]; omega)
  · have HR : Hid ((decide (qu = 0) && (decide (po = 0) && (decide (sp = 0) && (decide (n1 = 0) && decide (n2 = 0))))) = false) := by unfold Hid; simp [← Int.natCast_eq_zero, h0]
    go_enter Tryz.func98, Tryz.ntmps98
    go_wp2
    go_ret
    refine ⟨?_, (Below.refl _ _).alloc (Nat.le_refl _) _⟩
    first | exact ret_bool HR.out.symm | (rw [HR.out]; simp [h0]; done) | (rw [HR.out]; simp [h0]; omega)
end Go.Proofs.YtnmmglkigiakaaaGreat
namespace Go.Proofs.YtnmmglkigiakaaaGreat
set_option linter.unusedVariables false
set_option linter.unusedSimpArgs false
open Go.ChangeShapes Go.WideShapes Go.ChangeAt Go.RowKit Go.Shelf Go.Sort

theorem queued_at (j c : Nat) (u : Wv) (W : World) (h : SlW W u) (hj : j < u.gs.length) (uj : usAt (gsD u.gs) j = true) (hok : ShOk (gsD u.gs) c) :
    Calls Tryz.prog 86 #[wvV u, .int .i64 (j : Int), .int .i64 (c : Int)] W fun e' w' => e' = .returned (.bool (shAt (gsD u.gs) j c).on) ∧ Below W.heap.size W w' := by
  obtain ⟨e, he, e1, _⟩ := gs_get hj
  obtain ⟨s, hs⟩ := hok j e.d (gsD_at he) (by rw [← e1]; exact uj)
  have hsh : shAt (gsD u.gs) j c = s := by unfold shAt; rw [gsD_at he]; simp [hs]
  rw [hsh]
  exact l8Queued_any j c u e s W h he hs
set_option maxRecDepth 100000 in
set_option maxHeartbeats 8000000 in
theorem l8InLine_any (k g c : Nat) (u : Wv) (t : Tk) (w : World) (hs : SlW w u) (ht : treeB (gsD u.gs) = true) (hk : u.ts[k]? = some t) (hg : g < 8) (hu : usAt (gsD u.gs) g = true) (hok : ShOk (gsD u.gs) c) (htg : t.gr = (g : Int)) (htc : t.cpu = (c : Int)) :
    Calls Tryz.prog 49 #[wvV u, .int .i64 (k : Int)] w fun e' w' => e' = .returned (.bool (inlineB (gsD u.gs) t.st g c)) ∧ Below w.heap.size w w' := by
  have h8 := (tree_facts ht).1
  rw [gsD_length] at h8
  have H8 : Hid (u.gs.length = 8) := h8
  clear h8
  obtain ⟨p1, l1, c1, p2, l2, c2, p3, l3, c3, e1, e2, e3, hv⟩ := wv_form hs
  have hQ : ∀ j W, SlW W u → j < 8 → usAt (gsD u.gs) j = true → Calls Tryz.prog 86 #[wvV u, .int .i64 (j : Int), .int .i64 (c : Int)] W fun e' w' => e' = .returned (.bool (shAt (gsD u.gs) j c).on) ∧ Below W.heap.size W w' :=
    fun j W h hj uj => queued_at j c u W h (by rw [H8.out]; exact hj) uj hok
  rw [hv] at hQ ⊢
  obtain ⟨W1, hW1⟩ : ∃ W1, w.alloc (.cells #[.int .i64 u.now, .slice p1 l1 c1, .slice p2 l2 c2, .slice p3 l3 c3] 33) = W1 := ⟨_, rfl⟩
  obtain ⟨hA, acc, hlt⟩ := boxed_w hs e1 e2 e3 hW1
  have hrow : Hid (∀ k, k < 8 → ∃ gr go cap, W1.cell? ⟨w.heap.size, 3, none⟩ = some (.slice (some ⟨gr, go, none⟩) u.gs.length cap) ∧ W1.cell? ⟨gr, go + k * 14 + 1, none⟩ = some (.int .i64 (paAt (gsD u.gs) k)) ∧ k < u.gs.length ∧ u.gs.length ≤ 9223372036854775807 ∧ gr < W1.heap.size) := by
    intro k hk
    obtain ⟨e, he, _, q1, _⟩ := gs_get (vs := u.gs) (k := k) (by rw [H8.out]; exact hk)
    obtain ⟨gr, go, cap, w3, hr, hk', hl⟩ := hA.cellsG he
    obtain ⟨_, y1, _⟩ := gv_cells hr
    exact ⟨gr, go, cap, w3, by rw [q1]; exact y1, hk', hl, block_lt_of_cell y1⟩
  obtain ⟨tg, to, cap, m2, hr, hkl, hlen⟩ := hA.cellsT hk
  obtain ⟨t0, t1, t2, t3, t4, t5, t6, t7, t8⟩ := tk_cells hr
  obtain ⟨o0, o1, o2, o3⟩ := hA.cells
  rw [e1] at o1
  rw [e2] at o2
  rw [e3] at o3
  have ltg : tg < W1.heap.size := block_lt_of_cell t0
  have HS : Hid (SlW w u) := hs
  obtain ⟨st, gr, cpu, ni, ma, v, su, us, lo⟩ := t
  dsimp only at htg htc t0 t1 t2 t3 t4 t5 t6 t7 t8 ⊢
  subst htg htc
  clear hA hs hr e1 e2 e3 hv hk
  by_cases hst : st = 1
  · subst hst
    obtain ⟨Y, hY⟩ : ∃ Y, W1.alloc (.cells #[.int .i64 1, .int .i64 (g : Int), .int .i64 (c : Int), .int .i64 ni, .int .i64 ma, .int .i64 v, .int .i64 su, .int .i64 us, .int .i64 lo] 68) = Y := ⟨_, rfl⟩
    have hB : Below W1.heap.size W1 Y := by rw [← hY]; exact (Below.refl _ _).alloc (Nat.le_refl _) _
    have hT : Y.heap[W1.heap.size]? = some (.cells #[.int .i64 1, .int .i64 (g : Int), .int .i64 (c : Int), .int .i64 ni, .int .i64 ma, .int .i64 v, .int .i64 su, .int .i64 us, .int .i64 lo] 68) := by rw [← hY]; exact heap_alloc_new W1 _
    have htk : Y.rangeAt W1.heap.size 0 [.int .i64 1, .int .i64 (g : Int), .int .i64 (c : Int), .int .i64 ni, .int .i64 ma, .int .i64 v, .int .i64 su, .int .i64 us, .int .i64 lo] := range_of_block hT
    have n0 : Y.cell? ⟨W1.heap.size, 0, none⟩ = some (.int .i64 1) := htk 0 _ rfl
    have n1 : Y.cell? ⟨W1.heap.size, 1, none⟩ = some (.int .i64 (g : Int)) := htk 1 _ rfl
    have n2 : Y.cell? ⟨W1.heap.size, 2, none⟩ = some (.int .i64 (c : Int)) := htk 2 _ rfl
    have lY : W1.heap.size < Y.heap.size := block_lt_of_cell n2
    have HI : Hid (inlineB (gsD u.gs) 1 g c = (outs (gsD u.gs) g).all fun k => (shAt (gsD u.gs) k c).on) := by unfold Hid inlineB; simp
    have a0 := (hB.cell (p := ⟨w.heap.size, 0, none⟩) hlt).trans o0
    have a1 := (hB.cell (p := ⟨w.heap.size, 1, none⟩) hlt).trans o1
    have a2 := (hB.cell (p := ⟨w.heap.size, 2, none⟩) hlt).trans o2
    have a3 := (hB.cell (p := ⟨w.heap.size, 3, none⟩) hlt).trans o3
    have hAY : Below w.heap.size w Y := acc.trans (hB.mono acc.size)
    clear hT htk
    go_enter Tryz.func49, Tryz.ntmps49
    go_wp2
    have hrowY : Hid (∀ k, k < 8 → ∃ gr go cap, Y.cell? ⟨w.heap.size, 3, none⟩ = some (.slice (some ⟨gr, go, none⟩) u.gs.length cap) ∧ Y.cell? ⟨gr, go + k * 14 + 1, none⟩ = some (.int .i64 (paAt (gsD u.gs) k)) ∧ k < u.gs.length ∧ u.gs.length ≤ 9223372036854775807 ∧ gr < Y.heap.size) := by
      intro k hk
      obtain ⟨gr, go, cap, q1, q2, q3, q4, q5⟩ := hrow.out k hk
      exact ⟨gr, go, cap, (hB.cell (p := ⟨w.heap.size, 3, none⟩) hlt).trans q1, (hB.cell (p := ⟨gr, go + k * 14 + 1, none⟩) q5).trans q2, q3, q4, Nat.lt_of_lt_of_le q5 hB.size⟩
    have lw : w.heap.size < Y.heap.size := Nat.lt_of_lt_of_le hlt hB.size
    clear hrow o0 o1 o2 o3 t0 t1 t2 t3 t4 t5 t6 t7 t8 m2 hY hB
    go_loopw [6] (fun t wr => ∃ j : Nat, j < 8 ∧ usAt (gsD u.gs) j = true ∧ t = .int .i64 (j : Int) ∧ Below Y.heap.size Y wr ∧ (outs (gsD u.gs) g).all (fun k => (shAt (gsD u.gs) k c).on) = (outs (gsD u.gs) j).all (fun k => (shAt (gsD u.gs) k c).on)) (fun t _ => (depB (gsD u.gs) (intOf t)).toNat)
    case atStart => exact ⟨g, hg, hu, rfl, Below.refl _ _, rfl⟩
    case round =>
      obtain ⟨j, hj, uj, rfl, hb, hx⟩ := hrel
      have b0 := (hb.cell (p := ⟨w.heap.size, 0, none⟩) lw).trans a0
      have b1 := (hb.cell (p := ⟨w.heap.size, 1, none⟩) lw).trans a1
      have b2 := (hb.cell (p := ⟨w.heap.size, 2, none⟩) lw).trans a2
      have b3 := (hb.cell (p := ⟨w.heap.size, 3, none⟩) lw).trans a3
      have m2 := (hb.cell (p := ⟨W1.heap.size, 2, none⟩) lY).trans n2
      rcases tree_step ht hj uj with ⟨rfl, hd⟩ | ⟨hj0, j', hp, hj', uj', hd, hd', _⟩
      · have HX : Hid (inlineB (gsD u.gs) 1 g c = true) := by
          unfold Hid; rw [HI.out, hx, outs_root ht]; rfl
        clear hx hd
        go_wp2
        go_ret
        exact ⟨by rw [HX.out]; rfl, hAY.trans (hb.mono hAY.size)⟩
      · have hj0' : ¬ (j : Int) = 0 := by omega
        obtain ⟨gr1, go1, cap1, w3, y1, hk1, hl1, lg⟩ := hrowY.out j hj
        rw [hp] at y1
        rw [a3] at w3
        simp only [Option.some.injEq, Value.slice.injEq] at w3
        obtain ⟨rfl, rfl, rfl⟩ := w3
        have HX : Hid ((outs (gsD u.gs) g).all (fun k => (shAt (gsD u.gs) k c).on) = ((shAt (gsD u.gs) j c).on && (outs (gsD u.gs) j').all (fun k => (shAt (gsD u.gs) k c).on))) := by
          unfold Hid
          rw [hx, outs_step hj0 hp hd hd']; rfl
        have HD : Hid (depB (gsD u.gs) (j : Int) = depB (gsD u.gs) (j' : Int) + 1 ∧ 0 ≤ depB (gsD u.gs) (j' : Int)) := ⟨hd, hd'⟩
        have hw := HS.out.below (hAY.trans (hb.mono hAY.size))
        have hq := hQ j _ hw hj uj
        clear hx hd hd' hp hQ hw
        cases hon : (shAt (gsD u.gs) j c).on
        · rw [hon] at hq
          go_wp2_with (go_at_call 86; refine hq.mono ?_; rintro e' w' ⟨rfl, hb2⟩)
          go_ret
          refine ⟨by rw [HI.out, HX.out, hon]; rfl, ?_⟩
          exact hAY.trans ((hb.trans (hb2.mono hb.size)).mono hAY.size)
        · rw [hon] at hq
          go_wp2_with (go_at_call 86; refine hq.mono ?_; rintro e' w' ⟨rfl, hb2⟩; have hbb := hb.trans (hb2.mono hb.size); have b3 := (hbb.cell (p := ⟨w.heap.size, 3, none⟩) lw).trans a3; have y1 := (hbb.cell lg).trans y1; clear hb2)
          refine ⟨⟨j', hj', uj', rfl, hbb, by rw [HX.out, hon]; rfl⟩, ?_⟩
          have := HD.out
          simp only [intOf]; omega
  · have HI : Hid (inlineB (gsD u.gs) st g c = false) := by unfold Hid inlineB; simp [hst]
    go_enter Tryz.func49, Tryz.ntmps49
    go_wp2
    go_ret
    exact ⟨by rw [HI.out]; rfl, (acc.alloc acc.size _)⟩
end Go.Proofs.YtnmmglkigiakaaaGreat
namespace Go.Proofs.YtnmmglkigiakaaaGreat
set_option linter.unusedVariables false
set_option linter.unusedSimpArgs false
open Go.ChangeShapes Go.WideShapes Go.ChangeAt Go.RowKit Go.Shelf Go.Sort

/-- whether somebody stands in group g's queue on processor c. -/
def actG (ds : List Gr) (g : Int) (c k : Nat) : Bool := usAt ds k && (decide (paAt ds k = g) && (shAt ds k c).on)
def actB (ts : List Tk) (ds : List Gr) (g : Int) (c : Nat) : Bool := decide (∃ k, k < ts.length ∧ taskIn ts g (c : Int) k = true) || decide (∃ k, k < ds.length ∧ k ≠ 0 ∧ actG ds g c k = true)
theorem actB_task {ts : List Tk} {ds : List Gr} {g : Int} {c k : Nat} (hk : k < ts.length) (h : taskIn ts g (c : Int) k = true) : actB ts ds g c = true := by
  unfold actB; rw [decide_eq_true (p := ∃ k, k < ts.length ∧ taskIn ts g (c : Int) k = true) ⟨k, hk, h⟩]; rfl
theorem actB_group {ts : List Tk} {ds : List Gr} {g : Int} {c k : Nat} (hk : k < ds.length) (h0 : k ≠ 0) (h : actG ds g c k = true) : actB ts ds g c = true := by
  unfold actB; rw [decide_eq_true (p := ∃ k, k < ds.length ∧ k ≠ 0 ∧ actG ds g c k = true) ⟨k, hk, h0, h⟩, Bool.or_true]
theorem actB_no {ts : List Tk} {ds : List Gr} {g : Int} {c : Nat} (h1 : ∀ k, k < ts.length → taskIn ts g (c : Int) k = false) (h2 : ∀ k, k < ds.length → k ≠ 0 → actG ds g c k = false) : actB ts ds g c = false := by
  unfold actB
  rw [decide_eq_false (p := ∃ k, k < ts.length ∧ taskIn ts g (c : Int) k = true) (by rintro ⟨k, a, b⟩; rw [h1 k a] at b; cases b), decide_eq_false (p := ∃ k, k < ds.length ∧ k ≠ 0 ∧ actG ds g c k = true) (by rintro ⟨k, a, b, d⟩; rw [h2 k a b] at d; cases d)]; rfl
set_option maxRecDepth 100000 in
set_option maxHeartbeats 8000000 in
theorem l8Active_any (g : Int) (c : Nat) (u : Wv) (w : World) (hs : SlW w u) (hl8 : u.gs.length = 8) (hok : ShOk (gsD u.gs) c) :
    Calls Tryz.prog 105 #[wvV u, .int .i64 g, .int .i64 (c : Int)] w fun e' w' => e' = .returned (.bool (actB u.ts (gsD u.gs) g c)) ∧ Below w.heap.size w w' := by
  have H8 : Hid (u.gs.length = 8) := hl8
  clear hl8
  obtain ⟨p1, l1, c1, p2, l2, c2, p3, l3, c3, e1, e2, e3, hv⟩ := wv_form hs
  have hQ : ∀ j W, SlW W u → j < 8 → usAt (gsD u.gs) j = true → Calls Tryz.prog 86 #[wvV u, .int .i64 (j : Int), .int .i64 (c : Int)] W fun e' w' => e' = .returned (.bool (shAt (gsD u.gs) j c).on) ∧ Below W.heap.size W w' :=
    fun j W h hj uj => queued_at j c u W h (by rw [H8.out]; exact hj) uj hok
  rw [hv] at hQ ⊢
  obtain ⟨W1, hW1⟩ : ∃ W1, w.alloc (.cells #[.int .i64 u.now, .slice p1 l1 c1, .slice p2 l2 c2, .slice p3 l3 c3] 33) = W1 := ⟨_, rfl⟩
  obtain ⟨hA, acc, hlt⟩ := boxed_w hs e1 e2 e3 hW1
  have hrow : Hid (∀ k, k < 8 → ∃ gr go, p3 = some ⟨gr, go, none⟩ ∧ W1.cell? ⟨gr, go + k * 14, none⟩ = some (.bool (usAt (gsD u.gs) k)) ∧ W1.cell? ⟨gr, go + k * 14 + 1, none⟩ = some (.int .i64 (paAt (gsD u.gs) k)) ∧ gr < W1.heap.size) := by
    intro k hk
    obtain ⟨e, he, q0, q1, _⟩ := gs_get (vs := u.gs) (k := k) (by rw [H8.out]; exact hk)
    obtain ⟨gr, go, cap, w3, hr, hk', hl⟩ := hA.cellsG he
    obtain ⟨y0, y1, _⟩ := gv_cells hr
    obtain ⟨_, _, _, o3⟩ := hA.cells
    rw [e3] at o3
    rw [o3] at w3
    simp only [Option.some.injEq, Value.slice.injEq] at w3
    exact ⟨gr, go, w3.1, by rw [q0]; exact y0, by rw [q1]; exact y1, block_lt_of_cell y0⟩
  have hl3 : l3 = 8 := by
    obtain ⟨e, he, _⟩ := gs_get (vs := u.gs) (k := 0) (by rw [H8.out]; decide)
    obtain ⟨gr, go, cap, w3, hr, hk', hl⟩ := hA.cellsG he
    obtain ⟨_, _, _, o3⟩ := hA.cells
    rw [e3] at o3
    rw [o3] at w3
    simp only [Option.some.injEq, Value.slice.injEq] at w3
    rw [w3.2.1, H8.out]
  have htrow : Hid (∀ k t, u.ts[k]? = some t → ∃ gr go, p2 = some ⟨gr, go, none⟩ ∧ W1.cell? ⟨gr, go + k * 9, none⟩ = some (.int .i64 t.st) ∧ W1.cell? ⟨gr, go + k * 9 + 1, none⟩ = some (.int .i64 t.gr) ∧ W1.cell? ⟨gr, go + k * 9 + 2, none⟩ = some (.int .i64 t.cpu)) := by
    intro k t hk
    obtain ⟨gr, go, cap, w3, hr, hk', hl⟩ := hA.cellsT hk
    obtain ⟨y0, y1, y2, _⟩ := tk_cells hr
    obtain ⟨_, _, o2, _⟩ := hA.cells
    rw [e2] at o2
    rw [o2] at w3
    simp only [Option.some.injEq, Value.slice.injEq] at w3
    exact ⟨gr, go, w3.1, y0, y1, y2⟩
  have hl2 : l2 = u.ts.length ∧ u.ts.length ≤ 9223372036854775807 := by
    obtain ⟨p, cp, q, hq⟩ := hs.2.1.form
    rw [e2] at q
    simp only [Value.slice.injEq] at q
    exact ⟨q.2.1, hq⟩
  obtain ⟨rfl, hlm⟩ := hl2
  subst hl3
  obtain ⟨o0, o1, o2, o3⟩ := hA.cells
  rw [e1] at o1
  rw [e2] at o2
  rw [e3] at o3
  have HS : Hid (SlW w u) := hs
  have HB : Hid (Below w.heap.size w W1) := acc
  clear hA hs e1 e2 e3 hv acc
  go_enter Tryz.func105, Tryz.ntmps105
  go_wp2
  go_loop [7] (fun t => ∃ k : Nat, k ≤ u.ts.length ∧ t = .int .i64 (k : Int) ∧ ∀ i, i < k → taskIn u.ts g (c : Int) i = false) (fun t => u.ts.length - (intOf t).toNat)
  case atStart => exact ⟨0, Nat.zero_le _, rfl, fun i hi => absurd hi (Nat.not_lt_zero _)⟩
  case round =>
    obtain ⟨k, hk, rfl, hno⟩ := hrel
    by_cases hlt1 : k < u.ts.length
    · have hlt' : (k : Int) < (u.ts.length : Int) := by omega
      obtain ⟨t, ht⟩ : ∃ t, u.ts[k]? = some t := ⟨_, List.getElem?_eq_getElem hlt1⟩
      obtain ⟨gr, go, rfl, y0, y1, y2⟩ := htrow.out k t ht
      have HT : Hid (taskIn u.ts g (c : Int) k = decide (t.st = 1 ∧ t.gr = g ∧ t.cpu = (c : Int))) := by unfold Hid taskIn; rw [ht]; rfl
      have HN : Hid (∀ i, i < k → taskIn u.ts g (c : Int) i = false) := hno
      have HK : Hid (k < u.ts.length) := hlt1
      clear hno ht
      by_cases h1 : t.st = 1
      · by_cases h2 : t.gr = g
        · by_cases h3 : t.cpu = (c : Int)
          · have HA : Hid (actB u.ts (gsD u.gs) g c = true) := actB_task HK.out (by rw [HT.out]; simp [h1, h2, h3])
            rw [h1] at y0
            rw [h2] at y1
            rw [h3] at y2
            go_wp2
            go_ret
            exact ⟨by rw [HA.out]; rfl, HB.out⟩
          · have HF : Hid (taskIn u.ts g (c : Int) k = false) := by unfold Hid; rw [HT.out]; simp [h3]
            rw [h1] at y0
            rw [h2] at y1
            go_wp2
            refine ⟨⟨k + 1, HK.out, by go_num, fun i hi => ?_⟩, by simp [intOf]; omega⟩
            rcases Nat.lt_succ_iff_lt_or_eq.1 hi with h | rfl
            · exact HN.out i h
            · exact HF.out
        · have HF : Hid (taskIn u.ts g (c : Int) k = false) := by unfold Hid; rw [HT.out]; simp [h2]
          rw [h1] at y0
          go_wp2
          refine ⟨⟨k + 1, HK.out, by go_num, fun i hi => ?_⟩, by simp [intOf]; omega⟩
          rcases Nat.lt_succ_iff_lt_or_eq.1 hi with h | rfl
          · exact HN.out i h
          · exact HF.out
      · have HF : Hid (taskIn u.ts g (c : Int) k = false) := by unfold Hid; rw [HT.out]; simp [h1]
        go_wp2
        refine ⟨⟨k + 1, HK.out, by go_num, fun i hi => ?_⟩, by simp [intOf]; omega⟩
        rcases Nat.lt_succ_iff_lt_or_eq.1 hi with h | rfl
        · exact HN.out i h
        · exact HF.out
    · have hlt' : ¬ (k : Int) < (u.ts.length : Int) := by omega
      obtain rfl : k = u.ts.length := by omega
      have HN : Hid (∀ i, i < u.ts.length → taskIn u.ts g (c : Int) i = false) := hno
      clear hno hlt1
      go_wp2
      go_loopw [8] (fun t wr => ∃ k : Nat, 1 ≤ k ∧ k ≤ 8 ∧ t = .int .i64 (k : Int) ∧ Below W1.heap.size W1 wr ∧ ∀ i, i < k → i ≠ 0 → actG (gsD u.gs) g c i = false) (fun t _ => 8 - (intOf t).toNat)
      case atStart => exact ⟨1, Nat.le_refl _, by decide, rfl, Below.refl _ _, fun i hi h0 => absurd hi (by omega)⟩
      case round =>
        obtain ⟨k, hk1, hk8, rfl, hb, hnog⟩ := hrel
        have b0 := (hb.cell (p := ⟨w.heap.size, 0, none⟩) hlt).trans o0
        have b1 := (hb.cell (p := ⟨w.heap.size, 1, none⟩) hlt).trans o1
        have b2 := (hb.cell (p := ⟨w.heap.size, 2, none⟩) hlt).trans o2
        have b3 := (hb.cell (p := ⟨w.heap.size, 3, none⟩) hlt).trans o3
        have HG : Hid (∀ i, i < k → i ≠ 0 → actG (gsD u.gs) g c i = false) := hnog
        clear hnog
        by_cases hkl : k < 8
        · have hlt' : (k : Int) < 8 := by omega
          obtain ⟨gr, go, rfl, y0, y1, lg⟩ := hrow.out k hkl
          have y0 := (hb.cell (p := ⟨gr, go + k * 14, none⟩) lg).trans y0
          have y1 := (hb.cell (p := ⟨gr, go + k * 14 + 1, none⟩) lg).trans y1
          have HK : Hid (k < 8 ∧ 1 ≤ k) := ⟨hkl, hk1⟩
          have HW : Hid (Below w.heap.size w _) := HB.out.trans (hb.mono HB.out.size)
          have next : ∀ wr', Below W1.heap.size W1 wr' → Hid (actG (gsD u.gs) g c k = false) → (∃ k' : Nat, 1 ≤ k' ∧ k' ≤ 8 ∧ Value.int .i64 ((k : Int) + 1) = .int .i64 (k' : Int) ∧ Below W1.heap.size W1 wr' ∧ ∀ i, i < k' → i ≠ 0 → actG (gsD u.gs) g c i = false) := by
            intro wr' hb' hf
            refine ⟨k + 1, by omega, by have := HK.out; omega, rfl, hb', fun i hi h0 => ?_⟩
            rcases Nat.lt_succ_iff_lt_or_eq.1 hi with h | rfl
            · exact HG.out i h h0
            · exact hf.out
          have NX : Hid (∀ wr', Below W1.heap.size W1 wr' → Hid (actG (gsD u.gs) g c k = false) → (∃ k' : Nat, 1 ≤ k' ∧ k' ≤ 8 ∧ Value.int .i64 ((k : Int) + 1) = .int .i64 (k' : Int) ∧ Below W1.heap.size W1 wr' ∧ ∀ i, i < k' → i ≠ 0 → actG (gsD u.gs) g c i = false)) := next
          clear next
          cases hu : usAt (gsD u.gs) k
          · have HF : Hid (actG (gsD u.gs) g c k = false) := by unfold Hid actG; rw [hu]; rfl
            rw [hu] at y0
            go_wp2
            exact ⟨NX.out _ hb HF, by simp [intOf]; omega⟩
          · by_cases hp : paAt (gsD u.gs) k = g
            · have hq := hQ k _ (HS.out.below HW.out) HK.out.1 hu
              rw [hu] at y0
              rw [hp] at y1
              cases hon : (shAt (gsD u.gs) k c).on
              · have HF : Hid (actG (gsD u.gs) g c k = false) := by unfold Hid actG; rw [hon]; simp
                rw [hon] at hq
                clear hQ
                go_wp2_with (go_at_call 86; refine hq.mono ?_; rintro e' w' ⟨rfl, hb2⟩)
                exact ⟨NX.out _ (hb.trans (hb2.mono hb.size)) HF, by simp [intOf]; omega⟩
              · have HA : Hid (actB u.ts (gsD u.gs) g c = true) := actB_group (by rw [gsD_length, H8.out]; exact HK.out.1) (by have := HK.out.2; omega) (by unfold actG; rw [hu, hon, hp]; simp)
                rw [hon] at hq
                clear hQ
                go_wp2_with (go_at_call 86; refine hq.mono ?_; rintro e' w' ⟨rfl, hb2⟩)
                go_ret
                exact ⟨by rw [HA.out]; rfl, HW.out.trans (hb2.mono HW.out.size)⟩
            · have HF : Hid (actG (gsD u.gs) g c k = false) := by unfold Hid actG; simp [hp]
              rw [hu] at y0
              go_wp2
              exact ⟨NX.out _ hb HF, by simp [intOf]; omega⟩
        · have hlt' : ¬ (k : Int) < 8 := by omega
          obtain rfl : k = 8 := by omega
          have HA : Hid (actB u.ts (gsD u.gs) g c = false) := actB_no HN.out (fun i hi h0 => HG.out i (by rw [gsD_length, H8.out] at hi; exact hi) h0)
          go_wp2
          go_ret
          exact ⟨by rw [HA.out]; rfl, HB.out.trans (hb.mono HB.out.size)⟩
end Go.Proofs.YtnmmglkigiakaaaGreat
namespace Go.Proofs.YtnmmglkigiakaaaGreat
set_option linter.unusedVariables false
set_option linter.unusedSimpArgs false
open Go.ChangeShapes Go.WideShapes Go.ChangeAt Go.RowKit Go.Shelf Go.Sort

def timeB (n : Int) : Bool := l1in n 0 100000000000000000
def noGroupB (d : Gr) : Bool := !d.us && (decide (d.pa = 0) && ((d.na.toList == []) && (decide (d.we = 0) && (decide (d.cp = 0) && (decide (d.sh.length = 0) && (decide (d.pe = 0) && (decide (d.ne = 0) && (decide (d.su = 0) && noBandB d.ba))))))))
def quotaB (now : Int) (n : Nat) (d : Gr) : Bool :=
  if d.ba.qu = 0 then noBandB d.ba && (decide (d.pe = 0) && decide (d.ne = 0))
  else bandOk d.ba && (decide (d.ba.lo.length = n) && (l1in d.pe 1 1000 && (decide (now < d.ne) && decide (wrap64 (d.ne - now) ≤ d.pe))))
def rootGB (d : Gr) : Bool := decide (d.we = 10) && (decide (d.cp = 15) && noBandB d.ba)
def groupB (now : Int) (n k : Nat) (d : Gr) : Bool :=
  if d.us = false then noGroupB d
  else (decide (k ≠ 0) || rootGB d) && (l1in d.we 1 20 && (setB d.cp && (timeB d.su && (decide (d.sh.length = n) && quotaB now n d))))
def shelfNB (k : Nat) (s : Sh) : Bool :=
  (timeB s.fl && (timeB s.v && (timeB s.s && l1in s.w 1 20))) && (decide (k ≠ 0) || (!s.on && (decide (s.v = 0) && decide (s.w = 10))))
/-- whether group k is On on processor c just as it is to be, and stands well then. -/
def queueB (ts : List Tk) (ds : List Gr) (c k : Nat) (s : Sh) (ba : Ba) : Bool :=
  ((s.on == (actB ts ds (k : Int) c && !dryB ba c))) && (!s.on || withinB s.v (shAt ds (paAt ds k).toNat c).fl (vstep 149 s.w))
def taskWellB (ds : List Gr) (t : Tk) : Bool := withinB t.v (shAt ds t.gr.toNat t.cpu.toNat).fl (vstep 149 (wof t.ni))
def placesB (u : Wv) : Bool := timeB u.now && (l1in u.cs.length 1 4 && (decide (upsM u.cs ≠ 0) && (decide (u.ts.length = 12) && treeB (gsD u.gs))))
end Go.Proofs.YtnmmglkigiakaaaGreat
namespace Go.Proofs.YtnmmglkigiakaaaGreat
set_option linter.unusedVariables false
set_option linter.unusedSimpArgs false
open Go.ChangeShapes Go.WideShapes Go.ChangeAt Go.RowKit Go.Shelf Go.Sort

def SetIn (m : Int) : Prop := 0 ≤ m ∧ m ≤ 15
theorem setIn_fin {m : Int} (h : SetIn m) : ∃ a : Fin 16, m = (a.val : Int) := ⟨⟨m.toNat, by have := h.1; have := h.2; omega⟩, by have := h.1; have := h.2; simp; omega⟩
theorem and_has_fin : ∀ a b : Fin 16, ∀ i : Fin 4, Msk.hasB (Msk.andM (a.val : Int) (b.val : Int)) (i.val : Int) = (Msk.hasB (a.val : Int) (i.val : Int) && Msk.hasB (b.val : Int) (i.val : Int)) := by decide +kernel
theorem and_in_fin : ∀ a b : Fin 16, 0 ≤ Msk.andM (a.val : Int) (b.val : Int) ∧ Msk.andM (a.val : Int) (b.val : Int) ≤ 15 := by decide +kernel
theorem ext_fin : ∀ a b : Fin 16, (∀ i : Fin 4, Msk.hasB (a.val : Int) (i.val : Int) = Msk.hasB (b.val : Int) (i.val : Int)) → a = b := by decide +kernel
theorem and_has {a b : Int} (ha : SetIn a) (hb : SetIn b) {i : Nat} (hi : i < 4) : Msk.hasB (Msk.andM a b) (i : Int) = (Msk.hasB a (i : Int) && Msk.hasB b (i : Int)) := by
  obtain ⟨x, rfl⟩ := setIn_fin ha
  obtain ⟨y, rfl⟩ := setIn_fin hb
  exact and_has_fin x y ⟨i, hi⟩
theorem and_in {a b : Int} (ha : SetIn a) (hb : SetIn b) : SetIn (Msk.andM a b) := by
  obtain ⟨x, rfl⟩ := setIn_fin ha
  obtain ⟨y, rfl⟩ := setIn_fin hb
  exact and_in_fin x y
theorem set_ext {a b : Int} (ha : SetIn a) (hb : SetIn b) (h : ∀ i : Nat, i < 4 → Msk.hasB a (i : Int) = Msk.hasB b (i : Int)) : a = b := by
  obtain ⟨x, rfl⟩ := setIn_fin ha
  obtain ⟨y, rfl⟩ := setIn_fin hb
  rw [ext_fin x y (fun i => h i.val i.isLt)]
theorem bits_and {a b : Int} (ha : SetIn a) (hb : SetIn b) : bits BinOp.and IntKind.i64 a b = Msk.andM a b := by
  rw [Msk.and_eq ha.1 ha.2 hb.1 hb.2]; unfold Msk.andM; rw [if_pos ⟨ha.1, ha.2, hb.1, hb.2⟩]
theorem ups_in (cs : List Cp) (h : cs.length ≤ 4) : SetIn (upsM cs) := by
  obtain ⟨h1, h2⟩ := upsTo_bound cs cs.length
  refine ⟨h1, ?_⟩
  unfold upsM
  have : (2 : Int) ^ cs.length ≤ 2 ^ 4 := by
    have : cs.length = 0 ∨ cs.length = 1 ∨ cs.length = 2 ∨ cs.length = 3 ∨ cs.length = 4 := by omega
    rcases this with e | e | e | e | e <;> rw [e] <;> decide
  omega
/-- the sets of all groups that there are are sets. -/
def CpIn (ds : List Gr) : Prop := ∀ k : Nat, usAt ds k = true → SetIn (cpAt ds k)
/-- what a group and all that it is in but the root have. -/
def allS (ds : List Gr) (g i : Nat) : Bool := (outs ds g).all (fun k => Msk.hasB (cpAt ds k) (i : Int)) && Msk.hasB (cpAt ds 0) (i : Int)
def upS (ds : List Gr) (i : Nat) : Nat → Nat → Bool
  | 0, _ => true
  | f + 1, g => if g = 0 then true else Msk.hasB (cpAt ds (paAt ds g).toNat) (i : Int) && upS ds i f (paAt ds g).toNat
theorem pinF_has {ds : List Gr} (ht : treeB ds = true) (hc : CpIn ds) : ∀ (f g : Nat) (m : Int), g < 8 → usAt ds g = true → SetIn m → SetIn (pinF ds f g m) ∧ ∀ i : Nat, i < 4 → Msk.hasB (pinF ds f g m) (i : Int) = (Msk.hasB m (i : Int) && upS ds i f g) := by
  intro f
  induction f with
  | zero => intro g m _ _ hm; exact ⟨hm, fun i _ => by simp [pinF, upS]⟩
  | succ f ih =>
    intro g m hg hu hm
    unfold pinF upS
    rcases tree_step ht hg hu with ⟨rfl, _⟩ | ⟨h0, j, hp, hj, uj, _⟩
    · rw [if_pos rfl]; exact ⟨hm, fun i _ => by simp⟩
    · rw [if_neg h0, hp, Int.toNat_natCast]
      obtain ⟨h1, h2⟩ := ih j (Msk.andM m (cpAt ds j)) hj uj (and_in hm (hc j uj))
      refine ⟨h1, fun i hi => ?_⟩
      rw [if_neg h0, h2 i hi, and_has hm (hc j uj) hi, Bool.and_assoc]
theorem upS_all {ds : List Gr} (ht : treeB ds = true) : ∀ (f g i : Nat), g < 8 → usAt ds g = true → (depB ds (g : Int)).toNat = f → (Msk.hasB (cpAt ds g) (i : Int) && upS ds i f g) = allS ds g i := by
  intro f
  induction f with
  | zero =>
    intro g i hg hu hd
    rcases tree_step ht hg hu with ⟨rfl, _⟩ | ⟨h0, j, hp, hj, uj, hd1, hd2, _⟩
    · unfold allS; rw [outs_root ht]; simp [upS]
    · omega
  | succ f ih =>
    intro g i hg hu hd
    rcases tree_step ht hg hu with ⟨rfl, hd0⟩ | ⟨h0, j, hp, hj, uj, hd1, hd2, _⟩
    · rw [hd0] at hd; exact absurd hd (by simp)
    · unfold upS
      rw [if_neg h0, hp, Int.toNat_natCast, ih j i hj uj (by omega)]
      unfold allS
      rw [outs_step h0 hp hd1 hd2, List.all_cons, Bool.and_assoc]
theorem pinS_has {ds : List Gr} (ht : treeB ds = true) (hc : CpIn ds) {g : Nat} (hg : g < 8) (hu : usAt ds g = true) : SetIn (pinS ds g) ∧ ∀ i : Nat, i < 4 → Msk.hasB (pinS ds g) (i : Int) = allS ds g i := by
  obtain ⟨h1, h2⟩ := pinF_has ht hc (depB ds (g : Int)).toNat g (cpAt ds g) hg hu (hc g hu)
  exact ⟨h1, fun i hi => (h2 i hi).trans (upS_all ht _ g i hg hu rfl)⟩
theorem fold_has {ds : List Gr} (hc : CpIn ds) : ∀ (l : List Nat) (s : Int), (∀ k ∈ l, usAt ds k = true) → SetIn s → SetIn (l.foldl (andS ds) s) ∧ ∀ i : Nat, i < 4 → Msk.hasB (l.foldl (andS ds) s) (i : Int) = (Msk.hasB s (i : Int) && l.all (fun k => Msk.hasB (cpAt ds k) (i : Int))) := by
  intro l
  induction l with
  | nil => intro s _ hs; exact ⟨hs, fun i _ => by simp⟩
  | cons k l ih =>
    intro s hu hs
    have hk := hc k (hu k (by simp))
    have e : andS ds s k = Msk.andM s (cpAt ds k) := bits_and hs hk
    rw [List.foldl_cons, e]
    obtain ⟨h1, h2⟩ := ih (Msk.andM s (cpAt ds k)) (fun j hj => hu j (by simp [hj])) (and_in hs hk)
    refine ⟨h1, fun i hi => ?_⟩
    rw [h2 i hi, and_has hs hk hi, List.all_cons, Bool.and_assoc]
theorem root_used {ds : List Gr} (ht : treeB ds = true) : usAt ds 0 = true := (tree_facts ht).2
theorem pins_eq {cs : List Cp} {ds : List Gr} (hn : cs.length ≤ 4) (ht : treeB ds = true) (hc : CpIn ds) {g : Nat} (hg : g < 8) (hu : usAt ds g = true) : Msk.andM (pinS ds g) (upsM cs) = pinsM cs ds g ∧ SetIn (pinsM cs ds g) := by
  obtain ⟨s1, s2⟩ := pinS_has ht hc hg hu
  have hU := ups_in cs hn
  have h0 := hc 0 (root_used ht)
  have e0 : andS ds (upsM cs) 0 = Msk.andM (upsM cs) (cpAt ds 0) := bits_and hU h0
  obtain ⟨f1, f2⟩ := fold_has hc (outs ds g) (Msk.andM (upsM cs) (cpAt ds 0)) (fun k hk => (outs_used ht hg hu hk).2.1) (and_in hU h0)
  have hP : pinsM cs ds g = (outs ds g).foldl (andS ds) (Msk.andM (upsM cs) (cpAt ds 0)) := by unfold pinsM; rw [e0]
  rw [hP]
  refine ⟨set_ext (and_in s1 hU) f1 (fun i hi => ?_), f1⟩
  rw [and_has s1 hU hi, s2 i hi, f2 i hi, and_has hU h0 hi]
  unfold allS
  cases Msk.hasB (upsM cs) (i : Int) <;> cases Msk.hasB (cpAt ds 0) (i : Int) <;> cases (outs ds g).all (fun k => Msk.hasB (cpAt ds k) (i : Int)) <;> rfl
theorem where_eq {cs : List Cp} {ds : List Gr} (hn : cs.length ≤ 4) (ht : treeB ds = true) (hc : CpIn ds) {g : Nat} (hg : g < 8) (hu : usAt ds g = true) {ma : Int} (hm : SetIn ma) : whereS cs ds g ma = whereM cs ds g ma ∧ SetIn (whereM cs ds g ma) ∧ (∀ i : Nat, i < 4 → Msk.hasB (whereM cs ds g ma) (i : Int) = true → Msk.hasB (upsM cs) (i : Int) = true) := by
  obtain ⟨e, hp⟩ := pins_eq hn ht hc hg hu
  obtain ⟨s1, s2⟩ := pinS_has ht hc hg hu
  have hU := ups_in cs hn
  unfold whereS whereM
  rw [e, bits_and hm hp]
  refine ⟨rfl, ?_, ?_⟩
  · split
    · exact and_in hm hp
    · split
      · exact hp
      · exact hU
  · intro i hi
    have k1 : Msk.hasB (pinsM cs ds g) (i : Int) = true → Msk.hasB (upsM cs) (i : Int) = true := by
      rw [← e, and_has s1 hU hi]
      intro h; rw [Bool.and_eq_true] at h; exact h.2
    split
    · rw [and_has hm hp hi]
      intro h; rw [Bool.and_eq_true] at h; exact k1 h.2
    · split
      · exact k1
      · exact id
theorem ups_at_fin : ∀ n : Fin 5, ∀ a : Fin 16, ∀ i : Fin 4, a.val < 2 ^ n.val → Msk.hasB (a.val : Int) (i.val : Int) = true → i.val < n.val := by decide +kernel
theorem ups_at {cs : List Cp} (hn : cs.length ≤ 4) {i : Nat} (hi : i < 4) (h : Msk.hasB (upsM cs) (i : Int) = true) : i < cs.length := by
  obtain ⟨h1, h2⟩ := upsTo_bound cs cs.length
  obtain ⟨a, ha⟩ := setIn_fin (ups_in cs hn)
  refine ups_at_fin ⟨cs.length, by omega⟩ a ⟨i, hi⟩ ?_ (by rw [← ha]; exact h)
  have h3 : (a.val : Int) < 2 ^ cs.length := by rw [← ha]; exact h2
  exact_mod_cast h3
/-- a processor that a set has is one of four. -/
theorem has_nat {m c : Int} (h : Msk.hasB m c = true) : ∃ i : Nat, i < 4 ∧ c = (i : Int) := by
  unfold Msk.hasB at h
  simp only [Bool.and_eq_true, decide_eq_true_eq] at h
  obtain ⟨_, ⟨h1, h2⟩, _⟩ := h
  exact ⟨c.toNat, by omega, by omega⟩
theorem where_at {cs : List Cp} {ds : List Gr} (hn : cs.length ≤ 4) (ht : treeB ds = true) (hc : CpIn ds) {g : Nat} (hg : g < 8) (hu : usAt ds g = true) {ma c : Int} (hm : SetIn ma) (h : Msk.hasB (whereM cs ds g ma) c = true) : ∃ i : Nat, i < cs.length ∧ c = (i : Int) := by
  obtain ⟨i, hi, rfl⟩ := has_nat h
  exact ⟨i, ups_at hn hi ((where_eq hn ht hc hg hu hm).2.2 i hi h), rfl⟩
end Go.Proofs.YtnmmglkigiakaaaGreat
