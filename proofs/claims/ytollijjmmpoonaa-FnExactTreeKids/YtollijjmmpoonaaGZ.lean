/- Rows of groups: what measures them; such rows that came in, opened. -/
import Derived.Test.YtollijjmmpoonaaGE
namespace Go.Proofs.Ytollijjmmpoonaa
set_option linter.unusedVariables false
set_option linter.unusedSimpArgs false
open Go.ChangeShapes Go.WideShapes Go.ChangeAt Go.RowKit

/-- what is left of a measure: -1, or not below 0 and at most as much as it was. -/
def Left (m n : Int) : Prop := (n < 0 ∧ n = -1) ∨ (0 ≤ n ∧ n ≤ m)
set_option maxHeartbeats 2000000 in
theorem szBand_left (b : Ba) (x y : Value) (m : Int) (w : World) (hs : SlBa w x y b) (h0 : 0 ≤ m) (h1 : m ≤ 1048576) :
    Calls Try.prog 46 #[baV b x y, .int .i64 m] w fun e w' => (∃ n : Int, e = .returned (.int .i64 n) ∧ ((n < 0 ∧ n = -1) ∨ (0 ≤ n ∧ b.lo.length + b.dr.length + n = m))) ∧ Below w.heap.size w w' := by
  obtain ⟨h1, h2⟩ := hs
  obtain ⟨p, c, rfl, hl⟩ := h1.form
  obtain ⟨p', c', rfl, hd⟩ := h2.form
  obtain ⟨qu, po, sp, lo, dr⟩ := b
  unfold baV
  dsimp only at *
  clear h1 h2
  generalize lo.length = n1 at *
  generalize dr.length = n2 at *
  by_cases c1 : m - n1 < 0
  · go_enter Try.func46, Try.ntmps46
    go_wp2
    go_ret
    exact ⟨⟨_, rfl, .inl ⟨by decide, rfl⟩⟩, (Below.refl _ _).alloc (Nat.le_refl _) _⟩
  · by_cases c2 : m - n1 - n2 < 0
    · go_enter Try.func46, Try.ntmps46
      go_wp2
      go_ret
      exact ⟨⟨_, rfl, .inl ⟨by decide, rfl⟩⟩, (Below.refl _ _).alloc (Nat.le_refl _) _⟩
    · go_enter Try.func46, Try.ntmps46
      go_wp2
      go_ret
      exact ⟨⟨_, rfl, .inr ⟨by omega, by omega⟩⟩, (Below.refl _ _).alloc (Nat.le_refl _) _⟩
theorem szShelfS_left (z : Value) (sh : List Sh) (m : Int) (w : World) (hs : SlSh w z sh) (h0 : 0 ≤ m) (h1 : m ≤ 1048576) :
    Calls Try.prog 47 #[z, .int .i64 m] w fun e w' => (∃ n : Int, e = .returned (.int .i64 n) ∧ ((n < 0 ∧ n = -1) ∨ (0 ≤ n ∧ sh.length + n = m))) ∧ w' = w := by
  obtain ⟨p, c, rfl, hl⟩ := hs.form
  clear hs
  generalize sh.length = n1 at *
  by_cases c1 : m - n1 < 0
  · go_enter Try.func47, Try.ntmps47
    go_wp2
    go_ret
    exact ⟨⟨_, rfl, .inl ⟨by decide, rfl⟩⟩, rfl⟩
  · go_enter Try.func47, Try.ntmps47
    go_wp2
    go_ret
    exact ⟨⟨_, rfl, .inr ⟨by omega, by omega⟩⟩, rfl⟩
/-- how much a group is. -/
def grW (d : Gr) : Int := d.na.size + d.ba.lo.length + d.ba.dr.length + d.sh.length
theorem grW_nonneg (d : Gr) : 0 ≤ grW d := by unfold grW; omega
def gsW : List Gr → Int
  | [] => 0
  | d :: ds => grW d + gsW ds
theorem gsW_nonneg (ds : List Gr) : 0 ≤ gsW ds := by
  induction ds with
  | nil => exact Int.le_refl _
  | cons d ds ih => have := grW_nonneg d; show 0 ≤ grW d + gsW ds; omega
theorem gsW_append (a b : List Gr) : gsW (a ++ b) = gsW a + gsW b := by
  induction a with
  | nil => simp [gsW]
  | cons d ds ih => show grW d + gsW (ds ++ b) = grW d + gsW ds + gsW b; omega
set_option maxHeartbeats 4000000 in
theorem szGroup_any (v : Gv) (m : Int) (w : World) (hs : GvOk w v) (hna : v.d.na.size ≤ maxLen) (h0 : 0 ≤ m) (h1 : m ≤ 1048576) :
    Calls Try.prog 28 #[gvV v, .int .i64 m] w fun e w' => (∃ n : Int, e = .returned (.int .i64 n) ∧ ((n < 0 ∧ n = -1) ∨ (0 ≤ n ∧ (n + grW v.d = m ∧ GrFit v.d)))) ∧ Below w.heap.size w w' := by
  obtain ⟨⟨us, pa, na, we, cp, pe, ne, su, ⟨qu, po, sp, lo, dr⟩, sh⟩, x, y, z⟩ := v
  obtain ⟨hs1, hs2⟩ := hs
  have hB : ∀ A, Below w.heap.size w (w.alloc A) := fun A => (Below.refl _ _).alloc (Nat.le_refl _) _
  unfold maxLen at hna
  unfold gvV
  dsimp only at *
  by_cases c1 : m - (na.size : Int) < 0
  · go_enter Try.func28, Try.ntmps28
    go_wp2
    go_ret
    exact ⟨⟨_, rfl, .inl ⟨by decide, rfl⟩⟩, hB _⟩
  · go_enter Try.func28, Try.ntmps28
    go_wp2_with fail
    refine (szBand_left ⟨qu, po, sp, lo, dr⟩ x y _ _ (hs1.below (hB _)) (by omega) (by omega)).mono ?_
    rintro e1 w2 ⟨⟨n1, rfl, hn1⟩, hb2⟩
    obtain ⟨hbl, hX, hlt⟩ := box_kept hb2
    obtain ⟨a0, a1, a2, a3, a4, a5, a6, a7, a8, a9, a10, a11, a12, a13⟩ := gbox hX
    dsimp only at hn1
    rcases hn1 with ⟨hn1, rfl⟩ | ⟨hn1, hn2⟩
    · simp only []
      go_at_K
      go_wp2_with fail
      go_ret
      exact ⟨⟨_, rfl, .inl ⟨by decide, rfl⟩⟩, hbl⟩
    · have hn1' : ¬ n1 < 0 := by omega
      simp only []
      go_at_K
      go_wp2_with fail
      refine (szShelfS_left z sh _ _ (hs2.below hbl) (by omega) (by omega)).mono ?_
      rintro e1 w3 ⟨⟨n3, rfl, hn3⟩, rfl⟩
      rcases hn3 with ⟨hn3, rfl⟩ | ⟨hn3, hn4⟩
      · simp only []
        go_at_K
        go_wp2_with fail
        go_ret
        exact ⟨⟨_, rfl, .inl ⟨by decide, rfl⟩⟩, hbl⟩
      · have hn3' : ¬ n3 < 0 := by omega
        simp only []
        go_at_K
        go_wp2_with fail
        go_ret
        exact ⟨⟨_, rfl, .inr ⟨by omega, by dsimp only [grW]; omega, by dsimp only [GrFit]; omega⟩⟩, hbl⟩
set_option maxHeartbeats 8000000 in
theorem szGroupS_left (sl : Value) (vs : List Gv) (M : Int) (w : World) (hs : SlG w sl vs) (hna : ∀ v ∈ vs, v.d.na.size ≤ maxLen) (hM0 : 0 ≤ M) (hM : M ≤ 1048576) :
    Calls Try.prog 9 #[sl, .int .i64 M] w fun e w' => (∃ n : Int, e = .returned (.int .i64 n) ∧ ((n < 0 ∧ n = -1) ∨ (0 ≤ n ∧ n + vs.length + gsW (gsD vs) = M ∧ GsFit vs))) ∧ Below w.heap.size w w' := by
  obtain ⟨hs, hok⟩ := hs
  rcases hs with ⟨rfl, a, cap, rfl⟩ | ⟨g, o, cap, rfl, hE, hl, hm⟩
  · go_enter Try.func9, Try.ntmps9
    go_wp2
    refine wp_loop_rounds 1 ?_
    rw [rounds_succ]
    go_wp2
    go_ret
    exact ⟨⟨_, rfl, .inr ⟨hM0, by simp [gsW, gsD], by simp, fun v hv => by cases hv⟩⟩, Below.refl _ _⟩
  · unfold maxLen at hm
    by_cases c1 : M - vs.length < 0
    · go_enter Try.func9, Try.ntmps9
      go_wp2
      go_ret
      exact ⟨⟨_, rfl, .inl ⟨by decide, rfl⟩⟩, Below.refl _ _⟩
    · go_enter Try.func9, Try.ntmps9
      go_wp2
      go_loopw [1, 5] (fun c i wr => ∃ (k : Nat) (m : Int), k ≤ vs.length ∧ i = .int .i64 k ∧ c = .int .i64 m ∧ 0 ≤ m ∧ m ≤ 1048576 ∧ Below w.heap.size w wr ∧ m + vs.length + gsW (gsD (vs.take k)) = M ∧ ∀ v ∈ vs.take k, GrFit v.d) (fun _ i _ => vs.length - (intOf i).toNat)
      case atStart => exact ⟨0, _, by omega, rfl, rfl, by omega, by omega, Below.refl _ _, by simp [gsW, gsD], fun v hv => by simp at hv⟩
      case round =>
        obtain ⟨k, m, hk, rfl, rfl, m0, m1, acc, hsum, hfit⟩ := hrel
        by_cases hlt : k < vs.length
        · have hlt' : (k : Int) < (vs.length : Int) := by omega
          obtain ⟨e, he⟩ := row_get hlt
          have hmem : e ∈ vs := List.mem_of_getElem? he
          have hoke := (hok e hmem).below acc
          have hnae := hna e hmem
          obtain ⟨x0, x1, x2, x3, x4, x5, x6, x7, x8, x9, x10, x11, x12, x13⟩ := gv_cells (hE.below acc k e he)
          have HE : Hid (vs[k]? = some e) := he
          have HF : Hid (∀ v ∈ vs.take k, GrFit v.d) := hfit
          have HS : Hid (m + vs.length + gsW (gsD (vs.take k)) = M) := hsum
          clear he hfit hok hna hmem hsum
          go_wp2_with fail
          refine (szGroup_any e m _ hoke hnae m0 m1).mono ?_
          rintro e1 w2 ⟨⟨n, rfl, hn⟩, hb2⟩
          rcases hn with ⟨hn, rfl⟩ | ⟨hn1, hn2, hn3⟩
          · simp only []
            go_at_K
            go_wp2_with fail
            go_ret
            exact ⟨⟨_, rfl, .inl ⟨by decide, rfl⟩⟩, acc.trans (hb2.mono acc.size)⟩
          · have hn' : ¬ n < 0 := by omega
            have HN : Hid (GrFit e.d) := hn3
            have HW : Hid (n + grW e.d = m) := hn2
            have hnm : n ≤ m := by have := grW_nonneg e.d; omega
            clear hn3 hn2
            simp only []
            go_at_K
            go_wp2_with fail
            refine ⟨⟨k + 1, n, hlt, by go_num, rfl, hn1, by omega, acc.trans (hb2.mono acc.size), ?_, ?_⟩, by simp [intOf]; omega⟩
            · rw [List.take_add_one, HE.out]
              have := HS.out
              have := HW.out
              simp only [gsD, Option.toList, List.map_append, gsW_append, List.map_cons, List.map_nil, gsW] at this ⊢
              have h3 := HS.out
              simp only [gsD] at h3
              omega
            intro v hv
            rw [List.take_add_one, HE.out] at hv
            rcases List.mem_append.1 hv with h | h
            · exact HF.out v h
            · obtain rfl : v = e := by simpa using h
              exact HN.out
        · have hlt' : ¬ (k : Int) < (vs.length : Int) := by omega
          have hkk : k = vs.length := by omega
          rw [hkk, List.take_length] at hfit hsum
          clear hkk
          go_wp2
          go_ret
          exact ⟨⟨_, rfl, .inr ⟨m0, hsum, by omega, hfit⟩⟩, acc⟩
theorem szGroupS_any (sl : Value) (vs : List Gv) (w : World) (hs : SlG w sl vs) (hna : ∀ v ∈ vs, v.d.na.size ≤ maxLen) :
    Calls Try.prog 9 #[sl, .int .i64 1048576] w fun e w' => (∃ n : Int, e = .returned (.int .i64 n) ∧ ((n < 0 ∧ n = -1) ∨ (0 ≤ n ∧ n ≤ 1048576 ∧ GsFit vs))) ∧ Below w.heap.size w w' := by
  refine (szGroupS_left sl vs 1048576 w hs hna (by decide) (by decide)).mono ?_
  rintro e w' ⟨⟨n, rfl, hn⟩, hb⟩
  have := gsW_nonneg (gsD vs)
  refine ⟨⟨n, rfl, ?_⟩, hb⟩
  rcases hn with hn | ⟨h1, h2, h3⟩
  · exact .inl hn
  · exact .inr ⟨h1, by omega, h3⟩

set_option maxRecDepth 20000 in
theorem read_gv {H : Type} {enc : TypeId × Value → H} {w : World} {base : Nat} {spare : Nat → Bool} {held : Bool} (fuel : Nat) (cs : List Value) (y : DataW H × List MemPlace)
    (h : DataW.trod enc Try.prog w base spare held fuel 46 cs = some y) : ∃ a : Gv, cs = gvC a ∧ GvOk w a ∧ a.d.na.size ≤ maxLen ∧ (Lit.int .i64 a.d.pa).wf = true := by
  obtain ⟨n, hl, hf⟩ := trod_field Try.underlying46 h
  have hl : cs.length = 14 := hl.trans (by kernel_rfl)
  match cs, hl with
  | [c0, c1, c2, c3, c4, c5, c6, c7, c8, c9, c10, c11, c12, c13], _ =>
    obtain ⟨y0, h0⟩ := hf 0 _ rfl
    have h0 : DataW.trod enc Try.prog w base spare held n 4 [c0] = some y0 := h0
    obtain ⟨y1, h1⟩ := hf 1 _ rfl
    have h1 : DataW.trod enc Try.prog w base spare held n 3 [c1] = some y1 := h1
    obtain ⟨y2, h2⟩ := hf 2 _ rfl
    have h2 : DataW.trod enc Try.prog w base spare held n 9 [c2] = some y2 := h2
    obtain ⟨y3, h3⟩ := hf 3 _ rfl
    have h3 : DataW.trod enc Try.prog w base spare held n 3 [c3] = some y3 := h3
    obtain ⟨y4, h4⟩ := hf 4 _ rfl
    have h4 : DataW.trod enc Try.prog w base spare held n 3 [c4] = some y4 := h4
    obtain ⟨y5, h5⟩ := hf 5 _ rfl
    have h5 : DataW.trod enc Try.prog w base spare held n 3 [c5] = some y5 := h5
    obtain ⟨y6, h6⟩ := hf 6 _ rfl
    have h6 : DataW.trod enc Try.prog w base spare held n 3 [c6] = some y6 := h6
    obtain ⟨y7, h7⟩ := hf 7 _ rfl
    have h7 : DataW.trod enc Try.prog w base spare held n 3 [c7] = some y7 := h7
    obtain ⟨y8, h8⟩ := hf 8 _ rfl
    have h8 : DataW.trod enc Try.prog w base spare held n 43 [c8, c9, c10, c11, c12] = some y8 := h8
    obtain ⟨y9, h9⟩ := hf 9 _ rfl
    have h9 : DataW.trod enc Try.prog w base spare held n 44 [c13] = some y9 := h9
    obtain ⟨b0, e0, _⟩ := DataW.trod_bool Try.underlying4 h0
    obtain ⟨b1, e1, _, w1⟩ := DataW.trod_int Try.underlying3 h1
    obtain ⟨b2, e2, _, w2⟩ := DataW.trod_string Try.underlying9 h2
    obtain ⟨b3, e3, _, _⟩ := DataW.trod_int Try.underlying3 h3
    obtain ⟨b4, e4, _, _⟩ := DataW.trod_int Try.underlying3 h4
    obtain ⟨b5, e5, _, _⟩ := DataW.trod_int Try.underlying3 h5
    obtain ⟨b6, e6, _, _⟩ := DataW.trod_int Try.underlying3 h6
    obtain ⟨b7, e7, _, _⟩ := DataW.trod_int Try.underlying3 h7
    obtain ⟨sh, s9⟩ := trod_shS h9
    obtain ⟨n', _, hg⟩ := trod_field Try.underlying43 h8
    obtain ⟨u0, g0⟩ := hg 0 _ rfl
    have g0 : DataW.trod enc Try.prog w base spare held n' 3 [c8] = some u0 := g0
    obtain ⟨u1, g1⟩ := hg 1 _ rfl
    have g1 : DataW.trod enc Try.prog w base spare held n' 3 [c9] = some u1 := g1
    obtain ⟨u2, g2⟩ := hg 2 _ rfl
    have g2 : DataW.trod enc Try.prog w base spare held n' 3 [c10] = some u2 := g2
    obtain ⟨u3, g3⟩ := hg 3 _ rfl
    have g3 : DataW.trod enc Try.prog w base spare held n' 36 [c11] = some u3 := g3
    obtain ⟨u4, g4⟩ := hg 4 _ rfl
    have g4 : DataW.trod enc Try.prog w base spare held n' 41 [c12] = some u4 := g4
    obtain ⟨qu, e8, _, _⟩ := DataW.trod_int Try.underlying3 g0
    obtain ⟨po, e9, _, _⟩ := DataW.trod_int Try.underlying3 g1
    obtain ⟨sp, e10, _, _⟩ := DataW.trod_int Try.underlying3 g2
    obtain ⟨lo, s3⟩ := trod_intS g3
    obtain ⟨dr, s4⟩ := trod_boolS g4
    simp at e0 e1 e2 e3 e4 e5 e6 e7 e8 e9 e10
    subst e0 e1 e2 e3 e4 e5 e6 e7 e8 e9 e10
    exact ⟨⟨⟨b0, b1, b2, b3, b4, b5, b6, b7, ⟨qu, po, sp, lo, dr⟩, sh⟩, c11, c12, c13⟩, rfl, ⟨⟨s3, s4⟩, s9⟩, w2, w1⟩
set_option maxRecDepth 100000 in
/-- groups that came in as an argument, opened. -/
theorem open_groups {H : Type} {enc : TypeId × Value → H} {w : World} {base b0 : Nat} {spare : Nat → Bool} {held : Bool} {r : Reach} {v : Value} {d : DataW H} {p : List MemPlace}
    (hv : Value.okWide Try.prog w r b0 22 v) (h : DataW.Trod enc Try.prog w base spare held 22 v d p) : ∃ vs : List Gv, SlG w v vs ∧ ∀ a ∈ vs, a.d.na.size ≤ maxLen ∧ (Lit.int .i64 a.d.pa).wf = true := by
  obtain ⟨a, len, cap, rfl⟩ := okWide_slice Try.underlying22 hv
  obtain ⟨fuel, hf⟩ := h
  have inh : Inhabited Gv := ⟨gv0⟩
  obtain ⟨xs, h1, h2⟩ := open_rows (c := gvC) (R := fun a => GvOk w a ∧ a.d.na.size ≤ maxLen ∧ (Lit.int .i64 a.d.pa).wf = true) Try.underlying22 (show Try.prog.cellsOf 46 = 14 by kernel_rfl) (by omega) gvC_len read_gv hf
  exact ⟨xs, ⟨h1, fun v hv => (h2 v hv).1⟩, fun v hv => (h2 v hv).2⟩
end Go.Proofs.Ytollijjmmpoonaa
