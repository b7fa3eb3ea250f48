/- Rows of groups: what compares and measures them; such rows that came in, opened. -/
import Derived.Test.YtocgndefjjomjaaGS
namespace Go.Proofs.Ytocgndefjjomjaa
set_option linter.unusedVariables false
set_option linter.unusedSimpArgs false
open Go.ChangeShapes Go.WideShapes Go.ChangeAt Go.RowKit

set_option maxHeartbeats 8000000 in
theorem eqGroup_same (d : Gr) (x y z x' y' z' : Value) (w : World) (hx : GvOk w ⟨d, x, y, z⟩) (hy : GvOk w ⟨d, x', y', z'⟩) :
    Calls Try.prog 24 #[gvV ⟨d, x, y, z⟩, gvV ⟨d, x', y', z'⟩] w fun e w' => e = .returned (.bool true) ∧ Below w.heap.size w w' := by
  have hB : ∀ A B, Below w.heap.size w ((w.alloc A).alloc B) := fun A B => ((Below.refl _ _).alloc (Nat.le_refl _) _).alloc (by simp) _
  obtain ⟨us, pa, na, we, cp, pe, ne, su, ⟨qu, po, sp, lo, dr⟩, sh⟩ := d
  obtain ⟨hx1, hx2⟩ := hx
  obtain ⟨hy1, hy2⟩ := hy
  unfold gvV
  dsimp only at *
  go_enter Try.func24, Try.ntmps24
  go_wp2_with fail
  refine (eqBand_same ⟨qu, po, sp, lo, dr⟩ x y x' y' _ (hx1.below (hB _ _)) (hy1.below (hB _ _))).mono ?_
  rintro e1 w2 ⟨rfl, hb2⟩
  obtain ⟨hbl, hlt, hX, hY⟩ := two_box hb2
  obtain ⟨a0, a1, a2, a3, a4, a5, a6, a7, a8, a9, a10, a11, a12, a13⟩ := gbox hX
  obtain ⟨b0, b1, b2, b3, b4, b5, b6, b7, b8, b9, b10, b11, b12, b13⟩ := gbox hY
  simp only []
  go_at_K
  go_wp2_with fail
  refine (eqShelfS_same z z' sh _ (hx2.below hbl) (hy2.below hbl)).mono ?_
  rintro e1 w3 ⟨rfl, hb3⟩
  simp only []
  go_at_K
  go_wp2_with fail
  go_ret
  exact ⟨rfl, hbl.trans (hb3.mono hbl.size)⟩

theorem gsD_get {vs vs' : List Gv} (h : gsD vs' = gsD vs) {k : Nat} {e : Gv} (he : vs[k]? = some e) : ∃ e', vs'[k]? = some e' ∧ e'.d = e.d := by
  have h1 : (gsD vs')[k]? = some e.d := by rw [h]; simp [gsD, he]
  simp only [gsD, List.getElem?_map] at h1
  cases h2 : vs'[k]? with
  | none => rw [h2] at h1; cases h1
  | some e' => rw [h2] at h1; exact ⟨e', rfl, by simpa using h1⟩
theorem gsD_len {vs vs' : List Gv} (h : gsD vs' = gsD vs) : vs'.length = vs.length := by simpa [gsD] using congrArg List.length h
set_option maxHeartbeats 8000000 in
theorem eqGroupS_same (x y : Value) (vs vs' : List Gv) (w : World) (hx : SlG w x vs) (hy : SlG w y vs') (hd : gsD vs' = gsD vs) :
    Calls Try.prog 15 #[x, y] w fun e w' => e = .returned (.bool true) ∧ Below w.heap.size w w' := by
  have hlen := gsD_len hd
  obtain ⟨hx, hokx⟩ := hx
  obtain ⟨hy, hoky⟩ := hy
  rcases hx with ⟨h0, a, cap, rfl⟩ | ⟨g, o, cap, rfl, hE, hl, hm⟩
  · have : ∃ b cap', y = .slice b 0 cap' := by
      rcases hy with ⟨_, b, cap', rfl⟩ | ⟨g, o, cap', rfl, _⟩
      · exact ⟨_, _, rfl⟩
      · rw [hlen, h0]; exact ⟨_, _, rfl⟩
    obtain ⟨b, cap', rfl⟩ := this
    go_enter Try.func15, Try.ntmps15
    go_wp2
    refine wp_loop_rounds 1 ?_
    rw [rounds_succ]
    go_wp2
    go_ret
    exact ⟨rfl, Below.refl _ _⟩
  · rcases hy with ⟨h0, b, cap', rfl⟩ | ⟨g', o', cap', rfl, hE2, hl2, hm2⟩
    · rw [h0] at hlen
      rw [← hlen]
      go_enter Try.func15, Try.ntmps15
      go_wp2
      refine wp_loop_rounds 1 ?_
      rw [rounds_succ]
      go_wp2
      go_ret
      exact ⟨rfl, Below.refl _ _⟩
    · rw [hlen]
      unfold maxLen at hm hm2
      go_enter Try.func15, Try.ntmps15
      go_wp2
      go_loopw [5] (fun i wr => ∃ k : Nat, k ≤ vs.length ∧ i = .int .i64 k ∧ Below w.heap.size w wr) (fun i _ => vs.length - (intOf i).toNat)
      case atStart => exact ⟨0, by omega, rfl, Below.refl _ _⟩
      case round =>
        obtain ⟨k, hk, rfl, acc⟩ := hrel
        by_cases hlt : k < vs.length
        · have hlt' : (k : Int) < (vs.length : Int) := by omega
          obtain ⟨e, he⟩ := row_get hlt
          obtain ⟨e', he', hde⟩ := gsD_get hd he
          have o1 := (hokx e (List.mem_of_getElem? he)).below acc
          have o2 := (hoky e' (List.mem_of_getElem? he')).below acc
          obtain ⟨x0, x1, x2, x3, x4, x5, x6, x7, x8, x9, x10, x11, x12, x13⟩ := gv_cells (hE.below acc k e he)
          obtain ⟨y0, y1, y2, y3, y4, y5, y6, y7, y8, y9, y10, y11, y12, y13⟩ := gv_cells (hE2.below acc k e' he')
          obtain ⟨d, p, q, r⟩ := e
          obtain ⟨d', p', q', r'⟩ := e'
          dsimp only at *
          subst hde
          have hcon : ∀ w2, Below wr.heap.size wr w2 → Calls Try.prog 24 #[gvV ⟨d', p, q, r⟩, gvV ⟨d', p', q', r'⟩] w2 fun e w' => e = .returned (.bool true) ∧ Below w2.heap.size w2 w' := fun w2 hb => eqGroup_same d' p q r p' q' r' w2 (o1.below hb) (o2.below hb)
          have HC : Hid (∀ w2, Below wr.heap.size wr w2 → Calls Try.prog 24 #[gvV ⟨d', p, q, r⟩, gvV ⟨d', p', q', r'⟩] w2 fun e w' => e = .returned (.bool true) ∧ Below w2.heap.size w2 w') := hcon
          clear hcon o1 o2 he he' hokx hoky hd
          go_wp2_with fail
          go_region_with (go_at_call 24; refine (HC.out _ (Below.refl _ wr).drew).mono ?_; rintro e1 w2 ⟨rfl, hb2⟩)
          all_goals
            replace hb2 := (Below.refl _ wr).drew.trans hb2
            go_wp2
            go_roundw
            case rel => exact ⟨k + 1, by omega, by go_num, acc.trans (hb2.mono acc.size)⟩
            case measure => simp [intOf]; omega
        · have hlt' : ¬ (k : Int) < (vs.length : Int) := by omega
          go_wp2
          go_ret
          exact ⟨rfl, acc⟩
end Go.Proofs.Ytocgndefjjomjaa
