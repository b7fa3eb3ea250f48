/- What asks whether rows of groups are held. -/
import Derived.Test.YtocgndefjjomjaaMH
namespace Go.Proofs.Ytocgndefjjomjaa
set_option linter.unusedVariables false
set_option linter.unusedSimpArgs false
open Go.ChangeShapes Go.WideShapes Go.ChangeAt Go.RowKit

set_option maxHeartbeats 16000000 in
set_option maxRecDepth 20000 in
theorem heldGroupS_any (x : Value) (es : List Gv) (k0 : Int) (w : World) (hs : SlG w x (mGs k0 es)) (hf : GsFit es) (hk0 : 0 ≤ k0) (hk1 : kGs k0 es ≤ 300000000) :
    Calls Try.prog 21 #[x, .int .i64 k0] w fun e w' => e = .returned (.int .i64 (kGs k0 es)) ∧ Below w.heap.size w w' := by
  obtain ⟨hs, hall⟩ := hs
  rcases hs with ⟨h0, a, cap, rfl⟩ | ⟨g, o, cap, rfl, hE, hl, hm⟩
  · have hn0 : es = [] := by
      have := mGs_len k0 es; rw [h0] at this; exact List.length_eq_zero_iff.1 this.symm
    subst hn0
    go_enter Try.func21, Try.ntmps21
    go_wp2
    refine wp_loop_rounds 1 ?_
    rw [rounds_succ]
    go_wp2
    go_ret
    exact ⟨rfl, Below.refl _ _⟩
  · rw [mGs_len] at hl ⊢
    unfold maxLen at hm
    obtain ⟨hlen, hfit⟩ := hf
    go_enter Try.func21, Try.ntmps21
    go_wp2
    go_loopw [1, 5] (fun c i wr => ∃ pre post : List Gv, es = pre ++ post ∧ i = .int .i64 pre.length ∧ c = .int .i64 (kGs k0 pre) ∧ Below w.heap.size w wr) (fun _ i _ => es.length - (intOf i).toNat)
    case atStart => exact ⟨[], es, rfl, rfl, rfl, Below.refl _ _⟩
    case round =>
      obtain ⟨pre, post, hes, rfl, rfl, acc⟩ := hrel
      cases post with
      | nil =>
        rw [List.append_nil] at hes
        subst hes
        have hlt' : ¬ (es.length : Int) < (es.length : Int) := by omega
        go_wp2
        go_ret
        exact ⟨rfl, acc⟩
      | cons e post =>
        have hkl : pre.length < es.length := by rw [hes]; simp
        have hlt' : (pre.length : Int) < (es.length : Int) := by omega
        have hee : e ∈ es := by rw [hes]; simp
        obtain ⟨_, l1, l2, l3⟩ := hfit e hee
        have hKle := kGs_le k0 pre
        have hK1 : kGs k0 pre + gwid e.d ≤ 300000000 := by
          have := kGs_le (kGs k0 pre + gwid e.d) post
          have h2 : kGs k0 es = kGs (kGs k0 pre + gwid e.d) post := by rw [hes, kGs_append]; rfl
          omega
        have hml : (mGs k0 pre).length = pre.length := mGs_len _ _
        have hmE : mGs k0 es = mGs k0 pre ++ mGv (kGs k0 pre) e :: mGs (kGs k0 pre + gwid e.d) post := by rw [hes, mGs_append]; rfl
        have hget : (mGs k0 es)[pre.length]? = some (mGv (kGs k0 pre) e) := by rw [hmE, List.getElem?_append_right (by omega), hml, Nat.sub_self]; rfl
        have hok := hall _ (List.mem_of_getElem? hget)
        have HN : Hid (kGs k0 (pre ++ [e]) = kGs k0 pre + gwid e.d) := by show _ = _; rw [kGs_append]; rfl
        generalize hKK : kGs k0 pre = K at *
        have hw := gwid_pos e.d
        have hgwd : gwid e.d = 11 + e.d.ba.lo.length + e.d.ba.dr.length + 5 * e.d.sh.length := rfl
        have HE : Hid (RowOf gvC 14 w g o (mGs k0 es)) := hE
        have HES : Hid (es = pre ++ e :: post) := hes
        clear hE hmE hes
        obtain ⟨x0, x1, x2, x3, x4, x5, x6, x7, x8, x9, x10, x11, x12, x13⟩ := gv_cells (HE.out.below acc pre.length _ hget)
        unfold mGv mGr at x0 x1 x2
        dsimp only at x0 x1 x2
        clear x3 x4 x5 x6 x7 x8 x9 x10 x11 x12 x13
        go_wp2_with fail
        have hmt : ∀ W, Calls Try.prog 25 #[.int .i64 (K + 1 + 1)] W fun e w' => e = .returned (.string (mtxt (K + 1 + 1))) ∧ Below W.heap.size W w' := fun W => markText_any (K + 1 + 1) W (by omega) (by omega)
        have hx2 : ∀ w', Below wr.heap.size wr w' → w'.cell? ⟨g, o + pre.length * 14 + 2, none⟩ = some (.string (mtxt (K + 1 + 1))) := by
          intro w' hb'
          obtain ⟨y0, y1, y2, _⟩ := gv_cells (HE.out.below (acc.trans (hb'.mono acc.size)) pre.length _ hget)
          exact y2
        clear x0 x1 x2
        have x2 := hx2 wr (Below.refl _ _)
        go_region_held3 (fun w' => w'.cell? ⟨g, o + pre.length * 14 + 2, none⟩ = some (.string (mtxt (K + 1 + 1)))) (go_keep) (first | (go_at_call 25; refine (hmt _).mono ?_; rintro e w2 ⟨rfl, hb2⟩; have hb3 := (Below.refl wr.heap.size wr).drew.trans hb2; have g0 := hx2 _ hb3))
        have acc2 := acc.trans (hb3.mono acc.size)
        clear x2 g0 hb2 hb3 hx2 hmt
        obtain ⟨x0, x1, x2, x3, x4, x5, x6, x7, x8, x9, x10, x11, x12, x13⟩ := gv_cells (HE.out.below acc2 pre.length _ hget)
        unfold mGv mGr at x2 x3 x4 x5 x6 x7 x8 x9 x10 x11
        dsimp only at x2 x3 x4 x5 x6 x7 x8 x9 x10 x11
        clear x0 x1 x2 x12 x13
        simp only [Exit.then]
        go_at_K
        go_wp2_with fail
        obtain ⟨⟨m1, m2⟩, m3⟩ := hok
        refine (heldIntS_any _ e.d.ba.lo.length (K + 1 + 1 + 1 + 1 + 1 + 1 + 1 + 1 + 1 + 1 + 1) w2 (m1.below acc2) l1 (by omega) (by omega)).mono ?_
        rintro e1 w4 ⟨rfl, hb4⟩
        have acc4 := acc2.trans (hb4.mono acc2.size)
        clear x3 x4 x5 x6 x7 x8 x9 x10 x11
        obtain ⟨x0, x1, x2, x3, x4, x5, x6, x7, x8, x9, x10, x11, x12, x13⟩ := gv_cells (HE.out.below acc4 pre.length _ hget)
        unfold mGv at x12
        dsimp only at x12
        clear x0 x1 x2 x3 x4 x5 x6 x7 x8 x9 x10 x11 x13
        have hq4 : ¬ (K + 1 + 1 + 1 + 1 + 1 + 1 + 1 + 1 + 1 + 1 + 1 + (e.d.ba.lo.length : Int)) < 0 := by omega
        simp only []
        go_at_K
        go_wp2_with fail
        refine (heldBoolS_any _ e.d.ba.dr.length (K + 1 + 1 + 1 + 1 + 1 + 1 + 1 + 1 + 1 + 1 + 1 + e.d.ba.lo.length) w4 (m2.below acc4) l2 (by omega) (by omega)).mono ?_
        rintro e1 w5 ⟨rfl, hb5⟩
        have acc5 := acc4.trans (hb5.mono acc4.size)
        clear x12
        obtain ⟨x0, x1, x2, x3, x4, x5, x6, x7, x8, x9, x10, x11, x12, x13⟩ := gv_cells (HE.out.below acc5 pre.length _ hget)
        unfold mGv at x13
        dsimp only at x13
        clear x0 x1 x2 x3 x4 x5 x6 x7 x8 x9 x10 x11 x12
        have hq5 : ¬ (K + 1 + 1 + 1 + 1 + 1 + 1 + 1 + 1 + 1 + 1 + 1 + (e.d.ba.lo.length : Int) + (e.d.ba.dr.length : Int)) < 0 := by omega
        simp only []
        go_at_K
        go_wp2_with fail
        refine (heldShelfS_any _ e.d.sh.length (K + 1 + 1 + 1 + 1 + 1 + 1 + 1 + 1 + 1 + 1 + 1 + e.d.ba.lo.length + e.d.ba.dr.length) w5 (m3.below acc5) l3 (by omega) (by omega)).mono ?_
        rintro e1 w6 ⟨rfl, hb6⟩
        have acc6 := acc5.trans (hb6.mono acc5.size)
        clear x13
        have hq6 : ¬ (K + 1 + 1 + 1 + 1 + 1 + 1 + 1 + 1 + 1 + 1 + 1 + (e.d.ba.lo.length : Int) + (e.d.ba.dr.length : Int) + 5 * (e.d.sh.length : Int)) < 0 := by omega
        simp only []
        go_at_K
        go_wp2_with fail
        exact ⟨⟨pre ++ [e], post, by rw [HES.out]; simp, by rw [List.length_append]; go_num, by rw [HN.out, hgwd]; congr 1; omega, acc6⟩, by simp [intOf]; omega⟩
end Go.Proofs.Ytocgndefjjomjaa
