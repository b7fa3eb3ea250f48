/- The walk of FnExactTreeKids. -/
import Derived.Test.YtollijjmmpoonaaKE
import Derived.Test.YtollijjmmpoonaaMH
namespace Go.Proofs.Ytollijjmmpoonaa
set_option linter.unusedVariables false
set_option linter.unusedSimpArgs false
open Go.ChangeShapes Go.WideShapes Go.ChangeAt Go.RowKit

theorem kGs_bound (k : Int) (es : List Gv) : kGs k es ≤ k + 11 * es.length + 5 * gsW (gsD es) := by
  induction es generalizing k with
  | nil => simp [kGs, gsW, gsD]
  | cons e es ih =>
    have := ih (k + gwid e.d)
    show kGs (k + gwid e.d) es ≤ _
    have h2 : gsW (gsD (e :: es)) = grW e.d + gsW (gsD es) := rfl
    have h3 : gwid e.d = 11 + e.d.ba.lo.length + e.d.ba.dr.length + 5 * e.d.sh.length := rfl
    have h4 : grW e.d = e.d.na.size + e.d.ba.lo.length + e.d.ba.dr.length + e.d.sh.length := rfl
    rw [h2, List.length_cons]
    omega
set_option maxHeartbeats 8000000 in
set_option maxRecDepth 20000 in
theorem walkTreeKids (v0 : Value) (u0 : List Gv) (a1 : Int) (w : World) (hs : SlG w v0 u0) (hn : ∀ a ∈ u0, a.d.na.size ≤ maxLen ∧ (Lit.int .i64 a.d.pa).wf = true) :
    Calls Try.prog 8 #[v0, .int .i64 a1] w fun e w' => e = .returned (.bool true) ∧ Below w.heap.size w w' := by
  have hsz := szGroupS_left v0 u0 1048576 w hs (fun v hv => (hn v hv).1) (by decide) (by decide)
  have hspec := fun y s w hs hf => spec_kids y s a1 w hs hf
  have himpl := fun y s w hs hf => impl_kids y s a1 w hs hf
  have hk8 := kidsM_len (gsD u0) a1
  go_enter Try.func8, Try.ntmps8
  go_wp2_with fail
  refine hsz.mono ?_
  clear hsz
  rintro e w1 ⟨⟨n, rfl, hN⟩, acc⟩
  rcases hN with ⟨n1, rfl⟩ | ⟨n1, n2, hf⟩
  · simp only []
    go_at_K
    go_wp2_with fail
    go_ret
    exact ⟨rfl, acc⟩
  · have n1' : ¬ n < 0 := by omega
    have hW := gsW_nonneg (gsD u0)
    have hz1 := acc.size
    simp only []
    go_at_K
    go_wp2_with fail
    refine (toGroupS_any v0 u0 _ (hs.below acc) hf).mono ?_
    rintro e w2 ⟨y1, s1, rfl, d1, new1, hb2⟩
    replace acc := acc.trans (hb2.mono acc.size)
    simp only []
    go_at_K
    go_wp2_with fail
    refine (hspec y1 s1 _ (new1.sl (hf.of_same d1)) (hf.of_same d1)).mono ?_
    rintro e w3 ⟨vw, rfl, ow, hb3⟩
    replace acc := acc.trans (hb3.mono acc.size)
    rw [d1] at ow
    generalize hL : kidsM (gsD u0) a1 = L at *
    have aw := ow.at
    simp only []
    go_at_K
    go_wp2_with fail
    refine (toGroupS_any v0 u0 _ (hs.below acc) hf).mono ?_
    rintro e w4 ⟨y2, s2, rfl, d2, new2, hb4⟩
    replace acc := acc.trans (hb4.mono acc.size)
    replace ow := ow.below hb4
    have f2 := hf.of_same d2
    have l2 : s2.length = u0.length := by have := congrArg List.length d2; simpa [gsD] using this
    have a2 := (new2.own f2).at
    simp only []
    go_at_K
    go_wp2_with fail
    refine (himpl y2 s2 _ (new2.sl f2) f2).mono ?_
    rintro e w5 ⟨vg, rfl, og, hb5⟩
    replace acc := acc.trans (hb5.mono acc.size)
    replace ow := ow.below hb5
    replace new2 := new2.below hb5
    rw [d2, hL] at og
    have ag := og.at
    simp only []
    go_at_K
    go_wp2_with fail
    refine (eqIntS_same vg vw L _ og.sl ow.sl).mono ?_
    rintro e w6 ⟨rfl, hb6⟩
    replace acc := acc.trans (hb6.mono acc.size)
    replace ow := ow.below hb6
    replace og := og.below hb6
    replace new2 := new2.below hb6
    simp only []
    go_at_K
    go_wp2_with fail
    refine (toGroupS_any v0 u0 _ (hs.below acc) hf).mono ?_
    rintro e w7 ⟨y3, s3, rfl, d3, new3, hb7⟩
    replace acc := acc.trans (hb7.mono acc.size)
    replace ow := ow.below hb7
    replace og := og.below hb7
    replace new2 := new2.below hb7
    simp only []
    go_at_K
    go_wp2_with fail
    refine (eqGroupS_same y2 y3 s2 s3 _ (new2.sl f2) (new3.sl (hf.of_same d3)) (d3.trans d2.symm)).mono ?_
    rintro e w8 ⟨rfl, hb8⟩
    replace acc := acc.trans (hb8.mono acc.size)
    replace ow := ow.below hb8
    replace og := og.below hb8
    replace new2 := new2.below hb8
    have hk1 : kGs 1 s2 ≤ 300000000 := by
      have := kGs_bound 1 s2
      rw [d2, l2] at this
      omega
    have hk2 := kGs_le 1 s2
    have hk2' : ¬ kGs 1 s2 < 0 := by omega
    have hz2 := hb2.size
    have hz3 := hb3.size
    have hz4 := hb4.size
    simp only []
    go_at_K
    go_wp2_with fail
    refine (markGroupS_own y2 s2 _ 1 _ (new2.own f2) f2 (by decide) hk1).mono ?_
    rintro e w9 ⟨rfl, _, kp⟩
    replace ow := ow.kept kp (fun g hg hm => by have := (aw g hg).2; have := (a2 g hm).1; omega)
    replace og := og.kept kp (fun g hg hm => by have := (ag g hg).1; have := (a2 g hm).2; omega)
    replace acc := acc.trans (kp.toBelow acc.size (fun g hg => by have := (a2 g hg).1; omega))
    simp only []
    go_at_K
    go_wp2_with fail
    refine (eqIntS_same vg vw L _ og.sl ow.sl).mono ?_
    rintro e w10 ⟨rfl, hb10⟩
    replace acc := acc.trans (hb10.mono acc.size)
    replace ow := ow.below hb10
    replace og := og.below hb10
    simp only []
    go_at_K
    go_wp2_with fail
    refine (markIntS_own vg L _ 1 _ og (by omega) (by decide) (by decide)).mono ?_
    rintro e w11 ⟨rfl, om, gr⟩
    have kp2 := Kept.ofGrown gr
    replace ow := ow.kept kp2 (fun g hg hm => by have := (aw g hg).2; have := (ag g hm).1; omega)
    replace acc := acc.trans (kp2.toBelow acc.size (fun g hg => by have := (ag g hg).1; omega))
    have hq : ¬ (1 + (L.length : Int)) < 0 := by omega
    simp only []
    go_at_K
    go_wp2_with fail
    refine (heldIntS_any vg L.length 1 _ om.sl (by omega) (by decide) (by decide)).mono ?_
    rintro e w12 ⟨rfl, hb12⟩
    replace acc := acc.trans (hb12.mono acc.size)
    replace ow := ow.below hb12
    replace om := om.below hb12
    simp only []
    go_at_K
    go_wp2_with fail
    refine (toGroupS_any v0 u0 _ (hs.below acc) hf).mono ?_
    rintro e w13 ⟨y4, s4, rfl, d4, new4, hb13⟩
    replace acc := acc.trans (hb13.mono acc.size)
    replace ow := ow.below hb13
    replace om := om.below hb13
    have f4 := hf.of_same d4
    simp only []
    go_at_K
    go_wp2_with fail
    refine (himpl y4 s4 _ (new4.sl f4) f4).mono ?_
    rintro e w14 ⟨vh, rfl, oh, hb14⟩
    replace acc := acc.trans (hb14.mono acc.size)
    replace ow := ow.below hb14
    replace om := om.below hb14
    rw [d4, hL] at oh
    simp only []
    go_at_K
    go_wp2_with fail
    refine (eqIntS_same vh vw L _ oh.sl ow.sl).mono ?_
    rintro e w15 ⟨rfl, hb15⟩
    replace acc := acc.trans (hb15.mono acc.size)
    replace om := om.below hb15
    simp only []
    go_at_K
    go_wp2_with fail
    refine (heldIntS_any vg L.length 1 _ om.sl (by omega) (by decide) (by decide)).mono ?_
    rintro e w16 ⟨rfl, hb16⟩
    replace acc := acc.trans (hb16.mono acc.size)
    simp only []
    go_at_K
    go_wp2_with fail
    go_ret
    exact ⟨rfl, acc⟩
end Go.Proofs.Ytollijjmmpoonaa
