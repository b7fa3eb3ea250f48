/- Proved: at every argument the program's function BandFree answers as the specification's and leaves the argument as it was; no condition beyond the statement's own. -/
import Derived.Test.YtljjgebkieffpaaBF
import Derived.WalkKit
import Derived.ProofKit
import Derived.OpenShut
import Derived.ShutString
import Derived.ChangeOld
import Derived.Below
namespace Go.Proofs.Ytljjgebkieffpaa.fnExactBandFree
open Go.ChangeShapes Go.WideShapes Go.ChangeAt Go.RowKit
open Go.ChangeMaps (open_string shut_string)
set_option linter.unusedVariables false

set_option maxHeartbeats 4000000 in
theorem walk (b : Ba) (x y : Value) (c : Int) (w : World) (hs : SlBa w x y b) (hw : BaWf b) (hc : (Lit.int .i64 c).wf = true) :
    Calls Try.prog 9 #[baV b x y, .int .i64 c] w fun e w' => e = .returned (.bool true) ∧ Below w.heap.size w w' := by
  have hB : ∀ A, Below w.heap.size w (w.alloc A) := fun A => (Below.refl _ _).alloc (Nat.le_refl _) _
  unfold baV
  go_enter Try.func9, Try.ntmps9
  go_wp2_with fail
  refine (szBand_any b x y _ (hs.below (hB _))).mono ?_
  rintro e1 w2 ⟨⟨n, rfl, hn⟩, b2⟩
  obtain ⟨b2, hA2, lt2⟩ := box_kept b2
  simp only []
  go_at_K
  rcases hn with ⟨hn, _⟩ | ⟨hn, hn2, hn3⟩
  · go_wp2_with fail
    go_ret
    exact ⟨rfl, b2⟩
  have hl : b.lo.length ≤ 1048576 := by omega
  have hd : b.dr.length ≤ 1048576 := by omega
  clear hn2 hn3
  obtain ⟨q0, q1, q2, q3, q4⟩ := bbox hA2
  go_wp2_with fail
  refine (toBand_any b x y _ (hs.below b2) hl hd).mono ?_
  rintro e1 w3 ⟨x1, y1, rfl, o1, b3⟩
  have a3 := b2.trans (b3.mono b2.size)
  have hA3 := (b3.block _ lt2).trans hA2
  have lt3 := Nat.lt_of_lt_of_le lt2 b3.size
  clear q0 q1 q2 q3 q4
  obtain ⟨q0, q1, q2, q3, q4⟩ := bbox hA3
  simp only []
  go_at_K
  go_wp2_with fail
  refine (spec_bandFree b x1 y1 c w3 o1.sl).mono ?_
  rintro e1 w4 ⟨rfl, b4⟩
  have a4 := a3.trans (b4.mono a3.size)
  have hA4 := (b4.block _ lt3).trans hA3
  have lt4 := Nat.lt_of_lt_of_le lt3 b4.size
  clear q0 q1 q2 q3 q4
  obtain ⟨q0, q1, q2, q3, q4⟩ := bbox hA4
  simp only []
  go_at_K
  go_wp2_with fail
  refine (toBand_any b x y w4 (hs.below a4) hl hd).mono ?_
  rintro e1 w5 ⟨x2, y2, rfl, o2, b5⟩
  have a5 := a4.trans (b5.mono a4.size)
  have hA5 := (b5.block _ lt4).trans hA4
  have lt5 := Nat.lt_of_lt_of_le lt4 b5.size
  clear q0 q1 q2 q3 q4
  obtain ⟨q0, q1, q2, q3, q4⟩ := bbox hA5
  obtain ⟨p2, c2, rfl⟩ := o2.1.form
  obtain ⟨p2', c2', rfl⟩ := o2.2.1.form
  unfold baV
  simp only []
  go_at_K
  go_wp2_with fail
  refine (impl_bandFree b _ _ c _ (o2.below ((Below.refl _ _).alloc (Nat.le_refl _) _)).sl).mono ?_
  rintro e1 w6 ⟨rfl, b6⟩
  obtain ⟨b6, hX6, ltx⟩ := box_kept b6
  have a6 := a5.trans (b6.mono a5.size)
  have hA6 := (b6.block _ lt5).trans hA5
  have o6 := o2.below b6
  clear q0 q1 q2 q3 q4
  obtain ⟨q0, q1, q2, q3, q4⟩ := bbox hA6
  obtain ⟨r0, r1, r2, r3, r4⟩ := bbox hX6
  have lt6 : w.heap.size < w6.heap.size := Nat.lt_of_lt_of_le lt5 b6.size
  simp only []
  go_at_K
  go_wp2_with fail
  clear o1 b3 a3 lt3 hA3 b4 a4 lt4 hA4 b5 a5 lt5 hA5 o2 hn hB
  go_region_with (first
    | (go_at_call 20; refine (toBand_any b x y _ (hs.below a6.drew) hl hd).mono ?_; rintro e1 w7 ⟨x3, y3, rfl, o7, b7⟩; replace b7 := (Below.refl _ w6).drew.trans b7; have hX7 := (b7.block _ ltx).trans hX6; obtain ⟨y0, y1, y2, y3, y4⟩ := bbox hX7; obtain ⟨p3, c3, rfl⟩ := o7.1.form; obtain ⟨p3', c3', rfl⟩ := o7.2.1.form; unfold baV)
    | (go_at_call 21; first | (refine (eqBand_same b _ _ _ _ w7 (o6.below b7).sl o7.sl).mono ?_; rintro e2 w8 ⟨rfl, b8⟩) | (refine (eqBand_same b _ _ _ _ w7.drew ((o6.below b7).below (Below.refl _ w7).drew).sl (o7.below (Below.refl _ w7).drew).sl).mono ?_; rintro e2 w8 ⟨rfl, b8⟩; replace b8 := (Below.refl _ w7).drew.trans b8)))
  all_goals
    go_wp2
    go_ret
    exact ⟨rfl, (a6.trans (b7.mono a6.size)).trans (b8.mono (Nat.le_trans a6.size b7.size))⟩

theorem own : ownKnob Try.prog.godebug = none := by kernel_rfl
theorem laidOut : laidOutB Try.prog = true := by kernel_rfl

set_option maxRecDepth 100000 in
theorem lifted (os : Os) (started : os.Started) (H : Type) (enc : TypeId × Value → H) :
    ReturnsInHanded {} Try.checked os 9 .any (Rows.fnExactBandFreeSpec.pre6 enc Try.prog Try.f9 Rows.fnExactBandFreeRow.domain false) (Rows.fnExactBandFreeSpec.post enc Try.prog Try.f9 false true false false) := by
  refine returnsInHanded_of_change (C := Try.checked) own started (by kernel_rfl) Try.func9
    (ChangeSpec.witness6 (enc := enc) (C := Try.checked) false ⟨#[], #[.agg #[.int .i64 0, .int .i64 0, .int .i64 0, .slice none 0 0, .slice none 0 0], .int .i64 0], []⟩ 8 (by kernel_rfl) (by kernel_rfl) (by kernel_rfl) (by kernel_rfl)) ?_
  intro W base args ds gs before hval0 hW hcnd _
  have hval : ∀ (j : Nat) t v, Try.f9.params[j]? = some t → args[j]? = some v → Value.okWide Try.prog W .any base t v := hval0
  have hW' := hW
  obtain ⟨p, q, hA0, hV, rfl, hfz, hnd⟩ := hW
  have hA : DataW.TrodAll enc Try.prog W 0 (fun _ => true) true Try.f9.params.toList args.toList ds p := hA0
  rw [Try.params9] at hA hval
  obtain ⟨v0, vs0, d0, ds0, p0, q0, hargs, rfl, rfl, h0, r0⟩ := trodAll_cons hA
  obtain ⟨v1, vs1, d1, ds1, p1, q1, rfl, rfl, rfl, h1, r1⟩ := trodAll_cons r0
  obtain ⟨rfl, rfl, rfl⟩ := trodAll_nil r1
  obtain rfl : args = #[v0, v1] := by cases args; simp_all
  obtain ⟨rfl, rfl⟩ := trodVars_none hV
  have k0 := h0
  have lt0 : ∀ x ∈ p0, x.block < W.heap.size := by obtain ⟨m, hm⟩ := k0; exact DataW.trod_lt m _ _ _ hm
  obtain ⟨u0, sx0, sy0, rfl, s0, w0⟩ := open_band (hval 0 39 v0 rfl rfl) h0
  obtain ⟨a1, rfl, rfl, rfl, w1⟩ := open_int Try.underlying3 (hval 1 3 v1 rfl rfl) h1
  clear hA0 hval0
  refine (walk u0 sx0 sy0 a1 W s0 w0 w1).mono fun e W' ⟨he, bel⟩ => ?_
  subst he
  exact ⟨_, rfl, _, _, _, [], _, [], hW', trodAll_mk1 (shut_bool Try.underlying4 _), (trodAll_cons_mk (Below.trod laidOut (by kernel_rfl) (of_decide_eq_true (by kernel_rfl)) k0 bel lt0) (trodAll_cons_mk (shut_int Try.underlying3 w1) trodAll_mk0)), rfl, bel.frame _, fun h => by cases h⟩

theorem over : Rows.fnExactBandFreeRow.holds Try.pinned (OpenSpec.ofChange Rows.fnExactBandFreeSpec) :=
  OpenClaim.holds_of_wide 9 Try.f9 rfl rfl rfl rfl rfl rfl rfl ⟨rfl, rfl, rfl, rfl, rfl⟩ rfl rfl rfl rfl rfl (by kernel_rfl) Try.func9 (by kernel_rfl)
    (of_decide_eq_true (by kernel_rfl)) (by unfold Func.isWrapper; first | (rw [if_pos (by decide +kernel)]; kernel_rfl) | (rw [if_neg (by decide +kernel)]; exact ⟨rfl, rfl⟩))
    (fun os started H enc _ => lifted os started H enc)

end Go.Proofs.Ytljjgebkieffpaa.fnExactBandFree
namespace Go.Proofs.Ytljjgebkieffpaa
theorem fnExactBandFree_holds : Rows.FnExactBandFreeSaid := fnExactBandFree.over
#print axioms fnExactBandFree_holds
end Go.Proofs.Ytljjgebkieffpaa
