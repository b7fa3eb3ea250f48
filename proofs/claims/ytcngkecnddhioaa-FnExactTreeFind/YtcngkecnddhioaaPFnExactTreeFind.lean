/- Proved: at every argument the program's function TreeFind answers as the specification's, and the groups are as they were behind the call; no condition beyond the statement's own. -/
import Derived.Test.YtcngkecnddhioaaTFS
import Derived.WalkKit
import Derived.ProofKit
import Derived.OpenShut
import Derived.ShutString
import Derived.ChangeOld
import Derived.Below
namespace Go.Proofs.Ytcngkecnddhioaa.fnExactTreeFind
open Go.ChangeShapes Go.WideShapes Go.ChangeAt Go.RowKit
open Go.ChangeMaps (open_string shut_string)
set_option linter.unusedVariables false

set_option maxHeartbeats 8000000 in
theorem walk (v0 : Value) (u0 : List Gv) (a1 : ByteArray) (w : World) (hs : SlG w v0 u0) (hn : ∀ a ∈ u0, a.d.na.size ≤ maxLen ∧ (Lit.int .i64 a.d.pa).wf = true) (_ : a1.size ≤ maxLen) :
    Calls Try.prog 6 #[v0, .string a1] w fun e w' => e = .returned (.bool true) ∧ Below w.heap.size w w' := by
  by_cases hbig : (1048576 : Int) < (a1.size : Int)
  · clear hs hn
    go_enter Try.func6, Try.ntmps6
    go_wp2
    go_ret
    exact ⟨rfl, Below.refl _ _⟩
  have hz : a1.size ≤ 1048576 := by omega
  have hsz := szGroupS_any v0 u0 w hs (fun v hv => (hn v hv).1)
  go_enter Try.func6, Try.ntmps6
  go_wp2_with fail
  refine hsz.mono ?_
  clear hsz
  rintro e w1 ⟨⟨n, rfl, hN⟩, acc⟩
  rcases hN with ⟨n1, rfl⟩ | ⟨n1, n2, hf⟩
  · simp only []
    go_at_K
    go_wp2_with fail
    go_ret
    exact ⟨rfl, acc⟩
  · have n1' : ¬ n < 0 := by omega
    simp only []
    go_at_K
    go_wp2_with fail
    refine (toGroupS_any v0 u0 _ (hs.below acc) hf).mono ?_
    rintro e w2 ⟨y1, s1, rfl, d1, new1, hb2⟩
    replace acc := acc.trans (hb2.mono acc.size)
    simp only []
    go_at_K
    go_wp2_with fail
    refine (spec_find y1 s1 a1 _ (new1.sl (hf.of_same d1)) (hf.of_same d1)).mono ?_
    rintro e w3 ⟨rfl, hb3⟩
    replace acc := acc.trans (hb3.mono acc.size)
    rw [d1]
    simp only []
    go_at_K
    go_wp2_with fail
    refine (toGroupS_any v0 u0 _ (hs.below acc) hf).mono ?_
    rintro e w4 ⟨y2, s2, rfl, d2, new2, hb4⟩
    replace acc := acc.trans (hb4.mono acc.size)
    simp only []
    go_at_K
    go_wp2_with fail
    refine (impl_find y2 s2 a1 _ (new2.sl (hf.of_same d2)) (hf.of_same d2) hz).mono ?_
    rintro e w5 ⟨rfl, hb5⟩
    replace acc := acc.trans (hb5.mono acc.size)
    have new2' := new2.below hb5
    rw [d2]
    simp only []
    go_at_K
    go_wp2_with fail
    refine (toGroupS_any v0 u0 _ (hs.below acc) hf).mono ?_
    rintro e w6 ⟨y3, s3, rfl, d3, new3, hb6⟩
    replace acc := acc.trans (hb6.mono acc.size)
    simp only []
    go_at_K
    go_wp2_with fail
    refine (eqGroupS_same y2 y3 s2 s3 _ ((new2'.below hb6).sl (hf.of_same d2)) (new3.sl (hf.of_same d3)) (d3.trans d2.symm)).mono ?_
    rintro e w7 ⟨rfl, hb7⟩
    replace acc := acc.trans (hb7.mono acc.size)
    simp only []
    go_at_K
    go_wp2_with fail
    go_ret
    exact ⟨rfl, acc⟩

theorem own : ownKnob Try.prog.godebug = none := by kernel_rfl
theorem laidOut : laidOutB Try.prog = true := by kernel_rfl

set_option maxRecDepth 100000 in
theorem lifted (os : Os) (started : os.Started) (H : Type) (enc : TypeId × Value → H) :
    ReturnsInHanded {} Try.checked os 6 .any (Rows.fnExactTreeFindSpec.pre6 enc Try.prog Try.f6 Rows.fnExactTreeFindRow.domain false) (Rows.fnExactTreeFindSpec.post enc Try.prog Try.f6 false true false false) := by
  refine returnsInHanded_of_change (C := Try.checked) own started (by kernel_rfl) Try.func6
    (ChangeSpec.witness6 (enc := enc) (C := Try.checked) false ⟨#[], #[.slice none 0 0, .string ByteArray.empty], []⟩ 8 (by kernel_rfl) (by kernel_rfl) (by kernel_rfl) (by kernel_rfl)) ?_
  intro W base args ds gs before hval0 hW hcnd _
  have hval : ∀ (j : Nat) t v, Try.f6.params[j]? = some t → args[j]? = some v → Value.okWide Try.prog W .any base t v := hval0
  have hW' := hW
  obtain ⟨p, q, hA0, hV, rfl, hfz, hnd⟩ := hW
  have hA : DataW.TrodAll enc Try.prog W 0 (fun _ => true) true Try.f6.params.toList args.toList ds p := hA0
  rw [Try.params6] at hA hval
  obtain ⟨v0, vs0, d0, ds0, p0, q0, hargs, rfl, rfl, h0, r0⟩ := trodAll_cons hA
  obtain ⟨v1, vs1, d1, ds1, p1, q1, rfl, rfl, rfl, h1, r1⟩ := trodAll_cons r0
  obtain ⟨rfl, rfl, rfl⟩ := trodAll_nil r1
  obtain rfl : args = #[v0, v1] := by cases args; simp_all
  obtain ⟨rfl, rfl⟩ := trodVars_none hV
  have k0 := h0
  have lt0 : ∀ x ∈ p0, x.block < W.heap.size := by obtain ⟨m, hm⟩ := k0; exact DataW.trod_lt m _ _ _ hm
  obtain ⟨u0, s0, n0⟩ := open_groups (hval 0 22 v0 rfl rfl) h0
  obtain ⟨a1, rfl, rfl, rfl, w1⟩ := open_string Try.underlying9 (hval 1 9 v1 rfl rfl) h1
  clear hA0 hval0
  refine (walk v0 u0 a1 W s0 n0 w1).mono fun e W' ⟨he, bel⟩ => ?_
  subst he
  exact ⟨_, rfl, _, _, _, [], _, [], hW', trodAll_mk1 (shut_bool Try.underlying4 _), (trodAll_cons_mk (Below.trod laidOut (by kernel_rfl) (of_decide_eq_true (by kernel_rfl)) k0 bel lt0) (trodAll_cons_mk (shut_string Try.underlying9 w1) trodAll_mk0)), rfl, bel.frame _, fun h => by cases h⟩

theorem over : Rows.fnExactTreeFindRow.holds Try.pinned (OpenSpec.ofChange Rows.fnExactTreeFindSpec) :=
  OpenClaim.holds_of_wide 6 Try.f6 rfl rfl rfl rfl rfl rfl rfl ⟨rfl, rfl, rfl, rfl, rfl⟩ rfl rfl rfl rfl rfl (by kernel_rfl) Try.func6 (by kernel_rfl)
    (of_decide_eq_true (by kernel_rfl)) (by unfold Func.isWrapper; first | (rw [if_pos (by decide +kernel)]; kernel_rfl) | (rw [if_neg (by decide +kernel)]; exact ⟨rfl, rfl⟩))
    (fun os started H enc _ => lifted os started H enc)

end Go.Proofs.Ytcngkecnddhioaa.fnExactTreeFind
namespace Go.Proofs.Ytcngkecnddhioaa
theorem fnExactTreeFind_holds : Rows.FnExactTreeFindSaid := fnExactTreeFind.over
#print axioms fnExactTreeFind_holds
end Go.Proofs.Ytcngkecnddhioaa
