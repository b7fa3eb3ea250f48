/- Proved: CpuPull, both sides, no condition of its own. -/
import Derived.Test.YtnmmglkigiakaaaGreatE00
import Derived.WalkKit
import Derived.ProofKit
import Derived.OpenShut
import Derived.ShutString
import Derived.ChangeOld
import Derived.Below
namespace Go.Proofs.YtnmmglkigiakaaaGreat.fnExactCpuPull
open Go.ChangeShapes Go.WideShapes Go.ChangeAt Go.RowKit
open Go.ChangeMaps (open_string shut_string)
set_option linter.unusedVariables false

set_option maxHeartbeats 16000000 in
set_option maxRecDepth 20000 in
theorem walk (u0 : Wv) (a1 : Int) (w : World) (hs : SlW w u0) (hw : (Lit.int .i64 u0.now).wf = true) (hn : ∀ a ∈ u0.gs, a.d.na.size ≤ maxLen ∧ (Lit.int .i64 a.d.pa).wf = true) (hw1 : (Lit.int .i64 a1).wf = true) :
    Calls Tryz.prog 4 #[wvV u0, .int .i64 a1] w fun e w' => e = .returned (.bool true) ∧ Below w.heap.size w w' := by
  have hsz : ∀ W, SlW W u0 → Calls Tryz.prog 11 #[wvV u0, .int .i64 1048576] W fun e w' => (∃ n : Int, e = .returned (.int .i64 n) ∧ ((n < 0 ∧ n = -1) ∨ (0 ≤ n ∧ WFit u0 ∧ n + u0.cs.length + u0.ts.length + u0.gs.length + gsW (gsD u0.gs) = 1048576))) ∧ Below W.heap.size W w' := fun W h => szWorld_any u0 W h (fun v hv => (hn v hv).1)
  have hto : ∀ W, SlW W u0 → WFit u0 → Calls Tryz.prog 13 #[wvV u0] W fun e w' => ∃ u', e = .returned (wvV u') ∧ SameW u0 u' ∧ OwnW W.heap.size w' u' ∧ Below W.heap.size W w' := fun W h1 h2 => toWorld_own u0 W h1 h2
  obtain ⟨p1, l1, c1, p2, l2, c2, p3, l3, c3, e1, e2, e3, hv⟩ := wv_form hs
  rw [hv] at hsz hto ⊢
  obtain ⟨W1, hW1⟩ : ∃ W1, w.alloc (.cells #[.int .i64 u0.now, .slice p1 l1 c1, .slice p2 l2 c2, .slice p3 l3 c3] 26) = W1 := ⟨_, rfl⟩
  have bx : W1.heap[w.heap.size]? = some (.cells #[.int .i64 u0.now, .slice p1 l1 c1, .slice p2 l2 c2, .slice p3 l3 c3] 26 (0, 0)) := by rw [← hW1]; exact World.alloc_heap_new w _
  have acc : Below w.heap.size w W1 := by rw [← hW1]; exact (Below.refl _ _).alloc (Nat.le_refl _) _
  obtain ⟨b0, b1, b2, b3⟩ := wbox bx
  clear e1 e2 e3 hv
  go_enter Tryz.func4, Tryz.ntmps4
  go_wp2_with fail
  refine (hsz _ (hs.below acc)).mono ?_
  clear hsz hW1 b0 b1 b2 b3
  rintro e w1 ⟨⟨n, rfl, hN⟩, hb1⟩
  replace bx := below_at hb1 bx
  obtain ⟨b0, b1, b2, b3⟩ := wbox bx
  replace acc := acc.trans (hb1.mono acc.size)
  rcases hN with ⟨n1, rfl⟩ | ⟨n1, hf, _⟩
  · simp only []
    go_at_K
    go_wp2_with fail
    go_ret
    exact ⟨rfl, acc⟩
  · have n1' : ¬ n < 0 := by omega
    simp only []
    go_at_K
    go_wp2_with fail
    refine (hto _ (hs.below acc) hf).mono ?_
    clear b0 b1 b2 b3
    rintro e w2 ⟨u1, rfl, d1, new1, hb2⟩
    have f1 := hf.same d1
    replace bx := below_at hb2 bx
    replace acc := acc.trans (hb2.mono acc.size)
    simp only []
    go_at_K
    go_wp2_with fail
    refine (specPull_any a1 u1 _ new1.sl f1.2.2).mono ?_
    rintro e w3 ⟨rfl, hb3⟩
    replace bx := below_at hb3 bx
    obtain ⟨b0, b1, b2, b3⟩ := wbox bx
    replace acc := acc.trans (hb3.mono acc.size)
    rw [pullS_same d1]
    simp only []
    go_at_K
    go_wp2_with fail
    refine (hto _ (hs.below acc) hf).mono ?_
    clear b0 b1 b2 b3
    rintro e w4 ⟨u2, rfl, d2, new2, hb4⟩
    have f2 := hf.same d2
    replace bx := below_at hb4 bx
    replace acc := acc.trans (hb4.mono acc.size)
    obtain ⟨q1, m1, r1, q2, m2, r2, q3, m3, r3, g1, g2, g3, hv2⟩ := wv_form new2.sl
    rw [hv2]
    obtain ⟨X, hX⟩ : ∃ X, w4.alloc (.cells #[.int .i64 u2.now, .slice q1 m1 r1, .slice q2 m2 r2, .slice q3 m3 r3] 33) = X := ⟨_, rfl⟩
    have bX : Below w4.heap.size w4 X := by rw [← hX]; exact (Below.refl _ _).alloc (Nat.le_refl _) _
    have xx : X.heap[w4.heap.size]? = some (.cells #[.int .i64 u2.now, .slice q1 m1 r1, .slice q2 m2 r2, .slice q3 m3 r3] 33 (0, 0)) := by rw [← hX]; exact World.alloc_heap_new w4 _
    obtain ⟨x0, x1, x2, x3⟩ := wbox xx
    replace bx := below_at bX bx
    replace acc := acc.trans (bX.mono acc.size)
    have s2 : SlW X u2 := new2.sl.below bX
    have hI : ∀ W, SlW W u2 → Calls Tryz.prog 17 #[wvV u2, .int .i64 a1] W fun e w' => e = .returned (.tuple #[.int .i64 ((encB (pullS u2 a1)).1 : Int), .bool (encB (pullS u2 a1)).2]) ∧ Below W.heap.size W w' := fun W h => implPull_any a1 u2 W h f2.2.2
    have hE : ∀ W u3, SlW W u2 → SlW W u3 → SameW u2 u3 → Calls Tryz.prog 15 #[wvV u2, wvV u3] W fun e w' => e = .returned (.bool true) ∧ Below W.heap.size W w' := fun W u3 h1 h2 h3 => eqWorld_same u2 u3 W h1 h2 h3
    rw [hv2] at hI hE
    clear g1 g2 g3 hv2 new2
    simp only []
    go_at_K
    go_wp2_with fail
    refine (hI _ s2).mono ?_
    clear hI hX x0 x1 x2 x3
    rintro e w5 ⟨rfl, hb5⟩
    replace bx := below_at hb5 bx
    replace xx := below_at hb5 xx
    replace s2 := s2.below hb5
    obtain ⟨b0, b1, b2, b3⟩ := wbox bx
    obtain ⟨x0, x1, x2, x3⟩ := wbox xx
    replace acc := acc.trans (hb5.mono acc.size)
    rw [pullS_same d2]
    simp only []
    go_at_K
    go_wp2_with fail
    go_region_with (first
      | (go_at_call 13; refine (hto _ (hs.below acc.drew) hf).mono ?_; rintro e w6 ⟨u3, rfl, d3, new3, hb6⟩; replace hb6 := (Below.refl _ w5).drew.trans hb6; have xx6 := below_at hb6 xx; obtain ⟨y0, y1, y2, y3⟩ := wbox xx6; obtain ⟨k1, n1, j1, k2, n2, j2, k3, n3, j3, i1, i2, i3, hv3⟩ := wv_form new3.sl; rw [hv3])
      | (go_at_call 15; first | (have hq := hE w6 u3 (s2.below hb6) new3.sl (d2.symm.trans d3); rw [hv3] at hq; refine hq.mono ?_; rintro e2 w7 ⟨rfl, hb7⟩) | (have hq := hE w6.drew u3 ((s2.below hb6).below (Below.refl _ w6).drew) (new3.sl.below (Below.refl _ w6).drew) (d2.symm.trans d3); rw [hv3] at hq; refine hq.mono ?_; rintro e2 w7 ⟨rfl, hb7⟩; replace hb7 := (Below.refl _ w6).drew.trans hb7)))
    all_goals
      go_wp2
      go_ret
      exact ⟨rfl, (acc.trans (hb6.mono acc.size)).trans (hb7.mono (Nat.le_trans acc.size hb6.size))⟩

theorem own : ownKnob Tryz.prog.godebug = none := by kernel_rfl
theorem laidOut : laidOutB Tryz.prog = true := by kernel_rfl

set_option maxRecDepth 100000 in
theorem lifted (os : Os) (started : os.Started) (H : Type) (enc : TypeId × Value → H) :
    ReturnsInHanded {} Tryz.checked os 4 .any (Rows.fnExactCpuPullSpec.pre6 enc Tryz.prog Tryz.f4 Rows.fnExactCpuPullRow.domain false) (Rows.fnExactCpuPullSpec.post enc Tryz.prog Tryz.f4 false true false false) := by
  refine returnsInHanded_of_change (C := Tryz.checked) own started (by kernel_rfl) Tryz.func4
    (ChangeSpec.witness6 (enc := enc) (C := Tryz.checked) false ⟨#[], #[.agg #[.int .i64 0, .slice none 0 0, .slice none 0 0, .slice none 0 0], .int .i64 0], []⟩ 8 (by kernel_rfl) (by kernel_rfl) (by kernel_rfl) (by kernel_rfl)) ?_
  intro W base args ds gs before hval0 hW hcnd _
  have hval : ∀ (j : Nat) t v, Tryz.f4.params[j]? = some t → args[j]? = some v → Value.okWide Tryz.prog W .any base t v := hval0
  have hW' := hW
  obtain ⟨p, q, hA0, hV, rfl, hfz, hnd⟩ := hW
  have hA : DataW.TrodAll enc Tryz.prog W 0 (fun _ => true) true Tryz.f4.params.toList args.toList ds p := hA0
  rw [Tryz.params4] at hA hval
  obtain ⟨v0, vs0, d0, ds0, p0, q0, hargs, rfl, rfl, h0, r0⟩ := trodAll_cons hA
  obtain ⟨v1, vs1, d1, ds1, p1, q1, rfl, rfl, rfl, h1, r1⟩ := trodAll_cons r0
  obtain ⟨rfl, rfl, rfl⟩ := trodAll_nil r1
  obtain rfl : args = #[v0, v1] := by cases args; simp_all
  obtain ⟨rfl, rfl⟩ := trodVars_none hV
  have k0 := h0
  have lt0 : ∀ x ∈ p0, x.block < W.heap.size := by obtain ⟨m, hm⟩ := k0; exact DataW.trod_lt m _ _ _ hm
  obtain ⟨u0, rfl, s0, w0, n0⟩ := open_world (hval 0 26 v0 rfl rfl) h0
  obtain ⟨a1, rfl, rfl, rfl, w1⟩ := open_int Tryz.underlying3 (hval 1 3 v1 rfl rfl) h1
  clear hA0 hval0
  refine (walk u0 a1 W s0 w0 n0 w1).mono fun e W' ⟨he, bel⟩ => ?_
  subst he
  exact ⟨_, rfl, _, _, _, [], _, [], hW', trodAll_mk1 (shut_bool Tryz.underlying4 _), (trodAll_cons_mk (Below.trod laidOut (by kernel_rfl) (of_decide_eq_true (by kernel_rfl)) k0 bel lt0) (trodAll_cons_mk (shut_int Tryz.underlying3 w1) trodAll_mk0)), rfl, bel.frame _, fun h => by cases h⟩

theorem over : Rows.fnExactCpuPullRow.holds Tryz.pinned (OpenSpec.ofChange Rows.fnExactCpuPullSpec) :=
  OpenClaim.holds_of_wide 4 Tryz.f4 rfl rfl rfl rfl rfl rfl rfl ⟨rfl, rfl, rfl, rfl, rfl⟩ rfl rfl rfl rfl rfl (by kernel_rfl) Tryz.func4 (by kernel_rfl)
    (of_decide_eq_true (by kernel_rfl)) (by unfold Func.isWrapper; first | (rw [if_pos (by decide +kernel)]; kernel_rfl) | (rw [if_neg (by decide +kernel)]; exact ⟨rfl, rfl⟩))
    (fun os started H enc _ => lifted os started H enc)

end Go.Proofs.YtnmmglkigiakaaaGreat.fnExactCpuPull
namespace Go.Proofs.YtnmmglkigiakaaaGreat
theorem fnExactCpuPull_holds : Rows.FnExactCpuPullSaid := fnExactCpuPull.over
#print axioms fnExactCpuPull_holds
end Go.Proofs.YtnmmglkigiakaaaGreat
