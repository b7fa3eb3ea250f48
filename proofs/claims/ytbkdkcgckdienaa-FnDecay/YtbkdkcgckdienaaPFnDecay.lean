/- Proved: for every row of bytes the law on loads that decay answers true, and what came in reads as it did; no condition beyond the statement's own. -/
import Derived.Test.YtbkdkcgckdienaaDD
import Derived.WalkKit
import Derived.ProofKit
import Derived.OpenShut
import Derived.ShutString
import Derived.ChangeOld
import Derived.Below
namespace Go.Proofs.Ytbkdkcgckdienaa.fnDecay
open Go.ChangeShapes Go.WideShapes Go.ChangeAt Go.RowKit
open Go.ChangeMaps (open_string shut_string)
set_option linter.unusedVariables false

theorem beatsN_top (l u : Int) (h0 : 0 ≤ l) (h1 : l ≤ 8 * u) (h2 : 0 ≤ u) (h3 : u ≤ 1000000) (k : Nat) : 0 ≤ beatsN l u k ∧ beatsN l u k ≤ 8 * u := by
  induction k with
  | zero => exact ⟨h0, h1⟩
  | succ k ih =>
    show 0 ≤ beat (beatsN l u k) u ∧ beat (beatsN l u k) u ≤ 8 * u
    unfold beat; rw [if_pos (by omega)]; omega
theorem beatsN_fall (l : Int) (h0 : 0 ≤ l) (h1 : l ≤ 8000000) (k : Nat) : 0 ≤ beatsN l 0 k ∧ beatsN l 0 k ≤ l := by
  induction k with
  | zero => exact ⟨h0, Int.le_refl _⟩
  | succ k ih =>
    show 0 ≤ beat (beatsN l 0 k) 0 ∧ beat (beatsN l 0 k) 0 ≤ l
    unfold beat; rw [if_pos (by omega)]; omega
theorem ways1 (l u n : Int) (h0 : 0 ≤ l) (h2 : 0 ≤ u) (h3 : u ≤ 1000000) : (¬ l ≤ dtop u) ∨ (l ≤ dtop u ∧ ¬ 0 ≤ n) ∨ (l ≤ dtop u ∧ 0 ≤ n ∧ ¬ n ≤ 20) ∨ (l ≤ dtop u ∧ 0 ≤ n ∧ n ≤ 20 ∧ ¬ dtop u < beats l u n) := by
  have e : dtop u = 8 * u := by unfold dtop; rw [if_pos ⟨h2, h3⟩]
  rw [e]
  by_cases a : l ≤ 8 * u
  · by_cases b : 0 ≤ n
    · by_cases c : n ≤ 20
      · refine .inr (.inr (.inr ⟨a, b, c, ?_⟩))
        have := beatsN_top l u h0 a h2 h3 n.toNat
        unfold beats; rw [if_pos (by omega)]; omega
      · exact .inr (.inr (.inl ⟨a, b, c⟩))
    · exact .inr (.inl ⟨a, b⟩)
  · exact .inl a
theorem ways2 (l u n : Int) (h0 : 0 ≤ l) : (u == 0) = false ∨ ((u == 0) = true ∧ ¬ l < beats l u n) := by
  by_cases a : u = 0
  · refine .inr ⟨by simp [a], ?_⟩
    subst a
    unfold beats
    split
    · rename_i h; have := beatsN_fall l h0 h.2.2.2 n.toNat; omega
    · omega
  · exact .inl (by simpa using a)
theorem ways3 (l u n : Int) (h0 : 0 ≤ l) : (n != 1) = true ∨ ((n != 1) = false ∧ 8000000 < l) ∨ ((n != 1) = false ∧ ¬ 8000000 < l ∧ (beats l u n == beat l u) = true) := by
  by_cases a : n = 1
  · by_cases b : 8000000 < l
    · exact .inr (.inl ⟨by simp [a], b⟩)
    · refine .inr (.inr ⟨by simp [a], b, ?_⟩)
      subst a
      unfold beats; rw [if_pos (by omega)]
      simp [beatsN]
  · exact .inl (by simpa using a)

set_option maxRecDepth 100000 in
set_option maxHeartbeats 8000000 in
theorem walk (a0 : Option Addr) (len0 cap0 : Nat) (z0 : List Int) (w : World) (w0 : IsRow .u8 w a0 len0 cap0 z0) :
    Calls Try.prog 4 #[.slice a0 len0 cap0] w fun e w' => e = .returned (.bool true) ∧ Below w.heap.size w w' := by
  have acc := Below.refl w.heap.size w
  by_cases g0 : (1048576 : Int) < (len0 : Int)
  · clear w0
    go_enter Try.func4, Try.ntmps4
    go_wp2
    go_ret
    exact ⟨rfl, acc⟩
  go_enter Try.func4, Try.ntmps4
  go_wp2_with fail
  refine (draw_beats a0 len0 cap0 z0 _ w0).mono ?_
  rintro e y1 ⟨l, u, n, rfl, l1, l2, u1, u2, n1, n2, hb1⟩
  replace acc := acc.trans (hb1.mono acc.size); clear hb1
  clear w0
  go_wp2_with fail
  have W2 := ways2 l u n l1
  have W3 := ways3 l u n l1
  rcases ways1 l u n l1 u1 u2 with p1 | ⟨p1, p2⟩ | ⟨p1, p2, p3⟩ | ⟨p1, p2, p3, p4⟩ <;> rcases W2 with q1 | ⟨q1, q2⟩ <;> rcases W3 with r1 | ⟨r1, r2⟩ | ⟨r1, r2, r3⟩
  all_goals as_aux_lemma =>
    go_wp2_with (first | (go_at_call 25; refine (impl_beats _ _ _ _).mono ?_; rintro e w1 ⟨rfl, hb1⟩; replace acc := acc.trans (hb1.mono acc.size); clear hb1) | (go_at_call 26; refine (spec_beats _ _ _ _).mono ?_; rintro e w1 ⟨rfl, rfl⟩) | (go_at_call 27; refine (impl_dtop _ _).mono ?_; rintro e w1 ⟨rfl, hb1⟩; replace acc := acc.trans (hb1.mono acc.size); clear hb1) | (go_at_call 28; refine (impl_beat _ _ _).mono ?_; rintro e w1 ⟨rfl, hb1⟩; replace acc := acc.trans (hb1.mono acc.size); clear hb1) | (go_at_call 29; refine (spec_beat _ _ _).mono ?_; rintro e w1 ⟨rfl, rfl⟩))
    go_ret
    exact ⟨rfl, acc⟩

theorem own : ownKnob Try.prog.godebug = none := by kernel_rfl
theorem laidOut : laidOutB Try.prog = true := by kernel_rfl

set_option maxRecDepth 100000 in
theorem lifted (os : Os) (started : os.Started) (H : Type) (enc : TypeId × Value → H) :
    ReturnsInHanded {} Try.checked os 4 .any (Rows.fnDecaySpec.pre6 enc Try.prog Try.f4 Rows.fnDecayRow.domain false) (Rows.fnDecaySpec.post enc Try.prog Try.f4 false true false false) := by
  refine returnsInHanded_of_change (C := Try.checked) own started (by kernel_rfl) Try.func4
    (ChangeSpec.witness6 (enc := enc) (C := Try.checked) false ⟨#[], #[.slice none 0 0], []⟩ 8 (by kernel_rfl) (by kernel_rfl) (by kernel_rfl) (by kernel_rfl)) ?_
  intro W base args ds gs before hval0 hW hcnd _
  have hval : ∀ (j : Nat) t v, Try.f4.params[j]? = some t → args[j]? = some v → Value.okWide Try.prog W .any base t v := hval0
  have hW' := hW
  obtain ⟨p, q, hA0, hV, rfl, hfz, hnd⟩ := hW
  have hA : DataW.TrodAll enc Try.prog W 0 (fun _ => true) true Try.f4.params.toList args.toList ds p := hA0
  rw [Try.params4] at hA hval
  obtain ⟨v0, vs0, d0, ds0, p0, q0, hargs, rfl, rfl, h0, r0⟩ := trodAll_cons hA
  obtain ⟨rfl, rfl, rfl⟩ := trodAll_nil r0
  obtain rfl : args = #[v0] := by cases args; simp_all
  obtain ⟨rfl, rfl⟩ := trodVars_none hV
  obtain ⟨a0, len0, cap0, rfl⟩ := okWide_slice Try.underlying22 (hval 0 22 v0 rfl rfl)
  have k0 := h0
  have lt0 : ∀ x ∈ p0, x.block < W.heap.size := by obtain ⟨m, hm⟩ := k0; exact DataW.trod_lt m _ _ _ hm
  obtain ⟨z0, w0⟩ : ∃ zs, IsRow .u8 W a0 len0 cap0 zs := by
    obtain ⟨fuel, hf⟩ := h0
    rcases open_ints Try.underlying22 Try.underlying5 (by kernel_rfl) hf with ⟨hcs, _⟩ | ⟨x, l, c, zs, hcs, _, hl, hm, hz, _, hcell, hwz⟩
    · simp [Value.cells] at hcs
      obtain ⟨rfl, rfl, rfl⟩ := hcs
      exact ⟨[], .inl ⟨rfl, rfl, rfl, rfl⟩⟩
    · simp [Value.cells] at hcs
      obtain ⟨rfl, rfl, rfl⟩ := hcs
      exact ⟨zs, .inr ⟨_, rfl, hl, hm, by simpa using hz, hcell, hwz⟩⟩
  clear hA0 hval0
  refine (walk a0 len0 cap0 z0 W w0).mono fun e W' ⟨he, bel⟩ => ?_
  subst he
  exact ⟨_, rfl, _, _, _, [], _, [], hW', trodAll_mk1 (shut_bool Try.underlying4 _), (trodAll_cons_mk (Below.trod laidOut (by kernel_rfl) (of_decide_eq_true (by kernel_rfl)) k0 bel lt0) trodAll_mk0), rfl, bel.frame _, fun h => by cases h⟩

theorem over : Rows.fnDecayRow.holds Try.pinned (OpenSpec.ofChange Rows.fnDecaySpec) :=
  OpenClaim.holds_of_wide 4 Try.f4 rfl rfl rfl rfl rfl rfl rfl ⟨rfl, rfl, rfl, rfl, rfl⟩ rfl rfl rfl rfl rfl (by kernel_rfl) Try.func4 (by kernel_rfl)
    (of_decide_eq_true (by kernel_rfl)) (by unfold Func.isWrapper; first | (rw [if_pos (by decide +kernel)]; kernel_rfl) | (rw [if_neg (by decide +kernel)]; exact ⟨rfl, rfl⟩))
    (fun os started H enc _ => lifted os started H enc)

end Go.Proofs.Ytbkdkcgckdienaa.fnDecay
namespace Go.Proofs.Ytbkdkcgckdienaa
theorem fnDecay_holds : Rows.FnDecaySaid := fnDecay.over
#print axioms fnDecay_holds
end Go.Proofs.Ytbkdkcgckdienaa
