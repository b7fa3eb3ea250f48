/- Proved: for every two rows of bytes the law on weights and virtual time answers true, and what came in reads as it did; no condition beyond the statement's own. -/
import Derived.Test.YtbkdkcgckdienaaDV
import Derived.WalkKit
import Derived.ProofKit
import Derived.OpenShut
import Derived.ShutString
import Derived.ChangeOld
import Derived.Below
namespace Go.Proofs.Ytbkdkcgckdienaa.fnWeights
open Go.ChangeShapes Go.WideShapes Go.ChangeAt Go.RowKit
open Go.ChangeMaps (open_string shut_string)
set_option linter.unusedVariables false

set_option maxRecDepth 100000 in
set_option maxHeartbeats 8000000 in
theorem walk (a0 : Option Addr) (len0 cap0 : Nat) (z0 : List Int) (a1 : Option Addr) (len1 cap1 : Nat) (z1 : List Int) (w : World) (w0 : IsRow .u8 w a0 len0 cap0 z0) (w1 : IsRow .u8 w a1 len1 cap1 z1) :
    Calls Try.prog 3 #[.slice a0 len0 cap0, .slice a1 len1 cap1] w fun e w' => e = .returned (.bool true) ∧ Below w.heap.size w w' := by
  have acc := Below.refl w.heap.size w
  by_cases g0 : (1048576 : Int) < (len0 : Int)
  · clear w0 w1
    go_enter Try.func3, Try.ntmps3
    go_wp2
    go_ret
    exact ⟨rfl, acc⟩
  by_cases g1 : (1048576 : Int) < (len1 : Int)
  · clear w0 w1
    go_enter Try.func3, Try.ntmps3
    go_wp2
    go_ret
    exact ⟨rfl, acc⟩
  go_enter Try.func3, Try.ntmps3
  go_wp2_with fail
  refine (draw_vstep a0 len0 cap0 z0 _ (w0.below acc)).mono ?_
  rintro e y1 ⟨n, u, rfl, n1, n2, u1, u2, hb1⟩
  replace acc := acc.trans (hb1.mono acc.size); clear hb1
  go_wp2_with fail
  refine (draw_vstep a1 len1 cap1 z1 _ (w1.below acc)).mono ?_
  rintro e y2 ⟨m, u', rfl, m1, m2, u1', u2', hb1⟩
  replace acc := acc.trans (hb1.mono acc.size); clear hb1
  clear w1 u1' u2'
  go_wp2_with fail
  have hv := vstep_bd n u
  by_cases v0 : 0 < vstep n u
  · obtain ⟨e1, e2, e3, e4, e5, e6⟩ := vunits_step v0
    have n0 : 0 ≤ n := by omega
    by_cases m0 : 0 ≤ m
    · by_cases mn : m + n ≤ 100000000
      · have e7 := vstep_add (u := u) m0 n0 mn
        have e8 := vstep_bd (m + n) u
        go_wp2_with (first | (go_at_call 15; refine (impl_vstep _ _ _).mono ?_; rintro e w1 ⟨rfl, hb1⟩; replace acc := acc.trans (hb1.mono acc.size); clear hb1) | (go_at_call 16; refine (spec_vstep _ _ _).mono ?_; rintro e w1 ⟨rfl, rfl⟩) | (go_at_call 17; refine (impl_vunits _ _ _).mono ?_; rintro e w1 ⟨rfl, hb1⟩; replace acc := acc.trans (hb1.mono acc.size); clear hb1))
        refine (draw_lagcut a0 len0 cap0 z0 _ (w0.below acc)).mono ?_
        rintro e w2 ⟨l, s, rfl, l1, l2, s1, s2, hb1⟩
        replace acc := acc.trans (hb1.mono acc.size); clear hb1
        clear n1 n2 u1 u2 m1 m2 hv v0
        obtain ⟨k1, k2, k3⟩ := lagcut_facts l s
        have k4 : ¬ lagcut l s < 0 := by omega
        have k5 : ¬ vstep 149 s < lagcut l s := by omega
        clear k2 k3
        by_cases c1 : 1 ≤ s
        · by_cases c2 : s ≤ 20
          · have c3 : isWb s = true := decide_eq_true ⟨c1, c2⟩
            have c4 := wof_nofV c1 c2
            go_wp2_with (first | (go_at_call 19; refine (impl_lagcut _ _ _).mono ?_; rintro e w1 ⟨rfl, hb1⟩; replace acc := acc.trans (hb1.mono acc.size); clear hb1) | (go_at_call 20; refine (spec_lagcut _ _ _).mono ?_; rintro e w1 ⟨rfl, rfl⟩) | (go_at_call 21; refine (impl_lagmost _ _).mono ?_; rintro e w1 ⟨rfl, hb1⟩; replace acc := acc.trans (hb1.mono acc.size); clear hb1) | (go_at_call 22; refine (impl_nof _ _).mono ?_; rintro e w1 ⟨rfl, rfl⟩) | (go_at_call 23; refine (impl_wof _ _).mono ?_; rintro e w1 ⟨rfl, rfl⟩))
            go_ret
            exact ⟨rfl, acc⟩
          · have c3 : isWb s = false := decide_eq_false (by omega)
            have c4 : decide (s ≤ 20) = false := by simpa using c2
            go_wp2_with (first | (go_at_call 19; refine (impl_lagcut _ _ _).mono ?_; rintro e w1 ⟨rfl, hb1⟩; replace acc := acc.trans (hb1.mono acc.size); clear hb1) | (go_at_call 20; refine (spec_lagcut _ _ _).mono ?_; rintro e w1 ⟨rfl, rfl⟩) | (go_at_call 21; refine (impl_lagmost _ _).mono ?_; rintro e w1 ⟨rfl, hb1⟩; replace acc := acc.trans (hb1.mono acc.size); clear hb1) | (go_at_call 22; refine (impl_nof _ _).mono ?_; rintro e w1 ⟨rfl, rfl⟩) | (go_at_call 23; refine (impl_wof _ _).mono ?_; rintro e w1 ⟨rfl, rfl⟩))
            go_ret
            exact ⟨rfl, acc⟩
        · have c3 : isWb s = false := decide_eq_false (by omega)
          go_wp2_with (first | (go_at_call 19; refine (impl_lagcut _ _ _).mono ?_; rintro e w1 ⟨rfl, hb1⟩; replace acc := acc.trans (hb1.mono acc.size); clear hb1) | (go_at_call 20; refine (spec_lagcut _ _ _).mono ?_; rintro e w1 ⟨rfl, rfl⟩) | (go_at_call 21; refine (impl_lagmost _ _).mono ?_; rintro e w1 ⟨rfl, hb1⟩; replace acc := acc.trans (hb1.mono acc.size); clear hb1) | (go_at_call 22; refine (impl_nof _ _).mono ?_; rintro e w1 ⟨rfl, rfl⟩) | (go_at_call 23; refine (impl_wof _ _).mono ?_; rintro e w1 ⟨rfl, rfl⟩))
          go_ret
          exact ⟨rfl, acc⟩
      · as_aux_lemma =>
        go_wp2_with (first | (go_at_call 15; refine (impl_vstep _ _ _).mono ?_; rintro e w1 ⟨rfl, hb1⟩; replace acc := acc.trans (hb1.mono acc.size); clear hb1) | (go_at_call 16; refine (spec_vstep _ _ _).mono ?_; rintro e w1 ⟨rfl, rfl⟩) | (go_at_call 17; refine (impl_vunits _ _ _).mono ?_; rintro e w1 ⟨rfl, hb1⟩; replace acc := acc.trans (hb1.mono acc.size); clear hb1))
        refine (draw_lagcut a0 len0 cap0 z0 _ (w0.below acc)).mono ?_
        rintro e w2 ⟨l, s, rfl, l1, l2, s1, s2, hb1⟩
        replace acc := acc.trans (hb1.mono acc.size); clear hb1
        clear n1 n2 u1 u2 m1 m2 hv v0
        obtain ⟨k1, k2, k3⟩ := lagcut_facts l s
        have k4 : ¬ lagcut l s < 0 := by omega
        have k5 : ¬ vstep 149 s < lagcut l s := by omega
        clear k2 k3
        by_cases c1 : 1 ≤ s
        · by_cases c2 : s ≤ 20
          · have c3 : isWb s = true := decide_eq_true ⟨c1, c2⟩
            have c4 := wof_nofV c1 c2
            go_wp2_with (first | (go_at_call 19; refine (impl_lagcut _ _ _).mono ?_; rintro e w1 ⟨rfl, hb1⟩; replace acc := acc.trans (hb1.mono acc.size); clear hb1) | (go_at_call 20; refine (spec_lagcut _ _ _).mono ?_; rintro e w1 ⟨rfl, rfl⟩) | (go_at_call 21; refine (impl_lagmost _ _).mono ?_; rintro e w1 ⟨rfl, hb1⟩; replace acc := acc.trans (hb1.mono acc.size); clear hb1) | (go_at_call 22; refine (impl_nof _ _).mono ?_; rintro e w1 ⟨rfl, rfl⟩) | (go_at_call 23; refine (impl_wof _ _).mono ?_; rintro e w1 ⟨rfl, rfl⟩))
            go_ret
            exact ⟨rfl, acc⟩
          · have c3 : isWb s = false := decide_eq_false (by omega)
            have c4 : decide (s ≤ 20) = false := by simpa using c2
            go_wp2_with (first | (go_at_call 19; refine (impl_lagcut _ _ _).mono ?_; rintro e w1 ⟨rfl, hb1⟩; replace acc := acc.trans (hb1.mono acc.size); clear hb1) | (go_at_call 20; refine (spec_lagcut _ _ _).mono ?_; rintro e w1 ⟨rfl, rfl⟩) | (go_at_call 21; refine (impl_lagmost _ _).mono ?_; rintro e w1 ⟨rfl, hb1⟩; replace acc := acc.trans (hb1.mono acc.size); clear hb1) | (go_at_call 22; refine (impl_nof _ _).mono ?_; rintro e w1 ⟨rfl, rfl⟩) | (go_at_call 23; refine (impl_wof _ _).mono ?_; rintro e w1 ⟨rfl, rfl⟩))
            go_ret
            exact ⟨rfl, acc⟩
        · have c3 : isWb s = false := decide_eq_false (by omega)
          go_wp2_with (first | (go_at_call 19; refine (impl_lagcut _ _ _).mono ?_; rintro e w1 ⟨rfl, hb1⟩; replace acc := acc.trans (hb1.mono acc.size); clear hb1) | (go_at_call 20; refine (spec_lagcut _ _ _).mono ?_; rintro e w1 ⟨rfl, rfl⟩) | (go_at_call 21; refine (impl_lagmost _ _).mono ?_; rintro e w1 ⟨rfl, hb1⟩; replace acc := acc.trans (hb1.mono acc.size); clear hb1) | (go_at_call 22; refine (impl_nof _ _).mono ?_; rintro e w1 ⟨rfl, rfl⟩) | (go_at_call 23; refine (impl_wof _ _).mono ?_; rintro e w1 ⟨rfl, rfl⟩))
          go_ret
          exact ⟨rfl, acc⟩
    · as_aux_lemma =>
      go_wp2_with (first | (go_at_call 15; refine (impl_vstep _ _ _).mono ?_; rintro e w1 ⟨rfl, hb1⟩; replace acc := acc.trans (hb1.mono acc.size); clear hb1) | (go_at_call 16; refine (spec_vstep _ _ _).mono ?_; rintro e w1 ⟨rfl, rfl⟩) | (go_at_call 17; refine (impl_vunits _ _ _).mono ?_; rintro e w1 ⟨rfl, hb1⟩; replace acc := acc.trans (hb1.mono acc.size); clear hb1))
      refine (draw_lagcut a0 len0 cap0 z0 _ (w0.below acc)).mono ?_
      rintro e w2 ⟨l, s, rfl, l1, l2, s1, s2, hb1⟩
      replace acc := acc.trans (hb1.mono acc.size); clear hb1
      clear n1 n2 u1 u2 m1 m2 hv v0
      obtain ⟨k1, k2, k3⟩ := lagcut_facts l s
      have k4 : ¬ lagcut l s < 0 := by omega
      have k5 : ¬ vstep 149 s < lagcut l s := by omega
      clear k2 k3
      by_cases c1 : 1 ≤ s
      · by_cases c2 : s ≤ 20
        · have c3 : isWb s = true := decide_eq_true ⟨c1, c2⟩
          have c4 := wof_nofV c1 c2
          go_wp2_with (first | (go_at_call 19; refine (impl_lagcut _ _ _).mono ?_; rintro e w1 ⟨rfl, hb1⟩; replace acc := acc.trans (hb1.mono acc.size); clear hb1) | (go_at_call 20; refine (spec_lagcut _ _ _).mono ?_; rintro e w1 ⟨rfl, rfl⟩) | (go_at_call 21; refine (impl_lagmost _ _).mono ?_; rintro e w1 ⟨rfl, hb1⟩; replace acc := acc.trans (hb1.mono acc.size); clear hb1) | (go_at_call 22; refine (impl_nof _ _).mono ?_; rintro e w1 ⟨rfl, rfl⟩) | (go_at_call 23; refine (impl_wof _ _).mono ?_; rintro e w1 ⟨rfl, rfl⟩))
          go_ret
          exact ⟨rfl, acc⟩
        · have c3 : isWb s = false := decide_eq_false (by omega)
          have c4 : decide (s ≤ 20) = false := by simpa using c2
          go_wp2_with (first | (go_at_call 19; refine (impl_lagcut _ _ _).mono ?_; rintro e w1 ⟨rfl, hb1⟩; replace acc := acc.trans (hb1.mono acc.size); clear hb1) | (go_at_call 20; refine (spec_lagcut _ _ _).mono ?_; rintro e w1 ⟨rfl, rfl⟩) | (go_at_call 21; refine (impl_lagmost _ _).mono ?_; rintro e w1 ⟨rfl, hb1⟩; replace acc := acc.trans (hb1.mono acc.size); clear hb1) | (go_at_call 22; refine (impl_nof _ _).mono ?_; rintro e w1 ⟨rfl, rfl⟩) | (go_at_call 23; refine (impl_wof _ _).mono ?_; rintro e w1 ⟨rfl, rfl⟩))
          go_ret
          exact ⟨rfl, acc⟩
      · have c3 : isWb s = false := decide_eq_false (by omega)
        go_wp2_with (first | (go_at_call 19; refine (impl_lagcut _ _ _).mono ?_; rintro e w1 ⟨rfl, hb1⟩; replace acc := acc.trans (hb1.mono acc.size); clear hb1) | (go_at_call 20; refine (spec_lagcut _ _ _).mono ?_; rintro e w1 ⟨rfl, rfl⟩) | (go_at_call 21; refine (impl_lagmost _ _).mono ?_; rintro e w1 ⟨rfl, hb1⟩; replace acc := acc.trans (hb1.mono acc.size); clear hb1) | (go_at_call 22; refine (impl_nof _ _).mono ?_; rintro e w1 ⟨rfl, rfl⟩) | (go_at_call 23; refine (impl_wof _ _).mono ?_; rintro e w1 ⟨rfl, rfl⟩))
        go_ret
        exact ⟨rfl, acc⟩
  · by_cases m0 : 0 ≤ m
    · by_cases n0 : 0 ≤ n
      · by_cases mn : m + n ≤ 100000000
        · have e7 := vstep_add (u := u) m0 n0 mn
          have e8 := vstep_bd (m + n) u
          go_wp2_with (first | (go_at_call 15; refine (impl_vstep _ _ _).mono ?_; rintro e w1 ⟨rfl, hb1⟩; replace acc := acc.trans (hb1.mono acc.size); clear hb1) | (go_at_call 16; refine (spec_vstep _ _ _).mono ?_; rintro e w1 ⟨rfl, rfl⟩) | (go_at_call 17; refine (impl_vunits _ _ _).mono ?_; rintro e w1 ⟨rfl, hb1⟩; replace acc := acc.trans (hb1.mono acc.size); clear hb1))
          refine (draw_lagcut a0 len0 cap0 z0 _ (w0.below acc)).mono ?_
          rintro e w2 ⟨l, s, rfl, l1, l2, s1, s2, hb1⟩
          replace acc := acc.trans (hb1.mono acc.size); clear hb1
          clear n1 n2 u1 u2 m1 m2 hv v0
          obtain ⟨k1, k2, k3⟩ := lagcut_facts l s
          have k4 : ¬ lagcut l s < 0 := by omega
          have k5 : ¬ vstep 149 s < lagcut l s := by omega
          clear k2 k3
          by_cases c1 : 1 ≤ s
          · by_cases c2 : s ≤ 20
            · have c3 : isWb s = true := decide_eq_true ⟨c1, c2⟩
              have c4 := wof_nofV c1 c2
              go_wp2_with (first | (go_at_call 19; refine (impl_lagcut _ _ _).mono ?_; rintro e w1 ⟨rfl, hb1⟩; replace acc := acc.trans (hb1.mono acc.size); clear hb1) | (go_at_call 20; refine (spec_lagcut _ _ _).mono ?_; rintro e w1 ⟨rfl, rfl⟩) | (go_at_call 21; refine (impl_lagmost _ _).mono ?_; rintro e w1 ⟨rfl, hb1⟩; replace acc := acc.trans (hb1.mono acc.size); clear hb1) | (go_at_call 22; refine (impl_nof _ _).mono ?_; rintro e w1 ⟨rfl, rfl⟩) | (go_at_call 23; refine (impl_wof _ _).mono ?_; rintro e w1 ⟨rfl, rfl⟩))
              go_ret
              exact ⟨rfl, acc⟩
            · have c3 : isWb s = false := decide_eq_false (by omega)
              have c4 : decide (s ≤ 20) = false := by simpa using c2
              go_wp2_with (first | (go_at_call 19; refine (impl_lagcut _ _ _).mono ?_; rintro e w1 ⟨rfl, hb1⟩; replace acc := acc.trans (hb1.mono acc.size); clear hb1) | (go_at_call 20; refine (spec_lagcut _ _ _).mono ?_; rintro e w1 ⟨rfl, rfl⟩) | (go_at_call 21; refine (impl_lagmost _ _).mono ?_; rintro e w1 ⟨rfl, hb1⟩; replace acc := acc.trans (hb1.mono acc.size); clear hb1) | (go_at_call 22; refine (impl_nof _ _).mono ?_; rintro e w1 ⟨rfl, rfl⟩) | (go_at_call 23; refine (impl_wof _ _).mono ?_; rintro e w1 ⟨rfl, rfl⟩))
              go_ret
              exact ⟨rfl, acc⟩
          · have c3 : isWb s = false := decide_eq_false (by omega)
            go_wp2_with (first | (go_at_call 19; refine (impl_lagcut _ _ _).mono ?_; rintro e w1 ⟨rfl, hb1⟩; replace acc := acc.trans (hb1.mono acc.size); clear hb1) | (go_at_call 20; refine (spec_lagcut _ _ _).mono ?_; rintro e w1 ⟨rfl, rfl⟩) | (go_at_call 21; refine (impl_lagmost _ _).mono ?_; rintro e w1 ⟨rfl, hb1⟩; replace acc := acc.trans (hb1.mono acc.size); clear hb1) | (go_at_call 22; refine (impl_nof _ _).mono ?_; rintro e w1 ⟨rfl, rfl⟩) | (go_at_call 23; refine (impl_wof _ _).mono ?_; rintro e w1 ⟨rfl, rfl⟩))
            go_ret
            exact ⟨rfl, acc⟩
        · as_aux_lemma =>
          go_wp2_with (first | (go_at_call 15; refine (impl_vstep _ _ _).mono ?_; rintro e w1 ⟨rfl, hb1⟩; replace acc := acc.trans (hb1.mono acc.size); clear hb1) | (go_at_call 16; refine (spec_vstep _ _ _).mono ?_; rintro e w1 ⟨rfl, rfl⟩) | (go_at_call 17; refine (impl_vunits _ _ _).mono ?_; rintro e w1 ⟨rfl, hb1⟩; replace acc := acc.trans (hb1.mono acc.size); clear hb1))
          refine (draw_lagcut a0 len0 cap0 z0 _ (w0.below acc)).mono ?_
          rintro e w2 ⟨l, s, rfl, l1, l2, s1, s2, hb1⟩
          replace acc := acc.trans (hb1.mono acc.size); clear hb1
          clear n1 n2 u1 u2 m1 m2 hv v0
          obtain ⟨k1, k2, k3⟩ := lagcut_facts l s
          have k4 : ¬ lagcut l s < 0 := by omega
          have k5 : ¬ vstep 149 s < lagcut l s := by omega
          clear k2 k3
          by_cases c1 : 1 ≤ s
          · by_cases c2 : s ≤ 20
            · have c3 : isWb s = true := decide_eq_true ⟨c1, c2⟩
              have c4 := wof_nofV c1 c2
              go_wp2_with (first | (go_at_call 19; refine (impl_lagcut _ _ _).mono ?_; rintro e w1 ⟨rfl, hb1⟩; replace acc := acc.trans (hb1.mono acc.size); clear hb1) | (go_at_call 20; refine (spec_lagcut _ _ _).mono ?_; rintro e w1 ⟨rfl, rfl⟩) | (go_at_call 21; refine (impl_lagmost _ _).mono ?_; rintro e w1 ⟨rfl, hb1⟩; replace acc := acc.trans (hb1.mono acc.size); clear hb1) | (go_at_call 22; refine (impl_nof _ _).mono ?_; rintro e w1 ⟨rfl, rfl⟩) | (go_at_call 23; refine (impl_wof _ _).mono ?_; rintro e w1 ⟨rfl, rfl⟩))
              go_ret
              exact ⟨rfl, acc⟩
            · have c3 : isWb s = false := decide_eq_false (by omega)
              have c4 : decide (s ≤ 20) = false := by simpa using c2
              go_wp2_with (first | (go_at_call 19; refine (impl_lagcut _ _ _).mono ?_; rintro e w1 ⟨rfl, hb1⟩; replace acc := acc.trans (hb1.mono acc.size); clear hb1) | (go_at_call 20; refine (spec_lagcut _ _ _).mono ?_; rintro e w1 ⟨rfl, rfl⟩) | (go_at_call 21; refine (impl_lagmost _ _).mono ?_; rintro e w1 ⟨rfl, hb1⟩; replace acc := acc.trans (hb1.mono acc.size); clear hb1) | (go_at_call 22; refine (impl_nof _ _).mono ?_; rintro e w1 ⟨rfl, rfl⟩) | (go_at_call 23; refine (impl_wof _ _).mono ?_; rintro e w1 ⟨rfl, rfl⟩))
              go_ret
              exact ⟨rfl, acc⟩
          · have c3 : isWb s = false := decide_eq_false (by omega)
            go_wp2_with (first | (go_at_call 19; refine (impl_lagcut _ _ _).mono ?_; rintro e w1 ⟨rfl, hb1⟩; replace acc := acc.trans (hb1.mono acc.size); clear hb1) | (go_at_call 20; refine (spec_lagcut _ _ _).mono ?_; rintro e w1 ⟨rfl, rfl⟩) | (go_at_call 21; refine (impl_lagmost _ _).mono ?_; rintro e w1 ⟨rfl, hb1⟩; replace acc := acc.trans (hb1.mono acc.size); clear hb1) | (go_at_call 22; refine (impl_nof _ _).mono ?_; rintro e w1 ⟨rfl, rfl⟩) | (go_at_call 23; refine (impl_wof _ _).mono ?_; rintro e w1 ⟨rfl, rfl⟩))
            go_ret
            exact ⟨rfl, acc⟩
      · as_aux_lemma =>
        go_wp2_with (first | (go_at_call 15; refine (impl_vstep _ _ _).mono ?_; rintro e w1 ⟨rfl, hb1⟩; replace acc := acc.trans (hb1.mono acc.size); clear hb1) | (go_at_call 16; refine (spec_vstep _ _ _).mono ?_; rintro e w1 ⟨rfl, rfl⟩) | (go_at_call 17; refine (impl_vunits _ _ _).mono ?_; rintro e w1 ⟨rfl, hb1⟩; replace acc := acc.trans (hb1.mono acc.size); clear hb1))
        refine (draw_lagcut a0 len0 cap0 z0 _ (w0.below acc)).mono ?_
        rintro e w2 ⟨l, s, rfl, l1, l2, s1, s2, hb1⟩
        replace acc := acc.trans (hb1.mono acc.size); clear hb1
        clear n1 n2 u1 u2 m1 m2 hv v0
        obtain ⟨k1, k2, k3⟩ := lagcut_facts l s
        have k4 : ¬ lagcut l s < 0 := by omega
        have k5 : ¬ vstep 149 s < lagcut l s := by omega
        clear k2 k3
        by_cases c1 : 1 ≤ s
        · by_cases c2 : s ≤ 20
          · have c3 : isWb s = true := decide_eq_true ⟨c1, c2⟩
            have c4 := wof_nofV c1 c2
            go_wp2_with (first | (go_at_call 19; refine (impl_lagcut _ _ _).mono ?_; rintro e w1 ⟨rfl, hb1⟩; replace acc := acc.trans (hb1.mono acc.size); clear hb1) | (go_at_call 20; refine (spec_lagcut _ _ _).mono ?_; rintro e w1 ⟨rfl, rfl⟩) | (go_at_call 21; refine (impl_lagmost _ _).mono ?_; rintro e w1 ⟨rfl, hb1⟩; replace acc := acc.trans (hb1.mono acc.size); clear hb1) | (go_at_call 22; refine (impl_nof _ _).mono ?_; rintro e w1 ⟨rfl, rfl⟩) | (go_at_call 23; refine (impl_wof _ _).mono ?_; rintro e w1 ⟨rfl, rfl⟩))
            go_ret
            exact ⟨rfl, acc⟩
          · have c3 : isWb s = false := decide_eq_false (by omega)
            have c4 : decide (s ≤ 20) = false := by simpa using c2
            go_wp2_with (first | (go_at_call 19; refine (impl_lagcut _ _ _).mono ?_; rintro e w1 ⟨rfl, hb1⟩; replace acc := acc.trans (hb1.mono acc.size); clear hb1) | (go_at_call 20; refine (spec_lagcut _ _ _).mono ?_; rintro e w1 ⟨rfl, rfl⟩) | (go_at_call 21; refine (impl_lagmost _ _).mono ?_; rintro e w1 ⟨rfl, hb1⟩; replace acc := acc.trans (hb1.mono acc.size); clear hb1) | (go_at_call 22; refine (impl_nof _ _).mono ?_; rintro e w1 ⟨rfl, rfl⟩) | (go_at_call 23; refine (impl_wof _ _).mono ?_; rintro e w1 ⟨rfl, rfl⟩))
            go_ret
            exact ⟨rfl, acc⟩
        · have c3 : isWb s = false := decide_eq_false (by omega)
          go_wp2_with (first | (go_at_call 19; refine (impl_lagcut _ _ _).mono ?_; rintro e w1 ⟨rfl, hb1⟩; replace acc := acc.trans (hb1.mono acc.size); clear hb1) | (go_at_call 20; refine (spec_lagcut _ _ _).mono ?_; rintro e w1 ⟨rfl, rfl⟩) | (go_at_call 21; refine (impl_lagmost _ _).mono ?_; rintro e w1 ⟨rfl, hb1⟩; replace acc := acc.trans (hb1.mono acc.size); clear hb1) | (go_at_call 22; refine (impl_nof _ _).mono ?_; rintro e w1 ⟨rfl, rfl⟩) | (go_at_call 23; refine (impl_wof _ _).mono ?_; rintro e w1 ⟨rfl, rfl⟩))
          go_ret
          exact ⟨rfl, acc⟩
    · as_aux_lemma =>
      go_wp2_with (first | (go_at_call 15; refine (impl_vstep _ _ _).mono ?_; rintro e w1 ⟨rfl, hb1⟩; replace acc := acc.trans (hb1.mono acc.size); clear hb1) | (go_at_call 16; refine (spec_vstep _ _ _).mono ?_; rintro e w1 ⟨rfl, rfl⟩) | (go_at_call 17; refine (impl_vunits _ _ _).mono ?_; rintro e w1 ⟨rfl, hb1⟩; replace acc := acc.trans (hb1.mono acc.size); clear hb1))
      refine (draw_lagcut a0 len0 cap0 z0 _ (w0.below acc)).mono ?_
      rintro e w2 ⟨l, s, rfl, l1, l2, s1, s2, hb1⟩
      replace acc := acc.trans (hb1.mono acc.size); clear hb1
      clear n1 n2 u1 u2 m1 m2 hv v0
      obtain ⟨k1, k2, k3⟩ := lagcut_facts l s
      have k4 : ¬ lagcut l s < 0 := by omega
      have k5 : ¬ vstep 149 s < lagcut l s := by omega
      clear k2 k3
      by_cases c1 : 1 ≤ s
      · by_cases c2 : s ≤ 20
        · have c3 : isWb s = true := decide_eq_true ⟨c1, c2⟩
          have c4 := wof_nofV c1 c2
          go_wp2_with (first | (go_at_call 19; refine (impl_lagcut _ _ _).mono ?_; rintro e w1 ⟨rfl, hb1⟩; replace acc := acc.trans (hb1.mono acc.size); clear hb1) | (go_at_call 20; refine (spec_lagcut _ _ _).mono ?_; rintro e w1 ⟨rfl, rfl⟩) | (go_at_call 21; refine (impl_lagmost _ _).mono ?_; rintro e w1 ⟨rfl, hb1⟩; replace acc := acc.trans (hb1.mono acc.size); clear hb1) | (go_at_call 22; refine (impl_nof _ _).mono ?_; rintro e w1 ⟨rfl, rfl⟩) | (go_at_call 23; refine (impl_wof _ _).mono ?_; rintro e w1 ⟨rfl, rfl⟩))
          go_ret
          exact ⟨rfl, acc⟩
        · have c3 : isWb s = false := decide_eq_false (by omega)
          have c4 : decide (s ≤ 20) = false := by simpa using c2
          go_wp2_with (first | (go_at_call 19; refine (impl_lagcut _ _ _).mono ?_; rintro e w1 ⟨rfl, hb1⟩; replace acc := acc.trans (hb1.mono acc.size); clear hb1) | (go_at_call 20; refine (spec_lagcut _ _ _).mono ?_; rintro e w1 ⟨rfl, rfl⟩) | (go_at_call 21; refine (impl_lagmost _ _).mono ?_; rintro e w1 ⟨rfl, hb1⟩; replace acc := acc.trans (hb1.mono acc.size); clear hb1) | (go_at_call 22; refine (impl_nof _ _).mono ?_; rintro e w1 ⟨rfl, rfl⟩) | (go_at_call 23; refine (impl_wof _ _).mono ?_; rintro e w1 ⟨rfl, rfl⟩))
          go_ret
          exact ⟨rfl, acc⟩
      · have c3 : isWb s = false := decide_eq_false (by omega)
        go_wp2_with (first | (go_at_call 19; refine (impl_lagcut _ _ _).mono ?_; rintro e w1 ⟨rfl, hb1⟩; replace acc := acc.trans (hb1.mono acc.size); clear hb1) | (go_at_call 20; refine (spec_lagcut _ _ _).mono ?_; rintro e w1 ⟨rfl, rfl⟩) | (go_at_call 21; refine (impl_lagmost _ _).mono ?_; rintro e w1 ⟨rfl, hb1⟩; replace acc := acc.trans (hb1.mono acc.size); clear hb1) | (go_at_call 22; refine (impl_nof _ _).mono ?_; rintro e w1 ⟨rfl, rfl⟩) | (go_at_call 23; refine (impl_wof _ _).mono ?_; rintro e w1 ⟨rfl, rfl⟩))
        go_ret
        exact ⟨rfl, acc⟩

theorem own : ownKnob Try.prog.godebug = none := by kernel_rfl
theorem laidOut : laidOutB Try.prog = true := by kernel_rfl

set_option maxRecDepth 100000 in
theorem lifted (os : Os) (started : os.Started) (H : Type) (enc : TypeId × Value → H) :
    ReturnsInHanded {} Try.checked os 3 .any (Rows.fnWeightsSpec.pre6 enc Try.prog Try.f3 Rows.fnWeightsRow.domain false) (Rows.fnWeightsSpec.post enc Try.prog Try.f3 false true false false) := by
  refine returnsInHanded_of_change (C := Try.checked) own started (by kernel_rfl) Try.func3
    (ChangeSpec.witness6 (enc := enc) (C := Try.checked) false ⟨#[], #[.slice none 0 0, .slice none 0 0], []⟩ 8 (by kernel_rfl) (by kernel_rfl) (by kernel_rfl) (by kernel_rfl)) ?_
  intro W base args ds gs before hval0 hW hcnd _
  have hval : ∀ (j : Nat) t v, Try.f3.params[j]? = some t → args[j]? = some v → Value.okWide Try.prog W .any base t v := hval0
  have hW' := hW
  obtain ⟨p, q, hA0, hV, rfl, hfz, hnd⟩ := hW
  have hA : DataW.TrodAll enc Try.prog W 0 (fun _ => true) true Try.f3.params.toList args.toList ds p := hA0
  rw [Try.params3] at hA hval
  obtain ⟨v0, vs0, d0, ds0, p0, q0, hargs, rfl, rfl, h0, r0⟩ := trodAll_cons hA
  obtain ⟨v1, vs1, d1, ds1, p1, q1, rfl, rfl, rfl, h1, r1⟩ := trodAll_cons r0
  obtain ⟨rfl, rfl, rfl⟩ := trodAll_nil r1
  obtain rfl : args = #[v0, v1] := by cases args; simp_all
  obtain ⟨rfl, rfl⟩ := trodVars_none hV
  obtain ⟨a0, len0, cap0, rfl⟩ := okWide_slice Try.underlying22 (hval 0 22 v0 rfl rfl)
  have k0 := h0
  have lt0 : ∀ x ∈ p0, x.block < W.heap.size := by obtain ⟨m, hm⟩ := k0; exact DataW.trod_lt m _ _ _ hm
  obtain ⟨z0, w0⟩ : ∃ zs, IsRow .u8 W a0 len0 cap0 zs := by
    obtain ⟨fuel, hf⟩ := h0
    rcases open_ints Try.underlying22 Try.underlying5 (by kernel_rfl) hf with ⟨hcs, _⟩ | ⟨x, l, c, zs, hcs, _, hl, hm, hz, _, hcell, hwz⟩
    · simp [Value.cells] at hcs
      obtain ⟨rfl, rfl, rfl⟩ := hcs
      exact ⟨[], .inl ⟨rfl, rfl, rfl, rfl⟩⟩
    · simp [Value.cells] at hcs
      obtain ⟨rfl, rfl, rfl⟩ := hcs
      exact ⟨zs, .inr ⟨_, rfl, hl, hm, by simpa using hz, hcell, hwz⟩⟩
  obtain ⟨a1, len1, cap1, rfl⟩ := okWide_slice Try.underlying22 (hval 1 22 v1 rfl rfl)
  have k1 := h1
  have lt1 : ∀ x ∈ p1, x.block < W.heap.size := by obtain ⟨m, hm⟩ := k1; exact DataW.trod_lt m _ _ _ hm
  obtain ⟨z1, w1⟩ : ∃ zs, IsRow .u8 W a1 len1 cap1 zs := by
    obtain ⟨fuel, hf⟩ := h1
    rcases open_ints Try.underlying22 Try.underlying5 (by kernel_rfl) hf with ⟨hcs, _⟩ | ⟨x, l, c, zs, hcs, _, hl, hm, hz, _, hcell, hwz⟩
    · simp [Value.cells] at hcs
      obtain ⟨rfl, rfl, rfl⟩ := hcs
      exact ⟨[], .inl ⟨rfl, rfl, rfl, rfl⟩⟩
    · simp [Value.cells] at hcs
      obtain ⟨rfl, rfl, rfl⟩ := hcs
      exact ⟨zs, .inr ⟨_, rfl, hl, hm, by simpa using hz, hcell, hwz⟩⟩
  clear hA0 hval0
  refine (walk a0 len0 cap0 z0 a1 len1 cap1 z1 W w0 w1).mono fun e W' ⟨he, bel⟩ => ?_
  subst he
  exact ⟨_, rfl, _, _, _, [], _, [], hW', trodAll_mk1 (shut_bool Try.underlying4 _), (trodAll_cons_mk (Below.trod laidOut (by kernel_rfl) (of_decide_eq_true (by kernel_rfl)) k0 bel lt0) (trodAll_cons_mk (Below.trod laidOut (by kernel_rfl) (of_decide_eq_true (by kernel_rfl)) k1 bel lt1) trodAll_mk0)), rfl, bel.frame _, fun h => by cases h⟩

theorem over : Rows.fnWeightsRow.holds Try.pinned (OpenSpec.ofChange Rows.fnWeightsSpec) :=
  OpenClaim.holds_of_wide 3 Try.f3 rfl rfl rfl rfl rfl rfl rfl ⟨rfl, rfl, rfl, rfl, rfl⟩ rfl rfl rfl rfl rfl (by kernel_rfl) Try.func3 (by kernel_rfl)
    (of_decide_eq_true (by kernel_rfl)) (by unfold Func.isWrapper; first | (rw [if_pos (by decide +kernel)]; kernel_rfl) | (rw [if_neg (by decide +kernel)]; exact ⟨rfl, rfl⟩))
    (fun os started H enc _ => lifted os started H enc)

end Go.Proofs.Ytbkdkcgckdienaa.fnWeights
namespace Go.Proofs.Ytbkdkcgckdienaa
theorem fnWeights_holds : Rows.FnWeightsSaid := fnWeights.over
#print axioms fnWeights_holds
end Go.Proofs.Ytbkdkcgckdienaa
