/- TreePath: the two functions. -/
import Derived.Test.YtollijjmmpoonaaTF
namespace Go.Proofs.Ytollijjmmpoonaa
set_option linter.unusedVariables false
set_option linter.unusedSimpArgs false
open Go.ChangeShapes Go.WideShapes Go.ChangeAt Go.RowKit

theorem pathM_no {ds : List Gr} {g : Int} (h : treeB ds = false ∨ usedB ds g = false) : pathM ds g = ⟨#[]⟩ := by
  unfold pathM
  rw [if_neg]
  rintro ⟨a, b⟩
  rcases h with h | h
  · rw [h] at a; cases a
  · rw [h] at b; cases b
set_option maxHeartbeats 4000000 in
theorem impl_path (x : Value) (vs : List Gv) (g : Int) (w : World) (hs : SlG w x vs) (hf : GsFit vs) :
    Calls Try.prog 17 #[x, .int .i64 g] w fun e w' => e = .returned (.string (pathM (gsD vs) g)) ∧ Below w.heap.size w w' := by
  go_enter Try.func17, Try.ntmps17
  go_wp2_with fail
  refine (treeOf_any x vs w hs hf).mono ?_
  rintro e w1 ⟨⟨ht, rfl⟩ | ⟨ht, nb, mb, Dm, rfl, htr, _⟩, hb1⟩
  · have HT : Hid (pathM (gsD vs) g = ⟨#[]⟩) := pathM_no (.inl ht)
    clear ht
    simp only []
    go_at_K
    go_wp2_with fail
    refine (at_any _ _ _ _ _).mono ?_
    rw [at_none]
    rintro e w2 ⟨rfl, hb2⟩
    simp only []
    go_at_K
    go_wp2_with fail
    go_ret
    exact ⟨by rw [HT.out]; rfl, hb1.trans (hb2.mono hb1.size)⟩
  · cases hu : usedB (gsD vs) g
    · have HT : Hid (pathM (gsD vs) g = ⟨#[]⟩) := pathM_no (.inr hu)
      have hat := unusedB_at htr.len hu nb
      clear ht
      simp only []
      go_at_K
      go_wp2_with fail
      refine (at_any _ _ _ _ _).mono ?_
      rw [hat]
      rintro e w2 ⟨rfl, hb2⟩
      simp only []
      go_at_K
      go_wp2_with fail
      go_ret
      exact ⟨by rw [HT.out]; rfl, hb1.trans (hb2.mono hb1.size)⟩
    · obtain ⟨j, rfl, hj, uj, hat⟩ := usedB_at htr.len hu nb
      have hpm : pathM (gsD vs) (j : Int) = if (j : Int) = 0 then (⟨#[47]⟩ : ByteArray) else pathD (gsD vs) j := by
        unfold pathM
        rw [if_pos ⟨ht, hu⟩, Int.toNat_natCast]
      have HT : Hid ((if j = 0 then (⟨#[47]⟩ : ByteArray) else pathD (gsD vs) j) = pathM (gsD vs) (j : Int)) := by
        show _ = pathM _ _
        rw [hpm]
        by_cases e : j = 0
        · rw [if_pos e, if_pos (by omega)]
        · rw [if_neg e, if_neg (by omega)]
      clear hpm
      have HTB : Hid (treeB (gsD vs) = true) := ht
      have HTR : Hid (TR w1 (gsD vs) nb mb Dm w.heap.size) := htr
      clear ht htr hu
      simp only []
      go_at_K
      go_wp2_with fail
      refine (at_any _ _ _ _ _).mono ?_
      rw [hat]
      rintro e w2 ⟨rfl, hb2⟩
      have acc := hb1.trans (hb2.mono hb1.size)
      clear hat
      simp only []
      go_at_K
      go_wp2_with fail
      refine (path_any _ _ _ _ _ j _ (HTR.out.below hb2) HTB.out hj uj).mono ?_
      rw [HT.out]
      rintro e w3 ⟨rfl, rfl⟩
      simp only []
      go_at_K
      go_wp2_with fail
      go_ret
      exact ⟨rfl, acc⟩
set_option maxHeartbeats 4000000 in
theorem spec_path (x : Value) (vs : List Gv) (g : Int) (w : World) (hs : SlG w x vs) (hf : GsFit vs) :
    Calls Try.prog 16 #[x, .int .i64 g] w fun e w' => e = .returned (.string (pathM (gsD vs) g)) ∧ Below w.heap.size w w' := by
  have HS : Hid (SlG w x vs) := hs
  have acc := Below.refl w.heap.size w
  cases ht : treeB (gsD vs)
  · rw [pathM_no (.inl ht)]
    go_enter Try.func16, Try.ntmps16
    go_wp2_with (go_at_call 10; refine (spec_tree _ vs _ (HS.out.below acc) hf).mono ?_; rintro e w1 ⟨rfl, hb1⟩; replace acc := acc.trans (hb1.mono acc.size); clear hb1)
    go_ret
    exact ⟨rfl, acc⟩
  · cases hu : usedB (gsD vs) g
    · rw [pathM_no (.inr hu)]
      go_enter Try.func16, Try.ntmps16
      go_wp2_with (first | (go_at_call 10; refine (spec_tree _ vs _ (HS.out.below acc) hf).mono ?_; rintro e w1 ⟨rfl, hb1⟩; replace acc := acc.trans (hb1.mono acc.size); clear hb1) | (go_at_call 36; refine (spec_used _ vs _ _ (HS.out.below acc)).mono ?_; rintro e w2 ⟨rfl, rfl⟩))
      go_ret
      exact ⟨rfl, acc⟩
    · obtain ⟨j, rfl, hj, uj⟩ := usedB_yes hu
      rw [(tree_facts ht).1] at hj
      by_cases h0 : (j : Int) = 0
      · have hp : pathM (gsD vs) (j : Int) = ⟨#[47]⟩ := by unfold pathM; rw [if_pos ⟨ht, hu⟩, if_pos h0]
        rw [hp]
        rw [h0] at hu ⊢
        clear hp
        go_enter Try.func16, Try.ntmps16
        go_wp2_with (first | (go_at_call 10; refine (spec_tree _ vs _ (HS.out.below acc) hf).mono ?_; rintro e w1 ⟨rfl, hb1⟩; replace acc := acc.trans (hb1.mono acc.size); clear hb1) | (go_at_call 36; refine (spec_used _ vs _ _ (HS.out.below acc)).mono ?_; rintro e w2 ⟨rfl, rfl⟩))
        go_ret
        exact ⟨rfl, acc⟩
      · have hp : pathM (gsD vs) (j : Int) = pathD (gsD vs) j := by unfold pathM; rw [if_pos ⟨ht, hu⟩, if_neg h0, Int.toNat_natCast]
        rw [hp]
        clear hp
        have hd := (dep_nonneg ht hj uj).1
        have HP : Hid (∀ w : World, SlG w x vs → Calls Try.prog 38 #[x, .int .i64 (j : Int)] w fun e w' => e = .returned (.string (pathD (gsD vs) j)) ∧ ∃ m, w' = w.drewN m) := fun w => spec_l6Path vs x ht (depB (gsD vs) (j : Int)).toNat j hj uj (by omega) w
        go_enter Try.func16, Try.ntmps16
        go_wp2_with (first | (go_at_call 10; refine (spec_tree _ vs _ (HS.out.below acc) hf).mono ?_; rintro e w1 ⟨rfl, hb1⟩; replace acc := acc.trans (hb1.mono acc.size); clear hb1) | (go_at_call 36; refine (spec_used _ vs _ _ (HS.out.below acc)).mono ?_; rintro e w2 ⟨rfl, rfl⟩) | (go_at_call 38; refine (HP.out _ (HS.out.below acc)).mono ?_; rintro e w3 ⟨rfl, m, hm⟩; replace acc := acc.trans (below_drewN (Below.refl _ _) m); rw [← hm] at acc; clear hm))
        go_ret
        exact ⟨rfl, acc⟩
end Go.Proofs.Ytollijjmmpoonaa
