/- TreeDepth: of the program and of its specification. -/
import Derived.Test.YtollijjmmpoonaaTA
namespace Go.Proofs.Ytollijjmmpoonaa
set_option linter.unusedVariables false
set_option linter.unusedSimpArgs false
open Go.ChangeShapes Go.WideShapes Go.ChangeAt Go.RowKit

theorem treeTo_place {ds : List Gr} (h : treeTo ds 8 = true) {i : Nat} (h1 : 1 ≤ i) (h8 : i < 8) : placeB ds i = true := by
  cases hp : placeB ds i
  · rw [treeTo_no hp (by omega) 8 h8] at h; cases h
  · rfl
theorem tree_within {ds : List Gr} (ht : treeB ds = true) (h8 : ds.length = 8) (h : Hung ds 8) (hr : usAt ds 0 = true) {i : Nat} (hi : i < 8) (hu : usAt ds i = true) : withinF ds 3 i = true := by
  by_cases h0 : i = 0
  · subst h0; simp [withinF]
  · rw [tree_root (tree_hasroot ht)] at ht
    have hp := treeTo_place ht (i := i) (by omega) hi
    rw [place_used hu, dep_within h8 h hr hi h0 hu] at hp
    simp only [Bool.and_eq_true] at hp
    exact hp.1.2
/-- a step up takes one off the depth. -/
theorem dep_step {ds : List Gr} (ht : treeB ds = true) (h8 : ds.length = 8) (h : Hung ds 8) (hr : usAt ds 0 = true) {i : Nat} (hi : i < 8) (hu : usAt ds i = true) :
    (i = 0 ∧ depB ds ((0 : Nat) : Int) = 0) ∨ (i ≠ 0 ∧ ∃ j : Nat, paAt ds i = (j : Int) ∧ j < 8 ∧ usAt ds j = true ∧ depB ds (i : Int) = depB ds (j : Int) + 1 ∧ 0 ≤ depB ds (j : Int) ∧ depB ds (i : Int) ≤ 3) := by
  by_cases h0 : i = 0
  · subst h0
    refine .inl ⟨rfl, ?_⟩
    unfold depB
    rw [h8, depF_zero h8 hr]
    rfl
  · obtain ⟨j, hj, hj8, uj⟩ := h.up h8 hi h0 hu
    have hw := tree_within ht h8 h hr hi hu
    have hw2 : withinF ds 2 j = true := by
      unfold withinF at hw
      rw [hj, Int.toNat_natCast] at hw
      simpa [h0] using hw
    obtain ⟨d, hd, _, hf⟩ := within_dep h8 h hr 2 j hj8 uj hw2
    have e1 : depB ds (j : Int) = d := by
      unfold depB
      rw [h8, hf 9 0 (by omega)]
      simp
    have e2 : depB ds (i : Int) = (d : Int) + 1 := by
      unfold depB
      rw [h8, depF_up h8 hi h0 hu hj, hf 8 1 (by omega)]
      omega
    exact .inr ⟨h0, j, hj, hj8, uj, by omega, by omega, by omega⟩
set_option maxHeartbeats 4000000 in
theorem depth_any (ds : List Gr) (nb mb : Nat → Nat) (Dm : Nat → DataW Unit) (B i : Nat) (w : World) (h : TR w ds nb mb Dm B) (ht : treeB ds = true) (hi : i < 8) (hu : usAt ds i = true) :
    Calls Try.prog 37 #[.pointer (some ⟨nb i, 0, none⟩)] w fun e w' => e = .returned (.int .i64 (depB ds (i : Int))) ∧ w' = w := by
  have HT : Hid (TR w ds nb mb Dm B) := h
  have HTB : Hid (treeB ds = true) := ht
  clear h ht
  go_enter Try.func37, Try.ntmps37
  go_wp2
  go_loop [0, 3] (fun n c => ∃ (s j : Nat), s ≤ 8 ∧ j < 8 ∧ usAt ds j = true ∧ n = .pointer (some ⟨nb j, 0, none⟩) ∧ c = .int .i64 (s : Int) ∧ depB ds (i : Int) = (s : Int) + depB ds (j : Int) ∧ 0 ≤ depB ds (j : Int)) (fun _ c => (depB ds (i : Int)).toNat - (intOf c).toNat)
  case atStart =>
    refine ⟨0, i, by omega, hi, hu, rfl, rfl, by simp, ?_⟩
    rcases dep_step HTB.out HT.out.len HT.out.hung HT.out.root hi hu with ⟨rfl, h1⟩ | ⟨_, j, _, _, _, h1, h2, _⟩
    · omega
    · omega
  case round =>
    obtain ⟨s, j, hs, hj, uj, rfl, rfl, hd, hp⟩ := hrel
    rcases HT.out.at hj uj with ⟨rfl, hc⟩ | ⟨h0, j', hpa, hj', uj', hc⟩
    · have hz : depB ds ((0 : Nat) : Int) = 0 := by
        rcases dep_step HTB.out HT.out.len HT.out.hung HT.out.root hj uj with ⟨_, h1⟩ | ⟨h1, _⟩
        · exact h1
        · exact absurd rfl h1
      have HW : Hid (depB ds (i : Int) = (s : Int)) := by
        show depB ds (i : Int) = (s : Int)
        rw [hd, hz]; simp
      clear hd hz hp
      go_wp2
      go_ret
      exact ⟨by rw [HW.out]; rfl, rfl⟩
    · obtain ⟨j2, e2, _, _, f1, f2, f3⟩ : ∃ j : Nat, paAt ds _ = (j : Int) ∧ _ := by
        rcases dep_step HTB.out HT.out.len HT.out.hung HT.out.root hj uj with ⟨h1, _⟩ | ⟨_, r⟩
        · exact absurd h1 h0
        · exact r
      obtain rfl : j' = j2 := by omega
      have hsb : (s : Int) < 8 := by
        rcases dep_step HTB.out HT.out.len HT.out.hung HT.out.root hi hu with ⟨rfl, h1⟩ | ⟨_, _, _, _, _, _, _, h3⟩ <;> omega
      have HW : Hid (depB ds (i : Int) = ((s + 1 : Nat) : Int) + depB ds (j' : Int) ∧ 0 ≤ depB ds (j' : Int)) := by
        refine ⟨?_, f2⟩
        rw [hd, f1]; omega
      clear hd hp f1 f2 f3 e2 hpa
      go_wp2
      exact ⟨⟨s + 1, j', by omega, hj', uj', rfl, by go_num, HW.out.1, HW.out.2⟩, by have := HW.out.1; have := HW.out.2; simp [intOf]; omega⟩

def depthM (ds : List Gr) (g : Int) : Int := if treeB ds = true ∧ usedB ds g = true then depB ds g else -1
set_option maxHeartbeats 4000000 in
theorem impl_depth (x : Value) (vs : List Gv) (g : Int) (w : World) (hs : SlG w x vs) (hf : GsFit vs) :
    Calls Try.prog 15 #[x, .int .i64 g] w fun e w' => e = .returned (.int .i64 (depthM (gsD vs) g)) ∧ Below w.heap.size w w' := by
  go_enter Try.func15, Try.ntmps15
  go_wp2_with fail
  refine (treeOf_any x vs w hs hf).mono ?_
  rintro e w1 ⟨⟨ht, rfl⟩ | ⟨ht, nb, mb, Dm, rfl, htr, _⟩, hb1⟩
  · have HT : Hid (depthM (gsD vs) g = -1) := by show depthM _ _ = _; unfold depthM; rw [if_neg (by rw [ht]; simp)]
    clear ht
    simp only []
    go_at_K
    go_wp2_with fail
    refine (at_any _ _ _ _ _).mono ?_
    rw [at_none]
    rintro e w2 ⟨rfl, hb2⟩
    simp only []
    go_at_K
    go_wp2_with fail
    go_ret
    exact ⟨by rw [HT.out]; rfl, hb1.trans (hb2.mono hb1.size)⟩
  · cases hu : usedB (gsD vs) g
    · have HT : Hid (depthM (gsD vs) g = -1) := by show depthM _ _ = _; unfold depthM; rw [if_neg (by rw [hu]; simp)]
      have hat := unusedB_at htr.len hu nb
      clear ht
      simp only []
      go_at_K
      go_wp2_with fail
      refine (at_any _ _ _ _ _).mono ?_
      rw [hat]
      rintro e w2 ⟨rfl, hb2⟩
      simp only []
      go_at_K
      go_wp2_with fail
      go_ret
      exact ⟨by rw [HT.out]; rfl, hb1.trans (hb2.mono hb1.size)⟩
    · obtain ⟨j, rfl, hj, uj, hat⟩ := usedB_at htr.len hu nb
      have HT : Hid (depthM (gsD vs) (j : Int) = depB (gsD vs) (j : Int)) := by show depthM _ _ = _; unfold depthM; rw [if_pos ⟨ht, hu⟩]
      have HTB : Hid (treeB (gsD vs) = true) := ht
      have HTR : Hid (TR w1 (gsD vs) nb mb Dm w.heap.size) := htr
      clear ht htr hu
      simp only []
      go_at_K
      go_wp2_with fail
      refine (at_any _ _ _ _ _).mono ?_
      rw [hat]
      rintro e w2 ⟨rfl, hb2⟩
      have acc := hb1.trans (hb2.mono hb1.size)
      clear hat
      simp only []
      go_at_K
      go_wp2_with fail
      refine (depth_any _ _ _ _ _ j _ (HTR.out.below hb2) HTB.out hj uj).mono ?_
      rintro e w3 ⟨rfl, rfl⟩
      simp only []
      go_at_K
      go_wp2_with fail
      go_ret
      exact ⟨by rw [HT.out]; rfl, acc⟩
set_option maxHeartbeats 4000000 in
theorem spec_treeDepth (x : Value) (vs : List Gv) (g : Int) (w : World) (hs : SlG w x vs) (hf : GsFit vs) :
    Calls Try.prog 14 #[x, .int .i64 g] w fun e w' => e = .returned (.int .i64 (depthM (gsD vs) g)) ∧ Below w.heap.size w w' := by
  have HS : Hid (SlG w x vs) := hs
  have acc := Below.refl w.heap.size w
  cases ht : treeB (gsD vs)
  · have hd : depthM (gsD vs) g = -1 := by unfold depthM; rw [if_neg (by rw [ht]; simp)]
    rw [hd]
    clear hd
    go_enter Try.func14, Try.ntmps14
    go_wp2_with (go_at_call 10; refine (spec_tree _ vs _ (HS.out.below acc) hf).mono ?_; rintro e w1 ⟨rfl, hb1⟩; replace acc := acc.trans (hb1.mono acc.size); clear hb1)
    go_ret
    exact ⟨rfl, acc⟩
  · cases hu : usedB (gsD vs) g
    · have hd : depthM (gsD vs) g = -1 := by unfold depthM; rw [if_neg (by rw [hu]; simp)]
      rw [hd]
      clear hd
      go_enter Try.func14, Try.ntmps14
      go_wp2_with (first | (go_at_call 10; refine (spec_tree _ vs _ (HS.out.below acc) hf).mono ?_; rintro e w1 ⟨rfl, hb1⟩; replace acc := acc.trans (hb1.mono acc.size); clear hb1) | (go_at_call 36; refine (spec_used _ vs _ _ (HS.out.below acc)).mono ?_; rintro e w2 ⟨rfl, rfl⟩))
      go_ret
      exact ⟨rfl, acc⟩
    · have hd : depthM (gsD vs) g = depB (gsD vs) g := by unfold depthM; rw [if_pos ⟨ht, hu⟩]
      rw [hd]
      clear hd
      go_enter Try.func14, Try.ntmps14
      go_wp2_with (first | (go_at_call 10; refine (spec_tree _ vs _ (HS.out.below acc) hf).mono ?_; rintro e w1 ⟨rfl, hb1⟩; replace acc := acc.trans (hb1.mono acc.size); clear hb1) | (go_at_call 36; refine (spec_used _ vs _ _ (HS.out.below acc)).mono ?_; rintro e w2 ⟨rfl, rfl⟩) | (go_at_call 31; refine (spec_depth _ vs _ _ (HS.out.below acc) hf.1).mono ?_; rintro e w3 ⟨rfl, rfl⟩))
      go_ret
      exact ⟨rfl, acc⟩
end Go.Proofs.Ytollijjmmpoonaa
