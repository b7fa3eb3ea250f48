/- BandFree of the specification and of the program. -/
import Derived.Test.YtljjgebkieffpaaBP
namespace Go.Proofs.Ytljjgebkieffpaa
set_option linter.unusedVariables false
set_option linter.unusedSimpArgs false
open Go.ChangeShapes Go.WideShapes Go.ChangeAt Go.RowKit

theorem ok_parts {b : Ba} (h : bandOk b = true) : headB b = true ∧ okTo b b.lo.length = true ∧ b.po + b.sp + sumTo b.lo b.lo.length = b.qu := by
  unfold bandOk at h
  simp only [Bool.and_eq_true, decide_eq_true_eq] at h
  exact h
/-- of a pool that is one each local is within the quota. -/
theorem ok_lo {b : Ba} (h : bandOk b = true) {k : Nat} {n : Int} (hk : b.lo[k]? = some n) : 0 ≤ n ∧ n ≤ b.qu := by
  obtain ⟨_, h2, _⟩ := ok_parts h
  have hlt : k < b.lo.length := (List.getElem?_eq_some_iff.1 hk).1
  have := okTo_of h2 k hlt
  unfold oneOk loAt at this
  rw [hk, Bool.and_eq_true, l1in_iff] at this
  exact this.1
def hasB (b : Ba) (c : Int) : Bool := l1in c 0 ((b.lo.length : Int) - 1)
def freeB (b : Ba) (c : Int) : Int := if bandOk b = true ∧ hasB b c = true then b.po + loAt b c.toNat else 0
/-- rows that hold something. -/
theorem ok_rows {W : World} {x y : Value} {b : Ba} (h : SlBa W x y b) (hok : headB b = true) :
    ∃ g o cap g' o' cap', x = .slice (some ⟨g, o, none⟩) b.lo.length cap ∧ y = .slice (some ⟨g', o', none⟩) b.lo.length cap' ∧ IntAt W g o b.lo ∧ BoolAt W g' o' b.dr ∧ b.lo.length ≤ cap ∧ cap ≤ 9223372036854775807 ∧ b.lo.length ≤ cap' ∧ cap' ≤ 9223372036854775807 := by
  obtain ⟨_, ⟨a3, _⟩, a5, _⟩ := head_parts hok
  obtain ⟨hx, hy⟩ := h
  rcases hx with ⟨h0, _⟩ | ⟨g, o, cap, rfl, hE, hl, hm⟩
  · rw [h0] at a3; simp at a3
  rcases hy with ⟨h0, _⟩ | ⟨g', o', cap', rfl, hE', hl', hm'⟩
  · rw [h0] at a5; simp at a5; omega
  unfold maxLen at hm hm'
  rw [a5] at hl' ⊢
  exact ⟨g, o, cap, g', o', cap', rfl, rfl, hE, hE', hl, by omega, hl', by omega⟩

set_option maxHeartbeats 4000000 in
theorem spec_bandFree (b : Ba) (x y : Value) (c : Int) (w : World) (hs : SlBa w x y b) :
    Calls Try.prog 17 #[baV b x y, .int .i64 c] w fun e w' => e = .returned (.int .i64 (freeB b c)) ∧ Below w.heap.size w w' := by
  have hB : ∀ A, Below w.heap.size w (w.alloc A) := fun A => (Below.refl _ _).alloc (Nat.le_refl _) _
  cases hok : bandOk b
  · have HR : Hid (freeB b c = 0) := by show _ = _; unfold freeB; rw [hok]; simp
    unfold baV
    go_enter Try.func17, Try.ntmps17
    go_wp2_with (go_at_call 19; refine (spec_bandOk b x y _ (hs.below (hB _))).mono ?_; rintro e1 w2 ⟨rfl, b2⟩)
    go_ret
    exact ⟨ret_int HR.out.symm, (box_kept b2).1⟩
  · obtain ⟨hh, hto, hsum⟩ := ok_parts hok
    obtain ⟨⟨a1, a2⟩, ⟨a3, a4⟩, _, ⟨a6, a7⟩, _⟩ := head_parts hh
    clear hto hsum
    cases hc : hasB b c
    · have HR : Hid (freeB b c = 0) := by show _ = _; unfold freeB; rw [hc]; simp
      have hc' : l1in c 0 ((b.lo.length : Int) - 1) = false := hc
      obtain ⟨g, o, cap, g', o', cap', rfl, rfl, hE, hE', k1, k2, k3, k4⟩ := ok_rows hs hh
      clear hc hh hE hE'
      unfold baV
      go_enter Try.func17, Try.ntmps17
      go_wp2_with (first | (go_at_call 19; refine (spec_bandOk b _ _ _ (hs.below (hB _))).mono ?_; rintro e1 w2 ⟨rfl, b2⟩; obtain ⟨b2, hX, lt2⟩ := box_kept b2; obtain ⟨q0, q1, q2, q3, q4⟩ := bbox hX) | (go_at_call 43; refine (l1In_any _ _ _ _).mono ?_; rintro e w1 ⟨rfl, rfl⟩))
      go_ret
      exact ⟨ret_int HR.out.symm, b2⟩
    · have HR : Hid (freeB b c = b.po + loAt b c.toNat) := by show _ = _; unfold freeB; rw [hc, hok]; simp
      have hc' : l1in c 0 ((b.lo.length : Int) - 1) = true := hc
      obtain ⟨c0, c1⟩ := l1in_iff.1 hc'
      obtain ⟨n, he⟩ := int_get (ws := b.lo) (k := c.toNat) (by omega)
      have hn := ok_lo hok he
      have HL : Hid (loAt b c.toNat = n) := by show _ = _; unfold loAt; rw [he]; rfl
      obtain ⟨g, o, cap, g', o', cap', rfl, rfl, hE, hE', k1, k2, k3, k4⟩ := ok_rows hs hh
      have c1' : c < (b.lo.length : Int) := by omega
      have HE : Hid (IntAt w g o b.lo) := hE
      clear hc hh hE hE'
      unfold baV
      go_enter Try.func17, Try.ntmps17
      go_wp2_with (first | (go_at_call 19; refine (spec_bandOk b _ _ _ (hs.below (hB _))).mono ?_; rintro e1 w2 ⟨rfl, b2⟩; obtain ⟨b2, hX, lt2⟩ := box_kept b2; obtain ⟨q0, q1, q2, q3, q4⟩ := bbox hX; have x0 := HE.out.below b2 _ _ he) | (go_at_call 43; refine (l1In_any _ _ _ _).mono ?_; rintro e w1 ⟨rfl, rfl⟩))
      go_quiet (fail)
      go_wp2
      go_ret
      exact ⟨ret_int (by rw [HR.out, HL.out]), below_drewN b2 _⟩

set_option maxHeartbeats 2000000 in
theorem hasLocal_any (b : Ba) (p p' : Option Addr) (cap cap' : Nat) (c : Int) (w : World) (hn : b.lo.length ≤ 9223372036854775807) (m : Nat) :
    Calls Try.prog 49 #[baV b (.slice p b.lo.length cap) (.slice p' m cap'), .int .i64 c] w fun e w' => e = .returned (.bool (hasB b c)) ∧ Below w.heap.size w w' := by
  have hB : ∀ A, Below w.heap.size w (w.alloc A) := fun A => (Below.refl _ _).alloc (Nat.le_refl _) _
  unfold baV
  by_cases h1 : 0 ≤ c
  · by_cases h2 : c < (b.lo.length : Int)
    · have HP : Hid (hasB b c = true) := l1in_iff.2 ⟨h1, by omega⟩
      go_enter Try.func49, Try.ntmps49
      go_wp2
      go_ret
      exact ⟨ret_bool HP.out.symm, hB _⟩
    · have HP : Hid (hasB b c = false) := l1in_no (by omega)
      go_enter Try.func49, Try.ntmps49
      go_wp2
      go_ret
      exact ⟨ret_bool HP.out.symm, hB _⟩
  · have HP : Hid (hasB b c = false) := l1in_no (by omega)
    go_enter Try.func49, Try.ntmps49
    go_wp2
    go_ret
    exact ⟨ret_bool HP.out.symm, hB _⟩

set_option maxHeartbeats 4000000 in
theorem impl_bandFree (b : Ba) (x y : Value) (c : Int) (w : World) (hs : SlBa w x y b) :
    Calls Try.prog 16 #[baV b x y, .int .i64 c] w fun e w' => e = .returned (.int .i64 (freeB b c)) ∧ Below w.heap.size w w' := by
  have hB : ∀ A, Below w.heap.size w (w.alloc A) := fun A => (Below.refl _ _).alloc (Nat.le_refl _) _
  cases hok : bandOk b
  · have HR : Hid (freeB b c = 0) := by show _ = _; unfold freeB; rw [hok]; simp
    unfold baV
    go_enter Try.func16, Try.ntmps16
    go_wp2_with (go_at_call 14; refine (impl_bandOk b x y _ (hs.below (hB _))).mono ?_; rintro e1 w2 ⟨rfl, b2⟩)
    go_ret
    exact ⟨ret_int HR.out.symm, (box_kept b2).1⟩
  · obtain ⟨hh, hto, hsum⟩ := ok_parts hok
    obtain ⟨⟨a1, a2⟩, ⟨a3, a4⟩, _, ⟨a6, a7⟩, _⟩ := head_parts hh
    clear hto hsum
    cases hc : hasB b c
    · have HR : Hid (freeB b c = 0) := by show _ = _; unfold freeB; rw [hc]; simp
      obtain ⟨g, o, cap, g', o', cap', rfl, rfl, hE, hE', k1, k2, k3, k4⟩ := ok_rows hs hh
      clear hh hE hE'
      unfold baV
      go_enter Try.func16, Try.ntmps16
      go_wp2_with (first | (go_at_call 14; refine (impl_bandOk b _ _ _ (hs.below (hB _))).mono ?_; rintro e1 w2 ⟨rfl, b2⟩; obtain ⟨b2, hX, lt2⟩ := box_kept b2; obtain ⟨q0, q1, q2, q3, q4⟩ := bbox hX) | (go_at_call 49; refine (hasLocal_any b _ _ _ _ _ _ (by omega) _).mono ?_; rintro e w3 ⟨rfl, b3⟩))
      go_ret
      exact ⟨ret_int HR.out.symm, b2.trans (b3.mono b2.size)⟩
    · have HR : Hid (freeB b c = b.po + loAt b c.toNat) := by show _ = _; unfold freeB; rw [hc, hok]; simp
      have hc' : l1in c 0 ((b.lo.length : Int) - 1) = true := hc
      obtain ⟨c0, c1⟩ := l1in_iff.1 hc'
      obtain ⟨n, he⟩ := int_get (ws := b.lo) (k := c.toNat) (by omega)
      have hn := ok_lo hok he
      have HL : Hid (loAt b c.toNat = n) := by show _ = _; unfold loAt; rw [he]; rfl
      obtain ⟨g, o, cap, g', o', cap', rfl, rfl, hE, hE', k1, k2, k3, k4⟩ := ok_rows hs hh
      have c1' : c < (b.lo.length : Int) := by omega
      have HE : Hid (IntAt w g o b.lo) := hE
      clear hc' hh hE hE'
      unfold baV
      go_enter Try.func16, Try.ntmps16
      go_wp2_with (first | (go_at_call 14; refine (impl_bandOk b _ _ _ (hs.below (hB _))).mono ?_; rintro e1 w2 ⟨rfl, b2⟩; obtain ⟨b2, hX, lt2⟩ := box_kept b2; obtain ⟨q0, q1, q2, q3, q4⟩ := bbox hX) | (go_at_call 49; refine (hasLocal_any b _ _ _ _ _ _ (by omega) _).mono ?_; rintro e w3 ⟨rfl, b3⟩; have hX3 := (b3.block _ lt2).trans hX; clear q0 q1 q2 q3 q4; obtain ⟨q0, q1, q2, q3, q4⟩ := bbox hX3; have x0 := HE.out.below (b2.trans (b3.mono b2.size)) _ _ he))
      go_quiet (fail)
      go_wp2
      go_ret
      exact ⟨ret_int (by rw [HR.out, HL.out]; omega), below_drewN (b2.trans (b3.mono b2.size)) _⟩
end Go.Proofs.Ytljjgebkieffpaa
