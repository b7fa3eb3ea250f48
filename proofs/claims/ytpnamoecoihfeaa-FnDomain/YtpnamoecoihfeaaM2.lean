/- Contracts of MaskCount, MaskFirst and MaskAnd, of the program and of its specification. -/
import Derived.Test.YtpnamoecoihfeaaM
namespace Go.Proofs.Ytpnamoecoihfeaa
open Go.ChangeShapes Go.WideShapes Go.ChangeAt Go.RowKit Go.Shelf

theorem cpusTo_no {m : Int} (h : m < 0 ∨ 15 < m) (k : Nat) : cpusTo m k = [] := by
  unfold cpusTo
  rw [List.filter_eq_nil_iff]
  intro x _
  rw [hasB_m h]; simp
theorem firstF_no {m : Int} (h : m < 0 ∨ 15 < m) (c : Int) : firstF m c = -1 := by unfold firstF; rw [cpusTo_no h]; rfl
theorem firstF_at {m : Int} {k : Nat} (hk : k < 4) (h0 : cpusTo m k = []) (hh : hasB m k = true) : firstF m 0 = k := by
  have hp := cpusTo_pre m (k + 1) (by omega)
  rw [cpusTo_succ, if_pos hh, h0, List.nil_append] at hp
  obtain ⟨t, ht⟩ := hp
  unfold firstF
  rw [← ht]
  simp
theorem firstF_none {m : Int} (h0 : cpusTo m 4 = []) : firstF m 0 = -1 := by unfold firstF; rw [h0]; rfl

theorem impl_count (m : Int) (w : World) : Calls Try.prog 16 #[.int .i64 m] w fun e w' => e = .returned (.int .i64 ((cpusTo m 4).length : Int)) ∧ Below w.heap.size w w' := by
  by_cases a : 0 ≤ m ∧ m ≤ 15
  · obtain ⟨a1, a2⟩ := a
    have f1 := okB_yes a1 a2
    go_enter Try.func16, Try.ntmps16
    go_wp2_with (first | (go_at_call 27; refine (impl_ok _ _).mono ?_; rintro e w1 ⟨rfl, rfl⟩) | (go_at_call 29; refine (set_count _ _ a1 a2).mono ?_; rintro e w2 ⟨rfl, hb⟩))
    go_ret
    exact ⟨rfl, hb⟩
  · have f1 := okB_no (m := m) (by omega)
    rw [cpusTo_no (by omega)]
    clear a
    go_enter Try.func16, Try.ntmps16
    go_wp2_with (go_at_call 27; refine (impl_ok _ _).mono ?_; rintro e w1 ⟨rfl, rfl⟩)
    go_ret
    exact ⟨rfl, Below.refl _ _⟩
def andTo (a b : Int) (k : Nat) : Int := ((List.range k).map (fun i : Nat => if (hasB a i && hasB b i) = true then (2 : Int) ^ i else 0)).sum
theorem andTo_succ (a b : Int) (k : Nat) : andTo a b (k + 1) = andTo a b k + if (hasB a k && hasB b k) = true then (2 : Int) ^ k else 0 := by
  unfold andTo
  rw [List.range_succ, List.map_append, List.sum_append]
  simp
theorem and_fin : ∀ a b : Fin 16, bits BinOp.and IntKind.i64 (a.val : Int) (b.val : Int) = andTo (a.val : Int) (b.val : Int) 4 := by decide +kernel
theorem and_eq {a b : Int} (h1 : 0 ≤ a) (h2 : a ≤ 15) (h3 : 0 ≤ b) (h4 : b ≤ 15) : bits BinOp.and IntKind.i64 a b = andTo a b 4 := by
  obtain ⟨x, rfl⟩ := Int.eq_ofNat_of_zero_le h1
  obtain ⟨y, rfl⟩ := Int.eq_ofNat_of_zero_le h3
  exact and_fin ⟨x, by omega⟩ ⟨y, by omega⟩
def andM (a b : Int) : Int := if 0 ≤ a ∧ a ≤ 15 ∧ 0 ≤ b ∧ b ≤ 15 then andTo a b 4 else 0
theorem impl_and (a b : Int) (w : World) : Calls Try.prog 14 #[.int .i64 a, .int .i64 b] w fun e w' => e = .returned (.int .i64 (andM a b)) ∧ w' = w := by
  by_cases h : 0 ≤ a ∧ a ≤ 15
  · have f1 := okB_yes h.1 h.2
    by_cases k : 0 ≤ b ∧ b ≤ 15
    · have f2 := okB_yes k.1 k.2
      have hb := and_eq h.1 h.2 k.1 k.2
      rw [show andM a b = andTo a b 4 by unfold andM; rw [if_pos ⟨h.1, h.2, k.1, k.2⟩]]
      go_enter Try.func14, Try.ntmps14
      go_wp2_with (go_at_call 27; refine (impl_ok _ _).mono ?_; rintro e w1 ⟨rfl, rfl⟩)
      go_ret
      exact ⟨ret_int (by first | rfl | exact hb), rfl⟩
    · have f2 := okB_no (m := b) (by omega)
      rw [show andM a b = 0 by unfold andM; rw [if_neg (by omega)]]
      clear h k
      go_enter Try.func14, Try.ntmps14
      go_wp2_with (go_at_call 27; refine (impl_ok _ _).mono ?_; rintro e w1 ⟨rfl, rfl⟩)
      go_ret
      exact ⟨rfl, rfl⟩
  · have f1 := okB_no (m := a) (by omega)
    rw [show andM a b = 0 by unfold andM; rw [if_neg (by omega)]]
    clear h
    go_enter Try.func14, Try.ntmps14
    go_wp2_with (go_at_call 27; refine (impl_ok _ _).mono ?_; rintro e w1 ⟨rfl, rfl⟩)
    go_ret
    exact ⟨rfl, rfl⟩
theorem andTo_bd (a b : Int) (k : Nat) : 0 ≤ andTo a b k ∧ andTo a b k < 2 ^ k := by
  induction k with
  | zero => simp [andTo]
  | succ k ih =>
    rw [andTo_succ, Int.pow_succ]
    split <;> omega
theorem pow_bd (k : Nat) (h : k < 4) : 0 ≤ (2 : Int) ^ k ∧ (2 : Int) ^ k ≤ 8 := by
  have : k = 0 ∨ k = 1 ∨ k = 2 ∨ k = 3 := by omega
  rcases this with rfl | rfl | rfl | rfl <;> decide
theorem wrap_and (a b : Int) (k : Nat) (h : k < 4) : wrap64 (andTo a b k + wrap64 (2 ^ k)) = andTo a b k + 2 ^ k := by
  have h1 := andTo_bd a b k
  have h2 := pow_bd k h
  rw [IntWalk.wrap64_in (2 ^ k) (by omega), IntWalk.wrap64_in _ (by omega)]
end Go.Proofs.Ytpnamoecoihfeaa
