/- Contracts of the program's DomainSpan and DomainNear, and of the specification's DomainNear. -/
import Derived.Test.YtpnamoecoihfeaaDP
namespace Go.Proofs.Ytpnamoecoihfeaa
open Go.ChangeShapes Go.WideShapes Go.ChangeAt Go.RowKit Go.Shelf

theorem sp_index (b0 b1 b2 b3 : Bool) (w : World) : (Instr.index 36 (.agg #[.bool b0, .bool b1, .bool b2, .bool b3]) (.int .i64 0)).run Try.prog w = .ok (.bool b0) w ∧ (Instr.index 36 (.agg #[.bool b0, .bool b1, .bool b2, .bool b3]) (.int .i64 1)).run Try.prog w = .ok (.bool b1) w ∧ (Instr.index 36 (.agg #[.bool b0, .bool b1, .bool b2, .bool b3]) (.int .i64 2)).run Try.prog w = .ok (.bool b2) w ∧ (Instr.index 36 (.agg #[.bool b0, .bool b1, .bool b2, .bool b3]) (.int .i64 3)).run Try.prog w = .ok (.bool b3) w := by
  refine ⟨?_, ?_, ?_, ?_⟩ <;> kernel_rfl
set_option maxHeartbeats 8000000 in
theorem mask_any (b0 b1 b2 b3 : Bool) (w : World) : Calls Try.prog 26 #[.agg #[.bool b0, .bool b1, .bool b2, .bool b3]] w fun e w' => e = .returned (.int .i64 (bitI b0 1 + bitI b1 2 + bitI b2 4 + bitI b3 8)) ∧ Below w.heap.size w w' := by
  have i0 := fun w => (sp_index b0 b1 b2 b3 w).1
  have i1 := fun w => (sp_index b0 b1 b2 b3 w).2.1
  have i2 := fun w => (sp_index b0 b1 b2 b3 w).2.2.1
  have i3 := fun w => (sp_index b0 b1 b2 b3 w).2.2.2
  cases b0 <;> cases b1 <;> cases b2 <;> cases b3
  all_goals
    go_enter Try.func26, Try.ntmps26
    go_wp2
    go_rounds 5
    go_ret
    exact ⟨ret_int (by decide), by go_grown⟩
theorem spRow_four (n c l : Int) : spRow n c l 4 = #[.bool (inSp n c l 0), .bool (inSp n c l 1), .bool (inSp n c l 2), .bool (inSp n c l 3)] := by
  simp [spRow, List.range, List.range.loop]
theorem impl_span (n c l : Int) (w : World) : Calls Try.prog 13 #[.int .i64 n, .int .i64 c, .int .i64 l] w fun e w' => e = .returned (.int .i64 (spanM n c l)) ∧ Below w.heap.size w w' := by
  have acc := Below.refl w.heap.size w
  have hm : ∀ w, Calls Try.prog 26 #[.agg (spRow n c l 4)] w fun e w' => e = .returned (.int .i64 (spanM n c l)) ∧ Below w.heap.size w w' := fun w => by
    rw [spRow_four]; exact mask_any _ _ _ _ w
  go_enter Try.func13, Try.ntmps13
  go_wp2_with (first
    | (go_at_call 22; refine (spanOf_any _ _ _ _).mono ?_; rintro e w1 ⟨rfl, hb1⟩; replace acc := acc.trans (hb1.mono acc.size); clear hb1)
    | (go_at_call 26; refine (hm _).mono ?_; rintro e w1 ⟨rfl, hb1⟩; replace acc := acc.trans (hb1.mono acc.size); clear hb1))
  go_ret
  exact ⟨rfl, acc⟩

def nearM (n a b : Int) : Int := if 0 < levelsF n ∧ hasB (spanM n a 0) b = true then 0 else if 1 < levelsF n ∧ hasB (spanM n a 1) b = true then 1 else -1
theorem levels_one (n : Int) : levelsF n = 0 ∨ levelsF n = 1 ∨ levelsF n = 2 := by unfold levelsF; split; omega; split <;> omega
theorem near0 {n a b : Int} (h : levelsF n = 0) : nearM n a b = -1 := by unfold nearM; rw [h]; rfl
theorem near1 {n a b : Int} (h : 0 < levelsF n) (c : hasB (spanM n a 0) b = true) : nearM n a b = 0 := by unfold nearM; rw [if_pos ⟨h, c⟩]
theorem near2 {n a b : Int} (h : levelsF n = 1) (c : hasB (spanM n a 0) b = false) : nearM n a b = -1 := by unfold nearM; rw [h, c]; rfl
theorem near3 {n a b : Int} (h : levelsF n = 2) (c : hasB (spanM n a 0) b = false) (d : hasB (spanM n a 1) b = true) : nearM n a b = 1 := by unfold nearM; rw [h, c, d]; rfl
theorem near4 {n a b : Int} (h : levelsF n = 2) (c : hasB (spanM n a 0) b = false) (d : hasB (spanM n a 1) b = false) : nearM n a b = -1 := by unfold nearM; rw [h, c, d]; rfl
/-- the ways that looking for a level goes. -/
theorem near_ways (n a b : Int) : (levelsF n = 0 ∧ nearM n a b = -1) ∨ (levelsF n = 1 ∧ hasB (spanM n a 0) b = true ∧ nearM n a b = 0) ∨ (levelsF n = 1 ∧ hasB (spanM n a 0) b = false ∧ nearM n a b = -1) ∨ (levelsF n = 2 ∧ hasB (spanM n a 0) b = true ∧ nearM n a b = 0) ∨ (levelsF n = 2 ∧ hasB (spanM n a 0) b = false ∧ hasB (spanM n a 1) b = true ∧ nearM n a b = 1) ∨ (levelsF n = 2 ∧ hasB (spanM n a 0) b = false ∧ hasB (spanM n a 1) b = false ∧ nearM n a b = -1) := by
  rcases levels_one n with h | h | h
  · exact .inl ⟨h, near0 h⟩
  · cases c : hasB (spanM n a 0) b
    · exact .inr (.inr (.inl ⟨h, rfl, near2 h c⟩))
    · exact .inr (.inl ⟨h, rfl, near1 (by omega) c⟩)
  · cases c : hasB (spanM n a 0) b
    · cases d : hasB (spanM n a 1) b
      · exact .inr (.inr (.inr (.inr (.inr ⟨h, rfl, rfl, near4 h c d⟩))))
      · exact .inr (.inr (.inr (.inr (.inl ⟨h, rfl, rfl, near3 h c d⟩))))
    · exact .inr (.inr (.inr (.inl ⟨h, rfl, near1 (by omega) c⟩)))
set_option maxHeartbeats 8000000 in
theorem spec_near (n a b : Int) (w : World) : Calls Try.prog 10 #[.int .i64 n, .int .i64 a, .int .i64 b] w fun e w' => e = .returned (.int .i64 (nearM n a b)) ∧ w' = w := by
  rcases near_ways n a b with ⟨h, e⟩ | ⟨h, c, e⟩ | ⟨h, c, e⟩ | ⟨h, c, e⟩ | ⟨h, c, d, e⟩ | ⟨h, c, d, e⟩
  all_goals
    rw [e]
    clear e
    go_enter Try.func10, Try.ntmps10
    go_wp2
    refine wp_loop_rounds 3 ?_
    repeat any_goals (rw [rounds_succ]; go_wp2_with (first | (go_at_call 12; refine (spec_levels _ _).mono ?_; rintro e w1 ⟨rfl, rfl⟩) | (go_at_call 19; refine (spec_span _ _ _ _).mono ?_; rintro e w1 ⟨rfl, rfl⟩) | (go_at_call 23; refine (spec_has _ _ _).mono ?_; rintro e w1 ⟨rfl, rfl⟩)))
    go_ret
    exact ⟨rfl, rfl⟩
end Go.Proofs.Ytpnamoecoihfeaa
