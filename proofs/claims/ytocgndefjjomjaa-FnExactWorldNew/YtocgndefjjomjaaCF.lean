/- Rows of Cpus: what copies, compares, measures and marks them; such rows that came in, opened. -/
import Derived.Test.YtocgndefjjomjaaSF
namespace Go.Proofs.Ytocgndefjjomjaa
set_option linter.unusedVariables false
set_option linter.unusedSimpArgs false
open Go.ChangeShapes Go.WideShapes Go.ChangeAt Go.RowKit

structure Cp where
  up : Bool
  cur : Int
  ran : Int
  busy : Int
  idle : Int
def cp0 : Cp := ⟨false, 0, 0, 0, 0⟩
def cpC (e : Cp) : List Value := [.bool e.up, .int .i64 e.cur, .int .i64 e.ran, .int .i64 e.busy, .int .i64 e.idle]
def cpV (e : Cp) : Value := .agg #[.bool e.up, .int .i64 e.cur, .int .i64 e.ran, .int .i64 e.busy, .int .i64 e.idle]
theorem cpC_len (e : Cp) : (cpC e).length = 5 := rfl
theorem cp_cells {W : World} {g o : Nat} {e : Cp} (h : W.rangeAt g o (cpC e)) : W.cell? ⟨g, o, none⟩ = some (.bool e.up) ∧ W.cell? ⟨g, o + 1, none⟩ = some (.int .i64 e.cur) ∧ W.cell? ⟨g, o + 2, none⟩ = some (.int .i64 e.ran) ∧ W.cell? ⟨g, o + 3, none⟩ = some (.int .i64 e.busy) ∧ W.cell? ⟨g, o + 4, none⟩ = some (.int .i64 e.idle) :=
  ⟨h 0 _ rfl, h 1 _ rfl, h 2 _ rfl, h 3 _ rfl, h 4 _ rfl⟩
abbrev SlCp := SlR cpC 5
abbrev NewCp := NewR cpC 5
set_option maxHeartbeats 2000000 in
theorem eqCpu_same (x : Cp) (w : World) : Calls Try.prog 22 #[cpV x, cpV x] w fun e w' => e = .returned (.bool true) ∧ Below w.heap.size w w' := by
  obtain ⟨up, cur, ran, busy, idle⟩ := x
  unfold cpV
  go_enter Try.func22, Try.ntmps22
  go_wp2
  go_ret
  exact ⟨rfl, by go_grown⟩
set_option maxHeartbeats 4000000 in
theorem eqCpuS_same (x y : Value) (xs : List Cp) (w : World) (hx : SlCp w x xs) (hy : SlCp w y xs) :
    Calls Try.prog 13 #[x, y] w fun e w' => e = .returned (.bool true) ∧ Below w.heap.size w w' := by
  rcases hx with ⟨h0, a, cap, rfl⟩ | ⟨g, o, cap, rfl, hE, hl, hm⟩
  · have : ∃ b cap', y = .slice b 0 cap' := by
      rcases hy with ⟨_, b, cap', rfl⟩ | ⟨g, o, cap', rfl, _⟩
      · exact ⟨_, _, rfl⟩
      · rw [h0]; exact ⟨_, _, rfl⟩
    obtain ⟨b, cap', rfl⟩ := this
    go_enter Try.func13, Try.ntmps13
    go_wp2
    refine wp_loop_rounds 1 ?_
    rw [rounds_succ]
    go_wp2
    go_ret
    exact ⟨rfl, Below.refl _ _⟩
  · rcases hy with ⟨h0, b, cap', rfl⟩ | ⟨g', o', cap', rfl, hE2, hl2, hm2⟩
    · rw [h0]
      go_enter Try.func13, Try.ntmps13
      go_wp2
      refine wp_loop_rounds 1 ?_
      rw [rounds_succ]
      go_wp2
      go_ret
      exact ⟨rfl, Below.refl _ _⟩
    · unfold maxLen at hm hm2
      go_enter Try.func13, Try.ntmps13
      go_wp2
      go_loopw [5] (fun i wr => ∃ k : Nat, k ≤ xs.length ∧ i = .int .i64 k ∧ Below w.heap.size w wr) (fun i _ => xs.length - (intOf i).toNat)
      case atStart => exact ⟨0, by omega, rfl, Below.refl _ _⟩
      case round =>
        obtain ⟨k, hk, rfl, acc⟩ := hrel
        by_cases hlt : k < xs.length
        · have hlt' : (k : Int) < (xs.length : Int) := by omega
          obtain ⟨e, he⟩ := row_get hlt
          obtain ⟨x0, x1, x2, x3, x4⟩ := cp_cells (hE.below acc k e he)
          obtain ⟨y0, y1, y2, y3, y4⟩ := cp_cells (hE2.below acc k e he)
          clear he
          go_wp2_with fail
          go_region_with (go_at_call 22; refine (eqCpu_same e _).mono ?_; rintro e1 w2 ⟨rfl, hb2⟩)
          all_goals
            replace hb2 := (Below.refl _ wr).drew.trans hb2
            go_wp2
            go_roundw
            case rel => exact ⟨k + 1, by omega, by go_num, acc.trans (hb2.mono acc.size)⟩
            case measure => simp [intOf]; omega
        · have hlt' : ¬ (k : Int) < (xs.length : Int) := by omega
          go_wp2
          go_ret
          exact ⟨rfl, acc⟩
end Go.Proofs.Ytocgndefjjomjaa
