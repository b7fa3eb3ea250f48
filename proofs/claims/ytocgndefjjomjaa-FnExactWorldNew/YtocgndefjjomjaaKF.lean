/- Rows of Tasks: what copies, compares, measures and marks them; such rows that came in, opened. -/
import Derived.Test.YtocgndefjjomjaaCF
namespace Go.Proofs.Ytocgndefjjomjaa
set_option linter.unusedVariables false
set_option linter.unusedSimpArgs false
open Go.ChangeShapes Go.WideShapes Go.ChangeAt Go.RowKit

structure Tk where
  st : Int
  gr : Int
  cpu : Int
  ni : Int
  ma : Int
  v : Int
  su : Int
  us : Int
  lo : Int
def tk0 : Tk := ⟨0, 0, 0, 0, 0, 0, 0, 0, 0⟩
def tkC (e : Tk) : List Value := [.int .i64 e.st, .int .i64 e.gr, .int .i64 e.cpu, .int .i64 e.ni, .int .i64 e.ma, .int .i64 e.v, .int .i64 e.su, .int .i64 e.us, .int .i64 e.lo]
def tkV (e : Tk) : Value := .agg #[.int .i64 e.st, .int .i64 e.gr, .int .i64 e.cpu, .int .i64 e.ni, .int .i64 e.ma, .int .i64 e.v, .int .i64 e.su, .int .i64 e.us, .int .i64 e.lo]
theorem tkC_len (e : Tk) : (tkC e).length = 9 := rfl
theorem tk_cells {W : World} {g o : Nat} {e : Tk} (h : W.rangeAt g o (tkC e)) : W.cell? ⟨g, o, none⟩ = some (.int .i64 e.st) ∧ W.cell? ⟨g, o + 1, none⟩ = some (.int .i64 e.gr) ∧ W.cell? ⟨g, o + 2, none⟩ = some (.int .i64 e.cpu) ∧ W.cell? ⟨g, o + 3, none⟩ = some (.int .i64 e.ni) ∧ W.cell? ⟨g, o + 4, none⟩ = some (.int .i64 e.ma) ∧ W.cell? ⟨g, o + 5, none⟩ = some (.int .i64 e.v) ∧ W.cell? ⟨g, o + 6, none⟩ = some (.int .i64 e.su) ∧ W.cell? ⟨g, o + 7, none⟩ = some (.int .i64 e.us) ∧ W.cell? ⟨g, o + 8, none⟩ = some (.int .i64 e.lo) :=
  ⟨h 0 _ rfl, h 1 _ rfl, h 2 _ rfl, h 3 _ rfl, h 4 _ rfl, h 5 _ rfl, h 6 _ rfl, h 7 _ rfl, h 8 _ rfl⟩
abbrev SlTk := SlR tkC 9
abbrev NewTk := NewR tkC 9
set_option maxHeartbeats 2000000 in
theorem eqTask_same (x : Tk) (w : World) : Calls Try.prog 23 #[tkV x, tkV x] w fun e w' => e = .returned (.bool true) ∧ Below w.heap.size w w' := by
  obtain ⟨st, gr, cpu, ni, ma, v, su, us, lo⟩ := x
  unfold tkV
  go_enter Try.func23, Try.ntmps23
  go_wp2
  go_ret
  exact ⟨rfl, by go_grown⟩
set_option maxHeartbeats 4000000 in
theorem eqTaskS_same (x y : Value) (xs : List Tk) (w : World) (hx : SlTk w x xs) (hy : SlTk w y xs) :
    Calls Try.prog 14 #[x, y] w fun e w' => e = .returned (.bool true) ∧ Below w.heap.size w w' := by
  rcases hx with ⟨h0, a, cap, rfl⟩ | ⟨g, o, cap, rfl, hE, hl, hm⟩
  · have : ∃ b cap', y = .slice b 0 cap' := by
      rcases hy with ⟨_, b, cap', rfl⟩ | ⟨g, o, cap', rfl, _⟩
      · exact ⟨_, _, rfl⟩
      · rw [h0]; exact ⟨_, _, rfl⟩
    obtain ⟨b, cap', rfl⟩ := this
    go_enter Try.func14, Try.ntmps14
    go_wp2
    refine wp_loop_rounds 1 ?_
    rw [rounds_succ]
    go_wp2
    go_ret
    exact ⟨rfl, Below.refl _ _⟩
  · rcases hy with ⟨h0, b, cap', rfl⟩ | ⟨g', o', cap', rfl, hE2, hl2, hm2⟩
    · rw [h0]
      go_enter Try.func14, Try.ntmps14
      go_wp2
      refine wp_loop_rounds 1 ?_
      rw [rounds_succ]
      go_wp2
      go_ret
      exact ⟨rfl, Below.refl _ _⟩
    · unfold maxLen at hm hm2
      go_enter Try.func14, Try.ntmps14
      go_wp2
      go_loopw [5] (fun i wr => ∃ k : Nat, k ≤ xs.length ∧ i = .int .i64 k ∧ Below w.heap.size w wr) (fun i _ => xs.length - (intOf i).toNat)
      case atStart => exact ⟨0, by omega, rfl, Below.refl _ _⟩
      case round =>
        obtain ⟨k, hk, rfl, acc⟩ := hrel
        by_cases hlt : k < xs.length
        · have hlt' : (k : Int) < (xs.length : Int) := by omega
          obtain ⟨e, he⟩ := row_get hlt
          obtain ⟨x0, x1, x2, x3, x4, x5, x6, x7, x8⟩ := tk_cells (hE.below acc k e he)
          obtain ⟨y0, y1, y2, y3, y4, y5, y6, y7, y8⟩ := tk_cells (hE2.below acc k e he)
          clear he
          go_wp2_with fail
          go_region_with (go_at_call 23; refine (eqTask_same e _).mono ?_; rintro e1 w2 ⟨rfl, hb2⟩)
          all_goals
            replace hb2 := (Below.refl _ wr).drew.trans hb2
            go_wp2
            go_roundw
            case rel => exact ⟨k + 1, by omega, by go_num, acc.trans (hb2.mono acc.size)⟩
            case measure => simp [intOf]; omega
        · have hlt' : ¬ (k : Int) < (xs.length : Int) := by omega
          go_wp2
          go_ret
          exact ⟨rfl, acc⟩
end Go.Proofs.Ytocgndefjjomjaa
