/- Rows of Shelfs: what copies, compares, measures and marks them; such rows that came in, opened. -/
import Derived.Test.YtocgndefjjomjaaOR
namespace Go.Proofs.Ytocgndefjjomjaa
set_option linter.unusedVariables false
set_option linter.unusedSimpArgs false
open Go.ChangeShapes Go.WideShapes Go.ChangeAt Go.RowKit

structure Sh where
  fl : Int
  on : Bool
  v : Int
  w : Int
  s : Int
def sh0 : Sh := ⟨0, false, 0, 0, 0⟩
def shC (e : Sh) : List Value := [.int .i64 e.fl, .bool e.on, .int .i64 e.v, .int .i64 e.w, .int .i64 e.s]
def shV (e : Sh) : Value := .agg #[.int .i64 e.fl, .bool e.on, .int .i64 e.v, .int .i64 e.w, .int .i64 e.s]
theorem shC_len (e : Sh) : (shC e).length = 5 := rfl
theorem sh_cells {W : World} {g o : Nat} {e : Sh} (h : W.rangeAt g o (shC e)) : W.cell? ⟨g, o, none⟩ = some (.int .i64 e.fl) ∧ W.cell? ⟨g, o + 1, none⟩ = some (.bool e.on) ∧ W.cell? ⟨g, o + 2, none⟩ = some (.int .i64 e.v) ∧ W.cell? ⟨g, o + 3, none⟩ = some (.int .i64 e.w) ∧ W.cell? ⟨g, o + 4, none⟩ = some (.int .i64 e.s) :=
  ⟨h 0 _ rfl, h 1 _ rfl, h 2 _ rfl, h 3 _ rfl, h 4 _ rfl⟩
abbrev SlSh := SlR shC 5
abbrev NewSh := NewR shC 5
set_option maxHeartbeats 2000000 in
theorem eqShelf_same (x : Sh) (w : World) : Calls Try.prog 36 #[shV x, shV x] w fun e w' => e = .returned (.bool true) ∧ Below w.heap.size w w' := by
  obtain ⟨fl, on, v, w, s⟩ := x
  unfold shV
  go_enter Try.func36, Try.ntmps36
  go_wp2
  go_ret
  exact ⟨rfl, by go_grown⟩
set_option maxHeartbeats 4000000 in
theorem eqShelfS_same (x y : Value) (xs : List Sh) (w : World) (hx : SlSh w x xs) (hy : SlSh w y xs) :
    Calls Try.prog 33 #[x, y] w fun e w' => e = .returned (.bool true) ∧ Below w.heap.size w w' := by
  rcases hx with ⟨h0, a, cap, rfl⟩ | ⟨g, o, cap, rfl, hE, hl, hm⟩
  · have : ∃ b cap', y = .slice b 0 cap' := by
      rcases hy with ⟨_, b, cap', rfl⟩ | ⟨g, o, cap', rfl, _⟩
      · exact ⟨_, _, rfl⟩
      · rw [h0]; exact ⟨_, _, rfl⟩
    obtain ⟨b, cap', rfl⟩ := this
    go_enter Try.func33, Try.ntmps33
    go_wp2
    refine wp_loop_rounds 1 ?_
    rw [rounds_succ]
    go_wp2
    go_ret
    exact ⟨rfl, Below.refl _ _⟩
  · rcases hy with ⟨h0, b, cap', rfl⟩ | ⟨g', o', cap', rfl, hE2, hl2, hm2⟩
    · rw [h0]
      go_enter Try.func33, Try.ntmps33
      go_wp2
      refine wp_loop_rounds 1 ?_
      rw [rounds_succ]
      go_wp2
      go_ret
      exact ⟨rfl, Below.refl _ _⟩
    · unfold maxLen at hm hm2
      go_enter Try.func33, Try.ntmps33
      go_wp2
      go_loopw [5] (fun i wr => ∃ k : Nat, k ≤ xs.length ∧ i = .int .i64 k ∧ Below w.heap.size w wr) (fun i _ => xs.length - (intOf i).toNat)
      case atStart => exact ⟨0, by omega, rfl, Below.refl _ _⟩
      case round =>
        obtain ⟨k, hk, rfl, acc⟩ := hrel
        by_cases hlt : k < xs.length
        · have hlt' : (k : Int) < (xs.length : Int) := by omega
          obtain ⟨e, he⟩ := row_get hlt
          obtain ⟨x0, x1, x2, x3, x4⟩ := sh_cells (hE.below acc k e he)
          obtain ⟨y0, y1, y2, y3, y4⟩ := sh_cells (hE2.below acc k e he)
          clear he
          go_wp2_with fail
          go_region_with (go_at_call 36; refine (eqShelf_same e _).mono ?_; rintro e1 w2 ⟨rfl, hb2⟩)
          all_goals
            replace hb2 := (Below.refl _ wr).drew.trans hb2
            go_wp2
            go_roundw
            case rel => exact ⟨k + 1, by omega, by go_num, acc.trans (hb2.mono acc.size)⟩
            case measure => simp [intOf]; omega
        · have hlt' : ¬ (k : Int) < (xs.length : Int) := by omega
          go_wp2
          go_ret
          exact ⟨rfl, acc⟩
end Go.Proofs.Ytocgndefjjomjaa
