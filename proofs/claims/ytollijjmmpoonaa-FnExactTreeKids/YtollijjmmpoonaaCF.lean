/- Rows of Cpus: what copies, compares, measures and marks them; such rows that came in, opened. -/
import Derived.Test.YtollijjmmpoonaaSF
namespace Go.Proofs.Ytollijjmmpoonaa
set_option linter.unusedVariables false
set_option linter.unusedSimpArgs false
open Go.ChangeShapes Go.WideShapes Go.ChangeAt Go.RowKit

structure Cp where
  up : Bool
  cur : Int
  ran : Int
  busy : Int
  idle : Int
def cp0 : Cp := ⟨false, 0, 0, 0, 0⟩
def cpC (e : Cp) : List Value := [.bool e.up, .int .i64 e.cur, .int .i64 e.ran, .int .i64 e.busy, .int .i64 e.idle]
def cpV (e : Cp) : Value := .agg #[.bool e.up, .int .i64 e.cur, .int .i64 e.ran, .int .i64 e.busy, .int .i64 e.idle]
theorem cpC_len (e : Cp) : (cpC e).length = 5 := rfl
theorem cp_cells {W : World} {g o : Nat} {e : Cp} (h : W.rangeAt g o (cpC e)) : W.cell? ⟨g, o, none⟩ = some (.bool e.up) ∧ W.cell? ⟨g, o + 1, none⟩ = some (.int .i64 e.cur) ∧ W.cell? ⟨g, o + 2, none⟩ = some (.int .i64 e.ran) ∧ W.cell? ⟨g, o + 3, none⟩ = some (.int .i64 e.busy) ∧ W.cell? ⟨g, o + 4, none⟩ = some (.int .i64 e.idle) :=
  ⟨h 0 _ rfl, h 1 _ rfl, h 2 _ rfl, h 3 _ rfl, h 4 _ rfl⟩
abbrev SlCp := SlR cpC 5
abbrev NewCp := NewR cpC 5
end Go.Proofs.Ytollijjmmpoonaa
