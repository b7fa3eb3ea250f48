/- Rows of Tasks: what copies, compares, measures and marks them; such rows that came in, opened. -/
import Derived.Test.YtollijjmmpoonaaCF
namespace Go.Proofs.Ytollijjmmpoonaa
set_option linter.unusedVariables false
set_option linter.unusedSimpArgs false
open Go.ChangeShapes Go.WideShapes Go.ChangeAt Go.RowKit

structure Tk where
  st : Int
  gr : Int
  cpu : Int
  ni : Int
  ma : Int
  v : Int
  su : Int
  us : Int
  lo : Int
def tk0 : Tk := ⟨0, 0, 0, 0, 0, 0, 0, 0, 0⟩
def tkC (e : Tk) : List Value := [.int .i64 e.st, .int .i64 e.gr, .int .i64 e.cpu, .int .i64 e.ni, .int .i64 e.ma, .int .i64 e.v, .int .i64 e.su, .int .i64 e.us, .int .i64 e.lo]
def tkV (e : Tk) : Value := .agg #[.int .i64 e.st, .int .i64 e.gr, .int .i64 e.cpu, .int .i64 e.ni, .int .i64 e.ma, .int .i64 e.v, .int .i64 e.su, .int .i64 e.us, .int .i64 e.lo]
theorem tkC_len (e : Tk) : (tkC e).length = 9 := rfl
theorem tk_cells {W : World} {g o : Nat} {e : Tk} (h : W.rangeAt g o (tkC e)) : W.cell? ⟨g, o, none⟩ = some (.int .i64 e.st) ∧ W.cell? ⟨g, o + 1, none⟩ = some (.int .i64 e.gr) ∧ W.cell? ⟨g, o + 2, none⟩ = some (.int .i64 e.cpu) ∧ W.cell? ⟨g, o + 3, none⟩ = some (.int .i64 e.ni) ∧ W.cell? ⟨g, o + 4, none⟩ = some (.int .i64 e.ma) ∧ W.cell? ⟨g, o + 5, none⟩ = some (.int .i64 e.v) ∧ W.cell? ⟨g, o + 6, none⟩ = some (.int .i64 e.su) ∧ W.cell? ⟨g, o + 7, none⟩ = some (.int .i64 e.us) ∧ W.cell? ⟨g, o + 8, none⟩ = some (.int .i64 e.lo) :=
  ⟨h 0 _ rfl, h 1 _ rfl, h 2 _ rfl, h 3 _ rfl, h 4 _ rfl, h 5 _ rfl, h 6 _ rfl, h 7 _ rfl, h 8 _ rfl⟩
abbrev SlTk := SlR tkC 9
abbrev NewTk := NewR tkC 9
end Go.Proofs.Ytollijjmmpoonaa
