/- Rows of Tasks of one's own: what marks them, what asks whether they are held. -/
import Derived.Test.YtollijjmmpoonaaCFM
namespace Go.Proofs.Ytollijjmmpoonaa
set_option linter.unusedVariables false
set_option linter.unusedSimpArgs false
open Go.ChangeShapes Go.WideShapes Go.ChangeAt Go.RowKit

def mkTk (k : Int) : Tk := ⟨k, k + 1, k + 1 + 1, k + 1 + 1 + 1, k + 1 + 1 + 1 + 1, k + 1 + 1 + 1 + 1 + 1, k + 1 + 1 + 1 + 1 + 1 + 1, k + 1 + 1 + 1 + 1 + 1 + 1 + 1, k + 1 + 1 + 1 + 1 + 1 + 1 + 1 + 1⟩
def mTk (k : Int) (n : Nat) : List Tk := (List.range n).map fun (i : Nat) => mkTk (k + 9 * (i : Int))
theorem mTk_len (k : Int) (n : Nat) : (mTk k n).length = n := by simp [mTk]
theorem mTk_get {k : Int} {n i : Nat} (h : i < n) : (mTk k n)[i]? = some (mkTk (k + 9 * (i : Int))) := by simp [mTk, h]
abbrev OwnTk := OwnR tkC 9
end Go.Proofs.Ytollijjmmpoonaa
