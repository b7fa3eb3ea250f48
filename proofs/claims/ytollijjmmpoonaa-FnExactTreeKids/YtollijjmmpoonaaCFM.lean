/- Rows of Cpus of one's own: what marks them, what asks whether they are held. -/
import Derived.Test.YtollijjmmpoonaaSFM
namespace Go.Proofs.Ytollijjmmpoonaa
set_option linter.unusedVariables false
set_option linter.unusedSimpArgs false
open Go.ChangeShapes Go.WideShapes Go.ChangeAt Go.RowKit

def mkCp (k : Int) : Cp := ⟨(k) % 3 == 0, k + 1, k + 1 + 1, k + 1 + 1 + 1, k + 1 + 1 + 1 + 1⟩
def mCp (k : Int) (n : Nat) : List Cp := (List.range n).map fun (i : Nat) => mkCp (k + 5 * (i : Int))
theorem mCp_len (k : Int) (n : Nat) : (mCp k n).length = n := by simp [mCp]
theorem mCp_get {k : Int} {n i : Nat} (h : i < n) : (mCp k n)[i]? = some (mkCp (k + 5 * (i : Int))) := by simp [mCp, h]
abbrev OwnCp := OwnR cpC 5
end Go.Proofs.Ytollijjmmpoonaa
