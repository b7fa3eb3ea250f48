/- The specification: groups. -/
import Derived.Test.YtnmmglkigiakaaaGreatC40
import Derived.Test.YtnmmglkigiakaaaGreatC41
import Derived.Test.YtnmmglkigiakaaaGreatC42
namespace Go.Proofs.YtnmmglkigiakaaaGreat
set_option linter.unusedVariables false
set_option linter.unusedSimpArgs false
open Go.ChangeShapes Go.WideShapes Go.ChangeAt Go.RowKit Go.Shelf Go.Sort
attribute [local go_sem] Oper.semAt_some
theorem l8GroupOk_any (k : Nat) (u : Wv) (e : Gv) (w : World) (hs : SlW w u) (he : u.gs[k]? = some e) :
    Calls Tryz.prog 64 #[wvV u, .int .i64 (k : Int)] w fun e' w' => e' = .returned (.bool (groupB u.now u.cs.length k e.d)) ∧ Below w.heap.size w w' := by
  cases hu : e.d.us
  · exact specGroup_no k u e w hs he hu
  · by_cases h0 : k = 0
    · subst h0; exact specGroup_root u e w hs he hu
    · by_cases hq : e.d.ba.qu = 0
      · exact specGroup_free k u e w hs he hu h0 hq
      · exact specGroup_quota k u e w hs he hu h0 hq
end Go.Proofs.YtnmmglkigiakaaaGreat
