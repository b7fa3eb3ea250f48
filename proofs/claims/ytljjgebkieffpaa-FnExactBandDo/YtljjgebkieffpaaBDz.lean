/- The specification's BandDo. -/
import Derived.Test.YtljjgebkieffpaaBDa
import Derived.Test.YtljjgebkieffpaaBDb
import Derived.Test.YtljjgebkieffpaaBDc
import Derived.Test.YtljjgebkieffpaaBDd
import Derived.Test.YtljjgebkieffpaaBDe
namespace Go.Proofs.Ytljjgebkieffpaa
open Go.ChangeShapes Go.WideShapes Go.ChangeAt Go.RowKit

theorem spec_bandDo (b : Ba) (x y : Value) (k c n : Int) (w : World) (hs : SlBa w x y b) :
    Calls Try.prog 12 #[baV b x y, boV k c n] w fun e w' => ∃ x' y', e = .returned (.tuple #[baV (doBa b k c n).1 x' y', .int .i64 (doBa b k c n).2]) ∧ OwnBa w.heap.size w' x' y' (doBa b k c n).1 ∧ Below w.heap.size w w' := by
  cases hok : bandOk b
  · exact spec_bandDo_no b x y k c n w hs hok
  · by_cases c4 : k = 4
    · exact spec_do4 b x y k c n w hs hok c4
    · by_cases hc : hasB b c = true
      · by_cases k1 : k = 1
        · exact spec_do1 b x y k c n w hs hok c4 hc k1
        · by_cases k2 : k = 2
          · exact spec_do2 b x y k c n w hs hok c4 hc k1 k2
          · by_cases k3 : k = 3
            · exact spec_do3 b x y k c n w hs hok c4 hc k1 k2 k3
            · exact spec_doBad b x y k c n w hs hok c4 (fun _ => ⟨k1, k2, k3⟩)
      · exact spec_doBad b x y k c n w hs hok c4 (fun h => absurd h hc)
end Go.Proofs.Ytljjgebkieffpaa
