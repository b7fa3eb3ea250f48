/- What chapter 12's readers lean on, together. -/
import Derived.Test.YtnmmglkigiakaaaGreatC48
import Derived.Test.YtnmmglkigiakaaaGreatC51
import Derived.Test.YtnmmglkigiakaaaGreatC52
import Derived.Test.YtnmmglkigiakaaaGreatC05
namespace Go.Proofs.YtnmmglkigiakaaaGreat
end Go.Proofs.YtnmmglkigiakaaaGreat
