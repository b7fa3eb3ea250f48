/-
  No cell of these rows narrows 'for every input' (looked for: loops, veiled, ifaces, maps, wideKeys, modest, calm, conditions, laid).
  DERIVED. THE GIVEN ROWS OF THIS SEAT. 5 by the template 'for every input the law returns true; each argument reads behind the call as it read before'; 0 by the template 'total and deterministic' (their statements: YtjfkonikcnlpjaaTotals.lean).
  GIVEN WITH THE SEED: the statements are not yours to turn. If you find one false, say at which input.
  Laid BY PROGRAM, IN A SANDBOX (cutbox-rows.mjs): the forced cells as the released guide's own fill.sh prints them over the translation b3f2f1eda00b2a57… (all of the seat's roots in one cut). By AI agents, Wed Nov 11 2026. No macro, syntax, notation, axiom, sorry.
-/
import Derived.Test.YtjfkonikcnlpjaaChecked
import GoSem.Claim
import GoSem.ClaimJoined
import GoSem.ClaimMapViews
import Derived.JoinedTies
import Derived.KernelRfl
namespace Go.Proofs.Ytjfkonikcnlpjaa
/- THE CELL 'sum', in the pinned program and in every row, IS THE sha256 OF THE DUMP (.gsa) THAT YtjfkonikcnlpjaaProg.lean LOADS. Nothing in Lean hashes anything: it is a label: what it is worth is what the hold of that sum in a sandbox is worth. -/
noncomputable def Try.pinned : Pinned := { name := "ytjfkonikcnlpjaa", sum := "b3f2f1eda00b2a575f27665a405078359187587c9cff5794306b343a0005b993", checked := Try.checked }
namespace Rows
def none {H : Type} : Left H := { results := [], args := [] }

/-- 'laws.FnExactMaskOk': WHATEVER THE INPUT: true; the input reads as it did. -/
def fnExactMaskOkSpec : ChangeSpec := { name := "fnExactMaskOk", fn := fun _ => fun
  | [d] => { results := [.lit (.bool true)], args := [d] }
  | _ => none }
def fnExactMaskOkRow : OpenClaim := { program := "ytjfkonikcnlpjaa", sum := "b3f2f1eda00b2a575f27665a405078359187587c9cff5794306b343a0005b993", func := "loop.example/stint/laws.FnExactMaskOk", spec := "fnExactMaskOk", apart := false }
def FnExactMaskOkSaid : Prop := fnExactMaskOkRow.holds Try.pinned (OpenSpec.ofChange fnExactMaskOkSpec)

/-- ITS FALSE NEIGHBOUR: 'it returns false'. Refute it at one input. -/
def fnExactMaskOkWrong : ChangeSpec := { name := "fnExactMaskOk", fn := fun _ => fun
  | [d] => { results := [.lit (.bool false)], args := [d] }
  | _ => none }
def FnExactMaskOkWrongFalsely : Prop := fnExactMaskOkRow.holds Try.pinned (OpenSpec.ofChange fnExactMaskOkWrong)

/-- 'laws.FnExactMaskHas': WHATEVER THE INPUT: true; the input reads as it did. -/
def fnExactMaskHasSpec : ChangeSpec := { name := "fnExactMaskHas", fn := fun _ => fun
  | [d1, d2] => { results := [.lit (.bool true)], args := [d1, d2] }
  | _ => none }
def fnExactMaskHasRow : OpenClaim := { program := "ytjfkonikcnlpjaa", sum := "b3f2f1eda00b2a575f27665a405078359187587c9cff5794306b343a0005b993", func := "loop.example/stint/laws.FnExactMaskHas", spec := "fnExactMaskHas", apart := false }
def FnExactMaskHasSaid : Prop := fnExactMaskHasRow.holds Try.pinned (OpenSpec.ofChange fnExactMaskHasSpec)

/-- ITS FALSE NEIGHBOUR: 'it returns false'. Refute it at one input. -/
def fnExactMaskHasWrong : ChangeSpec := { name := "fnExactMaskHas", fn := fun _ => fun
  | [d1, d2] => { results := [.lit (.bool false)], args := [d1, d2] }
  | _ => none }
def FnExactMaskHasWrongFalsely : Prop := fnExactMaskHasRow.holds Try.pinned (OpenSpec.ofChange fnExactMaskHasWrong)

/-- 'laws.FnExactMaskCount': WHATEVER THE INPUT: true; the input reads as it did. -/
def fnExactMaskCountSpec : ChangeSpec := { name := "fnExactMaskCount", fn := fun _ => fun
  | [d] => { results := [.lit (.bool true)], args := [d] }
  | _ => none }
def fnExactMaskCountRow : OpenClaim := { program := "ytjfkonikcnlpjaa", sum := "b3f2f1eda00b2a575f27665a405078359187587c9cff5794306b343a0005b993", func := "loop.example/stint/laws.FnExactMaskCount", spec := "fnExactMaskCount", unfollowed := true, recurses := true, apart := false }
def FnExactMaskCountSaid : Prop := fnExactMaskCountRow.holds Try.pinned (OpenSpec.ofChange fnExactMaskCountSpec)

/-- ITS FALSE NEIGHBOUR: 'it returns false'. Refute it at one input. -/
def fnExactMaskCountWrong : ChangeSpec := { name := "fnExactMaskCount", fn := fun _ => fun
  | [d] => { results := [.lit (.bool false)], args := [d] }
  | _ => none }
def FnExactMaskCountWrongFalsely : Prop := fnExactMaskCountRow.holds Try.pinned (OpenSpec.ofChange fnExactMaskCountWrong)

/-- 'laws.FnExactMaskFirst': WHATEVER THE INPUT: true; the input reads as it did. -/
def fnExactMaskFirstSpec : ChangeSpec := { name := "fnExactMaskFirst", fn := fun _ => fun
  | [d] => { results := [.lit (.bool true)], args := [d] }
  | _ => none }
def fnExactMaskFirstRow : OpenClaim := { program := "ytjfkonikcnlpjaa", sum := "b3f2f1eda00b2a575f27665a405078359187587c9cff5794306b343a0005b993", func := "loop.example/stint/laws.FnExactMaskFirst", spec := "fnExactMaskFirst", unfollowed := true, recurses := true, apart := false }
def FnExactMaskFirstSaid : Prop := fnExactMaskFirstRow.holds Try.pinned (OpenSpec.ofChange fnExactMaskFirstSpec)

/-- ITS FALSE NEIGHBOUR: 'it returns false'. Refute it at one input. -/
def fnExactMaskFirstWrong : ChangeSpec := { name := "fnExactMaskFirst", fn := fun _ => fun
  | [d] => { results := [.lit (.bool false)], args := [d] }
  | _ => none }
def FnExactMaskFirstWrongFalsely : Prop := fnExactMaskFirstRow.holds Try.pinned (OpenSpec.ofChange fnExactMaskFirstWrong)

/-- 'laws.FnExactMaskAnd': WHATEVER THE INPUT: true; the input reads as it did. -/
def fnExactMaskAndSpec : ChangeSpec := { name := "fnExactMaskAnd", fn := fun _ => fun
  | [d1, d2] => { results := [.lit (.bool true)], args := [d1, d2] }
  | _ => none }
def fnExactMaskAndRow : OpenClaim := { program := "ytjfkonikcnlpjaa", sum := "b3f2f1eda00b2a575f27665a405078359187587c9cff5794306b343a0005b993", func := "loop.example/stint/laws.FnExactMaskAnd", spec := "fnExactMaskAnd", apart := false }
def FnExactMaskAndSaid : Prop := fnExactMaskAndRow.holds Try.pinned (OpenSpec.ofChange fnExactMaskAndSpec)

/-- ITS FALSE NEIGHBOUR: 'it returns false'. Refute it at one input. -/
def fnExactMaskAndWrong : ChangeSpec := { name := "fnExactMaskAnd", fn := fun _ => fun
  | [d1, d2] => { results := [.lit (.bool false)], args := [d1, d2] }
  | _ => none }
def FnExactMaskAndWrongFalsely : Prop := fnExactMaskAndRow.holds Try.pinned (OpenSpec.ofChange fnExactMaskAndWrong)

/- THE SECOND FORM. 'bulk': how many values and letters a reading holds, each counted each time it is reached (what is shared counts as often as it is met; a slice's spare places count too). A statement '..UptoSaid' is the law's where the arguments, and the package variables that the reading takes, are together of bulk at most 1048576: NARROWER than '..Said'. Prove '..Said' where nothing that the law and all that it calls make is longer than what came in: it says more and counts as full. Else prove '..UptoSaid'. A law counts once. -/
mutual
def uptoBulk {H : Type} : DataW H → Nat
  | .lit (.string bytes) => bytes.length + 1
  | .lit _ => 1
  | .nil => 1
  | .ptr d => uptoBulk d + 1
  | .slice elems spare => uptoBulkAll elems + uptoBulkAll spare + 1
  | .agg parts => uptoBulkAll parts + 1
  | .iface _ d => uptoBulk d + 1
  | .map entries => uptoBulkEntries entries + 1
  | .held _ => 1
def uptoBulkAll {H : Type} : List (DataW H) → Nat
  | [] => 0
  | d :: r => uptoBulk d + uptoBulkAll r
def uptoBulkEntries {H : Type} : List (Lit × DataW H) → Nat
  | [] => 0
  | x :: r => uptoBulkEntry x + uptoBulkEntries r
def uptoBulkEntry {H : Type} : Lit × DataW H → Nat
  | (.string bytes, d) => bytes.length + uptoBulk d + 1
  | (_, d) => uptoBulk d + 1
 end
def uptoSmall : (H : Type) → List (DataW H) → Bool := fun _ ds => decide (uptoBulkAll ds ≤ 1048576)
def OpenSpec.upto (s : _root_.Go.ChangeSpec) : _root_.Go.OpenSpec := { _root_.Go.OpenSpec.ofChange s with cond := some uptoSmall }

/-- 'laws.FnExactMaskOk', WHERE WHAT IT READS IS OF BULK AT MOST 1048576: true; the input reads as it did. -/
def fnExactMaskOkUptoRow : OpenClaim := { program := "ytjfkonikcnlpjaa", sum := "b3f2f1eda00b2a575f27665a405078359187587c9cff5794306b343a0005b993", func := "loop.example/stint/laws.FnExactMaskOk", spec := "fnExactMaskOk", apart := false, narrowed := true }
def FnExactMaskOkUptoSaid : Prop := fnExactMaskOkUptoRow.holds Try.pinned (OpenSpec.upto fnExactMaskOkSpec)

/-- 'laws.FnExactMaskHas', WHERE WHAT IT READS IS OF BULK AT MOST 1048576: true; the input reads as it did. -/
def fnExactMaskHasUptoRow : OpenClaim := { program := "ytjfkonikcnlpjaa", sum := "b3f2f1eda00b2a575f27665a405078359187587c9cff5794306b343a0005b993", func := "loop.example/stint/laws.FnExactMaskHas", spec := "fnExactMaskHas", apart := false, narrowed := true }
def FnExactMaskHasUptoSaid : Prop := fnExactMaskHasUptoRow.holds Try.pinned (OpenSpec.upto fnExactMaskHasSpec)

/-- 'laws.FnExactMaskCount', WHERE WHAT IT READS IS OF BULK AT MOST 1048576: true; the input reads as it did. -/
def fnExactMaskCountUptoRow : OpenClaim := { program := "ytjfkonikcnlpjaa", sum := "b3f2f1eda00b2a575f27665a405078359187587c9cff5794306b343a0005b993", func := "loop.example/stint/laws.FnExactMaskCount", spec := "fnExactMaskCount", unfollowed := true, recurses := true, apart := false, narrowed := true }
def FnExactMaskCountUptoSaid : Prop := fnExactMaskCountUptoRow.holds Try.pinned (OpenSpec.upto fnExactMaskCountSpec)

/-- 'laws.FnExactMaskFirst', WHERE WHAT IT READS IS OF BULK AT MOST 1048576: true; the input reads as it did. -/
def fnExactMaskFirstUptoRow : OpenClaim := { program := "ytjfkonikcnlpjaa", sum := "b3f2f1eda00b2a575f27665a405078359187587c9cff5794306b343a0005b993", func := "loop.example/stint/laws.FnExactMaskFirst", spec := "fnExactMaskFirst", unfollowed := true, recurses := true, apart := false, narrowed := true }
def FnExactMaskFirstUptoSaid : Prop := fnExactMaskFirstUptoRow.holds Try.pinned (OpenSpec.upto fnExactMaskFirstSpec)

/-- 'laws.FnExactMaskAnd', WHERE WHAT IT READS IS OF BULK AT MOST 1048576: true; the input reads as it did. -/
def fnExactMaskAndUptoRow : OpenClaim := { program := "ytjfkonikcnlpjaa", sum := "b3f2f1eda00b2a575f27665a405078359187587c9cff5794306b343a0005b993", func := "loop.example/stint/laws.FnExactMaskAnd", spec := "fnExactMaskAnd", apart := false, narrowed := true }
def FnExactMaskAndUptoSaid : Prop := fnExactMaskAndUptoRow.holds Try.pinned (OpenSpec.upto fnExactMaskAndSpec)

end Rows
end Go.Proofs.Ytjfkonikcnlpjaa
