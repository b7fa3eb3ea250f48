/-
  No cell of these rows narrows 'for every input' (looked for: loops, veiled, ifaces, maps, wideKeys, modest, calm, conditions, laid).
  DERIVED. THE GIVEN ROWS OF THIS SEAT. 11 by the template 'for every input the law returns true; each argument reads behind the call as it read before'; 0 by the template 'total and deterministic' (their statements: YtbkdkcgckdienaaTotals.lean).
  GIVEN WITH THE SEED: the statements are not yours to turn. If you find one false, say at which input.
  Laid BY PROGRAM, IN A SANDBOX (cutbox-rows.mjs): the forced cells as the released guide's own fill.sh prints them over the translation 1b9440afda7d5d41… (all of the seat's roots in one cut). By AI agents, Wed Nov 11 2026. No macro, syntax, notation, axiom, sorry.
-/
import Derived.Test.YtbkdkcgckdienaaChecked
import GoSem.Claim
import GoSem.ClaimJoined
import GoSem.ClaimMapViews
import Derived.JoinedTies
import Derived.KernelRfl
namespace Go.Proofs.Ytbkdkcgckdienaa
/- THE CELL 'sum', in the pinned program and in every row, IS THE sha256 OF THE DUMP (.gsa) THAT YtbkdkcgckdienaaProg.lean LOADS. Nothing in Lean hashes anything: it is a label: what it is worth is what the hold of that sum in a sandbox is worth. -/
noncomputable def Try.pinned : Pinned := { name := "ytbkdkcgckdienaa", sum := "1b9440afda7d5d410774b12afc9c1fa0b62bb786d9dfd98521b560ab58b86f75", checked := Try.checked }
namespace Rows
def none {H : Type} : Left H := { results := [], args := [] }

/-- 'laws.FnWeights': WHATEVER THE INPUT: true; the input reads as it did. -/
def fnWeightsSpec : ChangeSpec := { name := "fnWeights", fn := fun _ => fun
  | [d1, d2] => { results := [.lit (.bool true)], args := [d1, d2] }
  | _ => none }
def fnWeightsRow : OpenClaim := { program := "ytbkdkcgckdienaa", sum := "1b9440afda7d5d410774b12afc9c1fa0b62bb786d9dfd98521b560ab58b86f75", func := "loop.example/stint/laws.FnWeights", spec := "fnWeights", apart := false }
def FnWeightsSaid : Prop := fnWeightsRow.holds Try.pinned (OpenSpec.ofChange fnWeightsSpec)

/-- ITS FALSE NEIGHBOUR: 'it returns false'. Refute it at one input. -/
def fnWeightsWrong : ChangeSpec := { name := "fnWeights", fn := fun _ => fun
  | [d1, d2] => { results := [.lit (.bool false)], args := [d1, d2] }
  | _ => none }
def FnWeightsWrongFalsely : Prop := fnWeightsRow.holds Try.pinned (OpenSpec.ofChange fnWeightsWrong)

/-- 'laws.FnDecay': WHATEVER THE INPUT: true; the input reads as it did. -/
def fnDecaySpec : ChangeSpec := { name := "fnDecay", fn := fun _ => fun
  | [d] => { results := [.lit (.bool true)], args := [d] }
  | _ => none }
def fnDecayRow : OpenClaim := { program := "ytbkdkcgckdienaa", sum := "1b9440afda7d5d410774b12afc9c1fa0b62bb786d9dfd98521b560ab58b86f75", func := "loop.example/stint/laws.FnDecay", spec := "fnDecay", apart := false }
def FnDecaySaid : Prop := fnDecayRow.holds Try.pinned (OpenSpec.ofChange fnDecaySpec)

/-- ITS FALSE NEIGHBOUR: 'it returns false'. Refute it at one input. -/
def fnDecayWrong : ChangeSpec := { name := "fnDecay", fn := fun _ => fun
  | [d] => { results := [.lit (.bool false)], args := [d] }
  | _ => none }
def FnDecayWrongFalsely : Prop := fnDecayRow.holds Try.pinned (OpenSpec.ofChange fnDecayWrong)

/-- 'laws.FnExactWeightOf': WHATEVER THE INPUT: true; the input reads as it did. -/
def fnExactWeightOfSpec : ChangeSpec := { name := "fnExactWeightOf", fn := fun _ => fun
  | [d] => { results := [.lit (.bool true)], args := [d] }
  | _ => none }
def fnExactWeightOfRow : OpenClaim := { program := "ytbkdkcgckdienaa", sum := "1b9440afda7d5d410774b12afc9c1fa0b62bb786d9dfd98521b560ab58b86f75", func := "loop.example/stint/laws.FnExactWeightOf", spec := "fnExactWeightOf", apart := false }
def FnExactWeightOfSaid : Prop := fnExactWeightOfRow.holds Try.pinned (OpenSpec.ofChange fnExactWeightOfSpec)

/-- ITS FALSE NEIGHBOUR: 'it returns false'. Refute it at one input. -/
def fnExactWeightOfWrong : ChangeSpec := { name := "fnExactWeightOf", fn := fun _ => fun
  | [d] => { results := [.lit (.bool false)], args := [d] }
  | _ => none }
def FnExactWeightOfWrongFalsely : Prop := fnExactWeightOfRow.holds Try.pinned (OpenSpec.ofChange fnExactWeightOfWrong)

/-- 'laws.FnExactNiceOf': WHATEVER THE INPUT: true; the input reads as it did. -/
def fnExactNiceOfSpec : ChangeSpec := { name := "fnExactNiceOf", fn := fun _ => fun
  | [d] => { results := [.lit (.bool true)], args := [d] }
  | _ => none }
def fnExactNiceOfRow : OpenClaim := { program := "ytbkdkcgckdienaa", sum := "1b9440afda7d5d410774b12afc9c1fa0b62bb786d9dfd98521b560ab58b86f75", func := "loop.example/stint/laws.FnExactNiceOf", spec := "fnExactNiceOf", apart := false }
def FnExactNiceOfSaid : Prop := fnExactNiceOfRow.holds Try.pinned (OpenSpec.ofChange fnExactNiceOfSpec)

/-- ITS FALSE NEIGHBOUR: 'it returns false'. Refute it at one input. -/
def fnExactNiceOfWrong : ChangeSpec := { name := "fnExactNiceOf", fn := fun _ => fun
  | [d] => { results := [.lit (.bool false)], args := [d] }
  | _ => none }
def FnExactNiceOfWrongFalsely : Prop := fnExactNiceOfRow.holds Try.pinned (OpenSpec.ofChange fnExactNiceOfWrong)

/-- 'laws.FnExactVirtualStep': WHATEVER THE INPUT: true; the input reads as it did. -/
def fnExactVirtualStepSpec : ChangeSpec := { name := "fnExactVirtualStep", fn := fun _ => fun
  | [d1, d2] => { results := [.lit (.bool true)], args := [d1, d2] }
  | _ => none }
def fnExactVirtualStepRow : OpenClaim := { program := "ytbkdkcgckdienaa", sum := "1b9440afda7d5d410774b12afc9c1fa0b62bb786d9dfd98521b560ab58b86f75", func := "loop.example/stint/laws.FnExactVirtualStep", spec := "fnExactVirtualStep", apart := false }
def FnExactVirtualStepSaid : Prop := fnExactVirtualStepRow.holds Try.pinned (OpenSpec.ofChange fnExactVirtualStepSpec)

/-- ITS FALSE NEIGHBOUR: 'it returns false'. Refute it at one input. -/
def fnExactVirtualStepWrong : ChangeSpec := { name := "fnExactVirtualStep", fn := fun _ => fun
  | [d1, d2] => { results := [.lit (.bool false)], args := [d1, d2] }
  | _ => none }
def FnExactVirtualStepWrongFalsely : Prop := fnExactVirtualStepRow.holds Try.pinned (OpenSpec.ofChange fnExactVirtualStepWrong)

/-- 'laws.FnExactVirtualUnits': WHATEVER THE INPUT: true; the input reads as it did. -/
def fnExactVirtualUnitsSpec : ChangeSpec := { name := "fnExactVirtualUnits", fn := fun _ => fun
  | [d1, d2] => { results := [.lit (.bool true)], args := [d1, d2] }
  | _ => none }
def fnExactVirtualUnitsRow : OpenClaim := { program := "ytbkdkcgckdienaa", sum := "1b9440afda7d5d410774b12afc9c1fa0b62bb786d9dfd98521b560ab58b86f75", func := "loop.example/stint/laws.FnExactVirtualUnits", spec := "fnExactVirtualUnits", apart := false }
def FnExactVirtualUnitsSaid : Prop := fnExactVirtualUnitsRow.holds Try.pinned (OpenSpec.ofChange fnExactVirtualUnitsSpec)

/-- ITS FALSE NEIGHBOUR: 'it returns false'. Refute it at one input. -/
def fnExactVirtualUnitsWrong : ChangeSpec := { name := "fnExactVirtualUnits", fn := fun _ => fun
  | [d1, d2] => { results := [.lit (.bool false)], args := [d1, d2] }
  | _ => none }
def FnExactVirtualUnitsWrongFalsely : Prop := fnExactVirtualUnitsRow.holds Try.pinned (OpenSpec.ofChange fnExactVirtualUnitsWrong)

/-- 'laws.FnExactLagMost': WHATEVER THE INPUT: true; the input reads as it did. -/
def fnExactLagMostSpec : ChangeSpec := { name := "fnExactLagMost", fn := fun _ => fun
  | [d] => { results := [.lit (.bool true)], args := [d] }
  | _ => none }
def fnExactLagMostRow : OpenClaim := { program := "ytbkdkcgckdienaa", sum := "1b9440afda7d5d410774b12afc9c1fa0b62bb786d9dfd98521b560ab58b86f75", func := "loop.example/stint/laws.FnExactLagMost", spec := "fnExactLagMost", apart := false }
def FnExactLagMostSaid : Prop := fnExactLagMostRow.holds Try.pinned (OpenSpec.ofChange fnExactLagMostSpec)

/-- ITS FALSE NEIGHBOUR: 'it returns false'. Refute it at one input. -/
def fnExactLagMostWrong : ChangeSpec := { name := "fnExactLagMost", fn := fun _ => fun
  | [d] => { results := [.lit (.bool false)], args := [d] }
  | _ => none }
def FnExactLagMostWrongFalsely : Prop := fnExactLagMostRow.holds Try.pinned (OpenSpec.ofChange fnExactLagMostWrong)

/-- 'laws.FnExactLagCut': WHATEVER THE INPUT: true; the input reads as it did. -/
def fnExactLagCutSpec : ChangeSpec := { name := "fnExactLagCut", fn := fun _ => fun
  | [d1, d2] => { results := [.lit (.bool true)], args := [d1, d2] }
  | _ => none }
def fnExactLagCutRow : OpenClaim := { program := "ytbkdkcgckdienaa", sum := "1b9440afda7d5d410774b12afc9c1fa0b62bb786d9dfd98521b560ab58b86f75", func := "loop.example/stint/laws.FnExactLagCut", spec := "fnExactLagCut", apart := false }
def FnExactLagCutSaid : Prop := fnExactLagCutRow.holds Try.pinned (OpenSpec.ofChange fnExactLagCutSpec)

/-- ITS FALSE NEIGHBOUR: 'it returns false'. Refute it at one input. -/
def fnExactLagCutWrong : ChangeSpec := { name := "fnExactLagCut", fn := fun _ => fun
  | [d1, d2] => { results := [.lit (.bool false)], args := [d1, d2] }
  | _ => none }
def FnExactLagCutWrongFalsely : Prop := fnExactLagCutRow.holds Try.pinned (OpenSpec.ofChange fnExactLagCutWrong)

/-- 'laws.FnExactDecayBeat': WHATEVER THE INPUT: true; the input reads as it did. -/
def fnExactDecayBeatSpec : ChangeSpec := { name := "fnExactDecayBeat", fn := fun _ => fun
  | [d1, d2] => { results := [.lit (.bool true)], args := [d1, d2] }
  | _ => none }
def fnExactDecayBeatRow : OpenClaim := { program := "ytbkdkcgckdienaa", sum := "1b9440afda7d5d410774b12afc9c1fa0b62bb786d9dfd98521b560ab58b86f75", func := "loop.example/stint/laws.FnExactDecayBeat", spec := "fnExactDecayBeat", apart := false }
def FnExactDecayBeatSaid : Prop := fnExactDecayBeatRow.holds Try.pinned (OpenSpec.ofChange fnExactDecayBeatSpec)

/-- ITS FALSE NEIGHBOUR: 'it returns false'. Refute it at one input. -/
def fnExactDecayBeatWrong : ChangeSpec := { name := "fnExactDecayBeat", fn := fun _ => fun
  | [d1, d2] => { results := [.lit (.bool false)], args := [d1, d2] }
  | _ => none }
def FnExactDecayBeatWrongFalsely : Prop := fnExactDecayBeatRow.holds Try.pinned (OpenSpec.ofChange fnExactDecayBeatWrong)

/-- 'laws.FnExactDecayBeats': WHATEVER THE INPUT: true; the input reads as it did. -/
def fnExactDecayBeatsSpec : ChangeSpec := { name := "fnExactDecayBeats", fn := fun _ => fun
  | [d1, d2, d3] => { results := [.lit (.bool true)], args := [d1, d2, d3] }
  | _ => none }
def fnExactDecayBeatsRow : OpenClaim := { program := "ytbkdkcgckdienaa", sum := "1b9440afda7d5d410774b12afc9c1fa0b62bb786d9dfd98521b560ab58b86f75", func := "loop.example/stint/laws.FnExactDecayBeats", spec := "fnExactDecayBeats", apart := false }
def FnExactDecayBeatsSaid : Prop := fnExactDecayBeatsRow.holds Try.pinned (OpenSpec.ofChange fnExactDecayBeatsSpec)

/-- ITS FALSE NEIGHBOUR: 'it returns false'. Refute it at one input. -/
def fnExactDecayBeatsWrong : ChangeSpec := { name := "fnExactDecayBeats", fn := fun _ => fun
  | [d1, d2, d3] => { results := [.lit (.bool false)], args := [d1, d2, d3] }
  | _ => none }
def FnExactDecayBeatsWrongFalsely : Prop := fnExactDecayBeatsRow.holds Try.pinned (OpenSpec.ofChange fnExactDecayBeatsWrong)

/-- 'laws.FnExactDecayTop': WHATEVER THE INPUT: true; the input reads as it did. -/
def fnExactDecayTopSpec : ChangeSpec := { name := "fnExactDecayTop", fn := fun _ => fun
  | [d] => { results := [.lit (.bool true)], args := [d] }
  | _ => none }
def fnExactDecayTopRow : OpenClaim := { program := "ytbkdkcgckdienaa", sum := "1b9440afda7d5d410774b12afc9c1fa0b62bb786d9dfd98521b560ab58b86f75", func := "loop.example/stint/laws.FnExactDecayTop", spec := "fnExactDecayTop", apart := false }
def FnExactDecayTopSaid : Prop := fnExactDecayTopRow.holds Try.pinned (OpenSpec.ofChange fnExactDecayTopSpec)

/-- ITS FALSE NEIGHBOUR: 'it returns false'. Refute it at one input. -/
def fnExactDecayTopWrong : ChangeSpec := { name := "fnExactDecayTop", fn := fun _ => fun
  | [d] => { results := [.lit (.bool false)], args := [d] }
  | _ => none }
def FnExactDecayTopWrongFalsely : Prop := fnExactDecayTopRow.holds Try.pinned (OpenSpec.ofChange fnExactDecayTopWrong)

/- THE SECOND FORM. 'bulk': how many values and letters a reading holds, each counted each time it is reached (what is shared counts as often as it is met; a slice's spare places count too). A statement '..UptoSaid' is the law's where the arguments, and the package variables that the reading takes, are together of bulk at most 1048576: NARROWER than '..Said'. Prove '..Said' where nothing that the law and all that it calls make is longer than what came in: it says more and counts as full. Else prove '..UptoSaid'. A law counts once. -/
mutual
def uptoBulk {H : Type} : DataW H → Nat
  | .lit (.string bytes) => bytes.length + 1
  | .lit _ => 1
  | .nil => 1
  | .ptr d => uptoBulk d + 1
  | .slice elems spare => uptoBulkAll elems + uptoBulkAll spare + 1
  | .agg parts => uptoBulkAll parts + 1
  | .iface _ d => uptoBulk d + 1
  | .map entries => uptoBulkEntries entries + 1
  | .held _ => 1
def uptoBulkAll {H : Type} : List (DataW H) → Nat
  | [] => 0
  | d :: r => uptoBulk d + uptoBulkAll r
def uptoBulkEntries {H : Type} : List (Lit × DataW H) → Nat
  | [] => 0
  | x :: r => uptoBulkEntry x + uptoBulkEntries r
def uptoBulkEntry {H : Type} : Lit × DataW H → Nat
  | (.string bytes, d) => bytes.length + uptoBulk d + 1
  | (_, d) => uptoBulk d + 1
 end
def uptoSmall : (H : Type) → List (DataW H) → Bool := fun _ ds => decide (uptoBulkAll ds ≤ 1048576)
def OpenSpec.upto (s : _root_.Go.ChangeSpec) : _root_.Go.OpenSpec := { _root_.Go.OpenSpec.ofChange s with cond := some uptoSmall }

/-- 'laws.FnWeights', WHERE WHAT IT READS IS OF BULK AT MOST 1048576: true; the input reads as it did. -/
def fnWeightsUptoRow : OpenClaim := { program := "ytbkdkcgckdienaa", sum := "1b9440afda7d5d410774b12afc9c1fa0b62bb786d9dfd98521b560ab58b86f75", func := "loop.example/stint/laws.FnWeights", spec := "fnWeights", apart := false, narrowed := true }
def FnWeightsUptoSaid : Prop := fnWeightsUptoRow.holds Try.pinned (OpenSpec.upto fnWeightsSpec)

/-- 'laws.FnDecay', WHERE WHAT IT READS IS OF BULK AT MOST 1048576: true; the input reads as it did. -/
def fnDecayUptoRow : OpenClaim := { program := "ytbkdkcgckdienaa", sum := "1b9440afda7d5d410774b12afc9c1fa0b62bb786d9dfd98521b560ab58b86f75", func := "loop.example/stint/laws.FnDecay", spec := "fnDecay", apart := false, narrowed := true }
def FnDecayUptoSaid : Prop := fnDecayUptoRow.holds Try.pinned (OpenSpec.upto fnDecaySpec)

/-- 'laws.FnExactWeightOf', WHERE WHAT IT READS IS OF BULK AT MOST 1048576: true; the input reads as it did. -/
def fnExactWeightOfUptoRow : OpenClaim := { program := "ytbkdkcgckdienaa", sum := "1b9440afda7d5d410774b12afc9c1fa0b62bb786d9dfd98521b560ab58b86f75", func := "loop.example/stint/laws.FnExactWeightOf", spec := "fnExactWeightOf", apart := false, narrowed := true }
def FnExactWeightOfUptoSaid : Prop := fnExactWeightOfUptoRow.holds Try.pinned (OpenSpec.upto fnExactWeightOfSpec)

/-- 'laws.FnExactNiceOf', WHERE WHAT IT READS IS OF BULK AT MOST 1048576: true; the input reads as it did. -/
def fnExactNiceOfUptoRow : OpenClaim := { program := "ytbkdkcgckdienaa", sum := "1b9440afda7d5d410774b12afc9c1fa0b62bb786d9dfd98521b560ab58b86f75", func := "loop.example/stint/laws.FnExactNiceOf", spec := "fnExactNiceOf", apart := false, narrowed := true }
def FnExactNiceOfUptoSaid : Prop := fnExactNiceOfUptoRow.holds Try.pinned (OpenSpec.upto fnExactNiceOfSpec)

/-- 'laws.FnExactVirtualStep', WHERE WHAT IT READS IS OF BULK AT MOST 1048576: true; the input reads as it did. -/
def fnExactVirtualStepUptoRow : OpenClaim := { program := "ytbkdkcgckdienaa", sum := "1b9440afda7d5d410774b12afc9c1fa0b62bb786d9dfd98521b560ab58b86f75", func := "loop.example/stint/laws.FnExactVirtualStep", spec := "fnExactVirtualStep", apart := false, narrowed := true }
def FnExactVirtualStepUptoSaid : Prop := fnExactVirtualStepUptoRow.holds Try.pinned (OpenSpec.upto fnExactVirtualStepSpec)

/-- 'laws.FnExactVirtualUnits', WHERE WHAT IT READS IS OF BULK AT MOST 1048576: true; the input reads as it did. -/
def fnExactVirtualUnitsUptoRow : OpenClaim := { program := "ytbkdkcgckdienaa", sum := "1b9440afda7d5d410774b12afc9c1fa0b62bb786d9dfd98521b560ab58b86f75", func := "loop.example/stint/laws.FnExactVirtualUnits", spec := "fnExactVirtualUnits", apart := false, narrowed := true }
def FnExactVirtualUnitsUptoSaid : Prop := fnExactVirtualUnitsUptoRow.holds Try.pinned (OpenSpec.upto fnExactVirtualUnitsSpec)

/-- 'laws.FnExactLagMost', WHERE WHAT IT READS IS OF BULK AT MOST 1048576: true; the input reads as it did. -/
def fnExactLagMostUptoRow : OpenClaim := { program := "ytbkdkcgckdienaa", sum := "1b9440afda7d5d410774b12afc9c1fa0b62bb786d9dfd98521b560ab58b86f75", func := "loop.example/stint/laws.FnExactLagMost", spec := "fnExactLagMost", apart := false, narrowed := true }
def FnExactLagMostUptoSaid : Prop := fnExactLagMostUptoRow.holds Try.pinned (OpenSpec.upto fnExactLagMostSpec)

/-- 'laws.FnExactLagCut', WHERE WHAT IT READS IS OF BULK AT MOST 1048576: true; the input reads as it did. -/
def fnExactLagCutUptoRow : OpenClaim := { program := "ytbkdkcgckdienaa", sum := "1b9440afda7d5d410774b12afc9c1fa0b62bb786d9dfd98521b560ab58b86f75", func := "loop.example/stint/laws.FnExactLagCut", spec := "fnExactLagCut", apart := false, narrowed := true }
def FnExactLagCutUptoSaid : Prop := fnExactLagCutUptoRow.holds Try.pinned (OpenSpec.upto fnExactLagCutSpec)

/-- 'laws.FnExactDecayBeat', WHERE WHAT IT READS IS OF BULK AT MOST 1048576: true; the input reads as it did. -/
def fnExactDecayBeatUptoRow : OpenClaim := { program := "ytbkdkcgckdienaa", sum := "1b9440afda7d5d410774b12afc9c1fa0b62bb786d9dfd98521b560ab58b86f75", func := "loop.example/stint/laws.FnExactDecayBeat", spec := "fnExactDecayBeat", apart := false, narrowed := true }
def FnExactDecayBeatUptoSaid : Prop := fnExactDecayBeatUptoRow.holds Try.pinned (OpenSpec.upto fnExactDecayBeatSpec)

/-- 'laws.FnExactDecayBeats', WHERE WHAT IT READS IS OF BULK AT MOST 1048576: true; the input reads as it did. -/
def fnExactDecayBeatsUptoRow : OpenClaim := { program := "ytbkdkcgckdienaa", sum := "1b9440afda7d5d410774b12afc9c1fa0b62bb786d9dfd98521b560ab58b86f75", func := "loop.example/stint/laws.FnExactDecayBeats", spec := "fnExactDecayBeats", apart := false, narrowed := true }
def FnExactDecayBeatsUptoSaid : Prop := fnExactDecayBeatsUptoRow.holds Try.pinned (OpenSpec.upto fnExactDecayBeatsSpec)

/-- 'laws.FnExactDecayTop', WHERE WHAT IT READS IS OF BULK AT MOST 1048576: true; the input reads as it did. -/
def fnExactDecayTopUptoRow : OpenClaim := { program := "ytbkdkcgckdienaa", sum := "1b9440afda7d5d410774b12afc9c1fa0b62bb786d9dfd98521b560ab58b86f75", func := "loop.example/stint/laws.FnExactDecayTop", spec := "fnExactDecayTop", apart := false, narrowed := true }
def FnExactDecayTopUptoSaid : Prop := fnExactDecayTopUptoRow.holds Try.pinned (OpenSpec.upto fnExactDecayTopSpec)

end Rows
end Go.Proofs.Ytbkdkcgckdienaa
