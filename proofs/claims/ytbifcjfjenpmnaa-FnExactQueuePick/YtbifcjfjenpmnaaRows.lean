/-
  No cell of these rows narrows 'for every input' (looked for: loops, veiled, ifaces, maps, wideKeys, modest, calm, conditions, laid).
  DERIVED. THE GIVEN ROWS OF THIS SEAT. 7 by the template 'for every input the law returns true; each argument reads behind the call as it read before'; 0 by the template 'total and deterministic' (their statements: YtbifcjfjenpmnaaTotals.lean).
  GIVEN WITH THE SEED: the statements are not yours to turn. If you find one false, say at which input.
  Laid BY PROGRAM, IN A SANDBOX (cutbox-rows.mjs): the forced cells as the released guide's own fill.sh prints them over the translation 730daee73c00896e… (all of the seat's roots in one cut). By AI agents, Wed Nov 11 2026. No macro, syntax, notation, axiom, sorry.
-/
import Derived.Test.YtbifcjfjenpmnaaChecked
import GoSem.Claim
import GoSem.ClaimJoined
import GoSem.ClaimMapViews
import Derived.JoinedTies
import Derived.KernelRfl
namespace Go.Proofs.Ytbifcjfjenpmnaa
/- THE CELL 'sum', in the pinned program and in every row, IS THE sha256 OF THE DUMP (.gsa) THAT YtbifcjfjenpmnaaProg.lean LOADS. Nothing in Lean hashes anything: it is a label: what it is worth is what the hold of that sum in a sandbox is worth. -/
noncomputable def Try.pinned : Pinned := { name := "ytbifcjfjenpmnaa", sum := "730daee73c00896e3e5f2163c948260f079d5ec692b7dad6a20f27033c7ea3de", checked := Try.checked }
namespace Rows
def none {H : Type} : Left H := { results := [], args := [] }

/-- 'laws.FnQueueWait': WHATEVER THE INPUT: true; the input reads as it did. -/
def fnQueueWaitSpec : ChangeSpec := { name := "fnQueueWait", fn := fun _ => fun
  | [d1, d2] => { results := [.lit (.bool true)], args := [d1, d2] }
  | _ => none }
def fnQueueWaitRow : OpenClaim := { program := "ytbifcjfjenpmnaa", sum := "730daee73c00896e3e5f2163c948260f079d5ec692b7dad6a20f27033c7ea3de", func := "loop.example/stint/laws.FnQueueWait", spec := "fnQueueWait", unfollowed := true, recurses := true, apart := false }
def FnQueueWaitSaid : Prop := fnQueueWaitRow.holds Try.pinned (OpenSpec.ofChange fnQueueWaitSpec)

/-- ITS FALSE NEIGHBOUR: 'it returns false'. Refute it at one input. -/
def fnQueueWaitWrong : ChangeSpec := { name := "fnQueueWait", fn := fun _ => fun
  | [d1, d2] => { results := [.lit (.bool false)], args := [d1, d2] }
  | _ => none }
def FnQueueWaitWrongFalsely : Prop := fnQueueWaitRow.holds Try.pinned (OpenSpec.ofChange fnQueueWaitWrong)

/-- 'laws.FnExactQueueOk': WHATEVER THE INPUT: true; the input reads as it did. -/
def fnExactQueueOkSpec : ChangeSpec := { name := "fnExactQueueOk", fn := fun _ => fun
  | [d] => { results := [.lit (.bool true)], args := [d] }
  | _ => none }
def fnExactQueueOkRow : OpenClaim := { program := "ytbifcjfjenpmnaa", sum := "730daee73c00896e3e5f2163c948260f079d5ec692b7dad6a20f27033c7ea3de", func := "loop.example/stint/laws.FnExactQueueOk", spec := "fnExactQueueOk", apart := false }
def FnExactQueueOkSaid : Prop := fnExactQueueOkRow.holds Try.pinned (OpenSpec.ofChange fnExactQueueOkSpec)

/-- ITS FALSE NEIGHBOUR: 'it returns false'. Refute it at one input. -/
def fnExactQueueOkWrong : ChangeSpec := { name := "fnExactQueueOk", fn := fun _ => fun
  | [d] => { results := [.lit (.bool false)], args := [d] }
  | _ => none }
def FnExactQueueOkWrongFalsely : Prop := fnExactQueueOkRow.holds Try.pinned (OpenSpec.ofChange fnExactQueueOkWrong)

/-- 'laws.FnExactQueueNew': WHATEVER THE INPUT: true; the input reads as it did. -/
def fnExactQueueNewSpec : ChangeSpec := { name := "fnExactQueueNew", fn := fun _ => fun
  | [d] => { results := [.lit (.bool true)], args := [d] }
  | _ => none }
def fnExactQueueNewRow : OpenClaim := { program := "ytbifcjfjenpmnaa", sum := "730daee73c00896e3e5f2163c948260f079d5ec692b7dad6a20f27033c7ea3de", func := "loop.example/stint/laws.FnExactQueueNew", spec := "fnExactQueueNew", apart := false }
def FnExactQueueNewSaid : Prop := fnExactQueueNewRow.holds Try.pinned (OpenSpec.ofChange fnExactQueueNewSpec)

/-- ITS FALSE NEIGHBOUR: 'it returns false'. Refute it at one input. -/
def fnExactQueueNewWrong : ChangeSpec := { name := "fnExactQueueNew", fn := fun _ => fun
  | [d] => { results := [.lit (.bool false)], args := [d] }
  | _ => none }
def FnExactQueueNewWrongFalsely : Prop := fnExactQueueNewRow.holds Try.pinned (OpenSpec.ofChange fnExactQueueNewWrong)

/-- 'laws.FnExactQueuePick': WHATEVER THE INPUT: true; the input reads as it did. -/
def fnExactQueuePickSpec : ChangeSpec := { name := "fnExactQueuePick", fn := fun _ => fun
  | [d] => { results := [.lit (.bool true)], args := [d] }
  | _ => none }
def fnExactQueuePickRow : OpenClaim := { program := "ytbifcjfjenpmnaa", sum := "730daee73c00896e3e5f2163c948260f079d5ec692b7dad6a20f27033c7ea3de", func := "loop.example/stint/laws.FnExactQueuePick", spec := "fnExactQueuePick", unfollowed := true, recurses := true, apart := false }
def FnExactQueuePickSaid : Prop := fnExactQueuePickRow.holds Try.pinned (OpenSpec.ofChange fnExactQueuePickSpec)

/-- ITS FALSE NEIGHBOUR: 'it returns false'. Refute it at one input. -/
def fnExactQueuePickWrong : ChangeSpec := { name := "fnExactQueuePick", fn := fun _ => fun
  | [d] => { results := [.lit (.bool false)], args := [d] }
  | _ => none }
def FnExactQueuePickWrongFalsely : Prop := fnExactQueuePickRow.holds Try.pinned (OpenSpec.ofChange fnExactQueuePickWrong)

/-- 'laws.FnExactQueuePlay': WHATEVER THE INPUT: true; the input reads as it did. -/
def fnExactQueuePlaySpec : ChangeSpec := { name := "fnExactQueuePlay", fn := fun _ => fun
  | [d1, d2] => { results := [.lit (.bool true)], args := [d1, d2] }
  | _ => none }
def fnExactQueuePlayRow : OpenClaim := { program := "ytbifcjfjenpmnaa", sum := "730daee73c00896e3e5f2163c948260f079d5ec692b7dad6a20f27033c7ea3de", func := "loop.example/stint/laws.FnExactQueuePlay", spec := "fnExactQueuePlay", unfollowed := true, recurses := true, apart := false }
def FnExactQueuePlaySaid : Prop := fnExactQueuePlayRow.holds Try.pinned (OpenSpec.ofChange fnExactQueuePlaySpec)

/-- ITS FALSE NEIGHBOUR: 'it returns false'. Refute it at one input. -/
def fnExactQueuePlayWrong : ChangeSpec := { name := "fnExactQueuePlay", fn := fun _ => fun
  | [d1, d2] => { results := [.lit (.bool false)], args := [d1, d2] }
  | _ => none }
def FnExactQueuePlayWrongFalsely : Prop := fnExactQueuePlayRow.holds Try.pinned (OpenSpec.ofChange fnExactQueuePlayWrong)

/-- 'laws.FnExactQueueApart': WHATEVER THE INPUT: true; the input reads as it did. -/
def fnExactQueueApartSpec : ChangeSpec := { name := "fnExactQueueApart", fn := fun _ => fun
  | [d1, d2] => { results := [.lit (.bool true)], args := [d1, d2] }
  | _ => none }
def fnExactQueueApartRow : OpenClaim := { program := "ytbifcjfjenpmnaa", sum := "730daee73c00896e3e5f2163c948260f079d5ec692b7dad6a20f27033c7ea3de", func := "loop.example/stint/laws.FnExactQueueApart", spec := "fnExactQueueApart", apart := false }
def FnExactQueueApartSaid : Prop := fnExactQueueApartRow.holds Try.pinned (OpenSpec.ofChange fnExactQueueApartSpec)

/-- ITS FALSE NEIGHBOUR: 'it returns false'. Refute it at one input. -/
def fnExactQueueApartWrong : ChangeSpec := { name := "fnExactQueueApart", fn := fun _ => fun
  | [d1, d2] => { results := [.lit (.bool false)], args := [d1, d2] }
  | _ => none }
def FnExactQueueApartWrongFalsely : Prop := fnExactQueueApartRow.holds Try.pinned (OpenSpec.ofChange fnExactQueueApartWrong)

/-- 'laws.FnExactQueueWait': WHATEVER THE INPUT: true; the input reads as it did. -/
def fnExactQueueWaitSpec : ChangeSpec := { name := "fnExactQueueWait", fn := fun _ => fun
  | [d1, d2, d3] => { results := [.lit (.bool true)], args := [d1, d2, d3] }
  | _ => none }
def fnExactQueueWaitRow : OpenClaim := { program := "ytbifcjfjenpmnaa", sum := "730daee73c00896e3e5f2163c948260f079d5ec692b7dad6a20f27033c7ea3de", func := "loop.example/stint/laws.FnExactQueueWait", spec := "fnExactQueueWait", apart := false }
def FnExactQueueWaitSaid : Prop := fnExactQueueWaitRow.holds Try.pinned (OpenSpec.ofChange fnExactQueueWaitSpec)

/-- ITS FALSE NEIGHBOUR: 'it returns false'. Refute it at one input. -/
def fnExactQueueWaitWrong : ChangeSpec := { name := "fnExactQueueWait", fn := fun _ => fun
  | [d1, d2, d3] => { results := [.lit (.bool false)], args := [d1, d2, d3] }
  | _ => none }
def FnExactQueueWaitWrongFalsely : Prop := fnExactQueueWaitRow.holds Try.pinned (OpenSpec.ofChange fnExactQueueWaitWrong)

/- THE SECOND FORM. 'bulk': how many values and letters a reading holds, each counted each time it is reached (what is shared counts as often as it is met; a slice's spare places count too). A statement '..UptoSaid' is the law's where the arguments, and the package variables that the reading takes, are together of bulk at most 1048576: NARROWER than '..Said'. Prove '..Said' where nothing that the law and all that it calls make is longer than what came in: it says more and counts as full. Else prove '..UptoSaid'. A law counts once. -/
mutual
def uptoBulk {H : Type} : DataW H → Nat
  | .lit (.string bytes) => bytes.length + 1
  | .lit _ => 1
  | .nil => 1
  | .ptr d => uptoBulk d + 1
  | .slice elems spare => uptoBulkAll elems + uptoBulkAll spare + 1
  | .agg parts => uptoBulkAll parts + 1
  | .iface _ d => uptoBulk d + 1
  | .map entries => uptoBulkEntries entries + 1
  | .held _ => 1
def uptoBulkAll {H : Type} : List (DataW H) → Nat
  | [] => 0
  | d :: r => uptoBulk d + uptoBulkAll r
def uptoBulkEntries {H : Type} : List (Lit × DataW H) → Nat
  | [] => 0
  | x :: r => uptoBulkEntry x + uptoBulkEntries r
def uptoBulkEntry {H : Type} : Lit × DataW H → Nat
  | (.string bytes, d) => bytes.length + uptoBulk d + 1
  | (_, d) => uptoBulk d + 1
 end
def uptoSmall : (H : Type) → List (DataW H) → Bool := fun _ ds => decide (uptoBulkAll ds ≤ 1048576)
def OpenSpec.upto (s : _root_.Go.ChangeSpec) : _root_.Go.OpenSpec := { _root_.Go.OpenSpec.ofChange s with cond := some uptoSmall }

/-- 'laws.FnQueueWait', WHERE WHAT IT READS IS OF BULK AT MOST 1048576: true; the input reads as it did. -/
def fnQueueWaitUptoRow : OpenClaim := { program := "ytbifcjfjenpmnaa", sum := "730daee73c00896e3e5f2163c948260f079d5ec692b7dad6a20f27033c7ea3de", func := "loop.example/stint/laws.FnQueueWait", spec := "fnQueueWait", unfollowed := true, recurses := true, apart := false, narrowed := true }
def FnQueueWaitUptoSaid : Prop := fnQueueWaitUptoRow.holds Try.pinned (OpenSpec.upto fnQueueWaitSpec)

/-- 'laws.FnExactQueueOk', WHERE WHAT IT READS IS OF BULK AT MOST 1048576: true; the input reads as it did. -/
def fnExactQueueOkUptoRow : OpenClaim := { program := "ytbifcjfjenpmnaa", sum := "730daee73c00896e3e5f2163c948260f079d5ec692b7dad6a20f27033c7ea3de", func := "loop.example/stint/laws.FnExactQueueOk", spec := "fnExactQueueOk", apart := false, narrowed := true }
def FnExactQueueOkUptoSaid : Prop := fnExactQueueOkUptoRow.holds Try.pinned (OpenSpec.upto fnExactQueueOkSpec)

/-- 'laws.FnExactQueueNew', WHERE WHAT IT READS IS OF BULK AT MOST 1048576: true; the input reads as it did. -/
def fnExactQueueNewUptoRow : OpenClaim := { program := "ytbifcjfjenpmnaa", sum := "730daee73c00896e3e5f2163c948260f079d5ec692b7dad6a20f27033c7ea3de", func := "loop.example/stint/laws.FnExactQueueNew", spec := "fnExactQueueNew", apart := false, narrowed := true }
def FnExactQueueNewUptoSaid : Prop := fnExactQueueNewUptoRow.holds Try.pinned (OpenSpec.upto fnExactQueueNewSpec)

/-- 'laws.FnExactQueuePick', WHERE WHAT IT READS IS OF BULK AT MOST 1048576: true; the input reads as it did. -/
def fnExactQueuePickUptoRow : OpenClaim := { program := "ytbifcjfjenpmnaa", sum := "730daee73c00896e3e5f2163c948260f079d5ec692b7dad6a20f27033c7ea3de", func := "loop.example/stint/laws.FnExactQueuePick", spec := "fnExactQueuePick", unfollowed := true, recurses := true, apart := false, narrowed := true }
def FnExactQueuePickUptoSaid : Prop := fnExactQueuePickUptoRow.holds Try.pinned (OpenSpec.upto fnExactQueuePickSpec)

/-- 'laws.FnExactQueuePlay', WHERE WHAT IT READS IS OF BULK AT MOST 1048576: true; the input reads as it did. -/
def fnExactQueuePlayUptoRow : OpenClaim := { program := "ytbifcjfjenpmnaa", sum := "730daee73c00896e3e5f2163c948260f079d5ec692b7dad6a20f27033c7ea3de", func := "loop.example/stint/laws.FnExactQueuePlay", spec := "fnExactQueuePlay", unfollowed := true, recurses := true, apart := false, narrowed := true }
def FnExactQueuePlayUptoSaid : Prop := fnExactQueuePlayUptoRow.holds Try.pinned (OpenSpec.upto fnExactQueuePlaySpec)

/-- 'laws.FnExactQueueApart', WHERE WHAT IT READS IS OF BULK AT MOST 1048576: true; the input reads as it did. -/
def fnExactQueueApartUptoRow : OpenClaim := { program := "ytbifcjfjenpmnaa", sum := "730daee73c00896e3e5f2163c948260f079d5ec692b7dad6a20f27033c7ea3de", func := "loop.example/stint/laws.FnExactQueueApart", spec := "fnExactQueueApart", apart := false, narrowed := true }
def FnExactQueueApartUptoSaid : Prop := fnExactQueueApartUptoRow.holds Try.pinned (OpenSpec.upto fnExactQueueApartSpec)

/-- 'laws.FnExactQueueWait', WHERE WHAT IT READS IS OF BULK AT MOST 1048576: true; the input reads as it did. -/
def fnExactQueueWaitUptoRow : OpenClaim := { program := "ytbifcjfjenpmnaa", sum := "730daee73c00896e3e5f2163c948260f079d5ec692b7dad6a20f27033c7ea3de", func := "loop.example/stint/laws.FnExactQueueWait", spec := "fnExactQueueWait", apart := false, narrowed := true }
def FnExactQueueWaitUptoSaid : Prop := fnExactQueueWaitUptoRow.holds Try.pinned (OpenSpec.upto fnExactQueueWaitSpec)

end Rows
end Go.Proofs.Ytbifcjfjenpmnaa
