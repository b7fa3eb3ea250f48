/-
  NARROWER THAN 'FOR EVERY INPUT', by the rows' own cells (each row's printed sentence says how): FnExactBandPlay: calm.
  DERIVED. THE GIVEN ROWS OF THIS SEAT. 7 by the template 'for every input the law returns true; each argument reads behind the call as it read before'; 0 by the template 'total and deterministic' (their statements: YtljjgebkieffpaaTotals.lean).
  GIVEN WITH THE SEED: the statements are not yours to turn. If you find one false, say at which input.
  Laid BY PROGRAM, IN A SANDBOX (cutbox-rows.mjs): the forced cells as the released guide's own fill.sh prints them over the translation 302764162fd71bbb… (all of the seat's roots in one cut). By AI agents, Wed Nov 11 2026. No macro, syntax, notation, axiom, sorry.
-/
import Derived.Test.YtljjgebkieffpaaChecked
import GoSem.Claim
import GoSem.ClaimJoined
import GoSem.ClaimMapViews
import Derived.JoinedTies
import Derived.KernelRfl
namespace Go.Proofs.Ytljjgebkieffpaa
/- THE CELL 'sum', in the pinned program and in every row, IS THE sha256 OF THE DUMP (.gsa) THAT YtljjgebkieffpaaProg.lean LOADS. Nothing in Lean hashes anything: it is a label: what it is worth is what the hold of that sum in a sandbox is worth. -/
noncomputable def Try.pinned : Pinned := { name := "ytljjgebkieffpaa", sum := "302764162fd71bbb5fd8ba0c94809949c6f5bcb3546889a04fbff2aa1c481b6c", checked := Try.checked }
namespace Rows
def none {H : Type} : Left H := { results := [], args := [] }

/-- 'laws.FnBandTop': WHATEVER THE INPUT: true; the input reads as it did. -/
def fnBandTopSpec : ChangeSpec := { name := "fnBandTop", fn := fun _ => fun
  | [d] => { results := [.lit (.bool true)], args := [d] }
  | _ => none }
def fnBandTopRow : OpenClaim := { program := "ytljjgebkieffpaa", sum := "302764162fd71bbb5fd8ba0c94809949c6f5bcb3546889a04fbff2aa1c481b6c", func := "loop.example/stint/laws.FnBandTop", spec := "fnBandTop", inPlace := ["(*internal/sync.Mutex).Lock", "internal/race.Disable", "sync/atomic.CompareAndSwapInt32", "internal/race.Enable", "internal/race.Acquire", "(*internal/sync.Mutex).lockSlow", "internal/sync.runtime_canSpin", "internal/sync.runtime_doSpin", "internal/sync.throw", "internal/sync.runtime_nanotime", "internal/sync.runtime_SemacquireMutex", "sync/atomic.AddInt32", "(*internal/sync.Mutex).Unlock", "internal/race.ReleaseMerge", "(*internal/sync.Mutex).unlockSlow", "internal/sync.fatal", "internal/sync.runtime_Semrelease"], apart := false }
def FnBandTopSaid : Prop := fnBandTopRow.holds Try.pinned (OpenSpec.ofChange fnBandTopSpec)

/-- ITS FALSE NEIGHBOUR: 'it returns false'. Refute it at one input. -/
def fnBandTopWrong : ChangeSpec := { name := "fnBandTop", fn := fun _ => fun
  | [d] => { results := [.lit (.bool false)], args := [d] }
  | _ => none }
def FnBandTopWrongFalsely : Prop := fnBandTopRow.holds Try.pinned (OpenSpec.ofChange fnBandTopWrong)

/-- 'laws.FnBandFree': WHATEVER THE INPUT: true; the input reads as it did. -/
def fnBandFreeSpec : ChangeSpec := { name := "fnBandFree", fn := fun _ => fun
  | [d] => { results := [.lit (.bool true)], args := [d] }
  | _ => none }
def fnBandFreeRow : OpenClaim := { program := "ytljjgebkieffpaa", sum := "302764162fd71bbb5fd8ba0c94809949c6f5bcb3546889a04fbff2aa1c481b6c", func := "loop.example/stint/laws.FnBandFree", spec := "fnBandFree", inPlace := ["(*internal/sync.Mutex).Lock", "internal/race.Disable", "sync/atomic.CompareAndSwapInt32", "internal/race.Enable", "internal/race.Acquire", "(*internal/sync.Mutex).lockSlow", "internal/sync.runtime_canSpin", "internal/sync.runtime_doSpin", "internal/sync.throw", "internal/sync.runtime_nanotime", "internal/sync.runtime_SemacquireMutex", "sync/atomic.AddInt32", "(*internal/sync.Mutex).Unlock", "internal/race.ReleaseMerge", "(*internal/sync.Mutex).unlockSlow", "internal/sync.fatal", "internal/sync.runtime_Semrelease"], apart := false }
def FnBandFreeSaid : Prop := fnBandFreeRow.holds Try.pinned (OpenSpec.ofChange fnBandFreeSpec)

/-- ITS FALSE NEIGHBOUR: 'it returns false'. Refute it at one input. -/
def fnBandFreeWrong : ChangeSpec := { name := "fnBandFree", fn := fun _ => fun
  | [d] => { results := [.lit (.bool false)], args := [d] }
  | _ => none }
def FnBandFreeWrongFalsely : Prop := fnBandFreeRow.holds Try.pinned (OpenSpec.ofChange fnBandFreeWrong)

/-- 'laws.FnExactBandOk': WHATEVER THE INPUT: true; the input reads as it did. -/
def fnExactBandOkSpec : ChangeSpec := { name := "fnExactBandOk", fn := fun _ => fun
  | [d] => { results := [.lit (.bool true)], args := [d] }
  | _ => none }
def fnExactBandOkRow : OpenClaim := { program := "ytljjgebkieffpaa", sum := "302764162fd71bbb5fd8ba0c94809949c6f5bcb3546889a04fbff2aa1c481b6c", func := "loop.example/stint/laws.FnExactBandOk", spec := "fnExactBandOk", apart := false }
def FnExactBandOkSaid : Prop := fnExactBandOkRow.holds Try.pinned (OpenSpec.ofChange fnExactBandOkSpec)

/-- ITS FALSE NEIGHBOUR: 'it returns false'. Refute it at one input. -/
def fnExactBandOkWrong : ChangeSpec := { name := "fnExactBandOk", fn := fun _ => fun
  | [d] => { results := [.lit (.bool false)], args := [d] }
  | _ => none }
def FnExactBandOkWrongFalsely : Prop := fnExactBandOkRow.holds Try.pinned (OpenSpec.ofChange fnExactBandOkWrong)

/-- 'laws.FnExactBandNew': WHATEVER THE INPUT: true; the input reads as it did. -/
def fnExactBandNewSpec : ChangeSpec := { name := "fnExactBandNew", fn := fun _ => fun
  | [d1, d2] => { results := [.lit (.bool true)], args := [d1, d2] }
  | _ => none }
def fnExactBandNewRow : OpenClaim := { program := "ytljjgebkieffpaa", sum := "302764162fd71bbb5fd8ba0c94809949c6f5bcb3546889a04fbff2aa1c481b6c", func := "loop.example/stint/laws.FnExactBandNew", spec := "fnExactBandNew", apart := false }
def FnExactBandNewSaid : Prop := fnExactBandNewRow.holds Try.pinned (OpenSpec.ofChange fnExactBandNewSpec)

/-- ITS FALSE NEIGHBOUR: 'it returns false'. Refute it at one input. -/
def fnExactBandNewWrong : ChangeSpec := { name := "fnExactBandNew", fn := fun _ => fun
  | [d1, d2] => { results := [.lit (.bool false)], args := [d1, d2] }
  | _ => none }
def FnExactBandNewWrongFalsely : Prop := fnExactBandNewRow.holds Try.pinned (OpenSpec.ofChange fnExactBandNewWrong)

/-- 'laws.FnExactBandDo': WHATEVER THE INPUT: true; the input reads as it did. -/
def fnExactBandDoSpec : ChangeSpec := { name := "fnExactBandDo", fn := fun _ => fun
  | [d1, d2] => { results := [.lit (.bool true)], args := [d1, d2] }
  | _ => none }
def fnExactBandDoRow : OpenClaim := { program := "ytljjgebkieffpaa", sum := "302764162fd71bbb5fd8ba0c94809949c6f5bcb3546889a04fbff2aa1c481b6c", func := "loop.example/stint/laws.FnExactBandDo", spec := "fnExactBandDo", inPlace := ["(*internal/sync.Mutex).Lock", "internal/race.Disable", "sync/atomic.CompareAndSwapInt32", "internal/race.Enable", "internal/race.Acquire", "(*internal/sync.Mutex).lockSlow", "internal/sync.runtime_canSpin", "internal/sync.runtime_doSpin", "internal/sync.throw", "internal/sync.runtime_nanotime", "internal/sync.runtime_SemacquireMutex", "sync/atomic.AddInt32", "(*internal/sync.Mutex).Unlock", "internal/race.ReleaseMerge", "(*internal/sync.Mutex).unlockSlow", "internal/sync.fatal", "internal/sync.runtime_Semrelease"], apart := false }
def FnExactBandDoSaid : Prop := fnExactBandDoRow.holds Try.pinned (OpenSpec.ofChange fnExactBandDoSpec)

/-- ITS FALSE NEIGHBOUR: 'it returns false'. Refute it at one input. -/
def fnExactBandDoWrong : ChangeSpec := { name := "fnExactBandDo", fn := fun _ => fun
  | [d1, d2] => { results := [.lit (.bool false)], args := [d1, d2] }
  | _ => none }
def FnExactBandDoWrongFalsely : Prop := fnExactBandDoRow.holds Try.pinned (OpenSpec.ofChange fnExactBandDoWrong)

/-- 'laws.FnExactBandPlay': WHATEVER THE INPUT: true; the input reads as it did. -/
def fnExactBandPlaySpec : ChangeSpec := { name := "fnExactBandPlay", fn := fun _ => fun
  | [d1, d2] => { results := [.lit (.bool true)], args := [d1, d2] }
  | _ => none }
def fnExactBandPlayRow : OpenClaim := { program := "ytljjgebkieffpaa", sum := "302764162fd71bbb5fd8ba0c94809949c6f5bcb3546889a04fbff2aa1c481b6c", func := "loop.example/stint/laws.FnExactBandPlay", spec := "fnExactBandPlay", inPlace := ["(*sync.WaitGroup).Add", "internal/race.ReleaseMerge", "internal/race.Disable", "internal/race.Enable", "internal/synctest.IsInBubble", "internal/synctest.Associate[sync.WaitGroup]", "sync.fatal", "sync/atomic.OrUint64", "sync/atomic.AddUint64", "internal/race.Read", "sync/atomic.LoadUint64", "sync/atomic.StoreUint64", "internal/synctest.Disassociate[sync.WaitGroup]", "sync.runtime_Semrelease", "(*sync.WaitGroup).Done", "(*internal/sync.Mutex).Lock", "sync/atomic.CompareAndSwapInt32", "internal/race.Acquire", "(*internal/sync.Mutex).lockSlow", "internal/sync.runtime_canSpin", "internal/sync.runtime_doSpin", "internal/sync.throw", "internal/sync.runtime_nanotime", "internal/sync.runtime_SemacquireMutex", "sync/atomic.AddInt32", "(*internal/sync.Mutex).Unlock", "(*internal/sync.Mutex).unlockSlow", "internal/sync.fatal", "internal/sync.runtime_Semrelease", "(*sync.WaitGroup).Wait", "internal/synctest.IsAssociated[sync.WaitGroup]", "sync/atomic.CompareAndSwapUint64", "internal/race.Write", "sync.runtime_SemacquireWaitGroup"], unfollowed := true, recurses := true, leaving := true, apart := false, calm := true, outside := [.timePasses] }
def FnExactBandPlaySaid : Prop := fnExactBandPlayRow.holds Try.pinned (OpenSpec.ofChange fnExactBandPlaySpec)

/-- ITS FALSE NEIGHBOUR: 'it returns false'. Refute it at one input. -/
def fnExactBandPlayWrong : ChangeSpec := { name := "fnExactBandPlay", fn := fun _ => fun
  | [d1, d2] => { results := [.lit (.bool false)], args := [d1, d2] }
  | _ => none }
def FnExactBandPlayWrongFalsely : Prop := fnExactBandPlayRow.holds Try.pinned (OpenSpec.ofChange fnExactBandPlayWrong)

/-- 'laws.FnExactBandFree': WHATEVER THE INPUT: true; the input reads as it did. -/
def fnExactBandFreeSpec : ChangeSpec := { name := "fnExactBandFree", fn := fun _ => fun
  | [d1, d2] => { results := [.lit (.bool true)], args := [d1, d2] }
  | _ => none }
def fnExactBandFreeRow : OpenClaim := { program := "ytljjgebkieffpaa", sum := "302764162fd71bbb5fd8ba0c94809949c6f5bcb3546889a04fbff2aa1c481b6c", func := "loop.example/stint/laws.FnExactBandFree", spec := "fnExactBandFree", apart := false }
def FnExactBandFreeSaid : Prop := fnExactBandFreeRow.holds Try.pinned (OpenSpec.ofChange fnExactBandFreeSpec)

/-- ITS FALSE NEIGHBOUR: 'it returns false'. Refute it at one input. -/
def fnExactBandFreeWrong : ChangeSpec := { name := "fnExactBandFree", fn := fun _ => fun
  | [d1, d2] => { results := [.lit (.bool false)], args := [d1, d2] }
  | _ => none }
def FnExactBandFreeWrongFalsely : Prop := fnExactBandFreeRow.holds Try.pinned (OpenSpec.ofChange fnExactBandFreeWrong)

/- THE SECOND FORM. 'bulk': how many values and letters a reading holds, each counted each time it is reached (what is shared counts as often as it is met; a slice's spare places count too). A statement '..UptoSaid' is the law's where the arguments, and the package variables that the reading takes, are together of bulk at most 1048576: NARROWER than '..Said'. Prove '..Said' where nothing that the law and all that it calls make is longer than what came in: it says more and counts as full. Else prove '..UptoSaid'. A law counts once. -/
mutual
def uptoBulk {H : Type} : DataW H → Nat
  | .lit (.string bytes) => bytes.length + 1
  | .lit _ => 1
  | .nil => 1
  | .ptr d => uptoBulk d + 1
  | .slice elems spare => uptoBulkAll elems + uptoBulkAll spare + 1
  | .agg parts => uptoBulkAll parts + 1
  | .iface _ d => uptoBulk d + 1
  | .map entries => uptoBulkEntries entries + 1
  | .held _ => 1
def uptoBulkAll {H : Type} : List (DataW H) → Nat
  | [] => 0
  | d :: r => uptoBulk d + uptoBulkAll r
def uptoBulkEntries {H : Type} : List (Lit × DataW H) → Nat
  | [] => 0
  | x :: r => uptoBulkEntry x + uptoBulkEntries r
def uptoBulkEntry {H : Type} : Lit × DataW H → Nat
  | (.string bytes, d) => bytes.length + uptoBulk d + 1
  | (_, d) => uptoBulk d + 1
 end
def uptoSmall : (H : Type) → List (DataW H) → Bool := fun _ ds => decide (uptoBulkAll ds ≤ 1048576)
def OpenSpec.upto (s : _root_.Go.ChangeSpec) : _root_.Go.OpenSpec := { _root_.Go.OpenSpec.ofChange s with cond := some uptoSmall }

/-- 'laws.FnBandTop', WHERE WHAT IT READS IS OF BULK AT MOST 1048576: true; the input reads as it did. -/
def fnBandTopUptoRow : OpenClaim := { program := "ytljjgebkieffpaa", sum := "302764162fd71bbb5fd8ba0c94809949c6f5bcb3546889a04fbff2aa1c481b6c", func := "loop.example/stint/laws.FnBandTop", spec := "fnBandTop", inPlace := ["(*internal/sync.Mutex).Lock", "internal/race.Disable", "sync/atomic.CompareAndSwapInt32", "internal/race.Enable", "internal/race.Acquire", "(*internal/sync.Mutex).lockSlow", "internal/sync.runtime_canSpin", "internal/sync.runtime_doSpin", "internal/sync.throw", "internal/sync.runtime_nanotime", "internal/sync.runtime_SemacquireMutex", "sync/atomic.AddInt32", "(*internal/sync.Mutex).Unlock", "internal/race.ReleaseMerge", "(*internal/sync.Mutex).unlockSlow", "internal/sync.fatal", "internal/sync.runtime_Semrelease"], apart := false, narrowed := true }
def FnBandTopUptoSaid : Prop := fnBandTopUptoRow.holds Try.pinned (OpenSpec.upto fnBandTopSpec)

/-- 'laws.FnBandFree', WHERE WHAT IT READS IS OF BULK AT MOST 1048576: true; the input reads as it did. -/
def fnBandFreeUptoRow : OpenClaim := { program := "ytljjgebkieffpaa", sum := "302764162fd71bbb5fd8ba0c94809949c6f5bcb3546889a04fbff2aa1c481b6c", func := "loop.example/stint/laws.FnBandFree", spec := "fnBandFree", inPlace := ["(*internal/sync.Mutex).Lock", "internal/race.Disable", "sync/atomic.CompareAndSwapInt32", "internal/race.Enable", "internal/race.Acquire", "(*internal/sync.Mutex).lockSlow", "internal/sync.runtime_canSpin", "internal/sync.runtime_doSpin", "internal/sync.throw", "internal/sync.runtime_nanotime", "internal/sync.runtime_SemacquireMutex", "sync/atomic.AddInt32", "(*internal/sync.Mutex).Unlock", "internal/race.ReleaseMerge", "(*internal/sync.Mutex).unlockSlow", "internal/sync.fatal", "internal/sync.runtime_Semrelease"], apart := false, narrowed := true }
def FnBandFreeUptoSaid : Prop := fnBandFreeUptoRow.holds Try.pinned (OpenSpec.upto fnBandFreeSpec)

/-- 'laws.FnExactBandOk', WHERE WHAT IT READS IS OF BULK AT MOST 1048576: true; the input reads as it did. -/
def fnExactBandOkUptoRow : OpenClaim := { program := "ytljjgebkieffpaa", sum := "302764162fd71bbb5fd8ba0c94809949c6f5bcb3546889a04fbff2aa1c481b6c", func := "loop.example/stint/laws.FnExactBandOk", spec := "fnExactBandOk", apart := false, narrowed := true }
def FnExactBandOkUptoSaid : Prop := fnExactBandOkUptoRow.holds Try.pinned (OpenSpec.upto fnExactBandOkSpec)

/-- 'laws.FnExactBandNew', WHERE WHAT IT READS IS OF BULK AT MOST 1048576: true; the input reads as it did. -/
def fnExactBandNewUptoRow : OpenClaim := { program := "ytljjgebkieffpaa", sum := "302764162fd71bbb5fd8ba0c94809949c6f5bcb3546889a04fbff2aa1c481b6c", func := "loop.example/stint/laws.FnExactBandNew", spec := "fnExactBandNew", apart := false, narrowed := true }
def FnExactBandNewUptoSaid : Prop := fnExactBandNewUptoRow.holds Try.pinned (OpenSpec.upto fnExactBandNewSpec)

/-- 'laws.FnExactBandDo', WHERE WHAT IT READS IS OF BULK AT MOST 1048576: true; the input reads as it did. -/
def fnExactBandDoUptoRow : OpenClaim := { program := "ytljjgebkieffpaa", sum := "302764162fd71bbb5fd8ba0c94809949c6f5bcb3546889a04fbff2aa1c481b6c", func := "loop.example/stint/laws.FnExactBandDo", spec := "fnExactBandDo", inPlace := ["(*internal/sync.Mutex).Lock", "internal/race.Disable", "sync/atomic.CompareAndSwapInt32", "internal/race.Enable", "internal/race.Acquire", "(*internal/sync.Mutex).lockSlow", "internal/sync.runtime_canSpin", "internal/sync.runtime_doSpin", "internal/sync.throw", "internal/sync.runtime_nanotime", "internal/sync.runtime_SemacquireMutex", "sync/atomic.AddInt32", "(*internal/sync.Mutex).Unlock", "internal/race.ReleaseMerge", "(*internal/sync.Mutex).unlockSlow", "internal/sync.fatal", "internal/sync.runtime_Semrelease"], apart := false, narrowed := true }
def FnExactBandDoUptoSaid : Prop := fnExactBandDoUptoRow.holds Try.pinned (OpenSpec.upto fnExactBandDoSpec)

/-- 'laws.FnExactBandPlay', WHERE WHAT IT READS IS OF BULK AT MOST 1048576: true; the input reads as it did. -/
def fnExactBandPlayUptoRow : OpenClaim := { program := "ytljjgebkieffpaa", sum := "302764162fd71bbb5fd8ba0c94809949c6f5bcb3546889a04fbff2aa1c481b6c", func := "loop.example/stint/laws.FnExactBandPlay", spec := "fnExactBandPlay", inPlace := ["(*sync.WaitGroup).Add", "internal/race.ReleaseMerge", "internal/race.Disable", "internal/race.Enable", "internal/synctest.IsInBubble", "internal/synctest.Associate[sync.WaitGroup]", "sync.fatal", "sync/atomic.OrUint64", "sync/atomic.AddUint64", "internal/race.Read", "sync/atomic.LoadUint64", "sync/atomic.StoreUint64", "internal/synctest.Disassociate[sync.WaitGroup]", "sync.runtime_Semrelease", "(*sync.WaitGroup).Done", "(*internal/sync.Mutex).Lock", "sync/atomic.CompareAndSwapInt32", "internal/race.Acquire", "(*internal/sync.Mutex).lockSlow", "internal/sync.runtime_canSpin", "internal/sync.runtime_doSpin", "internal/sync.throw", "internal/sync.runtime_nanotime", "internal/sync.runtime_SemacquireMutex", "sync/atomic.AddInt32", "(*internal/sync.Mutex).Unlock", "(*internal/sync.Mutex).unlockSlow", "internal/sync.fatal", "internal/sync.runtime_Semrelease", "(*sync.WaitGroup).Wait", "internal/synctest.IsAssociated[sync.WaitGroup]", "sync/atomic.CompareAndSwapUint64", "internal/race.Write", "sync.runtime_SemacquireWaitGroup"], unfollowed := true, recurses := true, leaving := true, apart := false, calm := true, outside := [.timePasses], narrowed := true }
def FnExactBandPlayUptoSaid : Prop := fnExactBandPlayUptoRow.holds Try.pinned (OpenSpec.upto fnExactBandPlaySpec)

/-- 'laws.FnExactBandFree', WHERE WHAT IT READS IS OF BULK AT MOST 1048576: true; the input reads as it did. -/
def fnExactBandFreeUptoRow : OpenClaim := { program := "ytljjgebkieffpaa", sum := "302764162fd71bbb5fd8ba0c94809949c6f5bcb3546889a04fbff2aa1c481b6c", func := "loop.example/stint/laws.FnExactBandFree", spec := "fnExactBandFree", apart := false, narrowed := true }
def FnExactBandFreeUptoSaid : Prop := fnExactBandFreeUptoRow.holds Try.pinned (OpenSpec.upto fnExactBandFreeSpec)

end Rows
end Go.Proofs.Ytljjgebkieffpaa
