/- Small laws on memory, of whatever program. -/
import Derived.Test.YtocgndefjjomjaaRows
import Derived.WalkKit
import Derived.ProofKit
import Derived.OpenShut
import Derived.ShutString
import Derived.WalkLawsBesides
import Derived.LoopTactic
import Derived.Outline
import Derived.Laws.CopyOwn
import Derived.Deep.Slices
import Derived.Lib.SmallJoins
import Derived.Deep.QuietTactic
import Derived.BigQuiet
import Derived.Deep.RegionHeld3
import Derived.Laws.MakeOwn
import Derived.Handy
import Derived.Deep.MidRow
import Derived.Deep.AppendLies
namespace Go.Proofs.Ytocgndefjjomjaa
set_option linter.unusedVariables false
set_option linter.unusedSimpArgs false
open Go.ChangeShapes Go.WideShapes Go.ChangeAt Go.RowKit

theorem add_none' (b o i : Nat) : (⟨b, o, none⟩ : Addr).add i = ⟨b, o + i, none⟩ := by unfold Addr.add; split <;> simp_all
theorem ret_bool {a b : Bool} (h : a = b) : Ending.returned (.bool a) = .returned (.bool b) := by rw [h]
/-- the box of a queue that is a parameter. -/
theorem qbox {w : World} {b : Nat} {x y z v : Value} {t : TypeId} (h : w.heap[b]? = some (.cells #[x, y, z, v] t (0, 0))) :
    w.cell? ⟨b, 0, none⟩ = some x ∧ w.cell? ⟨b, 1, none⟩ = some y ∧ w.cell? ⟨b, 2, none⟩ = some z ∧ w.cell? ⟨b, 3, none⟩ = some v := by
  refine ⟨?_, ?_, ?_, ?_⟩ <;> simp [World.cell?, h]
theorem there_made (w : World) (cs : Array Value) (t : TypeId) {n : Nat} (h : cs.size = n) : (w.alloc (.cells cs t (0, 0))).there w.heap.size 0 n := by
  intro j hj
  have hb := heap_alloc_new w (.cells cs t (0, 0))
  constructor
  · unfold World.cell?; rw [hb]; simp [h, hj]
  · unfold World.frozen?; rw [hb]; simp
theorem there_below {w w' : World} {b o n : Nat} (h : w.there b o n) (hb : Below w.heap.size w w') (hlt : b < w.heap.size) : w'.there b o n := by
  intro j hj
  obtain ⟨h1, h2⟩ := h j hj
  have hk := hb.block _ hlt
  exact ⟨by rw [hb.cell hlt]; exact h1, by unfold World.frozen? at h2 ⊢; rw [hk]; exact h2⟩
theorem fbox {w : World} {b : Nat} {cs : Array Value} {t : TypeId} (h : w.heap[b]? = some (.cells cs t (0, 0))) (k : Nat) : w.frozen? ⟨b, k, none⟩ = false := by
  unfold World.frozen?; rw [h]; simp
theorem results_mid {P : Program} {fn : Func} {p : Tmp} {ty : TypeId} (h : fn.results = #[.cell p ty]) (tmps : Array Value) (w : World) (b o : Nat) (cs : List Value) (d : TypeDesc)
    (hp : tmps.getD p undef = .pointer (some ⟨b, o, none⟩)) (hc : w.rangeAt b o cs)
    (hu : P.underlying ty = some d) (hd : d.isRow = true) (hi : (P.info? ty).map (·.size) = some cs.length) :
    (results fn tmps).run P w = .ok (.agg cs.toArray) w := by
  have hp' : tmps[p]?.getD undef = .pointer (some ⟨b, o, none⟩) := by simpa using hp
  simp [results, h, hp', asAddr, run_loadVar_mid w b o ty cs d hc hu hd hi]
theorem there_set1 {W : World} {g o n b o' : Nat} {v : Value} (h : W.there g o n) : (W.setCell ⟨b, o', none⟩ v).there g o n := World.there_setCells h b o' [v]
/-- behind a call the box that was made ahead of it is as it was. -/
theorem box_kept {w w2 : World} {A : Obj} (h : Below (w.alloc A).heap.size (w.alloc A) w2) : Below w.heap.size w w2 ∧ w2.heap[w.heap.size]? = some A ∧ w.heap.size < w2.heap.size := by
  have e1 : (w.alloc A).heap.size = w.heap.size + 1 := by simp
  have hs := h.size
  exact ⟨((Below.refl _ _).alloc (Nat.le_refl _) _).trans (h.mono (by omega)), (h.block _ (by omega)).trans (heap_alloc_new _ _), by omega⟩
theorem grown_refl (w : World) (r : Option Nat) : w.grownBy w r := ⟨rfl, rfl, rfl, Nat.le_refl _, fun _ _ _ => rfl⟩
theorem grown_trans {w w1 w2 : World} {r : Option Nat} (h : w.grownBy w1 r) (h' : w1.grownBy w2 r) : w.grownBy w2 r :=
  ⟨h'.os.trans h.os, h'.tape.trans h.tape, h'.output.trans h.output, Nat.le_trans h.size h'.size, fun k hk hne => (h'.block k (Nat.lt_of_lt_of_le hk h.size) hne).trans (h.block k hk hne)⟩
theorem grown_set {w w1 : World} {g : Nat} (h : w.grownBy w1 (some g)) (o : Nat) (v : Value) : w.grownBy (w1.setCell ⟨g, o, none⟩ v) (some g) :=
  grown_trans h ⟨rfl, rfl, rfl, by simp [World.setCell], fun k _ hne => heap_setCell_other _ _ _ _ (fun e => hne (by rw [e]))⟩
theorem there_grown {W W' : World} {g o n : Nat} {r : Option Nat} (h : W.there g o n) (hl : g < W.heap.size) (hg : W.grownBy W' r) (hne : r ≠ some g) : W'.there g o n := by
  have hb := hg.block g hl (Ne.symm hne)
  intro j hj
  obtain ⟨h1, h2⟩ := h j hj
  exact ⟨by rw [World.cell?_of_block hb]; exact h1, by rw [World.frozen?_of_block hb]; exact h2⟩
theorem below_grown {B : Nat} {W W' : World} {g : Nat} (hg : W.grownBy W' (some g)) (hB : B ≤ g) (hBW : B ≤ W.heap.size) : Below B W W' :=
  ⟨hg.os, hg.tape, hg.output, hg.size, fun k hk => hg.block k (by omega) (fun e => by cases e; omega)⟩
theorem block_grown {w w1 : World} {A : Obj} {b : Nat} {o : Obj} {row : Option Nat} (h : w.heap[b]? = some o) (hg : (w.alloc A).drew.grownBy w1 row) (hne : row ≠ some b) : w1.heap[b]? = some o := by
  have hlt : b < w.heap.size := (Array.getElem?_eq_some_iff.1 h).1
  have h1 := hg.block b (by simp; omega) (Ne.symm hne)
  rw [h1]
  have b1 : Below w.heap.size w (w.alloc A).drew := ((Below.refl _ _).alloc (Nat.le_refl _) _).drew
  exact (b1.block b hlt).trans h
theorem keep1 {W : World} {a b : Addr} {u v : Value} (h : W.cell? a = some v) (hne : a.block ≠ b.block) : (W.setCell b u).cell? a = some v :=
  (World.cell?_of_block (heap_setCell_other _ _ _ _ hne)).trans h
theorem results_mid2 {P : Program} {fn : Func} {p r : Tmp} {ty : TypeId} (h : fn.results = #[.cell p ty, .tmp r]) (tmps : Array Value) (w : World) (b o : Nat) (cs : List Value) (d : TypeDesc)
    (hp : tmps.getD p undef = .pointer (some ⟨b, o, none⟩)) (hc : w.rangeAt b o cs)
    (hu : P.underlying ty = some d) (hd : d.isRow = true) (hi : (P.info? ty).map (·.size) = some cs.length) :
    (results fn tmps).run P w = .ok (.tuple #[.agg cs.toArray, tmps.getD r undef]) w := by
  have hp' : tmps[p]?.getD undef = .pointer (some ⟨b, o, none⟩) := by simpa using hp
  simp [results, h, hp', asAddr, run_loadVar_mid w b o ty cs d hc hu hd hi]
theorem wrapI {x : Int} (h1 : -9223372036854775808 ≤ x) (h2 : x ≤ 9223372036854775807) : IntKind.i64.wrap x = x := IntWalk.i64_in x ⟨h1, h2⟩
theorem two_box {w w2 : World} {A B : Obj} (h : Below ((w.alloc A).alloc B).heap.size ((w.alloc A).alloc B) w2) :
    Below w.heap.size w w2 ∧ w.heap.size + 1 < w2.heap.size ∧ w2.heap[w.heap.size]? = some A ∧ w2.heap[w.heap.size + 1]? = some B := by
  have hs := h.size
  have e1 : (w.alloc A).heap.size = w.heap.size + 1 := by simp
  have e2 : ((w.alloc A).alloc B).heap.size = w.heap.size + 1 + 1 := by simp
  refine ⟨(((Below.refl _ _).alloc (Nat.le_refl _) _).alloc (by omega) _).trans (h.mono (by omega)), by omega, ?_, ?_⟩
  · rw [h.block _ (by omega), heap_alloc_old _ _ (by omega)]
    exact heap_alloc_new _ _
  · rw [h.block _ (by omega)]
    have := heap_alloc_new (w.alloc A) B
    rwa [e1] at this
theorem three_box {w w2 : World} {A B C : Obj} (h : Below (((w.alloc A).alloc B).alloc C).heap.size (((w.alloc A).alloc B).alloc C) w2) :
    w.heap.size + 1 + 1 < w2.heap.size ∧ w2.heap[w.heap.size + 1]? = some B ∧ w2.heap[w.heap.size + 1 + 1]? = some C := by
  have hs := h.size
  have e1 : (w.alloc A).heap.size = w.heap.size + 1 := by simp
  have e2 : ((w.alloc A).alloc B).heap.size = w.heap.size + 1 + 1 := by simp
  have e3 : (((w.alloc A).alloc B).alloc C).heap.size = w.heap.size + 1 + 1 + 1 := by simp
  refine ⟨by omega, ?_, ?_⟩
  · rw [h.block _ (by omega), heap_alloc_old _ _ (by omega)]
    have := heap_alloc_new (w.alloc A) B
    rwa [e1] at this
  · rw [h.block _ (by omega)]
    have := heap_alloc_new ((w.alloc A).alloc B) C
    rwa [e2] at this
theorem three_box' {w w2 : World} {A B C : Obj} (h : Below (((w.alloc A).alloc B).alloc C).heap.size (((w.alloc A).alloc B).alloc C) w2) :
    Below w.heap.size w w2 ∧ w.heap.size + 1 + 1 < w2.heap.size ∧ w2.heap[w.heap.size]? = some A ∧ w2.heap[w.heap.size + 1]? = some B ∧ w2.heap[w.heap.size + 1 + 1]? = some C := by
  obtain ⟨h1, h2, h3⟩ := three_box h
  have e1 : (w.alloc A).heap.size = w.heap.size + 1 := by simp
  have e2 : ((w.alloc A).alloc B).heap.size = w.heap.size + 1 + 1 := by simp
  have e3 : (((w.alloc A).alloc B).alloc C).heap.size = w.heap.size + 1 + 1 + 1 := by simp
  refine ⟨((((Below.refl _ _).alloc (Nat.le_refl _) _).alloc (by omega) _).alloc (by omega) _).trans (h.mono (by omega)), h1, ?_, h2, h3⟩
  rw [h.block _ (by omega), heap_alloc_old _ _ (by omega), heap_alloc_old _ _ (by omega)]
  exact heap_alloc_new _ _
end Go.Proofs.Ytocgndefjjomjaa
