/- Groups as plain data, with the slices that hold their rows; what copies one, compares two, measures one. -/
import Derived.Test.YtocgndefjjomjaaBB
import Derived.Test.YtocgndefjjomjaaSF
namespace Go.Proofs.Ytocgndefjjomjaa
set_option linter.unusedVariables false
set_option linter.unusedSimpArgs false
open Go.ChangeShapes Go.WideShapes Go.ChangeAt Go.RowKit

structure Gr where
  us : Bool
  pa : Int
  na : ByteArray
  we : Int
  cp : Int
  pe : Int
  ne : Int
  su : Int
  ba : Ba
  sh : List Sh
/-- a group as it lies in memory: its rows are held by the slices x, y, z. -/
structure Gv where
  d : Gr
  x : Value
  y : Value
  z : Value
def gv0 : Gv := ⟨⟨false, 0, ByteArray.empty, 0, 0, 0, 0, 0, ba0, []⟩, .slice none 0 0, .slice none 0 0, .slice none 0 0⟩
def gvC (e : Gv) : List Value := [.bool e.d.us, .int .i64 e.d.pa, .string e.d.na, .int .i64 e.d.we, .int .i64 e.d.cp, .int .i64 e.d.pe, .int .i64 e.d.ne, .int .i64 e.d.su, .int .i64 e.d.ba.qu, .int .i64 e.d.ba.po, .int .i64 e.d.ba.sp, e.x, e.y, e.z]
def gvV (e : Gv) : Value := .agg #[.bool e.d.us, .int .i64 e.d.pa, .string e.d.na, .int .i64 e.d.we, .int .i64 e.d.cp, .int .i64 e.d.pe, .int .i64 e.d.ne, .int .i64 e.d.su, .int .i64 e.d.ba.qu, .int .i64 e.d.ba.po, .int .i64 e.d.ba.sp, e.x, e.y, e.z]
theorem gvC_len (e : Gv) : (gvC e).length = 14 := rfl
theorem gv_cells {W : World} {g o : Nat} {e : Gv} (h : W.rangeAt g o (gvC e)) : W.cell? ⟨g, o, none⟩ = some (.bool e.d.us) ∧ W.cell? ⟨g, o + 1, none⟩ = some (.int .i64 e.d.pa) ∧ W.cell? ⟨g, o + 2, none⟩ = some (.string e.d.na) ∧ W.cell? ⟨g, o + 3, none⟩ = some (.int .i64 e.d.we) ∧ W.cell? ⟨g, o + 4, none⟩ = some (.int .i64 e.d.cp) ∧ W.cell? ⟨g, o + 5, none⟩ = some (.int .i64 e.d.pe) ∧ W.cell? ⟨g, o + 6, none⟩ = some (.int .i64 e.d.ne) ∧ W.cell? ⟨g, o + 7, none⟩ = some (.int .i64 e.d.su) ∧ W.cell? ⟨g, o + 8, none⟩ = some (.int .i64 e.d.ba.qu) ∧ W.cell? ⟨g, o + 9, none⟩ = some (.int .i64 e.d.ba.po) ∧ W.cell? ⟨g, o + 10, none⟩ = some (.int .i64 e.d.ba.sp) ∧ W.cell? ⟨g, o + 11, none⟩ = some (e.x) ∧ W.cell? ⟨g, o + 12, none⟩ = some (e.y) ∧ W.cell? ⟨g, o + 13, none⟩ = some (e.z) :=
  ⟨h 0 _ rfl, h 1 _ rfl, h 2 _ rfl, h 3 _ rfl, h 4 _ rfl, h 5 _ rfl, h 6 _ rfl, h 7 _ rfl, h 8 _ rfl, h 9 _ rfl, h 10 _ rfl, h 11 _ rfl, h 12 _ rfl, h 13 _ rfl⟩
theorem gbox {w : World} {b : Nat} {c0 c1 c2 c3 c4 c5 c6 c7 c8 c9 c10 c11 c12 c13 : Value} {t : TypeId} (h : w.heap[b]? = some (.cells #[c0, c1, c2, c3, c4, c5, c6, c7, c8, c9, c10, c11, c12, c13] t (0, 0))) : w.cell? ⟨b, 0, none⟩ = some (c0) ∧ w.cell? ⟨b, 1, none⟩ = some (c1) ∧ w.cell? ⟨b, 2, none⟩ = some (c2) ∧ w.cell? ⟨b, 3, none⟩ = some (c3) ∧ w.cell? ⟨b, 4, none⟩ = some (c4) ∧ w.cell? ⟨b, 5, none⟩ = some (c5) ∧ w.cell? ⟨b, 6, none⟩ = some (c6) ∧ w.cell? ⟨b, 7, none⟩ = some (c7) ∧ w.cell? ⟨b, 8, none⟩ = some (c8) ∧ w.cell? ⟨b, 9, none⟩ = some (c9) ∧ w.cell? ⟨b, 10, none⟩ = some (c10) ∧ w.cell? ⟨b, 11, none⟩ = some (c11) ∧ w.cell? ⟨b, 12, none⟩ = some (c12) ∧ w.cell? ⟨b, 13, none⟩ = some (c13) := by
  have hr := range_of_block (cs := [c0, c1, c2, c3, c4, c5, c6, c7, c8, c9, c10, c11, c12, c13]) h
  refine ⟨by simpa using hr 0 _ rfl, by simpa using hr 1 _ rfl, by simpa using hr 2 _ rfl, by simpa using hr 3 _ rfl, by simpa using hr 4 _ rfl, by simpa using hr 5 _ rfl, by simpa using hr 6 _ rfl, by simpa using hr 7 _ rfl, by simpa using hr 8 _ rfl, by simpa using hr 9 _ rfl, by simpa using hr 10 _ rfl, by simpa using hr 11 _ rfl, by simpa using hr 12 _ rfl, by simpa using hr 13 _ rfl⟩
/-- what a group's slices hold. -/
def GvOk (W : World) (e : Gv) : Prop := SlBa W e.x e.y e.d.ba ∧ SlSh W e.z e.d.sh
/-- they hold it in blocks of their own, not below B. -/
def OwnGv (B : Nat) (W : World) (e : Gv) : Prop := OwnBa B W e.x e.y e.d.ba ∧ NewSh B W e.z e.d.sh ∧ ∀ g, e.z.ownBlock = some g → e.x.ownBlock ≠ some g ∧ e.y.ownBlock ≠ some g
/-- the blocks that hold a group's rows. -/
def blkG (e : Gv) : List Nat := e.x.ownBlock.toList ++ (e.y.ownBlock.toList ++ e.z.ownBlock.toList)
def blkGs (es : List Gv) : List Nat := es.flatMap blkG
/-- its rows and its name are not too long. -/
def GrFit (d : Gr) : Prop := d.na.size ≤ 1048576 ∧ d.ba.lo.length ≤ 1048576 ∧ d.ba.dr.length ≤ 1048576 ∧ d.sh.length ≤ 1048576
theorem GvOk.below {W W' : World} {e : Gv} (h : GvOk W e) (hb : Below W.heap.size W W') : GvOk W' e := ⟨h.1.below hb, h.2.below hb⟩
theorem OwnGv.ok {B : Nat} {W : World} {e : Gv} (h : OwnGv B W e) (hf : GrFit e.d) : GvOk W e := ⟨h.1.sl, h.2.1.sl hf.2.2.2⟩
theorem OwnGv.below {B : Nat} {W W' : World} {e : Gv} (h : OwnGv B W e) (hb : Below W.heap.size W W') : OwnGv B W' e := ⟨h.1.below hb, h.2.1.below hb, h.2.2⟩
theorem OwnGv.mono {B B' : Nat} {W : World} {e : Gv} (h : OwnGv B W e) (hB : B' ≤ B) : OwnGv B' W e := ⟨h.1.mono hB, h.2.1.mono hB, h.2.2⟩
theorem OwnGv.kept {S : Nat → Prop} {B : Nat} {W W' : World} {e : Gv} (h : OwnGv B W e) (hk : Kept S W W') (hS : ∀ g, B ≤ g → ¬ S g) : OwnGv B W' e :=
  ⟨h.1.kept hk (fun g hg => hS g (h.1.1.at g hg).1) (fun g hg => hS g (h.1.2.1.at g hg).1), h.2.1.kept hk (fun g hg => hS g (h.2.1.at g hg).1), h.2.2⟩
theorem OwnGv.at {B : Nat} {W : World} {e : Gv} (h : OwnGv B W e) : ∀ g ∈ blkG e, B ≤ g ∧ g < W.heap.size := by
  intro g hg
  simp only [blkG, List.mem_append, Option.mem_toList] at hg
  rcases hg with hg | hg | hg
  · exact h.1.1.at g hg
  · exact h.1.2.1.at g hg
  · exact h.2.1.at g hg
theorem OwnGv.nodup {B : Nat} {W : World} {e : Gv} (h : OwnGv B W e) : (blkG e).Nodup := by
  have one : ∀ o : Option Nat, o.toList.Nodup := fun o => by cases o <;> simp
  refine List.nodup_append.2 ⟨one _, List.nodup_append.2 ⟨one _, one _, ?_⟩, ?_⟩
  · intro a ha b hb e'
    subst e'
    exact (h.2.2 a (by simpa using hb)).2 (by simpa using ha)
  · intro a ha b hb e'
    subst e'
    rcases List.mem_append.1 hb with hb | hb
    · exact h.1.2.2 a (by simpa using ha) (by simpa using hb)
    · exact (h.2.2 a (by simpa using hb)).1 (by simpa using ha)
theorem info_gr : (Try.prog.info? 41).map (·.size) = some 14 := by kernel_rfl
theorem five_in {w : World} {b : Nat} {c0 c1 c2 c3 c4 c5 c6 c7 c8 c9 c10 c11 c12 c13 : Value} {t : TypeId} (h : w.heap[b]? = some (.cells #[c0, c1, c2, c3, c4, c5, c6, c7, c8, c9, c10, c11, c12, c13] t (0, 0))) (v0 v1 v2 v3 v4 : Value) :
    (((((w.setCell ⟨b, 8, none⟩ v0).setCell ⟨b, 9, none⟩ v1).setCell ⟨b, 10, none⟩ v2).setCell ⟨b, 11, none⟩ v3).setCell ⟨b, 12, none⟩ v4).heap[b]? = some (.cells #[c0, c1, c2, c3, c4, c5, c6, c7, v0, v1, v2, v3, v4, c13] t (0, 0)) := by
  rw [heap_setCell_same _ _ _ _ _ _ (heap_setCell_same _ _ _ _ _ _ (heap_setCell_same _ _ _ _ _ _ (heap_setCell_same _ _ _ _ _ _ (heap_setCell_same _ _ _ _ _ _ h))))]
  rfl
theorem kept_five_in (w : World) (b : Nat) (v0 v1 v2 v3 v4 : Value) : Kept (fun k => k = b) w (((((w.setCell ⟨b, 8, none⟩ v0).setCell ⟨b, 9, none⟩ v1).setCell ⟨b, 10, none⟩ v2).setCell ⟨b, 11, none⟩ v3).setCell ⟨b, 12, none⟩ v4) :=
  (((((Kept.set w b 8 v0).trans (Kept.set _ b 9 v1)).trans (Kept.set _ b 10 v2)).trans (Kept.set _ b 11 v3)).trans (Kept.set _ b 12 v4)).mono (by intro k h; simpa using h)
theorem Kept.setCells (w : World) (b o : Nat) (vs : List Value) : Kept (fun k => k = b) w (w.setCells b o vs) := by
  induction vs generalizing w o with
  | nil => exact Kept.refl _ _
  | cons v vs ih => exact ((Kept.set w b o v).trans (ih (w.setCell ⟨b, o, none⟩ v) (o + 1))).mono (by intro k h; simpa using h)
theorem there_of_block {w : World} {b : Nat} {cs : Array Value} {t : TypeId} (h : w.heap[b]? = some (.cells cs t (0, 0))) : w.there b 0 cs.size := by
  intro j hj
  constructor
  · unfold World.cell?; rw [h]; simp [hj]
  · unfold World.frozen?; rw [h]; simp
end Go.Proofs.Ytocgndefjjomjaa
