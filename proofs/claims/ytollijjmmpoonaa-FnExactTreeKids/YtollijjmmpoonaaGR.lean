/- Groups as plain data, with the slices that hold their rows; what copies one, compares two, measures one. -/
import Derived.Test.YtollijjmmpoonaaBB
import Derived.Test.YtollijjmmpoonaaSF
namespace Go.Proofs.Ytollijjmmpoonaa
set_option linter.unusedVariables false
set_option linter.unusedSimpArgs false
open Go.ChangeShapes Go.WideShapes Go.ChangeAt Go.RowKit

structure Gr where
  us : Bool
  pa : Int
  na : ByteArray
  we : Int
  cp : Int
  pe : Int
  ne : Int
  su : Int
  ba : Ba
  sh : List Sh
/-- a group as it lies in memory: its rows are held by the slices x, y, z. -/
structure Gv where
  d : Gr
  x : Value
  y : Value
  z : Value
def gv0 : Gv := ⟨⟨false, 0, ByteArray.empty, 0, 0, 0, 0, 0, ba0, []⟩, .slice none 0 0, .slice none 0 0, .slice none 0 0⟩
def gvC (e : Gv) : List Value := [.bool e.d.us, .int .i64 e.d.pa, .string e.d.na, .int .i64 e.d.we, .int .i64 e.d.cp, .int .i64 e.d.pe, .int .i64 e.d.ne, .int .i64 e.d.su, .int .i64 e.d.ba.qu, .int .i64 e.d.ba.po, .int .i64 e.d.ba.sp, e.x, e.y, e.z]
def gvV (e : Gv) : Value := .agg #[.bool e.d.us, .int .i64 e.d.pa, .string e.d.na, .int .i64 e.d.we, .int .i64 e.d.cp, .int .i64 e.d.pe, .int .i64 e.d.ne, .int .i64 e.d.su, .int .i64 e.d.ba.qu, .int .i64 e.d.ba.po, .int .i64 e.d.ba.sp, e.x, e.y, e.z]
theorem gvC_len (e : Gv) : (gvC e).length = 14 := rfl
theorem gv_cells {W : World} {g o : Nat} {e : Gv} (h : W.rangeAt g o (gvC e)) : W.cell? ⟨g, o, none⟩ = some (.bool e.d.us) ∧ W.cell? ⟨g, o + 1, none⟩ = some (.int .i64 e.d.pa) ∧ W.cell? ⟨g, o + 2, none⟩ = some (.string e.d.na) ∧ W.cell? ⟨g, o + 3, none⟩ = some (.int .i64 e.d.we) ∧ W.cell? ⟨g, o + 4, none⟩ = some (.int .i64 e.d.cp) ∧ W.cell? ⟨g, o + 5, none⟩ = some (.int .i64 e.d.pe) ∧ W.cell? ⟨g, o + 6, none⟩ = some (.int .i64 e.d.ne) ∧ W.cell? ⟨g, o + 7, none⟩ = some (.int .i64 e.d.su) ∧ W.cell? ⟨g, o + 8, none⟩ = some (.int .i64 e.d.ba.qu) ∧ W.cell? ⟨g, o + 9, none⟩ = some (.int .i64 e.d.ba.po) ∧ W.cell? ⟨g, o + 10, none⟩ = some (.int .i64 e.d.ba.sp) ∧ W.cell? ⟨g, o + 11, none⟩ = some (e.x) ∧ W.cell? ⟨g, o + 12, none⟩ = some (e.y) ∧ W.cell? ⟨g, o + 13, none⟩ = some (e.z) :=
  ⟨h 0 _ rfl, h 1 _ rfl, h 2 _ rfl, h 3 _ rfl, h 4 _ rfl, h 5 _ rfl, h 6 _ rfl, h 7 _ rfl, h 8 _ rfl, h 9 _ rfl, h 10 _ rfl, h 11 _ rfl, h 12 _ rfl, h 13 _ rfl⟩
theorem gbox {w : World} {b : Nat} {c0 c1 c2 c3 c4 c5 c6 c7 c8 c9 c10 c11 c12 c13 : Value} {t : TypeId} (h : w.heap[b]? = some (.cells #[c0, c1, c2, c3, c4, c5, c6, c7, c8, c9, c10, c11, c12, c13] t (0, 0))) : w.cell? ⟨b, 0, none⟩ = some (c0) ∧ w.cell? ⟨b, 1, none⟩ = some (c1) ∧ w.cell? ⟨b, 2, none⟩ = some (c2) ∧ w.cell? ⟨b, 3, none⟩ = some (c3) ∧ w.cell? ⟨b, 4, none⟩ = some (c4) ∧ w.cell? ⟨b, 5, none⟩ = some (c5) ∧ w.cell? ⟨b, 6, none⟩ = some (c6) ∧ w.cell? ⟨b, 7, none⟩ = some (c7) ∧ w.cell? ⟨b, 8, none⟩ = some (c8) ∧ w.cell? ⟨b, 9, none⟩ = some (c9) ∧ w.cell? ⟨b, 10, none⟩ = some (c10) ∧ w.cell? ⟨b, 11, none⟩ = some (c11) ∧ w.cell? ⟨b, 12, none⟩ = some (c12) ∧ w.cell? ⟨b, 13, none⟩ = some (c13) := by
  have hr := range_of_block (cs := [c0, c1, c2, c3, c4, c5, c6, c7, c8, c9, c10, c11, c12, c13]) h
  refine ⟨by simpa using hr 0 _ rfl, by simpa using hr 1 _ rfl, by simpa using hr 2 _ rfl, by simpa using hr 3 _ rfl, by simpa using hr 4 _ rfl, by simpa using hr 5 _ rfl, by simpa using hr 6 _ rfl, by simpa using hr 7 _ rfl, by simpa using hr 8 _ rfl, by simpa using hr 9 _ rfl, by simpa using hr 10 _ rfl, by simpa using hr 11 _ rfl, by simpa using hr 12 _ rfl, by simpa using hr 13 _ rfl⟩
/-- what a group's slices hold. -/
def GvOk (W : World) (e : Gv) : Prop := SlBa W e.x e.y e.d.ba ∧ SlSh W e.z e.d.sh
/-- they hold it in blocks of their own, not below B. -/
def OwnGv (B : Nat) (W : World) (e : Gv) : Prop := OwnBa B W e.x e.y e.d.ba ∧ NewSh B W e.z e.d.sh ∧ ∀ g, e.z.ownBlock = some g → e.x.ownBlock ≠ some g ∧ e.y.ownBlock ≠ some g
/-- the blocks that hold a group's rows. -/
def blkG (e : Gv) : List Nat := e.x.ownBlock.toList ++ (e.y.ownBlock.toList ++ e.z.ownBlock.toList)
def blkGs (es : List Gv) : List Nat := es.flatMap blkG
/-- its rows and its name are not too long. -/
def GrFit (d : Gr) : Prop := d.na.size ≤ 1048576 ∧ d.ba.lo.length ≤ 1048576 ∧ d.ba.dr.length ≤ 1048576 ∧ d.sh.length ≤ 1048576
theorem GvOk.below {W W' : World} {e : Gv} (h : GvOk W e) (hb : Below W.heap.size W W') : GvOk W' e := ⟨h.1.below hb, h.2.below hb⟩
theorem OwnGv.ok {B : Nat} {W : World} {e : Gv} (h : OwnGv B W e) (hf : GrFit e.d) : GvOk W e := ⟨h.1.sl, h.2.1.sl hf.2.2.2⟩
theorem OwnGv.below {B : Nat} {W W' : World} {e : Gv} (h : OwnGv B W e) (hb : Below W.heap.size W W') : OwnGv B W' e := ⟨h.1.below hb, h.2.1.below hb, h.2.2⟩
theorem OwnGv.mono {B B' : Nat} {W : World} {e : Gv} (h : OwnGv B W e) (hB : B' ≤ B) : OwnGv B' W e := ⟨h.1.mono hB, h.2.1.mono hB, h.2.2⟩
theorem OwnGv.kept {S : Nat → Prop} {B : Nat} {W W' : World} {e : Gv} (h : OwnGv B W e) (hk : Kept S W W') (hS : ∀ g, B ≤ g → ¬ S g) : OwnGv B W' e :=
  ⟨h.1.kept hk (fun g hg => hS g (h.1.1.at g hg).1) (fun g hg => hS g (h.1.2.1.at g hg).1), h.2.1.kept hk (fun g hg => hS g (h.2.1.at g hg).1), h.2.2⟩
theorem OwnGv.at {B : Nat} {W : World} {e : Gv} (h : OwnGv B W e) : ∀ g ∈ blkG e, B ≤ g ∧ g < W.heap.size := by
  intro g hg
  simp only [blkG, List.mem_append, Option.mem_toList] at hg
  rcases hg with hg | hg | hg
  · exact h.1.1.at g hg
  · exact h.1.2.1.at g hg
  · exact h.2.1.at g hg
theorem OwnGv.nodup {B : Nat} {W : World} {e : Gv} (h : OwnGv B W e) : (blkG e).Nodup := by
  have one : ∀ o : Option Nat, o.toList.Nodup := fun o => by cases o <;> simp
  refine List.nodup_append.2 ⟨one _, List.nodup_append.2 ⟨one _, one _, ?_⟩, ?_⟩
  · intro a ha b hb e'
    subst e'
    exact (h.2.2 a (by simpa using hb)).2 (by simpa using ha)
  · intro a ha b hb e'
    subst e'
    rcases List.mem_append.1 hb with hb | hb
    · exact h.1.2.2 a (by simpa using ha) (by simpa using hb)
    · exact (h.2.2 a (by simpa using hb)).1 (by simpa using ha)
theorem info_gr : (Try.prog.info? 50).map (·.size) = some 14 := by kernel_rfl
theorem five_in {w : World} {b : Nat} {c0 c1 c2 c3 c4 c5 c6 c7 c8 c9 c10 c11 c12 c13 : Value} {t : TypeId} (h : w.heap[b]? = some (.cells #[c0, c1, c2, c3, c4, c5, c6, c7, c8, c9, c10, c11, c12, c13] t (0, 0))) (v0 v1 v2 v3 v4 : Value) :
    (((((w.setCell ⟨b, 8, none⟩ v0).setCell ⟨b, 9, none⟩ v1).setCell ⟨b, 10, none⟩ v2).setCell ⟨b, 11, none⟩ v3).setCell ⟨b, 12, none⟩ v4).heap[b]? = some (.cells #[c0, c1, c2, c3, c4, c5, c6, c7, v0, v1, v2, v3, v4, c13] t (0, 0)) := by
  rw [heap_setCell_same _ _ _ _ _ _ (heap_setCell_same _ _ _ _ _ _ (heap_setCell_same _ _ _ _ _ _ (heap_setCell_same _ _ _ _ _ _ (heap_setCell_same _ _ _ _ _ _ h))))]
  rfl
theorem kept_five_in (w : World) (b : Nat) (v0 v1 v2 v3 v4 : Value) : Kept (fun k => k = b) w (((((w.setCell ⟨b, 8, none⟩ v0).setCell ⟨b, 9, none⟩ v1).setCell ⟨b, 10, none⟩ v2).setCell ⟨b, 11, none⟩ v3).setCell ⟨b, 12, none⟩ v4) :=
  (((((Kept.set w b 8 v0).trans (Kept.set _ b 9 v1)).trans (Kept.set _ b 10 v2)).trans (Kept.set _ b 11 v3)).trans (Kept.set _ b 12 v4)).mono (by intro k h; simpa using h)
theorem Kept.setCells (w : World) (b o : Nat) (vs : List Value) : Kept (fun k => k = b) w (w.setCells b o vs) := by
  induction vs generalizing w o with
  | nil => exact Kept.refl _ _
  | cons v vs ih => exact ((Kept.set w b o v).trans (ih (w.setCell ⟨b, o, none⟩ v) (o + 1))).mono (by intro k h; simpa using h)
theorem there_of_block {w : World} {b : Nat} {cs : Array Value} {t : TypeId} (h : w.heap[b]? = some (.cells cs t (0, 0))) : w.there b 0 cs.size := by
  intro j hj
  constructor
  · unfold World.cell?; rw [h]; simp [hj]
  · unfold World.frozen?; rw [h]; simp
set_option maxHeartbeats 8000000 in
theorem toGroup_any (v : Gv) (w : World) (hs : GvOk w v) (hf : GrFit v.d) :
    Calls Try.prog 32 #[gvV v] w fun e w' => ∃ v' : Gv, e = .returned (gvV v') ∧ v'.d = v.d ∧ OwnGv w.heap.size w' v' ∧ Below w.heap.size w w' := by
  obtain ⟨⟨us, pa, na, we, cp, pe, ne, su, ⟨qu, po, sp, lo, dr⟩, sh⟩, x, y, z⟩ := v
  obtain ⟨hs1, hs2⟩ := hs
  obtain ⟨_, f1, f2, f3⟩ := hf
  unfold gvV
  dsimp only at *
  have hB : ∀ A B C, Below w.heap.size w (((w.alloc A).alloc B).alloc C) := fun A B C => (((Below.refl _ _).alloc (Nat.le_refl _) _).alloc (by simp) _).alloc (by simp; omega) _
  go_enter Try.func32, Try.ntmps32
  go_wp2_with fail
  refine (toBand_any ⟨qu, po, sp, lo, dr⟩ x y _ (hs1.below (hB _ _ _)) f1 f2).mono ?_
  rintro e1 w2 ⟨x', y', rfl, hN1, hb2⟩
  obtain ⟨px, cx, rfl⟩ := hN1.1.form
  obtain ⟨py, cy, rfl⟩ := hN1.2.1.form
  dsimp only at hN1 ⊢
  obtain ⟨hbl, hlt, hA, hR, hO⟩ := three_box' hb2
  obtain ⟨a0, a1, a2, a3, a4, a5, a6, a7, a8, a9, a10, a11, a12, a13⟩ := gbox hA
  obtain ⟨o0, o1, o2, o3, o4, o5, o6, o7, o8, o9, o10, o11, o12, o13⟩ := gbox hO
  have o8f := fbox hO 8
  have o9f := fbox hO 9
  have o10f := fbox hO 10
  have o11f := fbox hO 11
  have o12f := fbox hO 12
  unfold baV
  simp only []
  go_at_K
  go_wp2_with fail
  have hK := kept_five_in w2 (w.heap.size + 1 + 1) (.int .i64 qu) (.int .i64 po) (.int .i64 sp) (.slice px lo.length cx) (.slice py dr.length cy)
  have hO3 := five_in hO (.int .i64 qu) (.int .i64 po) (.int .i64 sp) (.slice px lo.length cx) (.slice py dr.length cy)
  have hb3 := hbl.trans (hK.toBelow hbl.size (by intro k hk; omega))
  have hA3 := (hK.block w.heap.size (by omega) (by omega)).trans hA
  have hR3 := (hK.block (w.heap.size + 1) (by omega) (by omega)).trans hR
  have hN3 := hN1.kept hK (fun g hg hh => by have := (hN1.1.at g hg).1; simp at this; omega) (fun g hg hh => by have := (hN1.2.1.at g hg).1; simp at this; omega)
  clear a0 a1 a2 a3 a4 a5 a6 a7 a8 a9 a10 a11 a12 a13 o0 o1 o2 o3 o4 o5 o6 o7 o8 o9 o10 o11 o12 o13 o8f o9f o10f o11f o12f
  have hsz3 := hK.size
  generalize ((((w2.setCell ⟨w.heap.size + 1 + 1, 8, none⟩ (.int .i64 qu)).setCell ⟨w.heap.size + 1 + 1, 9, none⟩ (.int .i64 po)).setCell ⟨w.heap.size + 1 + 1, 10, none⟩ (.int .i64 sp)).setCell ⟨w.heap.size + 1 + 1, 11, none⟩ (.slice px lo.length cx)).setCell ⟨w.heap.size + 1 + 1, 12, none⟩ (.slice py dr.length cy) = w3 at hK hO3 hb3 hA3 hR3 hN3 hsz3 ⊢
  refine (toShelfS_any z sh _ (hs2.below hb3) f3).mono ?_
  rintro e1 w4 ⟨z', rfl, hN4, hb4⟩
  have hsz4 := hb4.size
  have hO4 := (hb4.block (w.heap.size + 1 + 1) (by omega)).trans hO3
  have hR4 := (hb4.block (w.heap.size + 1) (by omega)).trans hR3
  have acc4 := hb3.trans (hb4.mono hb3.size)
  obtain ⟨o0, o1, o2, o3, o4, o5, o6, o7, o8, o9, o10, o11, o12, o13⟩ := gbox hO4
  have o13f := fbox hO4 13
  obtain ⟨r0, r1, r2, r3, r4, r5, r6, r7, r8, r9, r10, r11, r12, r13⟩ := gbox hR4
  have r0f := fbox hR4 0
  have r1f := fbox hR4 1
  have r2f := fbox hR4 2
  have r3f := fbox hR4 3
  have r4f := fbox hR4 4
  have r5f := fbox hR4 5
  have r6f := fbox hR4 6
  have r7f := fbox hR4 7
  have r8f := fbox hR4 8
  have r9f := fbox hR4 9
  have r10f := fbox hR4 10
  have r11f := fbox hR4 11
  have r12f := fbox hR4 12
  have r13f := fbox hR4 13
  have z1 := hN4.at
  obtain ⟨gz, zb, zl, rfl, z4, z5⟩ := hN4
  have zx : Hid (RowOf shC 5 w4 gz 0 sh) := z4
  have zt : Hid (w4.there gz 0 (sh.length * 5)) := z5
  clear z4 z5
  simp only []
  go_at_K
  go_wp2_with fail
  have hK5 := (Kept.set w4 (w.heap.size + 1 + 1) 13 (.slice (some ⟨gz, 0, none⟩) sh.length sh.length)).trans (Kept.setCells (w4.setCell ⟨w.heap.size + 1 + 1, 13, none⟩ (.slice (some ⟨gz, 0, none⟩) sh.length sh.length)) (w.heap.size + 1) 0 [.bool us, .int .i64 pa, .string na, .int .i64 we, .int .i64 cp, .int .i64 pe, .int .i64 ne, .int .i64 su, .int .i64 qu, .int .i64 po, .int .i64 sp, .slice px lo.length cx, .slice py dr.length cy, .slice (some ⟨gz, 0, none⟩) sh.length sh.length])
  have hth : (w4.setCell ⟨w.heap.size + 1 + 1, 13, none⟩ (.slice (some ⟨gz, 0, none⟩) sh.length sh.length)).there (w.heap.size + 1) 0 14 := there_set1 (there_of_block hR4)
  have hS : ∀ g, w.heap.size + 1 + 1 + 1 ≤ g → ¬ (g = w.heap.size + 1 + 1 ∨ g = w.heap.size + 1) := by intro g hg; omega
  have hN5 := (hN3.below hb4).kept hK5 (fun g hg => hS g (by have := (hN3.1.at g hg).1; simp at this; omega)) (fun g hg => hS g (by have := (hN3.2.1.at g hg).1; simp at this; omega))
  have hgz := hS gz (by omega)
  refine bodyPost_ret (results_mid rfl _ _ (w.heap.size + 1) 0 [.bool us, .int .i64 pa, .string na, .int .i64 we, .int .i64 cp, .int .i64 pe, .int .i64 ne, .int .i64 su, .int .i64 qu, .int .i64 po, .int .i64 sp, .slice px lo.length cx, .slice py dr.length cy, .slice (some ⟨gz, 0, none⟩) sh.length sh.length] _ rfl (World.rangeAt_setCells_same _ (w.heap.size + 1) 0 [.bool us, .int .i64 pa, .string na, .int .i64 we, .int .i64 cp, .int .i64 pe, .int .i64 ne, .int .i64 su, .int .i64 qu, .int .i64 po, .int .i64 sp, .slice px lo.length cx, .slice py dr.length cy, .slice (some ⟨gz, 0, none⟩) sh.length sh.length] hth) Try.underlying50 rfl info_gr) rfl ?_
  refine ⟨⟨⟨us, pa, na, we, cp, pe, ne, su, ⟨qu, po, sp, lo, dr⟩, sh⟩, .slice px lo.length cx, .slice py dr.length cy, .slice (some ⟨gz, 0, none⟩) sh.length sh.length⟩, rfl, rfl, ⟨hN5.mono (by simp; omega), ⟨gz, by omega, Nat.lt_of_lt_of_le zl hK5.size, rfl, zx.out.kept hK5 hgz, hK5.there zl hgz zt.out⟩, fun g hg => ?_⟩, acc4.trans (hK5.toBelow acc4.size (by intro k hk; omega))⟩
  have e1 : g = gz := by simpa [Value.ownBlock] using hg.symm
  exact ⟨fun hh => by have := (hN3.1.at g hh).2; omega, fun hh => by have := (hN3.2.1.at g hh).2; omega⟩

end Go.Proofs.Ytollijjmmpoonaa
