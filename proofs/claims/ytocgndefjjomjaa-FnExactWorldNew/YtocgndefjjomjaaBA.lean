/- Pools as plain data; the statements' own functions on them: what copies, measures, compares, marks one, and what asks whether it is held. -/
import Derived.Test.YtocgndefjjomjaaKM
namespace Go.Proofs.Ytocgndefjjomjaa
set_option linter.unusedVariables false
set_option linter.unusedSimpArgs false
open Go.ChangeShapes Go.WideShapes Go.ChangeAt Go.RowKit

structure Ba where
  qu : Int
  po : Int
  sp : Int
  lo : List Int
  dr : List Bool
def ba0 : Ba := ⟨0, 0, 0, [], []⟩
def baV (b : Ba) (x y : Value) : Value := .agg #[.int .i64 b.qu, .int .i64 b.po, .int .i64 b.sp, x, y]
/-- the box of a pool. -/
theorem bbox {w : World} {b : Nat} {x y z u v : Value} {t : TypeId} (h : w.heap[b]? = some (.cells #[x, y, z, u, v] t (0, 0))) :
    w.cell? ⟨b, 0, none⟩ = some x ∧ w.cell? ⟨b, 1, none⟩ = some y ∧ w.cell? ⟨b, 2, none⟩ = some z ∧ w.cell? ⟨b, 3, none⟩ = some u ∧ w.cell? ⟨b, 4, none⟩ = some v := by
  refine ⟨?_, ?_, ?_, ?_, ?_⟩ <;> simp [World.cell?, h]
/-- a pool whose two rows are its own, apart. -/
def OwnBa (B : Nat) (W : World) (x y : Value) (b : Ba) : Prop := OwnI B W x b.lo ∧ OwnB B W y b.dr ∧ ∀ g, x.ownBlock = some g → y.ownBlock ≠ some g
theorem OwnBa.kept {S : Nat → Prop} {B : Nat} {W W' : World} {x y : Value} {b : Ba} (h : OwnBa B W x y b) (hk : Kept S W W') (h1 : ∀ g, x.ownBlock = some g → ¬ S g) (h2 : ∀ g, y.ownBlock = some g → ¬ S g) : OwnBa B W' x y b :=
  ⟨h.1.kept hk h1, h.2.1.kept hk h2, h.2.2⟩
theorem OwnBa.below {B : Nat} {W W' : World} {x y : Value} {b : Ba} (h : OwnBa B W x y b) (hb : Below W.heap.size W W') : OwnBa B W' x y b :=
  ⟨h.1.below hb, h.2.1.below hb, h.2.2⟩
theorem OwnBa.mono {B B' : Nat} {W : World} {x y : Value} {b : Ba} (h : OwnBa B W x y b) (hB : B' ≤ B) : OwnBa B' W x y b :=
  ⟨h.1.mono hB, h.2.1.mono hB, h.2.2⟩
def SlBa (W : World) (x y : Value) (b : Ba) : Prop := SlI W x b.lo ∧ SlB W y b.dr
theorem OwnBa.sl {B : Nat} {W : World} {x y : Value} {b : Ba} (h : OwnBa B W x y b) : SlBa W x y b := ⟨h.1.sl, h.2.1.sl⟩
theorem SlBa.below {W W' : World} {x y : Value} {b : Ba} (h : SlBa W x y b) (hb : Below W.heap.size W W') : SlBa W' x y b := ⟨h.1.below hb, h.2.below hb⟩
theorem SlI.form {W : World} {x : Value} {ws : List Int} (h : SlI W x ws) : ∃ p c, x = .slice p ws.length c ∧ ws.length ≤ 9223372036854775807 := by
  rcases h with ⟨h0, a, cap, rfl⟩ | ⟨g, o, cap, rfl, _, h1, h2⟩
  · exact ⟨a, cap, by rw [h0]; rfl, by rw [h0]; decide⟩
  · exact ⟨_, _, rfl, by unfold maxLen at h2; omega⟩
theorem SlB.form {W : World} {x : Value} {ws : List Bool} (h : SlB W x ws) : ∃ p c, x = .slice p ws.length c ∧ ws.length ≤ 9223372036854775807 := by
  rcases h with ⟨h0, a, cap, rfl⟩ | ⟨g, o, cap, rfl, _, h1, h2⟩
  · exact ⟨a, cap, by rw [h0]; rfl, by rw [h0]; decide⟩
  · exact ⟨_, _, rfl, by unfold maxLen at h2; omega⟩

set_option maxHeartbeats 2000000 in
theorem eqBand_same (b : Ba) (x y x' y' : Value) (w : World) (hx : SlBa w x y b) (hy : SlBa w x' y' b) :
    Calls Try.prog 32 #[baV b x y, baV b x' y'] w fun e w' => e = .returned (.bool true) ∧ Below w.heap.size w w' := by
  have hB : ∀ A B, Below w.heap.size w ((w.alloc A).alloc B) := fun A B => ((Below.refl _ _).alloc (Nat.le_refl _) _).alloc (by simp) _
  unfold baV
  go_enter Try.func32, Try.ntmps32
  go_wp2_with fail
  refine (eqIntS_same x x' b.lo _ (hx.1.below (hB _ _)) (hy.1.below (hB _ _))).mono ?_
  rintro e1 w2 ⟨rfl, hb2⟩
  obtain ⟨hbl, hlt, hX, hY⟩ := two_box hb2
  obtain ⟨q0, q1, q2, q3, q4⟩ := bbox hX
  obtain ⟨r0, r1, r2, r3, r4⟩ := bbox hY
  simp only []
  go_at_K
  go_wp2_with fail
  refine (eqBoolS_same y y' b.dr _ (hx.2.below hbl) (hy.2.below hbl)).mono ?_
  rintro e1 w3 ⟨rfl, hb3⟩
  simp only []
  go_at_K
  go_wp2_with fail
  go_ret
  exact ⟨rfl, hbl.trans (hb3.mono hbl.size)⟩

theorem range_of_block {w : World} {b : Nat} {cs : List Value} {t : TypeId} (h : w.heap[b]? = some (.cells cs.toArray t (0, 0))) : w.rangeAt b 0 cs := by
  intro j v hv
  rw [Nat.zero_add]
  simp [World.cell?, h, hv]
theorem five_set {w : World} {b : Nat} {x0 x1 x2 x3 x4 : Value} {t : TypeId} (h : w.heap[b]? = some (.cells #[x0, x1, x2, x3, x4] t (0, 0))) (v0 v1 v2 v3 v4 : Value) :
    (((((w.setCell ⟨b, 0, none⟩ v0).setCell ⟨b, 1, none⟩ v1).setCell ⟨b, 2, none⟩ v2).setCell ⟨b, 3, none⟩ v3).setCell ⟨b, 4, none⟩ v4).heap[b]? = some (.cells #[v0, v1, v2, v3, v4] t (0, 0)) := by
  rw [heap_setCell_same _ _ _ _ _ _ (heap_setCell_same _ _ _ _ _ _ (heap_setCell_same _ _ _ _ _ _ (heap_setCell_same _ _ _ _ _ _ (heap_setCell_same _ _ _ _ _ _ h))))]
  rfl
theorem Kept.five (w : World) (b : Nat) (v0 v1 v2 v3 v4 : Value) : Kept (fun k => k = b) w (((((w.setCell ⟨b, 0, none⟩ v0).setCell ⟨b, 1, none⟩ v1).setCell ⟨b, 2, none⟩ v2).setCell ⟨b, 3, none⟩ v3).setCell ⟨b, 4, none⟩ v4) :=
  (((((Kept.set w b 0 v0).trans (Kept.set _ b 1 v1)).trans (Kept.set _ b 2 v2)).trans (Kept.set _ b 3 v3)).trans (Kept.set _ b 4 v4)).mono (by intro k h; simpa using h)
theorem info_ba : (Try.prog.info? 38).map (·.size) = some 5 := by kernel_rfl
end Go.Proofs.Ytocgndefjjomjaa
