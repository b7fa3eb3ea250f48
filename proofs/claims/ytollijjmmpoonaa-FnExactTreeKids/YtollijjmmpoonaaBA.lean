/- Pools as plain data; the statements' own functions on them: what copies, measures, compares, marks one, and what asks whether it is held. -/
import Derived.Test.YtollijjmmpoonaaKM
namespace Go.Proofs.Ytollijjmmpoonaa
set_option linter.unusedVariables false
set_option linter.unusedSimpArgs false
open Go.ChangeShapes Go.WideShapes Go.ChangeAt Go.RowKit

structure Ba where
  qu : Int
  po : Int
  sp : Int
  lo : List Int
  dr : List Bool
def ba0 : Ba := ⟨0, 0, 0, [], []⟩
def baV (b : Ba) (x y : Value) : Value := .agg #[.int .i64 b.qu, .int .i64 b.po, .int .i64 b.sp, x, y]
/-- the box of a pool. -/
theorem bbox {w : World} {b : Nat} {x y z u v : Value} {t : TypeId} (h : w.heap[b]? = some (.cells #[x, y, z, u, v] t (0, 0))) :
    w.cell? ⟨b, 0, none⟩ = some x ∧ w.cell? ⟨b, 1, none⟩ = some y ∧ w.cell? ⟨b, 2, none⟩ = some z ∧ w.cell? ⟨b, 3, none⟩ = some u ∧ w.cell? ⟨b, 4, none⟩ = some v := by
  refine ⟨?_, ?_, ?_, ?_, ?_⟩ <;> simp [World.cell?, h]
/-- a pool whose two rows are its own, apart. -/
def OwnBa (B : Nat) (W : World) (x y : Value) (b : Ba) : Prop := OwnI B W x b.lo ∧ OwnB B W y b.dr ∧ ∀ g, x.ownBlock = some g → y.ownBlock ≠ some g
theorem OwnBa.kept {S : Nat → Prop} {B : Nat} {W W' : World} {x y : Value} {b : Ba} (h : OwnBa B W x y b) (hk : Kept S W W') (h1 : ∀ g, x.ownBlock = some g → ¬ S g) (h2 : ∀ g, y.ownBlock = some g → ¬ S g) : OwnBa B W' x y b :=
  ⟨h.1.kept hk h1, h.2.1.kept hk h2, h.2.2⟩
theorem OwnBa.below {B : Nat} {W W' : World} {x y : Value} {b : Ba} (h : OwnBa B W x y b) (hb : Below W.heap.size W W') : OwnBa B W' x y b :=
  ⟨h.1.below hb, h.2.1.below hb, h.2.2⟩
theorem OwnBa.mono {B B' : Nat} {W : World} {x y : Value} {b : Ba} (h : OwnBa B W x y b) (hB : B' ≤ B) : OwnBa B' W x y b :=
  ⟨h.1.mono hB, h.2.1.mono hB, h.2.2⟩
def SlBa (W : World) (x y : Value) (b : Ba) : Prop := SlI W x b.lo ∧ SlB W y b.dr
theorem OwnBa.sl {B : Nat} {W : World} {x y : Value} {b : Ba} (h : OwnBa B W x y b) : SlBa W x y b := ⟨h.1.sl, h.2.1.sl⟩
theorem SlBa.below {W W' : World} {x y : Value} {b : Ba} (h : SlBa W x y b) (hb : Below W.heap.size W W') : SlBa W' x y b := ⟨h.1.below hb, h.2.below hb⟩
theorem SlI.form {W : World} {x : Value} {ws : List Int} (h : SlI W x ws) : ∃ p c, x = .slice p ws.length c ∧ ws.length ≤ 9223372036854775807 := by
  rcases h with ⟨h0, a, cap, rfl⟩ | ⟨g, o, cap, rfl, _, h1, h2⟩
  · exact ⟨a, cap, by rw [h0]; rfl, by rw [h0]; decide⟩
  · exact ⟨_, _, rfl, by unfold maxLen at h2; omega⟩
theorem SlB.form {W : World} {x : Value} {ws : List Bool} (h : SlB W x ws) : ∃ p c, x = .slice p ws.length c ∧ ws.length ≤ 9223372036854775807 := by
  rcases h with ⟨h0, a, cap, rfl⟩ | ⟨g, o, cap, rfl, _, h1, h2⟩
  · exact ⟨a, cap, by rw [h0]; rfl, by rw [h0]; decide⟩
  · exact ⟨_, _, rfl, by unfold maxLen at h2; omega⟩

set_option maxHeartbeats 2000000 in
theorem szBand_any (b : Ba) (x y : Value) (w : World) (hs : SlBa w x y b) :
    Calls Try.prog 46 #[baV b x y, .int .i64 1048576] w fun e w' => (∃ n : Int, e = .returned (.int .i64 n) ∧ ((n < 0 ∧ n = -1) ∨ (0 ≤ n ∧ n ≤ 1048576 ∧ b.lo.length + b.dr.length + n = 1048576))) ∧ Below w.heap.size w w' := by
  obtain ⟨h1, h2⟩ := hs
  obtain ⟨p, c, rfl, hl⟩ := h1.form
  obtain ⟨p', c', rfl, hd⟩ := h2.form
  obtain ⟨qu, po, sp, lo, dr⟩ := b
  unfold baV
  dsimp only at *
  clear h1 h2
  generalize lo.length = n1 at *
  generalize dr.length = n2 at *
  by_cases c1 : (1048576 : Int) - n1 < 0
  · go_enter Try.func46, Try.ntmps46
    go_wp2
    go_ret
    exact ⟨⟨_, rfl, .inl ⟨by decide, rfl⟩⟩, (Below.refl _ _).alloc (Nat.le_refl _) _⟩
  · by_cases c2 : (1048576 : Int) - n1 - n2 < 0
    · go_enter Try.func46, Try.ntmps46
      go_wp2
      go_ret
      exact ⟨⟨_, rfl, .inl ⟨by decide, rfl⟩⟩, (Below.refl _ _).alloc (Nat.le_refl _) _⟩
    · go_enter Try.func46, Try.ntmps46
      go_wp2
      go_ret
      exact ⟨⟨_, rfl, .inr ⟨by omega, by omega, by omega⟩⟩, (Below.refl _ _).alloc (Nat.le_refl _) _⟩

set_option maxHeartbeats 2000000 in
theorem eqBand_same (b : Ba) (x y x' y' : Value) (w : World) (hx : SlBa w x y b) (hy : SlBa w x' y' b) :
    Calls Try.prog 55 #[baV b x y, baV b x' y'] w fun e w' => e = .returned (.bool true) ∧ Below w.heap.size w w' := by
  have hB : ∀ A B, Below w.heap.size w ((w.alloc A).alloc B) := fun A B => ((Below.refl _ _).alloc (Nat.le_refl _) _).alloc (by simp) _
  unfold baV
  go_enter Try.func55, Try.ntmps55
  go_wp2_with fail
  refine (eqIntS_same x x' b.lo _ (hx.1.below (hB _ _)) (hy.1.below (hB _ _))).mono ?_
  rintro e1 w2 ⟨rfl, hb2⟩
  obtain ⟨hbl, hlt, hX, hY⟩ := two_box hb2
  obtain ⟨q0, q1, q2, q3, q4⟩ := bbox hX
  obtain ⟨r0, r1, r2, r3, r4⟩ := bbox hY
  simp only []
  go_at_K
  go_wp2_with fail
  refine (eqBoolS_same y y' b.dr _ (hx.2.below hbl) (hy.2.below hbl)).mono ?_
  rintro e1 w3 ⟨rfl, hb3⟩
  simp only []
  go_at_K
  go_wp2_with fail
  go_ret
  exact ⟨rfl, hbl.trans (hb3.mono hbl.size)⟩

theorem range_of_block {w : World} {b : Nat} {cs : List Value} {t : TypeId} (h : w.heap[b]? = some (.cells cs.toArray t (0, 0))) : w.rangeAt b 0 cs := by
  intro j v hv
  rw [Nat.zero_add]
  simp [World.cell?, h, hv]
theorem five_set {w : World} {b : Nat} {x0 x1 x2 x3 x4 : Value} {t : TypeId} (h : w.heap[b]? = some (.cells #[x0, x1, x2, x3, x4] t (0, 0))) (v0 v1 v2 v3 v4 : Value) :
    (((((w.setCell ⟨b, 0, none⟩ v0).setCell ⟨b, 1, none⟩ v1).setCell ⟨b, 2, none⟩ v2).setCell ⟨b, 3, none⟩ v3).setCell ⟨b, 4, none⟩ v4).heap[b]? = some (.cells #[v0, v1, v2, v3, v4] t (0, 0)) := by
  rw [heap_setCell_same _ _ _ _ _ _ (heap_setCell_same _ _ _ _ _ _ (heap_setCell_same _ _ _ _ _ _ (heap_setCell_same _ _ _ _ _ _ (heap_setCell_same _ _ _ _ _ _ h))))]
  rfl
theorem Kept.five (w : World) (b : Nat) (v0 v1 v2 v3 v4 : Value) : Kept (fun k => k = b) w (((((w.setCell ⟨b, 0, none⟩ v0).setCell ⟨b, 1, none⟩ v1).setCell ⟨b, 2, none⟩ v2).setCell ⟨b, 3, none⟩ v3).setCell ⟨b, 4, none⟩ v4) :=
  (((((Kept.set w b 0 v0).trans (Kept.set _ b 1 v1)).trans (Kept.set _ b 2 v2)).trans (Kept.set _ b 3 v3)).trans (Kept.set _ b 4 v4)).mono (by intro k h; simpa using h)
theorem info_ba : (Try.prog.info? 47).map (·.size) = some 5 := by kernel_rfl
set_option maxHeartbeats 2000000 in
theorem toBand_any (b : Ba) (x y : Value) (w : World) (hs : SlBa w x y b) (hl : b.lo.length ≤ 1048576) (hd : b.dr.length ≤ 1048576) :
    Calls Try.prog 49 #[baV b x y] w fun e w' => ∃ x' y', e = .returned (baV b x' y') ∧ OwnBa w.heap.size w' x' y' b ∧ Below w.heap.size w w' := by
  unfold baV
  have hB : ∀ A B C, Below w.heap.size w (((w.alloc A).alloc B).alloc C) := fun A B C => (((Below.refl _ _).alloc (Nat.le_refl _) _).alloc (by simp) _).alloc (by simp; omega) _
  go_enter Try.func49, Try.ntmps49
  go_wp2_with fail
  refine (toIntS_any x b.lo _ (hs.1.below (hB _ _ _)) hl).mono ?_
  rintro e1 w2 ⟨x', rfl, hN, hb2⟩
  obtain ⟨hbl, hlt, hA, hR, hO⟩ := three_box' hb2
  obtain ⟨g, g1, g2, rfl, g4, g5⟩ := hN
  have hg : w.heap.size + 3 ≤ g := by simpa using g1
  obtain ⟨a0, a1, a2, a3, a4⟩ := bbox hA
  obtain ⟨o0, o1, o2, o3, o4⟩ := bbox hO
  have o3f := fbox hO 3
  simp only []
  go_at_K
  go_wp2_with fail
  have hK := Kept.set w2 (w.heap.size + 1 + 1) 3 (.slice (some ⟨g, 0, none⟩) b.lo.length b.lo.length)
  have hb3 : Below w.heap.size w (w2.setCell ⟨w.heap.size + 1 + 1, 3, none⟩ (.slice (some ⟨g, 0, none⟩) b.lo.length b.lo.length)) := hbl.setCell (by simp; omega) _
  refine (toBoolS_any y b.dr _ (hs.2.below hb3) hd).mono ?_
  rintro e1 w4 ⟨y', rfl, hN', hb4⟩
  obtain ⟨h, h1, h2, rfl, h4, h5⟩ := hN'
  simp only [World.size_setCell] at h1
  have hgh : g < h := by omega
  have hOs := heap_setCell_same w2 (w.heap.size + 1 + 1) 3 _ _ (.slice (some ⟨g, 0, none⟩) b.lo.length b.lo.length) hO
  have hA4 := (hb4.block (w.heap.size) (by simp; omega)).trans ((hK.block _ (by omega) (by omega)).trans hA)
  have hR4 := (hb4.block (w.heap.size + 1) (by simp; omega)).trans ((hK.block _ (by omega) (by omega)).trans hR)
  have hO4 := (hb4.block (w.heap.size + 1 + 1) (by simp; omega)).trans hOs
  have hsz4 := hb4.size
  simp only [World.size_setCell] at hsz4
  have acc4 := hb3.trans (hb4.mono hb3.size)
  have g4' := (hK.ints g2 (by omega) g4).below hb4
  have g5' := there_below (hK.there g2 (by omega) g5) hb4 (by simpa using g2)
  clear o0 o1 o2 o3 o4 a0 a1 a2 a3 a4 o3f
  simp only [List.setIfInBounds_toArray, List.set_cons_succ, List.set_cons_zero] at hO4
  obtain ⟨o0, o1, o2, o3, o4⟩ := bbox hO4
  obtain ⟨r0, r1, r2, r3, r4⟩ := bbox hR4
  have o4f := fbox hO4 4
  have r0f := fbox hR4 0
  have r1f := fbox hR4 1
  have r2f := fbox hR4 2
  have r3f := fbox hR4 3
  have r4f := fbox hR4 4
  simp only []
  go_at_K
  go_wp2_with fail
  have hK2 := Kept.set w4 (w.heap.size + 1 + 1) 4 (.slice (some ⟨h, 0, none⟩) b.dr.length b.dr.length)
  have hR5 := (hK2.block (w.heap.size + 1) (by omega) (by omega)).trans hR4
  have hK3 := hK2.trans (Kept.five _ (w.heap.size + 1) (.int .i64 b.qu) (.int .i64 b.po) (.int .i64 b.sp) (.slice (some ⟨g, 0, none⟩) b.lo.length b.lo.length) (.slice (some ⟨h, 0, none⟩) b.dr.length b.dr.length))
  refine bodyPost_ret (results_mid rfl _ _ (w.heap.size + 1) 0 [.int .i64 b.qu, .int .i64 b.po, .int .i64 b.sp, .slice (some ⟨g, 0, none⟩) b.lo.length b.lo.length, .slice (some ⟨h, 0, none⟩) b.dr.length b.dr.length] _ rfl (range_of_block (five_set hR5 _ _ _ _ _)) Try.underlying47 rfl info_ba) rfl ?_
  have hgl : g < w4.heap.size := by omega
  refine ⟨_, _, rfl, ⟨.inr ⟨g, _, by omega, Nat.lt_of_lt_of_le hgl hK3.size, rfl, hK3.ints hgl (by omega) g4', hK3.there hgl (by omega) g5', Nat.le_refl _, by unfold maxLen; omega⟩, .inr ⟨h, _, by omega, Nat.lt_of_lt_of_le h2 hK3.size, rfl, hK3.bools h2 (by omega) h4, hK3.there h2 (by omega) h5, Nat.le_refl _, by unfold maxLen; omega⟩, ?_⟩, acc4.trans (hK3.toBelow acc4.size (by intro k hk; omega))⟩
  intro k hk hk'
  simp [Value.ownBlock] at hk hk'
  omega
end Go.Proofs.Ytollijjmmpoonaa
