/- The program's bandCopy (slices.Clone). -/
import Derived.Test.YtljjgebkieffpaaBD
import Derived.Deep.AppendLies
namespace Go.Proofs.Ytljjgebkieffpaa
set_option linter.unusedVariables false
set_option linter.unusedSimpArgs false
open Go.ChangeShapes Go.WideShapes Go.ChangeAt Go.RowKit

theorem cellsI_at {W : World} {g o : Nat} {ws : List Int} (h : IntAt W g o ws) : ∀ j u, (cellsI ws)[j]? = some u → W.cell? ((⟨g, o, none⟩ : Addr).add j) = some u := by
  intro j u hu
  rw [add_none']
  unfold cellsI at hu
  rw [List.getElem?_map] at hu
  cases hx : ws[j]? with
  | none => rw [hx] at hu; cases hu
  | some n => rw [hx] at hu; obtain rfl : _ = u := by simpa using hu
              exact h j n hx
theorem cellsI_one {ws : List Int} : ∀ u ∈ cellsI ws, u.oneCell' = true := by
  intro u hu
  obtain ⟨n, _, rfl⟩ := List.mem_map.1 hu
  rfl
theorem cellsB_at {W : World} {g o : Nat} {ws : List Bool} (h : BoolAt W g o ws) : ∀ j u, (cellsB ws)[j]? = some u → W.cell? ((⟨g, o, none⟩ : Addr).add j) = some u := by
  intro j u hu
  rw [add_none']
  unfold cellsB at hu
  rw [List.getElem?_map] at hu
  cases hx : ws[j]? with
  | none => rw [hx] at hu; cases hu
  | some n => rw [hx] at hu; obtain rfl : _ = u := by simpa using hu
              exact h j n hx
theorem cellsB_one {ws : List Bool} : ∀ u ∈ cellsB ws, u.oneCell' = true := by
  intro u hu
  obtain ⟨n, _, rfl⟩ := List.mem_map.1 hu
  rfl

set_option maxRecDepth 100000 in
set_option maxHeartbeats 4000000 in
theorem cloneI_any (ws : List Int) (g o cap : Nat) (w : World) (hE : IntAt w g o ws) (h1 : 1 ≤ ws.length) (hn : ws.length ≤ 4) :
    Calls Try.prog 59 #[.slice (some ⟨g, o, none⟩) ws.length cap] w fun e w' => ∃ g2 cap2, e = .returned (.slice (some ⟨g2, 0, none⟩) ws.length cap2) ∧ OwnI w.heap.size w' (.slice (some ⟨g2, 0, none⟩) ws.length cap2) ws ∧ Below w.heap.size w w' := by
  obtain ⟨i0, hi0, hz0, hz1, hz2⟩ := info_parts info_int
  have hnil : ∀ w : World, (binOp .eql 23 (.slice (some ⟨g, o, none⟩) ws.length cap) (.slice none 0 0)).run Try.prog w = .ok (.bool false) w := fun w => Lib.run_eql_slice_nil w _ _ _ _ _ _ _ Try.underlying23
  have hmx : 0 + ws.length ≤ maxLen := by unfold maxLen; omega
  go_enter Try.func59, Try.ntmps59
  have hown0 : ∀ (C : Obj), C = .cells #[] 3 (0, 0) → (w.alloc C).ownsRow w.heap.size 3 1 (.slice (some ⟨w.heap.size, 0, none⟩) 0 0) 0 [] := by
    intro C hC
    subst hC
    exact ⟨rfl, .inr ⟨w.heap.size, 0, #[], rfl, Nat.le_refl _, heap_alloc_new _ _, Nat.le_refl _, by decide, rfl, rfl⟩⟩
  have hB : ∀ C, Below w.heap.size w (w.alloc C) := fun C => (Below.refl _ _).alloc (Nat.le_refl _) C
  go_wp2_with (at_builtin; refine wpList_append_lies _ rfl _ _ _ rfl w.heap.size 3 i0 _ 1 8 Try.underlying23 hi0 hz0 hz1 hz2 rfl (by omega) (.slice (some ⟨w.heap.size, 0, none⟩) 0 0) 0 [] rfl (hown0 _ rfl) ⟨g, o, none⟩ ws.length cap (cellsI ws) rfl (by simp [cellsI]) (cellsI_at (hE.below (hB _))) cellsI_one (by omega) hmx (by omega) (by simp) (w.heap.size + 1) (by simp) ?_; intro gg cap2 w1 hown1 hgrow hat hlt1)
  go_ret
  rw [Nat.zero_add] at hown1
  refine ⟨gg, cap2, by simp, own_of_rowI (by simpa using hown1) rfl, ?_⟩
  exact Below.grown (hB _) hgrow (by simp) (fun j ej => by simp [Value.ownBlock] at ej; omega)

set_option maxRecDepth 100000 in
set_option maxHeartbeats 4000000 in
theorem cloneB_any (ws : List Bool) (g o cap : Nat) (w : World) (hE : BoolAt w g o ws) (h1 : 1 ≤ ws.length) (hn : ws.length ≤ 4) :
    Calls Try.prog 60 #[.slice (some ⟨g, o, none⟩) ws.length cap] w fun e w' => ∃ g2 cap2, e = .returned (.slice (some ⟨g2, 0, none⟩) ws.length cap2) ∧ OwnB w.heap.size w' (.slice (some ⟨g2, 0, none⟩) ws.length cap2) ws ∧ Below w.heap.size w w' := by
  obtain ⟨i0, hi0, hz0, hz1, hz2⟩ := info_parts info_bool
  have hnil : ∀ w : World, (binOp .eql 24 (.slice (some ⟨g, o, none⟩) ws.length cap) (.slice none 0 0)).run Try.prog w = .ok (.bool false) w := fun w => Lib.run_eql_slice_nil w _ _ _ _ _ _ _ Try.underlying24
  have hmx : 0 + ws.length ≤ maxLen := by unfold maxLen; omega
  go_enter Try.func60, Try.ntmps60
  have hown0 : ∀ (C : Obj), C = .cells #[] 4 (0, 0) → (w.alloc C).ownsRow w.heap.size 4 1 (.slice (some ⟨w.heap.size, 0, none⟩) 0 0) 0 [] := by
    intro C hC
    subst hC
    exact ⟨rfl, .inr ⟨w.heap.size, 0, #[], rfl, Nat.le_refl _, heap_alloc_new _ _, Nat.le_refl _, by decide, rfl, rfl⟩⟩
  have hB : ∀ C, Below w.heap.size w (w.alloc C) := fun C => (Below.refl _ _).alloc (Nat.le_refl _) C
  go_wp2_with (at_builtin; refine wpList_append_lies _ rfl _ _ _ rfl w.heap.size 4 i0 _ 1 1 Try.underlying24 hi0 hz0 hz1 hz2 rfl (by omega) (.slice (some ⟨w.heap.size, 0, none⟩) 0 0) 0 [] rfl (hown0 _ rfl) ⟨g, o, none⟩ ws.length cap (cellsB ws) rfl (by simp [cellsB]) (cellsB_at (hE.below (hB _))) cellsB_one (by omega) hmx (by omega) (by simp) (w.heap.size + 1) (by simp) ?_; intro gg cap2 w1 hown1 hgrow hat hlt1)
  go_ret
  rw [Nat.zero_add] at hown1
  refine ⟨gg, cap2, by simp, own_of_rowB (by simpa using hown1) rfl, ?_⟩
  exact Below.grown (hB _) hgrow (by simp) (fun j ej => by simp [Value.ownBlock] at ej; omega)

set_option maxRecDepth 100000 in
set_option maxHeartbeats 8000000 in
theorem bandCopy_any (b : Ba) (x y : Value) (w : World) (hs : SlBa w x y b) (hh : headB b = true) :
    Calls Try.prog 39 #[baV b x y] w fun e w' => ∃ gx cx gy cy, e = .returned (baV b (.slice (some ⟨gx, 0, none⟩) b.lo.length cx) (.slice (some ⟨gy, 0, none⟩) b.lo.length cy)) ∧ Rows2 w.heap.size w' gx cx gy cy b ∧ Below w.heap.size w w' := by
  obtain ⟨_, ⟨n1, n4⟩, nd, _⟩ := head_parts hh
  obtain ⟨g, o, cap, g', o', cap', rfl, rfl, hE, hE', k1, k2, k3, k4⟩ := ok_rows hs hh
  have hB : ∀ A B, Below w.heap.size w ((w.alloc A).alloc B) := fun A B => ((Below.refl _ _).alloc (Nat.le_refl _) _).alloc (by simp) _
  have ND : Hid (b.dr.length = b.lo.length) := nd
  have hcl := fun w h => cloneB_any b.dr g' o' cap' w h (by omega) (by omega)
  rw [nd] at hcl
  clear nd hh hs
  unfold baV
  go_enter Try.func39, Try.ntmps39
  go_wp2_with fail
  refine (cloneI_any b.lo g o cap _ (hE.below (hB _ _)) n1 n4).mono ?_
  rintro e1 w2 ⟨gx, cx, rfl, hO, b2⟩
  obtain ⟨b2, lt2, hX, hR⟩ := two_box b2
  have gxat := hO.at gx rfl
  obtain ⟨xi, xt, xc, xm⟩ : IntAt w2 gx 0 b.lo ∧ w2.there gx 0 b.lo.length ∧ b.lo.length ≤ cx ∧ cx ≤ 9223372036854775807 := by
    rcases hO with ⟨h0, _⟩ | ⟨g1, c1, _, _, e1, e2, e3, e4, e5⟩
    · rw [h0] at n1; simp at n1
    · injection e1 with e1 _ e6
      injection e1 with e1
      injection e1 with e1 _ _
      subst e1 e6
      unfold maxLen at e5
      exact ⟨e2, e3, e4, by omega⟩
  clear hO
  obtain ⟨q0, q1, q2, q3, q4⟩ := bbox hX
  have f3 := fbox hX 3
  simp only [World.size_alloc] at gxat
  simp only []
  go_at_K
  go_wp2_with fail
  have hK3 := Kept.set w2 w.heap.size 3 (.slice (some ⟨gx, 0, none⟩) b.lo.length cx)
  have hX3 := heap_setCell_same _ _ 3 _ _ (.slice (some ⟨gx, 0, none⟩) b.lo.length cx) hX
  clear q0 q1 q2 q3 q4 f3
  revert hK3 hX3
  generalize w2.setCell ⟨w.heap.size, 3, none⟩ (.slice (some ⟨gx, 0, none⟩) b.lo.length cx) = W3
  intro hK3 hX3
  replace hX3 : W3.heap[w.heap.size]? = some (.cells #[.int .i64 b.qu, .int .i64 b.po, .int .i64 b.sp, .slice (some ⟨gx, 0, none⟩) b.lo.length cx, .slice (some ⟨g', o', none⟩) b.lo.length cap'] 26 (0, 0)) := hX3
  have sz3 := hK3.size
  have hR3 := (hK3.block (w.heap.size + 1) (by omega) (by omega)).trans hR
  have a3 := b2.trans (hK3.toBelow b2.size (by intro k hk; omega))
  refine (hcl W3 (hE'.below a3)).mono ?_
  rintro e1 w4 ⟨gy, cy, rfl, hO, b4⟩
  have gyat := hO.at gy rfl
  obtain ⟨yi, yt, yc, ym⟩ : BoolAt w4 gy 0 b.dr ∧ w4.there gy 0 b.dr.length ∧ b.dr.length ≤ cy ∧ cy ≤ 9223372036854775807 := by
    rcases hO with ⟨h0, _⟩ | ⟨g1, c1, _, _, e1, e2, e3, e4, e5⟩
    · have := ND.out; rw [h0] at this; simp at this; omega
    · injection e1 with e1 _ e6
      injection e1 with e1
      injection e1 with e1 _ _
      subst e1 e6
      unfold maxLen at e5
      exact ⟨e2, e3, e4, by omega⟩
  clear hO
  have sz4 := b4.size
  have hX4 := (b4.block w.heap.size (by omega)).trans hX3
  have hR4 := (b4.block (w.heap.size + 1) (by omega)).trans hR3
  have a4 := a3.trans (b4.mono a3.size)
  have xi4 := (hK3.ints gxat.2 (by omega) xi).below b4
  have xt4 := there_below (hK3.there gxat.2 (by omega) xt) b4 (by omega)
  obtain ⟨q0, q1, q2, q3, q4⟩ := bbox hX4
  have f4 := fbox hX4 4
  obtain ⟨s0, s1, s2, s3, s4⟩ := bbox hR4
  obtain ⟨t0, t1, t2, t3, t4⟩ := bboxf hR4
  have HR4 : Hid (_ = some _) := hR4
  have HX4 : Hid (_ = some _) := hX4
  clear hX4 hR4 hX3 hR3 hX hR hcl hE hE' hB xi xt
  simp only []
  go_at_K
  go_wp2_with fail
  have hKp := Kept.set w4 w.heap.size 4 (.slice (some ⟨gy, 0, none⟩) b.lo.length cy)
  have hRp := (hKp.block (w.heap.size + 1) (by omega) (by omega)).trans HR4.out
  have hK9 := hKp.trans (Kept.five _ (w.heap.size + 1) (.int .i64 b.qu) (.int .i64 b.po) (.int .i64 b.sp) (.slice (some ⟨gx, 0, none⟩) b.lo.length cx) (.slice (some ⟨gy, 0, none⟩) b.lo.length cy))
  refine bodyPost_ret (results_mid rfl _ _ (w.heap.size + 1) 0 [.int .i64 b.qu, .int .i64 b.po, .int .i64 b.sp, .slice (some ⟨gx, 0, none⟩) b.lo.length cx, .slice (some ⟨gy, 0, none⟩) b.lo.length cy] _ rfl (range_of_block (five_set hRp _ _ _ _ _)) Try.underlying26 rfl info_ba) rfl ?_
  have sz9 := hK9.size
  refine ⟨gx, cx, gy, cy, rfl, ⟨by omega, by omega, by omega, by omega, by omega, hK9.ints (by omega) (by omega) xi4, hK9.there (by omega) (by omega) xt4, xc, xm, hK9.bools gyat.2 (by omega) yi, hK9.there gyat.2 (by omega) yt, yc, ym⟩, a4.trans (hK9.toBelow a4.size (by intro k hk; omega))⟩
end Go.Proofs.Ytljjgebkieffpaa
