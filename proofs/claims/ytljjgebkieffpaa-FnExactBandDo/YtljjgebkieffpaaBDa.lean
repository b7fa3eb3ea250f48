/- The specification's BandDo: a refill. -/
import Derived.Test.YtljjgebkieffpaaBD
namespace Go.Proofs.Ytljjgebkieffpaa
set_option linter.unusedVariables false
set_option linter.unusedSimpArgs false
open Go.ChangeShapes Go.WideShapes Go.ChangeAt Go.RowKit

set_option maxRecDepth 20000 in
set_option maxHeartbeats 40000000 in
theorem spec_do4 (b : Ba) (x y : Value) (k c n : Int) (w : World) (hs : SlBa w x y b) (hok : bandOk b = true) (c4 : k = 4) :
    Calls Try.prog 12 #[baV b x y, boV k c n] w fun e w' => ∃ x' y', e = .returned (.tuple #[baV (doBa b k c n).1 x' y', .int .i64 (doBa b k c n).2]) ∧ OwnBa w.heap.size w' x' y' (doBa b k c n).1 ∧ Below w.heap.size w w' := by
  have hh := (ok_parts hok).1
  have hB : ∀ A B C, Below w.heap.size w (((w.alloc A).alloc B).alloc C) := fun A B C => (((Below.refl _ _).alloc (Nat.le_refl _) _).alloc (by simp) _).alloc (by simp; omega) _
  obtain ⟨g, o, cap, g', o', cap', rfl, rfl, _, _, _, _, _, _⟩ := ok_rows hs hh
  generalize hdo : doBa b k c n = r
  unfold baV boV
  go_enter Try.func12, Try.ntmps12
  go_wp2_with fail
  refine (spec_bandOk b _ _ _ (hs.below (hB _ _ _))).mono ?_
  rintro e1 w2 ⟨rfl, b2⟩
  obtain ⟨b2, lt2, hA, hO, hR⟩ := three_box' b2
  obtain ⟨r0, r1, r2, r3, r4⟩ := bbox hA
  simp only []
  go_at_K
  go_wp2_with fail
  refine (l5Own_any b _ _ _ (hs.below b2) hh).mono ?_
  rintro e1 w3 ⟨x1, y1, rfl, o3, b3⟩
  have lt3 := Nat.lt_of_lt_of_le lt2 b3.size
  have hA3 := (b3.block _ (by omega)).trans hA
  have hO3 := (b3.block _ (by omega)).trans hO
  have hR3 := (b3.block _ (by omega)).trans hR
  have a3 := b2.trans (b3.mono b2.size)
  obtain ⟨⟨a1, a2⟩, ⟨n1, n4⟩, nd, ⟨a6, a7⟩, ⟨a8, a9⟩⟩ := head_parts hh
  obtain ⟨gx, cx, gy, cy, rfl, rfl, rw3⟩ := own_rows o3 n1 (by omega)
  rw [nd]
  have ND : Hid (b.dr.length = b.lo.length) := nd
  clear r0 r1 r2 r3 r4 o3 nd
  obtain ⟨r0, r1, r2, r3, r4⟩ := bbox hA3
  obtain ⟨f0, f1, f2, f3, f4⟩ := bboxf hA3
  obtain ⟨q0, q1, q2⟩ := obox hO3
  have x1 := rw3.x1
  have x2 := rw3.x2
  have y1 := rw3.y1
  have y2 := rw3.y2
  unfold baV
  simp only []
  go_at_K
  have hK4 := Kept.five w3 w.heap.size (.int .i64 b.qu) (.int .i64 b.po) (.int .i64 b.sp) (.slice (some ⟨gx, 0, none⟩) b.lo.length cx) (.slice (some ⟨gy, 0, none⟩) b.lo.length cy)
  have hA4 := five_set hA3 (.int .i64 b.qu) (.int .i64 b.po) (.int .i64 b.sp) (.slice (some ⟨gx, 0, none⟩) b.lo.length cx) (.slice (some ⟨gy, 0, none⟩) b.lo.length cy)
  have HK4 : Hid (Kept _ w3 _) := hK4
  have HA4 : Hid (_ = some _) := hA4
  clear hK4 hA4
  subst c4
  have HD : Hid (r = (fullBa b, 0)) := by show _ = _; rw [← hdo]; unfold doBa; rw [hok]; simp
  clear hdo
  go_wp2_with fail
  have hK5 := (HK4.out.trans (Kept.set _ w.heap.size 1 (.int .i64 b.qu))).trans (Kept.set _ w.heap.size 2 (.int .i64 0))
  have hA5 := heap_setCell_same _ _ 2 _ _ (.int .i64 0) (heap_setCell_same _ _ 1 _ _ (.int .i64 b.qu) HA4.out)
  clear HK4 HA4 r0 r1 r2 r3 r4 f0 f1 f2 f3 f4 q0 q1 q2
  revert hK5 hA5
  generalize (((((((w3.setCell ⟨w.heap.size, 0, none⟩ (.int .i64 b.qu)).setCell ⟨w.heap.size, 1, none⟩ (.int .i64 b.po)).setCell ⟨w.heap.size, 2, none⟩ (.int .i64 b.sp)).setCell ⟨w.heap.size, 3, none⟩ (.slice (some ⟨gx, 0, none⟩) b.lo.length cx)).setCell ⟨w.heap.size, 4, none⟩ (.slice (some ⟨gy, 0, none⟩) b.lo.length cy)).setCell ⟨w.heap.size, 1, none⟩ (.int .i64 b.qu)).setCell ⟨w.heap.size, 2, none⟩ (.int .i64 0)) = W5
  intro hK5 hA5
  replace hA5 : W5.heap[w.heap.size]? = some (.cells #[.int .i64 b.qu, .int .i64 b.qu, .int .i64 0, .slice (some ⟨gx, 0, none⟩) b.lo.length cx, .slice (some ⟨gy, 0, none⟩) b.lo.length cy] 26 (0, 0)) := hA5
  have sz5 := hK5.size
  have hR5 := (hK5.block (w.heap.size + 1 + 1) (by omega) (by omega)).trans hR3
  have rw5 := rw3.kept hK5 (by omega) (by omega)
  have a5 := a3.trans (hK5.toBelow a3.size (by intro k hk; omega))
  clear rw3 hK5 hA3 hO3 hR3
  obtain ⟨i0, hi, hz0, hz1, hz2⟩ := info_parts info_int
  have hmk := run_make (P := Try.prog) W5 23 3 i0 _ Try.underlying23 hi hz0 .i64 .i64 b.lo.length b.lo.length (by omega) (by omega) (by rw [hz2]; omega) (by omega)
  simp only [hz1, Nat.mul_one, Int.toNat_natCast] at hmk
  obtain ⟨r0, r1, r2, r3, r4⟩ := bbox hA5
  have f3 := fbox hA5 3
  have ne5 : w.heap.size ≠ W5.heap.size := by omega
  have ne5' : W5.heap.size ≠ w.heap.size := by omega
  have lt5 : w.heap.size < W5.heap.size := by omega
  rw [hmk]
  go_simp
  have hb6 : Below W5.heap.size W5 (W5.alloc (.cells (madeCells #[.int .i64 0] b.lo.length) 3 (0, 0))) := (Below.refl _ _).alloc (Nat.le_refl _) _
  have hM6 := heap_alloc_new W5 (.cells (madeCells #[.int .i64 0] b.lo.length) 3 (0, 0))
  have sz6 : (W5.alloc (.cells (madeCells #[.int .i64 0] b.lo.length) 3 (0, 0))).heap.size = W5.heap.size + 1 := by simp
  clear hmk r0 r1 r2 r3 r4 f3
  revert hb6 hM6 sz6
  generalize W5.alloc (.cells (madeCells #[.int .i64 0] b.lo.length) 3 (0, 0)) = W6
  intro hb6 hM6 sz6
  have hA6 := (hb6.block w.heap.size lt5).trans hA5
  have hR6 := (hb6.block (w.heap.size + 1 + 1) (by omega)).trans hR5
  have rw6 := rw5.below hb6
  have a6 := a5.trans (hb6.mono a5.size)
  generalize W5.heap.size = M at *
  obtain ⟨r0, r1, r2, r3, r4⟩ := bbox hA6
  have f3 := fbox hA6 3
  clear hA5 hR5 rw5 a5 hb6
  go_at_K
  go_wp2_with fail
  have hK7 := Kept.set W6 w.heap.size 3 (.slice (some ⟨M, 0, none⟩) b.lo.length b.lo.length)
  have hA7 := heap_setCell_same _ _ 3 _ _ (.slice (some ⟨M, 0, none⟩) b.lo.length b.lo.length) hA6
  clear r0 r1 r2 r3 r4 f3
  revert hK7 hA7
  generalize W6.setCell ⟨w.heap.size, 3, none⟩ (.slice (some ⟨M, 0, none⟩) b.lo.length b.lo.length) = W7
  intro hK7 hA7
  have sz7 := hK7.size
  have hR7 := (hK7.block (w.heap.size + 1 + 1) (by omega) (by omega)).trans hR6
  have hM7 := (hK7.block M (by omega) (by omega)).trans hM6
  have rw7 := rw6.kept hK7 (by omega) (by omega)
  have a7 := a6.trans (hK7.toBelow a6.size (by intro k hk; omega))
  have hyt := rw7.yt
  have hwet := l5Wet_any ⟨b.qu, b.qu, 0, [], b.dr⟩ gy cy (some ⟨M, 0, none⟩) b.lo.length b.lo.length W7 (by omega) hyt (by rw [ND.out]; exact n4)
  unfold baV at hwet
  dsimp only at hwet
  rw [ND.out] at hwet
  refine hwet.mono ?_
  rintro e1 w8 ⟨rfl, yb8, yt8, hK8⟩
  clear hwet
  have sz8 := hK8.size
  have hR8 := (hK8.block (w.heap.size + 1 + 1) (by omega) (by omega)).trans hR7
  have hM8 := (hK8.block M (by omega) (by omega)).trans hM7
  have a8 := a7.trans (hK8.toBelow a7.size (by intro k hk; omega))
  obtain ⟨r0, r1, r2, r3, r4⟩ := bbox hR8
  obtain ⟨f0, f1, f2, f3, f4⟩ := bboxf hR8
  simp only []
  go_at_K
  go_wp2_with fail
  have hK9 := Kept.five w8 (w.heap.size + 1 + 1) (.int .i64 b.qu) (.int .i64 b.qu) (.int .i64 0) (.slice (some ⟨M, 0, none⟩) b.lo.length b.lo.length) (.slice (some ⟨gy, 0, none⟩) b.lo.length cy)
  refine bodyPost_ret (results_mid2 rfl _ _ (w.heap.size + 1 + 1) 0 [.int .i64 b.qu, .int .i64 b.qu, .int .i64 0, .slice (some ⟨M, 0, none⟩) b.lo.length b.lo.length, .slice (some ⟨gy, 0, none⟩) b.lo.length cy] _ rfl (range_of_block (five_set hR8 _ _ _ _ _)) Try.underlying26 rfl info_ba) rfl ?_
  rw [HD.out]
  obtain ⟨mi, mt⟩ := made_ints hM8
  have sz9 := hK9.size
  refine ⟨_, _, rfl, ?_, a8.trans (hK9.toBelow a8.size (by intro k hk; omega))⟩
  have key : Rows2 w.heap.size _ M b.lo.length gy cy (fullBa b) := ⟨by omega, by omega, by omega, by omega, by omega, hK9.ints (by omega) (by omega) mi, hK9.there (by omega) (by omega) (by simpa [fullBa] using mt), by simp [fullBa], by omega, hK9.bools (by omega) (by omega) (by simpa [fullBa, ND.out] using yb8), hK9.there (by omega) (by omega) (by simpa [fullBa, ND.out] using yt8), by simpa [fullBa] using rw6.yc, rw6.ym⟩
  have := key.own
  simpa [fullBa, ND.out] using this
end Go.Proofs.Ytljjgebkieffpaa
