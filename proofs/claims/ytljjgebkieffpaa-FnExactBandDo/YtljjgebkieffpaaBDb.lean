/- The specification's BandDo: what is refused. -/
import Derived.Test.YtljjgebkieffpaaBD
namespace Go.Proofs.Ytljjgebkieffpaa
set_option linter.unusedVariables false
set_option linter.unusedSimpArgs false
open Go.ChangeShapes Go.WideShapes Go.ChangeAt Go.RowKit

set_option maxRecDepth 20000 in
set_option maxHeartbeats 40000000 in
theorem spec_doBad (b : Ba) (x y : Value) (k c n : Int) (w : World) (hs : SlBa w x y b) (hok : bandOk b = true) (c4 : ¬ k = 4) (hbad : hasB b c = true → ¬ k = 1 ∧ ¬ k = 2 ∧ ¬ k = 3) :
    Calls Try.prog 12 #[baV b x y, boV k c n] w fun e w' => ∃ x' y', e = .returned (.tuple #[baV (doBa b k c n).1 x' y', .int .i64 (doBa b k c n).2]) ∧ OwnBa w.heap.size w' x' y' (doBa b k c n).1 ∧ Below w.heap.size w w' := by
  have hh := (ok_parts hok).1
  have hB : ∀ A B C, Below w.heap.size w (((w.alloc A).alloc B).alloc C) := fun A B C => (((Below.refl _ _).alloc (Nat.le_refl _) _).alloc (by simp) _).alloc (by simp; omega) _
  obtain ⟨g, o, cap, g', o', cap', rfl, rfl, _, _, _, _, _, _⟩ := ok_rows hs hh
  generalize hdo : doBa b k c n = r
  unfold baV boV
  go_enter Try.func12, Try.ntmps12
  go_wp2_with fail
  refine (spec_bandOk b _ _ _ (hs.below (hB _ _ _))).mono ?_
  rintro e1 w2 ⟨rfl, b2⟩
  obtain ⟨b2, lt2, hA, hO, hR⟩ := three_box' b2
  obtain ⟨r0, r1, r2, r3, r4⟩ := bbox hA
  simp only []
  go_at_K
  go_wp2_with fail
  refine (l5Own_any b _ _ _ (hs.below b2) hh).mono ?_
  rintro e1 w3 ⟨x1, y1, rfl, o3, b3⟩
  have lt3 := Nat.lt_of_lt_of_le lt2 b3.size
  have hA3 := (b3.block _ (by omega)).trans hA
  have hO3 := (b3.block _ (by omega)).trans hO
  have hR3 := (b3.block _ (by omega)).trans hR
  have a3 := b2.trans (b3.mono b2.size)
  obtain ⟨⟨a1, a2⟩, ⟨n1, n4⟩, nd, ⟨a6, a7⟩, ⟨a8, a9⟩⟩ := head_parts hh
  obtain ⟨gx, cx, gy, cy, rfl, rfl, rw3⟩ := own_rows o3 n1 (by omega)
  rw [nd]
  have ND : Hid (b.dr.length = b.lo.length) := nd
  clear r0 r1 r2 r3 r4 o3 nd
  obtain ⟨r0, r1, r2, r3, r4⟩ := bbox hA3
  obtain ⟨f0, f1, f2, f3, f4⟩ := bboxf hA3
  obtain ⟨q0, q1, q2⟩ := obox hO3
  have x1 := rw3.x1
  have x2 := rw3.x2
  have y1 := rw3.y1
  have y2 := rw3.y2
  unfold baV
  simp only []
  go_at_K
  have hK4 := Kept.five w3 w.heap.size (.int .i64 b.qu) (.int .i64 b.po) (.int .i64 b.sp) (.slice (some ⟨gx, 0, none⟩) b.lo.length cx) (.slice (some ⟨gy, 0, none⟩) b.lo.length cy)
  have hA4 := five_set hA3 (.int .i64 b.qu) (.int .i64 b.po) (.int .i64 b.sp) (.slice (some ⟨gx, 0, none⟩) b.lo.length cx) (.slice (some ⟨gy, 0, none⟩) b.lo.length cy)
  have HK4 : Hid (Kept _ w3 _) := hK4
  have HA4 : Hid (_ = some _) := hA4
  clear hK4 hA4
  go_wp2_with fail
  have hK4 := HK4.out
  have hA4 := HA4.out
  clear HK4 HA4 r0 r1 r2 r3 r4 f0 f1 f2 f3 f4 q0 q1 q2
  revert hK4 hA4
  generalize (((((w3.setCell ⟨w.heap.size, 0, none⟩ (.int .i64 b.qu)).setCell ⟨w.heap.size, 1, none⟩ (.int .i64 b.po)).setCell ⟨w.heap.size, 2, none⟩ (.int .i64 b.sp)).setCell ⟨w.heap.size, 3, none⟩ (.slice (some ⟨gx, 0, none⟩) b.lo.length cx)).setCell ⟨w.heap.size, 4, none⟩ (.slice (some ⟨gy, 0, none⟩) b.lo.length cy)) = W4
  intro hK4 hA4
  have sz4 := hK4.size
  have hR4 := (hK4.block (w.heap.size + 1 + 1) (by omega) (by omega)).trans hR3
  have hO4 := (hK4.block (w.heap.size + 1) (by omega) (by omega)).trans hO3
  have rw4 := (rw3.kept hK4 (by omega) (by omega)).mono b2.size
  have a4 := a3.trans (hK4.toBelow a3.size (by intro k hk; omega))
  clear rw3 hK4 hA3 hO3 hR3
  obtain ⟨r0, r1, r2, r3, r4⟩ := bbox hA4
  obtain ⟨f0, f1, f2, f3, f4⟩ := bboxf hA4
  obtain ⟨q0, q1, q2⟩ := obox hO4
  obtain ⟨s0, s1, s2, s3, s4⟩ := bbox hR4
  obtain ⟨t0, t1, t2, t3, t4⟩ := bboxf hR4
  refine (l1In_any _ _ _ _).mono ?_
  rintro e1 w5 ⟨rfl, rfl⟩
  have rw5 := rw4
  have hA5 := hA4
  have hR5 := hR4
  have hO5 := hO4
  have a5 := a4
  clear rw4 hA4 hR4 hO4 a4
  cases hc : hasB b c
  · have hc' : l1in c 0 ((b.lo.length : Int) - 1) = false := hc
    have HD : Hid (r = (b, 1)) := by show _ = _; rw [← hdo]; unfold doBa; rw [hok, if_pos rfl, if_neg c4, hc]; simp
    clear hdo
    simp only []
    go_at_K
    go_wp2_with fail
    have rwp := rw5
    have rwq := rwp.kept (Kept.five _ (w.heap.size + 1 + 1) (.int .i64 b.qu) (.int .i64 (b.po)) (.int .i64 (b.sp)) (.slice (some ⟨gx, 0, none⟩) b.lo.length cx) (.slice (some ⟨gy, 0, none⟩) b.lo.length cy)) (by omega) (by omega)
    have aq := a5.trans ((Kept.five _ (w.heap.size + 1 + 1) (.int .i64 b.qu) (.int .i64 (b.po)) (.int .i64 (b.sp)) (.slice (some ⟨gx, 0, none⟩) b.lo.length cx) (.slice (some ⟨gy, 0, none⟩) b.lo.length cy)).toBelow a5.size (by intro k hk; omega))
    refine bodyPost_ret (results_mid2 rfl _ _ (w.heap.size + 1 + 1) 0 [.int .i64 b.qu, .int .i64 (b.po), .int .i64 (b.sp), .slice (some ⟨gx, 0, none⟩) b.lo.length cx, .slice (some ⟨gy, 0, none⟩) b.lo.length cy] _ rfl (range_of_block (five_set hR5 _ _ _ _ _)) Try.underlying26 rfl info_ba) rfl ?_
    rw [HD.out]
    refine ⟨_, _, rfl, ?_, aq⟩
    have key := (rwq.as (c := b) rfl rfl).own
    simpa [ND.out] using key
  · have hc' : l1in c 0 ((b.lo.length : Int) - 1) = true := hc
    have hkk := hbad hc
    have HD : Hid (r = (b, 1)) := by show _ = _; rw [← hdo]; unfold doBa; rw [hok, if_pos rfl, if_neg c4, hc, if_pos rfl, if_neg hkk.1, if_neg hkk.2.1, if_neg hkk.2.2]
    clear hdo
    obtain ⟨k1, k2, k3⟩ := hkk
    simp only []
    go_at_K
    go_wp2_with fail
    have rwp := rw5
    have rwq := rwp.kept (Kept.five _ (w.heap.size + 1 + 1) (.int .i64 b.qu) (.int .i64 (b.po)) (.int .i64 (b.sp)) (.slice (some ⟨gx, 0, none⟩) b.lo.length cx) (.slice (some ⟨gy, 0, none⟩) b.lo.length cy)) (by omega) (by omega)
    have aq := a5.trans ((Kept.five _ (w.heap.size + 1 + 1) (.int .i64 b.qu) (.int .i64 (b.po)) (.int .i64 (b.sp)) (.slice (some ⟨gx, 0, none⟩) b.lo.length cx) (.slice (some ⟨gy, 0, none⟩) b.lo.length cy)).toBelow a5.size (by intro k hk; omega))
    refine bodyPost_ret (results_mid2 rfl _ _ (w.heap.size + 1 + 1) 0 [.int .i64 b.qu, .int .i64 (b.po), .int .i64 (b.sp), .slice (some ⟨gx, 0, none⟩) b.lo.length cx, .slice (some ⟨gy, 0, none⟩) b.lo.length cy] _ rfl (range_of_block (five_set hR5 _ _ _ _ _)) Try.underlying26 rfl info_ba) rfl ?_
    rw [HD.out]
    refine ⟨_, _, rfl, ?_, aq⟩
    have key := (rwq.as (c := b) rfl rfl).own
    simpa [ND.out] using key
end Go.Proofs.Ytljjgebkieffpaa
