/- The specification's BandDo: a processor takes. -/
import Derived.Test.YtljjgebkieffpaaBD
namespace Go.Proofs.Ytljjgebkieffpaa
set_option linter.unusedVariables false
set_option linter.unusedSimpArgs false
open Go.ChangeShapes Go.WideShapes Go.ChangeAt Go.RowKit

set_option maxRecDepth 20000 in
set_option maxHeartbeats 40000000 in
theorem spec_do1 (b : Ba) (x y : Value) (k c n : Int) (w : World) (hs : SlBa w x y b) (hok : bandOk b = true) (c4 : ¬ k = 4) (hc : hasB b c = true) (k1 : k = 1) :
    Calls Try.prog 12 #[baV b x y, boV k c n] w fun e w' => ∃ x' y', e = .returned (.tuple #[baV (doBa b k c n).1 x' y', .int .i64 (doBa b k c n).2]) ∧ OwnBa w.heap.size w' x' y' (doBa b k c n).1 ∧ Below w.heap.size w w' := by
  have hh := (ok_parts hok).1
  have hB : ∀ A B C, Below w.heap.size w (((w.alloc A).alloc B).alloc C) := fun A B C => (((Below.refl _ _).alloc (Nat.le_refl _) _).alloc (by simp) _).alloc (by simp; omega) _
  obtain ⟨g, o, cap, g', o', cap', rfl, rfl, _, _, _, _, _, _⟩ := ok_rows hs hh
  generalize hdo : doBa b k c n = r
  unfold baV boV
  go_enter Try.func12, Try.ntmps12
  go_wp2_with fail
  refine (spec_bandOk b _ _ _ (hs.below (hB _ _ _))).mono ?_
  rintro e1 w2 ⟨rfl, b2⟩
  obtain ⟨b2, lt2, hA, hO, hR⟩ := three_box' b2
  obtain ⟨r0, r1, r2, r3, r4⟩ := bbox hA
  simp only []
  go_at_K
  go_wp2_with fail
  refine (l5Own_any b _ _ _ (hs.below b2) hh).mono ?_
  rintro e1 w3 ⟨x1, y1, rfl, o3, b3⟩
  have lt3 := Nat.lt_of_lt_of_le lt2 b3.size
  have hA3 := (b3.block _ (by omega)).trans hA
  have hO3 := (b3.block _ (by omega)).trans hO
  have hR3 := (b3.block _ (by omega)).trans hR
  have a3 := b2.trans (b3.mono b2.size)
  obtain ⟨⟨a1, a2⟩, ⟨n1, n4⟩, nd, ⟨a6, a7⟩, ⟨a8, a9⟩⟩ := head_parts hh
  obtain ⟨gx, cx, gy, cy, rfl, rfl, rw3⟩ := own_rows o3 n1 (by omega)
  rw [nd]
  have ND : Hid (b.dr.length = b.lo.length) := nd
  clear r0 r1 r2 r3 r4 o3 nd
  obtain ⟨r0, r1, r2, r3, r4⟩ := bbox hA3
  obtain ⟨f0, f1, f2, f3, f4⟩ := bboxf hA3
  obtain ⟨q0, q1, q2⟩ := obox hO3
  have x1 := rw3.x1
  have x2 := rw3.x2
  have y1 := rw3.y1
  have y2 := rw3.y2
  unfold baV
  simp only []
  go_at_K
  have hK4 := Kept.five w3 w.heap.size (.int .i64 b.qu) (.int .i64 b.po) (.int .i64 b.sp) (.slice (some ⟨gx, 0, none⟩) b.lo.length cx) (.slice (some ⟨gy, 0, none⟩) b.lo.length cy)
  have hA4 := five_set hA3 (.int .i64 b.qu) (.int .i64 b.po) (.int .i64 b.sp) (.slice (some ⟨gx, 0, none⟩) b.lo.length cx) (.slice (some ⟨gy, 0, none⟩) b.lo.length cy)
  have HK4 : Hid (Kept _ w3 _) := hK4
  have HA4 : Hid (_ = some _) := hA4
  clear hK4 hA4
  go_wp2_with fail
  have hK4 := HK4.out
  have hA4 := HA4.out
  clear HK4 HA4 r0 r1 r2 r3 r4 f0 f1 f2 f3 f4 q0 q1 q2
  revert hK4 hA4
  generalize (((((w3.setCell ⟨w.heap.size, 0, none⟩ (.int .i64 b.qu)).setCell ⟨w.heap.size, 1, none⟩ (.int .i64 b.po)).setCell ⟨w.heap.size, 2, none⟩ (.int .i64 b.sp)).setCell ⟨w.heap.size, 3, none⟩ (.slice (some ⟨gx, 0, none⟩) b.lo.length cx)).setCell ⟨w.heap.size, 4, none⟩ (.slice (some ⟨gy, 0, none⟩) b.lo.length cy)) = W4
  intro hK4 hA4
  have sz4 := hK4.size
  have hR4 := (hK4.block (w.heap.size + 1 + 1) (by omega) (by omega)).trans hR3
  have hO4 := (hK4.block (w.heap.size + 1) (by omega) (by omega)).trans hO3
  have rw4 := (rw3.kept hK4 (by omega) (by omega)).mono b2.size
  have a4 := a3.trans (hK4.toBelow a3.size (by intro k hk; omega))
  clear rw3 hK4 hA3 hO3 hR3
  obtain ⟨r0, r1, r2, r3, r4⟩ := bbox hA4
  obtain ⟨f0, f1, f2, f3, f4⟩ := bboxf hA4
  obtain ⟨q0, q1, q2⟩ := obox hO4
  obtain ⟨s0, s1, s2, s3, s4⟩ := bbox hR4
  obtain ⟨t0, t1, t2, t3, t4⟩ := bboxf hR4
  refine (l1In_any _ _ _ _).mono ?_
  rintro e1 w5 ⟨rfl, rfl⟩
  have rw5 := rw4
  have hA5 := hA4
  have hR5 := hR4
  have hO5 := hO4
  have a5 := a4
  clear rw4 hA4 hR4 hO4 a4
  have hc' : l1in c 0 ((b.lo.length : Int) - 1) = true := hc
  obtain ⟨c0, c1⟩ := l1in_iff.1 hc'
  obtain ⟨cn, rfl⟩ : ∃ cn : Nat, c = cn := ⟨c.toNat, by omega⟩
  have c1' : (cn : Int) < (b.lo.length : Int) := by omega
  have c1n : cn < b.lo.length := by omega
  obtain ⟨m, he⟩ := int_get c1n
  obtain ⟨hm0, hm1⟩ := ok_lo hok he
  have x5 := rw5.xi cn m he
  rw [Nat.zero_add] at x5
  have HL : Hid (loAt b cn = m) := by show _ = _; unfold loAt; rw [he]; rfl
  obtain ⟨d, he'⟩ : ∃ d, b.dr[cn]? = some d := ⟨b.dr[cn]'(by rw [ND.out]; exact c1n), List.getElem?_eq_getElem _⟩
  have c1d : cn < b.dr.length := by rw [ND.out]; exact c1n
  have u1 : w.heap.size ≠ gx := by omega
  have u1' : gx ≠ w.heap.size := by omega
  have u2 : w.heap.size + 1 + 1 ≠ gx := by omega
  have u2' : gx ≠ w.heap.size + 1 + 1 := by omega
  have u3 : w.heap.size ≠ gy := by omega
  have u3' : gy ≠ w.heap.size := by omega
  have u4 : w.heap.size + 1 + 1 ≠ gy := by omega
  have u4' : gy ≠ w.heap.size + 1 + 1 := by omega
  have u5 : gx ≠ gy := rw5.ne
  have u5' : gy ≠ gx := Ne.symm u5
  subst k1
  by_cases m0 : 0 < m
  · have HD : Hid (r = (b, 0)) := by show _ = _; rw [← hdo]; unfold doBa; rw [hok, if_pos rfl, if_neg c4, hc, if_pos rfl, if_pos rfl]; unfold takesBa; rw [Int.toNat_natCast, HL.out, if_pos m0]
    clear hdo
    clear c1d
    simp only []
    go_at_K
    go_wp2_with fail
    have rwp := rw5
    have rwq := rwp.kept (Kept.five _ (w.heap.size + 1 + 1) (.int .i64 b.qu) (.int .i64 (b.po)) (.int .i64 (b.sp)) (.slice (some ⟨gx, 0, none⟩) b.lo.length cx) (.slice (some ⟨gy, 0, none⟩) b.lo.length cy)) (by omega) (by omega)
    have aq := a5.trans ((Kept.five _ (w.heap.size + 1 + 1) (.int .i64 b.qu) (.int .i64 (b.po)) (.int .i64 (b.sp)) (.slice (some ⟨gx, 0, none⟩) b.lo.length cx) (.slice (some ⟨gy, 0, none⟩) b.lo.length cy)).toBelow a5.size (by intro k hk; omega))
    refine bodyPost_ret (results_mid2 rfl _ _ (w.heap.size + 1 + 1) 0 [.int .i64 b.qu, .int .i64 (b.po), .int .i64 (b.sp), .slice (some ⟨gx, 0, none⟩) b.lo.length cx, .slice (some ⟨gy, 0, none⟩) b.lo.length cy] _ rfl (range_of_block (five_set hR5 _ _ _ _ _)) Try.underlying26 rfl info_ba) rfl ?_
    rw [HD.out]
    refine ⟨_, _, rfl, ?_, aq⟩
    have key := (rwq.as (c := b) rfl rfl).own
    simpa [ND.out] using key
  · have HZ : Hid (m = 0) := by show _ = _; omega
    simp only []
    go_at_K
    go_wp2_with fail
    refine (l1Min_any _ _ _).mono ?_
    rintro e1 w6 ⟨rfl, rfl⟩
    obtain ⟨_, xf5⟩ := rw5.xt cn c1n
    obtain ⟨_, yf5⟩ := rw5.yt cn c1d
    have y5 := rw5.yi cn d he'
    rw [Nat.zero_add] at xf5 yf5 y5
    by_cases p0 : b.po = 0
    · have HD : Hid (r = (⟨b.qu, 0, b.sp, b.lo, b.dr.set cn true⟩, 2)) := by show _ = _; rw [← hdo]; unfold doBa; rw [hok, if_pos rfl, if_neg c4, hc, if_pos rfl, if_pos rfl]; unfold takesBa; rw [Int.toNat_natCast, HL.out, if_neg (show ¬ 0 < m by omega), if_pos p0, p0]
      clear hdo
      rw [p0]
      simp only []
      go_at_K
      go_wp2_with fail
      have rwp := ((rw5.kept (Kept.set w6 w.heap.size 1 (.int .i64 (0))) (by omega) (by omega)).setX c1n (0)).setY (k := cn) c1d true
      have rwq := rwp.kept (Kept.five _ (w.heap.size + 1 + 1) (.int .i64 b.qu) (.int .i64 (0)) (.int .i64 (b.sp)) (.slice (some ⟨gx, 0, none⟩) b.lo.length cx) (.slice (some ⟨gy, 0, none⟩) b.lo.length cy)) (by omega) (by omega)
      have hKp := ((Kept.set w6 w.heap.size 1 (.int .i64 (0))).trans (Kept.set _ gx cn (.int .i64 (0)))).trans (Kept.set _ gy cn (.bool true))
      have hRp := (hKp.block (w.heap.size + 1 + 1) (by omega) (by omega)).trans hR5
      have aq := a5.trans ((hKp.trans (Kept.five _ (w.heap.size + 1 + 1) (.int .i64 b.qu) (.int .i64 (0)) (.int .i64 (b.sp)) (.slice (some ⟨gx, 0, none⟩) b.lo.length cx) (.slice (some ⟨gy, 0, none⟩) b.lo.length cy))).toBelow a5.size (by intro k hk; omega))
      refine bodyPost_ret (results_mid2 rfl _ _ (w.heap.size + 1 + 1) 0 [.int .i64 b.qu, .int .i64 (0), .int .i64 (b.sp), .slice (some ⟨gx, 0, none⟩) b.lo.length cx, .slice (some ⟨gy, 0, none⟩) b.lo.length cy] _ rfl (range_of_block (five_set hRp _ _ _ _ _)) Try.underlying26 rfl info_ba) rfl ?_
      rw [HD.out]
      refine ⟨_, _, rfl, ?_, aq⟩
      have key := (rwq.as (c := ⟨b.qu, 0, b.sp, b.lo.set cn 0, b.dr.set cn true⟩) rfl rfl).own
      have hz : b.lo.set cn 0 = b.lo := by
        have := set_same he
        rwa [HZ.out] at this
      rw [hz] at key
      simpa [ND.out] using key
    · have hd : d = false := dry_not hok he' (by omega)
      subst hd
      by_cases p1 : 20 < b.po
      · have HD : Hid (r = (⟨b.qu, b.po - 20, b.sp, b.lo.set cn 20, b.dr⟩, 0)) := by show _ = _; rw [← hdo]; unfold doBa; rw [hok, if_pos rfl, if_neg c4, hc, if_pos rfl, if_pos rfl]; unfold takesBa; rw [Int.toNat_natCast, HL.out, if_neg (show ¬ 0 < m by omega), if_neg p0]; unfold min20; rw [if_pos p1]
        clear hdo
        rw [if_pos p1]
        have hwr : IntKind.i64.wrap (b.po - 20) = b.po - 20 := wrapI (by omega) (by omega)
        simp only []
        go_at_K
        go_wp2_with fail
        have rwp := ((rw5.kept (Kept.set w6 w.heap.size 1 (.int .i64 (b.po - 20))) (by omega) (by omega)).setX c1n (20)).setY (k := cn) c1d false
        have rwq := rwp.kept (Kept.five _ (w.heap.size + 1 + 1) (.int .i64 b.qu) (.int .i64 (b.po - 20)) (.int .i64 (b.sp)) (.slice (some ⟨gx, 0, none⟩) b.lo.length cx) (.slice (some ⟨gy, 0, none⟩) b.lo.length cy)) (by omega) (by omega)
        have hKp := ((Kept.set w6 w.heap.size 1 (.int .i64 (b.po - 20))).trans (Kept.set _ gx cn (.int .i64 (20)))).trans (Kept.set _ gy cn (.bool false))
        have hRp := (hKp.block (w.heap.size + 1 + 1) (by omega) (by omega)).trans hR5
        have aq := a5.trans ((hKp.trans (Kept.five _ (w.heap.size + 1 + 1) (.int .i64 b.qu) (.int .i64 (b.po - 20)) (.int .i64 (b.sp)) (.slice (some ⟨gx, 0, none⟩) b.lo.length cx) (.slice (some ⟨gy, 0, none⟩) b.lo.length cy))).toBelow a5.size (by intro k hk; omega))
        refine bodyPost_ret (results_mid2 rfl _ _ (w.heap.size + 1 + 1) 0 [.int .i64 b.qu, .int .i64 (b.po - 20), .int .i64 (b.sp), .slice (some ⟨gx, 0, none⟩) b.lo.length cx, .slice (some ⟨gy, 0, none⟩) b.lo.length cy] _ rfl (range_of_block (five_set hRp _ _ _ _ _)) Try.underlying26 rfl info_ba) rfl ?_
        rw [HD.out]
        refine ⟨_, _, rfl, ?_, aq⟩
        have key := (rwq.as (c := ⟨b.qu, b.po - 20, b.sp, b.lo.set cn 20, b.dr.set cn false⟩) rfl rfl).own
        rw [set_same he'] at key
        simpa [ND.out] using key
      · have HD : Hid (r = (⟨b.qu, 0, b.sp, b.lo.set cn b.po, b.dr⟩, 0)) := by show _ = _; rw [← hdo]; unfold doBa; rw [hok, if_pos rfl, if_neg c4, hc, if_pos rfl, if_pos rfl]; unfold takesBa; rw [Int.toNat_natCast, HL.out, if_neg (show ¬ 0 < m by omega), if_neg p0]; unfold min20; rw [if_neg p1, Int.sub_self]
        clear hdo
        rw [if_neg p1]
        simp only []
        go_at_K
        go_wp2_with fail
        have rwp := ((rw5.kept (Kept.set w6 w.heap.size 1 (.int .i64 (0))) (by omega) (by omega)).setX c1n (b.po)).setY (k := cn) c1d false
        have rwq := rwp.kept (Kept.five _ (w.heap.size + 1 + 1) (.int .i64 b.qu) (.int .i64 (0)) (.int .i64 (b.sp)) (.slice (some ⟨gx, 0, none⟩) b.lo.length cx) (.slice (some ⟨gy, 0, none⟩) b.lo.length cy)) (by omega) (by omega)
        have hKp := ((Kept.set w6 w.heap.size 1 (.int .i64 (0))).trans (Kept.set _ gx cn (.int .i64 (b.po)))).trans (Kept.set _ gy cn (.bool false))
        have hRp := (hKp.block (w.heap.size + 1 + 1) (by omega) (by omega)).trans hR5
        have aq := a5.trans ((hKp.trans (Kept.five _ (w.heap.size + 1 + 1) (.int .i64 b.qu) (.int .i64 (0)) (.int .i64 (b.sp)) (.slice (some ⟨gx, 0, none⟩) b.lo.length cx) (.slice (some ⟨gy, 0, none⟩) b.lo.length cy))).toBelow a5.size (by intro k hk; omega))
        refine bodyPost_ret (results_mid2 rfl _ _ (w.heap.size + 1 + 1) 0 [.int .i64 b.qu, .int .i64 (0), .int .i64 (b.sp), .slice (some ⟨gx, 0, none⟩) b.lo.length cx, .slice (some ⟨gy, 0, none⟩) b.lo.length cy] _ rfl (range_of_block (five_set hRp _ _ _ _ _)) Try.underlying26 rfl info_ba) rfl ?_
        rw [HD.out]
        refine ⟨_, _, rfl, ?_, aq⟩
        have key := (rwq.as (c := ⟨b.qu, 0, b.sp, b.lo.set cn b.po, b.dr.set cn false⟩) rfl rfl).own
        rw [set_same he'] at key
        simpa [ND.out] using key
end Go.Proofs.Ytljjgebkieffpaa
