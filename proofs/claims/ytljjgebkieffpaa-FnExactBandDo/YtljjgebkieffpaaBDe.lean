/- The specification's BandDo: a processor returns. -/
import Derived.Test.YtljjgebkieffpaaBD
namespace Go.Proofs.Ytljjgebkieffpaa
set_option linter.unusedVariables false
set_option linter.unusedSimpArgs false
open Go.ChangeShapes Go.WideShapes Go.ChangeAt Go.RowKit

set_option maxRecDepth 20000 in
set_option maxHeartbeats 40000000 in
theorem spec_do3 (b : Ba) (x y : Value) (k c n : Int) (w : World) (hs : SlBa w x y b) (hok : bandOk b = true) (c4 : ¬ k = 4) (hc : hasB b c = true) (k1 : ¬ k = 1) (k2 : ¬ k = 2) (k3 : k = 3) :
    Calls Try.prog 12 #[baV b x y, boV k c n] w fun e w' => ∃ x' y', e = .returned (.tuple #[baV (doBa b k c n).1 x' y', .int .i64 (doBa b k c n).2]) ∧ OwnBa w.heap.size w' x' y' (doBa b k c n).1 ∧ Below w.heap.size w w' := by
  have hh := (ok_parts hok).1
  have hB : ∀ A B C, Below w.heap.size w (((w.alloc A).alloc B).alloc C) := fun A B C => (((Below.refl _ _).alloc (Nat.le_refl _) _).alloc (by simp) _).alloc (by simp; omega) _
  obtain ⟨g, o, cap, g', o', cap', rfl, rfl, _, _, _, _, _, _⟩ := ok_rows hs hh
  generalize hdo : doBa b k c n = r
  unfold baV boV
  go_enter Try.func12, Try.ntmps12
  go_wp2_with fail
  refine (spec_bandOk b _ _ _ (hs.below (hB _ _ _))).mono ?_
  rintro e1 w2 ⟨rfl, b2⟩
  obtain ⟨b2, lt2, hA, hO, hR⟩ := three_box' b2
  obtain ⟨r0, r1, r2, r3, r4⟩ := bbox hA
  simp only []
  go_at_K
  go_wp2_with fail
  refine (l5Own_any b _ _ _ (hs.below b2) hh).mono ?_
  rintro e1 w3 ⟨x1, y1, rfl, o3, b3⟩
  have lt3 := Nat.lt_of_lt_of_le lt2 b3.size
  have hA3 := (b3.block _ (by omega)).trans hA
  have hO3 := (b3.block _ (by omega)).trans hO
  have hR3 := (b3.block _ (by omega)).trans hR
  have a3 := b2.trans (b3.mono b2.size)
  obtain ⟨⟨a1, a2⟩, ⟨n1, n4⟩, nd, ⟨a6, a7⟩, ⟨a8, a9⟩⟩ := head_parts hh
  obtain ⟨gx, cx, gy, cy, rfl, rfl, rw3⟩ := own_rows o3 n1 (by omega)
  rw [nd]
  have ND : Hid (b.dr.length = b.lo.length) := nd
  clear r0 r1 r2 r3 r4 o3 nd
  obtain ⟨r0, r1, r2, r3, r4⟩ := bbox hA3
  obtain ⟨f0, f1, f2, f3, f4⟩ := bboxf hA3
  obtain ⟨q0, q1, q2⟩ := obox hO3
  have x1 := rw3.x1
  have x2 := rw3.x2
  have y1 := rw3.y1
  have y2 := rw3.y2
  unfold baV
  simp only []
  go_at_K
  have hK4 := Kept.five w3 w.heap.size (.int .i64 b.qu) (.int .i64 b.po) (.int .i64 b.sp) (.slice (some ⟨gx, 0, none⟩) b.lo.length cx) (.slice (some ⟨gy, 0, none⟩) b.lo.length cy)
  have hA4 := five_set hA3 (.int .i64 b.qu) (.int .i64 b.po) (.int .i64 b.sp) (.slice (some ⟨gx, 0, none⟩) b.lo.length cx) (.slice (some ⟨gy, 0, none⟩) b.lo.length cy)
  have HK4 : Hid (Kept _ w3 _) := hK4
  have HA4 : Hid (_ = some _) := hA4
  clear hK4 hA4
  go_wp2_with fail
  have hK4 := HK4.out
  have hA4 := HA4.out
  clear HK4 HA4 r0 r1 r2 r3 r4 f0 f1 f2 f3 f4 q0 q1 q2
  revert hK4 hA4
  generalize (((((w3.setCell ⟨w.heap.size, 0, none⟩ (.int .i64 b.qu)).setCell ⟨w.heap.size, 1, none⟩ (.int .i64 b.po)).setCell ⟨w.heap.size, 2, none⟩ (.int .i64 b.sp)).setCell ⟨w.heap.size, 3, none⟩ (.slice (some ⟨gx, 0, none⟩) b.lo.length cx)).setCell ⟨w.heap.size, 4, none⟩ (.slice (some ⟨gy, 0, none⟩) b.lo.length cy)) = W4
  intro hK4 hA4
  have sz4 := hK4.size
  have hR4 := (hK4.block (w.heap.size + 1 + 1) (by omega) (by omega)).trans hR3
  have hO4 := (hK4.block (w.heap.size + 1) (by omega) (by omega)).trans hO3
  have rw4 := (rw3.kept hK4 (by omega) (by omega)).mono b2.size
  have a4 := a3.trans (hK4.toBelow a3.size (by intro k hk; omega))
  clear rw3 hK4 hA3 hO3 hR3
  obtain ⟨r0, r1, r2, r3, r4⟩ := bbox hA4
  obtain ⟨f0, f1, f2, f3, f4⟩ := bboxf hA4
  obtain ⟨q0, q1, q2⟩ := obox hO4
  obtain ⟨s0, s1, s2, s3, s4⟩ := bbox hR4
  obtain ⟨t0, t1, t2, t3, t4⟩ := bboxf hR4
  refine (l1In_any _ _ _ _).mono ?_
  rintro e1 w5 ⟨rfl, rfl⟩
  have rw5 := rw4
  have hA5 := hA4
  have hR5 := hR4
  have hO5 := hO4
  have a5 := a4
  clear rw4 hA4 hR4 hO4 a4
  have hc' : l1in c 0 ((b.lo.length : Int) - 1) = true := hc
  obtain ⟨c0, c1⟩ := l1in_iff.1 hc'
  obtain ⟨cn, rfl⟩ : ∃ cn : Nat, c = cn := ⟨c.toNat, by omega⟩
  have c1' : (cn : Int) < (b.lo.length : Int) := by omega
  have c1n : cn < b.lo.length := by omega
  obtain ⟨m, he⟩ := int_get c1n
  obtain ⟨hm0, hm1⟩ := ok_lo hok he
  have x5 := rw5.xi cn m he
  rw [Nat.zero_add] at x5
  have HL : Hid (loAt b cn = m) := by show _ = _; unfold loAt; rw [he]; rfl
  obtain ⟨d, he'⟩ : ∃ d, b.dr[cn]? = some d := ⟨b.dr[cn]'(by rw [ND.out]; exact c1n), List.getElem?_eq_getElem _⟩
  have c1d : cn < b.dr.length := by rw [ND.out]; exact c1n
  have u1 : w.heap.size ≠ gx := by omega
  have u1' : gx ≠ w.heap.size := by omega
  have u2 : w.heap.size + 1 + 1 ≠ gx := by omega
  have u2' : gx ≠ w.heap.size + 1 + 1 := by omega
  have u3 : w.heap.size ≠ gy := by omega
  have u3' : gy ≠ w.heap.size := by omega
  have u4 : w.heap.size + 1 + 1 ≠ gy := by omega
  have u4' : gy ≠ w.heap.size + 1 + 1 := by omega
  have u5 : gx ≠ gy := rw5.ne
  have u5' : gy ≠ gx := Ne.symm u5
  subst k3
  clear c1d
  have hwr : IntKind.i64.wrap (b.po + m) = b.po + m := wrapI (by omega) (by omega)
  simp only []
  go_at_K
  go_wp2_with fail
  refine wp_region_noPanic ?_
  refine wp_region_J 9 (fun w' => w'.cell? ⟨w.heap.size, 3, none⟩ = some (.slice (some ⟨gx, 0, none⟩) b.lo.length cx) ∧ w'.cell? ⟨gx, cn, none⟩ = some (.int .i64 m)) (fun w' => w'.cell? ⟨w.heap.size, 1, none⟩ = some (.int .i64 b.po)) (by kernel_rfl) (⟨r3, x5⟩) (r1) ?_
  refine JJ_take0 (i := 0) (v := ?bv0) rfl (by kernel_rfl) (by kernel_rfl) (by kernel_rfl) (by decide) (fun _ _ _ h => h) (Or.inl ⟨by rfl, ?by0⟩) ?br0
  case by0 => ((intro w hSw; (try dsimp only at hSw); go_simp) <;> with_reducible rfl)
  try simp only [Act.put, List.setIfInBounds_toArray, List.set_cons_zero, List.set_cons_succ]
  refine JJ_take (i := 1) (v := ?bv1) rfl (by kernel_rfl) (by kernel_rfl) (by kernel_rfl) (by decide) (by kernel_rfl) (fun _ _ _ h => h) (Or.inl ⟨by rfl, ?by1⟩) ?br1
  case by1 => ((intro w hSw; (try dsimp only at hSw); go_simp) <;> with_reducible rfl)
  try simp only [Act.put, List.setIfInBounds_toArray, List.set_cons_zero, List.set_cons_succ]
  refine JJ_take0 (i := 2) (v := ?bv2) rfl (by kernel_rfl) (by kernel_rfl) (by kernel_rfl) (by decide) (fun _ _ _ h => h) (Or.inl ⟨by rfl, ?by2⟩) ?br2
  case by2 => ((intro w hSw; (try dsimp only at hSw); go_simp) <;> with_reducible rfl)
  try simp only [Act.put, List.setIfInBounds_toArray, List.set_cons_zero, List.set_cons_succ]
  refine JJ_take0 (i := 3) (v := ?bv3) rfl (by kernel_rfl) (by kernel_rfl) (by kernel_rfl) (by decide) (fun _ _ _ h => h) (Or.inl ⟨by rfl, ?by3⟩) ?br3
  case by3 => ((intro w hSw; (try dsimp only at hSw); go_simp) <;> with_reducible rfl)
  try simp only [Act.put, List.setIfInBounds_toArray, List.set_cons_zero, List.set_cons_succ]
  refine JJ_take0 (i := 4) (v := ?bv4) rfl (by kernel_rfl) (by kernel_rfl) (by kernel_rfl) (by decide) (fun _ _ _ h => h) (Or.inl ⟨by rfl, ?by4⟩) ?br4
  case by4 => ((intro w hSw; (try dsimp only at hSw); go_simp) <;> with_reducible rfl)
  try simp only [Act.put, List.setIfInBounds_toArray, List.set_cons_zero, List.set_cons_succ]
  refine JJ_take0 (i := 5) (v := ?bv5) rfl (by kernel_rfl) (by kernel_rfl) (by kernel_rfl) (by decide) (fun _ _ _ h => h) (Or.inl ⟨by rfl, ?by5⟩) ?br5
  case by5 => ((intro w hSw; (try dsimp only at hSw); go_simp) <;> with_reducible rfl)
  try simp only [Act.put, List.setIfInBounds_toArray, List.set_cons_zero, List.set_cons_succ]
  refine JJ_take0 (i := 6) (v := ?bv6) rfl (by kernel_rfl) (by kernel_rfl) (by kernel_rfl) (by decide) (fun _ _ _ h => h) (Or.inl ⟨by rfl, ?by6⟩) ?br6
  case by6 => ((intro w hSw; (try dsimp only at hSw); go_simp) <;> with_reducible rfl)
  try simp only [Act.put, List.setIfInBounds_toArray, List.set_cons_zero, List.set_cons_succ]
  refine JJ_take0 (i := 7) (v := ?bv7) rfl (by kernel_rfl) (by kernel_rfl) (by kernel_rfl) (by decide) (fun _ _ _ h => h) (Or.inl ⟨by rfl, ?by7⟩) ?br7
  case by7 => ((intro w hSw; (try dsimp only at hSw); go_simp) <;> with_reducible rfl)
  try simp only [Act.put, List.setIfInBounds_toArray, List.set_cons_zero, List.set_cons_succ]
  refine JJ_take0 (i := 8) (v := ?bv8) rfl (by kernel_rfl) (by kernel_rfl) (by kernel_rfl) (by decide) (fun _ _ _ h => h) (Or.inl ⟨by rfl, ?by8⟩) ?br8
  case by8 => ((intro w hSw; (try dsimp only at hSw); go_simp) <;> with_reducible rfl)
  try simp only [Act.put, List.setIfInBounds_toArray, List.set_cons_zero, List.set_cons_succ]
  refine JJ_one (i := 9) (by kernel_rfl) rfl (fun hT K hK => ?_)
  clear hT
  go_simp
  refine hK.out _ _ ⟨⟨(World.cell?_setCell_other _ _ _ _ (by simp)).trans r3, keep1 x5 (by show gx ≠ w.heap.size; omega)⟩, fun h => by cases h⟩ ?_
  clear hK K
  try simp only [Act.put, List.setIfInBounds_toArray, List.set_cons_zero, List.set_cons_succ]
  refine JJ_done (by kernel_rfl) ?_ _
  refine NoPanic.normal ?_
  have hKd := Kept.setDrew w5 w.heap.size 1 (.int .i64 (b.po + m))
  have rw6 := (rw5.kept (Kept.set w5 w.heap.size 1 (.int .i64 (b.po + m))) (by omega) (by omega)).below (Below.refl _ _).drew
  have hA6 := (show (w5.setCell ⟨w.heap.size, 1, none⟩ (.int .i64 (b.po + m))).drew.heap[w.heap.size]? = _ from heap_setCell_same _ _ 1 _ _ (.int .i64 (b.po + m)) hA5)
  have hR6 := (hKd.block (w.heap.size + 1 + 1) (by omega) (by omega)).trans hR5
  have hO6 := (hKd.block (w.heap.size + 1) (by omega) (by omega)).trans hO5
  have a6 := a5.trans (hKd.toBelow a5.size (by intro k hk; omega))
  have sz6 := hKd.size
  clear hKd rw5 hA5 hR5 hO5 a5 q0 q1 q2 r0 r1 r2 r3 r4 f0 f1 f2 f3 f4 s0 s1 s2 s3 s4 t0 t1 t2 t3 t4
  revert rw6 hA6 hR6 hO6 a6 sz6
  generalize (w5.setCell ⟨w.heap.size, 1, none⟩ (.int .i64 (b.po + m))).drew = w6
  intro rw6 hA6 hR6 hO6 a6 sz6
  obtain ⟨r0, r1, r2, r3, r4⟩ := bbox hA6
  obtain ⟨f0, f1, f2, f3, f4⟩ := bboxf hA6
  obtain ⟨q0, q1, q2⟩ := obox hO6
  obtain ⟨s0, s1, s2, s3, s4⟩ := bbox hR6
  obtain ⟨t0, t1, t2, t3, t4⟩ := bboxf hR6
  clear x5
  have x6 := rw6.xi cn m he
  obtain ⟨_, xf6⟩ := rw6.xt cn c1n
  rw [Nat.zero_add] at x6 xf6
  replace hA6 : w6.heap[w.heap.size]? = some (.cells #[.int .i64 b.qu, .int .i64 (b.po + m), .int .i64 b.sp, .slice (some ⟨gx, 0, none⟩) b.lo.length cx, .slice (some ⟨gy, 0, none⟩) b.lo.length cy] 26 (0, 0)) := hA6
  clear r0 r1 r2 r3 r4
  obtain ⟨r0, r1, r2, r3, r4⟩ := bbox hA6
  by_cases pp : 0 < b.po + m
  · have HD : Hid (r = (⟨b.qu, b.po + m, b.sp, b.lo.set cn 0, List.replicate b.dr.length false⟩, 0)) := by show _ = _; rw [← hdo]; unfold doBa; rw [hok, if_pos rfl, if_neg c4, hc, if_pos rfl, if_neg k1, if_neg k2, if_pos rfl]; unfold returnsBa; rw [Int.toNat_natCast, HL.out, if_pos pp]
    clear hdo
    go_wp2_with fail
    have hKd := Kept.set w6 gx cn (.int .i64 0)
    have rw7 := rw6.setX c1n 0
    have hA7 := (hKd.block w.heap.size (by omega) (by omega)).trans hA6
    have hR7 := (hKd.block (w.heap.size + 1 + 1) (by omega) (by omega)).trans hR6
    have hO7 := (hKd.block (w.heap.size + 1) (by omega) (by omega)).trans hO6
    have a7 := a6.trans (hKd.toBelow a6.size (by intro k hk; omega))
    have sz7 := hKd.size
    clear hKd rw6 hA6 hR6 hO6 a6 q0 q1 q2 r0 r1 r2 r3 r4 f0 f1 f2 f3 f4 s0 s1 s2 s3 s4 t0 t1 t2 t3 t4
    revert rw7 hA7 hR7 hO7 a7 sz7
    generalize w6.setCell ⟨gx, cn, none⟩ (.int .i64 0) = w7
    intro rw7 hA7 hR7 hO7 a7 sz7
    obtain ⟨r0, r1, r2, r3, r4⟩ := bbox hA7
    obtain ⟨f0, f1, f2, f3, f4⟩ := bboxf hA7
    obtain ⟨q0, q1, q2⟩ := obox hO7
    obtain ⟨s0, s1, s2, s3, s4⟩ := bbox hR7
    obtain ⟨t0, t1, t2, t3, t4⟩ := bboxf hR7
    have hyt := rw7.yt
    have y2' := rw7.y2
    have x2' := rw7.x2
    have hwet := l5Wet_any ⟨b.qu, b.po + m, b.sp, [], b.dr⟩ gy cy (some ⟨gx, 0, none⟩) b.lo.length cx w7 (by omega) hyt (by rw [ND.out]; exact n4)
    unfold baV at hwet
    dsimp only at hwet
    rw [ND.out] at hwet
    refine hwet.mono ?_
    rintro e1 w8 ⟨rfl, yb8, yt8, hK8⟩
    clear hwet
    have sz8 := hK8.size
    have hA8 := (hK8.block w.heap.size (by omega) (by omega)).trans hA7
    have hR8 := (hK8.block (w.heap.size + 1 + 1) (by omega) (by omega)).trans hR7
    have a8 := a7.trans (hK8.toBelow a7.size (by intro k hk; omega))
    have rw8 : Rows2 w.heap.size w8 gx cx gy cy ⟨b.qu, b.po + m, b.sp, b.lo.set cn 0, List.replicate b.dr.length false⟩ :=
      ⟨rw7.x1, by omega, rw7.y1, by omega, rw7.ne, hK8.ints x2' (by omega) rw7.xi, hK8.there x2' (by omega) rw7.xt, rw7.xc, rw7.xm, by simpa [ND.out] using yb8, by simpa [ND.out] using yt8, by simpa using rw7.yc, rw7.ym⟩
    have k8 : ∀ k, k = w.heap.size → ¬ k = gx ∧ ¬ k = gy := by intro k hk; omega
    have K8 : Hid (∀ k, k = w.heap.size → ¬ k = gx ∧ ¬ k = gy) := k8
    have HA8 : Hid (_ = some _) := hA8
    have HR8 : Hid (_ = some _) := hR8
    have A8 : Hid (Below _ w w8) := a8
    clear k8 q0 q1 q2 r0 r1 r2 r3 r4 f0 f1 f2 f3 f4 s0 s1 s2 s3 s4 t0 t1 t2 t3 t4 rw7 x6 xf6 hA7 hR7 hO7 a7 hyt yb8 yt8 hK8 hwr u5 u5' u1 u1' u2 u2' u3 u3' u4 u4' he he' hB hs hok hh
    obtain ⟨r0, r1, r2, r3, r4⟩ := bbox hA8
    obtain ⟨f0, f1, f2, f3, f4⟩ := bboxf hA8
    obtain ⟨s0, s1, s2, s3, s4⟩ := bbox hR8
    obtain ⟨t0, t1, t2, t3, t4⟩ := bboxf hR8
    clear hA8 hR8 a8
    simp only []
    go_at_K
    go_wp2_with fail
    have hR8 := HR8.out
    have a8 := A8.out
    have rwp := rw8.kept (Kept.five w8 w.heap.size (.int .i64 b.qu) (.int .i64 (b.po + m)) (.int .i64 b.sp) (.slice (some ⟨gx, 0, none⟩) b.lo.length cx) (.slice (some ⟨gy, 0, none⟩) b.lo.length cy)) (by omega) (by omega)
    have rwq := rwp.kept (Kept.five _ (w.heap.size + 1 + 1) (.int .i64 b.qu) (.int .i64 (b.po + m)) (.int .i64 (b.sp)) (.slice (some ⟨gx, 0, none⟩) b.lo.length cx) (.slice (some ⟨gy, 0, none⟩) b.lo.length cy)) (by omega) (by omega)
    have hKp := Kept.five w8 w.heap.size (.int .i64 b.qu) (.int .i64 (b.po + m)) (.int .i64 b.sp) (.slice (some ⟨gx, 0, none⟩) b.lo.length cx) (.slice (some ⟨gy, 0, none⟩) b.lo.length cy)
    have hRp := (hKp.block (w.heap.size + 1 + 1) (by omega) (by omega)).trans hR8
    have aq := a8.trans ((hKp.trans (Kept.five _ (w.heap.size + 1 + 1) (.int .i64 b.qu) (.int .i64 (b.po + m)) (.int .i64 (b.sp)) (.slice (some ⟨gx, 0, none⟩) b.lo.length cx) (.slice (some ⟨gy, 0, none⟩) b.lo.length cy))).toBelow a8.size (by intro k hk; omega))
    refine bodyPost_ret (results_mid2 rfl _ _ (w.heap.size + 1 + 1) 0 [.int .i64 b.qu, .int .i64 (b.po + m), .int .i64 (b.sp), .slice (some ⟨gx, 0, none⟩) b.lo.length cx, .slice (some ⟨gy, 0, none⟩) b.lo.length cy] _ rfl (range_of_block (five_set hRp _ _ _ _ _)) Try.underlying26 rfl info_ba) rfl ?_
    rw [HD.out]
    refine ⟨_, _, rfl, ?_, aq⟩
    have key := (rwq.as (c := ⟨b.qu, b.po + m, b.sp, b.lo.set cn 0, List.replicate b.dr.length false⟩) rfl rfl).own
    simpa [ND.out] using key
  · have HD : Hid (r = (⟨b.qu, b.po + m, b.sp, b.lo.set cn 0, b.dr⟩, 0)) := by show _ = _; rw [← hdo]; unfold doBa; rw [hok, if_pos rfl, if_neg c4, hc, if_pos rfl, if_neg k1, if_neg k2, if_pos rfl]; unfold returnsBa; rw [Int.toNat_natCast, HL.out, if_neg pp]
    clear hdo
    go_wp2_with fail
    have rwp := rw6.setX c1n 0
    have rwq := rwp.kept (Kept.five _ (w.heap.size + 1 + 1) (.int .i64 b.qu) (.int .i64 (b.po + m)) (.int .i64 (b.sp)) (.slice (some ⟨gx, 0, none⟩) b.lo.length cx) (.slice (some ⟨gy, 0, none⟩) b.lo.length cy)) (by omega) (by omega)
    have hKp := Kept.set w6 gx cn (.int .i64 0)
    have hRp := (hKp.block (w.heap.size + 1 + 1) (by omega) (by omega)).trans hR6
    have aq := a6.trans ((hKp.trans (Kept.five _ (w.heap.size + 1 + 1) (.int .i64 b.qu) (.int .i64 (b.po + m)) (.int .i64 (b.sp)) (.slice (some ⟨gx, 0, none⟩) b.lo.length cx) (.slice (some ⟨gy, 0, none⟩) b.lo.length cy))).toBelow a6.size (by intro k hk; omega))
    refine bodyPost_ret (results_mid2 rfl _ _ (w.heap.size + 1 + 1) 0 [.int .i64 b.qu, .int .i64 (b.po + m), .int .i64 (b.sp), .slice (some ⟨gx, 0, none⟩) b.lo.length cx, .slice (some ⟨gy, 0, none⟩) b.lo.length cy] _ rfl (range_of_block (five_set hRp _ _ _ _ _)) Try.underlying26 rfl info_ba) rfl ?_
    rw [HD.out]
    refine ⟨_, _, rfl, ?_, aq⟩
    have key := (rwq.as (c := ⟨b.qu, b.po + m, b.sp, b.lo.set cn 0, b.dr⟩) rfl rfl).own
    simpa [ND.out] using key
end Go.Proofs.Ytljjgebkieffpaa
