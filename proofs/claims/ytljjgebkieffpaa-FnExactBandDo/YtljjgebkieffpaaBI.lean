/- The program's BandDo. -/
import Derived.Test.YtljjgebkieffpaaBG
import Derived.Test.YtljjgebkieffpaaLocks
import Derived.Conc.MuLone
namespace Go.Proofs.Ytljjgebkieffpaa
set_option linter.unusedVariables false
set_option linter.unusedSimpArgs false
open Go.ChangeShapes Go.WideShapes Go.ChangeAt Go.RowKit
open Go.MuLone

theorem Pool.setL {B : Nat} {W : World} {G gx cx gy cy : Nat} {l s : Int} {b : Ba} (h : Pool B W G gx cx gy cy l s b) (u : Int) : Pool B (W.setCell ⟨G, 0, none⟩ (.int .i32 u)) G gx cx gy cy u s b :=
  ⟨heap_setCell_same _ _ 0 _ _ (.int .i32 u) h.box, (h.rows.kept (Kept.set W G 0 (.int .i32 u)) (Ne.symm h.ngx) (Ne.symm h.ngy)), h.ngx, h.ngy, h.nd⟩
set_option maxHeartbeats 4000000 in
theorem guarded_do (b : Ba) (B G gx cx gy cy : Nat) (k c n s : Int) (w : World) (h : Pool B w G gx cx gy cy 0 s b) (hok : bandOk b = true) (hB : B ≤ w.heap.size) :
    Calls Try.prog 40 #[.pointer (some ⟨G, 0, none⟩), boV k c n] w fun e w' => e = .returned (.int .i64 (doBa b k c n).2) ∧ Pool B w' G gx cx gy cy 0 s (doBa b k c n).1 ∧ Kept (Mine G gx gy) w w' := by
  have hA : ∀ A, Below w.heap.size w (w.alloc A) := fun A => (Below.refl _ _).alloc (Nat.le_refl _) _
  have P1 : Pool B (w.alloc (.cells #[.int .i64 k, .int .i64 c, .int .i64 n] 33 (0, 0))) G gx cx gy cy 0 s b := h.kept (Kept.ofBelow (hA _)) (fun h => h) (fun h => h) (fun h => h)
  have hGl := h.lt
  have hdo := fun w P hB => doInBand_any b B G gx cx gy cy k c n 1 s w P hok hB
  unfold boV at hdo ⊢
  go_enter_defers Try.func40, Try.ntmps40
  go_wp2_with fail
  refine (lock_free Try.muLib ⟨G, 0, none⟩ _ (gbox P1.box).1 (fbox P1.box 0)).mono ?_
  rintro e1 w2 ⟨rfl, rfl⟩
  have P2 := P1.setL 1
  have hm2 : Kept (Mine G gx gy) w ((w.alloc (.cells #[.int .i64 k, .int .i64 c, .int .i64 n] 33 (0, 0))).setCell ⟨G, 0, none⟩ (.int .i32 1)) := mine_trans (mine_below (hA _)) (mine_set _ _ _ mineG)
  have hO2 : ((w.alloc (.cells #[.int .i64 k, .int .i64 c, .int .i64 n] 33 (0, 0))).setCell ⟨G, 0, none⟩ (.int .i32 1)).heap[w.heap.size]? = some (.cells #[.int .i64 k, .int .i64 c, .int .i64 n] 33 (0, 0)) := ((Kept.set _ G 0 (.int .i32 1)).block w.heap.size (by simp) (by omega)).trans (heap_alloc_new _ _)
  revert P2 hm2 hO2
  generalize (w.alloc (.cells #[.int .i64 k, .int .i64 c, .int .i64 n] 33 (0, 0))).setCell ⟨G, 0, none⟩ (.int .i32 1) = W2
  intro P2 hm2 hO2
  obtain ⟨q0, q1, q2⟩ := obox hO2
  obtain ⟨g0, g1, g2, g3, g4, g5, g6⟩ := gbox P2.box
  simp only []
  go_at_K
  go_wp2_with fail
  refine wp_region_noPanic ?_
  go_region_with ((go_at_call 63; refine (hdo W2.drew P2.drew (Nat.le_trans hB hm2.size)).mono ?_; rintro e1 w3 ⟨rfl, P3, K3⟩))
  all_goals
    replace K3 := mine_trans (mine_below (Below.refl _ W2).drew) K3
    refine NoPanic.normal ?_
    go_wp2_with fail
    refine leaves_cons (f := 62) (args := #[.pointer (some ⟨G, 0, none⟩)]) (by simp) (by simp [go_sem]) ?_
    refine (unlock_deferred Try.muLib ⟨G, 0, none⟩ .returning _ (gbox P3.box).1 (fbox P3.box 0)).mono ?_
    rintro e1 u1 w4 ⟨rfl, rfl, rfl⟩
    exact ⟨_, results_tmp rfl _ _ _, rfl, P3.setL 0, mine_trans (mine_trans hm2 K3) (mine_set _ _ _ mineG)⟩

set_option maxRecDepth 20000 in
set_option maxHeartbeats 8000000 in
theorem impl_bandDo (b : Ba) (x y : Value) (k c n : Int) (w : World) (hs : SlBa w x y b) :
    Calls Try.prog 11 #[baV b x y, boV k c n] w fun e w' => ∃ x' y', e = .returned (.tuple #[baV (doBa b k c n).1 x' y', .int .i64 (doBa b k c n).2]) ∧ OwnBa w.heap.size w' x' y' (doBa b k c n).1 ∧ Below w.heap.size w w' := by
  have hB : ∀ A B C, Below w.heap.size w (((w.alloc A).alloc B).alloc C) := fun A B C => (((Below.refl _ _).alloc (Nat.le_refl _) _).alloc (by simp) _).alloc (by simp; omega) _
  cases hok : bandOk b
  · have HD : Hid (doBa b k c n = (ba0, 1)) := by show _ = _; unfold doBa; rw [hok]; simp
    unfold baV boV
    go_enter Try.func11, Try.ntmps11
    go_wp2_with fail
    refine (impl_bandOk b x y _ (hs.below (hB _ _ _))).mono ?_
    rintro e1 w2 ⟨rfl, b2⟩
    obtain ⟨b2, lt2, hA, hO, hR⟩ := three_box' b2
    obtain ⟨r0, r1, r2, r3, r4⟩ := bbox hR
    obtain ⟨f0, f1, f2, f3, f4⟩ := bboxf hR
    simp only []
    go_at_K
    go_wp2_with fail
    have hK := Kept.five w2 (w.heap.size + 1 + 1) (.int .i64 0) (.int .i64 0) (.int .i64 0) (.slice none 0 0) (.slice none 0 0)
    refine bodyPost_ret (results_mid2 rfl _ _ (w.heap.size + 1 + 1) 0 [.int .i64 0, .int .i64 0, .int .i64 0, .slice none 0 0, .slice none 0 0] _ rfl (range_of_block (five_set hR _ _ _ _ _)) Try.underlying26 rfl info_ba) rfl ?_
    rw [HD.out]
    exact ⟨_, _, rfl, own_ba0 _ _, b2.trans (hK.toBelow b2.size (by intro k hk; omega))⟩
  · have hh := (ok_parts hok).1
    obtain ⟨g, o, cap, g', o', cap', rfl, rfl, _, _, _, _, _, _⟩ := ok_rows hs hh
    have hdo := fun w' G gx cx gy cy P hB => guarded_do b (w.heap.size) G gx cx gy cy k c n 0 w' P hok hB
    have hnd : (doBa b k c n).1.dr.length = (doBa b k c n).1.lo.length → True := fun _ => trivial
    clear hnd
    generalize hdd : doBa b k c n = r at *
    unfold baV boV at *
    go_enter Try.func11, Try.ntmps11
    go_wp2_with fail
    refine (impl_bandOk b _ _ _ (hs.below (hB _ _ _))).mono ?_
    rintro e1 w2 ⟨rfl, b2⟩
    obtain ⟨b2, lt2, hA, hO, hR⟩ := three_box' b2
    obtain ⟨r0, r1, r2, r3, r4⟩ := bbox hA
    simp only []
    go_at_K
    go_wp2_with fail
    refine (bandCopy_any b _ _ _ (hs.below b2) hh).mono ?_
    rintro e1 w3 ⟨gx, cx, gy, cy, rfl, rw3, b3⟩
    have sz3 := b3.size
    have hO3 := (b3.block (w.heap.size + 1) (by omega)).trans hO
    have hR3 := (b3.block (w.heap.size + 1 + 1) (by omega)).trans hR
    have a3 := b2.trans (b3.mono b2.size)
    have x1 := rw3.x1
    have x2 := rw3.x2
    have y1 := rw3.y1
    have y2 := rw3.y2
    clear r0 r1 r2 r3 r4
    obtain ⟨q0, q1, q2⟩ := obox hO3
    have l1 : w.heap.size + 1 < w3.heap.size := by omega
    have l1n : w.heap.size + 1 ≠ w3.heap.size := by omega
    unfold baV
    simp only []
    go_at_K
    go_wp2_with fail
    have hb4 : Below w3.heap.size w3 (w3.alloc (.cells #[.int .i32 0, .int .u32 0, .int .i64 b.qu, .int .i64 b.po, .int .i64 b.sp, .slice (some ⟨gx, 0, none⟩) b.lo.length cx, .slice (some ⟨gy, 0, none⟩) b.lo.length cy] 73 (0, 0))) := (Below.refl _ _).alloc (Nat.le_refl _) _
    have P4 : Pool w.heap.size _ w3.heap.size gx cx gy cy 0 0 b := ⟨heap_alloc_new w3 (.cells #[.int .i32 0, .int .u32 0, .int .i64 b.qu, .int .i64 b.po, .int .i64 b.sp, .slice (some ⟨gx, 0, none⟩) b.lo.length cx, .slice (some ⟨gy, 0, none⟩) b.lo.length cy] 73 (0, 0)), (rw3.below hb4).mono b2.size, by omega, by omega, (head_parts hh).2.2.1⟩
    have hR4 := (hb4.block (w.heap.size + 1 + 1) (by omega)).trans hR3
    have a4 := a3.trans (hb4.mono a3.size)
    have sz4 := hb4.size
    refine (hdo _ w3.heap.size gx cx gy cy P4 a4.size).mono ?_
    rintro e1 w5 ⟨rfl, P5, K5⟩
    have sz5 := K5.size
    have hR5 := (K5.block (w.heap.size + 1 + 1) (by omega) (by unfold Mine; omega)).trans hR4
    have a5 := a4.trans (K5.toBelow a4.size (by unfold Mine; intro k hk; omega))
    obtain ⟨s0, s1, s2, s3, s4⟩ := bbox hR5
    obtain ⟨t0, t1, t2, t3, t4⟩ := bboxf hR5
    obtain ⟨g0, g1, g2, g3, g4, g5, g6⟩ := gbox P5.box
    clear q0 q1 q2
    simp only []
    go_at_K
    go_wp2_with fail
    have hK9 := Kept.five w5 (w.heap.size + 1 + 1) (.int .i64 r.1.qu) (.int .i64 r.1.po) (.int .i64 r.1.sp) (.slice (some ⟨gx, 0, none⟩) r.1.lo.length cx) (.slice (some ⟨gy, 0, none⟩) r.1.lo.length cy)
    refine bodyPost_ret (results_mid2 rfl _ _ (w.heap.size + 1 + 1) 0 [.int .i64 r.1.qu, .int .i64 r.1.po, .int .i64 r.1.sp, .slice (some ⟨gx, 0, none⟩) r.1.lo.length cx, .slice (some ⟨gy, 0, none⟩) r.1.lo.length cy] _ rfl (range_of_block (five_set hR5 _ _ _ _ _)) Try.underlying26 rfl info_ba) rfl ?_
    refine ⟨_, _, rfl, ?_, a5.trans (hK9.toBelow a5.size (by intro k hk; omega))⟩
    have key := (P5.rows.kept hK9 (by omega) (by omega)).own
    rw [P5.nd] at key
    exact key
end Go.Proofs.Ytljjgebkieffpaa
