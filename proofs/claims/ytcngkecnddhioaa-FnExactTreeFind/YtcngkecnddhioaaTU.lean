/- The program's find: the walk. -/
import Derived.Test.YtcngkecnddhioaaTM
import Derived.Lib.OthersKept
namespace Go.Proofs.Ytcngkecnddhioaa
set_option linter.unusedVariables false
set_option linter.unusedSimpArgs false
open Go.ChangeShapes Go.WideShapes Go.ChangeAt Go.RowKit
open Go.Lib (run_next_any_at run_next_end_at iterAt_heap iterAt_other iterAt_size)

theorem extract_list (s : ByteArray) (i j : Nat) : (s.extract i j).data.toList = (s.data.toList.drop i).take (j - i) := by
  rw [ByteArray.data_extract, Array.toList_extract]
/-- what find's loop keeps, and what it asks of kid. -/
structure FI (ds : List Gr) (nb : Nat → Nat) (n : Nat) (w : World) (nm : List UInt8) (I : Option Nat → Nat → Nat → Prop) : Prop where
  stroke : ∀ o fr pos, fr ≤ pos → (h : pos < nm.length) → nm[pos] = 47 → I o fr pos → I (o.bind fun j => kidM ds j ((nm.drop fr).take (pos - fr))) (pos + 1) (pos + 1)
  sign : ∀ o fr pos, fr ≤ pos → (h : pos < nm.length) → nm[pos] ≠ 47 → I o fr pos → I o fr (pos + 1)
  wide : ∀ o fr pos k, fr ≤ pos → (h : pos < nm.length) → 1 ≤ k → 128 ≤ nm[pos].toNat → I o fr pos → I o fr (pos + k)
  kid : ∀ o fr pos, I o fr pos → ∀ W, Below w.heap.size w W → ∀ s : ByteArray, s.size ≤ 1048576 → Calls Try.prog 58 #[.agg (tRow ds nb n), ptrO nb o, .string s] W fun e w' => e = .returned (ptrO nb (o.bind fun j => kidM ds j s.data.toList)) ∧ Below W.heap.size W w'
set_option maxRecDepth 100000 in
set_option maxHeartbeats 16000000 in
theorem find_walk (ds : List Gr) (nb : Nat → Nat) (n : Nat) (o0 : Option Nat) (s : ByteArray) (w : World) (I : Option Nat → Nat → Nat → Prop) (h0 : tP ds nb n 0 = ptrO nb o0) (hs : s.size ≤ 1048576) (hr : (s.toList == [47]) = false) (h1 : 1 ≤ s.size) (hb : headB s = true)
    (hF : FI ds nb n w (s.extract 1 s.size).data.toList I) (hI : I o0 0 0) :
    Calls Try.prog 40 #[.agg (tRow ds nb n), .string s] w fun e w' => (∃ o fr pos, I o fr pos ∧ (s.extract 1 s.size).data.toList.length ≤ pos ∧ e = .returned (ptrO nb (o.bind fun j => kidM ds j ((s.extract 1 s.size).data.toList.drop fr)))) ∧ Below w.heap.size w w' := by
  have hrow := heap_alloc_new w (.cells (tRow ds nb n) 56 (0, 0))
  have hc0 := cell_of_row _ w.heap.size 0 _ _ _ hrow
  rw [tRow_get ds nb n 0 (by omega), h0] at hc0
  have HF : Hid (FI ds nb n w (s.extract 1 s.size).data.toList I) := hF
  have HI : Hid (I o0 0 0) := hI
  have hns : (s.extract 1 s.size).size ≤ 1048576 := by rw [ByteArray.size_extract]; omega
  clear hF hI h0
  obtain ⟨p0, hp0⟩ : ∃ p, ptrO nb o0 = .pointer p := ⟨_, rfl⟩
  rw [hp0] at hc0
  go_enter Try.func40, Try.ntmps40
  go_wp2_with (go_at_call 57; refine (cut_yes _ _ h1 hb).mono ?_; rintro e w1 ⟨rfl, rfl⟩)
  have hns' : ((s.extract 1 s.size).size : Int) ≤ 1048576 := by omega
  generalize hnm : s.extract 1 s.size = nms at *
  have hlen : nms.data.toList.length = nms.size := by simp
  have hst : Below w.heap.size w ((w.alloc (.cells (tRow ds nb n) 56 (0, 0))).iter nms 0) ∧ ((w.alloc (.cells (tRow ds nb n) 56 (0, 0))).iter nms 0).heap[w.heap.size]? = some (.cells (tRow ds nb n) 56 (0, 0)) ∧ ((w.alloc (.cells (tRow ds nb n) 56 (0, 0))).iter nms 0).heap[w.heap.size + 1]? = some (.stringIter nms 0) := by
    have e : (w.alloc (.cells (tRow ds nb n) 56 (0, 0))).iter nms 0 = (w.alloc (.cells (tRow ds nb n) 56 (0, 0))).alloc (.stringIter nms 0) := rfl
    rw [e]
    refine ⟨by go_grown, heap_alloc2_old _ _ _, ?_⟩
    have := heap_alloc_new (w.alloc (.cells (tRow ds nb n) 56 (0, 0))) (.stringIter nms 0)
    rwa [World.size_alloc] at this
  clear hrow hc0
  generalize hB : w.heap.size = B at *
  go_loopw [7, 8] (fun p f wr => ∃ (o : Option Nat) (fr pos : Nat), p = ptrO nb o ∧ f = .int .i64 (fr : Int) ∧ fr ≤ pos ∧ fr ≤ nms.size ∧ I o fr pos ∧ Below B w wr ∧ wr.heap[B]? = some (.cells (tRow ds nb n) 56 (0, 0)) ∧ wr.heap[B + 1]? = some (.stringIter nms pos)) (fun _ _ wr => nms.size - wr.iterPos (B + 1))
  case atStart => exact ⟨o0, 0, 0, hp0.symm, rfl, by omega, by omega, HI.out, hst.1, hst.2.1, hst.2.2⟩
  case round =>
    clear hst HI hp0
    obtain ⟨o, fr, pos, rfl, rfl, hfp, hfs, hI, acc, hB5', hit⟩ := hrel
    have hKl : B + 1 < wr.heap.size := (Array.getElem?_eq_some_iff.1 hit).1
    by_cases hp : pos < nms.size
    · have hnx := fun ty => run_next_any_at (P := Try.prog) wr (B + 1) nms pos ty hit hp
      have hpl : pos < nms.data.toList.length := by omega
      have hbyte : nms.data.toList[pos] = nms[pos] := rfl
      have hacc : ∀ q, Below B w (wr.iterAt (B + 1) nms q) := fun q => acc.trans ⟨rfl, rfl, rfl, by rw [iterAt_size]; exact Nat.le_refl _, fun k hk => iterAt_other wr (B + 1) k nms q (by omega)⟩
      have hbx : ∀ q, (wr.iterAt (B + 1) nms q).heap[B]? = some (.cells (tRow ds nb n) 56 (0, 0)) := fun q => (iterAt_other wr (B + 1) B nms q (by omega)).trans hB5'
      have hix : ∀ q, (wr.iterAt (B + 1) nms q).heap[B + 1]? = some (.stringIter nms q) := fun q => iterAt_heap wr (B + 1) nms pos q hit
      have HA : Hid ((∀ q, Below B w (wr.iterAt (B + 1) nms q)) ∧ (∀ q, (wr.iterAt (B + 1) nms q).heap[B]? = some (.cells (tRow ds nb n) 56 (0, 0))) ∧ ∀ q, (wr.iterAt (B + 1) nms q).heap[B + 1]? = some (.stringIter nms q)) := ⟨hacc, hbx, hix⟩
      have HM : Hid (∀ q, pos < q → nms.size - (wr.iterAt (B + 1) nms q).iterPos (B + 1) < nms.size - wr.iterPos (B + 1)) := by
        intro q hq
        have e1 : (wr.iterAt (B + 1) nms q).iterPos (B + 1) = q := by unfold World.iterPos; rw [hix q]
        have e2 : wr.iterPos (B + 1) = pos := by unfold World.iterPos; rw [hit]
        rw [e1, e2]; omega
      clear hacc hbx hix
      by_cases ha : (nms[pos]'hp).toNat < 128
      · rw [decode_ascii nms pos hp ha] at hnx
        by_cases h47 : nms[pos]'hp = 47
        · have HI5 : Hid (I o fr pos) := hI
          have hfr' : (fr : Int) ≤ (pos : Int) := by omega
          have hpo' : (pos : Int) ≤ (nms.size : Int) := by omega
          have HN : Hid (I (o.bind fun j => kidM ds j ((nms.data.toList.drop fr).take (pos - fr))) (pos + 1) (pos + 1)) := HF.out.stroke o fr pos hfp hpl (hbyte.trans h47) hI
          rw [h47] at hnx
          have e47 : ((47 : UInt8).toNat : Int) = 47 := rfl
          rw [e47] at hnx
          clear hI hbyte ha h47 e47
          go_wp2_with fail
          have acc5 := HA.out.1 (pos + 1)
          have hB5 := HA.out.2.1 (pos + 1)
          have hI5' := HA.out.2.2 (pos + 1)
          have hms5 := HM.out (pos + 1) (by omega)
          clear HA HM hnx
          have hKl5 : B + 1 < (wr.iterAt (B + 1) nms (pos + 1)).heap.size := (Array.getElem?_eq_some_iff.1 hI5').1
          generalize wr.iterAt (B + 1) nms (pos + 1) = W5 at *
          obtain ⟨k0, k1, k2, k3, k4, k5, k6, k7⟩ := cells8 (show W5.heap[B]? = some (.cells #[tP ds nb n 0, tP ds nb n 1, tP ds nb n 2, tP ds nb n 3, tP ds nb n 4, tP ds nb n 5, tP ds nb n 6, tP ds nb n 7] 56 (0, 0)) by rw [← tRow_eight]; exact hB5)
          have E8 : Hid (tRow ds nb n = #[tP ds nb n 0, tP ds nb n 1, tP ds nb n 2, tP ds nb n 3, tP ds nb n 4, tP ds nb n 5, tP ds nb n 6, tP ds nb n 7]) := tRow_eight ds nb n
          generalize tP ds nb n 0 = t0 at k0 k1 k2 k3 k4 k5 k6 k7 E8
          generalize tP ds nb n 1 = t1 at k0 k1 k2 k3 k4 k5 k6 k7 E8
          generalize tP ds nb n 2 = t2 at k0 k1 k2 k3 k4 k5 k6 k7 E8
          generalize tP ds nb n 3 = t3 at k0 k1 k2 k3 k4 k5 k6 k7 E8
          generalize tP ds nb n 4 = t4 at k0 k1 k2 k3 k4 k5 k6 k7 E8
          generalize tP ds nb n 5 = t5 at k0 k1 k2 k3 k4 k5 k6 k7 E8
          generalize tP ds nb n 6 = t6 at k0 k1 k2 k3 k4 k5 k6 k7 E8
          generalize tP ds nb n 7 = t7 at k0 k1 k2 k3 k4 k5 k6 k7 E8
          have hlt : B < W5.heap.size := (Array.getElem?_eq_some_iff.1 hB5).1
          go_region_held3 (fun w' => w'.cell? ⟨B, 0, none⟩ = some t0 ∧ w'.cell? ⟨B, 1, none⟩ = some t1 ∧ w'.cell? ⟨B, 2, none⟩ = some t2 ∧ w'.cell? ⟨B, 3, none⟩ = some t3 ∧ w'.cell? ⟨B, 4, none⟩ = some t4 ∧ w'.cell? ⟨B, 5, none⟩ = some t5 ∧ w'.cell? ⟨B, 6, none⟩ = some t6 ∧ w'.cell? ⟨B, 7, none⟩ = some t7) (go_keep) (first | (go_at_call 58; rw [← E8.out]; refine (HF.out.kid o fr pos HI5.out _ (by rw [hB]; exact acc5.drew) _ (by rw [ByteArray.size_extract]; omega)).mono ?_; rintro e w2 ⟨rfl, hb2⟩; have hb3 := (Below.refl _ W5).drew.trans hb2; have g0 := (hb3.cell hlt).trans k0; have g1 := (hb3.cell hlt).trans k1; have g2 := (hb3.cell hlt).trans k2; have g3 := (hb3.cell hlt).trans k3; have g4 := (hb3.cell hlt).trans k4; have g5 := (hb3.cell hlt).trans k5; have g6 := (hb3.cell hlt).trans k6; have g7 := (hb3.cell hlt).trans k7))
          have hit6 := (hb3.block (B + 1) hKl5).trans hI5'
          have hB6 := (hb3.block B hlt).trans hB5
          have acc6 := acc5.trans (hb3.mono (Nat.le_of_lt hlt))
          have hip6 : w2.iterPos (B + 1) = W5.iterPos (B + 1) := by unfold World.iterPos; rw [hit6, hI5']
          have HMS : Hid (nms.size - w2.iterPos (B + 1) < nms.size - wr.iterPos (B + 1)) := by rw [hip6]; exact hms5
          clear k0 k1 k2 k3 k4 k5 k6 k7 g0 g1 g2 g3 g4 g5 g6 g7 hb2 hb3 hip6 hms5 HI5
          simp only [Exit.then]
          go_at_K
          go_wp2_with fail
          exact ⟨⟨_, pos + 1, pos + 1, rfl, by go_num, by omega, by omega, HN.out, acc6, hB6, hit6⟩, HMS.out⟩
        · have hne : ((nms[pos]'hp).toNat : Int) ≠ 47 := by
            intro e
            refine h47 (UInt8.toNat_inj.1 ?_)
            have : (47 : UInt8).toNat = 47 := rfl
            omega
          have HN : Hid (I o fr (pos + 1)) := HF.out.sign o fr pos hfp hpl (by rw [hbyte]; exact h47) hI
          clear hI hbyte ha h47
          go_wp2
          exact ⟨⟨o, fr, pos + 1, rfl, rfl, by omega, hfs, HN.out, HA.out.1 _, HA.out.2.1 _, HA.out.2.2 _⟩, HM.out _ (by omega)⟩
      · obtain ⟨hd1, hd2⟩ := decode_high nms pos hp (by omega)
        have hne : ((Utf8.decode nms pos).1 : Int) ≠ 47 := by omega
        have HN : Hid (I o fr (pos + (Utf8.decode nms pos).2)) := HF.out.wide o fr pos _ hfp hpl hd2 (by rw [hbyte]; omega) hI
        have HD2 : Hid (1 ≤ (Utf8.decode nms pos).2) := hd2
        clear hI hbyte ha hd1 hd2
        go_wp2
        exact ⟨⟨o, fr, pos + (Utf8.decode nms pos).2, rfl, rfl, by omega, hfs, HN.out, HA.out.1 _, HA.out.2.1 _, HA.out.2.2 _⟩, HM.out _ (by have := HD2.out; omega)⟩
    · have hnx := fun ty => run_next_end_at (P := Try.prog) wr (B + 1) nms pos ty hit hp
      have HI5 : Hid (I o fr pos) := hI
      have hfs' : (fr : Int) ≤ (nms.size : Int) := by omega
      clear hI
      go_wp2_with fail
      have acc5 := acc
      have hB5 := hB5'
      clear hnx hit
      obtain ⟨k0, k1, k2, k3, k4, k5, k6, k7⟩ := cells8 (show wr.heap[B]? = some (.cells #[tP ds nb n 0, tP ds nb n 1, tP ds nb n 2, tP ds nb n 3, tP ds nb n 4, tP ds nb n 5, tP ds nb n 6, tP ds nb n 7] 56 (0, 0)) by rw [← tRow_eight]; exact hB5)
      have E8 : Hid (tRow ds nb n = #[tP ds nb n 0, tP ds nb n 1, tP ds nb n 2, tP ds nb n 3, tP ds nb n 4, tP ds nb n 5, tP ds nb n 6, tP ds nb n 7]) := tRow_eight ds nb n
      generalize tP ds nb n 0 = t0 at k0 k1 k2 k3 k4 k5 k6 k7 E8
      generalize tP ds nb n 1 = t1 at k0 k1 k2 k3 k4 k5 k6 k7 E8
      generalize tP ds nb n 2 = t2 at k0 k1 k2 k3 k4 k5 k6 k7 E8
      generalize tP ds nb n 3 = t3 at k0 k1 k2 k3 k4 k5 k6 k7 E8
      generalize tP ds nb n 4 = t4 at k0 k1 k2 k3 k4 k5 k6 k7 E8
      generalize tP ds nb n 5 = t5 at k0 k1 k2 k3 k4 k5 k6 k7 E8
      generalize tP ds nb n 6 = t6 at k0 k1 k2 k3 k4 k5 k6 k7 E8
      generalize tP ds nb n 7 = t7 at k0 k1 k2 k3 k4 k5 k6 k7 E8
      have hlt : B < wr.heap.size := (Array.getElem?_eq_some_iff.1 hB5).1
      go_region_held3 (fun w' => w'.cell? ⟨B, 0, none⟩ = some t0 ∧ w'.cell? ⟨B, 1, none⟩ = some t1 ∧ w'.cell? ⟨B, 2, none⟩ = some t2 ∧ w'.cell? ⟨B, 3, none⟩ = some t3 ∧ w'.cell? ⟨B, 4, none⟩ = some t4 ∧ w'.cell? ⟨B, 5, none⟩ = some t5 ∧ w'.cell? ⟨B, 6, none⟩ = some t6 ∧ w'.cell? ⟨B, 7, none⟩ = some t7) (go_keep) (first | (go_at_call 58; rw [← E8.out]; refine (HF.out.kid o fr pos HI5.out _ (by rw [hB]; exact acc5.drew) _ (by rw [ByteArray.size_extract]; omega)).mono ?_; rintro e w2 ⟨rfl, hb2⟩; have hb3 := (Below.refl _ wr).drew.trans hb2; have g0 := (hb3.cell hlt).trans k0; have g1 := (hb3.cell hlt).trans k1; have g2 := (hb3.cell hlt).trans k2; have g3 := (hb3.cell hlt).trans k3; have g4 := (hb3.cell hlt).trans k4; have g5 := (hb3.cell hlt).trans k5; have g6 := (hb3.cell hlt).trans k6; have g7 := (hb3.cell hlt).trans k7))
      have acc6 := acc5.trans (hb3.mono (Nat.le_of_lt hlt))
      have htk : (nms.data.toList.drop fr).take (nms.size - fr) = nms.data.toList.drop fr := List.take_of_length_le (by rw [List.length_drop, hlen]; exact Nat.le_refl _)
      have HE : Hid (ptrO nb (o.bind fun j => kidM ds j ((nms.data.toList.drop fr).take (nms.size - fr))) = ptrO nb (o.bind fun j => kidM ds j (nms.data.toList.drop fr))) := by
        show _ = _
        rw [htk]
      have HL : Hid (nms.data.toList.length ≤ pos) := by
        show _ ≤ _
        rw [hlen]
        exact Nat.le_of_not_lt hp
      have HACC : Hid (Below w.heap.size w w2) := by
        show Below _ _ _
        rw [hB]
        exact acc6
      clear htk
      clear k0 k1 k2 k3 k4 k5 k6 k7 g0 g1 g2 g3 g4 g5 g6 g7 hb2 hb3
      simp only [Exit.then]
      go_at_K
      go_wp2_with fail
      go_ret
      subst hnm
      exact ⟨⟨o, fr, pos, HI5.out, HL.out, congrArg Ending.returned HE.out⟩, HACC.out⟩
end Go.Proofs.Ytcngkecnddhioaa
