/- The program's treeOf: the walk. TreeOk, TreeDepth: of the program and of its specification. TreeDepth: of the program and of its specification. TreeUnder: of the specification; the program's walk along the parents. -/
import Derived.Test.YtnmmglkigiakaaaGreatD07
namespace Go.Proofs.YtnmmglkigiakaaaGreat
set_option maxRecDepth 100000
set_option maxHeartbeats 32000000
set_option linter.unusedVariables false
set_option linter.unusedSimpArgs false
open Go.ChangeShapes Go.WideShapes Go.ChangeAt Go.RowKit
theorem tree_index8 (t0 t1 t2 t3 t4 t5 t6 t7 : Value) (w : World) : (Instr.index 164 (.agg #[t0, t1, t2, t3, t4, t5, t6, t7]) (.int .i64 0)).run Tryz.prog w = .ok t0 w ∧ (Instr.index 164 (.agg #[t0, t1, t2, t3, t4, t5, t6, t7]) (.int .i64 1)).run Tryz.prog w = .ok t1 w ∧
    (Instr.index 164 (.agg #[t0, t1, t2, t3, t4, t5, t6, t7]) (.int .i64 2)).run Tryz.prog w = .ok t2 w ∧ (Instr.index 164 (.agg #[t0, t1, t2, t3, t4, t5, t6, t7]) (.int .i64 3)).run Tryz.prog w = .ok t3 w ∧
    (Instr.index 164 (.agg #[t0, t1, t2, t3, t4, t5, t6, t7]) (.int .i64 4)).run Tryz.prog w = .ok t4 w ∧ (Instr.index 164 (.agg #[t0, t1, t2, t3, t4, t5, t6, t7]) (.int .i64 5)).run Tryz.prog w = .ok t5 w ∧
    (Instr.index 164 (.agg #[t0, t1, t2, t3, t4, t5, t6, t7]) (.int .i64 6)).run Tryz.prog w = .ok t6 w ∧ (Instr.index 164 (.agg #[t0, t1, t2, t3, t4, t5, t6, t7]) (.int .i64 7)).run Tryz.prog w = .ok t7 w := by
  refine ⟨?_, ?_, ?_, ?_, ?_, ?_, ?_, ?_⟩ <;> kernel_rfl
theorem tree_index (ds : List Gr) (nb : Nat → Nat) (i : Nat) (hi : i < 8) (w : World) : (Instr.index 164 (.agg (tRow ds nb 8)) (.int .i64 (i : Int))).run Tryz.prog w = .ok (tP ds nb 8 i) w := by
  rw [tRow_eight]
  obtain ⟨h0, h1, h2, h3, h4, h5, h6, h7⟩ := tree_index8 (tP ds nb 8 0) (tP ds nb 8 1) (tP ds nb 8 2) (tP ds nb 8 3) (tP ds nb 8 4) (tP ds nb 8 5) (tP ds nb 8 6) (tP ds nb 8 7) w
  match i, hi with
  | 0, _ => exact h0
  | 1, _ => exact h1
  | 2, _ => exact h2
  | 3, _ => exact h3
  | 4, _ => exact h4
  | 5, _ => exact h5
  | 6, _ => exact h6
  | 7, _ => exact h7
theorem treeOf_root (x : Value) (vs : List Gv) (w : World) (hs : SlG w x vs) (hf : GsFit vs) (hr : rootB (gsD vs) = true) :
    Calls Tryz.prog 168 #[x] w fun e w' => TreeIs w w' (gsD vs) e ∧ Below w.heap.size w w' := by
  have h8 : vs.length = 8 := by
    rcases root_ways (gsD vs) with ⟨r1, r⟩ | ⟨r1, r2, r⟩ | ⟨r1, r2, r3, r⟩ | ⟨r1, r2, r3, r4, r⟩ | ⟨r1, r2, r3, r4, r⟩
    · rw [r] at hr; cases hr
    all_goals (rw [gsD_length] at r1; exact r1)
  have hu0 : usAt (gsD vs) 0 = true := by
    rcases root_ways (gsD vs) with ⟨r1, r⟩ | ⟨r1, r2, r⟩ | ⟨r1, r2, r3, r⟩ | ⟨r1, r2, r3, r4, r⟩ | ⟨r1, r2, r3, r4, r⟩
    · rw [r] at hr; cases hr
    · rw [r] at hr; cases hr
    all_goals exact r2
  have hd8 : (gsD vs).length = 8 := by rw [gsD_length]; exact h8
  have hna : ∀ k, k < 8 → (naAt (gsD vs) k).size ≤ 1048576 := by
    intro k hk
    obtain ⟨e, he, _, _, h3⟩ := gs_get (vs := vs) (k := k) (by omega)
    rw [h3]
    exact (hf.2 e (List.mem_of_getElem? he)).1
  have HNA : Hid (∀ k, k < 8 → (naAt (gsD vs) k).size ≤ 1048576) := hna
  have HSL : Hid (SlG w x vs) := hs
  obtain ⟨q, o, cap, rfl, hq, hrow⟩ := groups8 hs h8
  have HRW : Hid (∀ W, Below w.heap.size w W → ∀ k, k < 8 → ∃ e, vs[k]? = some e ∧ W.rangeAt q (o + k * 14) (gvC e) ∧ Slices e) := hrow
  have hb1 : ∀ A, Below w.heap.size w (w.alloc A) := fun A => (Below.refl _ _).alloc (Nat.le_refl _) _
  obtain ⟨e, he, hrg, ⟨p1, l1, c1, e1⟩, ⟨p2, l2, c2, e2⟩, p3, l3, c3, e3⟩ := hrow _ (hb1 (.cells #[.pointer none, .pointer none, .pointer none, .pointer none, .pointer none, .pointer none, .pointer none, .pointer none] 164 (0, 0))) 0 (by omega)
  obtain ⟨x0, x1, x2, x3, x4, x5, x6, x7, x8, x9, x10, x11, x12, x13⟩ := gv_cells hrg
  have hv : rootV e.d = true := by rw [← rootV_of (ds := gsD vs) (by simp [gsD, he]) hd8]; exact hr
  simp only [Nat.zero_mul, Nat.add_zero] at x0 x1 x2 x3 x4 x5 x6 x7 x8 x9 x10 x11 x12 x13
  clear hrow hs hrg hna
  go_enter Tryz.func168, Tryz.ntmps168
  go_wp2_with fail
  have hroot := isRoot_any e
  unfold gvV at hroot
  rw [e1, e2, e3] at hroot
  refine (hroot _).mono ?_
  clear hroot
  rintro e0 w1 ⟨rfl, hb⟩
  obtain ⟨hbl, hX, hlt⟩ := box_kept hb
  rw [hv]
  clear x0 x1 x2 x3 x4 x5 x6 x7 x8 x9 x10 x11 x12 x13 e1 e2 e3 he hv hb
  simp only []
  go_at_K
  go_wp2_with fail
  refine (nodesOf_any _ vs _ (HSL.out.below hbl) h8).mono ?_
  rintro e0 w2 ⟨nb, mb, rfl, hns, hb2⟩
  have hX2 := (hb2.block _ hlt).trans hX
  have acc2 := hbl.trans (hb2.mono hbl.size)
  have hsz2 := hb2.size
  have hT := heap_alloc_new w2 (.cells #[.pointer none, .pointer none, .pointer none, .pointer none, .pointer none, .pointer none, .pointer none, .pointer none] 164 (0, 0))
  have hns2 := hns
  have hlt2 : ∀ i, i < 8 → usAt (gsD vs) i = true → nb i ≠ w2.heap.size ∧ mb i ≠ w2.heap.size := fun i hi hu => by have := hns.lt hi hu; omega
  have hHS : HS w ((w2.alloc (.cells #[.pointer none, .pointer none, .pointer none, .pointer none, .pointer none, .pointer none, .pointer none, .pointer none] 164 (0, 0))).setRow w2.heap.size (tRow (gsD vs) nb 8)) (gsD vs) nb mb w2.heap.size 0 := by
    have hba : Below w2.heap.size w2 (w2.alloc (.cells #[.pointer none, .pointer none, .pointer none, .pointer none, .pointer none, .pointer none, .pointer none, .pointer none] 164 (0, 0))) := (Below.refl _ _).alloc (Nat.le_refl _) _
    have hbb := below_setRow hba (Nat.le_refl _) (tRow (gsD vs) nb 8)
    refine ⟨acc2.trans (hbb.mono acc2.size), (hbb.block _ (by omega)).trans ?_, setRow_heap _ _ _ _ _ _ hT, by omega, ⟨_, ?_, MO.start _⟩, hlt2, fun i h1 h2 => by omega⟩
    · rw [hX2, tRow_none]
    · have h3 := (hns.below hbb).par (par' := parTo (gsD vs) 0) (fun i hi hu => by unfold parTo; rw [if_neg (by omega)])
      exact ⟨h3.node, h3.map, fun i hi hu => by have := h3.low i hi hu; omega, h3.inj, h3.sep⟩
  have HH : Hid (HS w ((w2.alloc (.cells #[.pointer none, .pointer none, .pointer none, .pointer none, .pointer none, .pointer none, .pointer none, .pointer none] 164 (0, 0))).setRow w2.heap.size (tRow (gsD vs) nb 8)) (gsD vs) nb mb w2.heap.size 0) := hHS
  clear hHS hns hns2 hlt2 hX hX2 hbl hb2
  simp only []
  go_at_K
  go_wp2_with (first
    | refine wpList_store_row rfl 164 _ _ rfl w2.heap.size (tRow (gsD vs) nb 8) rfl rfl 164 #[.pointer none, .pointer none, .pointer none, .pointer none, .pointer none, .pointer none, .pointer none, .pointer none] hT (info_treeR _ _ _) (by rw [tRow_size]; rfl) (tRow_one _ _ _) ?_)
  generalize hTT : w2.heap.size = T at *
  generalize hWW : (w2.alloc (.cells #[.pointer none, .pointer none, .pointer none, .pointer none, .pointer none, .pointer none, .pointer none, .pointer none] 164 (0, 0))).setRow T (tRow (gsD vs) nb 8) = W0 at *
  clear hT hWW
  go_loopw [23] (fun i wr => ∃ k : Nat, k ≤ 8 ∧ i = .int .i64 k ∧ HS w wr (gsD vs) nb mb T k) (fun i _ => 8 - (intOf i).toNat)
  case atStart => exact ⟨0, by omega, rfl, HH.out⟩
  case round =>
    clear HH
    obtain ⟨k, hk, rfl, hst⟩ := hrel
    have HST : Hid (HS w wr (gsD vs) nb mb T k) := hst
    have hTl : T < wr.heap.size := (Array.getElem?_eq_some_iff.1 hst.arr).1
    have hba : ∀ A, Below wr.heap.size wr (wr.alloc A) := fun A => (Below.refl _ _).alloc (Nat.le_refl _) _
    have HBA : Hid (∀ A, Below wr.heap.size wr (wr.alloc A)) := hba
    by_cases hlt : k < 8
    · have hlt' : (k : Int) < 8 := by omega
      obtain ⟨e, he, hrg, ⟨p1, l1, c1, e1⟩, ⟨p2, l2, c2, e2⟩, p3, l3, c3, e3⟩ := HRW.out wr hst.acc k hlt
      obtain ⟨u1, u2, u3⟩ := gs_at he
      obtain ⟨x0, x1, x2, x3, x4, x5, x6, x7, x8, x9, x10, x11, x12, x13⟩ := gv_cells hrg
      rw [e1] at x11
      rw [e2] at x12
      rw [e3] at x13
      rw [← u1] at x0
      rw [← u2] at x1
      have har := hst.arr
      rw [tRow_eight] at har
      obtain ⟨t0, t1, t2, t3, t4, t5, t6, t7⟩ := cells8 har
      have T0 : ∀ A, (wr.alloc A).cell? ⟨T, 0, none⟩ = some (tP (gsD vs) nb 8 0) := fun A => ((hba A).cell hTl).trans t0
      have T1 : ∀ A, (wr.alloc A).cell? ⟨T, 1, none⟩ = some (tP (gsD vs) nb 8 1) := fun A => ((hba A).cell hTl).trans t1
      have T2 : ∀ A, (wr.alloc A).cell? ⟨T, 2, none⟩ = some (tP (gsD vs) nb 8 2) := fun A => ((hba A).cell hTl).trans t2
      have T3 : ∀ A, (wr.alloc A).cell? ⟨T, 3, none⟩ = some (tP (gsD vs) nb 8 3) := fun A => ((hba A).cell hTl).trans t3
      have T4 : ∀ A, (wr.alloc A).cell? ⟨T, 4, none⟩ = some (tP (gsD vs) nb 8 4) := fun A => ((hba A).cell hTl).trans t4
      have T5 : ∀ A, (wr.alloc A).cell? ⟨T, 5, none⟩ = some (tP (gsD vs) nb 8 5) := fun A => ((hba A).cell hTl).trans t5
      have T6 : ∀ A, (wr.alloc A).cell? ⟨T, 6, none⟩ = some (tP (gsD vs) nb 8 6) := fun A => ((hba A).cell hTl).trans t6
      have T7 : ∀ A, (wr.alloc A).cell? ⟨T, 7, none⟩ = some (tP (gsD vs) nb 8 7) := fun A => ((hba A).cell hTl).trans t7
      clear t0 t1 t2 t3 t4 t5 t6 t7 har hst hba hrg he u1 u2 u3 e1 e2 e3
      by_cases hk0' : ¬ (0 : Int) < (k : Int)
      · go_wp2
        go_roundw
        case rel => exact ⟨k + 1, by omega, by go_num, (HST.out.skip (.inr (by omega))).below (HBA.out _)⟩
        case measure => simp [intOf]; omega
      · replace hk0' : (0 : Int) < (k : Int) := by omega
        cases hu : usAt (gsD vs) k
        · rw [hu] at x0
          go_wp2
          go_roundw
          case rel => exact ⟨k + 1, by omega, by go_num, (HST.out.skip (.inl hu)).below (HBA.out _)⟩
          case measure => simp [intOf]; omega
        · rw [hu] at x0
          go_wp2_with fail
          rw [← tRow_eight]
          have HA : Hid (HS w (wr.alloc (.cells #[.bool true, .int .i64 (paAt (gsD vs) k), .string e.d.na, .int .i64 e.d.we, .int .i64 e.d.cp, .int .i64 e.d.pe, .int .i64 e.d.ne, .int .i64 e.d.su, .int .i64 e.d.ba.qu, .int .i64 e.d.ba.po, .int .i64 e.d.ba.sp, .slice p1 l1 c1, .slice p2 l2 c2, .slice p3 l3 c3] 84 (0, 0))) (gsD vs) nb mb T k) := HST.out.below (HBA.out _)
          clear HST HBA T0 T1 T2 T3 T4 T5 T6 T7 x0 x1 x2 x3 x4 x5 x6 x7 x8 x9 x10 x11 x12 x13 hTl
          generalize wr.alloc (.cells #[.bool true, .int .i64 (paAt (gsD vs) k), .string e.d.na, .int .i64 e.d.we, .int .i64 e.d.cp, .int .i64 e.d.pe, .int .i64 e.d.ne, .int .i64 e.d.su, .int .i64 e.d.ba.qu, .int .i64 e.d.ba.po, .int .i64 e.d.ba.sp, .slice p1 l1 c1, .slice p2 l2 c2, .slice p3 l3 c3] 84 (0, 0)) = W1 at *
          cases hpu : usedB (gsD vs) (paAt (gsD vs) k)
          · have HNO : Hid (treeB (gsD vs) = false) := tree_bad (k := k) (by omega) hlt (place_orphan hd8 (by omega) hlt hu hpu)
            refine (hang_orphan (gsD vs) nb k _ W1 hd8 hlt hu hpu).mono ?_
            rintro e0 w3 ⟨rfl, hb3⟩
            have hres3 := (HA.out.below hb3).res
            rw [tRow_none] at hres3
            have accz := (HA.out.below hb3).acc
            obtain ⟨k0, k1, k2, k3, k4, k5, k6, k7⟩ := cells8 hres3
            have f0 := fbox hres3 0
            have f1 := fbox hres3 1
            have f2 := fbox hres3 2
            have f3 := fbox hres3 3
            have f4 := fbox hres3 4
            have f5 := fbox hres3 5
            have f6 := fbox hres3 6
            have f7 := fbox hres3 7
            simp only []
            go_at_K
            go_wp2_with fail
            refine bodyPost_ret (results_mid rfl _ _ w.heap.size 0 [.pointer none, .pointer none, .pointer none, .pointer none, .pointer none, .pointer none, .pointer none, .pointer none] _ rfl (World.rangeAt_setCells_same w3 w.heap.size 0 [.pointer none, .pointer none, .pointer none, .pointer none, .pointer none, .pointer none, .pointer none, .pointer none] (there_of_block hres3)) Tryz.underlying164 rfl info_tree) rfl ?_
            exact ⟨.inl ⟨HNO.out, by rw [tRow_none]⟩, accz.trans ((Kept.setCells w3 w.heap.size 0 [.pointer none, .pointer none, .pointer none, .pointer none, .pointer none, .pointer none, .pointer none, .pointer none]).toBelow accz.size (by intro k hk; omega))⟩
          · obtain ⟨j, hp, hj, uj⟩ := usedB_yes hpu
            rw [hd8] at hj
            rw [hp]
            obtain ⟨Dm, hns, hmo⟩ := HA.out.nodes
            rw [if_neg (by omega)] at hmo
            cases hnm : nameB (naAt (gsD vs) k)
            · have HNO : Hid (treeB (gsD vs) = false) := tree_bad (k := k) (by omega) hlt (place_name hu hnm)
              refine (hang_bad (gsD vs) nb mb _ Dm k _ k j W1 hns hlt hj hu uj (HNA.out k hlt) hnm).mono ?_
              rintro e0 w3 ⟨rfl, hb3⟩
              have hres3 := (HA.out.below hb3).res
              rw [tRow_none] at hres3
              have accz := (HA.out.below hb3).acc
              obtain ⟨k0, k1, k2, k3, k4, k5, k6, k7⟩ := cells8 hres3
              have f0 := fbox hres3 0
              have f1 := fbox hres3 1
              have f2 := fbox hres3 2
              have f3 := fbox hres3 3
              have f4 := fbox hres3 4
              have f5 := fbox hres3 5
              have f6 := fbox hres3 6
              have f7 := fbox hres3 7
              simp only []
              go_at_K
              go_wp2_with fail
              refine bodyPost_ret (results_mid rfl _ _ w.heap.size 0 [.pointer none, .pointer none, .pointer none, .pointer none, .pointer none, .pointer none, .pointer none, .pointer none] _ rfl (World.rangeAt_setCells_same w3 w.heap.size 0 [.pointer none, .pointer none, .pointer none, .pointer none, .pointer none, .pointer none, .pointer none, .pointer none] (there_of_block hres3)) Tryz.underlying164 rfl info_tree) rfl ?_
              exact ⟨.inl ⟨HNO.out, by rw [tRow_none]⟩, accz.trans ((Kept.setCells w3 w.heap.size 0 [.pointer none, .pointer none, .pointer none, .pointer none, .pointer none, .pointer none, .pointer none, .pointer none]).toBelow accz.size (by intro k hk; omega))⟩
            · cases hdp : dupTo (gsD vs) k k
              · have hhas : Maps.has (Dm j) (keyS (naAt (gsD vs) k)) = false := by
                  unfold keyS
                  rw [hmo.has, ← dup_names _ _ _ hp]
                  exact hdp
                refine (hang_yes (gsD vs) nb mb _ Dm k _ k j W1 hns hlt hj hu uj (HNA.out k hlt) hnm hhas (by omega)).mono ?_
                rintro e0 w3 ⟨rfl, hns3, hK3⟩
                have HS3 : Hid (HS w w3 (gsD vs) nb mb T (k + 1)) := HA.out.hang (by omega) hlt hu hj uj hp hnm (by have := HNA.out k hlt; unfold maxLen; omega) hd8 hmo hdp (hns.lt hlt hu).1 hns3 hK3
                clear hns3 hK3 hns hmo HA hhas
                simp only []
                go_at_K
                go_wp2_with fail
                exact ⟨⟨k + 1, by omega, by go_num, HS3.out⟩, by simp [intOf]; omega⟩
              · have hhas : Maps.has (Dm j) (keyS (naAt (gsD vs) k)) = true := by
                  unfold keyS
                  rw [hmo.has, ← dup_names _ _ _ hp]
                  exact hdp
                have HNO : Hid (treeB (gsD vs) = false) := tree_bad (k := k) (by omega) hlt (place_dup hu hdp)
                refine (hang_there (gsD vs) nb mb _ Dm k _ k j W1 hns hlt hj hu uj (HNA.out k hlt) hnm hhas).mono ?_
                rintro e0 w3 ⟨rfl, hb3⟩
                have hres3 := (HA.out.below hb3).res
                rw [tRow_none] at hres3
                have accz := (HA.out.below hb3).acc
                obtain ⟨k0, k1, k2, k3, k4, k5, k6, k7⟩ := cells8 hres3
                have f0 := fbox hres3 0
                have f1 := fbox hres3 1
                have f2 := fbox hres3 2
                have f3 := fbox hres3 3
                have f4 := fbox hres3 4
                have f5 := fbox hres3 5
                have f6 := fbox hres3 6
                have f7 := fbox hres3 7
                simp only []
                go_at_K
                go_wp2_with fail
                refine bodyPost_ret (results_mid rfl _ _ w.heap.size 0 [.pointer none, .pointer none, .pointer none, .pointer none, .pointer none, .pointer none, .pointer none, .pointer none] _ rfl (World.rangeAt_setCells_same w3 w.heap.size 0 [.pointer none, .pointer none, .pointer none, .pointer none, .pointer none, .pointer none, .pointer none, .pointer none] (there_of_block hres3)) Tryz.underlying164 rfl info_tree) rfl ?_
                exact ⟨.inl ⟨HNO.out, by rw [tRow_none]⟩, accz.trans ((Kept.setCells w3 w.heap.size 0 [.pointer none, .pointer none, .pointer none, .pointer none, .pointer none, .pointer none, .pointer none, .pointer none]).toBelow accz.size (by intro k hk; omega))⟩
    · have hlt' : ¬ (k : Int) < 8 := by omega
      obtain rfl : k = 8 := by omega
      obtain ⟨Dm, htr, hmo⟩ := hst.done hd8 hu0
      have har := hst.arr
      clear hba HBA
      go_wp2_with (refine wpList_load_row rfl 164 _ rfl T rfl 164 (tRow (gsD vs) nb 8) (0, 0) _ har Tryz.underlying164 rfl (info_treeR _ _ _) ?_)
      have hix := fun i hi => tree_index (gsD vs) nb i hi
      have HIX : Hid (∀ i : Nat, i < 8 → ∀ W, (Instr.index 164 (.agg (tRow (gsD vs) nb 8)) (.int .i64 (i : Int))).run Tryz.prog W = .ok (tP (gsD vs) nb 8 i) W) := hix
      have HTR : Hid (TR wr (gsD vs) nb mb Dm (w.heap.size + 1)) := htr
      have HMO : Hid (MO (gsD vs) 8 Dm) := hmo
      have hres := hst.res
      have accz := hst.acc
      clear hix htr hmo hst HST
      go_loop [45] (fun i => ∃ k : Nat, k ≤ 8 ∧ i = .int .i64 k ∧ ∀ j, j < k → usAt (gsD vs) j = true → withinF (gsD vs) 3 j = true) (fun i => 8 - (intOf i).toNat)
      case atStart => exact ⟨0, by omega, rfl, fun j hj => by omega⟩
      case round =>
        obtain ⟨k, hk, rfl, hwi⟩ := hrel
        have HWI : Hid (∀ j, j < k → usAt (gsD vs) j = true → withinF (gsD vs) 3 j = true) := hwi
        clear hwi
        by_cases hlt : k < 8
        · have hlt' : (k : Int) < 8 := by omega
          have hx := HIX.out k hlt
          cases hu : usAt (gsD vs) k
          · rw [tP_unused hu] at hx
            go_wp2
            refine ⟨⟨k + 1, by omega, by go_num, fun j hj huj => ?_⟩, by simp [intOf]; omega⟩
            rcases Nat.lt_or_ge j k with h' | h'
            · exact HWI.out j h' huj
            · obtain rfl : j = k := by omega
              rw [hu] at huj; cases huj
          · rw [tP_used hlt hu] at hx
            cases hw : withinF (gsD vs) 3 k
            · have HNO : Hid (treeB (gsD vs) = false) := tree_far hd8 HTR.out.hung hu0 hlt hu hw
              clear har hlt' HRW HSL HNA
              go_wp2_with fail
              refine (within_any _ _ _ _ _ k _ HTR.out hlt hu).mono ?_
              rintro e0 w3 ⟨rfl, hw3⟩
              rw [hw]
              have hres3 : w3.heap[w.heap.size]? = some (.cells #[.pointer none, .pointer none, .pointer none, .pointer none, .pointer none, .pointer none, .pointer none, .pointer none] 164 (0, 0)) := by rw [hw3, hres, tRow_none]
              replace accz : Below w.heap.size w w3 := by rw [hw3]; exact accz
              clear hres hx hw3 HTR HMO HIX
              obtain ⟨k0, k1, k2, k3, k4, k5, k6, k7⟩ := cells8 hres3
              have f0 := fbox hres3 0
              have f1 := fbox hres3 1
              have f2 := fbox hres3 2
              have f3 := fbox hres3 3
              have f4 := fbox hres3 4
              have f5 := fbox hres3 5
              have f6 := fbox hres3 6
              have f7 := fbox hres3 7
              simp only []
              go_at_K
              go_wp2_with fail
              refine bodyPost_ret (results_mid rfl _ _ w.heap.size 0 [.pointer none, .pointer none, .pointer none, .pointer none, .pointer none, .pointer none, .pointer none, .pointer none] _ rfl (World.rangeAt_setCells_same w3 w.heap.size 0 [.pointer none, .pointer none, .pointer none, .pointer none, .pointer none, .pointer none, .pointer none, .pointer none] (there_of_block hres3)) Tryz.underlying164 rfl info_tree) rfl ?_
              exact ⟨.inl ⟨HNO.out, by rw [tRow_none]⟩, accz.trans ((Kept.setCells w3 w.heap.size 0 [.pointer none, .pointer none, .pointer none, .pointer none, .pointer none, .pointer none, .pointer none, .pointer none]).toBelow accz.size (by intro k hk; omega))⟩
            · go_wp2_with (go_at_call 185; refine (within_any _ _ _ _ _ k _ HTR.out hlt hu).mono ?_; rintro e0 w3 ⟨rfl, rfl⟩)
              refine ⟨⟨k + 1, by omega, by go_num, fun j hj huj => ?_⟩, by simp [intOf]; omega⟩
              rcases Nat.lt_or_ge j k with h' | h'
              · exact HWI.out j h' huj
              · obtain rfl : j = k := by omega
                exact hw
        · have hlt' : ¬ (k : Int) < 8 := by omega
          obtain rfl : k = 8 := by omega
          have HYES : Hid (treeB (gsD vs) = true) := tree_all hr hd8 HTR.out.hung hu0 HWI.out
          go_wp2_with (first
            | refine wpList_load_row rfl 164 _ rfl T rfl 164 (tRow (gsD vs) nb 8) (0, 0) _ har Tryz.underlying164 rfl (info_treeR _ _ _) ?_
            | refine wpList_store_row rfl 164 _ _ rfl w.heap.size (tRow (gsD vs) nb 8) rfl rfl 164 (tRow (gsD vs) (fun _ => 0) 0) hres (info_treeR _ _ _) (by rw [tRow_size, tRow_size]) (tRow_one _ _ _) ?_)
          refine bodyPost_ret (results_cell_row rfl _ _ w.heap.size 164 (tRow (gsD vs) nb 8) (0, 0) _ rfl (setRow_heap _ _ _ _ _ _ hres) Tryz.underlying164 rfl (info_treeR _ _ _)) rfl ?_
          exact ⟨.inr ⟨HYES.out, nb, mb, Dm, rfl, (HTR.out.kept (Kept.setRow _ _ _) (by intro g hg; omega)).mono (by omega), HMO.out⟩, below_setRow accz (Nat.le_refl _) _⟩
theorem tree_hasroot {ds : List Gr} (h : treeB ds = true) : rootB ds = true := by
  cases hr : rootB ds
  · rw [tree_noroot hr] at h; cases h
  · rfl
theorem treeOf_any (x : Value) (vs : List Gv) (w : World) (hs : SlG w x vs) (hf : GsFit vs) :
    Calls Tryz.prog 168 #[x] w fun e w' => TreeIs w w' (gsD vs) e ∧ Below w.heap.size w w' := by
  cases hr : rootB (gsD vs)
  · refine (treeOf_noroot x vs w hs hr).mono ?_
    rintro e w' ⟨rfl, hb⟩
    exact ⟨.inl ⟨tree_noroot hr, rfl⟩, hb⟩
  · exact treeOf_root x vs w hs hf hr
theorem at_none (ds : List Gr) (nb : Nat → Nat) (g : Int) : atP ds nb 0 g = .pointer none := by
  unfold atP
  split
  · exact tP_past (by omega)
  · rfl
theorem at_root {ds : List Gr} (nb : Nat → Nat) (h : usAt ds 0 = true) : atP ds nb 8 0 = .pointer (some ⟨nb 0, 0, none⟩) := by
  unfold atP
  rw [if_pos (by omega)]
  exact tP_used (i := 0) (by omega) h
theorem impl_treeOk (x : Value) (vs : List Gv) (w : World) (hs : SlG w x vs) (hf : GsFit vs) :
    Calls Tryz.prog 139 #[x] w fun e w' => e = .returned (.bool (treeB (gsD vs))) ∧ Below w.heap.size w w' := by
  go_enter Tryz.func139, Tryz.ntmps139
  go_wp2_with fail
  refine (treeOf_any x vs w hs hf).mono ?_
  rintro e w1 ⟨⟨ht, rfl⟩ | ⟨ht, nb, mb, Dm, rfl, htr, _⟩, hb1⟩
  · have HT : Hid (treeB (gsD vs) = false) := ht
    clear ht
    simp only []
    go_at_K
    go_wp2_with fail
    refine (at_any _ _ _ _ _).mono ?_
    rw [at_none]
    rintro e w2 ⟨rfl, hb2⟩
    simp only []
    go_at_K
    go_wp2_with fail
    go_ret
    exact ⟨by rw [HT.out]; rfl, hb1.trans (hb2.mono hb1.size)⟩
  · have HT : Hid (treeB (gsD vs) = true) := ht
    clear ht
    have hr := htr.root
    simp only []
    go_at_K
    go_wp2_with fail
    refine (at_any _ _ _ _ _).mono ?_
    rw [at_root nb hr]
    rintro e w2 ⟨rfl, hb2⟩
    simp only []
    go_at_K
    go_wp2_with fail
    go_ret
    exact ⟨by rw [HT.out]; rfl, hb1.trans (hb2.mono hb1.size)⟩
theorem treeTo_place {ds : List Gr} (h : treeTo ds 8 = true) {i : Nat} (h1 : 1 ≤ i) (h8 : i < 8) : placeB ds i = true := by
  cases hp : placeB ds i
  · rw [treeTo_no hp (by omega) 8 h8] at h; cases h
  · rfl
theorem tree_within {ds : List Gr} (ht : treeB ds = true) (h8 : ds.length = 8) (h : Hung ds 8) (hr : usAt ds 0 = true) {i : Nat} (hi : i < 8) (hu : usAt ds i = true) : withinF ds 3 i = true := by
  by_cases h0 : i = 0
  · subst h0; simp [withinF]
  · rw [tree_root (tree_hasroot ht)] at ht
    have hp := treeTo_place ht (i := i) (by omega) hi
    rw [place_used hu, dep_within h8 h hr hi h0 hu] at hp
    simp only [Bool.and_eq_true] at hp
    exact hp.1.2
theorem dep_step {ds : List Gr} (ht : treeB ds = true) (h8 : ds.length = 8) (h : Hung ds 8) (hr : usAt ds 0 = true) {i : Nat} (hi : i < 8) (hu : usAt ds i = true) :
    (i = 0 ∧ depB ds ((0 : Nat) : Int) = 0) ∨ (i ≠ 0 ∧ ∃ j : Nat, paAt ds i = (j : Int) ∧ j < 8 ∧ usAt ds j = true ∧ depB ds (i : Int) = depB ds (j : Int) + 1 ∧ 0 ≤ depB ds (j : Int) ∧ depB ds (i : Int) ≤ 3) := by
  by_cases h0 : i = 0
  · subst h0
    refine .inl ⟨rfl, ?_⟩
    unfold depB
    rw [h8, depF_zero h8 hr]
    rfl
  · obtain ⟨j, hj, hj8, uj⟩ := h.up h8 hi h0 hu
    have hw := tree_within ht h8 h hr hi hu
    have hw2 : withinF ds 2 j = true := by
      unfold withinF at hw
      rw [hj, Int.toNat_natCast] at hw
      simpa [h0] using hw
    obtain ⟨d, hd, _, hf⟩ := within_dep h8 h hr 2 j hj8 uj hw2
    have e1 : depB ds (j : Int) = d := by
      unfold depB
      rw [h8, hf 9 0 (by omega)]
      simp
    have e2 : depB ds (i : Int) = (d : Int) + 1 := by
      unfold depB
      rw [h8, depF_up h8 hi h0 hu hj, hf 8 1 (by omega)]
      omega
    exact .inr ⟨h0, j, hj, hj8, uj, by omega, by omega, by omega⟩
theorem tree_facts {ds : List Gr} (ht : treeB ds = true) : ds.length = 8 ∧ usAt ds 0 = true := by
  have hr := tree_hasroot ht
  rcases root_ways ds with ⟨r1, r⟩ | ⟨r1, r2, r⟩ | ⟨r1, r2, r3, r⟩ | ⟨r1, r2, r3, r4, r⟩ | ⟨r1, r2, r3, r4, r⟩
  all_goals first | (rw [r] at hr; cases hr; done) | exact ⟨r1, r2⟩
theorem tree_hung {ds : List Gr} (ht : treeB ds = true) : Hung ds 8 := by
  obtain ⟨h8, hu0⟩ := tree_facts ht
  rw [tree_root (tree_hasroot ht)] at ht
  intro i h1 hi hu
  have hp := treeTo_place ht h1 hi
  cases hpu : usedB ds (paAt ds i)
  · rw [place_orphan h8 h1 hi hu hpu] at hp; cases hp
  · rw [place_used hu] at hp
    simp only [Bool.and_eq_true, Bool.not_eq_true'] at hp
    exact ⟨rfl, hp.1.1, hp.2⟩
theorem tree_step {ds : List Gr} (ht : treeB ds = true) {i : Nat} (hi : i < 8) (hu : usAt ds i = true) :
    (i = 0 ∧ depB ds ((0 : Nat) : Int) = 0) ∨ (i ≠ 0 ∧ ∃ j : Nat, paAt ds i = (j : Int) ∧ j < 8 ∧ usAt ds j = true ∧ depB ds (i : Int) = depB ds (j : Int) + 1 ∧ 0 ≤ depB ds (j : Int) ∧ depB ds (i : Int) ≤ 3) :=
  dep_step ht (tree_facts ht).1 (tree_hung ht) (tree_facts ht).2 hi hu

end Go.Proofs.YtnmmglkigiakaaaGreat
