/- WorldRoom, the program's and the specification's. -/
import Derived.Test.YthplehohpihfpaaGreatC46
import Derived.Test.YthplehohpihfpaaGreatHQ
namespace Go.Proofs.YthplehohpihfpaaGreat
set_option linter.unusedVariables false
set_option linter.unusedSimpArgs false
open Go.ChangeShapes Go.WideShapes Go.ChangeAt Go.RowKit Go.Shelf Go.Sort
attribute [local go_sem] Oper.semAt_some

def roomS (u : Wv) : Bool := okS u && roomAt u
theorem roomS_iff {u : Wv} : roomS u = true ↔ okS u = true ∧ tkWorld u ∧ upto gvRoom u.gs u.gs.length := by
  unfold roomS
  rw [Bool.and_eq_true, room_iff]
theorem hasRoom_any (pw : Nat) (u : Wv) (w : World) (hA : AtW w pw u) :
    Calls Tryz.prog 42 #[ptr pw] w fun e' w' => e' = .returned (.bool (roomAt u)) ∧ Below w.heap.size w w' := by
  have hL := latest_any pw u w hA
  unfold ptr at hL ⊢
  go_enter Tryz.func42, Tryz.ntmps42
  go_wp2_with (go_at_call 83; refine hL.mono ?_; rintro e1 V1 ⟨⟨x, rfl, hx⟩, hb1⟩)
  have HX : Hid (decide (x ≤ 50000000000000000) = roomAt u) := by
    unfold Hid
    by_cases h : x ≤ 50000000000000000
    · rw [decide_eq_true h, hx.1 h]
    · rw [decide_eq_false h]
      cases hr : roomAt u
      · rfl
      · exact absurd (hx.2 hr) h
  go_ret
  exact ⟨by rw [← HX.out]; rfl, hb1⟩
set_option maxRecDepth 100000 in
set_option maxHeartbeats 16000000 in
theorem implRoom_any (u : Wv) (w : World) (hs : SlW w u) (hf : GsFit u.gs) :
    Calls Tryz.prog 15 #[wvV u] w fun e' w' => e' = .returned (.bool (roomS u)) ∧ Below w.heap.size w w' := by
  obtain ⟨p1, c1, p2, c2, p3, c3, e1, e2, e3, hl1, hl2, hl3⟩ := hs.forms
  have hv : wvV u = .agg #[.int .i64 u.now, .slice p1 u.cs.length c1, .slice p2 u.ts.length c2, .slice p3 u.gs.length c3] := by unfold wvV; rw [e1, e2, e3]
  obtain ⟨W1, hW1⟩ : ∃ W1, w.alloc (.cells #[.int .i64 u.now, .slice p1 u.cs.length c1, .slice p2 u.ts.length c2, .slice p3 u.gs.length c3] 33) = W1 := ⟨_, rfl⟩
  obtain ⟨hA, acc, lw⟩ := boxed_w hs e1 e2 e3 hW1
  obtain ⟨t0, t1, t2, t3⟩ := hA.forms e1 e2 e3
  have HA : Hid (AtW W1 w.heap.size u) := hA
  have HS : Hid (SlW w u) := hs
  obtain ⟨ok, hok⟩ : ∃ b, okS u = b := ⟨_, rfl⟩
  obtain ⟨ro, hro⟩ : ∃ b, roomAt u = b := ⟨_, rfl⟩
  have HR : Hid (roomS u = (ok && ro)) := by unfold Hid roomS; rw [hok, hro]
  have HRO : Hid (roomAt u = ro) := hro
  have accH : Below W1.heap.size W1 W1 := Below.refl _ _
  have hK : ∀ W, SlW W u → Calls Tryz.prog 12 #[wvV u] W fun e' w' => e' = .returned (.bool ok) ∧ Below W.heap.size W w' := fun W h => by rw [← hok]; exact implWorldOk_eq u W h hf
  rw [hv] at hK ⊢
  clear hA hs hf e1 e2 e3 hv hok hro
  cases ok
  · go_enter Tryz.func15, Tryz.ntmps15
    go_wp2_with (go_at_call 12; refine (hK _ (HS.out.below acc)).mono ?_; rintro e1 V1 ⟨rfl, hb1⟩; have t0 := (hb1.cell (p := ⟨w.heap.size, 0, none⟩) lw).trans t0; have t1 := (hb1.cell (p := ⟨w.heap.size, 1, none⟩) lw).trans t1; have t2 := (hb1.cell (p := ⟨w.heap.size, 2, none⟩) lw).trans t2; have t3 := (hb1.cell (p := ⟨w.heap.size, 3, none⟩) lw).trans t3; have lw := Nat.lt_of_lt_of_le lw hb1.size; replace accH := accH.trans (hb1.mono accH.size); replace acc := acc.trans (hb1.mono acc.size); clear hb1)
    go_ret
    exact ⟨by rw [HR.out]; rfl, acc⟩
  · go_enter Tryz.func15, Tryz.ntmps15
    go_wp2_with (first | (go_at_call 12; refine (hK _ (HS.out.below acc)).mono ?_; rintro e1 V1 ⟨rfl, hb1⟩; have t0 := (hb1.cell (p := ⟨w.heap.size, 0, none⟩) lw).trans t0; have t1 := (hb1.cell (p := ⟨w.heap.size, 1, none⟩) lw).trans t1; have t2 := (hb1.cell (p := ⟨w.heap.size, 2, none⟩) lw).trans t2; have t3 := (hb1.cell (p := ⟨w.heap.size, 3, none⟩) lw).trans t3; have lw := Nat.lt_of_lt_of_le lw hb1.size; replace accH := accH.trans (hb1.mono accH.size); replace acc := acc.trans (hb1.mono acc.size); clear hb1) | (go_at_call 42; refine (hasRoom_any w.heap.size u _ (HA.out.below accH)).mono ?_; rintro e1 V1 ⟨rfl, hb1⟩; rw [HRO.out]; have t0 := (hb1.cell (p := ⟨w.heap.size, 0, none⟩) lw).trans t0; have t1 := (hb1.cell (p := ⟨w.heap.size, 1, none⟩) lw).trans t1; have t2 := (hb1.cell (p := ⟨w.heap.size, 2, none⟩) lw).trans t2; have t3 := (hb1.cell (p := ⟨w.heap.size, 3, none⟩) lw).trans t3; have lw := Nat.lt_of_lt_of_le lw hb1.size; replace accH := accH.trans (hb1.mono accH.size); replace acc := acc.trans (hb1.mono acc.size); clear hb1))
    go_ret
    exact ⟨by rw [HR.out]; first | rfl | simp, acc⟩
theorem l8Half_b (n : Int) (w : World) : Calls Tryz.prog 41 #[.int .i64 n] w fun e w' => e = .returned (.bool (halfB n)) ∧ w' = w := l8Half_any n w
set_option maxRecDepth 100000 in
set_option maxHeartbeats 64000000 in
theorem specRoom_any (u : Wv) (w : World) (hs : SlW w u) (hf : GsFit u.gs) :
    Calls Tryz.prog 14 #[wvV u] w fun e' w' => e' = .returned (.bool (roomS u)) ∧ Below w.heap.size w w' := by
  obtain ⟨p1, c1, p2, c2, p3, c3, e1, e2, e3, hl1, hl2, hl3⟩ := hs.forms
  have hv : wvV u = .agg #[.int .i64 u.now, .slice p1 u.cs.length c1, .slice p2 u.ts.length c2, .slice p3 u.gs.length c3] := by unfold wvV; rw [e1, e2, e3]
  obtain ⟨W1, hW1⟩ : ∃ W1, w.alloc (.cells #[.int .i64 u.now, .slice p1 u.cs.length c1, .slice p2 u.ts.length c2, .slice p3 u.gs.length c3] 33) = W1 := ⟨_, rfl⟩
  obtain ⟨hA, acc, lw⟩ := boxed_w hs e1 e2 e3 hW1
  obtain ⟨t0, t1, t2, t3⟩ := hA.forms e1 e2 e3
  have HA : Hid (AtW W1 w.heap.size u) := hA
  have HS : Hid (SlW w u) := hs
  have HE : Hid (u.x = .slice p1 u.cs.length c1 ∧ u.y = .slice p2 u.ts.length c2 ∧ u.z = .slice p3 u.gs.length c3) := ⟨e1, e2, e3⟩
  obtain ⟨ok, hok⟩ : ∃ b, okS u = b := ⟨_, rfl⟩
  have HO : Hid (okS u = ok) := hok
  have accH : Below W1.heap.size W1 W1 := Below.refl _ _
  have hK : ∀ W, SlW W u → Calls Tryz.prog 10 #[wvV u] W fun e' w' => e' = .returned (.bool ok) ∧ Below W.heap.size W w' := fun W h => by rw [← hok]; exact specWorldOk_any u W h hf
  rw [hv] at hK ⊢
  clear hA hs hf e1 e2 e3 hv hok
  cases ok
  · have HR : Hid (roomS u = false) := by unfold Hid roomS; rw [HO.out]; rfl
    go_enter Tryz.func14, Tryz.ntmps14
    go_wp2_with (go_at_call 10; refine (hK _ (HS.out.below acc)).mono ?_; rintro e1 V1 ⟨rfl, hb1⟩; have t0 := (hb1.cell (p := ⟨w.heap.size, 0, none⟩) lw).trans t0; have t1 := (hb1.cell (p := ⟨w.heap.size, 1, none⟩) lw).trans t1; have t2 := (hb1.cell (p := ⟨w.heap.size, 2, none⟩) lw).trans t2; have t3 := (hb1.cell (p := ⟨w.heap.size, 3, none⟩) lw).trans t3; have lw := Nat.lt_of_lt_of_le lw hb1.size; replace accH := accH.trans (hb1.mono accH.size); replace acc := acc.trans (hb1.mono acc.size); clear hb1)
    go_ret
    exact ⟨by rw [HR.out]; rfl, acc⟩
  · cases h0 : halfB u.now
    · have HR : Hid (roomS u = false) := by unfold Hid roomS roomAt; rw [h0]; simp
      go_enter Tryz.func14, Tryz.ntmps14
      go_wp2_with (first | (go_at_call 10; refine (hK _ (HS.out.below acc)).mono ?_; rintro e1 V1 ⟨rfl, hb1⟩; have t0 := (hb1.cell (p := ⟨w.heap.size, 0, none⟩) lw).trans t0; have t1 := (hb1.cell (p := ⟨w.heap.size, 1, none⟩) lw).trans t1; have t2 := (hb1.cell (p := ⟨w.heap.size, 2, none⟩) lw).trans t2; have t3 := (hb1.cell (p := ⟨w.heap.size, 3, none⟩) lw).trans t3; have lw := Nat.lt_of_lt_of_le lw hb1.size; replace accH := accH.trans (hb1.mono accH.size); replace acc := acc.trans (hb1.mono acc.size); clear hb1) | (go_at_call 41; refine (l8Half_b _ _).mono ?_; rintro e1 w1 ⟨rfl, hw1⟩; subst w1; rw [h0]))
      go_ret
      exact ⟨by rw [HR.out]; rfl, acc⟩
    · have HN : Hid (halfB u.now = true) := h0
      go_enter Tryz.func14, Tryz.ntmps14
      have acc1 := acc
      go_wp2_with (first | (go_at_call 10; refine (hK _ (HS.out.below acc)).mono ?_; rintro e1 V1 ⟨rfl, hb1⟩; have t0 := (hb1.cell (p := ⟨w.heap.size, 0, none⟩) lw).trans t0; have t1 := (hb1.cell (p := ⟨w.heap.size, 1, none⟩) lw).trans t1; have t2 := (hb1.cell (p := ⟨w.heap.size, 2, none⟩) lw).trans t2; have t3 := (hb1.cell (p := ⟨w.heap.size, 3, none⟩) lw).trans t3; have lw := Nat.lt_of_lt_of_le lw hb1.size; replace accH := accH.trans (hb1.mono accH.size); replace acc := acc.trans (hb1.mono acc.size); clear hb1) | (go_at_call 41; refine (l8Half_b _ _).mono ?_; rintro e1 w1 ⟨rfl, hw1⟩; subst w1; rw [h0]))
      clear h0 hK
      have acc0 : Hid (Below w.heap.size w W1) := acc1
      have hbH := accH
      clear t0 t1 t2 t3
      obtain ⟨t0, t1, t2, t3⟩ := (HA.out.below accH).forms HE.out.1 HE.out.2.1 HE.out.2.2
      clear hW1 acc acc1 accH
      go_loopw [3] (fun tt wr => ∃ k : Nat, k ≤ u.cs.length ∧ tt = .int .i64 (k : Int) ∧ Below W1.heap.size W1 wr ∧ upto cpRoom u.cs k) (fun tt _ => u.cs.length - (intOf tt).toNat)
      case atStart => exact ⟨0, Nat.zero_le _, rfl, hbH, upto_zero _ _⟩
      case round =>
        obtain ⟨k, hk, rfl, hb, hall⟩ := hrel
        have HALL : Hid (upto cpRoom u.cs k) := hall
        have HW : Hid (Below w.heap.size w wr) := acc0.out.trans (hb.mono acc0.out.size)
        clear hall
        obtain ⟨b0, b1, b2, b3⟩ := (HA.out.below hb).forms HE.out.1 HE.out.2.1 HE.out.2.2
        by_cases hlt : k < u.cs.length
        · have hlt' : (k : Int) < (u.cs.length : Int) := by omega
          obtain ⟨e, he⟩ : ∃ e, u.cs[k]? = some e := ⟨_, List.getElem?_eq_getElem hlt⟩
          have HE2 : Hid (u.cs[k]? = some e) := he
          obtain ⟨tg, to, cap, m2, hr, _, _⟩ := (HA.out.below hb).cellsC he
          rw [b1] at m2
          simp only [Option.some.injEq, Value.slice.injEq] at m2
          obtain ⟨z1, z2, z3⟩ := m2
          clear z2
          subst z1 z3
          obtain ⟨x0, x1, x2, x3, x4⟩ := cp_cells hr
          clear hr he
          cases q0 : halfB e.busy
          · go_wp2_with (go_at_call 41; refine (l8Half_b _ _).mono ?_; rintro e1 w1 ⟨rfl, hw1⟩; subst w1; first | rw [q0])
            go_ret
            have HX : Hid (roomS u = false) := by
              unfold Hid
              rw [← Bool.not_eq_true, roomS_iff]
              rintro ⟨_, hh⟩
              have h9 := (cp_half e).1 (hh.1.1.2 k hlt e HE2.out); simp only [halfB, decide_eq_false_iff_not] at q0; omega
            refine ⟨?_, HW.out⟩
            rw [HX.out]; rfl
          · cases q1 : halfB e.idle
            · go_wp2_with (go_at_call 41; refine (l8Half_b _ _).mono ?_; rintro e1 w1 ⟨rfl, hw1⟩; subst w1; first | rw [q0] | rw [q1])
              go_ret
              have HX : Hid (roomS u = false) := by
                unfold Hid
                rw [← Bool.not_eq_true, roomS_iff]
                rintro ⟨_, hh⟩
                have h9 := (cp_half e).1 (hh.1.1.2 k hlt e HE2.out); simp only [halfB, decide_eq_false_iff_not] at q1; omega
              refine ⟨?_, HW.out⟩
              rw [HX.out]; rfl
            · have NX : upto cpRoom u.cs (k + 1) := (upto_succ HE2.out).2 ⟨HALL.out, (cp_half e).2 (by simp only [halfB, decide_eq_true_eq] at q0 q1; omega)⟩
              have HM : u.cs.length - ((k : Int) + 1).toNat < u.cs.length - (k : Int).toNat := by omega
              go_wp2_with (go_at_call 41; refine (l8Half_b _ _).mono ?_; rintro e1 w1 ⟨rfl, hw1⟩; subst w1; first | rw [q0] | rw [q1])
              first
              | exact ⟨⟨k + 1, hlt, by go_num, hb, NX⟩, HM⟩
              | (refine ⟨?_, HM⟩
                 repeat apply Exists.intro
                 refine ⟨⟨k + 1, hlt, by go_num, hb, NX⟩, rfl⟩)
        · have hlt' : ¬ (k : Int) < (u.cs.length : Int) := by omega
          obtain rfl : k = u.cs.length := by omega
          have HP1 : Hid (upto cpRoom u.cs u.cs.length) := HALL.out
          have hb1 := hb
          clear HALL hlt hlt' hk b0 b1 b2 b3
          obtain ⟨b0, b1, b2, b3⟩ := (HA.out.below hb).forms HE.out.1 HE.out.2.1 HE.out.2.2
          go_wp2
          go_loopw [4] (fun tt wr => ∃ k : Nat, k ≤ u.ts.length ∧ tt = .int .i64 (k : Int) ∧ Below W1.heap.size W1 wr ∧ upto tkRoom u.ts k) (fun tt _ => u.ts.length - (intOf tt).toNat)
          case atStart => exact ⟨0, Nat.zero_le _, rfl, hb1, upto_zero _ _⟩
          case round =>
            obtain ⟨k, hk, rfl, hb, hall⟩ := hrel
            have HALL : Hid (upto tkRoom u.ts k) := hall
            have HW : Hid (Below w.heap.size w wr) := acc0.out.trans (hb.mono acc0.out.size)
            clear hall
            obtain ⟨b0, b1, b2, b3⟩ := (HA.out.below hb).forms HE.out.1 HE.out.2.1 HE.out.2.2
            by_cases hlt : k < u.ts.length
            · have hlt' : (k : Int) < (u.ts.length : Int) := by omega
              obtain ⟨e, he⟩ : ∃ e, u.ts[k]? = some e := ⟨_, List.getElem?_eq_getElem hlt⟩
              have HE2 : Hid (u.ts[k]? = some e) := he
              obtain ⟨tg, to, cap, m2, hr, _, _⟩ := (HA.out.below hb).cellsT he
              rw [b2] at m2
              simp only [Option.some.injEq, Value.slice.injEq] at m2
              obtain ⟨z1, z2, z3⟩ := m2
              clear z2
              subst z1 z3
              obtain ⟨x0, x1, x2, x3, x4, x5, x6, x7, x8⟩ := tk_cells hr
              clear hr he
              cases q0 : halfB e.v
              · go_wp2_with (go_at_call 41; refine (l8Half_b _ _).mono ?_; rintro e1 w1 ⟨rfl, hw1⟩; subst w1; first | rw [q0])
                go_ret
                have HX : Hid (roomS u = false) := by
                  unfold Hid
                  rw [← Bool.not_eq_true, roomS_iff]
                  rintro ⟨_, hh⟩
                  have h9 := (tk_half e).1 (hh.1.2 k hlt e HE2.out); simp only [halfB, decide_eq_false_iff_not] at q0; omega
                refine ⟨?_, HW.out⟩
                rw [HX.out]; rfl
              · cases q1 : halfB e.su
                · go_wp2_with (go_at_call 41; refine (l8Half_b _ _).mono ?_; rintro e1 w1 ⟨rfl, hw1⟩; subst w1; first | rw [q0] | rw [q1])
                  go_ret
                  have HX : Hid (roomS u = false) := by
                    unfold Hid
                    rw [← Bool.not_eq_true, roomS_iff]
                    rintro ⟨_, hh⟩
                    have h9 := (tk_half e).1 (hh.1.2 k hlt e HE2.out); simp only [halfB, decide_eq_false_iff_not] at q1; omega
                  refine ⟨?_, HW.out⟩
                  rw [HX.out]; rfl
                · cases q2 : halfB e.us
                  · go_wp2_with (go_at_call 41; refine (l8Half_b _ _).mono ?_; rintro e1 w1 ⟨rfl, hw1⟩; subst w1; first | rw [q0] | rw [q1] | rw [q2])
                    go_ret
                    have HX : Hid (roomS u = false) := by
                      unfold Hid
                      rw [← Bool.not_eq_true, roomS_iff]
                      rintro ⟨_, hh⟩
                      have h9 := (tk_half e).1 (hh.1.2 k hlt e HE2.out); simp only [halfB, decide_eq_false_iff_not] at q2; omega
                    refine ⟨?_, HW.out⟩
                    rw [HX.out]; rfl
                  · have NX : upto tkRoom u.ts (k + 1) := (upto_succ HE2.out).2 ⟨HALL.out, (tk_half e).2 (by simp only [halfB, decide_eq_true_eq] at q0 q1 q2; omega)⟩
                    have HM : u.ts.length - ((k : Int) + 1).toNat < u.ts.length - (k : Int).toNat := by omega
                    go_wp2_with (go_at_call 41; refine (l8Half_b _ _).mono ?_; rintro e1 w1 ⟨rfl, hw1⟩; subst w1; first | rw [q0] | rw [q1] | rw [q2])
                    first
                    | exact ⟨⟨k + 1, hlt, by go_num, hb, NX⟩, HM⟩
                    | (refine ⟨?_, HM⟩
                       repeat apply Exists.intro
                       refine ⟨⟨k + 1, hlt, by go_num, hb, NX⟩, rfl⟩)
            · have hlt' : ¬ (k : Int) < (u.ts.length : Int) := by omega
              obtain rfl : k = u.ts.length := by omega
              have HP2 : Hid (upto tkRoom u.ts u.ts.length) := HALL.out
              have hb2 := hb
              clear HALL hlt hlt' hk b0 b1 b2 b3
              obtain ⟨b0, b1, b2, b3⟩ := (HA.out.below hb).forms HE.out.1 HE.out.2.1 HE.out.2.2
              go_wp2
              go_loopw [5] (fun tt wr => ∃ k : Nat, k ≤ u.gs.length ∧ tt = .int .i64 (k : Int) ∧ Below W1.heap.size W1 wr ∧ upto gvRoom u.gs k) (fun tt _ => u.gs.length - (intOf tt).toNat)
              case atStart => exact ⟨0, Nat.zero_le _, rfl, hb2, upto_zero _ _⟩
              case round =>
                obtain ⟨k, hk, rfl, hb, hall⟩ := hrel
                obtain ⟨wo, hwo⟩ : ∃ W, W = wr := ⟨_, rfl⟩
                subst hwo
                have HALL : Hid (upto gvRoom u.gs k) := hall
                have HW : Hid (Below w.heap.size w wo) := acc0.out.trans (hb.mono acc0.out.size)
                clear hall
                obtain ⟨b0, b1, b2, b3⟩ := (HA.out.below hb).forms HE.out.1 HE.out.2.1 HE.out.2.2
                by_cases hlt : k < u.gs.length
                · have hlt' : (k : Int) < (u.gs.length : Int) := by omega
                  obtain ⟨e, he⟩ : ∃ e, u.gs[k]? = some e := ⟨_, List.getElem?_eq_getElem hlt⟩
                  have HE2 : Hid (u.gs[k]? = some e) := he
                  obtain ⟨gr, go, cap, m2, hr, _, _⟩ := (HA.out.below hb).cellsG he
                  rw [b3] at m2
                  simp only [Option.some.injEq, Value.slice.injEq] at m2
                  obtain ⟨z1, z2, z3⟩ := m2
                  clear z2
                  subst z1 z3
                  obtain ⟨_, _, _, _, _, _, _, y7, _, _, _, _, _, y13⟩ := gv_cells hr
                  have lgr := block_lt_of_cell y13
                  dsimp only at lgr
                  obtain ⟨pz, cz, hz, hsl, hrow⟩ := row_read ((HA.out.below hb).sh he)
                  rw [hz] at y13
                  have HRS : Hid (∀ (j : Nat) (s : Sh), e.d.sh[j]? = some s → ∃ g o, pz = some ⟨g, o, none⟩ ∧ wo.rangeAt g (o + j * 5) (shC s)) := hrow
                  have HA2 : Hid (AtW wo w.heap.size u) := HA.out.below hb
                  clear hr he hz hrow
                  cases q : halfB e.d.su
                  · go_wp2_with (go_at_call 41; refine (l8Half_b _ _).mono ?_; rintro e1 w1 ⟨rfl, hw1⟩; subst w1; first | rw [q])
                    go_ret
                    have HX : Hid (roomS u = false) := by
                      unfold Hid
                      rw [← Bool.not_eq_true, roomS_iff]
                      rintro ⟨_, hh⟩
                      have h8 := (gr_half e.d).1 (hh.2 k hlt e HE2.out)
                      simp only [halfB, decide_eq_false_iff_not] at q
                      omega
                    refine ⟨?_, HW.out⟩
                    rw [HX.out]; rfl
                  · go_wp2_with (go_at_call 41; refine (l8Half_b _ _).mono ?_; rintro e1 w1 ⟨rfl, hw1⟩; subst w1; first | rw [q])
                    go_loopw [6] (fun tt wr => ∃ j : Nat, j ≤ e.d.sh.length ∧ tt = .int .i64 (j : Int) ∧ Below wo.heap.size wo wr ∧ upto shRoom e.d.sh j) (fun tt _ => e.d.sh.length - (intOf tt).toNat)
                    case atStart => exact ⟨0, Nat.zero_le _, rfl, Below.refl _ _, upto_zero _ _⟩
                    case round =>
                      obtain ⟨j, hj, rfl, hd, hall2⟩ := hrel
                      have HALL2 : Hid (upto shRoom e.d.sh j) := hall2
                      have HW2 : Hid (Below w.heap.size w wr) := HW.out.trans (hd.mono HW.out.size)
                      clear hall2
                      obtain ⟨d0, d1, d2, d3⟩ := (HA2.out.below hd).forms HE.out.1 HE.out.2.1 HE.out.2.2
                      have z13 := (hd.cell (p := ⟨gr, go + k * 14 + 13, none⟩) lgr).trans y13
                      by_cases hlj : j < e.d.sh.length
                      · have hlj' : (j : Int) < (e.d.sh.length : Int) := by omega
                        obtain ⟨s, hs⟩ : ∃ s, e.d.sh[j]? = some s := ⟨_, List.getElem?_eq_getElem hlj⟩
                        have HS2 : Hid (e.d.sh[j]? = some s) := hs
                        obtain ⟨sg, so, hps, hsc⟩ := HRS.out j s hs
                        subst hps
                        obtain ⟨s0, s1, s2, s3, s4⟩ := sh_cells (range_below hsc hd)
                        clear hs hsc
                        cases q0 : halfB s.fl
                        · go_wp2_with (go_at_call 41; refine (l8Half_b _ _).mono ?_; rintro e1 w1 ⟨rfl, hw1⟩; subst w1; first | rw [q0])
                          go_ret
                          have HX : Hid (roomS u = false) := by
                            unfold Hid
                            rw [← Bool.not_eq_true, roomS_iff]
                            rintro ⟨_, hh⟩
                            have h8 := (gr_half e.d).1 (hh.2 k hlt e HE2.out)
                            have h9 := (sh_half s).1 (upto_all.2 h8.2 j hlj s HS2.out)
                            simp only [halfB, decide_eq_false_iff_not] at q0
                            omega
                          refine ⟨?_, HW2.out.alloc HW2.out.size _⟩
                          rw [HX.out]; rfl
                        · cases q1 : halfB s.v
                          · go_wp2_with (go_at_call 41; refine (l8Half_b _ _).mono ?_; rintro e1 w1 ⟨rfl, hw1⟩; subst w1; first | rw [q0] | rw [q1])
                            go_ret
                            have HX : Hid (roomS u = false) := by
                              unfold Hid
                              rw [← Bool.not_eq_true, roomS_iff]
                              rintro ⟨_, hh⟩
                              have h8 := (gr_half e.d).1 (hh.2 k hlt e HE2.out)
                              have h9 := (sh_half s).1 (upto_all.2 h8.2 j hlj s HS2.out)
                              simp only [halfB, decide_eq_false_iff_not] at q1
                              omega
                            refine ⟨?_, HW2.out.alloc HW2.out.size _⟩
                            rw [HX.out]; rfl
                          · cases q2 : halfB s.s
                            · go_wp2_with (go_at_call 41; refine (l8Half_b _ _).mono ?_; rintro e1 w1 ⟨rfl, hw1⟩; subst w1; first | rw [q0] | rw [q1] | rw [q2])
                              go_ret
                              have HX : Hid (roomS u = false) := by
                                unfold Hid
                                rw [← Bool.not_eq_true, roomS_iff]
                                rintro ⟨_, hh⟩
                                have h8 := (gr_half e.d).1 (hh.2 k hlt e HE2.out)
                                have h9 := (sh_half s).1 (upto_all.2 h8.2 j hlj s HS2.out)
                                simp only [halfB, decide_eq_false_iff_not] at q2
                                omega
                              refine ⟨?_, HW2.out.alloc HW2.out.size _⟩
                              rw [HX.out]; rfl
                            · have NX : upto shRoom e.d.sh (j + 1) := (upto_succ HS2.out).2 ⟨HALL2.out, (sh_half s).2 (by simp only [halfB, decide_eq_true_eq] at q0 q1 q2; omega)⟩
                              have HM : e.d.sh.length - ((j : Int) + 1).toNat < e.d.sh.length - (j : Int).toNat := by omega
                              have hdn := hd.alloc hd.size (.cells #[.int .i64 s.fl, .bool s.on, .int .i64 s.v, .int .i64 s.w, .int .i64 s.s] 73)
                              go_wp2_with (go_at_call 41; refine (l8Half_b _ _).mono ?_; rintro e1 w1 ⟨rfl, hw1⟩; subst w1; first | rw [q0] | rw [q1] | rw [q2])
                              first
                              | exact ⟨⟨j + 1, hlj, by go_num, hdn, NX⟩, HM⟩
                              | (refine ⟨?_, HM⟩
                                 repeat apply Exists.intro
                                 refine ⟨⟨j + 1, hlj, by go_num, hdn, NX⟩, rfl⟩)
                      · have hlj' : ¬ (j : Int) < (e.d.sh.length : Int) := by omega
                        obtain rfl : j = e.d.sh.length := by omega
                        have NX : upto gvRoom u.gs (k + 1) := (upto_succ HE2.out).2 ⟨HALL.out, (gr_half e.d).2 ⟨by simp only [halfB, decide_eq_true_eq] at q; exact q, upto_all.1 HALL2.out⟩⟩
                        have hbn := hb.trans (hd.mono hb.size)
                        have HM : u.gs.length - ((k : Int) + 1).toNat < u.gs.length - (k : Int).toNat := by omega
                        go_wp2
                        first
                        | exact ⟨⟨k + 1, hlt, by go_num, hbn, NX⟩, HM⟩
                        | (refine ⟨?_, HM⟩
                           repeat apply Exists.intro
                           refine ⟨⟨k + 1, hlt, by go_num, hbn, NX⟩, rfl⟩)
                · have hlt' : ¬ (k : Int) < (u.gs.length : Int) := by omega
                  obtain rfl : k = u.gs.length := by omega
                  have HX : Hid (roomS u = true) := roomS_iff.2 ⟨HO.out, ⟨⟨by have := HN.out; simp only [halfB, decide_eq_true_eq] at this; exact this, HP1.out⟩, HP2.out⟩, HALL.out⟩
                  go_wp2
                  go_ret
                  exact ⟨by rw [HX.out]; rfl, HW.out⟩
end Go.Proofs.YthplehohpihfpaaGreat
