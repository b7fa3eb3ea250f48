/- The program: whether a task is ok. -/
import Derived.Test.YtnmmglkigiakaaaGreatC24
import Derived.Test.YtnmmglkigiakaaaGreatC25
namespace Go.Proofs.YtnmmglkigiakaaaGreat
set_option linter.unusedVariables false
set_option linter.unusedSimpArgs false
open Go.ChangeShapes Go.WideShapes Go.ChangeAt Go.RowKit Go.Shelf Go.Sort
attribute [local go_sem] Oper.semAt_some

def zeroTB (t : Tk) : Bool := decide (t.gr = 0) && (decide (t.cpu = 0) && (decide (t.ni = 0) && (decide (t.ma = 0) && (decide (t.v = 0) && (decide (t.su = 0) && (decide (t.us = 0) && decide (t.lo = 0)))))))
def whereB (u : Wv) (t : Tk) : Bool := Msk.hasB (whereM u.cs (gsD u.gs) t.gr.toNat t.ma) t.cpu
def taskOkB (u : Wv) (t : Tk) : Bool :=
  if t.st = 0 then zeroTB t
  else (decide (t.st = 1) || decide (t.st = 2)) && (usedB (gsD u.gs) t.gr && (numB t && (whereB u t && (decide (t.st = 2) || taskWellB (gsD u.gs) t))))
theorem num_set {t : Tk} (h : numB t = true) : SetIn t.ma := by
  unfold numB at h
  simp only [Bool.and_eq_true] at h
  have h2 := h.2.1
  unfold setB at h2
  rw [Bool.and_eq_true] at h2
  exact l1in_iff.1 h2.2

set_option maxRecDepth 100000 in
set_option maxHeartbeats 16000000 in
theorem taskOk_none (pw k : Nat) (u : Wv) (t : Tk) (w : World) (hA : AtW w pw u) (hF : Fit u) (hC : CpIn (gsD u.gs)) (ht : u.ts[k]? = some t) (hst : t.st = 0) :
    Calls Tryz.prog 111 #[ptr pw, .int .i64 (k : Int)] w fun e w' => e = .returned (.bool (taskOkB u t)) ∧ Below w.heap.size w w' := by
  obtain ⟨tg, to, cap, m2, hr, hkl, hlen⟩ := hA.cellsT ht
  obtain ⟨x0, x1, x2, x3, x4, x5, x6, x7, x8⟩ := tk_cells hr
  obtain ⟨st, gr, cpu, ni, ma, v, su, us, lo⟩ := t
  dsimp only at hst x0 x1 x2 x3 x4 x5 x6 x7 x8 ⊢
  unfold ptr
  clear hr
  subst hst
  obtain ⟨W1, hW1⟩ : ∃ W1, w.alloc (.cells #[.int .i64 0, .int .i64 gr, .int .i64 cpu, .int .i64 ni, .int .i64 ma, .int .i64 v, .int .i64 su, .int .i64 us, .int .i64 lo] 68) = W1 := ⟨_, rfl⟩
  obtain ⟨B1, l1, hrg⟩ := boxed_task hW1
  have n0 : W1.cell? ⟨w.heap.size, 0, none⟩ = some (.int .i64 0) := hrg 0 _ rfl
  have n1 : W1.cell? ⟨w.heap.size, 1, none⟩ = some (.int .i64 gr) := hrg 1 _ rfl
  have n2 : W1.cell? ⟨w.heap.size, 2, none⟩ = some (.int .i64 cpu) := hrg 2 _ rfl
  have n3 : W1.cell? ⟨w.heap.size, 3, none⟩ = some (.int .i64 ni) := hrg 3 _ rfl
  have n4 : W1.cell? ⟨w.heap.size, 4, none⟩ = some (.int .i64 ma) := hrg 4 _ rfl
  have n5 : W1.cell? ⟨w.heap.size, 5, none⟩ = some (.int .i64 v) := hrg 5 _ rfl
  have n6 : W1.cell? ⟨w.heap.size, 6, none⟩ = some (.int .i64 su) := hrg 6 _ rfl
  have n7 : W1.cell? ⟨w.heap.size, 7, none⟩ = some (.int .i64 us) := hrg 7 _ rfl
  have n8 : W1.cell? ⟨w.heap.size, 8, none⟩ = some (.int .i64 lo) := hrg 8 _ rfl
  have acc : Below w.heap.size w W1 := B1
  have lV := l1
  clear hrg
  clear hA hF hC ht
  by_cases h0 : gr = 0
  · subst h0
    by_cases h1 : cpu = 0
    · subst h1
      by_cases h2 : ni = 0
      · subst h2
        by_cases h3 : ma = 0
        · subst h3
          by_cases h4 : v = 0
          · subst h4
            by_cases h5 : su = 0
            · subst h5
              by_cases h6 : us = 0
              · subst h6
                by_cases h7 : lo = 0
                · subst h7
                  have HR : Hid (taskOkB u ⟨0, 0, 0, 0, 0, 0, 0, 0, 0⟩ = true) := by unfold Hid; simp [taskOkB, zeroTB]
                  subst hW1
                  clear n0 n1 n2 n3 n4 n5 n6 n7 n8 l1 lV B1
                  go_enter Tryz.func111, Tryz.ntmps111
                  go_wp2
                  go_ret
                  refine ⟨?_, acc⟩
                  first | exact ret_bool HR.out.symm | (rw [HR.out]; simp []; done)
                · have HR : Hid (taskOkB u ⟨0, 0, 0, 0, 0, 0, 0, 0, lo⟩ = false) := by unfold Hid; simp [taskOkB, zeroTB, h7]
                  subst hW1
                  clear n0 n1 n2 n3 n4 n5 n6 n7 n8 l1 lV B1
                  go_enter Tryz.func111, Tryz.ntmps111
                  go_wp2
                  go_ret
                  refine ⟨?_, acc⟩
                  first | exact ret_bool HR.out.symm | (rw [HR.out]; simp [h7]; done)
              · have HR : Hid (taskOkB u ⟨0, 0, 0, 0, 0, 0, 0, us, lo⟩ = false) := by unfold Hid; simp [taskOkB, zeroTB, h6]
                subst hW1
                clear n0 n1 n2 n3 n4 n5 n6 n7 n8 l1 lV B1
                go_enter Tryz.func111, Tryz.ntmps111
                go_wp2
                go_ret
                refine ⟨?_, acc⟩
                first | exact ret_bool HR.out.symm | (rw [HR.out]; simp [h6]; done)
            · have HR : Hid (taskOkB u ⟨0, 0, 0, 0, 0, 0, su, us, lo⟩ = false) := by unfold Hid; simp [taskOkB, zeroTB, h5]
              subst hW1
              clear n0 n1 n2 n3 n4 n5 n6 n7 n8 l1 lV B1
              go_enter Tryz.func111, Tryz.ntmps111
              go_wp2
              go_ret
              refine ⟨?_, acc⟩
              first | exact ret_bool HR.out.symm | (rw [HR.out]; simp [h5]; done)
          · have HR : Hid (taskOkB u ⟨0, 0, 0, 0, 0, v, su, us, lo⟩ = false) := by unfold Hid; simp [taskOkB, zeroTB, h4]
            subst hW1
            clear n0 n1 n2 n3 n4 n5 n6 n7 n8 l1 lV B1
            go_enter Tryz.func111, Tryz.ntmps111
            go_wp2
            go_ret
            refine ⟨?_, acc⟩
            first | exact ret_bool HR.out.symm | (rw [HR.out]; simp [h4]; done)
        · have HR : Hid (taskOkB u ⟨0, 0, 0, 0, ma, v, su, us, lo⟩ = false) := by unfold Hid; simp [taskOkB, zeroTB, h3]
          subst hW1
          clear n0 n1 n2 n3 n4 n5 n6 n7 n8 l1 lV B1
          go_enter Tryz.func111, Tryz.ntmps111
          go_wp2
          go_ret
          refine ⟨?_, acc⟩
          first | exact ret_bool HR.out.symm | (rw [HR.out]; simp [h3]; done)
      · have HR : Hid (taskOkB u ⟨0, 0, 0, ni, ma, v, su, us, lo⟩ = false) := by unfold Hid; simp [taskOkB, zeroTB, h2]
        subst hW1
        clear n0 n1 n2 n3 n4 n5 n6 n7 n8 l1 lV B1
        go_enter Tryz.func111, Tryz.ntmps111
        go_wp2
        go_ret
        refine ⟨?_, acc⟩
        first | exact ret_bool HR.out.symm | (rw [HR.out]; simp [h2]; done)
    · have HR : Hid (taskOkB u ⟨0, 0, cpu, ni, ma, v, su, us, lo⟩ = false) := by unfold Hid; simp [taskOkB, zeroTB, h1]
      subst hW1
      clear n0 n1 n2 n3 n4 n5 n6 n7 n8 l1 lV B1
      go_enter Tryz.func111, Tryz.ntmps111
      go_wp2
      go_ret
      refine ⟨?_, acc⟩
      first | exact ret_bool HR.out.symm | (rw [HR.out]; simp [h1]; done)
  · have HR : Hid (taskOkB u ⟨0, gr, cpu, ni, ma, v, su, us, lo⟩ = false) := by unfold Hid; simp [taskOkB, zeroTB, h0]
    subst hW1
    clear n0 n1 n2 n3 n4 n5 n6 n7 n8 l1 lV B1
    go_enter Tryz.func111, Tryz.ntmps111
    go_wp2
    go_ret
    refine ⟨?_, acc⟩
    first | exact ret_bool HR.out.symm | (rw [HR.out]; simp [h0]; done)
set_option maxRecDepth 100000 in
set_option maxHeartbeats 16000000 in
theorem taskOk_odd (pw k : Nat) (u : Wv) (t : Tk) (w : World) (hA : AtW w pw u) (hF : Fit u) (hC : CpIn (gsD u.gs)) (ht : u.ts[k]? = some t) (hst : t.st ≠ 0 ∧ t.st ≠ 1 ∧ t.st ≠ 2) :
    Calls Tryz.prog 111 #[ptr pw, .int .i64 (k : Int)] w fun e w' => e = .returned (.bool (taskOkB u t)) ∧ Below w.heap.size w w' := by
  obtain ⟨tg, to, cap, m2, hr, hkl, hlen⟩ := hA.cellsT ht
  obtain ⟨x0, x1, x2, x3, x4, x5, x6, x7, x8⟩ := tk_cells hr
  obtain ⟨st, gr, cpu, ni, ma, v, su, us, lo⟩ := t
  dsimp only at hst x0 x1 x2 x3 x4 x5 x6 x7 x8 ⊢
  unfold ptr
  clear hr
  obtain ⟨s0, s1, s2⟩ := hst
  obtain ⟨W1, hW1⟩ : ∃ W1, w.alloc (.cells #[.int .i64 st, .int .i64 gr, .int .i64 cpu, .int .i64 ni, .int .i64 ma, .int .i64 v, .int .i64 su, .int .i64 us, .int .i64 lo] 68) = W1 := ⟨_, rfl⟩
  obtain ⟨B1, l1, hrg⟩ := boxed_task hW1
  have n0 : W1.cell? ⟨w.heap.size, 0, none⟩ = some (.int .i64 st) := hrg 0 _ rfl
  have n1 : W1.cell? ⟨w.heap.size, 1, none⟩ = some (.int .i64 gr) := hrg 1 _ rfl
  have n2 : W1.cell? ⟨w.heap.size, 2, none⟩ = some (.int .i64 cpu) := hrg 2 _ rfl
  have n3 : W1.cell? ⟨w.heap.size, 3, none⟩ = some (.int .i64 ni) := hrg 3 _ rfl
  have n4 : W1.cell? ⟨w.heap.size, 4, none⟩ = some (.int .i64 ma) := hrg 4 _ rfl
  have n5 : W1.cell? ⟨w.heap.size, 5, none⟩ = some (.int .i64 v) := hrg 5 _ rfl
  have n6 : W1.cell? ⟨w.heap.size, 6, none⟩ = some (.int .i64 su) := hrg 6 _ rfl
  have n7 : W1.cell? ⟨w.heap.size, 7, none⟩ = some (.int .i64 us) := hrg 7 _ rfl
  have n8 : W1.cell? ⟨w.heap.size, 8, none⟩ = some (.int .i64 lo) := hrg 8 _ rfl
  have acc : Below w.heap.size w W1 := B1
  have lV := l1
  clear hrg
  have HR : Hid (taskOkB u ⟨st, gr, cpu, ni, ma, v, su, us, lo⟩ = false) := by unfold Hid taskOkB; simp [s0, s1, s2]
  clear hA hF hC ht
  go_enter Tryz.func111, Tryz.ntmps111
  go_wp2
  go_ret
  exact ⟨by rw [HR.out]; rfl, acc⟩
set_option maxRecDepth 100000 in
set_option maxHeartbeats 16000000 in
theorem taskOk1_nogroup (pw k : Nat) (u : Wv) (t : Tk) (w : World) (hA : AtW w pw u) (hF : Fit u) (hC : CpIn (gsD u.gs)) (ht : u.ts[k]? = some t) (hst : t.st = 1) (hu : usedB (gsD u.gs) t.gr = false) :
    Calls Tryz.prog 111 #[ptr pw, .int .i64 (k : Int)] w fun e w' => e = .returned (.bool (taskOkB u t)) ∧ Below w.heap.size w w' := by
  obtain ⟨tg, to, cap, m2, hr, hkl, hlen⟩ := hA.cellsT ht
  obtain ⟨x0, x1, x2, x3, x4, x5, x6, x7, x8⟩ := tk_cells hr
  obtain ⟨st, gr, cpu, ni, ma, v, su, us, lo⟩ := t
  dsimp only at hst x0 x1 x2 x3 x4 x5 x6 x7 x8 ⊢
  unfold ptr
  clear hr
  subst hst
  dsimp only at hu
  obtain ⟨W1, hW1⟩ : ∃ W1, w.alloc (.cells #[.int .i64 1, .int .i64 gr, .int .i64 cpu, .int .i64 ni, .int .i64 ma, .int .i64 v, .int .i64 su, .int .i64 us, .int .i64 lo] 68) = W1 := ⟨_, rfl⟩
  obtain ⟨B1, l1, hrg⟩ := boxed_task hW1
  have n0 : W1.cell? ⟨w.heap.size, 0, none⟩ = some (.int .i64 1) := hrg 0 _ rfl
  have n1 : W1.cell? ⟨w.heap.size, 1, none⟩ = some (.int .i64 gr) := hrg 1 _ rfl
  have n2 : W1.cell? ⟨w.heap.size, 2, none⟩ = some (.int .i64 cpu) := hrg 2 _ rfl
  have n3 : W1.cell? ⟨w.heap.size, 3, none⟩ = some (.int .i64 ni) := hrg 3 _ rfl
  have n4 : W1.cell? ⟨w.heap.size, 4, none⟩ = some (.int .i64 ma) := hrg 4 _ rfl
  have n5 : W1.cell? ⟨w.heap.size, 5, none⟩ = some (.int .i64 v) := hrg 5 _ rfl
  have n6 : W1.cell? ⟨w.heap.size, 6, none⟩ = some (.int .i64 su) := hrg 6 _ rfl
  have n7 : W1.cell? ⟨w.heap.size, 7, none⟩ = some (.int .i64 us) := hrg 7 _ rfl
  have n8 : W1.cell? ⟨w.heap.size, 8, none⟩ = some (.int .i64 lo) := hrg 8 _ rfl
  have acc : Below w.heap.size w W1 := B1
  have lV := l1
  clear hrg
  have HR : Hid (taskOkB u ⟨1, gr, cpu, ni, ma, v, su, us, lo⟩ = false) := by unfold Hid taskOkB; simp [hu]
  have HA : Hid (AtW w pw u) := hA
  have HU : Hid (usedB (gsD u.gs) gr = false) := hu
  clear hA hF hC ht hu
  go_enter Tryz.func111, Tryz.ntmps111
  go_wp2_with (go_at_call 57; refine (hasGroup_any pw _ u _ (HA.out.below acc)).mono ?_; rintro e1 w1 ⟨rfl, rfl⟩; rw [HU.out])
  go_ret
  exact ⟨by rw [HR.out]; rfl, acc⟩
set_option maxRecDepth 100000 in
set_option maxHeartbeats 16000000 in
theorem taskOk1_nonum (pw k : Nat) (u : Wv) (t : Tk) (w : World) (hA : AtW w pw u) (hF : Fit u) (hC : CpIn (gsD u.gs)) (ht : u.ts[k]? = some t) (hst : t.st = 1) (hu : usedB (gsD u.gs) t.gr = true) (hn : numB t = false) :
    Calls Tryz.prog 111 #[ptr pw, .int .i64 (k : Int)] w fun e w' => e = .returned (.bool (taskOkB u t)) ∧ Below w.heap.size w w' := by
  obtain ⟨tg, to, cap, m2, hr, hkl, hlen⟩ := hA.cellsT ht
  obtain ⟨x0, x1, x2, x3, x4, x5, x6, x7, x8⟩ := tk_cells hr
  obtain ⟨st, gr, cpu, ni, ma, v, su, us, lo⟩ := t
  dsimp only at hst x0 x1 x2 x3 x4 x5 x6 x7 x8 ⊢
  unfold ptr
  clear hr
  subst hst
  dsimp only at hu
  obtain ⟨W1, hW1⟩ : ∃ W1, w.alloc (.cells #[.int .i64 1, .int .i64 gr, .int .i64 cpu, .int .i64 ni, .int .i64 ma, .int .i64 v, .int .i64 su, .int .i64 us, .int .i64 lo] 68) = W1 := ⟨_, rfl⟩
  obtain ⟨B1, l1, hrg⟩ := boxed_task hW1
  have n0 : W1.cell? ⟨w.heap.size, 0, none⟩ = some (.int .i64 1) := hrg 0 _ rfl
  have n1 : W1.cell? ⟨w.heap.size, 1, none⟩ = some (.int .i64 gr) := hrg 1 _ rfl
  have n2 : W1.cell? ⟨w.heap.size, 2, none⟩ = some (.int .i64 cpu) := hrg 2 _ rfl
  have n3 : W1.cell? ⟨w.heap.size, 3, none⟩ = some (.int .i64 ni) := hrg 3 _ rfl
  have n4 : W1.cell? ⟨w.heap.size, 4, none⟩ = some (.int .i64 ma) := hrg 4 _ rfl
  have n5 : W1.cell? ⟨w.heap.size, 5, none⟩ = some (.int .i64 v) := hrg 5 _ rfl
  have n6 : W1.cell? ⟨w.heap.size, 6, none⟩ = some (.int .i64 su) := hrg 6 _ rfl
  have n7 : W1.cell? ⟨w.heap.size, 7, none⟩ = some (.int .i64 us) := hrg 7 _ rfl
  have n8 : W1.cell? ⟨w.heap.size, 8, none⟩ = some (.int .i64 lo) := hrg 8 _ rfl
  have acc : Below w.heap.size w W1 := B1
  have lV := l1
  clear hrg
  have HR : Hid (taskOkB u ⟨1, gr, cpu, ni, ma, v, su, us, lo⟩ = false) := by unfold Hid taskOkB; simp [hu, hn]
  have HA : Hid (AtW w pw u) := hA
  have HU : Hid (usedB (gsD u.gs) gr = true) := hu
  have HM : Hid (numB ⟨1, gr, cpu, ni, ma, v, su, us, lo⟩ = false) := hn
  clear hA hF hC ht hu hn
  go_enter Tryz.func111, Tryz.ntmps111
  go_wp2_with (first | (go_at_call 57; refine (hasGroup_any pw _ u _ (HA.out.below acc)).mono ?_; rintro e1 w1 ⟨rfl, rfl⟩; rw [HU.out]) | (go_at_call 145; refine (hasNumbers_any ⟨1, gr, cpu, ni, ma, v, su, us, lo⟩ _).mono ?_; rintro e1 V ⟨rfl, hb1⟩; rw [HM.out]; have n0 := (hb1.cell (p := ⟨w.heap.size, 0, none⟩) lV).trans n0; have n1 := (hb1.cell (p := ⟨w.heap.size, 1, none⟩) lV).trans n1; have n2 := (hb1.cell (p := ⟨w.heap.size, 2, none⟩) lV).trans n2; have n3 := (hb1.cell (p := ⟨w.heap.size, 3, none⟩) lV).trans n3; have n4 := (hb1.cell (p := ⟨w.heap.size, 4, none⟩) lV).trans n4; have n5 := (hb1.cell (p := ⟨w.heap.size, 5, none⟩) lV).trans n5; have n6 := (hb1.cell (p := ⟨w.heap.size, 6, none⟩) lV).trans n6; have n7 := (hb1.cell (p := ⟨w.heap.size, 7, none⟩) lV).trans n7; have n8 := (hb1.cell (p := ⟨w.heap.size, 8, none⟩) lV).trans n8; replace acc := acc.trans (hb1.mono acc.size); have lV := Nat.lt_of_lt_of_le lV hb1.size; clear hb1))
  go_ret
  exact ⟨by rw [HR.out]; rfl, acc⟩
set_option maxRecDepth 100000 in
set_option maxHeartbeats 16000000 in
theorem taskOk1_nowhere (pw k : Nat) (u : Wv) (t : Tk) (w : World) (hA : AtW w pw u) (hF : Fit u) (hC : CpIn (gsD u.gs)) (ht : u.ts[k]? = some t) (hst : t.st = 1) (hu : usedB (gsD u.gs) t.gr = true) (hn : numB t = true) (hw : whereB u t = false) :
    Calls Tryz.prog 111 #[ptr pw, .int .i64 (k : Int)] w fun e w' => e = .returned (.bool (taskOkB u t)) ∧ Below w.heap.size w w' := by
  obtain ⟨tg, to, cap, m2, hr, hkl, hlen⟩ := hA.cellsT ht
  obtain ⟨x0, x1, x2, x3, x4, x5, x6, x7, x8⟩ := tk_cells hr
  obtain ⟨st, gr, cpu, ni, ma, v, su, us, lo⟩ := t
  dsimp only at hst x0 x1 x2 x3 x4 x5 x6 x7 x8 ⊢
  unfold ptr
  clear hr
  subst hst
  obtain ⟨g, hgr, hgl, hug⟩ := usedB_yes hu
  dsimp only at hgr hu
  subst hgr
  have hg : g < 8 := by have := hF.g8; rw [gsD_length] at hgl; omega
  have hma := num_set hn
  dsimp only at hma
  have hW := (where_eq hF.n4 hF.tree hC hg hug hma).2.1
  have hh : Msk.hasB (whereM u.cs (gsD u.gs) g ma) cpu = false := hw
  obtain ⟨W1, hW1⟩ : ∃ W1, w.alloc (.cells #[.int .i64 1, .int .i64 (g : Int), .int .i64 cpu, .int .i64 ni, .int .i64 ma, .int .i64 v, .int .i64 su, .int .i64 us, .int .i64 lo] 68) = W1 := ⟨_, rfl⟩
  obtain ⟨B1, l1, hrg⟩ := boxed_task hW1
  have n0 : W1.cell? ⟨w.heap.size, 0, none⟩ = some (.int .i64 1) := hrg 0 _ rfl
  have n1 : W1.cell? ⟨w.heap.size, 1, none⟩ = some (.int .i64 (g : Int)) := hrg 1 _ rfl
  have n2 : W1.cell? ⟨w.heap.size, 2, none⟩ = some (.int .i64 cpu) := hrg 2 _ rfl
  have n3 : W1.cell? ⟨w.heap.size, 3, none⟩ = some (.int .i64 ni) := hrg 3 _ rfl
  have n4 : W1.cell? ⟨w.heap.size, 4, none⟩ = some (.int .i64 ma) := hrg 4 _ rfl
  have n5 : W1.cell? ⟨w.heap.size, 5, none⟩ = some (.int .i64 v) := hrg 5 _ rfl
  have n6 : W1.cell? ⟨w.heap.size, 6, none⟩ = some (.int .i64 su) := hrg 6 _ rfl
  have n7 : W1.cell? ⟨w.heap.size, 7, none⟩ = some (.int .i64 us) := hrg 7 _ rfl
  have n8 : W1.cell? ⟨w.heap.size, 8, none⟩ = some (.int .i64 lo) := hrg 8 _ rfl
  have acc : Below w.heap.size w W1 := B1
  have lV := l1
  clear hrg
  have HR : Hid (taskOkB u ⟨1, (g : Int), cpu, ni, ma, v, su, us, lo⟩ = false) := by unfold Hid taskOkB; simp [hw]
  have HA : Hid (AtW w pw u) := hA
  have HU : Hid (usedB (gsD u.gs) (g : Int) = true) := hu
  have HM : Hid (numB ⟨1, (g : Int), cpu, ni, ma, v, su, us, lo⟩ = true) := hn
  clear hA ht hu hn hw
  go_enter Tryz.func111, Tryz.ntmps111
  go_wp2_with (first | (go_at_call 57; refine (hasGroup_any pw _ u _ (HA.out.below acc)).mono ?_; rintro e1 w1 ⟨rfl, rfl⟩; rw [HU.out]) | (go_at_call 145; refine (hasNumbers_any ⟨1, (g : Int), cpu, ni, ma, v, su, us, lo⟩ _).mono ?_; rintro e1 V ⟨rfl, hb1⟩; rw [HM.out]; have n0 := (hb1.cell (p := ⟨w.heap.size, 0, none⟩) lV).trans n0; have n1 := (hb1.cell (p := ⟨w.heap.size, 1, none⟩) lV).trans n1; have n2 := (hb1.cell (p := ⟨w.heap.size, 2, none⟩) lV).trans n2; have n3 := (hb1.cell (p := ⟨w.heap.size, 3, none⟩) lV).trans n3; have n4 := (hb1.cell (p := ⟨w.heap.size, 4, none⟩) lV).trans n4; have n5 := (hb1.cell (p := ⟨w.heap.size, 5, none⟩) lV).trans n5; have n6 := (hb1.cell (p := ⟨w.heap.size, 6, none⟩) lV).trans n6; have n7 := (hb1.cell (p := ⟨w.heap.size, 7, none⟩) lV).trans n7; have n8 := (hb1.cell (p := ⟨w.heap.size, 8, none⟩) lV).trans n8; replace acc := acc.trans (hb1.mono acc.size); have lV := Nat.lt_of_lt_of_le lV hb1.size; clear hb1))
  have hAV := HA.out.below acc
  have cW : ∀ d os, Calls Tryz.prog 146 #[.pointer (some ⟨pw, 0, none⟩), .agg #[.int .i64 1, .int .i64 (g : Int), .int .i64 cpu, .int .i64 ni, .int .i64 ma, .int .i64 v, .int .i64 su, .int .i64 us, .int .i64 lo]] (grow (redrawn V d) os) fun e' w'' => e' = .returned (.int .i64 (whereM u.cs (gsD u.gs) g ma)) ∧ ∃ p : Regrown, w'' = grow (redrawn V p.d) p.os := fun d os =>
    Calls.regrown_of (whereOf_any pw g ⟨1, (g : Int), cpu, ni, ma, v, su, us, lo⟩ u _ (hAV.below (below_regrown V d os)) hF.n4 hF.tree hg hug rfl)
  have cS : ∀ d os, Calls Tryz.prog 47 #[.int .i64 (whereM u.cs (gsD u.gs) g ma), .int .i64 cpu] (grow (redrawn V d) os) fun e' w'' => e' = .returned (.bool false) ∧ ∃ p : Regrown, w'' = grow (redrawn V p.d) p.os := fun d os => by
    have h0 := Msk.set_has (whereM u.cs (gsD u.gs) g ma) cpu (grow (redrawn V d) os) hW.1 hW.2
    rw [hh] at h0
    exact Calls.regrown_of (h0.mono fun e' w' h => ⟨h.1, h.2 ▸ Below.refl _ _⟩)
  have k0 := cell_regrown n0
  have k1 := cell_regrown n1
  have k2 := cell_regrown n2
  have k3 := cell_regrown n3
  have k4 := cell_regrown n4
  have k5 := cell_regrown n5
  have k6 := cell_regrown n6
  have k7 := cell_regrown n7
  have k8 := cell_regrown n8
  refine wp_region_quiet_below (by kernel_rfl) (by kernel_rfl) ?_
  clear hAV
  repeat (go_big_quiet_step (first | exact cW _ _ | exact cS _ _))
  refine wpQuiet_nil ?_
  rintro _ ⟨⟨dq, osq⟩, rfl⟩
  clear cW cS k0 k1 k2 k3 k4 k5 k6 k7 k8
  go_wp2
  go_ret
  exact ⟨by rw [HR.out]; rfl, acc.trans ((below_regrown V dq osq).mono acc.size)⟩
set_option maxRecDepth 100000 in
set_option maxHeartbeats 16000000 in
theorem taskOk1_there (pw k : Nat) (u : Wv) (t : Tk) (w : World) (hA : AtW w pw u) (hF : Fit u) (hC : CpIn (gsD u.gs)) (ht : u.ts[k]? = some t) (hst : t.st = 1) (hu : usedB (gsD u.gs) t.gr = true) (hn : numB t = true) (hw : whereB u t = true) :
    Calls Tryz.prog 111 #[ptr pw, .int .i64 (k : Int)] w fun e w' => e = .returned (.bool (taskOkB u t)) ∧ Below w.heap.size w w' := by
  obtain ⟨tg, to, cap, m2, hr, hkl, hlen⟩ := hA.cellsT ht
  obtain ⟨x0, x1, x2, x3, x4, x5, x6, x7, x8⟩ := tk_cells hr
  obtain ⟨st, gr, cpu, ni, ma, v, su, us, lo⟩ := t
  dsimp only at hst x0 x1 x2 x3 x4 x5 x6 x7 x8 ⊢
  unfold ptr
  clear hr
  subst hst
  obtain ⟨g, hgr, hgl, hug⟩ := usedB_yes hu
  dsimp only at hgr hu
  subst hgr
  have hg : g < 8 := by have := hF.g8; rw [gsD_length] at hgl; omega
  have hma := num_set hn
  dsimp only at hma
  have hW := (where_eq hF.n4 hF.tree hC hg hug hma).2.1
  have hh : Msk.hasB (whereM u.cs (gsD u.gs) g ma) cpu = true := hw
  obtain ⟨c, hc, rfl⟩ := where_at hF.n4 hF.tree hC hg hug hma hh
  obtain ⟨W1, hW1⟩ : ∃ W1, w.alloc (.cells #[.int .i64 1, .int .i64 (g : Int), .int .i64 (c : Int), .int .i64 ni, .int .i64 ma, .int .i64 v, .int .i64 su, .int .i64 us, .int .i64 lo] 68) = W1 := ⟨_, rfl⟩
  obtain ⟨B1, l1, hrg⟩ := boxed_task hW1
  have n0 : W1.cell? ⟨w.heap.size, 0, none⟩ = some (.int .i64 1) := hrg 0 _ rfl
  have n1 : W1.cell? ⟨w.heap.size, 1, none⟩ = some (.int .i64 (g : Int)) := hrg 1 _ rfl
  have n2 : W1.cell? ⟨w.heap.size, 2, none⟩ = some (.int .i64 (c : Int)) := hrg 2 _ rfl
  have n3 : W1.cell? ⟨w.heap.size, 3, none⟩ = some (.int .i64 ni) := hrg 3 _ rfl
  have n4 : W1.cell? ⟨w.heap.size, 4, none⟩ = some (.int .i64 ma) := hrg 4 _ rfl
  have n5 : W1.cell? ⟨w.heap.size, 5, none⟩ = some (.int .i64 v) := hrg 5 _ rfl
  have n6 : W1.cell? ⟨w.heap.size, 6, none⟩ = some (.int .i64 su) := hrg 6 _ rfl
  have n7 : W1.cell? ⟨w.heap.size, 7, none⟩ = some (.int .i64 us) := hrg 7 _ rfl
  have n8 : W1.cell? ⟨w.heap.size, 8, none⟩ = some (.int .i64 lo) := hrg 8 _ rfl
  have acc : Below w.heap.size w W1 := B1
  have lV := l1
  clear hrg
  have HR : Hid (taskOkB u ⟨1, (g : Int), (c : Int), ni, ma, v, su, us, lo⟩ = taskWellB (gsD u.gs) ⟨1, (g : Int), (c : Int), ni, ma, v, su, us, lo⟩) := by unfold Hid taskOkB; rw [hu, hn, hw]; simp
  have HA : Hid (AtW w pw u) := hA
  have HU : Hid (usedB (gsD u.gs) (g : Int) = true) := hu
  have HM : Hid (numB ⟨1, (g : Int), (c : Int), ni, ma, v, su, us, lo⟩ = true) := hn
  clear hA ht hu hn hw
  go_enter Tryz.func111, Tryz.ntmps111
  go_wp2_with (first | (go_at_call 57; refine (hasGroup_any pw _ u _ (HA.out.below acc)).mono ?_; rintro e1 w1 ⟨rfl, rfl⟩; rw [HU.out]) | (go_at_call 145; refine (hasNumbers_any ⟨1, (g : Int), (c : Int), ni, ma, v, su, us, lo⟩ _).mono ?_; rintro e1 V ⟨rfl, hb1⟩; rw [HM.out]; have n0 := (hb1.cell (p := ⟨w.heap.size, 0, none⟩) lV).trans n0; have n1 := (hb1.cell (p := ⟨w.heap.size, 1, none⟩) lV).trans n1; have n2 := (hb1.cell (p := ⟨w.heap.size, 2, none⟩) lV).trans n2; have n3 := (hb1.cell (p := ⟨w.heap.size, 3, none⟩) lV).trans n3; have n4 := (hb1.cell (p := ⟨w.heap.size, 4, none⟩) lV).trans n4; have n5 := (hb1.cell (p := ⟨w.heap.size, 5, none⟩) lV).trans n5; have n6 := (hb1.cell (p := ⟨w.heap.size, 6, none⟩) lV).trans n6; have n7 := (hb1.cell (p := ⟨w.heap.size, 7, none⟩) lV).trans n7; have n8 := (hb1.cell (p := ⟨w.heap.size, 8, none⟩) lV).trans n8; replace acc := acc.trans (hb1.mono acc.size); have lV := Nat.lt_of_lt_of_le lV hb1.size; clear hb1))
  have hAV := HA.out.below acc
  have cW : ∀ d os, Calls Tryz.prog 146 #[.pointer (some ⟨pw, 0, none⟩), .agg #[.int .i64 1, .int .i64 (g : Int), .int .i64 (c : Int), .int .i64 ni, .int .i64 ma, .int .i64 v, .int .i64 su, .int .i64 us, .int .i64 lo]] (grow (redrawn V d) os) fun e' w'' => e' = .returned (.int .i64 (whereM u.cs (gsD u.gs) g ma)) ∧ ∃ p : Regrown, w'' = grow (redrawn V p.d) p.os := fun d os =>
    Calls.regrown_of (whereOf_any pw g ⟨1, (g : Int), (c : Int), ni, ma, v, su, us, lo⟩ u _ (hAV.below (below_regrown V d os)) hF.n4 hF.tree hg hug rfl)
  have cS : ∀ d os, Calls Tryz.prog 47 #[.int .i64 (whereM u.cs (gsD u.gs) g ma), .int .i64 (c : Int)] (grow (redrawn V d) os) fun e' w'' => e' = .returned (.bool true) ∧ ∃ p : Regrown, w'' = grow (redrawn V p.d) p.os := fun d os => by
    have h0 := Msk.set_has (whereM u.cs (gsD u.gs) g ma) (c : Int) (grow (redrawn V d) os) hW.1 hW.2
    rw [hh] at h0
    exact Calls.regrown_of (h0.mono fun e' w' h => ⟨h.1, h.2 ▸ Below.refl _ _⟩)
  have k0 := cell_regrown n0
  have k1 := cell_regrown n1
  have k2 := cell_regrown n2
  have k3 := cell_regrown n3
  have k4 := cell_regrown n4
  have k5 := cell_regrown n5
  have k6 := cell_regrown n6
  have k7 := cell_regrown n7
  have k8 := cell_regrown n8
  refine wp_region_quiet_below (by kernel_rfl) (by kernel_rfl) ?_
  clear hAV
  repeat (go_big_quiet_step (first | exact cW _ _ | exact cS _ _))
  refine wpQuiet_nil ?_
  rintro _ ⟨⟨dq, osq⟩, rfl⟩
  clear cW cS k0 k1 k2 k3 k4 k5 k6 k7 k8
  obtain ⟨V2, hV2⟩ : ∃ V2, grow (redrawn V dq) osq = V2 := ⟨_, rfl⟩
  have hb1 : Below V.heap.size V V2 := by rw [← hV2]; exact below_regrown _ _ _
  rw [hV2]
  clear hV2
  replace n0 := (hb1.cell (p := ⟨w.heap.size, 0, none⟩) lV).trans n0
  replace n1 := (hb1.cell (p := ⟨w.heap.size, 1, none⟩) lV).trans n1
  replace n2 := (hb1.cell (p := ⟨w.heap.size, 2, none⟩) lV).trans n2
  replace n3 := (hb1.cell (p := ⟨w.heap.size, 3, none⟩) lV).trans n3
  replace n4 := (hb1.cell (p := ⟨w.heap.size, 4, none⟩) lV).trans n4
  replace n5 := (hb1.cell (p := ⟨w.heap.size, 5, none⟩) lV).trans n5
  replace n6 := (hb1.cell (p := ⟨w.heap.size, 6, none⟩) lV).trans n6
  replace n7 := (hb1.cell (p := ⟨w.heap.size, 7, none⟩) lV).trans n7
  replace n8 := (hb1.cell (p := ⟨w.heap.size, 8, none⟩) lV).trans n8
  have acc2 := acc.trans (hb1.mono acc.size)
  have cQ : ∀ d os, Calls Tryz.prog 58 #[.pointer (some ⟨pw, 0, none⟩), .int .i64 (c : Int)] (grow (redrawn V2 d) os) fun e' w'' => e' = .returned (.agg #[.pointer (some ⟨pw, 0, none⟩), .int .i64 (c : Int)]) ∧ ∃ p : Regrown, w'' = grow (redrawn V2 p.d) p.os := fun d os => Calls.regrown_of (mk_queues pw (c : Int) _)
  have hAV2 := HA.out.below acc2
  have cT : ∀ d os, Calls Tryz.prog 147 #[.agg #[.pointer (some ⟨pw, 0, none⟩), .int .i64 (c : Int)], .agg #[.int .i64 1, .int .i64 (g : Int), .int .i64 (c : Int), .int .i64 ni, .int .i64 ma, .int .i64 v, .int .i64 su, .int .i64 us, .int .i64 lo], .int .i64 149] (grow (redrawn V2 d) os) fun e' w'' => e' = .returned (.bool (taskWellB (gsD u.gs) ⟨1, (g : Int), (c : Int), ni, ma, v, su, us, lo⟩)) ∧ ∃ p : Regrown, w'' = grow (redrawn V2 p.d) p.os := fun d os => by
    obtain ⟨eg, zg, zo, zc, heg, _, hz, hsg, hrow⟩ := (hAV2.below (below_regrown V2 d os)).group (k := g) (by rw [hF.g8]; exact hg) hug (hF.ok hc)
    exact Calls.regrown_of (taskWithin_any pw c g 149 ⟨1, (g : Int), (c : Int), ni, ma, v, su, us, lo⟩ u eg _ _ (hAV2.below (below_regrown V2 d os)) heg hsg rfl)
  have k0 := cell_regrown n0
  have k1 := cell_regrown n1
  have k2 := cell_regrown n2
  have k3 := cell_regrown n3
  have k4 := cell_regrown n4
  have k5 := cell_regrown n5
  have k6 := cell_regrown n6
  have k7 := cell_regrown n7
  have k8 := cell_regrown n8
  go_wp2
  refine wp_region_quiet_below (by kernel_rfl) (by kernel_rfl) ?_
  clear hW1
  repeat (go_big_quiet_step (first | exact cQ _ _ | exact cT _ _))
  refine wpQuiet_nil ?_
  rintro _ ⟨⟨dq, osq⟩, rfl⟩
  go_wp2
  go_ret
  exact ⟨by rw [HR.out]; rfl, acc2.trans ((below_regrown V2 dq osq).mono acc2.size)⟩
set_option maxRecDepth 100000 in
set_option maxHeartbeats 16000000 in
theorem taskOk2_nogroup (pw k : Nat) (u : Wv) (t : Tk) (w : World) (hA : AtW w pw u) (hF : Fit u) (hC : CpIn (gsD u.gs)) (ht : u.ts[k]? = some t) (hst : t.st = 2) (hu : usedB (gsD u.gs) t.gr = false) :
    Calls Tryz.prog 111 #[ptr pw, .int .i64 (k : Int)] w fun e w' => e = .returned (.bool (taskOkB u t)) ∧ Below w.heap.size w w' := by
  obtain ⟨tg, to, cap, m2, hr, hkl, hlen⟩ := hA.cellsT ht
  obtain ⟨x0, x1, x2, x3, x4, x5, x6, x7, x8⟩ := tk_cells hr
  obtain ⟨st, gr, cpu, ni, ma, v, su, us, lo⟩ := t
  dsimp only at hst x0 x1 x2 x3 x4 x5 x6 x7 x8 ⊢
  unfold ptr
  clear hr
  subst hst
  dsimp only at hu
  obtain ⟨W1, hW1⟩ : ∃ W1, w.alloc (.cells #[.int .i64 2, .int .i64 gr, .int .i64 cpu, .int .i64 ni, .int .i64 ma, .int .i64 v, .int .i64 su, .int .i64 us, .int .i64 lo] 68) = W1 := ⟨_, rfl⟩
  obtain ⟨B1, l1, hrg⟩ := boxed_task hW1
  have n0 : W1.cell? ⟨w.heap.size, 0, none⟩ = some (.int .i64 2) := hrg 0 _ rfl
  have n1 : W1.cell? ⟨w.heap.size, 1, none⟩ = some (.int .i64 gr) := hrg 1 _ rfl
  have n2 : W1.cell? ⟨w.heap.size, 2, none⟩ = some (.int .i64 cpu) := hrg 2 _ rfl
  have n3 : W1.cell? ⟨w.heap.size, 3, none⟩ = some (.int .i64 ni) := hrg 3 _ rfl
  have n4 : W1.cell? ⟨w.heap.size, 4, none⟩ = some (.int .i64 ma) := hrg 4 _ rfl
  have n5 : W1.cell? ⟨w.heap.size, 5, none⟩ = some (.int .i64 v) := hrg 5 _ rfl
  have n6 : W1.cell? ⟨w.heap.size, 6, none⟩ = some (.int .i64 su) := hrg 6 _ rfl
  have n7 : W1.cell? ⟨w.heap.size, 7, none⟩ = some (.int .i64 us) := hrg 7 _ rfl
  have n8 : W1.cell? ⟨w.heap.size, 8, none⟩ = some (.int .i64 lo) := hrg 8 _ rfl
  have acc : Below w.heap.size w W1 := B1
  have lV := l1
  clear hrg
  have HR : Hid (taskOkB u ⟨2, gr, cpu, ni, ma, v, su, us, lo⟩ = false) := by unfold Hid taskOkB; simp [hu]
  have HA : Hid (AtW w pw u) := hA
  have HU : Hid (usedB (gsD u.gs) gr = false) := hu
  clear hA hF hC ht hu
  go_enter Tryz.func111, Tryz.ntmps111
  go_wp2_with (go_at_call 57; refine (hasGroup_any pw _ u _ (HA.out.below acc)).mono ?_; rintro e1 w1 ⟨rfl, rfl⟩; rw [HU.out])
  go_ret
  exact ⟨by rw [HR.out]; rfl, acc⟩
set_option maxRecDepth 100000 in
set_option maxHeartbeats 16000000 in
theorem taskOk2_nonum (pw k : Nat) (u : Wv) (t : Tk) (w : World) (hA : AtW w pw u) (hF : Fit u) (hC : CpIn (gsD u.gs)) (ht : u.ts[k]? = some t) (hst : t.st = 2) (hu : usedB (gsD u.gs) t.gr = true) (hn : numB t = false) :
    Calls Tryz.prog 111 #[ptr pw, .int .i64 (k : Int)] w fun e w' => e = .returned (.bool (taskOkB u t)) ∧ Below w.heap.size w w' := by
  obtain ⟨tg, to, cap, m2, hr, hkl, hlen⟩ := hA.cellsT ht
  obtain ⟨x0, x1, x2, x3, x4, x5, x6, x7, x8⟩ := tk_cells hr
  obtain ⟨st, gr, cpu, ni, ma, v, su, us, lo⟩ := t
  dsimp only at hst x0 x1 x2 x3 x4 x5 x6 x7 x8 ⊢
  unfold ptr
  clear hr
  subst hst
  dsimp only at hu
  obtain ⟨W1, hW1⟩ : ∃ W1, w.alloc (.cells #[.int .i64 2, .int .i64 gr, .int .i64 cpu, .int .i64 ni, .int .i64 ma, .int .i64 v, .int .i64 su, .int .i64 us, .int .i64 lo] 68) = W1 := ⟨_, rfl⟩
  obtain ⟨B1, l1, hrg⟩ := boxed_task hW1
  have n0 : W1.cell? ⟨w.heap.size, 0, none⟩ = some (.int .i64 2) := hrg 0 _ rfl
  have n1 : W1.cell? ⟨w.heap.size, 1, none⟩ = some (.int .i64 gr) := hrg 1 _ rfl
  have n2 : W1.cell? ⟨w.heap.size, 2, none⟩ = some (.int .i64 cpu) := hrg 2 _ rfl
  have n3 : W1.cell? ⟨w.heap.size, 3, none⟩ = some (.int .i64 ni) := hrg 3 _ rfl
  have n4 : W1.cell? ⟨w.heap.size, 4, none⟩ = some (.int .i64 ma) := hrg 4 _ rfl
  have n5 : W1.cell? ⟨w.heap.size, 5, none⟩ = some (.int .i64 v) := hrg 5 _ rfl
  have n6 : W1.cell? ⟨w.heap.size, 6, none⟩ = some (.int .i64 su) := hrg 6 _ rfl
  have n7 : W1.cell? ⟨w.heap.size, 7, none⟩ = some (.int .i64 us) := hrg 7 _ rfl
  have n8 : W1.cell? ⟨w.heap.size, 8, none⟩ = some (.int .i64 lo) := hrg 8 _ rfl
  have acc : Below w.heap.size w W1 := B1
  have lV := l1
  clear hrg
  have HR : Hid (taskOkB u ⟨2, gr, cpu, ni, ma, v, su, us, lo⟩ = false) := by unfold Hid taskOkB; simp [hu, hn]
  have HA : Hid (AtW w pw u) := hA
  have HU : Hid (usedB (gsD u.gs) gr = true) := hu
  have HM : Hid (numB ⟨2, gr, cpu, ni, ma, v, su, us, lo⟩ = false) := hn
  clear hA hF hC ht hu hn
  go_enter Tryz.func111, Tryz.ntmps111
  go_wp2_with (first | (go_at_call 57; refine (hasGroup_any pw _ u _ (HA.out.below acc)).mono ?_; rintro e1 w1 ⟨rfl, rfl⟩; rw [HU.out]) | (go_at_call 145; refine (hasNumbers_any ⟨2, gr, cpu, ni, ma, v, su, us, lo⟩ _).mono ?_; rintro e1 V ⟨rfl, hb1⟩; rw [HM.out]; have n0 := (hb1.cell (p := ⟨w.heap.size, 0, none⟩) lV).trans n0; have n1 := (hb1.cell (p := ⟨w.heap.size, 1, none⟩) lV).trans n1; have n2 := (hb1.cell (p := ⟨w.heap.size, 2, none⟩) lV).trans n2; have n3 := (hb1.cell (p := ⟨w.heap.size, 3, none⟩) lV).trans n3; have n4 := (hb1.cell (p := ⟨w.heap.size, 4, none⟩) lV).trans n4; have n5 := (hb1.cell (p := ⟨w.heap.size, 5, none⟩) lV).trans n5; have n6 := (hb1.cell (p := ⟨w.heap.size, 6, none⟩) lV).trans n6; have n7 := (hb1.cell (p := ⟨w.heap.size, 7, none⟩) lV).trans n7; have n8 := (hb1.cell (p := ⟨w.heap.size, 8, none⟩) lV).trans n8; replace acc := acc.trans (hb1.mono acc.size); have lV := Nat.lt_of_lt_of_le lV hb1.size; clear hb1))
  go_ret
  exact ⟨by rw [HR.out]; rfl, acc⟩
set_option maxRecDepth 100000 in
set_option maxHeartbeats 16000000 in
theorem taskOk2_nowhere (pw k : Nat) (u : Wv) (t : Tk) (w : World) (hA : AtW w pw u) (hF : Fit u) (hC : CpIn (gsD u.gs)) (ht : u.ts[k]? = some t) (hst : t.st = 2) (hu : usedB (gsD u.gs) t.gr = true) (hn : numB t = true) (hw : whereB u t = false) :
    Calls Tryz.prog 111 #[ptr pw, .int .i64 (k : Int)] w fun e w' => e = .returned (.bool (taskOkB u t)) ∧ Below w.heap.size w w' := by
  obtain ⟨tg, to, cap, m2, hr, hkl, hlen⟩ := hA.cellsT ht
  obtain ⟨x0, x1, x2, x3, x4, x5, x6, x7, x8⟩ := tk_cells hr
  obtain ⟨st, gr, cpu, ni, ma, v, su, us, lo⟩ := t
  dsimp only at hst x0 x1 x2 x3 x4 x5 x6 x7 x8 ⊢
  unfold ptr
  clear hr
  subst hst
  obtain ⟨g, hgr, hgl, hug⟩ := usedB_yes hu
  dsimp only at hgr hu
  subst hgr
  have hg : g < 8 := by have := hF.g8; rw [gsD_length] at hgl; omega
  have hma := num_set hn
  dsimp only at hma
  have hW := (where_eq hF.n4 hF.tree hC hg hug hma).2.1
  have hh : Msk.hasB (whereM u.cs (gsD u.gs) g ma) cpu = false := hw
  obtain ⟨W1, hW1⟩ : ∃ W1, w.alloc (.cells #[.int .i64 2, .int .i64 (g : Int), .int .i64 cpu, .int .i64 ni, .int .i64 ma, .int .i64 v, .int .i64 su, .int .i64 us, .int .i64 lo] 68) = W1 := ⟨_, rfl⟩
  obtain ⟨B1, l1, hrg⟩ := boxed_task hW1
  have n0 : W1.cell? ⟨w.heap.size, 0, none⟩ = some (.int .i64 2) := hrg 0 _ rfl
  have n1 : W1.cell? ⟨w.heap.size, 1, none⟩ = some (.int .i64 (g : Int)) := hrg 1 _ rfl
  have n2 : W1.cell? ⟨w.heap.size, 2, none⟩ = some (.int .i64 cpu) := hrg 2 _ rfl
  have n3 : W1.cell? ⟨w.heap.size, 3, none⟩ = some (.int .i64 ni) := hrg 3 _ rfl
  have n4 : W1.cell? ⟨w.heap.size, 4, none⟩ = some (.int .i64 ma) := hrg 4 _ rfl
  have n5 : W1.cell? ⟨w.heap.size, 5, none⟩ = some (.int .i64 v) := hrg 5 _ rfl
  have n6 : W1.cell? ⟨w.heap.size, 6, none⟩ = some (.int .i64 su) := hrg 6 _ rfl
  have n7 : W1.cell? ⟨w.heap.size, 7, none⟩ = some (.int .i64 us) := hrg 7 _ rfl
  have n8 : W1.cell? ⟨w.heap.size, 8, none⟩ = some (.int .i64 lo) := hrg 8 _ rfl
  have acc : Below w.heap.size w W1 := B1
  have lV := l1
  clear hrg
  have HR : Hid (taskOkB u ⟨2, (g : Int), cpu, ni, ma, v, su, us, lo⟩ = false) := by unfold Hid taskOkB; simp [hw]
  have HA : Hid (AtW w pw u) := hA
  have HU : Hid (usedB (gsD u.gs) (g : Int) = true) := hu
  have HM : Hid (numB ⟨2, (g : Int), cpu, ni, ma, v, su, us, lo⟩ = true) := hn
  clear hA ht hu hn hw
  go_enter Tryz.func111, Tryz.ntmps111
  go_wp2_with (first | (go_at_call 57; refine (hasGroup_any pw _ u _ (HA.out.below acc)).mono ?_; rintro e1 w1 ⟨rfl, rfl⟩; rw [HU.out]) | (go_at_call 145; refine (hasNumbers_any ⟨2, (g : Int), cpu, ni, ma, v, su, us, lo⟩ _).mono ?_; rintro e1 V ⟨rfl, hb1⟩; rw [HM.out]; have n0 := (hb1.cell (p := ⟨w.heap.size, 0, none⟩) lV).trans n0; have n1 := (hb1.cell (p := ⟨w.heap.size, 1, none⟩) lV).trans n1; have n2 := (hb1.cell (p := ⟨w.heap.size, 2, none⟩) lV).trans n2; have n3 := (hb1.cell (p := ⟨w.heap.size, 3, none⟩) lV).trans n3; have n4 := (hb1.cell (p := ⟨w.heap.size, 4, none⟩) lV).trans n4; have n5 := (hb1.cell (p := ⟨w.heap.size, 5, none⟩) lV).trans n5; have n6 := (hb1.cell (p := ⟨w.heap.size, 6, none⟩) lV).trans n6; have n7 := (hb1.cell (p := ⟨w.heap.size, 7, none⟩) lV).trans n7; have n8 := (hb1.cell (p := ⟨w.heap.size, 8, none⟩) lV).trans n8; replace acc := acc.trans (hb1.mono acc.size); have lV := Nat.lt_of_lt_of_le lV hb1.size; clear hb1))
  have hAV := HA.out.below acc
  have cW : ∀ d os, Calls Tryz.prog 146 #[.pointer (some ⟨pw, 0, none⟩), .agg #[.int .i64 2, .int .i64 (g : Int), .int .i64 cpu, .int .i64 ni, .int .i64 ma, .int .i64 v, .int .i64 su, .int .i64 us, .int .i64 lo]] (grow (redrawn V d) os) fun e' w'' => e' = .returned (.int .i64 (whereM u.cs (gsD u.gs) g ma)) ∧ ∃ p : Regrown, w'' = grow (redrawn V p.d) p.os := fun d os =>
    Calls.regrown_of (whereOf_any pw g ⟨2, (g : Int), cpu, ni, ma, v, su, us, lo⟩ u _ (hAV.below (below_regrown V d os)) hF.n4 hF.tree hg hug rfl)
  have cS : ∀ d os, Calls Tryz.prog 47 #[.int .i64 (whereM u.cs (gsD u.gs) g ma), .int .i64 cpu] (grow (redrawn V d) os) fun e' w'' => e' = .returned (.bool false) ∧ ∃ p : Regrown, w'' = grow (redrawn V p.d) p.os := fun d os => by
    have h0 := Msk.set_has (whereM u.cs (gsD u.gs) g ma) cpu (grow (redrawn V d) os) hW.1 hW.2
    rw [hh] at h0
    exact Calls.regrown_of (h0.mono fun e' w' h => ⟨h.1, h.2 ▸ Below.refl _ _⟩)
  have k0 := cell_regrown n0
  have k1 := cell_regrown n1
  have k2 := cell_regrown n2
  have k3 := cell_regrown n3
  have k4 := cell_regrown n4
  have k5 := cell_regrown n5
  have k6 := cell_regrown n6
  have k7 := cell_regrown n7
  have k8 := cell_regrown n8
  refine wp_region_quiet_below (by kernel_rfl) (by kernel_rfl) ?_
  clear hAV
  repeat (go_big_quiet_step (first | exact cW _ _ | exact cS _ _))
  refine wpQuiet_nil ?_
  rintro _ ⟨⟨dq, osq⟩, rfl⟩
  clear cW cS k0 k1 k2 k3 k4 k5 k6 k7 k8
  go_wp2
  go_ret
  exact ⟨by rw [HR.out]; rfl, acc.trans ((below_regrown V dq osq).mono acc.size)⟩
set_option maxRecDepth 100000 in
set_option maxHeartbeats 16000000 in
theorem taskOk2_there (pw k : Nat) (u : Wv) (t : Tk) (w : World) (hA : AtW w pw u) (hF : Fit u) (hC : CpIn (gsD u.gs)) (ht : u.ts[k]? = some t) (hst : t.st = 2) (hu : usedB (gsD u.gs) t.gr = true) (hn : numB t = true) (hw : whereB u t = true) :
    Calls Tryz.prog 111 #[ptr pw, .int .i64 (k : Int)] w fun e w' => e = .returned (.bool (taskOkB u t)) ∧ Below w.heap.size w w' := by
  obtain ⟨tg, to, cap, m2, hr, hkl, hlen⟩ := hA.cellsT ht
  obtain ⟨x0, x1, x2, x3, x4, x5, x6, x7, x8⟩ := tk_cells hr
  obtain ⟨st, gr, cpu, ni, ma, v, su, us, lo⟩ := t
  dsimp only at hst x0 x1 x2 x3 x4 x5 x6 x7 x8 ⊢
  unfold ptr
  clear hr
  subst hst
  obtain ⟨g, hgr, hgl, hug⟩ := usedB_yes hu
  dsimp only at hgr hu
  subst hgr
  have hg : g < 8 := by have := hF.g8; rw [gsD_length] at hgl; omega
  have hma := num_set hn
  dsimp only at hma
  have hW := (where_eq hF.n4 hF.tree hC hg hug hma).2.1
  have hh : Msk.hasB (whereM u.cs (gsD u.gs) g ma) cpu = true := hw
  obtain ⟨c, hc, rfl⟩ := where_at hF.n4 hF.tree hC hg hug hma hh
  obtain ⟨W1, hW1⟩ : ∃ W1, w.alloc (.cells #[.int .i64 2, .int .i64 (g : Int), .int .i64 (c : Int), .int .i64 ni, .int .i64 ma, .int .i64 v, .int .i64 su, .int .i64 us, .int .i64 lo] 68) = W1 := ⟨_, rfl⟩
  obtain ⟨B1, l1, hrg⟩ := boxed_task hW1
  have n0 : W1.cell? ⟨w.heap.size, 0, none⟩ = some (.int .i64 2) := hrg 0 _ rfl
  have n1 : W1.cell? ⟨w.heap.size, 1, none⟩ = some (.int .i64 (g : Int)) := hrg 1 _ rfl
  have n2 : W1.cell? ⟨w.heap.size, 2, none⟩ = some (.int .i64 (c : Int)) := hrg 2 _ rfl
  have n3 : W1.cell? ⟨w.heap.size, 3, none⟩ = some (.int .i64 ni) := hrg 3 _ rfl
  have n4 : W1.cell? ⟨w.heap.size, 4, none⟩ = some (.int .i64 ma) := hrg 4 _ rfl
  have n5 : W1.cell? ⟨w.heap.size, 5, none⟩ = some (.int .i64 v) := hrg 5 _ rfl
  have n6 : W1.cell? ⟨w.heap.size, 6, none⟩ = some (.int .i64 su) := hrg 6 _ rfl
  have n7 : W1.cell? ⟨w.heap.size, 7, none⟩ = some (.int .i64 us) := hrg 7 _ rfl
  have n8 : W1.cell? ⟨w.heap.size, 8, none⟩ = some (.int .i64 lo) := hrg 8 _ rfl
  have acc : Below w.heap.size w W1 := B1
  have lV := l1
  clear hrg
  have HR : Hid (taskOkB u ⟨2, (g : Int), (c : Int), ni, ma, v, su, us, lo⟩ = true) := by unfold Hid taskOkB; rw [hu, hn, hw]; simp
  have HA : Hid (AtW w pw u) := hA
  have HU : Hid (usedB (gsD u.gs) (g : Int) = true) := hu
  have HM : Hid (numB ⟨2, (g : Int), (c : Int), ni, ma, v, su, us, lo⟩ = true) := hn
  clear hA ht hu hn hw
  go_enter Tryz.func111, Tryz.ntmps111
  go_wp2_with (first | (go_at_call 57; refine (hasGroup_any pw _ u _ (HA.out.below acc)).mono ?_; rintro e1 w1 ⟨rfl, rfl⟩; rw [HU.out]) | (go_at_call 145; refine (hasNumbers_any ⟨2, (g : Int), (c : Int), ni, ma, v, su, us, lo⟩ _).mono ?_; rintro e1 V ⟨rfl, hb1⟩; rw [HM.out]; have n0 := (hb1.cell (p := ⟨w.heap.size, 0, none⟩) lV).trans n0; have n1 := (hb1.cell (p := ⟨w.heap.size, 1, none⟩) lV).trans n1; have n2 := (hb1.cell (p := ⟨w.heap.size, 2, none⟩) lV).trans n2; have n3 := (hb1.cell (p := ⟨w.heap.size, 3, none⟩) lV).trans n3; have n4 := (hb1.cell (p := ⟨w.heap.size, 4, none⟩) lV).trans n4; have n5 := (hb1.cell (p := ⟨w.heap.size, 5, none⟩) lV).trans n5; have n6 := (hb1.cell (p := ⟨w.heap.size, 6, none⟩) lV).trans n6; have n7 := (hb1.cell (p := ⟨w.heap.size, 7, none⟩) lV).trans n7; have n8 := (hb1.cell (p := ⟨w.heap.size, 8, none⟩) lV).trans n8; replace acc := acc.trans (hb1.mono acc.size); have lV := Nat.lt_of_lt_of_le lV hb1.size; clear hb1))
  have hAV := HA.out.below acc
  have cW : ∀ d os, Calls Tryz.prog 146 #[.pointer (some ⟨pw, 0, none⟩), .agg #[.int .i64 2, .int .i64 (g : Int), .int .i64 (c : Int), .int .i64 ni, .int .i64 ma, .int .i64 v, .int .i64 su, .int .i64 us, .int .i64 lo]] (grow (redrawn V d) os) fun e' w'' => e' = .returned (.int .i64 (whereM u.cs (gsD u.gs) g ma)) ∧ ∃ p : Regrown, w'' = grow (redrawn V p.d) p.os := fun d os =>
    Calls.regrown_of (whereOf_any pw g ⟨2, (g : Int), (c : Int), ni, ma, v, su, us, lo⟩ u _ (hAV.below (below_regrown V d os)) hF.n4 hF.tree hg hug rfl)
  have cS : ∀ d os, Calls Tryz.prog 47 #[.int .i64 (whereM u.cs (gsD u.gs) g ma), .int .i64 (c : Int)] (grow (redrawn V d) os) fun e' w'' => e' = .returned (.bool true) ∧ ∃ p : Regrown, w'' = grow (redrawn V p.d) p.os := fun d os => by
    have h0 := Msk.set_has (whereM u.cs (gsD u.gs) g ma) (c : Int) (grow (redrawn V d) os) hW.1 hW.2
    rw [hh] at h0
    exact Calls.regrown_of (h0.mono fun e' w' h => ⟨h.1, h.2 ▸ Below.refl _ _⟩)
  have k0 := cell_regrown n0
  have k1 := cell_regrown n1
  have k2 := cell_regrown n2
  have k3 := cell_regrown n3
  have k4 := cell_regrown n4
  have k5 := cell_regrown n5
  have k6 := cell_regrown n6
  have k7 := cell_regrown n7
  have k8 := cell_regrown n8
  refine wp_region_quiet_below (by kernel_rfl) (by kernel_rfl) ?_
  clear hAV
  repeat (go_big_quiet_step (first | exact cW _ _ | exact cS _ _))
  refine wpQuiet_nil ?_
  rintro _ ⟨⟨dq, osq⟩, rfl⟩
  clear cW cS k0 k1 k2 k3 k4 k5 k6 k7 k8
  obtain ⟨V2, hV2⟩ : ∃ V2, grow (redrawn V dq) osq = V2 := ⟨_, rfl⟩
  have hb1 : Below V.heap.size V V2 := by rw [← hV2]; exact below_regrown _ _ _
  rw [hV2]
  clear hV2
  replace n0 := (hb1.cell (p := ⟨w.heap.size, 0, none⟩) lV).trans n0
  replace n1 := (hb1.cell (p := ⟨w.heap.size, 1, none⟩) lV).trans n1
  replace n2 := (hb1.cell (p := ⟨w.heap.size, 2, none⟩) lV).trans n2
  replace n3 := (hb1.cell (p := ⟨w.heap.size, 3, none⟩) lV).trans n3
  replace n4 := (hb1.cell (p := ⟨w.heap.size, 4, none⟩) lV).trans n4
  replace n5 := (hb1.cell (p := ⟨w.heap.size, 5, none⟩) lV).trans n5
  replace n6 := (hb1.cell (p := ⟨w.heap.size, 6, none⟩) lV).trans n6
  replace n7 := (hb1.cell (p := ⟨w.heap.size, 7, none⟩) lV).trans n7
  replace n8 := (hb1.cell (p := ⟨w.heap.size, 8, none⟩) lV).trans n8
  have acc2 := acc.trans (hb1.mono acc.size)
  have k0 := cell_regrown n0
  have k1 := cell_regrown n1
  have k2 := cell_regrown n2
  have k3 := cell_regrown n3
  have k4 := cell_regrown n4
  have k5 := cell_regrown n5
  have k6 := cell_regrown n6
  have k7 := cell_regrown n7
  have k8 := cell_regrown n8
  go_wp2
  refine wp_region_quiet_below (by kernel_rfl) (by kernel_rfl) ?_
  clear hW1
  repeat (go_big_quiet_step (fail))
  refine wpQuiet_nil ?_
  rintro _ ⟨⟨dq, osq⟩, rfl⟩
  go_wp2
  go_ret
  exact ⟨by rw [HR.out]; rfl, acc2.trans ((below_regrown V2 dq osq).mono acc2.size)⟩
theorem isTaskOk_any (pw k : Nat) (u : Wv) (t : Tk) (w : World) (hA : AtW w pw u) (hF : Fit u) (hC : CpIn (gsD u.gs)) (ht : u.ts[k]? = some t) :
    Calls Tryz.prog 111 #[ptr pw, .int .i64 (k : Int)] w fun e w' => e = .returned (.bool (taskOkB u t)) ∧ Below w.heap.size w w' := by
  by_cases s0 : t.st = 0
  · exact taskOk_none pw k u t w hA hF hC ht s0
  by_cases s1 : t.st = 1
  · cases hu : usedB (gsD u.gs) t.gr
    · exact taskOk1_nogroup pw k u t w hA hF hC ht s1 hu
    · cases hn : numB t
      · exact taskOk1_nonum pw k u t w hA hF hC ht s1 hu hn
      · cases hw : whereB u t
        · exact taskOk1_nowhere pw k u t w hA hF hC ht s1 hu hn hw
        · exact taskOk1_there pw k u t w hA hF hC ht s1 hu hn hw
  by_cases s2 : t.st = 2
  · cases hu : usedB (gsD u.gs) t.gr
    · exact taskOk2_nogroup pw k u t w hA hF hC ht s2 hu
    · cases hn : numB t
      · exact taskOk2_nonum pw k u t w hA hF hC ht s2 hu hn
      · cases hw : whereB u t
        · exact taskOk2_nowhere pw k u t w hA hF hC ht s2 hu hn hw
        · exact taskOk2_there pw k u t w hA hF hC ht s2 hu hn hw
  exact taskOk_odd pw k u t w hA hF hC ht ⟨s0, s1, s2⟩
end Go.Proofs.YtnmmglkigiakaaaGreat
