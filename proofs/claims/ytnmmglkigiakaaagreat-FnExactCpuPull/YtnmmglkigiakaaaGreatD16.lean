/- The program's small questions about the numbers of groups, tasks and quotas. The program: processors that are up; whether there is a group, a task, a processor; whether a group is dry. -/
import Derived.Test.YtnmmglkigiakaaaGreatD14
import Derived.Test.YtnmmglkigiakaaaGreatD15
namespace Go.Proofs.YtnmmglkigiakaaaGreat
set_option maxRecDepth 100000
set_option maxHeartbeats 32000000
set_option linter.unusedVariables false
set_option linter.unusedSimpArgs false
open Go.ChangeShapes Go.WideShapes Go.ChangeAt Go.RowKit Go.Shelf Go.Sort
theorem isTime_any (n : Int) (w : World) : Calls Tryz.prog 138 #[.int .i64 n] w fun e w' => e = .returned (.bool (l1in n 0 100000000000000000)) ∧ w' = w := by
  by_cases a : 0 ≤ n
  · by_cases b : n ≤ 100000000000000000
    · have HT : Hid (l1in n 0 100000000000000000 = true) := l1in_iff.2 ⟨a, b⟩
      go_enter Tryz.func138, Tryz.ntmps138
      go_wp2
      go_ret
      exact ⟨ret_bool HT.out.symm, rfl⟩
    · have HT : Hid (l1in n 0 100000000000000000 = false) := l1in_no (by omega)
      go_enter Tryz.func138, Tryz.ntmps138
      go_wp2
      go_ret
      exact ⟨ret_bool HT.out.symm, rfl⟩
  · have HT : Hid (l1in n 0 100000000000000000 = false) := l1in_no (by omega)
    go_enter Tryz.func138, Tryz.ntmps138
    go_wp2
    go_ret
    exact ⟨ret_bool HT.out.symm, rfl⟩
theorem isWeight_any (n : Int) (w : World) : Calls Tryz.prog 142 #[.int .i64 n] w fun e w' => e = .returned (.bool (l1in n 1 20)) ∧ w' = w := by
  by_cases a : 1 ≤ n
  · by_cases b : n ≤ 20
    · have HT : Hid (l1in n 1 20 = true) := l1in_iff.2 ⟨a, b⟩
      go_enter Tryz.func142, Tryz.ntmps142
      go_wp2
      go_ret
      exact ⟨ret_bool HT.out.symm, rfl⟩
    · have HT : Hid (l1in n 1 20 = false) := l1in_no (by omega)
      go_enter Tryz.func142, Tryz.ntmps142
      go_wp2
      go_ret
      exact ⟨ret_bool HT.out.symm, rfl⟩
  · have HT : Hid (l1in n 1 20 = false) := l1in_no (by omega)
    go_enter Tryz.func142, Tryz.ntmps142
    go_wp2
    go_ret
    exact ⟨ret_bool HT.out.symm, rfl⟩
theorem isPeriod_any (n : Int) (w : World) : Calls Tryz.prog 172 #[.int .i64 n] w fun e w' => e = .returned (.bool (l1in n 1 1000)) ∧ w' = w := by
  by_cases a : 1 ≤ n
  · by_cases b : n ≤ 1000
    · have HT : Hid (l1in n 1 1000 = true) := l1in_iff.2 ⟨a, b⟩
      go_enter Tryz.func172, Tryz.ntmps172
      go_wp2
      go_ret
      exact ⟨ret_bool HT.out.symm, rfl⟩
    · have HT : Hid (l1in n 1 1000 = false) := l1in_no (by omega)
      go_enter Tryz.func172, Tryz.ntmps172
      go_wp2
      go_ret
      exact ⟨ret_bool HT.out.symm, rfl⟩
  · have HT : Hid (l1in n 1 1000 = false) := l1in_no (by omega)
    go_enter Tryz.func172, Tryz.ntmps172
    go_wp2
    go_ret
    exact ⟨ret_bool HT.out.symm, rfl⟩
theorem isNice_any (n : Int) (w : World) : Calls Tryz.prog 160 #[.int .i64 n] w fun e w' => e = .returned (.bool (l1in n (-10) 9)) ∧ w' = w := by
  by_cases a : (-10) ≤ n
  · by_cases b : n ≤ 9
    · have HT : Hid (l1in n (-10) 9 = true) := l1in_iff.2 ⟨a, b⟩
      go_enter Tryz.func160, Tryz.ntmps160
      go_wp2
      go_ret
      exact ⟨ret_bool HT.out.symm, rfl⟩
    · have HT : Hid (l1in n (-10) 9 = false) := l1in_no (by omega)
      go_enter Tryz.func160, Tryz.ntmps160
      go_wp2
      go_ret
      exact ⟨ret_bool HT.out.symm, rfl⟩
  · have HT : Hid (l1in n (-10) 9 = false) := l1in_no (by omega)
    go_enter Tryz.func160, Tryz.ntmps160
    go_wp2
    go_ret
    exact ⟨ret_bool HT.out.symm, rfl⟩
theorem maskOk_any (n : Int) (w : World) : Calls Tryz.prog 170 #[.int .i64 n] w fun e w' => e = .returned (.bool (l1in n 0 15)) ∧ w' = w := by
  by_cases a : 0 ≤ n
  · by_cases b : n ≤ 15
    · have HT : Hid (l1in n 0 15 = true) := l1in_iff.2 ⟨a, b⟩
      go_enter Tryz.func170, Tryz.ntmps170
      go_wp2
      go_ret
      exact ⟨ret_bool HT.out.symm, rfl⟩
    · have HT : Hid (l1in n 0 15 = false) := l1in_no (by omega)
      go_enter Tryz.func170, Tryz.ntmps170
      go_wp2
      go_ret
      exact ⟨ret_bool HT.out.symm, rfl⟩
  · have HT : Hid (l1in n 0 15 = false) := l1in_no (by omega)
    go_enter Tryz.func170, Tryz.ntmps170
    go_wp2
    go_ret
    exact ⟨ret_bool HT.out.symm, rfl⟩
def setB (n : Int) : Bool := decide (n ≠ 0) && l1in n 0 15
theorem someSet_any (n : Int) (w : World) : Calls Tryz.prog 143 #[.int .i64 n] w fun e w' => e = .returned (.bool (setB n)) ∧ w' = w := by
  by_cases h0 : n ≠ 0
  · cases h1 : l1in n 0 15
    · have HR : Hid (setB n = false) := by unfold Hid; simp [setB, h0, h1]
      go_enter Tryz.func143, Tryz.ntmps143
      go_wp2_with (go_at_call 170; refine (maskOk_any _ _).mono ?_; rintro e w1 ⟨rfl, rfl⟩)
      go_ret
      refine ⟨?_, rfl⟩
      first | exact ret_bool HR.out.symm | (rw [HR.out]; simp [h0, h1]; done) | (rw [HR.out]; simp [h0, h1]; omega)
    · have HR : Hid (setB n = true) := by unfold Hid; simp [setB, h0, h1]
      go_enter Tryz.func143, Tryz.ntmps143
      go_wp2_with (go_at_call 170; refine (maskOk_any _ _).mono ?_; rintro e w1 ⟨rfl, rfl⟩)
      go_ret
      refine ⟨?_, rfl⟩
      first | exact ret_bool HR.out.symm | (rw [HR.out]; simp [h0, h1]; done) | (rw [HR.out]; simp [h0, h1]; omega)
  · have HR : Hid (setB n = false) := by unfold Hid; simp [setB, h0]
    go_enter Tryz.func143, Tryz.ntmps143
    go_wp2_with (go_at_call 170; refine (maskOk_any _ _).mono ?_; rintro e w1 ⟨rfl, rfl⟩)
    go_ret
    refine ⟨?_, rfl⟩
    first | exact ret_bool HR.out.symm | (rw [HR.out]; simp [h0]; done) | (rw [HR.out]; simp [h0]; omega)
def numB (t : Tk) : Bool := l1in t.ni (-10) 9 && (setB t.ma && (l1in t.v 0 100000000000000000 && (l1in t.su 0 100000000000000000 && (l1in t.us 0 100000000000000000 && inBd 0 t.lo))))
theorem hasNumbers_any (t : Tk) (w : World) : Calls Tryz.prog 145 #[tkV t] w fun e w' => e = .returned (.bool (numB t)) ∧ Below w.heap.size w w' := by
  obtain ⟨st, gr, cpu, ni, ma, v, su, us, lo⟩ := t
  unfold tkV
  cases h0 : l1in ni (-10) 9
  · have HR : Hid (numB ⟨st, gr, cpu, ni, ma, v, su, us, lo⟩ = false) := by unfold Hid; simp [numB, h0]
    have acc : Below w.heap.size w (w.alloc (.cells #[.int .i64 st, .int .i64 gr, .int .i64 cpu, .int .i64 ni, .int .i64 ma, .int .i64 v, .int .i64 su, .int .i64 us, .int .i64 lo] 68)) := (Below.refl _ _).alloc (Nat.le_refl _) _
    go_enter Tryz.func145, Tryz.ntmps145
    go_wp2_with (first | (go_at_call 160; refine (isNice_any _ _).mono ?_; rintro e1 w1 ⟨rfl, rfl⟩) | (go_at_call 143; refine (someSet_any _ _).mono ?_; rintro e1 w1 ⟨rfl, rfl⟩) | (go_at_call 138; refine (isTime_any _ _).mono ?_; rintro e1 w1 ⟨rfl, rfl⟩) | (go_at_call 173; refine (inB_any _ _ _ (by decide)).mono ?_; rintro e1 w1 ⟨rfl, hb1⟩; replace acc := acc.trans (hb1.mono acc.size); clear hb1))
    go_ret
    exact ⟨ret_bool HR.out.symm, acc⟩
  · cases h1 : setB ma
    · have HR : Hid (numB ⟨st, gr, cpu, ni, ma, v, su, us, lo⟩ = false) := by unfold Hid; simp [numB, h0, h1]
      have acc : Below w.heap.size w (w.alloc (.cells #[.int .i64 st, .int .i64 gr, .int .i64 cpu, .int .i64 ni, .int .i64 ma, .int .i64 v, .int .i64 su, .int .i64 us, .int .i64 lo] 68)) := (Below.refl _ _).alloc (Nat.le_refl _) _
      go_enter Tryz.func145, Tryz.ntmps145
      go_wp2_with (first | (go_at_call 160; refine (isNice_any _ _).mono ?_; rintro e1 w1 ⟨rfl, rfl⟩) | (go_at_call 143; refine (someSet_any _ _).mono ?_; rintro e1 w1 ⟨rfl, rfl⟩) | (go_at_call 138; refine (isTime_any _ _).mono ?_; rintro e1 w1 ⟨rfl, rfl⟩) | (go_at_call 173; refine (inB_any _ _ _ (by decide)).mono ?_; rintro e1 w1 ⟨rfl, hb1⟩; replace acc := acc.trans (hb1.mono acc.size); clear hb1))
      go_ret
      exact ⟨ret_bool HR.out.symm, acc⟩
    · cases h2 : l1in v 0 100000000000000000
      · have HR : Hid (numB ⟨st, gr, cpu, ni, ma, v, su, us, lo⟩ = false) := by unfold Hid; simp [numB, h0, h1, h2]
        have acc : Below w.heap.size w (w.alloc (.cells #[.int .i64 st, .int .i64 gr, .int .i64 cpu, .int .i64 ni, .int .i64 ma, .int .i64 v, .int .i64 su, .int .i64 us, .int .i64 lo] 68)) := (Below.refl _ _).alloc (Nat.le_refl _) _
        go_enter Tryz.func145, Tryz.ntmps145
        go_wp2_with (first | (go_at_call 160; refine (isNice_any _ _).mono ?_; rintro e1 w1 ⟨rfl, rfl⟩) | (go_at_call 143; refine (someSet_any _ _).mono ?_; rintro e1 w1 ⟨rfl, rfl⟩) | (go_at_call 138; refine (isTime_any _ _).mono ?_; rintro e1 w1 ⟨rfl, rfl⟩) | (go_at_call 173; refine (inB_any _ _ _ (by decide)).mono ?_; rintro e1 w1 ⟨rfl, hb1⟩; replace acc := acc.trans (hb1.mono acc.size); clear hb1))
        go_ret
        exact ⟨ret_bool HR.out.symm, acc⟩
      · cases h3 : l1in su 0 100000000000000000
        · have HR : Hid (numB ⟨st, gr, cpu, ni, ma, v, su, us, lo⟩ = false) := by unfold Hid; simp [numB, h0, h1, h2, h3]
          have acc : Below w.heap.size w (w.alloc (.cells #[.int .i64 st, .int .i64 gr, .int .i64 cpu, .int .i64 ni, .int .i64 ma, .int .i64 v, .int .i64 su, .int .i64 us, .int .i64 lo] 68)) := (Below.refl _ _).alloc (Nat.le_refl _) _
          go_enter Tryz.func145, Tryz.ntmps145
          go_wp2_with (first | (go_at_call 160; refine (isNice_any _ _).mono ?_; rintro e1 w1 ⟨rfl, rfl⟩) | (go_at_call 143; refine (someSet_any _ _).mono ?_; rintro e1 w1 ⟨rfl, rfl⟩) | (go_at_call 138; refine (isTime_any _ _).mono ?_; rintro e1 w1 ⟨rfl, rfl⟩) | (go_at_call 173; refine (inB_any _ _ _ (by decide)).mono ?_; rintro e1 w1 ⟨rfl, hb1⟩; replace acc := acc.trans (hb1.mono acc.size); clear hb1))
          go_ret
          exact ⟨ret_bool HR.out.symm, acc⟩
        · cases h4 : l1in us 0 100000000000000000
          · have HR : Hid (numB ⟨st, gr, cpu, ni, ma, v, su, us, lo⟩ = false) := by unfold Hid; simp [numB, h0, h1, h2, h3, h4]
            have acc : Below w.heap.size w (w.alloc (.cells #[.int .i64 st, .int .i64 gr, .int .i64 cpu, .int .i64 ni, .int .i64 ma, .int .i64 v, .int .i64 su, .int .i64 us, .int .i64 lo] 68)) := (Below.refl _ _).alloc (Nat.le_refl _) _
            go_enter Tryz.func145, Tryz.ntmps145
            go_wp2_with (first | (go_at_call 160; refine (isNice_any _ _).mono ?_; rintro e1 w1 ⟨rfl, rfl⟩) | (go_at_call 143; refine (someSet_any _ _).mono ?_; rintro e1 w1 ⟨rfl, rfl⟩) | (go_at_call 138; refine (isTime_any _ _).mono ?_; rintro e1 w1 ⟨rfl, rfl⟩) | (go_at_call 173; refine (inB_any _ _ _ (by decide)).mono ?_; rintro e1 w1 ⟨rfl, hb1⟩; replace acc := acc.trans (hb1.mono acc.size); clear hb1))
            go_ret
            exact ⟨ret_bool HR.out.symm, acc⟩
          · cases h5 : inBd 0 lo
            · have HR : Hid (numB ⟨st, gr, cpu, ni, ma, v, su, us, lo⟩ = false) := by unfold Hid; simp [numB, h0, h1, h2, h3, h4, h5]
              have acc : Below w.heap.size w (w.alloc (.cells #[.int .i64 st, .int .i64 gr, .int .i64 cpu, .int .i64 ni, .int .i64 ma, .int .i64 v, .int .i64 su, .int .i64 us, .int .i64 lo] 68)) := (Below.refl _ _).alloc (Nat.le_refl _) _
              go_enter Tryz.func145, Tryz.ntmps145
              go_wp2_with (first | (go_at_call 160; refine (isNice_any _ _).mono ?_; rintro e1 w1 ⟨rfl, rfl⟩) | (go_at_call 143; refine (someSet_any _ _).mono ?_; rintro e1 w1 ⟨rfl, rfl⟩) | (go_at_call 138; refine (isTime_any _ _).mono ?_; rintro e1 w1 ⟨rfl, rfl⟩) | (go_at_call 173; refine (inB_any _ _ _ (by decide)).mono ?_; rintro e1 w1 ⟨rfl, hb1⟩; replace acc := acc.trans (hb1.mono acc.size); clear hb1))
              go_ret
              exact ⟨ret_bool HR.out.symm, acc⟩
            · have HR : Hid (numB ⟨st, gr, cpu, ni, ma, v, su, us, lo⟩ = true) := by unfold Hid; simp [numB, h0, h1, h2, h3, h4, h5]
              have acc : Below w.heap.size w (w.alloc (.cells #[.int .i64 st, .int .i64 gr, .int .i64 cpu, .int .i64 ni, .int .i64 ma, .int .i64 v, .int .i64 su, .int .i64 us, .int .i64 lo] 68)) := (Below.refl _ _).alloc (Nat.le_refl _) _
              go_enter Tryz.func145, Tryz.ntmps145
              go_wp2_with (first | (go_at_call 160; refine (isNice_any _ _).mono ?_; rintro e1 w1 ⟨rfl, rfl⟩) | (go_at_call 143; refine (someSet_any _ _).mono ?_; rintro e1 w1 ⟨rfl, rfl⟩) | (go_at_call 138; refine (isTime_any _ _).mono ?_; rintro e1 w1 ⟨rfl, rfl⟩) | (go_at_call 173; refine (inB_any _ _ _ (by decide)).mono ?_; rintro e1 w1 ⟨rfl, hb1⟩; replace acc := acc.trans (hb1.mono acc.size); clear hb1))
              go_ret
              exact ⟨ret_bool HR.out.symm, acc⟩
def noBandB (b : Ba) : Bool := decide (b.qu = 0) && (decide (b.po = 0) && (decide (b.sp = 0) && (decide (b.lo.length = 0) && decide (b.dr.length = 0))))
theorem noBand_any (b : Ba) (x y : Value) (w : World) (hs : SlBa w x y b) : Calls Tryz.prog 141 #[baV b x y] w fun e w' => e = .returned (.bool (noBandB b)) ∧ Below w.heap.size w w' := by
  obtain ⟨p1, c1, rfl, hl1⟩ := hs.1.form
  obtain ⟨p2, c2, rfl, hl2⟩ := hs.2.form
  obtain ⟨qu, po, sp, lo, dr⟩ := b
  obtain ⟨n1, hn1⟩ : ∃ n, lo.length = n := ⟨_, rfl⟩
  obtain ⟨n2, hn2⟩ : ∃ n, dr.length = n := ⟨_, rfl⟩
  have HNB : Hid (noBandB ⟨qu, po, sp, lo, dr⟩ = (decide (qu = 0) && (decide (po = 0) && (decide (sp = 0) && (decide (n1 = 0) && decide (n2 = 0)))))) := by rw [← hn1, ← hn2]; rfl
  dsimp only at hl1 hl2 ⊢
  unfold baV
  dsimp only
  rw [hn1] at hl1 ⊢
  rw [hn2] at hl2 ⊢
  clear hs hn1 hn2
  rw [HNB.out]
  by_cases h0 : qu = 0
  · by_cases h1 : po = 0
    · by_cases h2 : sp = 0
      · by_cases h3 : (n1 : Int) = 0
        · by_cases h4 : (n2 : Int) = 0
          · have HR : Hid ((decide (qu = 0) && (decide (po = 0) && (decide (sp = 0) && (decide (n1 = 0) && decide (n2 = 0))))) = true) := by unfold Hid; simp [← Int.natCast_eq_zero, h0, h1, h2, h3, h4]
            go_enter Tryz.func141, Tryz.ntmps141
            go_wp2
            go_ret
            refine ⟨?_, (Below.refl _ _).alloc (Nat.le_refl _) _⟩
            first | exact ret_bool HR.out.symm | (rw [HR.out]; simp [h0, h1, h2, h3, h4]; done) | (rw [HR.out]; simp [h0, h1, h2, h3, h4]; omega)
          · have HR : Hid ((decide (qu = 0) && (decide (po = 0) && (decide (sp = 0) && (decide (n1 = 0) && decide (n2 = 0))))) = false) := by unfold Hid; simp [← Int.natCast_eq_zero, h0, h1, h2, h3, h4]
            go_enter Tryz.func141, Tryz.ntmps141
            go_wp2
            go_ret
            refine ⟨?_, (Below.refl _ _).alloc (Nat.le_refl _) _⟩
            first | exact ret_bool HR.out.symm | (rw [HR.out]; simp [h0, h1, h2, h3, h4]; done) | (rw [HR.out]; simp [h0, h1, h2, h3, h4]; omega)
        · have HR : Hid ((decide (qu = 0) && (decide (po = 0) && (decide (sp = 0) && (decide (n1 = 0) && decide (n2 = 0))))) = false) := by unfold Hid; simp [← Int.natCast_eq_zero, h0, h1, h2, h3]
          go_enter Tryz.func141, Tryz.ntmps141
          go_wp2
          go_ret
          refine ⟨?_, (Below.refl _ _).alloc (Nat.le_refl _) _⟩
          first | exact ret_bool HR.out.symm | (rw [HR.out]; simp [h0, h1, h2, h3]; done) | (rw [HR.out]; simp [h0, h1, h2, h3]; omega)
      · have HR : Hid ((decide (qu = 0) && (decide (po = 0) && (decide (sp = 0) && (decide (n1 = 0) && decide (n2 = 0))))) = false) := by unfold Hid; simp [← Int.natCast_eq_zero, h0, h1, h2]
        go_enter Tryz.func141, Tryz.ntmps141
        go_wp2
        go_ret
        refine ⟨?_, (Below.refl _ _).alloc (Nat.le_refl _) _⟩
        first | exact ret_bool HR.out.symm | (rw [HR.out]; simp [h0, h1, h2]; done) | (rw [HR.out]; simp [h0, h1, h2]; omega)
    · have HR : Hid ((decide (qu = 0) && (decide (po = 0) && (decide (sp = 0) && (decide (n1 = 0) && decide (n2 = 0))))) = false) := by unfold Hid; simp [← Int.natCast_eq_zero, h0, h1]
      go_enter Tryz.func141, Tryz.ntmps141
      go_wp2
      go_ret
      refine ⟨?_, (Below.refl _ _).alloc (Nat.le_refl _) _⟩
      first | exact ret_bool HR.out.symm | (rw [HR.out]; simp [h0, h1]; done) | (rw [HR.out]; simp [h0, h1]; omega)
  · have HR : Hid ((decide (qu = 0) && (decide (po = 0) && (decide (sp = 0) && (decide (n1 = 0) && decide (n2 = 0))))) = false) := by unfold Hid; simp [← Int.natCast_eq_zero, h0]
    go_enter Tryz.func141, Tryz.ntmps141
    go_wp2
    go_ret
    refine ⟨?_, (Below.refl _ _).alloc (Nat.le_refl _) _⟩
    first | exact ret_bool HR.out.symm | (rw [HR.out]; simp [h0]; done) | (rw [HR.out]; simp [h0]; omega)
theorem AtW.rowC {W : World} {b : Nat} {u : Wv} (h : AtW W b u) : ∃ p cap, u.x = .slice p u.cs.length cap ∧ u.cs.length ≤ 9223372036854775807 ∧ ∀ k e, u.cs[k]? = some e → ∃ g o, p = some ⟨g, o, none⟩ ∧ W.rangeAt g (o + k * 5) (cpC e) := row_read h.2.1
theorem or_fin : ∀ k : Fin 4, ∀ a : Fin 16, a.val < 2 ^ k.val → bits BinOp.or IntKind.i64 (a.val : Int) ((2 : Int) ^ k.val) = (a.val : Int) + (2 : Int) ^ k.val := by decide +kernel
theorem or_ups (cs : List Cp) (k : Nat) (hk : k < 4) : bits BinOp.or IntKind.i64 (upsTo cs k) ((2 : Int) ^ k) = upsTo cs k + (2 : Int) ^ k := by
  obtain ⟨h1, h2⟩ := upsTo_bound cs k
  obtain ⟨a, ha⟩ := Int.eq_ofNat_of_zero_le h1
  rw [ha] at h2 ⊢
  have h3 : a < 2 ^ k := by exact_mod_cast h2
  have h4 : (2 : Nat) ^ k ≤ 8 := by
    have : k = 0 ∨ k = 1 ∨ k = 2 ∨ k = 3 := by omega
    rcases this with rfl | rfl | rfl | rfl <;> decide
  exact or_fin ⟨k, hk⟩ ⟨a, by omega⟩ h3
theorem impl_ups (pw : Nat) (u : Wv) (w : World) (h : AtW w pw u) (hn : u.cs.length ≤ 4) :
    Calls Tryz.prog 46 #[ptr pw] w fun e w' => e = .returned (.int .i64 (upsM u.cs)) ∧ Below w.heap.size w w' := by
  obtain ⟨p, cap, hp, hlen, hrow⟩ := h.rowC
  obtain ⟨_, w1, _, _⟩ := h.cells
  rw [hp] at w1
  have HR : Hid (∀ wr, Below w.heap.size w wr → ∀ k e, u.cs[k]? = some e → ∃ g o, p = some ⟨g, o, none⟩ ∧ wr.rangeAt g (o + k * 5) (cpC e)) := fun wr hb k e he => by
    obtain ⟨g, o, h1, h2⟩ := hrow k e he
    exact ⟨g, o, h1, range_below h2 hb⟩
  clear hrow hp h
  unfold ptr
  go_enter Tryz.func46, Tryz.ntmps46
  go_wp2
  go_loopw [3, 11] (fun m i wr => ∃ k : Nat, k ≤ u.cs.length ∧ i = .int .i64 (k : Int) ∧ m = .int .i64 (upsTo u.cs k) ∧ Below w.heap.size w wr) (fun _ i _ => u.cs.length - (intOf i).toNat)
  case atStart => exact ⟨0, Nat.zero_le _, rfl, rfl, Below.refl _ _⟩
  case round =>
    obtain ⟨k, hk, rfl, rfl, acc⟩ := hrel
    by_cases hlt : k < u.cs.length
    · have hlt' : (k : Int) < (u.cs.length : Int) := by omega
      have hk4 : k < 4 := by omega
      obtain ⟨e, he⟩ := row_get hlt
      obtain ⟨g, o, hp, hc⟩ := HR.out _ acc k e he
      subst hp
      obtain ⟨x0, x1, x2, x3, x4⟩ := cp_cells hc
      have HU : Hid (upsTo u.cs (k + 1) = upsTo u.cs k + (if e.up = true then 2 ^ k else 0)) := by
        show upsTo u.cs k + (if upB u.cs k = true then 2 ^ k else 0) = _
        rw [show upB u.cs k = e.up by simp [upB, he]]
      have hor := or_ups u.cs k hk4
      have acc2 : Hid (∀ A, Below w.heap.size w (wr.alloc A)) := fun A => acc.alloc acc.size _
      clear he hc
      cases hup : e.up
      · rw [hup] at x0
        go_wp2
        exact ⟨⟨k + 1, hlt, by go_num, by rw [HU.out, hup]; simp, acc2.out _⟩, by simp [intOf]; omega⟩
      · rw [hup] at x0
        have hkk : k = 0 ∨ k = 1 ∨ k = 2 ∨ k = 3 := by omega
        have hw : wrap64 ((2 : Int) ^ k) = (2 : Int) ^ k := by rcases hkk with rfl | rfl | rfl | rfl <;> decide +kernel
        go_wp2
        refine ⟨⟨k + 1, hlt, by go_num, ?_, acc2.out _⟩, by simp [intOf]; omega⟩
        rw [HU.out, hup]; rfl
    · have hlt' : ¬ (k : Int) < (u.cs.length : Int) := by omega
      obtain rfl : k = u.cs.length := by omega
      go_wp2
      go_ret
      exact ⟨rfl, acc⟩
theorem AtW.cellsG {W : World} {b : Nat} {u : Wv} (h : AtW W b u) {k : Nat} {e : Gv} (he : u.gs[k]? = some e) : ∃ gr go cap, W.cell? ⟨b, 3, none⟩ = some (.slice (some ⟨gr, go, none⟩) u.gs.length cap) ∧ W.rangeAt gr (go + k * 14) (gvC e) ∧ k < u.gs.length ∧ u.gs.length ≤ 9223372036854775807 := by
  obtain ⟨p, cap, hp, hlen, hrow⟩ := h.rowG
  obtain ⟨gr, go, rfl, hc⟩ := hrow k e he
  exact ⟨gr, go, cap, by rw [h.cells.2.2.2, hp], hc, (List.getElem?_eq_some_iff.1 he).1, hlen⟩
theorem AtW.cellsT {W : World} {b : Nat} {u : Wv} (h : AtW W b u) {k : Nat} {e : Tk} (he : u.ts[k]? = some e) : ∃ gr go cap, W.cell? ⟨b, 2, none⟩ = some (.slice (some ⟨gr, go, none⟩) u.ts.length cap) ∧ W.rangeAt gr (go + k * 9) (tkC e) ∧ k < u.ts.length ∧ u.ts.length ≤ 9223372036854775807 := by
  obtain ⟨p, cap, hp, hlen, hrow⟩ := h.rowT
  obtain ⟨gr, go, rfl, hc⟩ := hrow k e he
  exact ⟨gr, go, cap, by rw [h.cells.2.2.1, hp], hc, (List.getElem?_eq_some_iff.1 he).1, hlen⟩
theorem AtW.cellsC {W : World} {b : Nat} {u : Wv} (h : AtW W b u) {k : Nat} {e : Cp} (he : u.cs[k]? = some e) : ∃ gr go cap, W.cell? ⟨b, 1, none⟩ = some (.slice (some ⟨gr, go, none⟩) u.cs.length cap) ∧ W.rangeAt gr (go + k * 5) (cpC e) ∧ k < u.cs.length ∧ u.cs.length ≤ 9223372036854775807 := by
  obtain ⟨p, cap, hp, hlen, hrow⟩ := h.rowC
  obtain ⟨gr, go, rfl, hc⟩ := hrow k e he
  exact ⟨gr, go, cap, by rw [h.cells.2.1, hp], hc, (List.getElem?_eq_some_iff.1 he).1, hlen⟩
theorem AtW.lens {W : World} {b : Nat} {u : Wv} (h : AtW W b u) : ∃ p1 c1 p2 c2 p3 c3, W.cell? ⟨b, 1, none⟩ = some (.slice p1 u.cs.length c1) ∧ W.cell? ⟨b, 2, none⟩ = some (.slice p2 u.ts.length c2) ∧ W.cell? ⟨b, 3, none⟩ = some (.slice p3 u.gs.length c3) ∧ u.cs.length ≤ 9223372036854775807 ∧ u.ts.length ≤ 9223372036854775807 ∧ u.gs.length ≤ 9223372036854775807 := by
  obtain ⟨p1, c1, h1, l1, _⟩ := h.rowC
  obtain ⟨p2, c2, h2, l2, _⟩ := h.rowT
  obtain ⟨p3, c3, h3, l3, _⟩ := h.rowG
  exact ⟨p1, c1, p2, c2, p3, c3, by rw [h.cells.2.1, h1], by rw [h.cells.2.2.1, h2], by rw [h.cells.2.2.2, h3], l1, l2, l3⟩
def dryB (b : Ba) (c : Nat) : Bool := decide (0 < b.qu) && drAt b c
theorem gv_row {W : World} {b : Nat} {u : Wv} (h : AtW W b u) {k : Nat} {e : Gv} (he : u.gs[k]? = some e) : ∃ gr go cap, u.z = .slice (some ⟨gr, go, none⟩) u.gs.length cap ∧ W.cell? ⟨b, 3, none⟩ = some (.slice (some ⟨gr, go, none⟩) u.gs.length cap) ∧ W.rangeAt gr (go + k * 14) (gvC e) ∧ k < u.gs.length ∧ u.gs.length ≤ 9223372036854775807 := by
  obtain ⟨p, cap, hz, hl, hr⟩ := h.rowG
  obtain ⟨g, o, rfl, hc⟩ := hr k e he
  obtain ⟨_, _, _, w3⟩ := h.cells
  rw [hz] at w3
  exact ⟨g, o, cap, hz, w3, hc, (List.getElem?_eq_some_iff.1 he).1, hl⟩
def quotaP (gr go k : Nat) (e : Gv) : Value := .pointer (if 0 < e.d.ba.qu then some ⟨gr, go + k * 14 + 8, none⟩ else none)
theorem quotaOf_any (pw k gr go cap : Nat) (u : Wv) (e : Gv) (w : World) (h : AtW w pw u) (he : u.gs[k]? = some e) (hz : u.z = .slice (some ⟨gr, go, none⟩) u.gs.length cap) :
    Calls Tryz.prog 181 #[ptr pw, .int .i64 (k : Int)] w fun e' w' => e' = .returned (quotaP gr go k e) ∧ w' = w := by
  obtain ⟨gr', go', cap', hz', w3, hc, hk, hlen⟩ := gv_row h he
  rw [hz] at hz'
  simp only [Value.slice.injEq, Option.some.injEq, Addr.mk.injEq] at hz'
  obtain ⟨⟨rfl, rfl, _⟩, _, rfl⟩ := hz'
  obtain ⟨y0, y1, y2, y3, y4, y5, y6, y7, y8, y9, y10, y11, y12, y13⟩ := gv_cells hc
  obtain ⟨⟨us, pa, na, we, cp, pe, ne, su, ⟨qu, po, sp, lo, dr⟩, sh⟩, x, y, z⟩ := e
  dsimp only at *
  clear h he hc hz y0 y1 y2 y3 y4 y5 y6 y7 y9 y10 y11 y12 y13
  unfold ptr quotaP
  by_cases hq : 0 < qu
  · rw [if_pos hq]
    go_enter Tryz.func181, Tryz.ntmps181
    go_wp2
    go_ret
    exact ⟨rfl, rfl⟩
  · rw [if_neg hq]
    go_enter Tryz.func181, Tryz.ntmps181
    go_wp2
    go_ret
    exact ⟨rfl, rfl⟩
theorem isDry_any (pw k c : Nat) (u : Wv) (e : Gv) (w : World) (h : AtW w pw u) (he : u.gs[k]? = some e) (hd : 0 < e.d.ba.qu → c < e.d.ba.dr.length) :
    Calls Tryz.prog 166 #[ptr pw, .int .i64 (k : Int), .int .i64 (c : Int)] w fun e' w' => e' = .returned (.bool (dryB e.d.ba c)) ∧ Below w.heap.size w w' := by
  obtain ⟨gr, go, cap, hzz, w3, hc, hk, hlen⟩ := gv_row h he
  have hQ := quotaOf_any pw k gr go cap u e w h he hzz
  obtain ⟨y0, y1, y2, y3, y4, y5, y6, y7, y8, y9, y10, y11, y12, y13⟩ := gv_cells hc
  have hok := h.2.2.2.2 e (List.mem_of_getElem? he)
  obtain ⟨p1, c1, f1, l1⟩ := hok.1.1.form
  obtain ⟨p2, c2, f2, l2⟩ := hok.1.2.form
  rw [f1] at y11
  rw [f2] at y12
  have hdr : ∀ v, drAt e.d.ba c = v → 0 < e.d.ba.qu → ∃ g o, p2 = some ⟨g, o, none⟩ ∧ w.cell? ⟨g, o + c, none⟩ = some (.bool v) ∧ c < e.d.ba.dr.length ∧ g < w.heap.size := by
    intro v hv hq
    have hlt := hd hq
    have h2 := hok.1.2
    rw [f2] at h2
    rcases h2 with ⟨h0, _⟩ | ⟨g, o, cp, e1, hB, _⟩
    · rw [h0] at hlt; exact absurd hlt (by simp)
    · simp only [Value.slice.injEq] at e1
      obtain ⟨rfl, _, _⟩ := e1
      have hx : e.d.ba.dr[c]? = some v := by
        have := List.getElem?_eq_getElem hlt
        rw [this]; unfold drAt at hv; rw [this] at hv; simpa using hv
      have hcell := hB c v hx
      exact ⟨g, o, rfl, hcell, hlt, block_lt_of_cell hcell⟩
  unfold quotaP at hQ
  obtain ⟨⟨us, pa, na, we, cp, pe, ne, su, ⟨qu, po, sp, lo, dr⟩, sh⟩, x, y, z⟩ := e
  dsimp only at *
  clear h he hc hok f1 f2 hd y0 y1 y2 y3 y4 y5 y6 y7 y13 hzz
  unfold ptr at hQ ⊢
  by_cases hq : 0 < qu
  · rw [if_pos hq] at hQ
    cases hv : drAt ⟨qu, po, sp, lo, dr⟩ c
    · obtain ⟨g, o, rfl, hcell, hlt, hg⟩ := hdr _ hv hq
      have HR : Hid (dryB ⟨qu, po, sp, lo, dr⟩ c = false) := by unfold Hid dryB; rw [hv]; simp
      clear hdr hv
      go_enter Tryz.func166, Tryz.ntmps166
      go_wp2_with (go_at_call 181; refine hQ.mono ?_; rintro e1 w1 ⟨rfl, hw1⟩; subst w1)
      go_ret
      exact ⟨ret_bool HR.out.symm, Below.refl _ _⟩
    · obtain ⟨g, o, rfl, hcell, hlt, hg⟩ := hdr _ hv hq
      have HR : Hid (dryB ⟨qu, po, sp, lo, dr⟩ c = true) := by unfold Hid dryB; rw [hv]; simp [hq]
      clear hdr hv
      go_enter Tryz.func166, Tryz.ntmps166
      go_wp2_with (go_at_call 181; refine hQ.mono ?_; rintro e1 w1 ⟨rfl, hw1⟩; subst w1)
      go_ret
      exact ⟨ret_bool HR.out.symm, Below.refl _ _⟩
  · rw [if_neg hq] at hQ
    have HR : Hid (dryB ⟨qu, po, sp, lo, dr⟩ c = false) := by unfold Hid dryB; simp [hq]
    clear hdr
    go_enter Tryz.func166, Tryz.ntmps166
    go_wp2_with (go_at_call 181; refine hQ.mono ?_; rintro e1 w1 ⟨rfl, hw1⟩; subst w1)
    go_ret
    exact ⟨ret_bool HR.out.symm, Below.refl _ _⟩
theorem hasGroup_any (pw : Nat) (g : Int) (u : Wv) (w : World) (h : AtW w pw u) :
    Calls Tryz.prog 57 #[ptr pw, .int .i64 g] w fun e' w' => e' = .returned (.bool (usedB (gsD u.gs) g)) ∧ w' = w := by
  obtain ⟨p1, c1, p2, c2, p3, c3, _, _, w3, _, _, hlen⟩ := h.lens
  have hl := gsD_length u.gs
  unfold ptr
  by_cases a : 0 ≤ g
  · by_cases b : g < (u.gs.length : Int)
    · obtain ⟨k, rfl⟩ := Int.eq_ofNat_of_zero_le a
      have hk : k < u.gs.length := by omega
      obtain ⟨e, he, e1, _, _⟩ := gs_get hk
      obtain ⟨gr, go, cap, w3', hc, _, _⟩ := h.cellsG he
      rw [w3'] at w3
      simp only [Option.some.injEq, Value.slice.injEq] at w3
      obtain ⟨rfl, _, rfl⟩ := w3
      obtain ⟨y0, _⟩ := gv_cells hc
      rw [← e1] at y0
      have HR : Hid (usedB (gsD u.gs) (k : Int) = usAt (gsD u.gs) k) := by
        unfold Hid usedB; rw [hl, decide_eq_true (by omega), decide_eq_true b, Int.toNat_natCast]; simp
      clear hc he e1 h hl
      cases hu : usAt (gsD u.gs) k
      · rw [hu] at y0
        go_enter Tryz.func57, Tryz.ntmps57
        go_wp2
        go_ret
        exact ⟨by rw [HR.out, hu]; rfl, rfl⟩
      · rw [hu] at y0
        go_enter Tryz.func57, Tryz.ntmps57
        go_wp2
        go_ret
        exact ⟨by rw [HR.out, hu]; rfl, rfl⟩
    · have HR : Hid (usedB (gsD u.gs) g = false) := by unfold Hid usedB; rw [hl, decide_eq_false (p := g < (u.gs.length : Int)) b]; simp
      clear h hl
      go_enter Tryz.func57, Tryz.ntmps57
      go_wp2
      go_ret
      exact ⟨by rw [HR.out]; rfl, rfl⟩
  · have HR : Hid (usedB (gsD u.gs) g = false) := by unfold Hid usedB; rw [decide_eq_false (p := 0 ≤ g) a]; rfl
    clear h hl
    go_enter Tryz.func57, Tryz.ntmps57
    go_wp2
    go_ret
    exact ⟨by rw [HR.out]; rfl, rfl⟩
def taskB (ts : List Tk) (t : Int) : Bool := decide (0 ≤ t) && (decide (t < ts.length) && (ts[t.toNat]?).any (fun e => decide (e.st ≠ 0)))
theorem hasTask_any (pw : Nat) (t : Int) (u : Wv) (w : World) (h : AtW w pw u) :
    Calls Tryz.prog 161 #[ptr pw, .int .i64 t] w fun e' w' => e' = .returned (.bool (taskB u.ts t)) ∧ w' = w := by
  obtain ⟨p1, c1, p2, c2, p3, c3, _, w2, _, _, hlen, _⟩ := h.lens
  unfold ptr
  by_cases a : 0 ≤ t
  · by_cases b : t < (u.ts.length : Int)
    · obtain ⟨k, rfl⟩ := Int.eq_ofNat_of_zero_le a
      have hk : k < u.ts.length := by omega
      obtain ⟨e, he⟩ := row_get hk
      obtain ⟨gr, go, cap, w2', hc, _, _⟩ := h.cellsT he
      rw [w2'] at w2
      simp only [Option.some.injEq, Value.slice.injEq] at w2
      obtain ⟨rfl, _, rfl⟩ := w2
      obtain ⟨y0, _⟩ := tk_cells hc
      have HR : Hid (taskB u.ts (k : Int) = decide (e.st ≠ 0)) := by
        unfold Hid taskB; rw [decide_eq_true (by omega), decide_eq_true b, Int.toNat_natCast, he]; rfl
      clear hc he h
      by_cases hu : e.st = 0
      · rw [hu] at y0
        go_enter Tryz.func161, Tryz.ntmps161
        go_wp2
        go_ret
        exact ⟨by rw [HR.out, hu]; rfl, rfl⟩
      · go_enter Tryz.func161, Tryz.ntmps161
        go_wp2
        go_ret
        exact ⟨by rw [HR.out]; simp [hu], rfl⟩
    · have HR : Hid (taskB u.ts t = false) := by unfold Hid taskB; rw [decide_eq_false (p := t < (u.ts.length : Int)) b]; simp
      clear h
      go_enter Tryz.func161, Tryz.ntmps161
      go_wp2
      go_ret
      exact ⟨by rw [HR.out]; rfl, rfl⟩
  · have HR : Hid (taskB u.ts t = false) := by unfold Hid taskB; rw [decide_eq_false (p := 0 ≤ t) a]; rfl
    clear h
    go_enter Tryz.func161, Tryz.ntmps161
    go_wp2
    go_ret
    exact ⟨by rw [HR.out]; rfl, rfl⟩
def cpuB (cs : List Cp) (c : Int) : Bool := decide (0 ≤ c) && decide (c < cs.length)
end Go.Proofs.YtnmmglkigiakaaaGreat
