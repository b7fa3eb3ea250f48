/- Contracts of the functions of chapter 7 on neighbours, of the program and of its specification: what each answers at every argument; no memory that was there is written. -/
import Derived.Test.YtnmmglkigiakaaaGreatD10
import Derived.BigQuiet
namespace Go.Proofs.YtnmmglkigiakaaaGreat
set_option maxRecDepth 100000
set_option maxHeartbeats 32000000
namespace Msk
open Go.ChangeShapes Go.WideShapes Go.ChangeAt Go.RowKit Go.Shelf

def isCB (n : Int) : Bool := decide (1 ≤ n ∧ n ≤ 4)
def levelsF (n : Int) : Int := if n = 2 then 1 else if n = 3 ∨ n = 4 then 2 else 0
theorem levelsF_no {n : Int} (h : n < 1 ∨ 4 < n) : levelsF n = 0 := by unfold levelsF; rw [if_neg (by omega), if_neg (by omega)]
theorem cpus4 {n : Int} (h1 : 1 ≤ n) (h2 : n ≤ 4) : n = 1 ∨ n = 2 ∨ n = 3 ∨ n = 4 := by omega

theorem isCpuCount_any (n : Int) (w : World) : Calls Tryz.prog 127 #[.int .i64 n] w fun e w' => e = .returned (.bool (isCB n)) ∧ w' = w := by
  by_cases a : 1 ≤ n
  · by_cases b : n ≤ 4
    · have hd : isCB n = true := decide_eq_true ⟨a, b⟩
      rw [hd]
      go_enter Tryz.func127, Tryz.ntmps127
      go_wp2
      go_ret
      exact ⟨rfl, rfl⟩
    · have hd : isCB n = false := decide_eq_false (by omega)
      rw [hd]
      have hd : decide (n ≤ 4) = false := by simpa using b
      go_enter Tryz.func127, Tryz.ntmps127
      go_wp2
      go_ret
      exact ⟨by simp, rfl⟩
  · have hd : isCB n = false := decide_eq_false (by omega)
    rw [hd]
    go_enter Tryz.func127, Tryz.ntmps127
    go_wp2
    go_ret
    exact ⟨rfl, rfl⟩

theorem impl_levels (n : Int) (w : World) : Calls Tryz.prog 84 #[.int .i64 n] w fun e w' => e = .returned (.int .i64 (levelsF n)) ∧ w' = w := by
  by_cases a : 1 ≤ n ∧ n ≤ 4
  · rcases cpus4 a.1 a.2 with rfl | rfl | rfl | rfl
    all_goals
      clear a
      go_enter Tryz.func84, Tryz.ntmps84
      go_wp2_with (go_at_call 127; refine (isCpuCount_any _ _).mono ?_; rintro e w1 ⟨rfl, rfl⟩; rw [show isCB _ = true from by decide])
      go_rounds 3
      go_ret
      exact ⟨rfl, rfl⟩
  · have f1 : isCB n = false := decide_eq_false a
    rw [levelsF_no (by omega)]
    clear a
    go_enter Tryz.func84, Tryz.ntmps84
    go_wp2_with (go_at_call 127; refine (isCpuCount_any _ _).mono ?_; rintro e w1 ⟨rfl, rfl⟩)
    go_ret
    exact ⟨rfl, rfl⟩
theorem spec_levels (n : Int) (w : World) : Calls Tryz.prog 51 #[.int .i64 n] w fun e w' => e = .returned (.int .i64 (levelsF n)) ∧ w' = w := by
  by_cases a : 1 ≤ n ∧ n ≤ 4
  · rcases cpus4 a.1 a.2 with rfl | rfl | rfl | rfl
    all_goals
      clear a
      go_enter Tryz.func51, Tryz.ntmps51
      go_wp2_with (go_at_call 33; refine (l1In_any _ _ _ _).mono ?_; rintro e w1 ⟨rfl, rfl⟩; rw [show l1in _ 1 4 = true from by decide])
      go_rounds 3
      go_ret
      exact ⟨rfl, rfl⟩
  · have f1 : l1in n 1 4 = false := l1in_no (by omega)
    rw [levelsF_no (by omega)]
    clear a
    go_enter Tryz.func51, Tryz.ntmps51
    go_wp2_with (go_at_call 33; refine (l1In_any _ _ _ _).mono ?_; rintro e w1 ⟨rfl, rfl⟩)
    go_ret
    exact ⟨rfl, rfl⟩

def okSp (n c l : Int) : Bool := decide (0 ≤ c ∧ c < n ∧ 0 ≤ l ∧ l < levelsF n)
def inSp (n c l : Int) (o : Nat) : Bool := okSp n c l && (decide ((o : Int) < n) && ((o : Int) / 2 ^ (l + 1).toNat == c / 2 ^ (l + 1).toNat))
def bitI (b : Bool) (k : Int) : Int := if b = true then k else 0
def spanM (n c l : Int) : Int := bitI (inSp n c l 0) 1 + bitI (inSp n c l 1) 2 + bitI (inSp n c l 2) 4 + bitI (inSp n c l 3) 8
theorem okSp_l {n c l : Int} (h : l < 0 ∨ levelsF n ≤ l) : okSp n c l = false := decide_eq_false (by omega)
theorem spanM_no {n c l : Int} (h : okSp n c l = false) : spanM n c l = 0 := by unfold spanM inSp; rw [h]; rfl
theorem okSp_all {n c l : Int} (h : okSp n c l = true) : (n = 2 ∧ l = 0 ∧ (c = 0 ∨ c = 1)) ∨ (n = 3 ∧ (l = 0 ∨ l = 1) ∧ (c = 0 ∨ c = 1 ∨ c = 2)) ∨ (n = 4 ∧ (l = 0 ∨ l = 1) ∧ (c = 0 ∨ c = 1 ∨ c = 2 ∨ c = 3)) := by
  obtain ⟨h1, h2, h3, h4⟩ := of_decide_eq_true h
  unfold levelsF at h4
  split at h4
  · omega
  · split at h4
    · omega
    · omega

theorem lv2 : levelsF 2 = 1 := rfl
theorem lv3 : levelsF 3 = 2 := rfl
theorem lv4 : levelsF 4 = 2 := rfl
theorem spec_span (n c l : Int) (w : World) : Calls Tryz.prog 53 #[.int .i64 n, .int .i64 c, .int .i64 l] w fun e w' => e = .returned (.int .i64 (spanM n c l)) ∧ w' = w := by
  by_cases a : okSp n c l = true
  · rcases okSp_all a with ⟨rfl, rfl, rfl | rfl⟩ | ⟨rfl, rfl | rfl, rfl | rfl | rfl⟩ | ⟨rfl, rfl | rfl, rfl | rfl | rfl | rfl⟩
    all_goals
      clear a
      go_enter Tryz.func53, Tryz.ntmps53
      go_wp2_with (first | (go_at_call 33; refine (l1In_any _ _ _ _).mono ?_; rintro e w1 ⟨rfl, rfl⟩; rw [show l1in _ _ _ = true from by decide]) | (go_at_call 51; refine (spec_levels _ _).mono ?_; rintro e w1 ⟨rfl, rfl⟩; first | rw [lv2] | rw [lv3] | rw [lv4]))
      go_rounds 5
      go_ret
      exact ⟨ret_int (by decide), rfl⟩
  · rw [spanM_no (by simpa using a)]
    by_cases b : 1 ≤ n ∧ n ≤ 4
    · obtain ⟨b1, b2⟩ := b
      have f1 := l1in_yes (n := n) (l := 1) (h := 4) b1 b2
      by_cases d : 0 ≤ c ∧ c ≤ n - 1
      · have f2 := l1in_yes (n := c) (l := 0) (h := n - 1) d.1 d.2
        have hl : levelsF n = 0 ∨ levelsF n = 1 ∨ levelsF n = 2 := by unfold levelsF; split; omega; split <;> omega
        have f3 : l1in l 0 (levelsF n - 1) = false := l1in_no (by
          rcases Int.lt_or_le l 0 with h | h
          · exact .inl h
          · refine .inr ?_
            rcases Int.lt_or_le (levelsF n - 1) l with k | k
            · exact k
            · exact absurd (decide_eq_true ⟨d.1, by omega, h, by omega⟩) a)
        clear a d
        go_enter Tryz.func53, Tryz.ntmps53
        go_wp2_with (first | (go_at_call 33; refine (l1In_any _ _ _ _).mono ?_; rintro e w1 ⟨rfl, rfl⟩) | (go_at_call 51; refine (spec_levels _ _).mono ?_; rintro e w1 ⟨rfl, rfl⟩))
        go_ret
        exact ⟨rfl, rfl⟩
      · have f2 := l1in_no (n := c) (l := 0) (h := n - 1) (by omega)
        clear a d
        go_enter Tryz.func53, Tryz.ntmps53
        go_wp2_with (first | (go_at_call 33; refine (l1In_any _ _ _ _).mono ?_; rintro e w1 ⟨rfl, rfl⟩) | (go_at_call 51; refine (spec_levels _ _).mono ?_; rintro e w1 ⟨rfl, rfl⟩))
        go_ret
        exact ⟨rfl, rfl⟩
    · have f1 := l1in_no (n := n) (l := 1) (h := 4) (by omega)
      clear a b
      go_enter Tryz.func53, Tryz.ntmps53
      go_wp2_with (first | (go_at_call 33; refine (l1In_any _ _ _ _).mono ?_; rintro e w1 ⟨rfl, rfl⟩) | (go_at_call 51; refine (spec_levels _ _).mono ?_; rintro e w1 ⟨rfl, rfl⟩))
      go_ret
      exact ⟨rfl, rfl⟩
end Msk
end Go.Proofs.YtnmmglkigiakaaaGreat
