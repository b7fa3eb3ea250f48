/- Contracts of the functions of chapter 1, of the program and of its specification: what each answers at every argument; no memory that was there is written. -/
import Derived.Test.YtljjgebkieffpaaRows
import Derived.WalkKit
import Derived.ProofKit
import Derived.OpenShut
import Derived.ShutString
import Derived.WalkLawsBesides
import Derived.LoopTactic
import Derived.Outline
import Derived.Handy
import Derived.Laws.CopyOwn
namespace Go.Proofs.Ytljjgebkieffpaa
open Go.ChangeShapes Go.WideShapes Go.ChangeAt Go.RowKit

def stepAt (k i : Nat) : Int := if 1 ≤ i ∧ i < k then 232792560 / (i : Int) else 0
def stepRow (k : Nat) : Array Value := ((List.range 21).map fun i => Value.int .i64 (stepAt k i)).toArray
theorem stepRow_size (k : Nat) : (stepRow k).size = 21 := by simp [stepRow]
theorem stepRow_get (k i : Nat) (h : i < 21) : (stepRow k)[i]? = some (.int .i64 (stepAt k i)) := by
  simp [stepRow, h]
theorem stepRow_set (k : Nat) (h1 : 1 ≤ k) (_h : k < 21) : (stepRow k).setIfInBounds k (.int .i64 (232792560 / (k : Int))) = stepRow (k + 1) := by
  apply Array.ext
  · simp [stepRow]
  · intro i hi1 hi2
    simp only [Array.size_setIfInBounds, stepRow_size] at hi1
    rw [Array.getElem_setIfInBounds (by simpa [stepRow_size] using hi1)]
    simp only [stepRow, List.getElem_toArray, List.getElem_map, List.getElem_range, stepAt]
    by_cases e : k = i
    · subst e; simp [h1]
    · rw [if_neg e]
      have : (1 ≤ i ∧ i < k) ↔ (1 ≤ i ∧ i < k + 1) := by omega
      simp only [this]




def vstep (u n : Int) : Int := if 0 ≤ u ∧ u ≤ 100000000 ∧ 1 ≤ n ∧ n ≤ 20 then u * (232792560 / n) else 0
def vunits (v n : Int) : Int := if 1 ≤ v ∧ v ≤ 300000000000000000 ∧ 1 ≤ n ∧ n ≤ 20 then (v + 232792560 / n - 1) / (232792560 / n) else 0
def lagcut (l n : Int) : Int := if l < 0 then 0 else if vstep 149 n < l then vstep 149 n else l
def wof (n : Int) : Int := if -10 ≤ n ∧ n ≤ 9 then 10 - n else 0

theorem div_bd (n : Int) (h1 : 1 ≤ n) (h2 : n ≤ 20) : 11639628 ≤ 232792560 / n ∧ 232792560 / n ≤ 232792560 := by
  have h : n = 1 ∨ n = 2 ∨ n = 3 ∨ n = 4 ∨ n = 5 ∨ n = 6 ∨ n = 7 ∨ n = 8 ∨ n = 9 ∨ n = 10 ∨ n = 11 ∨ n = 12 ∨ n = 13 ∨ n = 14 ∨ n = 15 ∨ n = 16 ∨ n = 17 ∨ n = 18 ∨ n = 19 ∨ n = 20 := by omega
  rcases h with rfl | rfl | rfl | rfl | rfl | rfl | rfl | rfl | rfl | rfl | rfl | rfl | rfl | rfl | rfl | rfl | rfl | rfl | rfl | rfl <;> decide

theorem mul_bd (u d : Int) (h1 : 0 ≤ u) (h2 : u ≤ 100000000) (h3 : 11639628 ≤ d) (h4 : d ≤ 232792560) : 0 ≤ u * d ∧ u * d ≤ 23279256000000000 := by
  have a := Int.mul_nonneg h1 (by omega : 0 ≤ d)
  have b := Int.mul_le_mul h2 h4 (by omega) (by omega)
  omega

theorem vstep_bd (u n : Int) : 0 ≤ vstep u n ∧ vstep u n ≤ 23279256000000000 := by
  unfold vstep
  split
  · rename_i h
    have hd := div_bd n (by omega) (by omega)
    exact mul_bd u _ (by omega) (by omega) hd.1 hd.2
  · omega

theorem ret_int {k : IntKind} {a b : Int} (h : a = b) : Ending.returned (.int k a) = .returned (.int k b) := by rw [h]



theorem l1In_yes (n l h : Int) (w : World) (h1 : l ≤ n) (h2 : n ≤ h) : Calls Try.prog 43 #[.int .i64 n, .int .i64 l, .int .i64 h] w fun e w' => e = .returned (.bool true) ∧ w' = w := by
  go_enter Try.func43, Try.ntmps43
  go_wp2
  go_ret
  exact ⟨rfl, rfl⟩

theorem l1In_no (n l h : Int) (w : World) (hh : n < l ∨ h < n) : Calls Try.prog 43 #[.int .i64 n, .int .i64 l, .int .i64 h] w fun e w' => e = .returned (.bool false) ∧ w' = w := by
  by_cases a : l ≤ n
  · have b : ¬ n ≤ h := by omega
    clear hh
    go_enter Try.func43, Try.ntmps43
    go_wp2
    go_ret
    exact ⟨rfl, rfl⟩
  · clear hh
    go_enter Try.func43, Try.ntmps43
    go_wp2
    go_ret
    exact ⟨rfl, rfl⟩

def l1in (n l h : Int) : Bool := decide (l ≤ n ∧ n ≤ h)
theorem l1in_yes {n l h : Int} (h1 : l ≤ n) (h2 : n ≤ h) : l1in n l h = true := decide_eq_true ⟨h1, h2⟩
theorem l1in_no {n l h : Int} (hh : n < l ∨ h < n) : l1in n l h = false := decide_eq_false (by omega)
theorem l1In_any (n l h : Int) (w : World) : Calls Try.prog 43 #[.int .i64 n, .int .i64 l, .int .i64 h] w fun e w' => e = .returned (.bool (l1in n l h)) ∧ w' = w := by
  by_cases a : l ≤ n ∧ n ≤ h
  · rw [l1in_yes a.1 a.2]; exact l1In_yes n l h w a.1 a.2
  · rw [l1in_no (by omega)]; exact l1In_no n l h w (by omega)





theorem vunits_pos (v d : Int) (h1 : 1 ≤ v) (h2 : 11639628 ≤ d) : 0 ≤ v + d - 1 := by omega







theorem l1Min_any (a b : Int) (w : World) : Calls Try.prog 44 #[.int .i64 a, .int .i64 b] w fun e w' => e = .returned (.int .i64 (if a < b then a else b)) ∧ w' = w := by
  by_cases h : a < b
  · rw [if_pos h]
    go_enter Try.func44, Try.ntmps44
    go_wp2
    go_ret
    exact ⟨rfl, rfl⟩
  · rw [if_neg h]
    go_enter Try.func44, Try.ntmps44
    go_wp2
    go_ret
    exact ⟨rfl, rfl⟩

theorem lagcut_no (l n : Int) (h : n < 1 ∨ 20 < n) : lagcut l n = 0 := by
  have : vstep 149 n = 0 := by unfold vstep; rw [if_neg (by omega)]
  unfold lagcut; rw [this]
  split
  · rfl
  · split <;> omega
theorem lagcut_min (l n : Int) : lagcut l n = if (if 0 < l then l else 0) < vstep 149 n then (if 0 < l then l else 0) else vstep 149 n := by
  have := vstep_bd 149 n
  unfold lagcut
  by_cases a : l < 0
  · rw [if_pos a, if_neg (show ¬ (0 : Int) < l by omega)]
    by_cases b : 0 < vstep 149 n
    · rw [if_pos b]
    · rw [if_neg b]; omega
  · rw [if_neg a]
    by_cases b : 0 < l
    · rw [if_pos b]
      by_cases c : vstep 149 n < l
      · rw [if_pos c, if_neg (by omega)]
      · rw [if_neg c]
        by_cases d : l < vstep 149 n
        · rw [if_pos d]
        · rw [if_neg d]; omega
    · rw [if_neg b, if_neg (by omega)]
      by_cases d : 0 < vstep 149 n
      · rw [if_pos d]; omega
      · rw [if_neg d]; omega








def isWb (n : Int) : Bool := decide (1 ≤ n ∧ n ≤ 20)
def nofV (n : Int) : Int := if 1 ≤ n ∧ n ≤ 20 then 10 - n else 0

theorem wof_nofV {n : Int} (h1 : 1 ≤ n) (h2 : n ≤ 20) : wof (nofV n) = n := by
  have e : nofV n = 10 - n := by unfold nofV; rw [if_pos ⟨h1, h2⟩]
  rw [e]; unfold wof; rw [if_pos (by omega)]; omega
end Go.Proofs.Ytljjgebkieffpaa
