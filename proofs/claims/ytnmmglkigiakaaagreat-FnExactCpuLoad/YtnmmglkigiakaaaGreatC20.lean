/- Contracts of the functions of chapter 3, of the program and of its specification: what each answers at every argument; no memory that was there is written. -/
import Derived.Test.YtnmmglkigiakaaaGreatC01
namespace Go.Proofs.YtnmmglkigiakaaaGreat
open Go.ChangeShapes Go.WideShapes Go.ChangeAt Go.RowKit

def beat (l u : Int) : Int := if 0 ≤ l ∧ l ≤ 8000000 ∧ 0 ≤ u ∧ u ≤ 1000000 then l - l / 8 + u else 0
def beatsN (l u : Int) : Nat → Int
  | 0 => l
  | k + 1 => beat (beatsN l u k) u
def beats (l u n : Int) : Int := if 0 ≤ n ∧ n ≤ 20 ∧ 0 ≤ l ∧ l ≤ 8000000 then beatsN l u n.toNat else 0
def dtop (u : Int) : Int := if 0 ≤ u ∧ u ≤ 1000000 then 8 * u else 0
theorem beat_bd (l u : Int) : 0 ≤ beat l u ∧ beat l u ≤ 8000000 := by unfold beat; split <;> omega
theorem beatsN_bd (l u : Int) (h1 : 0 ≤ l) (h2 : l ≤ 8000000) (k : Nat) : 0 ≤ beatsN l u k ∧ beatsN l u k ≤ 8000000 := by
  cases k with
  | zero => exact ⟨h1, h2⟩
  | succ k => exact beat_bd _ _

theorem bnd0 (w : World) : (Instr.index 173 (.agg #[.int .i64 8000000, .int .i64 1000000, .int .i64 20]) (.int .i64 0)).run Tryz.prog w = .ok (.int .i64 8000000) w := by kernel_rfl
theorem bnd1 (w : World) : (Instr.index 173 (.agg #[.int .i64 8000000, .int .i64 1000000, .int .i64 20]) (.int .i64 1)).run Tryz.prog w = .ok (.int .i64 1000000) w := by kernel_rfl
theorem bnd2 (w : World) : (Instr.index 173 (.agg #[.int .i64 8000000, .int .i64 1000000, .int .i64 20]) (.int .i64 2)).run Tryz.prog w = .ok (.int .i64 20) w := by kernel_rfl

set_option maxHeartbeats 1000000 in
theorem bounds_any (w : World) : Calls Tryz.prog 188 #[] w fun e w' => e = .returned (.agg #[.int .i64 8000000, .int .i64 1000000, .int .i64 20]) ∧ Below w.heap.size w w' := by
  go_enter Tryz.func188, Tryz.ntmps188
  go_wp2
  refine bodyPost_ret (v := .agg #[.int .i64 8000000, .int .i64 1000000, .int .i64 20]) (by simp [results, Tryz.results188, go_sem]) rfl ⟨rfl, ?_⟩
  exact (Below.refl _ _).alloc (Nat.le_refl _) _

theorem inB_yes (k m n : Int) (w : World) (hx : ∀ w, (Instr.index 173 (.agg #[.int .i64 8000000, .int .i64 1000000, .int .i64 20]) (.int .i64 k)).run Tryz.prog w = .ok (.int .i64 m) w) (h1 : 0 ≤ n) (h2 : n ≤ m) :
    Calls Tryz.prog 173 #[.int .i64 k, .int .i64 n] w fun e w' => e = .returned (.bool true) ∧ Below w.heap.size w w' := by
  go_enter Tryz.func173, Tryz.ntmps173
  go_wp2_with (go_at_call 188; refine (bounds_any _).mono ?_; rintro e w' ⟨rfl, hb⟩)
  go_ret
  exact ⟨rfl, hb⟩
theorem inB_no (k m n : Int) (w : World) (hx : ∀ w, (Instr.index 173 (.agg #[.int .i64 8000000, .int .i64 1000000, .int .i64 20]) (.int .i64 k)).run Tryz.prog w = .ok (.int .i64 m) w) (h : n < 0 ∨ m < n) :
    Calls Tryz.prog 173 #[.int .i64 k, .int .i64 n] w fun e w' => e = .returned (.bool false) ∧ Below w.heap.size w w' := by
  by_cases a : 0 ≤ n
  · have b : ¬ n ≤ m := by omega
    clear h
    go_enter Tryz.func173, Tryz.ntmps173
    go_wp2_with (go_at_call 188; refine (bounds_any _).mono ?_; rintro e w' ⟨rfl, hb⟩)
    have hd : decide (n ≤ m) = false := by simpa using b
    go_ret
    exact ⟨by simp [hd], hb⟩
  · clear h
    go_enter Tryz.func173, Tryz.ntmps173
    go_wp2
    go_ret
    exact ⟨rfl, Below.refl _ _⟩

def bndOf (k : Int) : Int := if k = 0 then 8000000 else if k = 1 then 1000000 else 20
def inBd (k n : Int) : Bool := decide (0 ≤ n ∧ n ≤ bndOf k)
theorem inBd_yes {k n : Int} (h1 : 0 ≤ n) (h2 : n ≤ bndOf k) : inBd k n = true := decide_eq_true ⟨h1, h2⟩
theorem inBd_no {k n : Int} (hh : n < 0 ∨ bndOf k < n) : inBd k n = false := decide_eq_false (by omega)
theorem inB_any (k n : Int) (w : World) (hk : k = 0 ∨ k = 1 ∨ k = 2) : Calls Tryz.prog 173 #[.int .i64 k, .int .i64 n] w fun e w' => e = .returned (.bool (inBd k n)) ∧ Below w.heap.size w w' := by
  have hx : ∀ w, (Instr.index 173 (.agg #[.int .i64 8000000, .int .i64 1000000, .int .i64 20]) (.int .i64 k)).run Tryz.prog w = .ok (.int .i64 (bndOf k)) w := by
    rcases hk with rfl | rfl | rfl
    · exact bnd0
    · exact bnd1
    · exact bnd2
  by_cases a : 0 ≤ n ∧ n ≤ bndOf k
  · rw [inBd_yes a.1 a.2]; exact inB_yes k _ n w hx a.1 a.2
  · rw [inBd_no (by omega)]; exact inB_no k _ n w hx (by omega)

end Go.Proofs.YtnmmglkigiakaaaGreat
