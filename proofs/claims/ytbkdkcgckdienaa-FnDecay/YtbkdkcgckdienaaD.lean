/- Contracts of the functions of chapter 3, of the program and of its specification: what each answers at every argument; no memory that was there is written. -/
import Derived.Test.YtbkdkcgckdienaaW
namespace Go.Proofs.Ytbkdkcgckdienaa
open Go.ChangeShapes Go.WideShapes Go.ChangeAt Go.RowKit

def beat (l u : Int) : Int := if 0 ≤ l ∧ l ≤ 8000000 ∧ 0 ≤ u ∧ u ≤ 1000000 then l - l / 8 + u else 0
def beatsN (l u : Int) : Nat → Int
  | 0 => l
  | k + 1 => beat (beatsN l u k) u
def beats (l u n : Int) : Int := if 0 ≤ n ∧ n ≤ 20 ∧ 0 ≤ l ∧ l ≤ 8000000 then beatsN l u n.toNat else 0
def dtop (u : Int) : Int := if 0 ≤ u ∧ u ≤ 1000000 then 8 * u else 0
theorem beat_bd (l u : Int) : 0 ≤ beat l u ∧ beat l u ≤ 8000000 := by unfold beat; split <;> omega
theorem beatsN_bd (l u : Int) (h1 : 0 ≤ l) (h2 : l ≤ 8000000) (k : Nat) : 0 ≤ beatsN l u k ∧ beatsN l u k ≤ 8000000 := by
  cases k with
  | zero => exact ⟨h1, h2⟩
  | succ k => exact beat_bd _ _

theorem bnd0 (w : World) : (Instr.index 45 (.agg #[.int .i64 8000000, .int .i64 1000000, .int .i64 20]) (.int .i64 0)).run Try.prog w = .ok (.int .i64 8000000) w := by kernel_rfl
theorem bnd1 (w : World) : (Instr.index 45 (.agg #[.int .i64 8000000, .int .i64 1000000, .int .i64 20]) (.int .i64 1)).run Try.prog w = .ok (.int .i64 1000000) w := by kernel_rfl
theorem bnd2 (w : World) : (Instr.index 45 (.agg #[.int .i64 8000000, .int .i64 1000000, .int .i64 20]) (.int .i64 2)).run Try.prog w = .ok (.int .i64 20) w := by kernel_rfl

set_option maxHeartbeats 1000000 in
theorem bounds_any (w : World) : Calls Try.prog 47 #[] w fun e w' => e = .returned (.agg #[.int .i64 8000000, .int .i64 1000000, .int .i64 20]) ∧ Below w.heap.size w w' := by
  go_enter Try.func47, Try.ntmps47
  go_wp2
  refine bodyPost_ret (v := .agg #[.int .i64 8000000, .int .i64 1000000, .int .i64 20]) (by simp [results, Try.results47, go_sem]) rfl ⟨rfl, ?_⟩
  exact (Below.refl _ _).alloc (Nat.le_refl _) _

theorem inB_yes (k m n : Int) (w : World) (hx : ∀ w, (Instr.index 45 (.agg #[.int .i64 8000000, .int .i64 1000000, .int .i64 20]) (.int .i64 k)).run Try.prog w = .ok (.int .i64 m) w) (h1 : 0 ≤ n) (h2 : n ≤ m) :
    Calls Try.prog 46 #[.int .i64 k, .int .i64 n] w fun e w' => e = .returned (.bool true) ∧ Below w.heap.size w w' := by
  go_enter Try.func46, Try.ntmps46
  go_wp2_with (go_at_call 47; refine (bounds_any _).mono ?_; rintro e w' ⟨rfl, hb⟩)
  go_ret
  exact ⟨rfl, hb⟩
theorem inB_no (k m n : Int) (w : World) (hx : ∀ w, (Instr.index 45 (.agg #[.int .i64 8000000, .int .i64 1000000, .int .i64 20]) (.int .i64 k)).run Try.prog w = .ok (.int .i64 m) w) (h : n < 0 ∨ m < n) :
    Calls Try.prog 46 #[.int .i64 k, .int .i64 n] w fun e w' => e = .returned (.bool false) ∧ Below w.heap.size w w' := by
  by_cases a : 0 ≤ n
  · have b : ¬ n ≤ m := by omega
    clear h
    go_enter Try.func46, Try.ntmps46
    go_wp2_with (go_at_call 47; refine (bounds_any _).mono ?_; rintro e w' ⟨rfl, hb⟩)
    have hd : decide (n ≤ m) = false := by simpa using b
    go_ret
    exact ⟨by simp [hd], hb⟩
  · clear h
    go_enter Try.func46, Try.ntmps46
    go_wp2
    go_ret
    exact ⟨rfl, Below.refl _ _⟩

def bndOf (k : Int) : Int := if k = 0 then 8000000 else if k = 1 then 1000000 else 20
def inBd (k n : Int) : Bool := decide (0 ≤ n ∧ n ≤ bndOf k)
theorem inBd_yes {k n : Int} (h1 : 0 ≤ n) (h2 : n ≤ bndOf k) : inBd k n = true := decide_eq_true ⟨h1, h2⟩
theorem inBd_no {k n : Int} (hh : n < 0 ∨ bndOf k < n) : inBd k n = false := decide_eq_false (by omega)
theorem inB_any (k n : Int) (w : World) (hk : k = 0 ∨ k = 1 ∨ k = 2) : Calls Try.prog 46 #[.int .i64 k, .int .i64 n] w fun e w' => e = .returned (.bool (inBd k n)) ∧ Below w.heap.size w w' := by
  have hx : ∀ w, (Instr.index 45 (.agg #[.int .i64 8000000, .int .i64 1000000, .int .i64 20]) (.int .i64 k)).run Try.prog w = .ok (.int .i64 (bndOf k)) w := by
    rcases hk with rfl | rfl | rfl
    · exact bnd0
    · exact bnd1
    · exact bnd2
  by_cases a : 0 ≤ n ∧ n ≤ bndOf k
  · rw [inBd_yes a.1 a.2]; exact inB_yes k _ n w hx a.1 a.2
  · rw [inBd_no (by omega)]; exact inB_no k _ n w hx (by omega)

set_option maxHeartbeats 1000000 in
theorem impl_beat (l u : Int) (w : World) : Calls Try.prog 28 #[.int .i64 l, .int .i64 u] w fun e w' => e = .returned (.int .i64 (beat l u)) ∧ Below w.heap.size w w' := by
  have acc := Below.refl w.heap.size w
  have b0 : bndOf 0 = 8000000 := rfl
  have b1 : bndOf 1 = 1000000 := rfl
  have b2 : bndOf 2 = 20 := rfl
  by_cases a : 0 ≤ l ∧ l ≤ 8000000
  · by_cases c : 0 ≤ u ∧ u ≤ 1000000
    · have f1 := inBd_yes (k := 0) (n := l) (by omega) (by omega)
      have f2 := inBd_yes (k := 1) (n := u) (by omega) (by omega)
      obtain ⟨a, b⟩ := a
      obtain ⟨c, d⟩ := c
      rw [show beat l u = l - l / 8 + u by unfold beat; rw [if_pos (by omega)]]
      clear b0 b1 b2
      go_enter Try.func28, Try.ntmps28
      go_wp2_with (go_at_call 46; refine (inB_any _ _ _ (by decide)).mono ?_; rintro e w1 ⟨rfl, hb1⟩; replace acc := acc.trans (hb1.mono acc.size); clear hb1)
      go_ret
      exact ⟨rfl, acc⟩
    · have f1 := inBd_yes (k := 0) (n := l) (by omega) (by omega)
      have f2 := inBd_no (k := 1) (n := u) (by omega)
      rw [show beat l u = 0 by unfold beat; rw [if_neg (by omega)]]
      clear b0 b1 b2 a c
      go_enter Try.func28, Try.ntmps28
      go_wp2_with (go_at_call 46; refine (inB_any _ _ _ (by decide)).mono ?_; rintro e w1 ⟨rfl, hb1⟩; replace acc := acc.trans (hb1.mono acc.size); clear hb1)
      go_ret
      exact ⟨rfl, acc⟩
  · have f1 := inBd_no (k := 0) (n := l) (by omega)
    rw [show beat l u = 0 by unfold beat; rw [if_neg (by omega)]]
    clear b0 b1 b2 a
    go_enter Try.func28, Try.ntmps28
    go_wp2_with (go_at_call 46; refine (inB_any _ _ _ (by decide)).mono ?_; rintro e w1 ⟨rfl, hb1⟩; replace acc := acc.trans (hb1.mono acc.size); clear hb1)
    go_ret
    exact ⟨rfl, acc⟩

set_option maxHeartbeats 1000000 in
theorem spec_beat (l u : Int) (w : World) : Calls Try.prog 29 #[.int .i64 l, .int .i64 u] w fun e w' => e = .returned (.int .i64 (beat l u)) ∧ w' = w := by
  by_cases a : 0 ≤ l ∧ l ≤ 8000000
  · by_cases c : 0 ≤ u ∧ u ≤ 1000000
    · have f1 := l1in_yes (n := l) (l := 0) (h := 8000000) (by omega) (by omega)
      have f2 := l1in_yes (n := u) (l := 0) (h := 1000000) (by omega) (by omega)
      obtain ⟨a, b⟩ := a
      obtain ⟨c, d⟩ := c
      rw [show beat l u = l - l / 8 + u by unfold beat; rw [if_pos (by omega)]]
      go_enter Try.func29, Try.ntmps29
      go_wp2_with (go_at_call 42; refine (l1In_any _ _ _ _).mono ?_; rintro e w1 ⟨rfl, rfl⟩)
      go_ret
      exact ⟨rfl, rfl⟩
    · have f1 := l1in_yes (n := l) (l := 0) (h := 8000000) (by omega) (by omega)
      have f2 := l1in_no (n := u) (l := 0) (h := 1000000) (by omega)
      rw [show beat l u = 0 by unfold beat; rw [if_neg (by omega)]]
      clear a c
      go_enter Try.func29, Try.ntmps29
      go_wp2_with (go_at_call 42; refine (l1In_any _ _ _ _).mono ?_; rintro e w1 ⟨rfl, rfl⟩)
      go_ret
      exact ⟨rfl, rfl⟩
  · have f1 := l1in_no (n := l) (l := 0) (h := 8000000) (by omega)
    rw [show beat l u = 0 by unfold beat; rw [if_neg (by omega)]]
    clear a
    go_enter Try.func29, Try.ntmps29
    go_wp2_with (go_at_call 42; refine (l1In_any _ _ _ _).mono ?_; rintro e w1 ⟨rfl, rfl⟩)
    go_ret
    exact ⟨rfl, rfl⟩

set_option maxHeartbeats 1000000 in
theorem impl_beats (l u n : Int) (w : World) : Calls Try.prog 25 #[.int .i64 l, .int .i64 u, .int .i64 n] w fun e w' => e = .returned (.int .i64 (beats l u n)) ∧ Below w.heap.size w w' := by
  have acc := Below.refl w.heap.size w
  have b0 : bndOf 0 = 8000000 := rfl
  have b1 : bndOf 1 = 1000000 := rfl
  have b2 : bndOf 2 = 20 := rfl
  by_cases a : 0 ≤ n ∧ n ≤ 20
  · by_cases c : 0 ≤ l ∧ l ≤ 8000000
    · have f1 := inBd_yes (k := 2) (n := n) (by omega) (by omega)
      have f2 := inBd_yes (k := 0) (n := l) (by omega) (by omega)
      obtain ⟨a, b⟩ := a
      obtain ⟨c, d⟩ := c
      rw [show beats l u n = beatsN l u n.toNat by unfold beats; rw [if_pos (by omega)]]
      clear b0 b1 b2
      go_enter Try.func25, Try.ntmps25
      go_wp2_with (go_at_call 46; refine (inB_any _ _ _ (by decide)).mono ?_; rintro e w1 ⟨rfl, hb1⟩; replace acc := acc.trans (hb1.mono acc.size); clear hb1)
      go_loopw [0, 16] (fun x i wr => ∃ k : Nat, (k : Int) ≤ n ∧ i = .int .i64 k ∧ x = .int .i64 (beatsN l u k) ∧ Below w.heap.size w wr) (fun _ i _ => n.toNat - (intOf i).toNat)
      case atStart => exact ⟨0, by omega, rfl, rfl, acc⟩
      case round =>
        clear acc
        obtain ⟨k, hk, rfl, rfl, acc⟩ := hrel
        by_cases hlt : (k : Int) < n
        · go_wp2_with (go_at_call 28; refine (impl_beat _ _ _).mono ?_; rintro e w3 ⟨rfl, hb3⟩; replace acc := acc.trans (hb3.mono acc.size); clear hb3)
          go_roundw
          case rel => exact ⟨k + 1, by omega, by go_num, rfl, acc⟩
          case measure => simp [intOf]; omega
        · have hk' : k = n.toNat := by omega
          go_wp2
          go_ret
          exact ⟨ret_int (by first | rfl | rw [hk']), acc⟩
    · have f1 := inBd_yes (k := 2) (n := n) (by omega) (by omega)
      have f2 := inBd_no (k := 0) (n := l) (by omega)
      rw [show beats l u n = 0 by unfold beats; rw [if_neg (by omega)]]
      clear b0 b1 b2 a c
      go_enter Try.func25, Try.ntmps25
      go_wp2_with (go_at_call 46; refine (inB_any _ _ _ (by decide)).mono ?_; rintro e w1 ⟨rfl, hb1⟩; replace acc := acc.trans (hb1.mono acc.size); clear hb1)
      go_ret
      exact ⟨rfl, acc⟩
  · have f1 := inBd_no (k := 2) (n := n) (by omega)
    rw [show beats l u n = 0 by unfold beats; rw [if_neg (by omega)]]
    clear b0 b1 b2 a
    go_enter Try.func25, Try.ntmps25
    go_wp2_with (go_at_call 46; refine (inB_any _ _ _ (by decide)).mono ?_; rintro e w1 ⟨rfl, hb1⟩; replace acc := acc.trans (hb1.mono acc.size); clear hb1)
    go_ret
    exact ⟨rfl, acc⟩

set_option maxHeartbeats 1000000 in
theorem spec_beats (l u n : Int) (w : World) : Calls Try.prog 26 #[.int .i64 l, .int .i64 u, .int .i64 n] w fun e w' => e = .returned (.int .i64 (beats l u n)) ∧ w' = w := by
  by_cases a : 0 ≤ n ∧ n ≤ 20
  · by_cases c : 0 ≤ l ∧ l ≤ 8000000
    · have f1 := l1in_yes (n := n) (l := 0) (h := 20) (by omega) (by omega)
      have f2 := l1in_yes (n := l) (l := 0) (h := 8000000) (by omega) (by omega)
      obtain ⟨a, b⟩ := a
      obtain ⟨c, d⟩ := c
      rw [show beats l u n = beatsN l u n.toNat by unfold beats; rw [if_pos (by omega)]]
      go_enter Try.func26, Try.ntmps26
      go_wp2_with (go_at_call 42; refine (l1In_any _ _ _ _).mono ?_; rintro e w1 ⟨rfl, rfl⟩)
      go_loop [0, 7] (fun x i => ∃ k : Nat, (k : Int) ≤ n ∧ i = .int .i64 k ∧ x = .int .i64 (beatsN l u k)) (fun _ i => n.toNat - (intOf i).toNat)
      case atStart => exact ⟨0, by omega, rfl, rfl⟩
      case round =>
        obtain ⟨k, hk, rfl, rfl⟩ := hrel
        by_cases hlt : (k : Int) < n
        · go_wp2_with (go_at_call 29; refine (spec_beat _ _ _).mono ?_; rintro e w3 ⟨rfl, rfl⟩)
          go_round
          case rel => exact ⟨k + 1, by omega, by go_num, rfl⟩
          case measure => simp [intOf]; omega
        · have hk' : k = n.toNat := by omega
          go_wp2
          go_ret
          exact ⟨ret_int (by first | rfl | rw [hk']), rfl⟩
    · have f1 := l1in_yes (n := n) (l := 0) (h := 20) (by omega) (by omega)
      have f2 := l1in_no (n := l) (l := 0) (h := 8000000) (by omega)
      rw [show beats l u n = 0 by unfold beats; rw [if_neg (by omega)]]
      clear a c
      go_enter Try.func26, Try.ntmps26
      go_wp2_with (go_at_call 42; refine (l1In_any _ _ _ _).mono ?_; rintro e w1 ⟨rfl, rfl⟩)
      go_ret
      exact ⟨rfl, rfl⟩
  · have f1 := l1in_no (n := n) (l := 0) (h := 20) (by omega)
    rw [show beats l u n = 0 by unfold beats; rw [if_neg (by omega)]]
    clear a
    go_enter Try.func26, Try.ntmps26
    go_wp2_with (go_at_call 42; refine (l1In_any _ _ _ _).mono ?_; rintro e w1 ⟨rfl, rfl⟩)
    go_ret
    exact ⟨rfl, rfl⟩

theorem impl_dtop (u : Int) (w : World) : Calls Try.prog 27 #[.int .i64 u] w fun e w' => e = .returned (.int .i64 (dtop u)) ∧ Below w.heap.size w w' := by
  have acc := Below.refl w.heap.size w
  have b0 : bndOf 0 = 8000000 := rfl
  have b1 : bndOf 1 = 1000000 := rfl
  have b2 : bndOf 2 = 20 := rfl
  by_cases c : 0 ≤ u ∧ u ≤ 1000000
  · have f2 := inBd_yes (k := 1) (n := u) (by omega) (by omega)
    obtain ⟨c, d⟩ := c
    rw [show dtop u = 8 * u by unfold dtop; rw [if_pos (by omega)]]
    clear b0 b1 b2
    go_enter Try.func27, Try.ntmps27
    go_wp2_with (go_at_call 46; refine (inB_any _ _ _ (by decide)).mono ?_; rintro e w1 ⟨rfl, hb1⟩; replace acc := acc.trans (hb1.mono acc.size); clear hb1)
    go_ret
    exact ⟨rfl, acc⟩
  · have f2 := inBd_no (k := 1) (n := u) (by omega)
    rw [show dtop u = 0 by unfold dtop; rw [if_neg (by omega)]]
    clear b0 b1 b2 c
    go_enter Try.func27, Try.ntmps27
    go_wp2_with (go_at_call 46; refine (inB_any _ _ _ (by decide)).mono ?_; rintro e w1 ⟨rfl, hb1⟩; replace acc := acc.trans (hb1.mono acc.size); clear hb1)
    go_ret
    exact ⟨rfl, acc⟩
theorem spec_dtop (u : Int) (w : World) : Calls Try.prog 34 #[.int .i64 u] w fun e w' => e = .returned (.int .i64 (dtop u)) ∧ w' = w := by
  by_cases c : 0 ≤ u ∧ u ≤ 1000000
  · have f2 := l1in_yes (n := u) (l := 0) (h := 1000000) (by omega) (by omega)
    obtain ⟨c, d⟩ := c
    rw [show dtop u = 8 * u by unfold dtop; rw [if_pos (by omega)]]
    go_enter Try.func34, Try.ntmps34
    go_wp2_with (go_at_call 42; refine (l1In_any _ _ _ _).mono ?_; rintro e w1 ⟨rfl, rfl⟩)
    go_ret
    exact ⟨rfl, rfl⟩
  · have f2 := l1in_no (n := u) (l := 0) (h := 1000000) (by omega)
    rw [show dtop u = 0 by unfold dtop; rw [if_neg (by omega)]]
    clear c
    go_enter Try.func34, Try.ntmps34
    go_wp2_with (go_at_call 42; refine (l1In_any _ _ _ _).mono ?_; rintro e w1 ⟨rfl, rfl⟩)
    go_ret
    exact ⟨rfl, rfl⟩
end Go.Proofs.Ytbkdkcgckdienaa
