/- Contracts of MaskRead, of the program and of its specification. -/
import Derived.Test.YtjfkonikcnlpjaaDoorT
namespace Go.Proofs.YtjfkonikcnlpjaaDoor
open Go.ChangeShapes Go.WideShapes Go.ChangeAt Go.RowKit Go.Shelf

/-- the first set, from k on and of f of them, whose text is s. -/
def rdFrom (s : ByteArray) : Nat → Nat → Int × Bool
  | 0, _ => (0, false)
  | f + 1, k => if (s.toList == (stx (k : Int) 4).toList) = true then ((k : Int), true) else rdFrom s f (k + 1)
def rdM (s : ByteArray) : Int × Bool := rdFrom s 15 1
theorem rd_hit {s : ByteArray} {k : Nat} (hk : k < 16) (h : (s.toList == (stx (k : Int) 4).toList) = true) : rdFrom s (16 - k) k = ((k : Int), true) := by
  rw [show 16 - k = (15 - k) + 1 by omega]; show (if _ then _ else _) = _; rw [if_pos h]
theorem rd_miss {s : ByteArray} {k : Nat} (hk : k < 16) (h : (s.toList == (stx (k : Int) 4).toList) = false) : rdFrom s (16 - k) k = rdFrom s (16 - (k + 1)) (k + 1) := by
  rw [show 16 - k = (15 - k) + 1 by omega, show 16 - (k + 1) = 15 - k by omega]; show (if _ then _ else _) = _; rw [if_neg (by rw [h]; simp)]

set_option maxHeartbeats 1000000 in
theorem impl_read (s : ByteArray) (w : World) : Calls Tryd.prog 11 #[.string s] w fun e w' => e = .returned (.tuple #[.int .i64 (rdM s).1, .bool (rdM s).2]) ∧ Below w.heap.size w w' := by
  go_enter Tryd.func11, Tryd.ntmps11
  go_wp2
  go_loopw [4] (fun i wr => ∃ k : Nat, 1 ≤ k ∧ k ≤ 16 ∧ i = .int .i64 k ∧ Hid (rdFrom s (16 - k) k = rdM s) ∧ Below w.heap.size w wr) (fun i _ => 16 - (intOf i).toNat)
  case atStart => exact ⟨1, by omega, by omega, rfl, rfl, Below.refl _ _⟩
  case round =>
    obtain ⟨k, hk1, hk2, rfl, hr, acc⟩ := hrel
    by_cases hlt : k < 16
    · have hle : (k : Int) ≤ 15 := by omega
      by_cases hh : (s.toList == (stx (k : Int) 4).toList) = true
      · have H1 : Hid (rdM s = ((k : Int), true)) := hr.out.symm.trans (rd_hit hlt hh)
        go_wp2_with (go_at_call 10; refine (impl_text _ _).mono ?_; rintro e w1 ⟨rfl, hb1⟩)
        go_ret2
        exact ⟨by rw [H1.out]; rfl, acc.trans (hb1.mono acc.size)⟩
      · have hh' : (s.toList == (stx (k : Int) 4).toList) = false := by simpa using hh
        clear hh
        go_wp2_with (go_at_call 10; refine (impl_text _ _).mono ?_; rintro e w1 ⟨rfl, hb1⟩)
        go_roundw
        case rel => exact ⟨k + 1, by omega, by omega, by go_num, (rd_miss hlt hh').symm.trans hr.out, acc.trans (hb1.mono acc.size)⟩
        case measure => simp [intOf]; omega
    · have hle : ¬ (k : Int) ≤ 15 := by omega
      have : k = 16 := by omega
      have H1 : Hid (rdM s = (0, false)) := by subst this; exact hr.out.symm
      go_wp2
      go_ret2
      exact ⟨by rw [H1.out]; rfl, acc⟩
set_option maxHeartbeats 1000000 in
theorem spec_read (s : ByteArray) (w : World) : Calls Tryd.prog 16 #[.string s] w fun e w' => e = .returned (.tuple #[.int .i64 (rdM s).1, .bool (rdM s).2]) ∧ Below w.heap.size w w' := by
  go_enter Tryd.func16, Tryd.ntmps16
  go_wp2
  go_loopw [4] (fun i wr => ∃ k : Nat, 1 ≤ k ∧ k ≤ 16 ∧ i = .int .i64 k ∧ Hid (rdFrom s (16 - k) k = rdM s) ∧ Below w.heap.size w wr) (fun i _ => 16 - (intOf i).toNat)
  case atStart => exact ⟨1, by omega, by omega, rfl, rfl, Below.refl _ _⟩
  case round =>
    obtain ⟨k, hk1, hk2, rfl, hr, acc⟩ := hrel
    have hcm : ((stx (k : Int) 4).toList == s.toList) = (s.toList == (stx (k : Int) 4).toList) := BEq.comm
    by_cases hlt : k < 16
    · have f1 := okB_yes (m := (k : Int)) (by omega) (by omega)
      by_cases hh : (s.toList == (stx (k : Int) 4).toList) = true
      · have H1 : Hid (rdM s = ((k : Int), true)) := hr.out.symm.trans (rd_hit hlt hh)
        rw [hh] at hcm
        clear hh
        go_wp2_with (first | (go_at_call 17; refine (spec_text _ _).mono ?_; rintro e w1 ⟨rfl, hb1⟩) | (go_at_call 12; refine (spec_ok _ _).mono ?_; rintro e w1 ⟨rfl, rfl⟩))
        go_ret2
        exact ⟨by rw [H1.out]; rfl, acc.trans (hb1.mono acc.size)⟩
      · have hh' : (s.toList == (stx (k : Int) 4).toList) = false := by simpa using hh
        have H2 : Hid (rdFrom s (16 - (k + 1)) (k + 1) = rdM s) := (rd_miss hlt hh').symm.trans hr.out
        rw [hh'] at hcm
        clear hh hh'
        go_wp2_with (first | (go_at_call 17; refine (spec_text _ _).mono ?_; rintro e w1 ⟨rfl, hb1⟩) | (go_at_call 12; refine (spec_ok _ _).mono ?_; rintro e w1 ⟨rfl, rfl⟩))
        go_roundw
        case rel => exact ⟨k + 1, by omega, by omega, by go_num, H2, acc.trans (hb1.mono acc.size)⟩
        case measure => simp [intOf]; omega
    · have f1 := okB_no (m := (k : Int)) (by omega)
      have : k = 16 := by omega
      have H1 : Hid (rdM s = (0, false)) := by subst this; exact hr.out.symm
      clear hcm
      go_wp2_with (go_at_call 12; refine (spec_ok _ _).mono ?_; rintro e w1 ⟨rfl, rfl⟩)
      go_ret2
      exact ⟨by rw [H1.out]; rfl, acc⟩
end Go.Proofs.YtjfkonikcnlpjaaDoor
