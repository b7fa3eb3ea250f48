/- Contracts of the functions that write a set of processors as a text, of the program and of its specification. -/
import Derived.Test.YtjfkonikcnlpjaaDoorM2
import Derived.Test.YtjfkonikcnlpjaaDoorShelf
import Derived.Deep.RegionWith
namespace Go.Proofs.YtjfkonikcnlpjaaDoor
open Go.ChangeShapes Go.WideShapes Go.ChangeAt Go.RowKit Go.Shelf

theorem others_fin : ∀ m : Fin 16, bits BinOp.andNot IntKind.i64 15 (m.val : Int) = 15 - (m.val : Int) := by decide +kernel
theorem set_others (m : Int) (w : World) (h1 : 0 ≤ m) (h2 : m ≤ 15) : Calls Tryd.prog 34 #[.int .i64 m] w fun e w' => e = .returned (.int .i64 (15 - m)) ∧ w' = w := by
  have hb : bits BinOp.andNot IntKind.i64 15 m = 15 - m := by
    obtain ⟨x, rfl⟩ := Int.eq_ofNat_of_zero_le h1
    exact others_fin ⟨x, by omega⟩
  go_enter Tryd.func34, Tryd.ntmps34
  go_wp2
  go_ret
  exact ⟨ret_int (by first | rfl | exact hb), rfl⟩

/-- where the run ends that begins at c. -/
def runL (m c : Int) : Int := if firstF (15 - m) c < 0 then 3 else firstF (15 - m) c - 1
theorem firstF_ge (m c : Int) : -1 ≤ firstF m c ∧ firstF m c ≤ 3 := by
  unfold firstF
  cases h : (cpusTo m 4).find? (fun x => decide (c ≤ x)) with
  | none => exact ⟨by decide, by decide⟩
  | some x =>
    have hx := List.mem_of_find?_eq_some h
    unfold cpusTo at hx
    rw [List.mem_filter, List.mem_map] at hx
    obtain ⟨⟨i, hi, rfl⟩, _⟩ := hx
    have := List.mem_range.1 hi
    simp
    omega
theorem set_runLast (m c : Int) (w : World) (h1 : 0 ≤ m) (h2 : m ≤ 15) : Calls Tryd.prog 30 #[.int .i64 m, .int .i64 c] w fun e w' => e = .returned (.int .i64 (runL m c)) ∧ Below w.heap.size w w' := by
  have hb := firstF_ge (15 - m) c
  by_cases a : firstF (15 - m) c < 0
  · rw [show runL m c = 3 by unfold runL; rw [if_pos a]]
    go_enter Tryd.func30, Tryd.ntmps30
    go_wp2_with (first | (go_at_call 34; refine (set_others _ _ h1 h2).mono ?_; rintro e w1 ⟨rfl, rfl⟩) | (go_at_call 25; refine (set_first _ _ _ (by omega) (by omega)).mono ?_; rintro e w2 ⟨rfl, hb2⟩))
    go_ret
    exact ⟨rfl, hb2⟩
  · rw [show runL m c = firstF (15 - m) c - 1 by unfold runL; rw [if_neg a]]
    go_enter Tryd.func30, Tryd.ntmps30
    go_wp2_with (first | (go_at_call 34; refine (set_others _ _ h1 h2).mono ?_; rintro e w1 ⟨rfl, rfl⟩) | (go_at_call 25; refine (set_first _ _ _ (by omega) (by omega)).mono ?_; rintro e w2 ⟨rfl, hb2⟩))
    go_ret
    exact ⟨rfl, hb2⟩

/-- the text of a processor. -/
def dg (c : Nat) : ByteArray := ⟨#[UInt8.ofNat (48 + c)]⟩
theorem dg_size (c : Nat) : (dg c).size = 1 := rfl
theorem dg_dec (c : Nat) (h : c < 4) : (⟨(Lib.decDigits c).toArray⟩ : ByteArray) = dg c := by
  have : c = 0 ∨ c = 1 ∨ c = 2 ∨ c = 3 := by omega
  rcases this with rfl | rfl | rfl | rfl <;> decide +kernel
def runTxt (f l : Nat) : ByteArray := if f = l then dg f else dg f ++ ⟨#[45]⟩ ++ dg l
theorem itoa_dg (c : Nat) (h : c < 4) (w : World) : Calls Tryd.prog 33 #[.int .i64 (c : Int)] w fun e w' => e = .returned (.string (dg c)) ∧ w' = w := by
  have := Tryd.strconv_Itoa_small c (by omega) w
  rw [dg_dec c h] at this
  exact this
theorem runText_any (f l : Nat) (w : World) (hf : f < 4) (hl : l < 4) : Calls Tryd.prog 29 #[.int .i64 (f : Int), .int .i64 (l : Int)] w fun e w' => e = .returned (.string (runTxt f l)) ∧ w' = w := by
  have s1 := dg_size f
  have s2 := dg_size l
  by_cases he : f = l
  · subst he
    rw [show runTxt f f = dg f by unfold runTxt; rw [if_pos rfl]]
    go_enter Tryd.func29, Tryd.ntmps29
    go_wp2_with (go_at_call 33; refine (itoa_dg f hf _).mono ?_; rintro e w1 ⟨rfl, rfl⟩)
    go_ret
    exact ⟨rfl, rfl⟩
  · have hd : ((f : Int) == (l : Int)) = false := by simp; omega
    rw [show runTxt f l = dg f ++ ⟨#[45]⟩ ++ dg l by unfold runTxt; rw [if_neg he]]
    go_enter Tryd.func29, Tryd.ntmps29
    go_wp2_with (first | (go_at_call_of 33 (Value.int IntKind.i64 (f : Int)); refine (itoa_dg f hf _).mono ?_; rintro e w1 ⟨rfl, rfl⟩) | (go_at_call_of 33 (Value.int IntKind.i64 (l : Int)); refine (itoa_dg l hl _).mono ?_; rintro e w1 ⟨rfl, rfl⟩))
    go_ret
    exact ⟨rfl, rfl⟩

theorem dg_nat (c : Nat) (h : c < 4) : ((UInt8.ofNat (48 + c)).toNat : Int) = 48 + (c : Int) := by
  have : c = 0 ∨ c = 1 ∨ c = 2 ∨ c = 3 := by omega
  rcases this with rfl | rfl | rfl | rfl <;> decide
theorem l2Digit_any (c : Nat) (w : World) (h : c < 4) : Calls Tryd.prog 27 #[.int .i64 (c : Int)] w fun e w' => e = .returned (.string (dg c)) ∧ Below w.heap.size w w' := by
  have hcv : Sem.run Tryd.prog (convert 22 9 (.slice (some ⟨w.heap.size, 0, none⟩) 1 1)) (w.alloc (.cells #[.int .u8 (48 + (c : Int))] 5)) = .ok (.string (dg c)) (w.alloc (.cells #[.int .u8 (48 + (c : Int))] 5)) := by
    have := run_convert_bytes_back (P := Tryd.prog) (w.alloc (.cells #[.int .u8 (48 + (c : Int))] 5)) 22 9 5 ⟨w.heap.size, 0, none⟩ 1 [UInt8.ofNat (48 + c)] Tryd.underlying22 Tryd.underlying5 Tryd.underlying9 ?_
    · exact this
    · intro j hj
      obtain rfl : j = 0 := by simpa using hj
      have ea : (⟨w.heap.size, 0, none⟩ : Addr).add 0 = ⟨w.heap.size, 0, none⟩ := by unfold Addr.add; split <;> simp_all
      rw [ea, cell_of_row _ _ 0 _ _ _ (heap_alloc_new w _)]
      show some (Value.int .u8 (48 + (c : Int))) = some (.int .u8 ((UInt8.ofNat (48 + c)).toNat : Int))
      rw [dg_nat c h]
  go_enter Tryd.func27, Tryd.ntmps27
  go_wp2
  go_ret
  exact ⟨rfl, (Below.refl _ _).alloc (Nat.le_refl _) _⟩

/-- whether a run begins at c. -/
def starts (m : Int) (c : Nat) : Bool := hasB m c && !(decide (0 < c) && hasB m ((c : Int) - 1))
def commaed (s : ByteArray) : ByteArray := if s.toList.isEmpty = true then s else s ++ ⟨#[44]⟩
def stepTxt (m : Int) (c : Nat) (s : ByteArray) : ByteArray :=
  if starts m c = true then (if (c : Int) < runL m c then commaed s ++ dg c ++ ⟨#[45]⟩ ++ dg (runL m c).toNat else commaed s ++ dg c) else s
def stx (m : Int) : Nat → ByteArray
  | 0 => ⟨#[]⟩
  | k + 1 => stepTxt m k (stx m k)
theorem commaed_size (s : ByteArray) : (commaed s).size ≤ s.size + 1 := by
  unfold commaed
  split
  · omega
  · rw [ByteArray.size_append]; exact Nat.le_refl _
theorem stx_size (m : Int) (k : Nat) : (stx m k).size ≤ 4 * k := by
  induction k with
  | zero => exact Nat.le_refl _
  | succ k ih =>
    show (stepTxt m k (stx m k)).size ≤ _
    have hc := commaed_size (stx m k)
    have d1 := dg_size k
    have d2 := dg_size (runL m k).toNat
    have d3 : (⟨#[45]⟩ : ByteArray).size = 1 := rfl
    unfold stepTxt
    split
    · split
      · simp only [ByteArray.size_append]; omega
      · simp only [ByteArray.size_append]; omega
    · omega
theorem end_fin : ∀ m : Fin 16, ∀ c e : Fin 4, c.val ≤ e.val → (∀ j : Fin 4, c.val ≤ j.val → j.val < e.val → hasB (m.val : Int) ((j.val : Int) + 1) = true) → hasB (m.val : Int) ((e.val : Int) + 1) = false → hasB (m.val : Int) (c.val : Int) = true → runL (m.val : Int) (c.val : Int) = (e.val : Int) := by decide +kernel
theorem end_eq {m : Int} {c e : Nat} (hm1 : 0 ≤ m) (hm2 : m ≤ 15) (hc : c ≤ e) (he : e < 4) (hr : ∀ j : Nat, c ≤ j → j < e → hasB m ((j : Int) + 1) = true) (hx : hasB m ((e : Int) + 1) = false) (hh : hasB m c = true) : runL m c = e := by
  obtain ⟨x, rfl⟩ := Int.eq_ofNat_of_zero_le hm1
  exact end_fin ⟨x, by omega⟩ ⟨c, by omega⟩ ⟨e, he⟩ hc (fun j h1 h2 => hr j.val h1 h2) hx hh

set_option maxRecDepth 100000 in
set_option maxHeartbeats 4000000 in
theorem spec_text (m : Int) (w : World) : Calls Tryd.prog 17 #[.int .i64 m] w fun e w' => e = .returned (.string (stx m 4)) ∧ Below w.heap.size w w' := by
  go_enter Tryd.func17, Tryd.ntmps17
  go_wp2
  go_loopw [3, 4, 5] (fun s i _ wr => ∃ k : Nat, k ≤ 4 ∧ i = .int .i64 k ∧ s = .string (stx m k) ∧ Below w.heap.size w wr) (fun _ i _ _ => 4 - (intOf i).toNat)
  case atStart => exact ⟨0, by omega, rfl, rfl, Below.refl _ _⟩
  case round =>
    obtain ⟨k, hk, rfl, rfl, acc⟩ := hrel
    by_cases hlt : k < 4
    · have hsz := stx_size m k
      by_cases hh : hasB m k = true
      · by_cases h0 : 0 < k ∧ hasB m ((k : Int) - 1) = true
        · obtain ⟨h0, h1⟩ := h0
          have hp : (0 : Int) < (k : Int) := by omega
          have HS : Hid (stx m (k + 1) = stx m k) := by
            show stepTxt m k (stx m k) = stx m k
            unfold stepTxt starts; rw [hh, h1, decide_eq_true h0]; rfl
          go_wp2_with (go_at_call 21; refine (spec_has _ _ _).mono ?_; rintro e w1 ⟨rfl, rfl⟩)
          go_roundw
          case rel => exact ⟨k + 1, by omega, by go_num, by rw [HS.out], acc⟩
          case measure => simp [intOf]; omega
        · have hst : starts m k = true := by
            unfold starts; rw [hh]
            by_cases z : 0 < k
            · have : hasB m ((k : Int) - 1) = false := by
                cases hq : hasB m ((k : Int) - 1)
                · rfl
                · exact absurd ⟨z, hq⟩ h0
              rw [this]; simp
            · rw [decide_eq_false z]; rfl
          have hm : 0 ≤ m ∧ m ≤ 15 := by
            by_cases hm : 0 ≤ m ∧ m ≤ 15
            · exact hm
            · rw [hasB_m (by omega)] at hh; cases hh
          have hrest : k = 0 ∨ (0 < k ∧ hasB m ((k : Int) - 1) = false) := by
            by_cases z : 0 < k
            · refine .inr ⟨z, ?_⟩
              cases hq : hasB m ((k : Int) - 1)
              · rfl
              · exact absurd ⟨z, hq⟩ h0
            · exact .inl (by omega)
          clear h0
          have hg : (¬ (0 : Int) < (k : Int)) ∨ ((0 : Int) < (k : Int) ∧ hasB m ((k : Int) - 1) = false) := by
            rcases hrest with h0 | ⟨h0, h1⟩
            · exact .inl (by omega)
            · exact .inr ⟨by omega, h1⟩
          clear hrest
          have s1 := dg_size k
          rcases hg with hg | ⟨hg, h1⟩
          all_goals
            go_wp2_with (go_at_call 21; refine (spec_has _ _ _).mono ?_; rintro e w1 ⟨rfl, rfl⟩)
            go_loop [5] (fun v => ∃ e : Nat, k ≤ e ∧ e < 4 ∧ v = .int .i64 e ∧ ∀ j : Nat, k ≤ j → j < e → hasB m ((j : Int) + 1) = true) (fun v => 4 - (intOf v).toNat)
            case atStart => exact ⟨k, by omega, by omega, rfl, fun j h1 h2 => by omega⟩
            case round =>
              obtain ⟨e, he1, he2, rfl, hr⟩ := hrel
              have HR : Hid (∀ j : Nat, k ≤ j → j < e → hasB m ((j : Int) + 1) = true) := hr
              clear hr
              have s2 := dg_size e
              by_cases hn : hasB m ((e : Int) + 1) = true
              · have he3 : e + 1 < 4 := by
                  by_cases q : e + 1 < 4
                  · exact q
                  · rw [hasB_c (by omega)] at hn; cases hn
                go_wp2_with (go_at_call 21; refine (spec_has _ _ _).mono ?_; rintro e w1 ⟨rfl, rfl⟩)
                go_round
                case rel => exact ⟨e + 1, by omega, he3, by go_num, fun j h1 h2 => by
                  by_cases q : j = e
                  · subst q; exact hn
                  · exact HR.out j h1 (by omega)⟩
                case measure => simp [intOf]; omega
              · have hn' : hasB m ((e : Int) + 1) = false := by simpa using hn
                have HE : Hid (runL m (k : Int) = (e : Int)) := end_eq hm.1 hm.2 he1 he2 HR.out hn' hh
                by_cases hem : (stx m k).toList.isEmpty = true
                · by_cases hgt : (k : Int) < (e : Int)
                  · have HS : Hid (stx m (k + 1) = stx m k ++ dg k ++ ⟨#[45]⟩ ++ dg e) := by
                      show stepTxt m k (stx m k) = _
                      unfold stepTxt commaed
                      rw [if_pos hst, HE.out, if_pos hgt, if_pos hem, Int.toNat_natCast]
                    go_wp2_with (first | (go_at_call 21; refine (spec_has _ _ _).mono ?_; rintro e w1 ⟨rfl, rfl⟩) | (go_at_call_of 27 (Value.int IntKind.i64 (k : Int)); refine (l2Digit_any k _ (by omega)).mono ?_; rintro e1 w2 ⟨rfl, hb1⟩; replace acc := acc.trans (hb1.mono acc.size); clear hb1) | (go_at_call_of 27 (Value.int IntKind.i64 (e : Int)); refine (l2Digit_any e _ (by omega)).mono ?_; rintro e1 w2 ⟨rfl, hb1⟩; replace acc := acc.trans (hb1.mono acc.size); clear hb1))
                    go_roundw
                    case rel => exact ⟨k + 1, by omega, by go_num, by rw [HS.out], acc⟩
                    case measure => simp [intOf]; omega
                  · have HS : Hid (stx m (k + 1) = stx m k ++ dg k) := by
                      show stepTxt m k (stx m k) = _
                      unfold stepTxt commaed
                      rw [if_pos hst, HE.out, if_neg hgt, if_pos hem]
                    go_wp2_with (first | (go_at_call 21; refine (spec_has _ _ _).mono ?_; rintro e w1 ⟨rfl, rfl⟩) | (go_at_call_of 27 (Value.int IntKind.i64 (k : Int)); refine (l2Digit_any k _ (by omega)).mono ?_; rintro e1 w2 ⟨rfl, hb1⟩; replace acc := acc.trans (hb1.mono acc.size); clear hb1) | (go_at_call_of 27 (Value.int IntKind.i64 (e : Int)); refine (l2Digit_any e _ (by omega)).mono ?_; rintro e1 w2 ⟨rfl, hb1⟩; replace acc := acc.trans (hb1.mono acc.size); clear hb1))
                    go_roundw
                    case rel => exact ⟨k + 1, by omega, by go_num, by rw [HS.out], acc⟩
                    case measure => simp [intOf]; omega
                · have hem' : (stx m k).toList.isEmpty = false := by simpa using hem
                  by_cases hgt : (k : Int) < (e : Int)
                  · have HS : Hid (stx m (k + 1) = stx m k ++ ⟨#[44]⟩ ++ dg k ++ ⟨#[45]⟩ ++ dg e) := by
                      show stepTxt m k (stx m k) = _
                      unfold stepTxt commaed
                      rw [if_pos hst, HE.out, if_pos hgt, if_neg hem, Int.toNat_natCast]
                    go_wp2_with (first | (go_at_call 21; refine (spec_has _ _ _).mono ?_; rintro e w1 ⟨rfl, rfl⟩) | (go_at_call_of 27 (Value.int IntKind.i64 (k : Int)); refine (l2Digit_any k _ (by omega)).mono ?_; rintro e1 w2 ⟨rfl, hb1⟩; replace acc := acc.trans (hb1.mono acc.size); clear hb1) | (go_at_call_of 27 (Value.int IntKind.i64 (e : Int)); refine (l2Digit_any e _ (by omega)).mono ?_; rintro e1 w2 ⟨rfl, hb1⟩; replace acc := acc.trans (hb1.mono acc.size); clear hb1))
                    go_roundw
                    case rel => exact ⟨k + 1, by omega, by go_num, by rw [HS.out], acc⟩
                    case measure => simp [intOf]; omega
                  · have HS : Hid (stx m (k + 1) = stx m k ++ ⟨#[44]⟩ ++ dg k) := by
                      show stepTxt m k (stx m k) = _
                      unfold stepTxt commaed
                      rw [if_pos hst, HE.out, if_neg hgt, if_neg hem]
                    go_wp2_with (first | (go_at_call 21; refine (spec_has _ _ _).mono ?_; rintro e w1 ⟨rfl, rfl⟩) | (go_at_call_of 27 (Value.int IntKind.i64 (k : Int)); refine (l2Digit_any k _ (by omega)).mono ?_; rintro e1 w2 ⟨rfl, hb1⟩; replace acc := acc.trans (hb1.mono acc.size); clear hb1) | (go_at_call_of 27 (Value.int IntKind.i64 (e : Int)); refine (l2Digit_any e _ (by omega)).mono ?_; rintro e1 w2 ⟨rfl, hb1⟩; replace acc := acc.trans (hb1.mono acc.size); clear hb1))
                    go_roundw
                    case rel => exact ⟨k + 1, by omega, by go_num, by rw [HS.out], acc⟩
                    case measure => simp [intOf]; omega
      · have hf : hasB m k = false := by simpa using hh
        have HS : Hid (stx m (k + 1) = stx m k) := by
          show stepTxt m k (stx m k) = stx m k
          unfold stepTxt starts; rw [hf]; rfl
        go_wp2_with (go_at_call 21; refine (spec_has _ _ _).mono ?_; rintro e w1 ⟨rfl, rfl⟩)
        go_roundw
        case rel => exact ⟨k + 1, by omega, by go_num, by rw [HS.out], acc⟩
        case measure => simp [intOf]; omega
    · have : k = 4 := by omega
      subst this
      go_wp2
      go_ret
      exact ⟨rfl, acc⟩
end Go.Proofs.YtjfkonikcnlpjaaDoor
