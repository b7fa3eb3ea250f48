/- What makes a pool one, as plain data; the specification's BandOk and BandFree, the program's. The program's BandOk. -/
import Derived.Test.YtnmmglkigiakaaaGreatD03
namespace Go.Proofs.YtnmmglkigiakaaaGreat
set_option maxRecDepth 100000
set_option maxHeartbeats 32000000
set_option linter.unusedVariables false
set_option linter.unusedSimpArgs false
open Go.ChangeShapes Go.WideShapes Go.ChangeAt Go.RowKit
def loAt (b : Ba) (k : Nat) : Int := b.lo[k]?.getD 0
def drAt (b : Ba) (k : Nat) : Bool := b.dr[k]?.getD false
def oneOk (b : Ba) (k : Nat) : Bool := l1in (loAt b k) 0 b.qu && !(drAt b k && (decide (0 < loAt b k) || decide (0 < b.po)))
def okTo (b : Ba) : Nat → Bool
  | 0 => true
  | k + 1 => okTo b k && oneOk b k
def sumTo (lo : List Int) : Nat → Int
  | 0 => 0
  | k + 1 => sumTo lo k + lo[k]?.getD 0
def headB (b : Ba) : Bool := l1in b.qu 1 10000 && (l1in b.lo.length 1 4 && (decide (b.dr.length = b.lo.length) && (l1in b.po 0 b.qu && l1in b.sp 0 b.qu)))
def bandOk (b : Ba) : Bool := headB b && (okTo b b.lo.length && decide (b.po + b.sp + sumTo b.lo b.lo.length = b.qu))
theorem okTo_mono {b : Ba} {k : Nat} (h : okTo b k = false) : ∀ n, k ≤ n → okTo b n = false := by
  intro n hn
  induction n with
  | zero => have : k = 0 := by omega
            subst this; exact h
  | succ n ih =>
    by_cases e : k = n + 1
    · subst e; exact h
    · show (okTo b n && _) = false
      rw [ih (by omega)]; rfl
theorem l1in_iff {n l h : Int} : l1in n l h = true ↔ l ≤ n ∧ n ≤ h := by unfold l1in; simp
theorem sumTo_bd {b : Ba} {n : Nat} (h : okTo b n = true) (hq : 0 ≤ b.qu) : 0 ≤ sumTo b.lo n ∧ sumTo b.lo n ≤ n * b.qu := by
  induction n with
  | zero => simp [sumTo]
  | succ n ih =>
    have h' : (okTo b n && oneOk b n) = true := h
    rw [Bool.and_eq_true] at h'
    have h1 := ih h'.1
    have h2 := h'.2
    unfold oneOk at h2
    rw [Bool.and_eq_true, l1in_iff] at h2
    have h3 := h2.1
    unfold loAt at h3
    show 0 ≤ sumTo b.lo n + b.lo[n]?.getD 0 ∧ sumTo b.lo n + b.lo[n]?.getD 0 ≤ _
    have : ((n + 1 : Nat) : Int) * b.qu = n * b.qu + b.qu := by rw [Int.natCast_add, Int.add_mul]; simp
    omega
theorem head_parts {b : Ba} (h : headB b = true) : (1 ≤ b.qu ∧ b.qu ≤ 10000) ∧ (1 ≤ b.lo.length ∧ b.lo.length ≤ 4) ∧ b.dr.length = b.lo.length ∧ (0 ≤ b.po ∧ b.po ≤ b.qu) ∧ (0 ≤ b.sp ∧ b.sp ≤ b.qu) := by
  unfold headB at h
  simp only [Bool.and_eq_true, l1in_iff, decide_eq_true_eq] at h
  omega

theorem spec_bandOk_yes (b : Ba) (x y : Value) (w : World) (hs : SlBa w x y b) (hh : headB b = true) :
    Calls Tryz.prog 102 #[baV b x y] w fun e w' => e = .returned (.bool (bandOk b)) ∧ Below w.heap.size w w' := by
  obtain ⟨⟨a1, a2⟩, ⟨a3, a4⟩, a5, ⟨a6, a7⟩, ⟨a8, a9⟩⟩ := head_parts hh
  obtain ⟨hx, hy⟩ := hs
  rcases hx with ⟨h0, _⟩ | ⟨g, o, cap, rfl, hE, hl, hm⟩
  · rw [h0] at a3; simp at a3
  rcases hy with ⟨h0, _⟩ | ⟨g', o', cap', rfl, hE', hl', hm'⟩
  · rw [h0] at a5; simp at a5; omega
  have i1 := l1in_iff.2 ⟨a1, a2⟩
  have i2 : l1in (b.lo.length : Int) 1 4 = true := l1in_iff.2 ⟨by omega, by omega⟩
  have i3 := l1in_iff.2 ⟨a6, a7⟩
  have i4 := l1in_iff.2 ⟨a8, a9⟩
  have a5' : ((b.dr.length : Nat) : Int) = (b.lo.length : Int) := by rw [a5]
  unfold maxLen at hm hm'
  have HH : Hid (headB b = true) := hh
  have H5 : Hid (b.dr.length = b.lo.length) := a5
  rw [a5]
  clear hh a5 a5'
  unfold baV
  go_enter Tryz.func102, Tryz.ntmps102
  go_wp2_with (go_at_call 33; refine (l1In_any _ _ _ _).mono ?_; rintro e w1 ⟨rfl, rfl⟩)
  clear i1 i2 i3 i4
  generalize hbx : Obj.cells #[Value.int .i64 b.qu, .int .i64 b.po, .int .i64 b.sp, .slice (some ⟨g, o, none⟩) b.lo.length cap, .slice (some ⟨g', o', none⟩) b.lo.length cap'] 81 (0, 0) = bx
  go_loopw [3, 4] (fun s i wr => ∃ k : Nat, k ≤ b.lo.length ∧ i = .int .i64 k ∧ s = .int .i64 (b.po + b.sp + sumTo b.lo k) ∧ okTo b k = true ∧ Below w.heap.size w wr ∧ wr.heap[w.heap.size]? = some bx) (fun _ i _ => b.lo.length - (intOf i).toNat)
  case atStart => exact ⟨0, by omega, rfl, by simp [sumTo], rfl, (Below.refl _ _).alloc (Nat.le_refl _) _, heap_alloc_new _ _⟩
  case round =>
    obtain ⟨k, hk, rfl, rfl, hok, acc, hb⟩ := hrel
    have HB : Hid (wr.heap[w.heap.size]? = some bx) := hb
    subst hbx
    obtain ⟨q0, q1, q2, q3, q4⟩ := bbox hb
    clear hb
    have hbd := sumTo_bd hok (by omega)
    have hbd2 : sumTo b.lo k ≤ 40000 := by
      have := Int.mul_le_mul_of_nonneg_right (show (k : Int) ≤ 4 by omega) (show 0 ≤ b.qu by omega)
      omega
    obtain ⟨hbd1, _⟩ := hbd
    by_cases hlt : k < b.lo.length
    · have hlt' : (k : Int) < (b.lo.length : Int) := by omega
      obtain ⟨n, he⟩ := int_get hlt
      have x0 := hE.below acc k n he
      obtain ⟨d, he'⟩ : ∃ d, b.dr[k]? = some d := ⟨b.dr[k]'(by rw [H5.out]; exact hlt), List.getElem?_eq_getElem _⟩
      have y0 := hE'.below acc k d he'
      have HO : Hid (oneOk b k = (l1in n 0 b.qu && !(d && (decide (0 < n) || decide (0 < b.po))))) := by show _ = _; unfold oneOk loAt drAt; rw [he, he']; rfl
      have HS : Hid (sumTo b.lo (k + 1) = sumTo b.lo k + n) := by show _ + _ = _; rw [he]; rfl
      have HF : Hid (okTo b (k + 1) = oneOk b k) := by show (okTo b k && _) = _; rw [hok]; rfl
      have HN : Hid (oneOk b k = false → bandOk b = false) := by
        intro hf
        unfold bandOk
        rw [okTo_mono (HF.out.trans hf) b.lo.length hlt]; simp
      clear he he'
      by_cases c1 : l1in n 0 b.qu = true
      · have c1' := l1in_iff.1 c1
        cases d
        · have HONE : Hid (oneOk b k = true) := by show _ = _; rw [HO.out, c1]; rfl
          go_wp2
          go_quiet ((go_at_call 33; exact Calls.quiet_of_same (l1In_any _ _ _ _)))
          go_wp2
          exact ⟨⟨k + 1, hlt, by go_num, by rw [HS.out, ← Int.add_assoc], HF.out.trans HONE.out, below_drewN acc _, HB.out⟩, by simp [intOf]; omega⟩
        · by_cases c2 : 0 < n
          · have HONE : Hid (oneOk b k = false) := by show _ = _; rw [HO.out]; rw [decide_eq_true c2]; simp
            go_wp2
            go_quiet ((go_at_call 33; exact Calls.quiet_of_same (l1In_any _ _ _ _)))
            go_wp2
            go_ret
            exact ⟨ret_bool (HN.out HONE.out).symm, below_drewN acc _⟩
          · by_cases c3 : 0 < b.po
            · have HONE : Hid (oneOk b k = false) := by show _ = _; rw [HO.out]; rw [decide_eq_true c3]; simp
              go_wp2
              go_quiet ((go_at_call 33; exact Calls.quiet_of_same (l1In_any _ _ _ _)))
              go_wp2
              go_ret
              exact ⟨ret_bool (HN.out HONE.out).symm, below_drewN acc _⟩
            · have HONE : Hid (oneOk b k = true) := by show _ = _; rw [HO.out, c1]; rw [decide_eq_false c2, decide_eq_false c3]; rfl
              go_wp2
              go_quiet ((go_at_call 33; exact Calls.quiet_of_same (l1In_any _ _ _ _)))
              go_wp2
              exact ⟨⟨k + 1, hlt, by go_num, by rw [HS.out, ← Int.add_assoc], HF.out.trans HONE.out, below_drewN acc _, HB.out⟩, by simp [intOf]; omega⟩
      · have c1' : l1in n 0 b.qu = false := by simpa using c1
        have HONE : Hid (oneOk b k = false) := by show _ = _; rw [HO.out]; rw [c1']; rfl
        go_wp2
        go_quiet ((go_at_call 33; exact Calls.quiet_of_same (l1In_any _ _ _ _)))
        go_wp2
        go_ret
        exact ⟨ret_bool (HN.out HONE.out).symm, below_drewN acc _⟩
    · have hlt' : ¬ (k : Int) < (b.lo.length : Int) := by omega
      have hkk : k = b.lo.length := by omega
      have HR : Hid (bandOk b = decide (b.po + b.sp + sumTo b.lo k = b.qu)) := by show _ = _; unfold bandOk; rw [HH.out, ← hkk, hok]; rfl
      clear hkk
      go_wp2
      go_ret
      refine ⟨ret_bool ?_, acc⟩
      rw [HR.out]
      first | rfl | exact beq_eq_decide _ _ | simp

theorem spec_bandOk_no (b : Ba) (x y : Value) (w : World) (hs : SlBa w x y b) (hh : headB b = false) :
    Calls Tryz.prog 102 #[baV b x y] w fun e w' => e = .returned (.bool (bandOk b)) ∧ Below w.heap.size w w' := by
  have HR : Hid (bandOk b = false) := by show _ = _; unfold bandOk; rw [hh]; rfl
  obtain ⟨hx, hy⟩ := hs
  obtain ⟨p, c, rfl, hl⟩ := hx.form
  obtain ⟨p', c', rfl, hd⟩ := hy.form
  clear hx hy
  unfold headB at hh
  unfold baV
  by_cases c1 : l1in b.qu 1 10000 = true
  · by_cases c2 : l1in (b.lo.length : Int) 1 4 = true
    · by_cases c3 : (b.dr.length : Int) = (b.lo.length : Int)
      · by_cases c4 : l1in b.po 0 b.qu = true
        · have c5 : l1in b.sp 0 b.qu = false := by
            rw [c1, c2, c4, decide_eq_true (by omega)] at hh; simpa using hh
          clear hh
          rw [show b.dr.length = b.lo.length by omega]
          clear c3
          go_enter Tryz.func102, Tryz.ntmps102
          go_wp2_with (go_at_call 33; refine (l1In_any _ _ _ _).mono ?_; rintro e w1 ⟨rfl, rfl⟩)
          go_ret
          exact ⟨ret_bool HR.out.symm, (Below.refl _ _).alloc (Nat.le_refl _) _⟩
        · have c4' : l1in b.po 0 b.qu = false := by simpa using c4
          clear hh c4
          go_enter Tryz.func102, Tryz.ntmps102
          go_wp2_with (go_at_call 33; refine (l1In_any _ _ _ _).mono ?_; rintro e w1 ⟨rfl, rfl⟩)
          go_ret
          exact ⟨ret_bool HR.out.symm, (Below.refl _ _).alloc (Nat.le_refl _) _⟩
      · clear hh
        go_enter Tryz.func102, Tryz.ntmps102
        go_wp2_with (go_at_call 33; refine (l1In_any _ _ _ _).mono ?_; rintro e w1 ⟨rfl, rfl⟩)
        go_ret
        exact ⟨ret_bool HR.out.symm, (Below.refl _ _).alloc (Nat.le_refl _) _⟩
    · have c2' : l1in (b.lo.length : Int) 1 4 = false := by simpa using c2
      clear hh c2
      go_enter Tryz.func102, Tryz.ntmps102
      go_wp2_with (go_at_call 33; refine (l1In_any _ _ _ _).mono ?_; rintro e w1 ⟨rfl, rfl⟩)
      go_ret
      exact ⟨ret_bool HR.out.symm, (Below.refl _ _).alloc (Nat.le_refl _) _⟩
  · have c1' : l1in b.qu 1 10000 = false := by simpa using c1
    clear hh c1
    go_enter Tryz.func102, Tryz.ntmps102
    go_wp2_with (go_at_call 33; refine (l1In_any _ _ _ _).mono ?_; rintro e w1 ⟨rfl, rfl⟩)
    go_ret
    exact ⟨ret_bool HR.out.symm, (Below.refl _ _).alloc (Nat.le_refl _) _⟩
theorem spec_bandOk (b : Ba) (x y : Value) (w : World) (hs : SlBa w x y b) :
    Calls Tryz.prog 102 #[baV b x y] w fun e w' => e = .returned (.bool (bandOk b)) ∧ Below w.heap.size w w' := by
  cases h : headB b
  · exact spec_bandOk_no b x y w hs h
  · exact spec_bandOk_yes b x y w hs h
theorem isQuota_any (n : Int) (w : World) : Calls Tryz.prog 186 #[.int .i64 n] w fun e w' => e = .returned (.bool (l1in n 1 10000)) ∧ w' = w := by
  by_cases a : 1 ≤ n
  · by_cases b : n ≤ 10000
    · have HT : Hid (l1in n 1 10000 = true) := l1in_iff.2 ⟨a, b⟩
      go_enter Tryz.func186, Tryz.ntmps186
      go_wp2
      go_ret
      exact ⟨ret_bool HT.out.symm, rfl⟩
    · have HT : Hid (l1in n 1 10000 = false) := l1in_no (by omega)
      go_enter Tryz.func186, Tryz.ntmps186
      go_wp2
      go_ret
      exact ⟨ret_bool HT.out.symm, rfl⟩
  · have HT : Hid (l1in n 1 10000 = false) := l1in_no (by omega)
    go_enter Tryz.func186, Tryz.ntmps186
    go_wp2
    go_ret
    exact ⟨ret_bool HT.out.symm, rfl⟩
theorem isCpuCount_any (n : Int) (w : World) : Calls Tryz.prog 127 #[.int .i64 n] w fun e w' => e = .returned (.bool (l1in n 1 4)) ∧ w' = w := by
  by_cases a : 1 ≤ n
  · by_cases b : n ≤ 4
    · have HT : Hid (l1in n 1 4 = true) := l1in_iff.2 ⟨a, b⟩
      go_enter Tryz.func127, Tryz.ntmps127
      go_wp2
      go_ret
      exact ⟨ret_bool HT.out.symm, rfl⟩
    · have HT : Hid (l1in n 1 4 = false) := l1in_no (by omega)
      go_enter Tryz.func127, Tryz.ntmps127
      go_wp2
      go_ret
      exact ⟨ret_bool HT.out.symm, rfl⟩
  · have HT : Hid (l1in n 1 4 = false) := l1in_no (by omega)
    go_enter Tryz.func127, Tryz.ntmps127
    go_wp2
    go_ret
    exact ⟨ret_bool HT.out.symm, rfl⟩
theorem isPartOf_any (q n : Int) (w : World) : Calls Tryz.prog 187 #[.int .i64 q, .int .i64 n] w fun e w' => e = .returned (.bool (l1in n 0 q)) ∧ w' = w := by
  by_cases a : 0 ≤ n
  · by_cases b : n ≤ q
    · have HT : Hid (l1in n 0 q = true) := l1in_iff.2 ⟨a, b⟩
      go_enter Tryz.func187, Tryz.ntmps187
      go_wp2
      go_ret
      exact ⟨ret_bool HT.out.symm, rfl⟩
    · have HT : Hid (l1in n 0 q = false) := l1in_no (by omega)
      go_enter Tryz.func187, Tryz.ntmps187
      go_wp2
      go_ret
      exact ⟨ret_bool HT.out.symm, rfl⟩
  · have HT : Hid (l1in n 0 q = false) := l1in_no (by omega)
    go_enter Tryz.func187, Tryz.ntmps187
    go_wp2
    go_ret
    exact ⟨ret_bool HT.out.symm, rfl⟩

theorem impl_bandOk_yes (b : Ba) (x y : Value) (w : World) (hs : SlBa w x y b) (hh : headB b = true) :
    Calls Tryz.prog 171 #[baV b x y] w fun e w' => e = .returned (.bool (bandOk b)) ∧ Below w.heap.size w w' := by
  obtain ⟨⟨a1, a2⟩, ⟨a3, a4⟩, a5, ⟨a6, a7⟩, ⟨a8, a9⟩⟩ := head_parts hh
  obtain ⟨hx, hy⟩ := hs
  rcases hx with ⟨h0, _⟩ | ⟨g, o, cap, rfl, hE, hl, hm⟩
  · rw [h0] at a3; simp at a3
  rcases hy with ⟨h0, _⟩ | ⟨g', o', cap', rfl, hE', hl', hm'⟩
  · rw [h0] at a5; simp at a5; omega
  have i1 := l1in_iff.2 ⟨a1, a2⟩
  have i2 : l1in (b.lo.length : Int) 1 4 = true := l1in_iff.2 ⟨by omega, by omega⟩
  have i3 := l1in_iff.2 ⟨a6, a7⟩
  have i4 := l1in_iff.2 ⟨a8, a9⟩
  unfold maxLen at hm hm'
  have HH : Hid (headB b = true) := hh
  have H5 : Hid (b.dr.length = b.lo.length) := a5
  rw [a5]
  clear hh a5
  unfold baV
  go_enter Tryz.func171, Tryz.ntmps171
  go_wp2_with (first | (go_at_call 186; refine (isQuota_any _ _).mono ?_; rintro e w1 ⟨rfl, rfl⟩) | (go_at_call 127; refine (isCpuCount_any _ _).mono ?_; rintro e w1 ⟨rfl, rfl⟩) | (go_at_call 187; refine (isPartOf_any _ _ _).mono ?_; rintro e w1 ⟨rfl, rfl⟩))
  clear i1 i2 i3 i4
  generalize hbx : Obj.cells #[Value.int .i64 b.qu, .int .i64 b.po, .int .i64 b.sp, .slice (some ⟨g, o, none⟩) b.lo.length cap, .slice (some ⟨g', o', none⟩) b.lo.length cap'] 81 (0, 0) = bx
  go_loopw [3, 48] (fun s i wr => ∃ k : Nat, k ≤ b.lo.length ∧ i = .int .i64 k ∧ s = .int .i64 (b.po + b.sp + sumTo b.lo k) ∧ okTo b k = true ∧ Below w.heap.size w wr ∧ wr.heap[w.heap.size]? = some bx) (fun _ i _ => b.lo.length - (intOf i).toNat)
  case atStart => exact ⟨0, by omega, rfl, by simp [sumTo], rfl, (Below.refl _ _).alloc (Nat.le_refl _) _, heap_alloc_new _ _⟩
  case round =>
    obtain ⟨k, hk, rfl, rfl, hok, acc, hb⟩ := hrel
    have HB : Hid (wr.heap[w.heap.size]? = some bx) := hb
    subst hbx
    obtain ⟨q0, q1, q2, q3, q4⟩ := bbox hb
    clear hb
    have hbd := sumTo_bd hok (by omega)
    have hbd2 : sumTo b.lo k ≤ 40000 := by
      have := Int.mul_le_mul_of_nonneg_right (show (k : Int) ≤ 4 by omega) (show 0 ≤ b.qu by omega)
      omega
    obtain ⟨hbd1, _⟩ := hbd
    by_cases hlt : k < b.lo.length
    · have hlt' : (k : Int) < (b.lo.length : Int) := by omega
      obtain ⟨n, he⟩ := int_get hlt
      have x0 := hE.below acc k n he
      obtain ⟨d, he'⟩ : ∃ d, b.dr[k]? = some d := ⟨b.dr[k]'(by rw [H5.out]; exact hlt), List.getElem?_eq_getElem _⟩
      have y0 := hE'.below acc k d he'
      have HO : Hid (oneOk b k = (l1in n 0 b.qu && !(d && (decide (0 < n) || decide (0 < b.po))))) := by show _ = _; unfold oneOk loAt drAt; rw [he, he']; rfl
      have HS : Hid (sumTo b.lo (k + 1) = sumTo b.lo k + n) := by show _ + _ = _; rw [he]; rfl
      have HF : Hid (okTo b (k + 1) = oneOk b k) := by show (okTo b k && _) = _; rw [hok]; rfl
      have HN : Hid (oneOk b k = false → bandOk b = false) := by
        intro hf
        unfold bandOk
        rw [okTo_mono (HF.out.trans hf) b.lo.length hlt]; simp
      clear he he'
      by_cases c1 : l1in n 0 b.qu = true
      · have c1' := l1in_iff.1 c1
        cases d
        · have HONE : Hid (oneOk b k = true) := by show _ = _; rw [HO.out, c1]; rfl
          go_wp2_with (go_at_call 187; refine (isPartOf_any _ _ _).mono ?_; rintro e w1 ⟨rfl, rfl⟩)
          exact ⟨⟨k + 1, hlt, by go_num, by rw [HS.out, ← Int.add_assoc], HF.out.trans HONE.out, acc, HB.out⟩, by simp [intOf]; omega⟩
        · by_cases c2 : 0 < n + b.po
          · have HONE : Hid (oneOk b k = false) := by show _ = _; rw [HO.out]; rcases (show 0 < n ∨ 0 < b.po by omega) with h | h <;> rw [decide_eq_true h] <;> simp
            go_wp2_with (go_at_call 187; refine (isPartOf_any _ _ _).mono ?_; rintro e w1 ⟨rfl, rfl⟩)
            go_ret
            exact ⟨ret_bool (HN.out HONE.out).symm, acc⟩
          · have HONE : Hid (oneOk b k = true) := by show _ = _; rw [HO.out, c1]; rw [decide_eq_false (show ¬ 0 < n by omega), decide_eq_false (show ¬ 0 < b.po by omega)]; rfl
            go_wp2_with (go_at_call 187; refine (isPartOf_any _ _ _).mono ?_; rintro e w1 ⟨rfl, rfl⟩)
            exact ⟨⟨k + 1, hlt, by go_num, by rw [HS.out, ← Int.add_assoc], HF.out.trans HONE.out, acc, HB.out⟩, by simp [intOf]; omega⟩
      · have c1' : l1in n 0 b.qu = false := by simpa using c1
        have HONE : Hid (oneOk b k = false) := by show _ = _; rw [HO.out]; rw [c1']; rfl
        go_wp2_with (go_at_call 187; refine (isPartOf_any _ _ _).mono ?_; rintro e w1 ⟨rfl, rfl⟩)
        go_ret
        exact ⟨ret_bool (HN.out HONE.out).symm, acc⟩
    · have hlt' : ¬ (k : Int) < (b.lo.length : Int) := by omega
      have hkk : k = b.lo.length := by omega
      have HR : Hid (bandOk b = decide (b.po + b.sp + sumTo b.lo k = b.qu)) := by show _ = _; unfold bandOk; rw [HH.out, ← hkk, hok]; rfl
      clear hkk
      go_wp2_with (go_at_call 187; refine (isPartOf_any _ _ _).mono ?_; rintro e w1 ⟨rfl, rfl⟩)
      go_ret
      refine ⟨ret_bool ?_, acc⟩
      rw [HR.out]
      first | rfl | exact beq_eq_decide _ _ | simp

theorem impl_bandOk_no (b : Ba) (x y : Value) (w : World) (hs : SlBa w x y b) (hh : headB b = false) :
    Calls Tryz.prog 171 #[baV b x y] w fun e w' => e = .returned (.bool (bandOk b)) ∧ Below w.heap.size w w' := by
  have HR : Hid (bandOk b = false) := by show _ = _; unfold bandOk; rw [hh]; rfl
  obtain ⟨hx, hy⟩ := hs
  obtain ⟨p, c, rfl, hl⟩ := hx.form
  obtain ⟨p', c', rfl, hd⟩ := hy.form
  clear hx hy
  unfold headB at hh
  unfold baV
  by_cases c1 : l1in b.qu 1 10000 = true
  · by_cases c2 : l1in (b.lo.length : Int) 1 4 = true
    · by_cases c3 : (b.dr.length : Int) = (b.lo.length : Int)
      · by_cases c4 : l1in b.po 0 b.qu = true
        · have c5 : l1in b.sp 0 b.qu = false := by
            rw [c1, c2, c4, decide_eq_true (by omega)] at hh; simpa using hh
          clear hh
          rw [show b.dr.length = b.lo.length by omega]
          clear c3
          go_enter Tryz.func171, Tryz.ntmps171
          go_wp2_with (first | (go_at_call 186; refine (isQuota_any _ _).mono ?_; rintro e w1 ⟨rfl, rfl⟩) | (go_at_call 127; refine (isCpuCount_any _ _).mono ?_; rintro e w1 ⟨rfl, rfl⟩) | (go_at_call 187; refine (isPartOf_any _ _ _).mono ?_; rintro e w1 ⟨rfl, rfl⟩))
          go_ret
          exact ⟨ret_bool HR.out.symm, (Below.refl _ _).alloc (Nat.le_refl _) _⟩
        · have c4' : l1in b.po 0 b.qu = false := by simpa using c4
          clear hh c4
          go_enter Tryz.func171, Tryz.ntmps171
          go_wp2_with (first | (go_at_call 186; refine (isQuota_any _ _).mono ?_; rintro e w1 ⟨rfl, rfl⟩) | (go_at_call 127; refine (isCpuCount_any _ _).mono ?_; rintro e w1 ⟨rfl, rfl⟩) | (go_at_call 187; refine (isPartOf_any _ _ _).mono ?_; rintro e w1 ⟨rfl, rfl⟩))
          go_ret
          exact ⟨ret_bool HR.out.symm, (Below.refl _ _).alloc (Nat.le_refl _) _⟩
      · clear hh
        go_enter Tryz.func171, Tryz.ntmps171
        go_wp2_with (first | (go_at_call 186; refine (isQuota_any _ _).mono ?_; rintro e w1 ⟨rfl, rfl⟩) | (go_at_call 127; refine (isCpuCount_any _ _).mono ?_; rintro e w1 ⟨rfl, rfl⟩) | (go_at_call 187; refine (isPartOf_any _ _ _).mono ?_; rintro e w1 ⟨rfl, rfl⟩))
        go_ret
        exact ⟨ret_bool HR.out.symm, (Below.refl _ _).alloc (Nat.le_refl _) _⟩
    · have c2' : l1in (b.lo.length : Int) 1 4 = false := by simpa using c2
      clear hh c2
      go_enter Tryz.func171, Tryz.ntmps171
      go_wp2_with (first | (go_at_call 186; refine (isQuota_any _ _).mono ?_; rintro e w1 ⟨rfl, rfl⟩) | (go_at_call 127; refine (isCpuCount_any _ _).mono ?_; rintro e w1 ⟨rfl, rfl⟩) | (go_at_call 187; refine (isPartOf_any _ _ _).mono ?_; rintro e w1 ⟨rfl, rfl⟩))
      go_ret
      exact ⟨ret_bool HR.out.symm, (Below.refl _ _).alloc (Nat.le_refl _) _⟩
  · have c1' : l1in b.qu 1 10000 = false := by simpa using c1
    clear hh c1
    go_enter Tryz.func171, Tryz.ntmps171
    go_wp2_with (first | (go_at_call 186; refine (isQuota_any _ _).mono ?_; rintro e w1 ⟨rfl, rfl⟩) | (go_at_call 127; refine (isCpuCount_any _ _).mono ?_; rintro e w1 ⟨rfl, rfl⟩) | (go_at_call 187; refine (isPartOf_any _ _ _).mono ?_; rintro e w1 ⟨rfl, rfl⟩))
    go_ret
    exact ⟨ret_bool HR.out.symm, (Below.refl _ _).alloc (Nat.le_refl _) _⟩
theorem impl_bandOk (b : Ba) (x y : Value) (w : World) (hs : SlBa w x y b) :
    Calls Tryz.prog 171 #[baV b x y] w fun e w' => e = .returned (.bool (bandOk b)) ∧ Below w.heap.size w w' := by
  cases h : headB b
  · exact impl_bandOk_no b x y w hs h
  · exact impl_bandOk_yes b x y w hs h
end Go.Proofs.YtnmmglkigiakaaaGreat
