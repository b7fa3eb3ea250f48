/- The specification's QueueApart and QueueWait. -/
import Derived.Test.YtbifcjfjenpmnaaQP
namespace Go.Proofs.Ytbifcjfjenpmnaa
open Go.ChangeShapes Go.WideShapes Go.ChangeAt Go.RowKit

def apartQ (a b : Int) : Int := if (wB a && wB b) = true then 149 * (a + b) else 0
set_option maxHeartbeats 2000000 in
theorem spec_apart (a b : Int) (w : World) : Calls Try.prog 35 #[.int .i64 a, .int .i64 b] w fun e w' => e = .returned (.int .i64 (apartQ a b)) ∧ Below w.heap.size w w' := by
  by_cases ha : wB a = true
  · by_cases hb : wB b = true
    · have a1 := wB_iff.1 ha
      have b1 := wB_iff.1 hb
      have HA : Hid (apartQ a b = 149 * (a + b)) := by show _ = _; unfold apartQ; rw [ha, hb]; rfl
      go_enter Try.func35, Try.ntmps35
      go_wp2_with (go_at_call 65; refine (l1Weight_any _ _).mono ?_; rintro e w1 ⟨rfl, rfl⟩)
      go_ret
      exact ⟨ret_int (by rw [HA.out]), Below.refl _ _⟩
    · have hb' : wB b = false := by simpa using hb
      have HA : Hid (apartQ a b = 0) := by show _ = _; unfold apartQ; rw [hb']; simp
      go_enter Try.func35, Try.ntmps35
      go_wp2_with (go_at_call 65; refine (l1Weight_any _ _).mono ?_; rintro e w1 ⟨rfl, rfl⟩)
      go_ret
      exact ⟨ret_int (by rw [HA.out]), Below.refl _ _⟩
  · have ha' : wB a = false := by simpa using ha
    have HA : Hid (apartQ a b = 0) := by show _ = _; unfold apartQ; rw [ha']; simp
    go_enter Try.func35, Try.ntmps35
    go_wp2_with (go_at_call 65; refine (l1Weight_any _ _).mono ?_; rintro e w1 ⟨rfl, rfl⟩)
    go_ret
    exact ⟨ret_int (by rw [HA.out]), Below.refl _ _⟩

def wAt (es : List Ent) (i : Nat) : Int := ((es[i]?).map (·.w)).getD 0
def waitTo (es : List Ent) (a goal n : Int) : Nat → Int
  | 0 => n
  | k + 1 => if (decide ((k : Int) ≠ a) && onAt es k) = true then waitTo es a goal n k + vunits (goal - vAt es k) (wAt es k) + 50 - 1 + 100 else waitTo es a goal n k
def waitOk (q : Qu) (a b : Int) : Bool := quOk q && (decide (0 ≤ a ∧ a ≤ (q.es.length : Int) - 1) && (decide (1 ≤ b ∧ b ≤ 100000000) && onAt q.es a.toNat))
def waitQ (q : Qu) (a b : Int) : Int := if waitOk q a b = true then waitTo q.es a (vAt q.es a.toNat + vstep b (wAt q.es a.toNat)) b q.es.length else 0
theorem vunits_bd (v n : Int) : 0 ≤ vunits v n ∧ vunits v n ≤ 30000000000 := by
  unfold vunits
  split
  · rename_i h
    obtain ⟨h1, h2⟩ := div_bd n h.2.2.1 h.2.2.2
    generalize 232792560 / n = d at h1 h2
    have hd : 0 < d := by omega
    refine ⟨Int.ediv_nonneg (by omega) (by omega), ?_⟩
    have : (v + d - 1) / d < 30000000001 := by
      refine Int.ediv_lt_of_lt_mul hd ?_
      have : (30000000001 : Int) * 11639628 ≤ 30000000001 * d := Int.mul_le_mul_of_nonneg_left h1 (by decide)
      omega
    omega
  · omega
theorem waitTo_bd (es : List Ent) (a goal n : Int) (k : Nat) : n ≤ waitTo es a goal n k ∧ waitTo es a goal n k ≤ n + (k : Int) * 30000000149 := by
  induction k with
  | zero => show n ≤ n ∧ n ≤ _; omega
  | succ k ih =>
    have hb := vunits_bd (goal - vAt es k) (wAt es k)
    have e : waitTo es a goal n (k + 1) = if (decide ((k : Int) ≠ a) && onAt es k) = true then waitTo es a goal n k + vunits (goal - vAt es k) (wAt es k) + 50 - 1 + 100 else waitTo es a goal n k := rfl
    rw [e]
    by_cases hc : (decide ((k : Int) ≠ a) && onAt es k) = true
    · rw [if_pos hc]; omega
    · rw [if_neg hc]; omega

set_option maxHeartbeats 4000000 in
theorem spec_queueWait (q : Qu) (sl : Value) (w : World) (a b : Int) (hs : SlE w sl q.es) :
    Calls Try.prog 13 #[quV q sl, .int .i64 a, .int .i64 b] w fun e w' => e = .returned (.int .i64 (waitQ q a b)) ∧ Below w.heap.size w w' := by
  have hB : ∀ A, Below w.heap.size w (w.alloc A) := fun A => (Below.refl _ _).alloc (Nat.le_refl _) _
  by_cases hok : quOk q = true
  · have hh : headOk q = true := by unfold quOk at hok; simp at hok; exact hok.1.1
    have h20 : 1 ≤ q.es.length ∧ q.es.length ≤ 20 := by unfold headOk at hh; simp at hh; omega
    rcases hs with ⟨h0, _⟩ | ⟨g, o, cap, rfl, hE, hl, hm⟩
    · rw [h0] at h20; simp at h20
    have hs : SlE w (.slice (some ⟨g, o, none⟩) q.es.length cap) q.es := .inr ⟨g, o, cap, rfl, hE, hl, hm⟩
    unfold maxLen at hm
    by_cases ha : 0 ≤ a ∧ a ≤ (q.es.length : Int) - 1
    · have f1 := l1in_yes (n := a) (l := 0) (h := (q.es.length : Int) - 1) ha.1 ha.2
      by_cases hb : 1 ≤ b ∧ b ≤ 100000000
      · have f2 := l1in_yes (n := b) (l := 1) (h := 100000000) hb.1 hb.2
        have hai : a.toNat < q.es.length := by omega
        have hal : a < (q.es.length : Int) := by omega
        have ha0 : 0 ≤ a := ha.1
        obtain ⟨e, he, ho, hv⟩ := ent_get hai
        by_cases hon : e.on = true
        · have hall : ∀ x ∈ q.es, timeB x.v = true := by
            intro x hx
            unfold quOk at hok; simp at hok
            have := hok.1.2 x hx
            unfold entOk at this; simp at this; exact this.1.1.2
          have hev := timeB_iff.1 (hall e (List.mem_of_getElem? he))
          have hvs := vstep_bd b e.w
          have hwa : wAt q.es a.toNat = e.w := by unfold wAt; rw [he]; rfl
          have HW : Hid (waitQ q a b = waitTo q.es a (e.v + vstep b e.w) b q.es.length) := by
            show _ = _; unfold waitQ waitOk; rw [hok, ho, hon, decide_eq_true ha, decide_eq_true hb, hv, hwa]; rfl
          have hb1 := hb.1
          have hb2' := hb.2
          clear ha hb
          unfold quV
          go_enter Try.func13, Try.ntmps13
          go_wp2_with (first | (go_at_call 16; refine (spec_queueOk q _ _ (hs.below (hB _))).mono ?_; rintro e1 w2 ⟨rfl, hb2⟩; obtain ⟨hb3, hbx, hlt⟩ := box_kept hb2; obtain ⟨q0, q1, q2, q3⟩ := qbox hbx; obtain ⟨x0, x1, x2, x3⟩ := hE.below hb3 _ e he) | (go_at_call 44; refine (l1In_any _ _ _ _).mono ?_; rintro e w1 ⟨rfl, rfl⟩))
          have hlw : w.heap.size < w1.heap.size := hlt
          have HB : Hid (w1.heap[w.heap.size]? = _) := hbx
          have HE : Hid (EntAt w1 g o q.es) := hE.below hb3
          clear hbx hb2
          go_quiet ((go_at_call 45; exact Calls.quiet_of_same (spec_vstep _ _ _)))
          go_wp2
          clear x0 x1 x2 x3 q0 q1 q2 q3
          go_loopw [8, 9] (fun n j wr => ∃ k : Nat, k ≤ q.es.length ∧ j = .int .i64 k ∧ n = .int .i64 (waitTo q.es a (e.v + vstep b e.w) b k) ∧ Below w1.heap.size w1 wr) (fun _ j _ => q.es.length - (intOf j).toNat)
          case atStart => exact ⟨0, by omega, rfl, rfl, below_drewN (Below.refl _ _) _⟩
          case round =>
            obtain ⟨k, hk, rfl, rfl, acc⟩ := hrel
            obtain ⟨q0, q1, q2, q3⟩ := qbox ((acc.block _ hlw).trans HB.out)
            clear q0 q1 q2
            by_cases hkl : k < q.es.length
            · have hkl' : (k : Int) < (q.es.length : Int) := by omega
              obtain ⟨y, hy, hyo, hyv⟩ := ent_get hkl
              obtain ⟨y0, y1, y2, y3⟩ := HE.out.below acc k y hy
              have hyw : wAt q.es k = y.w := by unfold wAt; rw [hy]; rfl
              have hyt := timeB_iff.1 (hall y (List.mem_of_getElem? hy))
              have hwb := waitTo_bd q.es a (e.v + vstep b e.w) b k
              have hub := vunits_bd (e.v + vstep b e.w - y.v) y.w
              have hst : waitTo q.es a (e.v + vstep b e.w) b (k + 1) = if (decide ((k : Int) ≠ a) && y.on) = true then waitTo q.es a (e.v + vstep b e.w) b k + vunits (e.v + vstep b e.w - y.v) y.w + 50 - 1 + 100 else waitTo q.es a (e.v + vstep b e.w) b k := by
                rw [← hyo, ← hyv, ← hyw]; rfl
              have hk20 : (k : Int) ≤ 20 := by omega
              by_cases c1 : (k : Int) = a
              · have HS : Hid (waitTo q.es a (e.v + vstep b e.w) b (k + 1) = waitTo q.es a (e.v + vstep b e.w) b k) := by
                  show _ = _; rw [hst]; simp [c1]
                clear hst
                go_wp2
                exact ⟨⟨k + 1, hkl, by rw [← c1]; go_num, by rw [HS.out], acc⟩, by rw [← c1]; simp [intOf]; omega⟩
              · by_cases c2 : y.on = true
                · have HS : Hid (waitTo q.es a (e.v + vstep b e.w) b (k + 1) = waitTo q.es a (e.v + vstep b e.w) b k + vunits (e.v + vstep b e.w - y.v) y.w + 50 - 1 + 100) := by
                    show _ = _; rw [hst, c2]; simp [c1]
                  clear hst
                  rw [c2] at y0
                  go_wp2
                  go_quiet ((go_at_call 46; exact Calls.quiet_of_same (spec_vunits _ _ _)))
                  go_wp2
                  exact ⟨⟨k + 1, hkl, by go_num, by rw [HS.out], below_drewN acc _⟩, by simp [intOf]; omega⟩
                · have c2' : y.on = false := by simpa using c2
                  have HS : Hid (waitTo q.es a (e.v + vstep b e.w) b (k + 1) = waitTo q.es a (e.v + vstep b e.w) b k) := by
                    show _ = _; rw [hst, c2']; simp
                  clear hst
                  rw [c2'] at y0
                  go_wp2
                  exact ⟨⟨k + 1, hkl, by go_num, by rw [HS.out], acc⟩, by simp [intOf]; omega⟩
            · have hkk : k = q.es.length := by omega
              have hkl' : ¬ (k : Int) < (q.es.length : Int) := by omega
              have HW2 : Hid (waitQ q a b = waitTo q.es a (e.v + vstep b e.w) b k) := by show _ = _; rw [hkk]; exact HW.out
              clear hkk
              go_wp2
              go_ret
              exact ⟨ret_int HW2.out.symm, hb3.trans (acc.mono hb3.size)⟩
        · have hon' : e.on = false := by simpa using hon
          have HW : Hid (waitQ q a b = 0) := by show _ = _; unfold waitQ waitOk; rw [ho, hon']; simp
          unfold quV
          go_enter Try.func13, Try.ntmps13
          go_wp2_with (first | (go_at_call 16; refine (spec_queueOk q _ _ (hs.below (hB _))).mono ?_; rintro e1 w2 ⟨rfl, hb2⟩; obtain ⟨hb3, hbx, hlt⟩ := box_kept hb2; obtain ⟨q0, q1, q2, q3⟩ := qbox hbx; obtain ⟨x0, x1, x2, x3⟩ := hE.below hb3 _ e he) | (go_at_call 44; refine (l1In_any _ _ _ _).mono ?_; rintro e w1 ⟨rfl, rfl⟩))
          go_ret
          exact ⟨ret_int HW.out.symm, hb3⟩
      · have f2 := l1in_no (n := b) (l := 1) (h := 100000000) (by omega)
        have HW : Hid (waitQ q a b = 0) := by show _ = _; unfold waitQ waitOk; rw [decide_eq_false hb]; simp
        unfold quV
        go_enter Try.func13, Try.ntmps13
        go_wp2_with (first | (go_at_call 16; refine (spec_queueOk q _ _ (hs.below (hB _))).mono ?_; rintro e1 w2 ⟨rfl, hb2⟩; obtain ⟨hb3, hbx, hlt⟩ := box_kept hb2; obtain ⟨q0, q1, q2, q3⟩ := qbox hbx) | (go_at_call 44; refine (l1In_any _ _ _ _).mono ?_; rintro e w1 ⟨rfl, rfl⟩))
        go_ret
        exact ⟨ret_int HW.out.symm, hb3⟩
    · have f1 := l1in_no (n := a) (l := 0) (h := (q.es.length : Int) - 1) (by omega)
      have HW : Hid (waitQ q a b = 0) := by show _ = _; unfold waitQ waitOk; rw [hok, decide_eq_false ha]; rfl
      unfold quV
      go_enter Try.func13, Try.ntmps13
      go_wp2_with (first | (go_at_call 16; refine (spec_queueOk q _ _ (hs.below (hB _))).mono ?_; rintro e1 w2 ⟨rfl, hb2⟩; obtain ⟨hb3, hbx, hlt⟩ := box_kept hb2; obtain ⟨q0, q1, q2, q3⟩ := qbox hbx) | (go_at_call 44; refine (l1In_any _ _ _ _).mono ?_; rintro e w1 ⟨rfl, rfl⟩))
      go_ret
      exact ⟨ret_int HW.out.symm, hb3⟩
  · have hno : quOk q = false := by simpa using hok
    have HW : Hid (waitQ q a b = 0) := by show _ = _; unfold waitQ waitOk; rw [hno]; rfl
    unfold quV
    go_enter Try.func13, Try.ntmps13
    go_wp2_with (go_at_call 16; refine (spec_queueOk q sl _ (hs.below (hB _))).mono ?_; rintro e1 w2 ⟨rfl, hb2⟩)
    go_ret
    exact ⟨ret_int HW.out.symm, (box_kept hb2).1⟩
end Go.Proofs.Ytbifcjfjenpmnaa
