/- The program's QueueWait, at every queue. -/
import Derived.Test.YtbifcjfjenpmnaaQO
namespace Go.Proofs.Ytbifcjfjenpmnaa
open Go.ChangeShapes Go.WideShapes Go.ChangeAt Go.RowKit

set_option maxHeartbeats 4000000 in
theorem impl_queueWait (q : Qu) (sl : Value) (w : World) (a b : Int) (hs : SlE w sl q.es) (hn : q.es.length ≤ 1048576) :
    Calls Try.prog 12 #[quV q sl, .int .i64 a, .int .i64 b] w fun e w' => e = .returned (.int .i64 (waitQ q a b)) ∧ Below w.heap.size w w' := by
  have hB : ∀ A, Below w.heap.size w (w.alloc A) := fun A => (Below.refl _ _).alloc (Nat.le_refl _) _
  by_cases hok : quOk q = true
  · have hh : headOk q = true := by unfold quOk at hok; simp at hok; exact hok.1.1
    have h20 : 1 ≤ q.es.length ∧ q.es.length ≤ 20 := by unfold headOk at hh; simp at hh; omega
    rcases hs with ⟨h0, _⟩ | ⟨g, o, cap, rfl, hE, hl, hm⟩
    · rw [h0] at h20; simp at h20
    have hs : SlE w (.slice (some ⟨g, o, none⟩) q.es.length cap) q.es := .inr ⟨g, o, cap, rfl, hE, hl, hm⟩
    unfold maxLen at hm
    by_cases ha : 0 ≤ a ∧ a < (q.es.length : Int)
    · have f1 : placeB a q.es.length = true := decide_eq_true ha
      have hai : a.toNat < q.es.length := by omega
      have hal : a < (q.es.length : Int) := ha.2
      have ha0 : 0 ≤ a := ha.1
      have ha' : 0 ≤ a ∧ a ≤ (q.es.length : Int) - 1 := by omega
      obtain ⟨e, he, ho, hv⟩ := ent_get hai
      by_cases hon : e.on = true
      · by_cases hb : 1 ≤ b ∧ b ≤ 100000000
        · have hall : ∀ x ∈ q.es, timeB x.v = true := by
            intro x hx
            unfold quOk at hok; simp at hok
            have := hok.1.2 x hx
            unfold entOk at this; simp at this; exact this.1.1.2
          have hev := timeB_iff.1 (hall e (List.mem_of_getElem? he))
          have hvs := vstep_bd b e.w
          have hwa : wAt q.es a.toNat = e.w := by unfold wAt; rw [he]; rfl
          have HW : Hid (waitQ q a b = waitTo q.es a (e.v + vstep b e.w) b q.es.length) := by
            show _ = _; unfold waitQ waitOk; rw [hok, ho, hon, decide_eq_true ha', decide_eq_true hb, hv, hwa]; rfl
          have hb1 := hb.1
          have hb2' := hb.2
          clear ha hb ha'
          unfold quV
          go_enter Try.func12, Try.ntmps12
          go_wp2_with (first | (go_at_call 18; refine (impl_queueOk q _ _ (hs.below (hB _)) hn).mono ?_; rintro e1 w2 ⟨rfl, hb2⟩; obtain ⟨hb3, hbx, hlt⟩ := box_kept hb2; obtain ⟨q0, q1, q2, q3⟩ := qbox hbx) | (go_at_call 41; refine (isPlace_any _ _ _ _ _ _ _ _ (by omega)).mono ?_; rintro e1 w3 ⟨rfl, hb4⟩; clear q0 q1 q2 q3; have hby := (hb4.block _ hlt).trans hbx; have hlt3 := Nat.lt_of_lt_of_le hlt hb4.size; have hb5 := hb3.trans (hb4.mono hb3.size); obtain ⟨q0, q1, q2, q3⟩ := qbox hby; obtain ⟨x0, x1, x2, x3⟩ := hE.below hb5 _ e he))
          have HB : Hid (w3.heap[w.heap.size]? = _) := hby
          have HE : Hid (EntAt w3 g o q.es) := hE.below hb5
          clear hbx hb2 hby
          go_region_held3 (fun w' => w'.cell? ⟨w.heap.size, 3, none⟩ = some (.slice (some ⟨g, o, none⟩) q.es.length cap) ∧ w'.cell? ⟨g, o + a.toNat * 4 + 1, none⟩ = some (.int .i64 e.v) ∧ w'.cell? ⟨g, o + a.toNat * 4 + 2, none⟩ = some (.int .i64 e.w)) (go_keep) (first | (go_at_call 42; refine (impl_vstep _ _ _).mono ?_; rintro e1 w4 ⟨rfl, hb6⟩; have hb7 := (Below.refl _ w3).drew.trans hb6; clear hb6; have hlt4 := Nat.lt_of_lt_of_le hlt3 hb7.size; obtain ⟨z0, z1, z2, z3⟩ := qbox ((hb7.block _ hlt3).trans HB.out); obtain ⟨y0, y1, y2, y3⟩ := HE.out.below hb7 _ e he))
          rw [wrapI (x := e.v + vstep b e.w) (by omega) (by omega)]
          have hb8 := hb5.trans (hb7.mono hb5.size)
          clear x0 x1 x2 x3 q0 q1 q2 q3
          go_wp2
          clear y0 y1 y2 y3 z0 z1 z2 z3
          go_loopw [8, 56] (fun n j wr => ∃ k : Nat, k ≤ q.es.length ∧ j = .int .i64 k ∧ n = .int .i64 (waitTo q.es a (e.v + vstep b e.w) b k) ∧ Below w4.heap.size w4 wr) (fun _ j _ => q.es.length - (intOf j).toNat)
          case atStart => exact ⟨0, by omega, rfl, rfl, Below.refl _ _⟩
          case round =>
            obtain ⟨k, hk, rfl, rfl, acc⟩ := hrel
            by_cases hkl : k < q.es.length
            · have hkl' : (k : Int) < (q.es.length : Int) := by omega
              obtain ⟨y, hy, hyo, hyv⟩ := ent_get hkl
              obtain ⟨y0, y1, y2, y3⟩ := (HE.out.below hb7).below acc k y hy
              have hyw : wAt q.es k = y.w := by unfold wAt; rw [hy]; rfl
              have hyt := timeB_iff.1 (hall y (List.mem_of_getElem? hy))
              have hwb := waitTo_bd q.es a (e.v + vstep b e.w) b k
              have hub := vunits_bd (e.v + vstep b e.w - y.v) y.w
              have hst : waitTo q.es a (e.v + vstep b e.w) b (k + 1) = if (decide ((k : Int) ≠ a) && y.on) = true then waitTo q.es a (e.v + vstep b e.w) b k + vunits (e.v + vstep b e.w - y.v) y.w + 50 - 1 + 100 else waitTo q.es a (e.v + vstep b e.w) b k := by
                rw [← hyo, ← hyv, ← hyw]; rfl
              have hk20 : (k : Int) ≤ 20 := by omega
              by_cases c1 : (k : Int) = a
              · have HS : Hid (waitTo q.es a (e.v + vstep b e.w) b (k + 1) = waitTo q.es a (e.v + vstep b e.w) b k) := by
                  show _ = _; rw [hst]; simp [c1]
                clear hst
                have hka : k = a.toNat := by omega
                rw [hka] at y0 y1 y2 y3
                clear hka
                go_wp2
                exact ⟨⟨k + 1, hkl, by rw [← c1]; go_num, by rw [HS.out], acc.alloc acc.size _⟩, by rw [← c1]; simp [intOf]; omega⟩
              · by_cases c2 : y.on = true
                · have HS : Hid (waitTo q.es a (e.v + vstep b e.w) b (k + 1) = waitTo q.es a (e.v + vstep b e.w) b k + (vunits (e.v + vstep b e.w - y.v) y.w + 149)) := by
                    show _ = _; rw [hst, c2]; simp [c1]; omega
                  clear hst
                  rw [c2] at y0
                  go_wp2_with (go_at_call 43; refine (impl_vunits _ _ _).mono ?_; rintro e1 w5 ⟨rfl, hb9⟩; obtain ⟨hb10, hbz, hlt5⟩ := box_kept hb9; clear hb9 hbz)
                  exact ⟨⟨k + 1, hkl, by go_num, by rw [HS.out], acc.trans (hb10.mono acc.size)⟩, by simp [intOf]; omega⟩
                · have c2' : y.on = false := by simpa using c2
                  have HS : Hid (waitTo q.es a (e.v + vstep b e.w) b (k + 1) = waitTo q.es a (e.v + vstep b e.w) b k) := by
                    show _ = _; rw [hst, c2']; simp
                  clear hst
                  rw [c2'] at y0
                  go_wp2
                  exact ⟨⟨k + 1, hkl, by go_num, by rw [HS.out], acc.alloc acc.size _⟩, by simp [intOf]; omega⟩
            · have hkk : k = q.es.length := by omega
              have hkl' : ¬ (k : Int) < (q.es.length : Int) := by omega
              have HW2 : Hid (waitQ q a b = waitTo q.es a (e.v + vstep b e.w) b k) := by show _ = _; rw [hkk]; exact HW.out
              clear hkk
              go_wp2
              go_ret
              exact ⟨ret_int HW2.out.symm, hb8.trans (acc.mono hb8.size)⟩
        · have HW : Hid (waitQ q a b = 0) := by show _ = _; unfold waitQ waitOk; rw [decide_eq_false hb]; simp
          have hb' : b < 1 ∨ 100000000 < b := by omega
          clear hb
          unfold quV
          rcases hb' with hb' | hb'
          · go_enter Try.func12, Try.ntmps12
            go_wp2_with (first | (go_at_call 18; refine (impl_queueOk q _ _ (hs.below (hB _)) hn).mono ?_; rintro e1 w2 ⟨rfl, hb2⟩; obtain ⟨hb3, hbx, hlt⟩ := box_kept hb2; obtain ⟨q0, q1, q2, q3⟩ := qbox hbx) | (go_at_call 41; refine (isPlace_any _ _ _ _ _ _ _ _ (by omega)).mono ?_; rintro e1 w3 ⟨rfl, hb4⟩; clear q0 q1 q2 q3; have hby := (hb4.block _ hlt).trans hbx; have hlt3 := Nat.lt_of_lt_of_le hlt hb4.size; have hb5 := hb3.trans (hb4.mono hb3.size); obtain ⟨q0, q1, q2, q3⟩ := qbox hby; obtain ⟨x0, x1, x2, x3⟩ := hE.below hb5 _ e he))
            go_ret
            exact ⟨ret_int HW.out.symm, hb5⟩
          · have hb'' : ¬ b < 1 := by omega
            go_enter Try.func12, Try.ntmps12
            go_wp2_with (first | (go_at_call 18; refine (impl_queueOk q _ _ (hs.below (hB _)) hn).mono ?_; rintro e1 w2 ⟨rfl, hb2⟩; obtain ⟨hb3, hbx, hlt⟩ := box_kept hb2; obtain ⟨q0, q1, q2, q3⟩ := qbox hbx) | (go_at_call 41; refine (isPlace_any _ _ _ _ _ _ _ _ (by omega)).mono ?_; rintro e1 w3 ⟨rfl, hb4⟩; clear q0 q1 q2 q3; have hby := (hb4.block _ hlt).trans hbx; have hlt3 := Nat.lt_of_lt_of_le hlt hb4.size; have hb5 := hb3.trans (hb4.mono hb3.size); obtain ⟨q0, q1, q2, q3⟩ := qbox hby; obtain ⟨x0, x1, x2, x3⟩ := hE.below hb5 _ e he))
            go_ret
            exact ⟨ret_int HW.out.symm, hb5⟩
      · have hon' : e.on = false := by simpa using hon
        have HW : Hid (waitQ q a b = 0) := by show _ = _; unfold waitQ waitOk; rw [ho, hon']; simp
        unfold quV
        go_enter Try.func12, Try.ntmps12
        go_wp2_with (first | (go_at_call 18; refine (impl_queueOk q _ _ (hs.below (hB _)) hn).mono ?_; rintro e1 w2 ⟨rfl, hb2⟩; obtain ⟨hb3, hbx, hlt⟩ := box_kept hb2; obtain ⟨q0, q1, q2, q3⟩ := qbox hbx) | (go_at_call 41; refine (isPlace_any _ _ _ _ _ _ _ _ (by omega)).mono ?_; rintro e1 w3 ⟨rfl, hb4⟩; clear q0 q1 q2 q3; have hby := (hb4.block _ hlt).trans hbx; have hlt3 := Nat.lt_of_lt_of_le hlt hb4.size; have hb5 := hb3.trans (hb4.mono hb3.size); obtain ⟨q0, q1, q2, q3⟩ := qbox hby; obtain ⟨x0, x1, x2, x3⟩ := hE.below hb5 _ e he))
        go_ret
        exact ⟨ret_int HW.out.symm, hb5⟩
    · have f1 : placeB a q.es.length = false := decide_eq_false ha
      have ha' : ¬ (0 ≤ a ∧ a ≤ (q.es.length : Int) - 1) := by omega
      have HW : Hid (waitQ q a b = 0) := by show _ = _; unfold waitQ waitOk; rw [hok, decide_eq_false ha']; rfl
      clear ha ha'
      unfold quV
      go_enter Try.func12, Try.ntmps12
      go_wp2_with (first | (go_at_call 18; refine (impl_queueOk q _ _ (hs.below (hB _)) hn).mono ?_; rintro e1 w2 ⟨rfl, hb2⟩; obtain ⟨hb3, hbx, hlt⟩ := box_kept hb2; obtain ⟨q0, q1, q2, q3⟩ := qbox hbx) | (go_at_call 41; refine (isPlace_any _ _ _ _ _ _ _ _ (by omega)).mono ?_; rintro e1 w3 ⟨rfl, hb4⟩; clear q0 q1 q2 q3; have hby := (hb4.block _ hlt).trans hbx; have hlt3 := Nat.lt_of_lt_of_le hlt hb4.size; have hb5 := hb3.trans (hb4.mono hb3.size); obtain ⟨q0, q1, q2, q3⟩ := qbox hby))
      go_ret
      exact ⟨ret_int HW.out.symm, hb5⟩
  · have hno : quOk q = false := by simpa using hok
    have HW : Hid (waitQ q a b = 0) := by show _ = _; unfold waitQ waitOk; rw [hno]; rfl
    unfold quV
    go_enter Try.func12, Try.ntmps12
    go_wp2_with (go_at_call 18; refine (impl_queueOk q sl _ (hs.below (hB _)) hn).mono ?_; rintro e1 w2 ⟨rfl, hb2⟩)
    go_ret
    exact ⟨ret_int HW.out.symm, (box_kept hb2).1⟩
end Go.Proofs.Ytbifcjfjenpmnaa
