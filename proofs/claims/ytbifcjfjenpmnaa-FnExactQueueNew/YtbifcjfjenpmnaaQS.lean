/- Contracts of the specification's functions on queues. -/
import Derived.Test.YtbifcjfjenpmnaaQ0
import Derived.Deep.QuietTactic
import Derived.BigQuiet
import Derived.Deep.RegionHeld3
namespace Go.Proofs.Ytbifcjfjenpmnaa
open Go.ChangeShapes Go.WideShapes Go.ChangeAt Go.RowKit

theorem ret_bool {a b : Bool} (h : a = b) : Ending.returned (.bool a) = .returned (.bool b) := by rw [h]
theorem wB_yes {n : Int} (h1 : 1 ≤ n) (h2 : n ≤ 20) : wB n = true := decide_eq_true ⟨h1, h2⟩
theorem wB_no {n : Int} (h : n < 1 ∨ 20 < n) : wB n = false := decide_eq_false (by omega)
theorem wB_iff {n : Int} : wB n = true ↔ 1 ≤ n ∧ n ≤ 20 := by unfold wB; simp
theorem timeB_iff {n : Int} : timeB n = true ↔ 0 ≤ n ∧ n ≤ 100000000000000000 := by unfold timeB; simp
theorem l1Weight_any (n : Int) (w : World) : Calls Try.prog 65 #[.int .i64 n] w fun e w' => e = .returned (.bool (wB n)) ∧ w' = w := by
  by_cases h : 1 ≤ n ∧ n ≤ 20
  · rw [wB_yes h.1 h.2]; exact l1Weight_yes n w h.1 h.2
  · rw [wB_no (by omega)]; exact l1Weight_no n w (by omega)
theorem l4Time_any (n : Int) (w : World) : Calls Try.prog 50 #[.int .i64 n] w fun e w' => e = .returned (.bool (timeB n)) ∧ w' = w := by
  have he : l1in n 0 100000000000000000 = timeB n := rfl
  go_enter Try.func50, Try.ntmps50
  go_wp2_with (go_at_call 44; refine (l1In_any _ _ _ _).mono ?_; rintro e w1 ⟨rfl, rfl⟩)
  go_ret
  exact ⟨rfl, rfl⟩

set_option maxHeartbeats 2000000 in
theorem l4Entry_any (x : Ent) (fl : Int) (w : World) (hf : 0 ≤ fl) (hf2 : fl ≤ 100000000000000000) :
    Calls Try.prog 51 #[.agg #[.bool x.on, .int .i64 x.v, .int .i64 x.w, .int .i64 x.s], .int .i64 fl] w fun e w' => e = .returned (.bool (entOk x fl)) ∧ Below w.heap.size w w' := by
  have hB : ∀ o, Below w.heap.size w (w.alloc o) := fun o => (Below.refl _ w).alloc (Nat.le_refl _) o
  obtain ⟨on, v, n, s⟩ := x
  dsimp only
  by_cases a1 : wB n = true
  · by_cases a2 : timeB v = true
    · by_cases a3 : timeB s = true
      · have hv := timeB_iff.1 a2
        cases on
        · rw [show entOk ⟨false, v, n, s⟩ fl = true by unfold entOk; rw [a1, a2, a3]; rfl]
          go_enter Try.func51, Try.ntmps51
          go_wp2_with (first | (go_at_call 65; refine (l1Weight_any _ _).mono ?_; rintro e w1 ⟨rfl, rfl⟩) | (go_at_call 50; refine (l4Time_any _ _).mono ?_; rintro e w1 ⟨rfl, rfl⟩))
          go_quiet ((go_at_call 75; exact Calls.quiet_of_same (spec_lagmost _ _)))
          go_wp2
          go_ret
          exact ⟨rfl, below_drewN (hB _) _⟩
        · by_cases b1 : fl ≤ v
          · have hb := vstep_bd 149 n
            by_cases b2 : v - fl ≤ vstep 149 n
            · rw [show entOk ⟨true, v, n, s⟩ fl = true by unfold entOk; dsimp only; rw [a1, a2, a3, decide_eq_true b1, decide_eq_true b2]; rfl]
              go_enter Try.func51, Try.ntmps51
              go_wp2_with (first | (go_at_call 65; refine (l1Weight_any _ _).mono ?_; rintro e w1 ⟨rfl, rfl⟩) | (go_at_call 50; refine (l4Time_any _ _).mono ?_; rintro e w1 ⟨rfl, rfl⟩))
              go_quiet ((go_at_call 75; exact Calls.quiet_of_same (spec_lagmost _ _)))
              go_wp2
              go_ret
              exact ⟨rfl, below_drewN (hB _) _⟩
            · have b2' : decide (v - fl ≤ vstep 149 n) = false := decide_eq_false b2
              rw [show entOk ⟨true, v, n, s⟩ fl = false by unfold entOk; dsimp only; rw [a1, a2, a3, decide_eq_true b1, b2']; rfl]
              go_enter Try.func51, Try.ntmps51
              go_wp2_with (first | (go_at_call 65; refine (l1Weight_any _ _).mono ?_; rintro e w1 ⟨rfl, rfl⟩) | (go_at_call 50; refine (l4Time_any _ _).mono ?_; rintro e w1 ⟨rfl, rfl⟩))
              go_quiet ((go_at_call 75; exact Calls.quiet_of_same (spec_lagmost _ _)))
              go_wp2
              go_ret
              exact ⟨rfl, below_drewN (hB _) _⟩
          · have b1' : decide (fl ≤ v) = false := decide_eq_false b1
            rw [show entOk ⟨true, v, n, s⟩ fl = false by unfold entOk; dsimp only; rw [a1, a2, a3, b1']; rfl]
            go_enter Try.func51, Try.ntmps51
            go_wp2_with (first | (go_at_call 65; refine (l1Weight_any _ _).mono ?_; rintro e w1 ⟨rfl, rfl⟩) | (go_at_call 50; refine (l4Time_any _ _).mono ?_; rintro e w1 ⟨rfl, rfl⟩))
            go_quiet ((go_at_call 75; exact Calls.quiet_of_same (spec_lagmost _ _)))
            go_wp2
            go_ret
            exact ⟨rfl, below_drewN (hB _) _⟩
      · have a3' : timeB s = false := by simpa using a3
        rw [show entOk ⟨on, v, n, s⟩ fl = false by unfold entOk; rw [a1, a2, a3']; rfl]
        go_enter Try.func51, Try.ntmps51
        go_wp2_with (first | (go_at_call 65; refine (l1Weight_any _ _).mono ?_; rintro e w1 ⟨rfl, rfl⟩) | (go_at_call 50; refine (l4Time_any _ _).mono ?_; rintro e w1 ⟨rfl, rfl⟩))
        go_ret
        exact ⟨rfl, hB _⟩
    · have a2' : timeB v = false := by simpa using a2
      rw [show entOk ⟨on, v, n, s⟩ fl = false by unfold entOk; rw [a1, a2']; rfl]
      go_enter Try.func51, Try.ntmps51
      go_wp2_with (first | (go_at_call 65; refine (l1Weight_any _ _).mono ?_; rintro e w1 ⟨rfl, rfl⟩) | (go_at_call 50; refine (l4Time_any _ _).mono ?_; rintro e w1 ⟨rfl, rfl⟩))
      go_ret
      exact ⟨rfl, hB _⟩
  · have a1' : wB n = false := by simpa using a1
    rw [show entOk ⟨on, v, n, s⟩ fl = false by unfold entOk; rw [a1']; rfl]
    go_enter Try.func51, Try.ntmps51
    go_wp2_with (first | (go_at_call 65; refine (l1Weight_any _ _).mono ?_; rintro e w1 ⟨rfl, rfl⟩) | (go_at_call 50; refine (l4Time_any _ _).mono ?_; rintro e w1 ⟨rfl, rfl⟩))
    go_ret
    exact ⟨rfl, hB _⟩

/-- the box of a queue that is a parameter. -/
theorem qbox {w : World} {b : Nat} {x y z v : Value} {t : TypeId} (h : w.heap[b]? = some (.cells #[x, y, z, v] t (0, 0))) :
    w.cell? ⟨b, 0, none⟩ = some x ∧ w.cell? ⟨b, 1, none⟩ = some y ∧ w.cell? ⟨b, 2, none⟩ = some z ∧ w.cell? ⟨b, 3, none⟩ = some v := by
  refine ⟨?_, ?_, ?_, ?_⟩ <;> simp [World.cell?, h]
theorem ent_get {es : List Ent} {k : Nat} (h : k < es.length) : ∃ e, es[k]? = some e ∧ onAt es k = e.on ∧ vAt es k = e.v := by
  refine ⟨es[k], List.getElem?_eq_getElem h, ?_, ?_⟩
  · unfold onAt; rw [List.getElem?_eq_getElem h]; rfl
  · unfold vAt; rw [List.getElem?_eq_getElem h]; rfl

set_option maxHeartbeats 4000000 in
theorem l4Least_any (fl cu rn : Int) (sl : Value) (es : List Ent) (w : World) (hs : SlE w sl es) :
    Calls Try.prog 59 #[.agg #[.int .i64 fl, .int .i64 cu, .int .i64 rn, sl]] w fun e w' => e = .returned (.int .i64 (least es)) ∧ Below w.heap.size w w' := by
  rcases hs with ⟨rfl, a, cap, rfl⟩ | ⟨g, o, cap, rfl, hE, hl, hm⟩
  · go_enter Try.func59, Try.ntmps59
    go_wp2
    refine wp_loop_rounds 1 ?_
    rw [rounds_succ]
    go_wp2
    go_ret
    exact ⟨rfl, (Below.refl _ _).alloc (Nat.le_refl _) _⟩
  · unfold maxLen at hm
    go_enter Try.func59, Try.ntmps59
    go_wp2
    go_loopw [3, 4] (fun b i wr => ∃ k : Nat, k ≤ es.length ∧ i = .int .i64 k ∧ b = .int .i64 (leastTo es k) ∧ Below w.heap.size w wr ∧ wr.heap[w.heap.size]? = some (.cells #[.int .i64 fl, .int .i64 cu, .int .i64 rn, .slice (some ⟨g, o, none⟩) es.length cap] 25 (0, 0))) (fun _ i _ => es.length - (intOf i).toNat)
    case atStart => exact ⟨0, by omega, rfl, rfl, (Below.refl _ _).alloc (Nat.le_refl _) _, heap_alloc_new _ _⟩
    case round =>
      obtain ⟨k, hk, rfl, rfl, acc, hbx⟩ := hrel
      obtain ⟨q0, q1, q2, q3⟩ := qbox hbx
      have HB : Hid (wr.heap[w.heap.size]? = some (.cells #[.int .i64 fl, .int .i64 cu, .int .i64 rn, .slice (some ⟨g, o, none⟩) es.length cap] 25 (0, 0))) := hbx
      clear hbx q0 q1 q2
      by_cases hlt : k < es.length
      · have hlt' : (k : Int) < (es.length : Int) := by omega
        obtain ⟨e, he, ho, hv⟩ := ent_get hlt
        have hE' : EntAt wr g o es := by
          intro i e' he'
          obtain ⟨h1, h2, h3, h4⟩ := hE i e' he'
          exact ⟨(acc.cell (block_lt_of_cell h1)).trans h1, (acc.cell (block_lt_of_cell h2)).trans h2, (acc.cell (block_lt_of_cell h3)).trans h3, (acc.cell (block_lt_of_cell h4)).trans h4⟩
        obtain ⟨x0, x1, x2, x3⟩ := hE' k e he
        have hbd := leastTo_bd es k
        by_cases c1 : e.on = true
        · rw [c1] at x0 ho
          by_cases c2 : leastTo es k < 0
          · have HS : Hid (leastTo es (k + 1) = (k : Int)) := by
              show (if _ then (k : Int) else leastTo es k) = _
              rw [ho, decide_eq_true c2]; rfl
            go_wp2
            go_quiet (fail)
            go_wp2
            go_roundw
            case rel => exact ⟨k + 1, by omega, by go_num, by rw [HS.out], below_drewN acc _, HB.out⟩
            case measure => simp [intOf]; omega
          · have c2' : decide (leastTo es k < 0) = false := decide_eq_false c2
            have hb2 : (leastTo es k).toNat < es.length := by omega
            have hbi : leastTo es k < (es.length : Int) := by omega
            have hb0 : 0 ≤ leastTo es k := by omega
            obtain ⟨e2, he2, ho2, hv2⟩ := ent_get hb2
            obtain ⟨y0, y1, y2, y3⟩ := hE' _ e2 he2
            by_cases c3 : e.v < e2.v
            · have HS : Hid (leastTo es (k + 1) = (k : Int)) := by
                show (if _ then (k : Int) else leastTo es k) = _
                rw [ho, c2', hv, hv2, decide_eq_true c3]; rfl
              go_wp2
              go_quiet (fail)
              go_wp2
              go_roundw
              case rel => exact ⟨k + 1, by omega, by go_num, by rw [HS.out], below_drewN acc _, HB.out⟩
              case measure => simp [intOf]; omega
            · have c3' : decide (e.v < e2.v) = false := decide_eq_false c3
              have HS : Hid (leastTo es (k + 1) = leastTo es k) := by
                show (if _ then (k : Int) else leastTo es k) = _
                rw [ho, c2', hv, hv2, c3']; rfl
              go_wp2
              go_quiet (fail)
              go_wp2
              go_roundw
              case rel => exact ⟨k + 1, by omega, by go_num, by rw [HS.out], below_drewN acc _, HB.out⟩
              case measure => simp [intOf]; omega
        · have c1' : e.on = false := by simpa using c1
          rw [c1'] at x0 ho
          have HS : Hid (leastTo es (k + 1) = leastTo es k) := by
            show (if _ then (k : Int) else leastTo es k) = _
            rw [ho]; rfl
          go_wp2
          go_quiet (fail)
          go_wp2
          go_roundw
          case rel => exact ⟨k + 1, by omega, by go_num, by rw [HS.out], below_drewN acc _, HB.out⟩
          case measure => simp [intOf]; omega
      · have : k = es.length := by omega
        have HL : Hid (leastTo es k = least es) := by rw [this]; rfl
        have hlt' : ¬ (k : Int) < (es.length : Int) := by omega
        go_wp2
        go_ret
        exact ⟨ret_int (by first | exact HL.out | rfl), acc⟩

theorem all_take {es : List Ent} {p : Ent → Bool} {k : Nat} {e : Ent} (h : es[k]? = some e) : (es.take (k + 1)).all p = ((es.take k).all p && p e) := by
  rw [List.take_add_one, h, List.all_append]; simp
set_option maxHeartbeats 4000000 in
theorem queueOk_loop (q : Qu) (g o cap : Nat) (w : World) (hE : EntAt w g o q.es) (hh : headOk q = true) :
    Calls Try.prog 16 #[.agg #[.int .i64 q.fl, .int .i64 q.cu, .int .i64 q.rn, .slice (some ⟨g, o, none⟩) q.es.length cap]] w fun e w' => e = .returned (.bool (quOk q)) ∧ Below w.heap.size w w' := by
  obtain ⟨fl, cu, rn, es⟩ := q
  dsimp only at hE ⊢
  have h1 : 1 ≤ es.length ∧ es.length ≤ 20 := by
    unfold headOk at hh; simp at hh; omega
  have h2 : timeB fl = true := by unfold headOk at hh; simp at hh; exact hh.1.2
  have h3 : -1 ≤ cu ∧ cu ≤ (es.length : Int) - 1 := by unfold headOk at hh; simp at hh; exact hh.2
  have f1 := l1in_yes (n := (es.length : Int)) (l := 1) (h := 20) (by omega) (by omega)
  have f2 := l1in_yes (n := cu) (l := -1) (h := (es.length : Int) - 1) h3.1 h3.2
  have hfl := timeB_iff.1 h2
  go_enter Try.func16, Try.ntmps16
  go_wp2_with (first | (go_at_call 44; refine (l1In_any _ _ _ _).mono ?_; rintro e w1 ⟨rfl, rfl⟩) | (go_at_call 50; refine (l4Time_any _ _).mono ?_; rintro e w1 ⟨rfl, rfl⟩))
  go_loopw [3] (fun i wr => ∃ k : Nat, k ≤ es.length ∧ i = .int .i64 k ∧ Hid ((es.take k).all (fun e => entOk e fl) = true) ∧ Below w.heap.size w wr ∧ wr.heap[w.heap.size]? = some (.cells #[.int .i64 fl, .int .i64 cu, .int .i64 rn, .slice (some ⟨g, o, none⟩) es.length cap] 25 (0, 0))) (fun i _ => es.length - (intOf i).toNat)
  case atStart => exact ⟨0, by omega, rfl, rfl, (Below.refl _ _).alloc (Nat.le_refl _) _, heap_alloc_new _ _⟩
  case round =>
    obtain ⟨k, hk, rfl, hall, acc, hbx⟩ := hrel
    obtain ⟨q0, q1, q2, q3⟩ := qbox hbx
    have HB : Hid (wr.heap[w.heap.size]? = some (.cells #[.int .i64 fl, .int .i64 cu, .int .i64 rn, .slice (some ⟨g, o, none⟩) es.length cap] 25 (0, 0))) := hbx
    clear hbx
    have hE' : EntAt wr g o es := by
      intro i e' he'
      obtain ⟨h1, h2, h3, h4⟩ := hE i e' he'
      exact ⟨(acc.cell (block_lt_of_cell h1)).trans h1, (acc.cell (block_lt_of_cell h2)).trans h2, (acc.cell (block_lt_of_cell h3)).trans h3, (acc.cell (block_lt_of_cell h4)).trans h4⟩
    by_cases hlt : k < es.length
    · have hlt' : (k : Int) < (es.length : Int) := by omega
      obtain ⟨e, he, ho, hv⟩ := ent_get hlt
      obtain ⟨x0, x1, x2, x3⟩ := hE' k e he
      by_cases hok : entOk e fl = true
      · have HA : Hid ((es.take (k + 1)).all (fun e => entOk e fl) = true) := by
          show _ = true
          rw [all_take he, hall.out, hok]; rfl
        go_wp2_with fail
        go_region_with (go_at_call 51; refine (l4Entry_any e fl _ hfl.1 hfl.2).mono ?_; rintro e1 w2 ⟨rfl, hb2⟩)
        all_goals
          replace hb2 := (Below.refl _ wr).drew.trans hb2
          go_wp2
          go_roundw
          case rel => exact ⟨k + 1, by omega, by go_num, HA, acc.trans (hb2.mono acc.size), (hb2.block _ (Array.getElem?_eq_some_iff.1 HB.out).1).trans HB.out⟩
          case measure => simp [intOf]; omega
      · have hno : entOk e fl = false := by simpa using hok
        have HQ : Hid (quOk ⟨fl, cu, rn, es⟩ = false) := by
          show _ = false
          have : es.all (fun e => entOk e fl) = false := by
            rw [List.all_eq_false]
            exact ⟨e, List.mem_of_getElem? he, by rw [hno]; simp⟩
          unfold quOk
          rw [this]; simp
        go_wp2_with fail
        go_region_with (go_at_call 51; refine (l4Entry_any e fl _ hfl.1 hfl.2).mono ?_; rintro e1 w2 ⟨rfl, hb2⟩)
        all_goals
          replace hb2 := (Below.refl _ wr).drew.trans hb2
          go_wp2
          go_ret
          exact ⟨ret_bool (by rw [HQ.out]), acc.trans (hb2.mono acc.size)⟩
    · have hkk : k = es.length := by omega
      have hlt' : ¬ (k : Int) < (es.length : Int) := by omega
      have HA : Hid (es.all (fun e => entOk e fl) = true) := by
        show _ = true
        have := hall.out
        rwa [hkk, List.take_length] at this
      by_cases c0 : cu < 0
      · have HQ : Hid (quOk ⟨fl, cu, rn, es⟩ = decide (rn = 0)) := by
          show _ = _
          unfold quOk curOk
          rw [hh, HA.out, if_pos c0]; rfl
        clear hall hkk
        go_wp2
        go_ret
        refine ⟨ret_bool ?_, acc⟩
        rw [HQ.out]
        by_cases z : rn = 0 <;> simp [z]
      · have hci : cu.toNat < es.length := by omega
        have hcl : cu < (es.length : Int) := by omega
        have hwz : w.heap.size < wr.heap.size := (Array.getElem?_eq_some_iff.1 HB.out).1
        have hc0 : 0 ≤ cu := by omega
        obtain ⟨e, he, ho, hv⟩ := ent_get hci
        obtain ⟨x0, x1, x2, x3⟩ := hE' _ e he
        have hek : entOk e fl = true := List.all_eq_true.1 HA.out e (List.mem_of_getElem? he)
        have hev : timeB e.v = true := by
          unfold entOk at hek; simp at hek; exact hek.1.1.2
        have hev2 := timeB_iff.1 hev
        have hvs := vstep_bd rn e.w
        have HQ0 : Hid (quOk ⟨fl, cu, rn, es⟩ = (e.on && decide (1 ≤ rn ∧ rn ≤ 149) && decide (e.v - fl ≤ vstep rn e.w))) := by
          show _ = _
          unfold quOk curOk
          rw [hh, HA.out, if_neg c0]
          dsimp only
          rw [he]; rfl
        clear hall hkk
        by_cases d1 : e.on = true
        · rw [d1] at x0
          by_cases d2 : 1 ≤ rn ∧ rn ≤ 149
          · have f3 := l1in_yes (n := rn) (l := 1) (h := 149) d2.1 d2.2
            have HQ : Hid (quOk ⟨fl, cu, rn, es⟩ = decide (e.v - fl ≤ vstep rn e.w)) := by
              show _ = _
              rw [HQ0.out, d1, decide_eq_true d2]; rfl
            clear d2
            go_wp2
            go_quiet ((first | (go_at_call 44; exact Calls.quiet_of_same (l1In_any _ _ _ _)) | (go_at_call 45; exact Calls.quiet_of_same (spec_vstep _ _ _))))
            go_wp2
            go_ret
            exact ⟨ret_bool (by first | rfl | rw [HQ.out] | simp [HQ.out]), below_drewN (acc.alloc acc.size _) _⟩
          · have f3 := l1in_no (n := rn) (l := 1) (h := 149) (by omega)
            have HQ : Hid (quOk ⟨fl, cu, rn, es⟩ = false) := by
              show _ = _
              rw [HQ0.out, decide_eq_false d2]; simp
            clear d2
            go_wp2
            go_quiet ((first | (go_at_call 44; exact Calls.quiet_of_same (l1In_any _ _ _ _)) | (go_at_call 45; exact Calls.quiet_of_same (spec_vstep _ _ _))))
            go_wp2
            go_ret
            exact ⟨ret_bool (by first | rfl | rw [HQ.out] | simp [HQ.out]), below_drewN (acc.alloc acc.size _) _⟩
        · have d1' : e.on = false := by simpa using d1
          rw [d1'] at x0
          have HQ : Hid (quOk ⟨fl, cu, rn, es⟩ = false) := by
            show _ = _
            rw [HQ0.out, d1']; rfl
          go_wp2
          go_quiet ((first | (go_at_call 44; exact Calls.quiet_of_same (l1In_any _ _ _ _)) | (go_at_call 45; exact Calls.quiet_of_same (spec_vstep _ _ _))))
          go_wp2
          go_ret
          exact ⟨ret_bool (by first | rfl | rw [HQ.out] | simp [HQ.out]), below_drewN (acc.alloc acc.size _) _⟩

set_option maxHeartbeats 2000000 in
theorem queueOk_no (q : Qu) (a : Option Addr) (cap : Nat) (w : World) (hl : q.es.length ≤ 9223372036854775807) (hh : headOk q = false) :
    Calls Try.prog 16 #[.agg #[.int .i64 q.fl, .int .i64 q.cu, .int .i64 q.rn, .slice a q.es.length cap]] w fun e w' => e = .returned (.bool (quOk q)) ∧ Below w.heap.size w w' := by
  have hq : quOk q = false := by unfold quOk; rw [hh]; simp
  rw [hq]
  obtain ⟨fl, cu, rn, es⟩ := q
  dsimp only at hl ⊢
  clear hq
  have hB : ∀ o, Below w.heap.size w (w.alloc o) := fun o => (Below.refl _ w).alloc (Nat.le_refl _) o
  by_cases c1 : 1 ≤ es.length ∧ es.length ≤ 20
  · have f1 := l1in_yes (n := (es.length : Int)) (l := 1) (h := 20) (by omega) (by omega)
    by_cases c2 : timeB fl = true
    · have c3 : ¬ (-1 ≤ cu ∧ cu ≤ (es.length : Int) - 1) := by
        intro c3
        unfold headOk at hh
        dsimp only at hh
        rw [decide_eq_true c1, c2, decide_eq_true c3] at hh
        cases hh
      have f2 := l1in_no (n := cu) (l := -1) (h := (es.length : Int) - 1) (by omega)
      clear c3 hh
      go_enter Try.func16, Try.ntmps16
      go_wp2_with (first | (go_at_call 44; refine (l1In_any _ _ _ _).mono ?_; rintro e w1 ⟨rfl, rfl⟩) | (go_at_call 50; refine (l4Time_any _ _).mono ?_; rintro e w1 ⟨rfl, rfl⟩))
      go_ret
      exact ⟨rfl, hB _⟩
    · have c2' : timeB fl = false := by simpa using c2
      clear hh c2
      go_enter Try.func16, Try.ntmps16
      go_wp2_with (first | (go_at_call 44; refine (l1In_any _ _ _ _).mono ?_; rintro e w1 ⟨rfl, rfl⟩) | (go_at_call 50; refine (l4Time_any _ _).mono ?_; rintro e w1 ⟨rfl, rfl⟩))
      go_ret
      exact ⟨rfl, hB _⟩
  · have f1 := l1in_no (n := (es.length : Int)) (l := 1) (h := 20) (by omega)
    clear hh c1
    go_enter Try.func16, Try.ntmps16
    go_wp2_with (go_at_call 44; refine (l1In_any _ _ _ _).mono ?_; rintro e w1 ⟨rfl, rfl⟩)
    go_ret
    exact ⟨rfl, hB _⟩
/-- The specification's QueueOk, at every queue. -/
theorem spec_queueOk (q : Qu) (sl : Value) (w : World) (hs : SlE w sl q.es) :
    Calls Try.prog 16 #[.agg #[.int .i64 q.fl, .int .i64 q.cu, .int .i64 q.rn, sl]] w fun e w' => e = .returned (.bool (quOk q)) ∧ Below w.heap.size w w' := by
  rcases hs with ⟨h0, a, cap, rfl⟩ | ⟨g, o, cap, rfl, hE, hl, hm⟩
  · have hh : headOk q = false := by unfold headOk; rw [h0]; rfl
    have := queueOk_no q a cap w (by rw [h0]; decide) hh
    rwa [h0] at this
  · by_cases hh : headOk q = true
    · exact queueOk_loop q g o cap w hE hh
    · exact queueOk_no q _ cap w (by unfold maxLen at hm; omega) (by simpa using hh)
end Go.Proofs.Ytbifcjfjenpmnaa
