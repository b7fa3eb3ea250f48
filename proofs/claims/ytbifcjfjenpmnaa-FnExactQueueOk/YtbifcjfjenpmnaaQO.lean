/- The program's QueueOk, at every queue. -/
import Derived.Test.YtbifcjfjenpmnaaQI
namespace Go.Proofs.Ytbifcjfjenpmnaa
open Go.ChangeShapes Go.WideShapes Go.ChangeAt Go.RowKit

theorem quOk_stay {q : Qu} (h1 : 1 ≤ q.es.length) (h20 : q.es.length ≤ 20) (hf : timeB q.fl = true) (ha : q.es.all (fun e => entOk e q.fl) = true) : quOk q = stayB q := by
  have hd : decide (1 ≤ q.es.length ∧ q.es.length ≤ 20) = true := decide_eq_true ⟨h1, h20⟩
  have e0 : quOk q = (decide (-1 ≤ q.cu ∧ q.cu ≤ (q.es.length : Int) - 1) && curOk q) := by
    unfold quOk headOk; rw [ha, hf, hd]; simp
  rw [e0]
  by_cases c1 : q.cu = -1
  · have : decide (-1 ≤ q.cu ∧ q.cu ≤ (q.es.length : Int) - 1) = true := decide_eq_true (by omega)
    rw [this]
    unfold curOk stayB
    rw [if_pos (by omega), if_pos c1]; rfl
  · have e1 : stayB q = (placeB q.cu q.es.length && (decide (1 ≤ q.rn ∧ q.rn ≤ 149) && (onAt q.es q.cu.toNat && decide (vAt q.es q.cu.toNat - q.fl ≤ vstep q.rn (wAt q.es q.cu.toNat))))) := by unfold stayB; rw [if_neg c1]
    rw [e1]
    by_cases c2 : 0 ≤ q.cu ∧ q.cu < (q.es.length : Int)
    · have hp : placeB q.cu q.es.length = true := decide_eq_true c2
      have : decide (-1 ≤ q.cu ∧ q.cu ≤ (q.es.length : Int) - 1) = true := decide_eq_true (by omega)
      obtain ⟨e, he, ho, hv⟩ := ent_get (es := q.es) (k := q.cu.toNat) (by omega)
      have hw : wAt q.es q.cu.toNat = e.w := by unfold wAt; rw [he]; rfl
      rw [this, hp, ho, hv, hw]
      unfold curOk
      rw [if_neg (by omega), he]
      dsimp only
      cases e.on <;> cases decide (1 ≤ q.rn ∧ q.rn ≤ 149) <;> rfl
    · have hp : placeB q.cu q.es.length = false := decide_eq_false c2
      have : decide (-1 ≤ q.cu ∧ q.cu ≤ (q.es.length : Int) - 1) = false := decide_eq_false (by omega)
      rw [this, hp]; rfl
theorem quOk_bad {q : Qu} {e : Ent} (he : e ∈ q.es) (hno : entOk e q.fl = false) : quOk q = false := by
  have : q.es.all (fun e => entOk e q.fl) = false := by
    rw [List.all_eq_false]
    exact ⟨e, he, by rw [hno]; simp⟩
  unfold quOk
  rw [this]; simp

set_option maxHeartbeats 4000000 in
theorem implOk_loop (q : Qu) (g o cap : Nat) (w : World) (hE : EntAt w g o q.es) (hl : q.es.length ≤ cap) (hm : cap ≤ maxLen) (h1 : 1 ≤ q.es.length) (h20 : q.es.length ≤ 20) (hf : timeB q.fl = true) :
    Calls Try.prog 18 #[.agg #[.int .i64 q.fl, .int .i64 q.cu, .int .i64 q.rn, .slice (some ⟨g, o, none⟩) q.es.length cap]] w fun e w' => e = .returned (.bool (quOk q)) ∧ Below w.heap.size w w' := by
  have hfl := timeB_iff.1 hf
  have HM : Hid (cap ≤ maxLen) := hm
  unfold maxLen at hm
  go_enter Try.func18, Try.ntmps18
  go_wp2_with (go_at_call 53; refine (isTime_any _ _).mono ?_; rintro e w1 ⟨rfl, rfl⟩)
  go_loopw [24] (fun i wr => ∃ k : Nat, k ≤ q.es.length ∧ i = .int .i64 k ∧ Hid ((q.es.take k).all (fun e => entOk e q.fl) = true) ∧ Below w.heap.size w wr ∧ wr.heap[w.heap.size]? = some (.cells #[.int .i64 q.fl, .int .i64 q.cu, .int .i64 q.rn, .slice (some ⟨g, o, none⟩) q.es.length cap] 25 (0, 0))) (fun i _ => q.es.length - (intOf i).toNat)
  case atStart => exact ⟨0, by omega, rfl, rfl, (Below.refl _ _).alloc (Nat.le_refl _) _, heap_alloc_new _ _⟩
  case round =>
    obtain ⟨k, hk, rfl, hall, acc, hbx⟩ := hrel
    obtain ⟨q0, q1, q2, q3⟩ := qbox hbx
    have hwz : w.heap.size < wr.heap.size := (Array.getElem?_eq_some_iff.1 hbx).1
    have HB : Hid (wr.heap[w.heap.size]? = some (.cells #[.int .i64 q.fl, .int .i64 q.cu, .int .i64 q.rn, .slice (some ⟨g, o, none⟩) q.es.length cap] 25 (0, 0))) := hbx
    clear hbx
    have hE' : EntAt wr g o q.es := by
      intro i e' he'
      obtain ⟨h1, h2, h3, h4⟩ := hE i e' he'
      exact ⟨(acc.cell (block_lt_of_cell h1)).trans h1, (acc.cell (block_lt_of_cell h2)).trans h2, (acc.cell (block_lt_of_cell h3)).trans h3, (acc.cell (block_lt_of_cell h4)).trans h4⟩
    by_cases hlt : k < q.es.length
    · have hlt' : (k : Int) < (q.es.length : Int) := by omega
      obtain ⟨e, he, ho, hv⟩ := ent_get hlt
      obtain ⟨x0, x1, x2, x3⟩ := hE' k e he
      by_cases hok : entOk e q.fl = true
      · have HA : Hid ((q.es.take (k + 1)).all (fun e => entOk e q.fl) = true) := by
          show _ = true
          rw [all_take he, hall.out, hok]; rfl
        go_wp2_with (go_at_call 54; refine (isEntry_any e q.fl _ hfl.1 hfl.2).mono ?_; rintro e1 w2 ⟨rfl, hb2⟩; obtain ⟨hb3, hby, hlt2⟩ := box_kept hb2; clear hb2 hby)
        go_roundw
        case rel => exact ⟨k + 1, by omega, by go_num, HA, acc.trans (hb3.mono acc.size), (hb3.block _ hwz).trans HB.out⟩
        case measure => simp [intOf]; omega
      · have hno : entOk e q.fl = false := by simpa using hok
        have HQ : Hid (quOk q = false) := quOk_bad (List.mem_of_getElem? he) hno
        go_wp2_with (go_at_call 54; refine (isEntry_any e q.fl _ hfl.1 hfl.2).mono ?_; rintro e1 w2 ⟨rfl, hb2⟩; obtain ⟨hb3, hby, hlt2⟩ := box_kept hb2; clear hb2 hby)
        go_ret
        exact ⟨ret_bool (by rw [HQ.out]), acc.trans (hb3.mono acc.size)⟩
    · have hkk : k = q.es.length := by omega
      have hlt' : ¬ (k : Int) < (q.es.length : Int) := by omega
      have HA : Hid (q.es.all (fun e => entOk e q.fl) = true) := by
        show _ = true
        have := hall.out
        rwa [hkk, List.take_length] at this
      have HQ : Hid (quOk q = stayB q) := quOk_stay h1 h20 hf HA.out
      have hve : ∀ e ∈ q.es, timeB e.v = true := by
        intro e he
        have := List.all_eq_true.1 HA.out e he
        unfold entOk at this; simp at this; exact this.1.1.2
      clear hall hkk
      go_wp2_with (go_at_call 55; refine (isStay_any q _ _ (.inr ⟨g, o, cap, rfl, hE', hl, HM.out⟩) h20 hf hve).mono ?_; rintro e1 w2 ⟨rfl, hb2⟩)
      go_ret
      exact ⟨ret_bool HQ.out.symm, acc.trans (hb2.mono acc.size)⟩

set_option maxHeartbeats 2000000 in
theorem implOk_no (q : Qu) (a : Option Addr) (cap : Nat) (w : World) (hl : q.es.length ≤ 1048576) (hh : ¬ (1 ≤ q.es.length ∧ q.es.length ≤ 20) ∨ timeB q.fl = false) :
    Calls Try.prog 18 #[.agg #[.int .i64 q.fl, .int .i64 q.cu, .int .i64 q.rn, .slice a q.es.length cap]] w fun e w' => e = .returned (.bool (quOk q)) ∧ Below w.heap.size w w' := by
  have HQ : Hid (quOk q = false) := by
    show _ = _
    unfold quOk headOk
    rcases hh with h | h
    · rw [decide_eq_false h]; simp
    · rw [h]; simp
  have hB : ∀ o, Below w.heap.size w (w.alloc o) := fun o => (Below.refl _ w).alloc (Nat.le_refl _) o
  by_cases c1 : (q.es.length : Int) < 1
  · clear hh
    go_enter Try.func18, Try.ntmps18
    go_wp2_with (go_at_call 53; refine (isTime_any _ _).mono ?_; rintro e w1 ⟨rfl, rfl⟩)
    go_ret
    exact ⟨ret_bool HQ.out.symm, hB _⟩
  · by_cases c2 : (20 : Int) < (q.es.length : Int)
    · clear hh
      go_enter Try.func18, Try.ntmps18
      go_wp2_with (go_at_call 53; refine (isTime_any _ _).mono ?_; rintro e w1 ⟨rfl, rfl⟩)
      go_ret
      exact ⟨ret_bool HQ.out.symm, hB _⟩
    · have c3 : timeB q.fl = false := by
        rcases hh with h | h
        · omega
        · exact h
      clear hh
      go_enter Try.func18, Try.ntmps18
      go_wp2_with (go_at_call 53; refine (isTime_any _ _).mono ?_; rintro e w1 ⟨rfl, rfl⟩)
      go_ret
      exact ⟨ret_bool HQ.out.symm, hB _⟩
/-- The program's QueueOk, at every queue. -/
theorem impl_queueOk (q : Qu) (sl : Value) (w : World) (hs : SlE w sl q.es) (hn : q.es.length ≤ 1048576) :
    Calls Try.prog 18 #[quV q sl] w fun e w' => e = .returned (.bool (quOk q)) ∧ Below w.heap.size w w' := by
  unfold quV
  rcases hs with ⟨h0, a, cap, rfl⟩ | ⟨g, o, cap, rfl, hE, hl, hm⟩
  · have := implOk_no q a cap w hn (.inl (by rw [h0]; simp))
    rwa [h0] at this
  · by_cases hh : 1 ≤ q.es.length ∧ q.es.length ≤ 20
    · by_cases hf : timeB q.fl = true
      · exact implOk_loop q g o cap w hE hl hm hh.1 hh.2 hf
      · exact implOk_no q _ cap w hn (.inr (by simpa using hf))
    · exact implOk_no q _ cap w hn (.inl hh)
end Go.Proofs.Ytbifcjfjenpmnaa
