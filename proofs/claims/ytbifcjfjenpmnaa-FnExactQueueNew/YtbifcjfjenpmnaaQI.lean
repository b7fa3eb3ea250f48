/- The program's functions on queues: QueueOk and what it asks. -/
import Derived.Test.YtbifcjfjenpmnaaQT
namespace Go.Proofs.Ytbifcjfjenpmnaa
open Go.ChangeShapes Go.WideShapes Go.ChangeAt Go.RowKit

theorem isWeight_any (n : Int) (w : World) : Calls Try.prog 66 #[.int .i64 n] w fun e w' => e = .returned (.bool (wB n)) ∧ w' = w := by
  by_cases h : 1 ≤ n ∧ n ≤ 20
  · rw [wB_yes h.1 h.2]; exact isWeight_yes n w h.1 h.2
  · rw [wB_no (by omega)]; exact isWeight_no n w (by omega)
theorem isTime_any (n : Int) (w : World) : Calls Try.prog 53 #[.int .i64 n] w fun e w' => e = .returned (.bool (timeB n)) ∧ w' = w := by
  by_cases a : 0 ≤ n
  · by_cases b : n ≤ 100000000000000000
    · have HT : Hid (timeB n = true) := timeB_iff.2 ⟨a, b⟩
      go_enter Try.func53, Try.ntmps53
      go_wp2
      go_ret
      exact ⟨ret_bool HT.out.symm, rfl⟩
    · have HT : Hid (timeB n = false) := by show _ = _; unfold timeB; exact decide_eq_false (by omega)
      go_enter Try.func53, Try.ntmps53
      go_wp2
      go_ret
      exact ⟨ret_bool HT.out.symm, rfl⟩
  · have HT : Hid (timeB n = false) := by show _ = _; unfold timeB; exact decide_eq_false (by omega)
    go_enter Try.func53, Try.ntmps53
    go_wp2
    go_ret
    exact ⟨ret_bool HT.out.symm, rfl⟩

set_option maxHeartbeats 2000000 in
theorem impl_apart (a b : Int) (w : World) : Calls Try.prog 36 #[.int .i64 a, .int .i64 b] w fun e w' => e = .returned (.int .i64 (apartQ a b)) ∧ Below w.heap.size w w' := by
  by_cases ha : wB a = true
  · by_cases hb : wB b = true
    · have a1 := wB_iff.1 ha
      have b1 := wB_iff.1 hb
      have HA : Hid (apartQ a b = 149 * (a + b)) := by show _ = _; unfold apartQ; rw [ha, hb]; rfl
      go_enter Try.func36, Try.ntmps36
      go_wp2_with (go_at_call 66; refine (isWeight_any _ _).mono ?_; rintro e w1 ⟨rfl, rfl⟩)
      go_ret
      exact ⟨ret_int (by rw [HA.out]), Below.refl _ _⟩
    · have hb' : wB b = false := by simpa using hb
      have HA : Hid (apartQ a b = 0) := by show _ = _; unfold apartQ; rw [hb']; simp
      go_enter Try.func36, Try.ntmps36
      go_wp2_with (go_at_call 66; refine (isWeight_any _ _).mono ?_; rintro e w1 ⟨rfl, rfl⟩)
      go_ret
      exact ⟨ret_int (by rw [HA.out]), Below.refl _ _⟩
  · have ha' : wB a = false := by simpa using ha
    have HA : Hid (apartQ a b = 0) := by show _ = _; unfold apartQ; rw [ha']; simp
    go_enter Try.func36, Try.ntmps36
    go_wp2_with (go_at_call 66; refine (isWeight_any _ _).mono ?_; rintro e w1 ⟨rfl, rfl⟩)
    go_ret
    exact ⟨ret_int (by rw [HA.out]), Below.refl _ _⟩

theorem wrapI {x : Int} (h1 : -9223372036854775808 ≤ x) (h2 : x ≤ 9223372036854775807) : IntKind.i64.wrap x = x := IntWalk.i64_in x ⟨h1, h2⟩
/-- a time that is at a floor at least, and ahead of it by at most so much. -/
def stB (v fl m : Int) : Bool := decide (fl ≤ v) && decide (v - fl ≤ m)
set_option maxHeartbeats 1000000 in
theorem standsWithin_any (v fl m : Int) (w : World) (hv : 0 ≤ v) (hv2 : v ≤ 100000000000000000) (hf : 0 ≤ fl) (hf2 : fl ≤ 100000000000000000) :
    Calls Try.prog 77 #[.int .i64 v, .int .i64 fl, .int .i64 m] w fun e w' => e = .returned (.bool (stB v fl m)) ∧ w' = w := by
  by_cases b1 : fl ≤ v
  · have HE : Hid (stB v fl m = decide (v - fl ≤ m)) := by show _ = _; unfold stB; rw [decide_eq_true b1]; rfl
    have HW : Hid (IntKind.i64.wrap (v - fl) = v - fl) := wrapI (by omega) (by omega)
    go_enter Try.func77, Try.ntmps77
    go_wp2
    go_ret
    exact ⟨ret_bool (by first | rw [HE.out] | rw [HE.out, HW.out]), rfl⟩
  · have HE : Hid (stB v fl m = false) := by show _ = _; unfold stB; rw [decide_eq_false b1]; rfl
    go_enter Try.func77, Try.ntmps77
    go_wp2
    go_ret
    exact ⟨ret_bool (by first | rw [HE.out] | (rw [HE.out]; rfl)), rfl⟩
set_option maxHeartbeats 4000000 in
theorem isEntry_any (x : Ent) (fl : Int) (w : World) (hf : 0 ≤ fl) (hf2 : fl ≤ 100000000000000000) :
    Calls Try.prog 54 #[.agg #[.bool x.on, .int .i64 x.v, .int .i64 x.w, .int .i64 x.s], .int .i64 fl] w fun e w' => e = .returned (.bool (entOk x fl)) ∧ Below w.heap.size w w' := by
  have hB : ∀ o, Below w.heap.size w (w.alloc o) := fun o => (Below.refl _ w).alloc (Nat.le_refl _) o
  obtain ⟨on, v, n, s⟩ := x
  dsimp only
  by_cases a1 : wB n = true
  · by_cases a2 : timeB v = true
    · by_cases a3 : timeB s = true
      · have hv := timeB_iff.1 a2
        cases on
        · rw [show entOk ⟨false, v, n, s⟩ fl = true by unfold entOk; rw [a1, a2, a3]; rfl]
          go_enter Try.func54, Try.ntmps54
          go_wp2_with (first | (go_at_call 66; refine (isWeight_any _ _).mono ?_; rintro e w1 ⟨rfl, rfl⟩) | (go_at_call 53; refine (isTime_any _ _).mono ?_; rintro e w1 ⟨rfl, rfl⟩))
          go_quiet (fail)
          go_wp2
          go_ret
          exact ⟨rfl, below_drewN (hB _) _⟩
        · have hb := vstep_bd 149 n
          have HE : Hid (entOk ⟨true, v, n, s⟩ fl = stB v fl (vstep 149 n)) := by show _ = _; unfold entOk stB; dsimp only; rw [a1, a2, a3]; rfl
          go_enter Try.func54, Try.ntmps54
          go_wp2_with (first | (go_at_call 66; refine (isWeight_any _ _).mono ?_; rintro e w1 ⟨rfl, rfl⟩) | (go_at_call 53; refine (isTime_any _ _).mono ?_; rintro e w1 ⟨rfl, rfl⟩))
          go_region_held3 (fun w' => w'.cell? ⟨w.heap.size, 0, none⟩ = some (.bool true) ∧ w'.cell? ⟨w.heap.size, 1, none⟩ = some (.int .i64 v) ∧ w'.cell? ⟨w.heap.size, 2, none⟩ = some (.int .i64 n)) (first | (go_keep) | (exact ⟨q0, q1, q2⟩)) (first | (go_at_call 78; refine (impl_lagmost _ _).mono ?_; rintro e1 w2 ⟨rfl, hb2⟩; have hb3 := (Below.refl _ (w.alloc _)).drew.trans hb2; obtain ⟨hb4, hbx, hlt⟩ := box_kept hb3; obtain ⟨q0, q1, q2, q3⟩ := qbox hbx; clear hbx hb2 hb3) | (go_at_call 77; refine (standsWithin_any _ _ _ _ (by omega) (by omega) (by omega) (by omega)).mono ?_; rintro e w1 ⟨rfl, rfl⟩))
          all_goals
            go_wp2
            go_ret
            exact ⟨ret_bool (by rw [HE.out]), by first | exact hb4 | exact below_drewN hb4 _⟩
      · have a3' : timeB s = false := by simpa using a3
        rw [show entOk ⟨on, v, n, s⟩ fl = false by unfold entOk; rw [a1, a2, a3']; rfl]
        go_enter Try.func54, Try.ntmps54
        go_wp2_with (first | (go_at_call 66; refine (isWeight_any _ _).mono ?_; rintro e w1 ⟨rfl, rfl⟩) | (go_at_call 53; refine (isTime_any _ _).mono ?_; rintro e w1 ⟨rfl, rfl⟩))
        go_ret
        exact ⟨rfl, hB _⟩
    · have a2' : timeB v = false := by simpa using a2
      rw [show entOk ⟨on, v, n, s⟩ fl = false by unfold entOk; rw [a1, a2']; rfl]
      go_enter Try.func54, Try.ntmps54
      go_wp2_with (first | (go_at_call 66; refine (isWeight_any _ _).mono ?_; rintro e w1 ⟨rfl, rfl⟩) | (go_at_call 53; refine (isTime_any _ _).mono ?_; rintro e w1 ⟨rfl, rfl⟩))
      go_ret
      exact ⟨rfl, hB _⟩
  · have a1' : wB n = false := by simpa using a1
    rw [show entOk ⟨on, v, n, s⟩ fl = false by unfold entOk; rw [a1']; rfl]
    go_enter Try.func54, Try.ntmps54
    go_wp2_with (first | (go_at_call 66; refine (isWeight_any _ _).mono ?_; rintro e w1 ⟨rfl, rfl⟩) | (go_at_call 53; refine (isTime_any _ _).mono ?_; rintro e w1 ⟨rfl, rfl⟩))
    go_ret
    exact ⟨rfl, hB _⟩

def placeB (a : Int) (n : Nat) : Bool := decide (0 ≤ a ∧ a < (n : Int))
set_option maxHeartbeats 1000000 in
theorem isPlace_any (fl cu rn a : Int) (p : Option Addr) (n cap : Nat) (w : World) (_hn : n ≤ 1048576) :
    Calls Try.prog 41 #[.agg #[.int .i64 fl, .int .i64 cu, .int .i64 rn, .slice p n cap], .int .i64 a] w fun e w' => e = .returned (.bool (placeB a n)) ∧ Below w.heap.size w w' := by
  have hB : ∀ o, Below w.heap.size w (w.alloc o) := fun o => (Below.refl _ w).alloc (Nat.le_refl _) o
  by_cases h1 : 0 ≤ a
  · by_cases h2 : a < (n : Int)
    · have HP : Hid (placeB a n = true) := decide_eq_true ⟨h1, h2⟩
      go_enter Try.func41, Try.ntmps41
      go_wp2
      go_ret
      exact ⟨ret_bool (by first | exact HP.out.symm | (rw [HP.out]; rfl) | simp [HP.out]), hB _⟩
    · have HP : Hid (placeB a n = false) := decide_eq_false (fun h => h2 h.2)
      go_enter Try.func41, Try.ntmps41
      go_wp2
      go_ret
      exact ⟨ret_bool (by first | exact HP.out.symm | (rw [HP.out]; rfl) | simp [HP.out]), hB _⟩
  · have HP : Hid (placeB a n = false) := decide_eq_false (fun h => h1 h.1)
    go_enter Try.func41, Try.ntmps41
    go_wp2
    go_ret
    exact ⟨ret_bool (by first | exact HP.out.symm | (rw [HP.out]; rfl) | simp [HP.out]), hB _⟩

/-- what isStay answers of a queue whose entries are ok. -/
def stayB (q : Qu) : Bool :=
  if q.cu = -1 then decide (q.rn = 0)
  else placeB q.cu q.es.length && (decide (1 ≤ q.rn ∧ q.rn ≤ 149) && (onAt q.es q.cu.toNat && decide (vAt q.es q.cu.toNat - q.fl ≤ vstep q.rn (wAt q.es q.cu.toNat))))
set_option maxHeartbeats 4000000 in
theorem isStay_any (q : Qu) (sl : Value) (w : World) (hs : SlE w sl q.es) (hn : q.es.length ≤ 20) (hf : timeB q.fl = true) (hv : ∀ e ∈ q.es, timeB e.v = true) :
    Calls Try.prog 55 #[quV q sl] w fun e w' => e = .returned (.bool (stayB q)) ∧ Below w.heap.size w w' := by
  have hB : ∀ A, Below w.heap.size w (w.alloc A) := fun A => (Below.refl _ _).alloc (Nat.le_refl _) _
  by_cases c0 : q.cu = -1
  · have HS : Hid (stayB q = decide (q.rn = 0)) := by show _ = _; unfold stayB; rw [if_pos c0]
    unfold quV
    rw [c0]
    go_enter Try.func55, Try.ntmps55
    go_wp2
    go_ret
    refine ⟨ret_bool ?_, hB _⟩
    rw [HS.out]
    by_cases z : q.rn = 0 <;> simp [z]
  · have HS0 : Hid (stayB q = (placeB q.cu q.es.length && (decide (1 ≤ q.rn ∧ q.rn ≤ 149) && (onAt q.es q.cu.toNat && decide (vAt q.es q.cu.toNat - q.fl ≤ vstep q.rn (wAt q.es q.cu.toNat)))))) := by show _ = _; unfold stayB; rw [if_neg c0]
    rcases hs with ⟨h0, a, cap, rfl⟩ | ⟨g, o, cap, rfl, hE, hl, hm⟩
    · have hpl : placeB q.cu 0 = false := decide_eq_false (by omega)
      have HS : Hid (stayB q = false) := by show _ = _; rw [HS0.out, h0]; show (placeB q.cu 0 && _) = _; rw [hpl]; rfl
      unfold quV
      go_enter Try.func55, Try.ntmps55
      go_wp2_with (go_at_call 41; refine (isPlace_any _ _ _ _ _ _ _ _ (by decide)).mono ?_; rintro e1 w2 ⟨rfl, hb2⟩)
      go_ret
      exact ⟨ret_bool HS.out.symm, (box_kept hb2).1⟩
    · unfold maxLen at hm
      by_cases hpl : placeB q.cu q.es.length = true
      · have hp := of_decide_eq_true hpl
        have hpi : q.cu.toNat < q.es.length := by omega
        have hp0 := hp.1
        have hp1 := hp.2
        obtain ⟨e, he, ho, hve⟩ := ent_get hpi
        have hwe : wAt q.es q.cu.toNat = e.w := by unfold wAt; rw [he]; rfl
        have het := timeB_iff.1 (hv e (List.mem_of_getElem? he))
        have hft := timeB_iff.1 hf
        by_cases r1 : 1 ≤ q.rn
        · by_cases r2 : q.rn ≤ 149
          · have HS1 : Hid (stayB q = (e.on && decide (e.v - q.fl ≤ vstep q.rn e.w))) := by
              show _ = _; rw [HS0.out, hpl, decide_eq_true ⟨r1, r2⟩, ho, hve, hwe]; rfl
            have HW : Hid (IntKind.i64.wrap (e.v - q.fl) = e.v - q.fl) := wrapI (by omega) (by omega)
            have hvs := vstep_bd q.rn e.w
            clear hp
            by_cases d1 : e.on = true
            · have HS : Hid (stayB q = decide (e.v - q.fl ≤ vstep q.rn e.w)) := by show _ = _; rw [HS1.out, d1]; rfl
              have HE : Hid (EntAt w g o q.es) := hE
              unfold quV
              go_enter Try.func55, Try.ntmps55
              go_wp2_with (go_at_call 41; refine (isPlace_any _ _ _ _ _ _ _ _ (by omega)).mono ?_; rintro e1 w2 ⟨rfl, hb2⟩; obtain ⟨hb3, hbx, hlt⟩ := box_kept hb2; obtain ⟨q0, q1, q2, q3⟩ := qbox hbx; obtain ⟨x0, x1, x2, x3⟩ := hE.below hb3 _ e he; clear hb2)
              go_region_held3 (fun w' => w'.cell? ⟨w2.heap.size, 0, none⟩ = some (.bool true) ∧ w'.cell? ⟨w2.heap.size, 1, none⟩ = some (.int .i64 e.v) ∧ w'.cell? ⟨w2.heap.size, 2, none⟩ = some (.int .i64 e.w) ∧ w'.cell? ⟨w.heap.size, 0, none⟩ = some (.int .i64 q.fl) ∧ w'.cell? ⟨w.heap.size, 2, none⟩ = some (.int .i64 q.rn)) (go_keep) (first | (go_at_call 42; refine (impl_vstep _ _ _).mono ?_; rintro e1 w3 ⟨rfl, hb4⟩; have hb5 := (Below.refl _ (w2.alloc _)).drew.trans hb4; obtain ⟨hb6, hby, hlt2⟩ := box_kept hb5; obtain ⟨y0, y1, y2, y3⟩ := qbox hby; obtain ⟨z0, z1, z2, z3⟩ := qbox ((hb6.block _ hlt).trans hbx); clear hby hb4 hb5))
              all_goals
                go_wp2
                go_ret
                exact ⟨ret_bool (by rw [HS.out, HW.out]), hb3.trans (hb6.mono hb3.size)⟩
            · have d1' : e.on = false := by simpa using d1
              have HS : Hid (stayB q = false) := by show _ = _; rw [HS1.out, d1']; rfl
              unfold quV
              go_enter Try.func55, Try.ntmps55
              go_wp2_with (go_at_call 41; refine (isPlace_any _ _ _ _ _ _ _ _ (by omega)).mono ?_; rintro e1 w2 ⟨rfl, hb2⟩; obtain ⟨hb3, hbx, hlt⟩ := box_kept hb2; obtain ⟨q0, q1, q2, q3⟩ := qbox hbx; obtain ⟨x0, x1, x2, x3⟩ := hE.below hb3 _ e he; clear hb2)
              go_quiet (fail)
              go_wp2
              go_ret
              exact ⟨ret_bool HS.out.symm, below_drewN (hb3.alloc hb3.size _) _⟩
          · have HS : Hid (stayB q = false) := by show _ = _; rw [HS0.out, decide_eq_false (fun h => r2 h.2)]; simp
            unfold quV
            go_enter Try.func55, Try.ntmps55
            go_wp2_with (go_at_call 41; refine (isPlace_any _ _ _ _ _ _ _ _ (by omega)).mono ?_; rintro e1 w2 ⟨rfl, hb2⟩; obtain ⟨hb3, hbx, hlt⟩ := box_kept hb2; obtain ⟨q0, q1, q2, q3⟩ := qbox hbx; obtain ⟨x0, x1, x2, x3⟩ := hE.below hb3 _ e he; clear hb2)
            go_ret
            exact ⟨ret_bool HS.out.symm, hb3⟩
        · have HS : Hid (stayB q = false) := by show _ = _; rw [HS0.out, decide_eq_false (fun h => r1 h.1)]; simp
          unfold quV
          go_enter Try.func55, Try.ntmps55
          go_wp2_with (go_at_call 41; refine (isPlace_any _ _ _ _ _ _ _ _ (by omega)).mono ?_; rintro e1 w2 ⟨rfl, hb2⟩; obtain ⟨hb3, hbx, hlt⟩ := box_kept hb2; obtain ⟨q0, q1, q2, q3⟩ := qbox hbx; obtain ⟨x0, x1, x2, x3⟩ := hE.below hb3 _ e he; clear hb2)
          go_ret
          exact ⟨ret_bool HS.out.symm, hb3⟩
      · have hpl' : placeB q.cu q.es.length = false := by simpa using hpl
        have HS : Hid (stayB q = false) := by show _ = _; rw [HS0.out, hpl']; rfl
        unfold quV
        go_enter Try.func55, Try.ntmps55
        go_wp2_with (go_at_call 41; refine (isPlace_any _ _ _ _ _ _ _ _ (by omega)).mono ?_; rintro e1 w2 ⟨rfl, hb2⟩; obtain ⟨hb3, hbx, hlt⟩ := box_kept hb2; obtain ⟨q0, q1, q2, q3⟩ := qbox hbx; clear hb2)
        go_ret
        exact ⟨ret_bool HS.out.symm, hb3⟩
end Go.Proofs.Ytbifcjfjenpmnaa
