/- The specification's small steps on a queue: the end of a stay, the floor's rise. -/
import Derived.Test.YtbifcjfjenpmnaaQT
namespace Go.Proofs.Ytbifcjfjenpmnaa
open Go.ChangeShapes Go.WideShapes Go.ChangeAt Go.RowKit

theorem SlE.form {W : World} {x : Value} {es : List Ent} (h : SlE W x es) : ∃ a cap, x = .slice a es.length cap := by
  rcases h with ⟨h0, b, cap', rfl⟩ | ⟨g, o, cap', rfl, _⟩
  · rw [h0]; exact ⟨_, _, rfl⟩
  · exact ⟨_, _, rfl⟩
set_option maxHeartbeats 2000000 in
theorem l4End_any (q : Qu) (a : Option Addr) (n cap : Nat) (w : World) :
    Calls Try.prog 81 #[quV q (.slice a n cap)] w fun e w' => e = .returned (quV (endQ q) (.slice a n cap)) ∧ Below w.heap.size w w' := by
  obtain ⟨fl, cu, rn, es⟩ := q
  unfold quV endQ
  dsimp only
  go_enter Try.func81, Try.ntmps81
  go_wp2
  go_returns
  refine ⟨rfl, ?_⟩
  exact ((Below.refl _ _).alloc (Nat.le_refl _) _).alloc (by simp) _
theorem two_box {w w2 : World} {A B : Obj} (h : Below ((w.alloc A).alloc B).heap.size ((w.alloc A).alloc B) w2) :
    Below w.heap.size w w2 ∧ w.heap.size + 1 < w2.heap.size ∧ w2.heap[w.heap.size]? = some A ∧ w2.heap[w.heap.size + 1]? = some B := by
  have hs := h.size
  have e1 : (w.alloc A).heap.size = w.heap.size + 1 := by simp
  have e2 : ((w.alloc A).alloc B).heap.size = w.heap.size + 1 + 1 := by simp
  refine ⟨(((Below.refl _ _).alloc (Nat.le_refl _) _).alloc (by omega) _).trans (h.mono (by omega)), by omega, ?_, ?_⟩
  · rw [h.block _ (by omega), heap_alloc_old _ _ (by omega)]
    exact heap_alloc_new _ _
  · rw [h.block _ (by omega)]
    have := heap_alloc_new (w.alloc A) B
    rwa [e1] at this
theorem four_there {w : World} {b : Nat} {x y z v : Value} {t : TypeId} (h : w.heap[b]? = some (.cells #[x, y, z, v] t (0, 0))) : w.there b 0 4 := by
  obtain ⟨q0, q1, q2, q3⟩ := qbox h
  intro j hj
  rw [Nat.zero_add]
  refine ⟨?_, fbox h _⟩
  match j, hj with
  | 0, _ => rw [q0]; rfl
  | 1, _ => rw [q1]; rfl
  | 2, _ => rw [q2]; rfl
  | 3, _ => rw [q3]; rfl
theorem range_four {W : World} {b : Nat} {x y z v : Value} (h : W.there b 0 4) :
    ((((W.setCell ⟨b, 0, none⟩ x).setCell ⟨b, 1, none⟩ y).setCell ⟨b, 2, none⟩ z).setCell ⟨b, 3, none⟩ v).rangeAt b 0 [x, y, z, v] := World.rangeAt_setCells_same W b 0 [x, y, z, v] h
theorem there_drew {w : World} {b o n : Nat} (h : w.there b o n) : w.drew.there b o n := h
theorem there_drewN {w : World} {b o n : Nat} (h : w.there b o n) (k : Nat) : (w.drewN k).there b o n := h
def mxI (a b : Int) : Int := if b < a then a else b
theorem mxI_eq (a b : Int) : (if a < b then b else a) = mxI a b := by unfold mxI; split <;> split <;> omega
theorem l1Max_mx (a b : Int) (w : World) : Calls Try.prog 68 #[.int .i64 a, .int .i64 b] w fun e w' => e = .returned (.int .i64 (mxI a b)) ∧ w' = w := l1Max_any a b w
set_option maxHeartbeats 2000000 in
theorem l4Rise_any (q : Qu) (sl : Value) (w : World) (hs : SlE w sl q.es) :
    Calls Try.prog 84 #[quV q sl] w fun e w' => e = .returned (quV (riseQ q) sl) ∧ Below w.heap.size w w' := by
  have hB : ∀ A B, Below w.heap.size w ((w.alloc A).alloc B) := fun A B => ((Below.refl _ _).alloc (Nat.le_refl _) _).alloc (by simp) _
  have hf := hs.form
  obtain ⟨a, cap, rfl⟩ := hf
  by_cases c : 0 ≤ least q.es
  · have hR : riseQ q = { q with fl := if q.fl < vAt q.es (least q.es).toNat then vAt q.es (least q.es).toNat else q.fl } := by unfold riseQ; rw [if_pos c]
    have hbd := leastTo_bd q.es q.es.length
    have hki : (least q.es).toNat < q.es.length := by unfold least at c ⊢; omega
    have hkl : least q.es < (q.es.length : Int) := by unfold least; omega
    obtain ⟨e, he, ho, hv⟩ := ent_get hki
    rcases hs with ⟨h0, _⟩ | ⟨g, o, cap', hsl, hE, hl, hm⟩
    · rw [h0] at hki; simp at hki
    obtain ⟨rfl, rfl⟩ : a = some ⟨g, o, none⟩ ∧ cap = cap' := by simpa using hsl
    have hs : SlE w (.slice (some ⟨g, o, none⟩) q.es.length cap) q.es := .inr ⟨g, o, cap, rfl, hE, hl, hm⟩
    rw [hv, mxI_eq] at hR
    clear hbd hsl
    rw [hR]
    unfold quV
    go_enter Try.func84, Try.ntmps84
    go_wp2_with (go_at_call 59; refine (l4Least_any q.fl q.cu q.rn _ q.es _ (hs.below (hB _ _))).mono ?_; rintro e2 w3 ⟨rfl, hb4⟩; obtain ⟨acc, hlt, hX, hY⟩ := two_box hb4; obtain ⟨q0, q1, q2, q3⟩ := qbox hX; obtain ⟨r0, r1, r2, r3⟩ := qbox hY; have f0 := fbox hX 0; have g0 := fbox hY 0; have g1 := fbox hY 1; have g2 := fbox hY 2; have g3 := fbox hY 3; have HX : Hid (_ = _) := hX; have HY : Hid (_ = _) := hY; clear hX hY hb4)
    unfold maxLen at hm
    obtain ⟨x0, x1, x2, x3⟩ := hE.below acc _ e he
    go_region_with (go_at_call 68; refine (l1Max_mx _ _ _).mono ?_; rintro e3 w4 ⟨rfl, rfl⟩)
    all_goals
      go_wp2
      refine bodyPost_ret (results_mid rfl _ _ (w.heap.size + 1) 0 [.int .i64 (mxI q.fl e.v), .int .i64 q.cu, .int .i64 q.rn, .slice (some ⟨g, o, none⟩) q.es.length cap] _ rfl ((World.rangeAt_drew _ _ _ _).2 (range_four (there_set1 (four_there HY.out)))) Try.underlying25 rfl info_qu) rfl ?_
      refine ⟨rfl, ?_⟩
      refine (((((acc.setCell ?_ _).setCell ?_ _).setCell ?_ _).setCell ?_ _).setCell ?_ _).drew <;> simp
  · have hR : riseQ q = q := by unfold riseQ; rw [if_neg c]
    rw [hR]
    unfold quV
    go_enter Try.func84, Try.ntmps84
    go_wp2_with (go_at_call 59; refine (l4Least_any q.fl q.cu q.rn _ q.es _ (hs.below (hB _ _))).mono ?_; rintro e2 w3 ⟨rfl, hb4⟩; obtain ⟨acc, hlt, hX, hY⟩ := two_box hb4; obtain ⟨q0, q1, q2, q3⟩ := qbox hX; obtain ⟨r0, r1, r2, r3⟩ := qbox hY; have f0 := fbox hX 0; have g0 := fbox hY 0; have g1 := fbox hY 1; have g2 := fbox hY 2; have g3 := fbox hY 3; have HX : Hid (_ = _) := hX; have HY : Hid (_ = _) := hY; clear hX hY hb4)
    refine bodyPost_ret (results_mid rfl _ _ (w.heap.size + 1) 0 [.int .i64 q.fl, .int .i64 q.cu, .int .i64 q.rn, .slice a q.es.length cap] _ rfl (range_four (four_there HY.out)) Try.underlying25 rfl info_qu) rfl ?_
    refine ⟨rfl, ?_⟩
    refine (((acc.setCell ?_ _).setCell ?_ _).setCell ?_ _).setCell ?_ _ <;> simp
end Go.Proofs.Ytbifcjfjenpmnaa
