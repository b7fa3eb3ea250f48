/- Contracts of the specification's QueuePick. -/
import Derived.Test.YtbifcjfjenpmnaaQE
namespace Go.Proofs.Ytbifcjfjenpmnaa
open Go.ChangeShapes Go.WideShapes Go.ChangeAt Go.RowKit

set_option maxHeartbeats 4000000 in
theorem spec_queuePick (q : Qu) (sl : Value) (w : World) (hs : SlE w sl q.es) :
    Calls Try.prog 27 #[quV q sl] w fun e w' => e = .returned (.int .i64 (pickQ q)) ∧ Below w.heap.size w w' := by
  have hB : ∀ A, Below w.heap.size w (w.alloc A) := fun A => (Below.refl _ _).alloc (Nat.le_refl _) _
  have hsz : ∀ A w2, Below (w.alloc A).heap.size (w.alloc A) w2 → Below w.heap.size w w2 ∧ w2.heap[w.heap.size]? = some A ∧ w.heap.size < w2.heap.size := by
    intro A w2 h
    have e1 : (w.alloc A).heap.size = w.heap.size + 1 := by simp
    have hs := h.size
    refine ⟨(hB A).trans (h.mono (by omega)), (h.block _ (by omega)).trans (heap_alloc_new _ _), by omega⟩
  by_cases hok : quOk q = true
  · by_cases c1 : 0 ≤ q.cu
    · by_cases c2 : q.rn < 50
      · have HP : Hid (pickQ q = q.cu) := by show _ = _; unfold pickQ; rw [if_pos hok, decide_eq_true c1, decide_eq_true c2]; rfl
        unfold quV
        go_enter Try.func27, Try.ntmps27
        go_wp2_with (go_at_call 16; refine (spec_queueOk q sl _ (hs.below (hB _))).mono ?_; rintro e1 w2 ⟨rfl, hb2⟩; obtain ⟨hb3, hbx, hlt⟩ := hsz _ _ hb2; obtain ⟨q0, q1, q2, q3⟩ := qbox hbx; clear hbx)
        go_ret
        exact ⟨ret_int HP.out.symm, hb3⟩
      · have HP : Hid (pickQ q = least q.es) := by show _ = _; unfold pickQ; rw [if_pos hok, decide_eq_false c2]; simp
        unfold quV
        go_enter Try.func27, Try.ntmps27
        go_wp2_with (first | (go_at_call 16; refine (spec_queueOk q sl _ (hs.below (hB _))).mono ?_; rintro e1 w2 ⟨rfl, hb2⟩; obtain ⟨hb3, hbx, hlt⟩ := hsz _ _ hb2; obtain ⟨q0, q1, q2, q3⟩ := qbox hbx; clear hbx) | (go_at_call 59; refine (l4Least_any q.fl q.cu q.rn sl q.es _ (hs.below hb3)).mono ?_; rintro e2 w3 ⟨rfl, hb4⟩))
        go_ret
        exact ⟨ret_int HP.out.symm, hb3.trans (hb4.mono hb3.size)⟩
    · have HP : Hid (pickQ q = least q.es) := by show _ = _; unfold pickQ; rw [if_pos hok, decide_eq_false c1]; simp
      unfold quV
      go_enter Try.func27, Try.ntmps27
      go_wp2_with (first | (go_at_call 16; refine (spec_queueOk q sl _ (hs.below (hB _))).mono ?_; rintro e1 w2 ⟨rfl, hb2⟩; obtain ⟨hb3, hbx, hlt⟩ := hsz _ _ hb2; obtain ⟨q0, q1, q2, q3⟩ := qbox hbx; clear hbx) | (go_at_call 59; refine (l4Least_any q.fl q.cu q.rn sl q.es _ (hs.below hb3)).mono ?_; rintro e2 w3 ⟨rfl, hb4⟩))
      go_ret
      exact ⟨ret_int HP.out.symm, hb3.trans (hb4.mono hb3.size)⟩
  · have hno : quOk q = false := by simpa using hok
    have HP : Hid (pickQ q = -1) := by show _ = _; unfold pickQ; rw [if_neg hok]
    unfold quV
    go_enter Try.func27, Try.ntmps27
    go_wp2_with (go_at_call 16; refine (spec_queueOk q sl _ (hs.below (hB _))).mono ?_; rintro e1 w2 ⟨rfl, hb2⟩)
    go_ret
    exact ⟨ret_int HP.out.symm, (hsz _ _ hb2).1⟩

theorem NewE.is {B : Nat} {W : World} {x : Value} {es : List Ent} (h : NewE B W x es) : ∃ g, x = .slice (some ⟨g, 0, none⟩) es.length es.length := by
  obtain ⟨g, _, _, h3, _⟩ := h
  exact ⟨g, h3⟩
/-- behind a call the box that was made ahead of it is as it was. -/
theorem box_kept {w w2 : World} {A : Obj} (h : Below (w.alloc A).heap.size (w.alloc A) w2) : Below w.heap.size w w2 ∧ w2.heap[w.heap.size]? = some A ∧ w.heap.size < w2.heap.size := by
  have e1 : (w.alloc A).heap.size = w.heap.size + 1 := by simp
  have hs := h.size
  exact ⟨((Below.refl _ _).alloc (Nat.le_refl _) _).trans (h.mono (by omega)), (h.block _ (by omega)).trans (heap_alloc_new _ _), by omega⟩
end Go.Proofs.Ytbifcjfjenpmnaa
