/- Contracts of the statements' own functions on queues: what compares two, what measures one. -/
import Derived.Test.YtbifcjfjenpmnaaQL
namespace Go.Proofs.Ytbifcjfjenpmnaa
open Go.ChangeShapes Go.WideShapes Go.ChangeAt Go.RowKit

set_option maxHeartbeats 2000000 in
theorem eqEntryS_same (x y : Value) (es : List Ent) (w : World) (hx : SlE w x es) (hy : SlE w y es) :
    Calls Try.prog 56 #[x, y] w fun e w' => e = .returned (.bool true) ∧ Below w.heap.size w w' := by
  rcases hx with ⟨h0, a, cap, rfl⟩ | ⟨g, o, cap, rfl, hE, hl, hm⟩
  · have : ∃ b cap', y = .slice b 0 cap' := by
      rcases hy with ⟨_, b, cap', rfl⟩ | ⟨g, o, cap', rfl, _⟩
      · exact ⟨_, _, rfl⟩
      · rw [h0]; exact ⟨_, _, rfl⟩
    obtain ⟨b, cap', rfl⟩ := this
    go_enter Try.func56, Try.ntmps56
    go_wp2
    refine wp_loop_rounds 1 ?_
    rw [rounds_succ]
    go_wp2
    go_ret
    exact ⟨rfl, Below.refl _ _⟩
  · rcases hy with ⟨h0, b, cap', rfl⟩ | ⟨g', o', cap', rfl, hE2, hl2, hm2⟩
    · rw [h0]
      go_enter Try.func56, Try.ntmps56
      go_wp2
      refine wp_loop_rounds 1 ?_
      rw [rounds_succ]
      go_wp2
      go_ret
      exact ⟨rfl, Below.refl _ _⟩
    · unfold maxLen at hm hm2
      go_enter Try.func56, Try.ntmps56
      go_wp2
      go_loopw [5] (fun i wr => ∃ k : Nat, k ≤ es.length ∧ i = .int .i64 k ∧ Below w.heap.size w wr) (fun i _ => es.length - (intOf i).toNat)
      case atStart => exact ⟨0, by omega, rfl, Below.refl _ _⟩
      case round =>
        obtain ⟨k, hk, rfl, acc⟩ := hrel
        by_cases hlt : k < es.length
        · have hlt' : (k : Int) < (es.length : Int) := by omega
          obtain ⟨e, he, ho, hv⟩ := ent_get hlt
          obtain ⟨x0, x1, x2, x3⟩ := hE.below acc k e he
          obtain ⟨y0, y1, y2, y3⟩ := hE2.below acc k e he
          go_wp2_with fail
          go_region_with (go_at_call 79; refine (eqEntry_same e _).mono ?_; rintro e1 w2 ⟨rfl, hb2⟩)
          all_goals
            replace hb2 := (Below.refl _ wr).drew.trans hb2
            go_wp2
            go_roundw
            case rel => exact ⟨k + 1, by omega, by go_num, acc.trans (hb2.mono acc.size)⟩
            case measure => simp [intOf]; omega
        · have hlt' : ¬ (k : Int) < (es.length : Int) := by omega
          go_wp2
          go_ret
          exact ⟨rfl, acc⟩
set_option maxHeartbeats 2000000 in
theorem szQueue_any (q : Qu) (sl : Value) (n : Int) (w : World) (hs : SlE w sl q.es) (h0 : 0 ≤ n) (h1 : n ≤ 1048576) :
    Calls Try.prog 15 #[quV q sl, .int .i64 n] w fun e w' => e = .returned (.int .i64 (if n < q.es.length then -1 else n - q.es.length)) ∧ Below w.heap.size w w' := by
  obtain ⟨fl, cu, rn, es⟩ := q
  have hsl : ∃ a cap, sl = .slice a es.length cap ∧ es.length ≤ 9223372036854775807 := by
    rcases hs with ⟨h0, b, cap', rfl⟩ | ⟨g, o, cap', rfl, _, h2, h3⟩
    · dsimp only at h0; rw [h0]; exact ⟨_, _, rfl, by decide⟩
    · unfold maxLen at h3; exact ⟨_, _, rfl, by dsimp only at h2; omega⟩
  obtain ⟨a, cap, rfl, hle⟩ := hsl
  unfold quV
  dsimp only
  clear hs
  by_cases c : n < (es.length : Int)
  · rw [if_pos c]
    have c' : n - (es.length : Int) < 0 := by omega
    go_enter Try.func15, Try.ntmps15
    go_wp2
    go_ret
    exact ⟨rfl, (Below.refl _ _).alloc (Nat.le_refl _) _⟩
  · rw [if_neg c]
    have c' : ¬ n - (es.length : Int) < 0 := by omega
    go_enter Try.func15, Try.ntmps15
    go_wp2
    go_ret
    exact ⟨rfl, (Below.refl _ _).alloc (Nat.le_refl _) _⟩
set_option maxHeartbeats 2000000 in
theorem eqQueue_same (q : Qu) (x y : Value) (w : World) (hx : SlE w x q.es) (hy : SlE w y q.es) :
    Calls Try.prog 19 #[quV q x, quV q y] w fun e w' => e = .returned (.bool true) ∧ Below w.heap.size w w' := by
  obtain ⟨fl, cu, rn, es⟩ := q
  unfold quV
  dsimp only at *
  have hB : ∀ A B, Below w.heap.size w ((w.alloc A).alloc B) := fun A B => ((Below.refl _ _).alloc (Nat.le_refl _) _).alloc (by simp) _
  go_enter Try.func19, Try.ntmps19
  go_wp2_with (go_at_call 56; refine (eqEntryS_same x y es _ (hx.below (hB _ _)) (hy.below (hB _ _))).mono ?_; rintro e1 w2 ⟨rfl, hb2⟩)
  go_ret
  exact ⟨rfl, (hB _ _).trans (hb2.mono (by simp; omega))⟩
end Go.Proofs.Ytbifcjfjenpmnaa
