/- QueueNew, of the program. -/
import Derived.Test.YtbifcjfjenpmnaaQY
namespace Go.Proofs.Ytbifcjfjenpmnaa
set_option linter.unusedVariables false
set_option linter.unusedSimpArgs false
open Go.ChangeShapes Go.WideShapes Go.ChangeAt Go.RowKit

theorem block_grown' {w w1 : World} {A : Obj} {b : Nat} {o : Obj} {row : Option Nat} (h : w.heap[b]? = some o) (hg : (w.alloc A).grownBy w1 row) (hne : row ≠ some b) : w1.heap[b]? = some o := by
  have hlt : b < w.heap.size := (Array.getElem?_eq_some_iff.1 h).1
  have h1 := hg.block b (by simp; omega) (Ne.symm hne)
  rw [h1]
  exact (((Below.refl _ _).alloc (Nat.le_refl _) _).block b hlt).trans h
set_option maxRecDepth 100000 in
set_option maxHeartbeats 4000000 in
theorem impl_queueNew (sl : Value) (ws : List Int) (w : World) (hs : SlI w sl ws) (hn : ws.length ≤ 1048576) :
    Calls Try.prog 22 #[sl] w fun e w' => ∃ sl', e = .returned (.tuple #[quV (newQ ws).1 sl', .bool (newQ ws).2]) ∧ OwnE w.heap.size w' sl' (newQ ws).1.es ∧ Below w.heap.size w w' := by
  obtain ⟨i0, hi0, hz0, hz1, hz2⟩ := info_parts info_ent
  obtain ⟨a, cap, rfl⟩ : ∃ a cap, sl = .slice a ws.length cap := by
    rcases hs with ⟨h0, a, cap, rfl⟩ | ⟨g, o, cap, rfl, _⟩
    · exact ⟨a, cap, by rw [h0]; rfl⟩
    · exact ⟨_, cap, rfl⟩
  by_cases c1 : ¬ (20 : Int) < (ws.length : Int)
  · have HS : Hid (SlI w (.slice a ws.length cap) ws) := hs
    clear hs
    have c2 : ws.length ≤ 20 := by omega
    go_enter Try.func22, Try.ntmps22
    go_wp2
    go_loopw [14] (fun i wr => ∃ (k : Nat) (v : Value), k ≤ ws.length ∧ i = .int .i64 k ∧ wr.ownsRow (w.heap.size + 2) 32 4 v k (flatE ((ws.take k).map ent0)) ∧ wr.heap[w.heap.size + 1]? = some (.cells #[.int .i64 0, .int .i64 (-1), .int .i64 0, v] 25 (0, 0)) ∧ wr.heap[w.heap.size]? = some (.cells #[.int .i64 0, .int .i64 0, .int .i64 0, .slice none 0 0] 25 (0, 0)) ∧ Below w.heap.size w wr) (fun i _ => ws.length - (intOf i).toNat)
    case atStart => exact ⟨0, .slice none 0 0, by omega, rfl, World.ownsRow_nil _ _ _ _, heap_alloc2_new _ _ _, heap_alloc2_old _ _ _, ((Below.refl _ _).alloc (Nat.le_refl _) _).alloc (by simp) _⟩
    case round =>
      obtain ⟨k, v, hk, rfl, hown, hbq, hbr, acc⟩ := hrel
      have hsz : w.heap.size + 1 < wr.heap.size := (Array.getElem?_eq_some_iff.1 hbq).1
      obtain ⟨r0, r1, r2, r3⟩ := qbox hbq
      have r3f := fbox hbq 3
      have HBQ : Hid (wr.heap[w.heap.size + 1]? = some (.cells #[.int .i64 0, .int .i64 (-1), .int .i64 0, v] 25 (0, 0))) := hbq
      have HBR : Hid (wr.heap[w.heap.size]? = some (.cells #[.int .i64 0, .int .i64 0, .int .i64 0, .slice none 0 0] 25 (0, 0))) := hbr
      clear hbq hbr
      by_cases hlt : k < ws.length
      · have hlt' : (k : Int) < (ws.length : Int) := by omega
        have hk0 : (0 : Int) ≤ (k : Int) := by omega
        obtain ⟨g, o, rfl, hE⟩ : ∃ g o, a = some ⟨g, o, none⟩ ∧ IntAt w g o ws := by
          rcases HS.out with ⟨h0, _⟩ | ⟨g, o, cap', h1, h2, _⟩
          · rw [h0] at hlt; simp at hlt
          · injection h1 with h1 _ _
            exact ⟨g, o, h1, h2⟩
        obtain ⟨n, he⟩ := int_get hlt
        have hgw : g < w.heap.size := block_lt_of_cell (hE k n he)
        have h0 : wr.cell? ⟨g, o + k, none⟩ = some (.int .i64 n) := (acc.cell (p := ⟨g, o + k, none⟩) hgw).trans (hE k n he)
        have hmx : k + 1 ≤ maxLen := by unfold maxLen; omega
        go_wp2_with (at_builtin; refine wpList_append_lies _ rfl _ _ _ rfl (w.heap.size + 2) 32 i0 _ 4 32 Try.underlying23 hi0 hz0 hz1 hz2 rfl (by omega) v k (flatE ((ws.take k).map ent0)) rfl (hown.alloc _) ⟨wr.heap.size, 0, none⟩ 1 1 (entCells (ent0 n)) rfl rfl (World.news_of_block (cs := #[.bool false, .int .i64 0, .int .i64 n, .int .i64 0]) (t := 32) (fr := (0, 0)) (heap_alloc_new wr _)) (by simp [Value.oneCell', entCells, ent0]) (by omega) hmx (by omega) (by simp; omega) (wr.heap.size + 1) (by simp) ?_; intro gg cap2 w1 hown1 hgrow hat hlt1; have hbq1 := block_grown' HBQ.out hgrow (own_ne hown (by omega)); obtain ⟨d0, d1, d2, d3⟩ := qbox hbq1; have d3f := fbox hbq1 3)
        have hw3 : (w1.setCell ⟨w.heap.size + 1, 3, none⟩ (.slice (some ⟨gg, 0, none⟩) (k + 1) cap2)).heap[w.heap.size + 1]? = some (.cells #[.int .i64 0, .int .i64 (-1), .int .i64 0, .slice (some ⟨gg, 0, none⟩) (k + 1) cap2] 25 (0, 0)) := heap_setCell_same _ _ _ _ _ _ hbq1
        have hw4 : (w1.setCell ⟨w.heap.size + 1, 3, none⟩ (.slice (some ⟨gg, 0, none⟩) (k + 1) cap2)).heap[w.heap.size]? = some (.cells #[.int .i64 0, .int .i64 0, .int .i64 0, .slice none 0 0] 25 (0, 0)) := by
          rw [heap_setCell_other _ _ _ _ (by simp)]
          exact block_grown' HBR.out hgrow (own_ne hown (by omega))
        have hgB : w.heap.size + 2 ≤ gg := (hown1.lt gg rfl).1
        have hw5 : (w1.setCell ⟨w.heap.size + 1, 3, none⟩ (.slice (some ⟨gg, 0, none⟩) (k + 1) cap2)).ownsRow (w.heap.size + 2) 32 4 (.slice (some ⟨gg, 0, none⟩) (k + 1) cap2) (k + 1) (flatE ((ws.take (k + 1)).map ent0)) := by
          rw [take_ent0 he]
          exact ownsRow_setCell_other hown1 (by simp [Value.ownBlock]; omega) _
        have hw6 : Below w.heap.size w (w1.setCell ⟨w.heap.size + 1, 3, none⟩ (.slice (some ⟨gg, 0, none⟩) (k + 1) cap2)) := by
          refine Below.setCell ?_ (by simp) _
          exact Below.grown (acc.alloc acc.size _) hgrow (by have := acc.size; simp; omega) (fun j ej => by have := (hown.lt j ej).1; omega)
        exact ⟨⟨k + 1, _, hlt, by go_num, hw5, hw3, hw4, hw6⟩, by simp [intOf]; omega⟩
      · have hkk : k = ws.length := by omega
        have hlt' : ¬ (k : Int) < (ws.length : Int) := by omega
        subst hkk
        rw [List.take_length] at hown
        have HO : Hid (OwnE (w.heap.size + 2) wr v (ws.map ent0)) := own_of_row hown (by simp)
        by_cases hok : quOk (rawQ ws) = true
        · have HN : Hid (newQ ws = (rawQ ws, true)) := by show _ = _; unfold newQ; rw [if_pos hok]
          have hpos : 1 ≤ ws.length := by
            by_cases h : 1 ≤ ws.length
            · exact h
            · exfalso
              unfold quOk headOk rawQ at hok; simp at hok; omega
          obtain ⟨gg, cap3, rfl, hgg0, hgg1⟩ := hown.form hpos
          clear hown
          go_wp2_with (go_at_call 18; refine (impl_queueOk (rawQ ws) _ _ HO.out.sl (by show (ws.map ent0).length ≤ _; simp; omega)).mono ?_; rintro e1 w5 ⟨rfl, hb5⟩; rw [hok]; have hbq5 := (hb5.block _ (by omega)).trans HBQ.out; have hbr5 := (hb5.block _ (by omega)).trans HBR.out; obtain ⟨y0, y1, y2, y3⟩ := qbox hbq5; obtain ⟨z0, z1, z2, z3⟩ := qbox hbr5; have z0f := fbox hbr5 0; have z1f := fbox hbr5 1; have z2f := fbox hbr5 2; have z3f := fbox hbr5 3; have HBR5 : Hid (_ = _) := hbr5; clear hbq5 hbr5)
          refine bodyPost_ret (results_mid2 rfl _ _ w.heap.size 0 [.int .i64 0, .int .i64 (-1), .int .i64 0, .slice (some ⟨gg, 0, none⟩) ws.length cap3] _ rfl (range_four' HBR5.out) Try.underlying25 rfl info_qu) rfl ?_
          rw [HN.out]
          have hG := grown_set (grown_set (grown_set (grown_set (grown_refl w5 (some w.heap.size)) 0 (.int .i64 0)) 1 (.int .i64 (-1))) 2 (.int .i64 0)) 3 (.slice (some ⟨gg, 0, none⟩) ws.length cap3)
          refine ⟨_, rfl, ?_, ?_⟩
          · exact ((HO.out.below hb5).grown hG (fun g' hg' => by simp [Value.ownBlock] at hg'; intro e; cases e; omega)).mono (by omega)
          · exact (acc.trans (hb5.mono acc.size)).trans (below_grown hG (Nat.le_refl _) (Nat.le_trans acc.size hb5.size))
        · have hno : quOk (rawQ ws) = false := by simpa using hok
          have HN : Hid (newQ ws = (⟨0, 0, 0, []⟩, false)) := by show _ = _; unfold newQ; rw [if_neg hok]
          clear hown
          go_wp2_with (go_at_call 18; refine (impl_queueOk (rawQ ws) _ _ HO.out.sl (by show (ws.map ent0).length ≤ _; simp; omega)).mono ?_; rintro e1 w5 ⟨rfl, hb5⟩; rw [hno]; have hbq5 := (hb5.block _ (by omega)).trans HBQ.out; have hbr5 := (hb5.block _ (by omega)).trans HBR.out; obtain ⟨y0, y1, y2, y3⟩ := qbox hbq5; obtain ⟨z0, z1, z2, z3⟩ := qbox hbr5; have z0f := fbox hbr5 0; have z1f := fbox hbr5 1; have z2f := fbox hbr5 2; have z3f := fbox hbr5 3; have HBR5 : Hid (_ = _) := hbr5; clear hbq5 hbr5)
          refine bodyPost_ret (results_mid2 rfl _ _ w.heap.size 0 [.int .i64 0, .int .i64 0, .int .i64 0, .slice none 0 0] _ rfl (range_four' HBR5.out) Try.underlying25 rfl info_qu) rfl ?_
          rw [HN.out]
          have hG := grown_set (grown_set (grown_set (grown_set (grown_refl w5 (some w.heap.size)) 0 (.int .i64 0)) 1 (.int .i64 0)) 2 (.int .i64 0)) 3 (.slice none 0 0)
          refine ⟨_, rfl, .inl ⟨rfl, rfl⟩, ?_⟩
          exact (acc.trans (hb5.mono acc.size)).trans (below_grown hG (Nat.le_refl _) (Nat.le_trans acc.size hb5.size))
  · have c2 : (20 : Int) < (ws.length : Int) := by omega
    have HN : Hid (newQ ws = (⟨0, 0, 0, []⟩, false)) := newQ_no (by omega)
    clear c1
    go_enter Try.func22, Try.ntmps22
    go_wp2
    go_returns
    rw [HN.out]
    exact ⟨_, rfl, .inl ⟨rfl, rfl⟩, ((Below.refl _ _).alloc (Nat.le_refl _) _)⟩
end Go.Proofs.Ytbifcjfjenpmnaa
