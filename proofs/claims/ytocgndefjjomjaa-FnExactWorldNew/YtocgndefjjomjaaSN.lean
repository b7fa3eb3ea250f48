/- A group that is new: of the specification and of the program. -/
import Derived.Test.YtocgndefjjomjaaWV
namespace Go.Proofs.Ytocgndefjjomjaa
set_option linter.unusedVariables false
set_option linter.unusedSimpArgs false
open Go.ChangeShapes Go.WideShapes Go.ChangeAt Go.RowKit

section
variable {α : Type} {c : α → List Value} {m : Nat}
theorem flat_len (hc : ∀ y, (c y).length = m) (xs : List α) : (xs.flatMap c).length = xs.length * m := by
  induction xs with
  | nil => simp
  | cons x xs ih => rw [List.flatMap_cons, List.length_append, ih, hc, List.length_cons, Nat.add_mul]; omega
theorem flat_get (hc : ∀ y, (c y).length = m) {xs : List α} {i j : Nat} {e : α} {v : Value} (he : xs[i]? = some e) (hv : (c e)[j]? = some v) : (xs.flatMap c)[i * m + j]? = some v := by
  have hj : j < m := by have := (List.getElem?_eq_some_iff.1 hv).1; rw [hc] at this; exact this
  induction xs generalizing i with
  | nil => simp at he
  | cons x xs ih =>
    rw [List.flatMap_cons]
    cases i with
    | zero =>
      obtain rfl : x = e := by simpa using he
      rw [Nat.zero_mul, Nat.zero_add, List.getElem?_append_left (by rw [hc]; exact hj)]
      exact hv
    | succ i =>
      rw [List.getElem?_append_right (by rw [hc, Nat.add_mul]; omega), hc, show (i + 1) * m + j - m = i * m + j by rw [Nat.add_mul]; omega]
      exact ih (by simpa using he)
theorem own_of_rowR (hc : ∀ y, (c y).length = m) {B n : Nat} {W : World} {v : Value} {t : TypeId} {xs : List α} (h : W.ownsRow B t m v n (xs.flatMap c)) (hn : n = xs.length) : OwnR c m B W v xs := by
  subst hn
  rcases h.2 with ⟨h1, h2⟩ | ⟨g, cap, cur, rfl, h2, h3, h4, h5, h6, h7⟩
  · exact .inl ⟨List.length_eq_zero_iff.1 h2, h1⟩
  · have hcl := h.cells (g := g) rfl
    refine .inr ⟨g, cap, h2, (Array.getElem?_eq_some_iff.1 h3).1, rfl, ?_, ?_, h4, h5⟩
    · intro i e he j u hu
      have c0 := hcl _ u (flat_get hc he hu)
      rw [add_none', Nat.zero_add] at c0
      rw [Nat.zero_add]
      exact c0
    · intro j hj
      rw [Nat.zero_add, cell_of_row _ _ _ _ _ _ h3]
      refine ⟨?_, frozen_of_row _ _ _ _ _ h3⟩
      have : xs.length * m ≤ cap * m := Nat.mul_le_mul_right m h4
      have : j < cur.size := by omega
      simp [this]
end
def sh1 : Sh := ⟨0, false, 0, 10, 0⟩
def newGr (n : Nat) (pa : Int) (na : ByteArray) : Gr := ⟨true, pa, na, 10, 15, 0, 0, 0, ba0, List.replicate n sh1⟩
def newGv (n : Nat) (pa : Int) (na : ByteArray) (z : Value) : Gv := ⟨newGr n pa na, .slice none 0 0, .slice none 0 0, z⟩
def shs (k : Nat) : List Value := (List.replicate k sh1).flatMap shC
theorem shs_succ (k : Nat) : shs (k + 1) = shs k ++ [.int .i64 0, .bool false, .int .i64 0, .int .i64 10, .int .i64 0] := by
  unfold shs
  rw [List.replicate_succ', List.flatMap_append]
  rfl
theorem own_ne' {W : World} {B : Nat} {e : TypeId} {size : Nat} {v : Value} {n : Nat} {xs : List Value} (h : W.ownsRow B e size v n xs) {b : Nat} (hb : b < B) : v.ownBlock ≠ some b := fun hh => by
  have := (h.lt b hh).1; omega
theorem info_shelf : (Try.prog.info? 51).map (fun i => (i.zero, i.size, i.bytes)) = some (some (.agg #[.int .i64 0, .bool false, .int .i64 0, .int .i64 0, .int .i64 0]), 5, 40) := by kernel_rfl
theorem block_grownA {w w1 : World} {A : Obj} {b : Nat} {o : Obj} {row : Option Nat} (h : w.heap[b]? = some o) (hg : (w.alloc A).grownBy w1 row) (hne : row ≠ some b) : w1.heap[b]? = some o := by
  have hl := (Array.getElem?_eq_some_iff.1 h).1
  rw [hg.block b (by simp; omega) (fun e => hne e.symm), heap_alloc_old _ _ hl]
  exact h
/-- a group's result, out of its box. -/
theorem ret_group {fn : Func} {p : Tmp} (hfn : fn.results = #[.cell p 41]) (tmps : Array Value) (w : World) (b : Nat) (c0 c1 c2 c3 c4 c5 c6 c7 c8 c9 c10 c11 c12 c13 : Value) {u0 u1 u2 u3 u4 u5 u6 u7 u8 u9 u10 u11 u12 u13 : Value} (hR : w.heap[b]? = some (.cells #[u0, u1, u2, u3, u4, u5, u6, u7, u8, u9, u10, u11, u12, u13] 41 (0, 0))) :
    (w.setCells b 0 [c0, c1, c2, c3, c4, c5, c6, c7, c8, c9, c10, c11, c12, c13]).rangeAt b 0 [c0, c1, c2, c3, c4, c5, c6, c7, c8, c9, c10, c11, c12, c13] := by
  have h : w.there b 0 14 := there_of_block hR
  exact World.rangeAt_setCells_same _ b 0 _ h
set_option maxHeartbeats 8000000 in
set_option maxRecDepth 20000 in
theorem spec_group (n : Nat) (pa : Int) (na : ByteArray) (w : World) (hn : n ≤ 4) :
    Calls Try.prog 10 #[.int .i64 n, .int .i64 pa, .string na] w fun e w' => ∃ z, e = .returned (gvV (newGv n pa na z)) ∧ OwnSh (w.heap.size + 2) w' z (List.replicate n sh1) ∧ Below w.heap.size w w' := by
  obtain ⟨i0, hi, hz0, hz1, hz2⟩ := info_parts info_shelf
  go_enter Try.func10, Try.ntmps10
  go_wp2
  go_loopw [8] (fun i wr => ∃ (k : Nat) (v : Value), k ≤ n ∧ i = .int .i64 k ∧ wr.ownsRow (w.heap.size + 2) 51 5 v k (shs k) ∧ wr.heap[w.heap.size]? = some (.cells #[.bool false, .int .i64 0, .string ⟨#[]⟩, .int .i64 0, .int .i64 0, .int .i64 0, .int .i64 0, .int .i64 0, .int .i64 0, .int .i64 0, .int .i64 0, .slice none 0 0, .slice none 0 0, .slice none 0 0] 41 (0, 0)) ∧ wr.heap[w.heap.size + 1]? = some (.cells #[.bool true, .int .i64 pa, .string na, .int .i64 10, .int .i64 15, .int .i64 0, .int .i64 0, .int .i64 0, .int .i64 0, .int .i64 0, .int .i64 0, .slice none 0 0, .slice none 0 0, v] 41 (0, 0)) ∧ Below w.heap.size w wr ∧ w.heap.size + 2 ≤ wr.heap.size) (fun i _ => n - (intOf i).toNat)
  case atStart => exact ⟨0, _, by omega, rfl, World.ownsRow_nil _ _ _ _, heap_alloc2_old _ _ _, heap_alloc2_new _ _ _, ((Below.refl _ _).alloc (Nat.le_refl _) _).alloc (by simp) _, by simp⟩
  case round =>
    obtain ⟨k, v, hk, rfl, hown, hR, hG, acc, hsz⟩ := hrel
    by_cases hlt : k < n
    · have hlt' : (k : Int) < (n : Int) := by omega
      obtain ⟨o0, o1, o2, o3, o4, o5, o6, o7, o8, o9, o10, o11, o12, o13⟩ := gbox hG
      clear o0 o1 o2 o3 o4 o5 o6 o7 o8 o9 o10 o11 o12
      have hmx : k + 1 ≤ maxLen := by unfold maxLen; omega
      have HK : Hid (shs (k + 1) = shs k ++ [.int .i64 0, .bool false, .int .i64 0, .int .i64 10, .int .i64 0]) := shs_succ k
      have HR : Hid (wr.heap[w.heap.size]? = some (.cells #[.bool false, .int .i64 0, .string ⟨#[]⟩, .int .i64 0, .int .i64 0, .int .i64 0, .int .i64 0, .int .i64 0, .int .i64 0, .int .i64 0, .int .i64 0, .slice none 0 0, .slice none 0 0, .slice none 0 0] 41 (0, 0))) := hR
      have HG : Hid (wr.heap[w.heap.size + 1]? = some (.cells #[.bool true, .int .i64 pa, .string na, .int .i64 10, .int .i64 15, .int .i64 0, .int .i64 0, .int .i64 0, .int .i64 0, .int .i64 0, .int .i64 0, .slice none 0 0, .slice none 0 0, v] 41 (0, 0))) := hG
      have hvn := own_ne' hown (b := w.heap.size + 1) (by omega)
      have hvr := own_ne' hown (b := w.heap.size) (by omega)
      clear hR hG
      go_wp2_with (at_builtin; refine wpList_append_lies _ rfl _ _ 39 rfl (w.heap.size + 2) 51 i0 _ 5 40 Try.underlying39 hi hz0 hz1 hz2 rfl (by decide) v k (shs k) rfl (hown.alloc _) ⟨wr.heap.size, 0, none⟩ 1 1 [.int .i64 0, .bool false, .int .i64 0, .int .i64 10, .int .i64 0] rfl rfl (World.news_of_block (cs := #[.int .i64 0, .bool false, .int .i64 0, .int .i64 10, .int .i64 0]) (t := 51) (fr := (0, 0)) (heap_alloc_new wr _)) (by simp [Value.oneCell']) (by decide) hmx (by omega) (by simp; omega) (wr.heap.size + 1) (by simp) ?_; intro gg cap2 w1 hown1 hgrow hat hlt1; have d := block_grownA HG.out hgrow hvn; have d13 := (gbox d).2.2.2.2.2.2.2.2.2.2.2.2.2; have d13f := fbox d 13; have HD : Hid (w1.heap[w.heap.size + 1]? = some (.cells #[.bool true, .int .i64 pa, .string na, .int .i64 10, .int .i64 15, .int .i64 0, .int .i64 0, .int .i64 0, .int .i64 0, .int .i64 0, .int .i64 0, .slice none 0 0, .slice none 0 0, v] 41 (0, 0))) := d; have HDR : Hid (w1.heap[w.heap.size]? = some (.cells #[.bool false, .int .i64 0, .string ⟨#[]⟩, .int .i64 0, .int .i64 0, .int .i64 0, .int .i64 0, .int .i64 0, .int .i64 0, .int .i64 0, .int .i64 0, .slice none 0 0, .slice none 0 0, .slice none 0 0] 41 (0, 0))) := block_grownA HR.out hgrow hvr; clear d)
      have hgs := hgrow.size
      have hgg : gg ≠ w.heap.size + 1 ∧ w.heap.size + 2 ≤ gg := by
        have := (hown1.lt gg rfl).1
        omega
      refine ⟨⟨k + 1, .slice (some ⟨gg, 0, none⟩) (k + 1) cap2, hlt, by go_num, ?_, ?_, ?_, ?_, ?_⟩, by simp [intOf]; omega⟩
      · rw [HK.out]
        exact ownsRow_setCell_other hown1 (by simp [Value.ownBlock]; omega) _
      · rw [heap_setCell_other _ _ _ _ (by simp)]; exact HDR.out
      · exact heap_setCell_same _ _ _ _ _ _ HD.out
      · exact ((acc.alloc acc.size _).grown hgrow (by have := acc.size; simp; omega) (fun j hj => by have := (hown.lt j hj).1; omega)).setCell (by show w.heap.size ≤ w.heap.size + 1; omega) _
      · simp only [World.size_setCell]; simp at hgs; omega
    · have hlt' : ¬ (k : Int) < (n : Int) := by omega
      obtain rfl : k = n := by omega
      have HO : Hid (OwnSh (w.heap.size + 2) wr v (List.replicate k sh1)) := own_of_rowR shC_len hown (by simp)
      have hform : ∃ p l c, v = .slice p l c := by
        obtain ⟨p, q, h⟩ := HO.out.form
        exact ⟨_, _, _, h⟩
      obtain ⟨p, l, cc, rfl⟩ := hform
      obtain ⟨o0, o1, o2, o3, o4, o5, o6, o7, o8, o9, o10, o11, o12, o13⟩ := gbox hG
      obtain ⟨r0, r1, r2, r3, r4, r5, r6, r7, r8, r9, r10, r11, r12, r13⟩ := gbox hR
      have r0f := fbox hR 0
      have r1f := fbox hR 1
      have r2f := fbox hR 2
      have r3f := fbox hR 3
      have r4f := fbox hR 4
      have r5f := fbox hR 5
      have r6f := fbox hR 6
      have r7f := fbox hR 7
      have r8f := fbox hR 8
      have r9f := fbox hR 9
      have r10f := fbox hR 10
      have r11f := fbox hR 11
      have r12f := fbox hR 12
      have r13f := fbox hR 13
      have HRG := ret_group (fn := Try.f10) rfl #[] wr w.heap.size (.bool true) (.int .i64 pa) (.string na) (.int .i64 10) (.int .i64 15) (.int .i64 0) (.int .i64 0) (.int .i64 0) (.int .i64 0) (.int .i64 0) (.int .i64 0) (.slice none 0 0) (.slice none 0 0) (.slice p l cc) hR
      have HKP := Kept.setCells wr w.heap.size 0 [.bool true, .int .i64 pa, .string na, .int .i64 10, .int .i64 15, .int .i64 0, .int .i64 0, .int .i64 0, .int .i64 0, .int .i64 0, .int .i64 0, .slice none 0 0, .slice none 0 0, .slice p l cc]
      have HRG' : Hid _ := HRG
      clear hR hG hown
      clear HRG
      go_wp2_with fail
      refine bodyPost_ret (results_mid rfl _ _ w.heap.size 0 [.bool true, .int .i64 pa, .string na, .int .i64 10, .int .i64 15, .int .i64 0, .int .i64 0, .int .i64 0, .int .i64 0, .int .i64 0, .int .i64 0, .slice none 0 0, .slice none 0 0, .slice p l cc] _ rfl HRG'.out Try.underlying41 rfl info_gr) rfl ?_
      refine ⟨.slice p l cc, rfl, HO.out.kept HKP (fun g hg hh => by have := (HO.out.at g hg).1; omega), acc.trans (HKP.toBelow acc.size (by intro g hg; omega))⟩
end Go.Proofs.Ytocgndefjjomjaa
