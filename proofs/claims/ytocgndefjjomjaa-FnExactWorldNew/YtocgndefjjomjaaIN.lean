/- A group that is new, of the program. -/
import Derived.Test.YtocgndefjjomjaaSN
namespace Go.Proofs.Ytocgndefjjomjaa
set_option linter.unusedVariables false
set_option linter.unusedSimpArgs false
open Go.ChangeShapes Go.WideShapes Go.ChangeAt Go.RowKit

section
variable {α : Type} {c : α → List Value} {m : Nat}
theorem made_get {z : Array Value} {n k : Nat} (hk : k < n) {j : Nat} (hj : k % z.size = j) {v : Value} (hv : z.toList[j]? = some v) : (madeCells z n)[k]? = some v := by
  have h2 : z[j]? = some v := by rw [← Array.getElem?_toList]; exact hv
  simp [madeCells, hk, hj]
  rw [Array.getElem!_eq_getD, Array.getD_eq_getD_getElem?, h2]
  rfl
theorem made_rows {z : Array Value} {W : World} {g n : Nat} {t : TypeId} {e0 : α} (hz : z.toList = c e0) (hm : z.size = m) (h : W.heap[g]? = some (.cells (madeCells z (n * m)) t (0, 0))) : RowOf c m W g 0 (List.replicate n e0) ∧ W.there g 0 (n * m) := by
  constructor
  · intro i e he j v hv
    have hin : i < n := by have := (List.getElem?_eq_some_iff.1 he).1; simpa using this
    obtain rfl : e = e0 := by
      rw [List.getElem?_replicate, if_pos hin] at he
      simpa using he.symm
    have hj : j < m := by
      have := (List.getElem?_eq_some_iff.1 hv).1
      rw [← hz] at this
      simpa [hm] using this
    rw [Nat.zero_add, cell_of_row _ _ _ _ _ _ h]
    have h1 : (i + 1) * m ≤ n * m := Nat.mul_le_mul_right m hin
    rw [Nat.add_mul, Nat.one_mul] at h1
    refine made_get (by omega) (j := j) ?_ (by rw [hz]; exact hv)
    rw [hm, Nat.mul_comm, Nat.mul_add_mod, Nat.mod_eq_of_lt hj]
  · intro j hj
    rw [Nat.zero_add, cell_of_row _ _ _ _ _ _ h]
    refine ⟨?_, frozen_of_row _ _ _ _ _ h⟩
    have : j < (madeCells z (n * m)).size := by rw [size_madeCells]; exact hj
    simp [this]
end
theorem three_atA (w : World) (A B C : Obj) : (((w.alloc A).alloc B).alloc C).heap[w.heap.size]? = some A ∧ (((w.alloc A).alloc B).alloc C).heap[w.heap.size + 1]? = some B ∧ (((w.alloc A).alloc B).alloc C).heap[w.heap.size + 1 + 1]? = some C ∧ Below w.heap.size w (((w.alloc A).alloc B).alloc C) := by
  obtain ⟨h1, _, h2, h3, h4⟩ := three_box' (w := w) (A := A) (B := B) (C := C) (Below.refl _ (((w.alloc A).alloc B).alloc C))
  exact ⟨h2, h3, h4, h1⟩
set_option maxHeartbeats 8000000 in
set_option maxRecDepth 20000 in
theorem impl_group (n : Nat) (pa : Int) (na : ByteArray) (w : World) (hn : n ≤ 4) :
    Calls Try.prog 12 #[.int .i64 pa, .string na, .int .i64 n] w fun e w' => ∃ z, e = .returned (gvV (newGv n pa na z)) ∧ OwnSh (w.heap.size + 1) w' z (List.replicate n sh1) ∧ Below w.heap.size w w' := by
  obtain ⟨i0, hi, hz0, hz1, hz2⟩ := info_parts info_shelf
  have hmk := run_make (P := Try.prog) (w.alloc (.cells #[.bool false, .int .i64 0, .string ⟨#[]⟩, .int .i64 0, .int .i64 0, .int .i64 0, .int .i64 0, .int .i64 0, .int .i64 0, .int .i64 0, .int .i64 0, .slice none 0 0, .slice none 0 0, .slice none 0 0] 41 (0, 0))) 39 51 i0 _ Try.underlying39 hi hz0 .i64 .i64 n n (by omega) (by omega) (by rw [hz2]; omega) (by omega)
  rw [hz1] at hmk
  have hmk2 : (w.alloc (.cells #[.bool false, .int .i64 0, .string ⟨#[]⟩, .int .i64 0, .int .i64 0, .int .i64 0, .int .i64 0, .int .i64 0, .int .i64 0, .int .i64 0, .int .i64 0, .slice none 0 0, .slice none 0 0, .slice none 0 0] 41 (0, 0))).heap.size = w.heap.size + 1 := by simp
  rw [hmk2] at hmk
  go_enter Try.func12, Try.ntmps12
  go_wp2
  clear hmk hmk2
  go_loopw [17] (fun i wr => ∃ (k : Nat), k ≤ n ∧ i = .int .i64 k ∧ RowOf shC 5 wr (w.heap.size + 1) 0 (List.replicate k sh1 ++ List.replicate (n - k) sh0) ∧ wr.there (w.heap.size + 1) 0 (n * 5) ∧ wr.heap[w.heap.size]? = some (.cells #[.bool false, .int .i64 0, .string ⟨#[]⟩, .int .i64 0, .int .i64 0, .int .i64 0, .int .i64 0, .int .i64 0, .int .i64 0, .int .i64 0, .int .i64 0, .slice none 0 0, .slice none 0 0, .slice none 0 0] 41 (0, 0)) ∧ wr.heap[w.heap.size + 1 + 1]? = some (.cells #[.bool true, .int .i64 pa, .string na, .int .i64 10, .int .i64 15, .int .i64 0, .int .i64 0, .int .i64 0, .int .i64 0, .int .i64 0, .int .i64 0, .slice none 0 0, .slice none 0 0, .slice (some ⟨w.heap.size + 1, 0, none⟩) n n] 41 (0, 0)) ∧ Below w.heap.size w wr ∧ w.heap.size + 3 ≤ wr.heap.size) (fun i _ => n - (intOf i).toNat)
  case atStart =>
    obtain ⟨e1, e2, e3, e4⟩ := three_atA w (.cells #[.bool false, .int .i64 0, .string ⟨#[]⟩, .int .i64 0, .int .i64 0, .int .i64 0, .int .i64 0, .int .i64 0, .int .i64 0, .int .i64 0, .int .i64 0, .slice none 0 0, .slice none 0 0, .slice none 0 0] 41 (0, 0)) (.cells (madeCells #[.int .i64 0, .bool false, .int .i64 0, .int .i64 0, .int .i64 0] (n * 5)) 51 (0, 0)) (.cells #[.bool true, .int .i64 pa, .string na, .int .i64 10, .int .i64 15, .int .i64 0, .int .i64 0, .int .i64 0, .int .i64 0, .int .i64 0, .int .i64 0, .slice none 0 0, .slice none 0 0, .slice (some ⟨w.heap.size + 1, 0, none⟩) n n] 41 (0, 0))
    obtain ⟨m1, m2⟩ := made_rows (c := shC) (e0 := sh0) (m := 5) rfl rfl e2
    exact ⟨0, by omega, rfl, by simpa using m1, m2, e1, e3, e4, by simp⟩
  case round =>
    obtain ⟨k, hk, rfl, hrow, hth, hR, hG, acc, hsz⟩ := hrel
    by_cases hlt : k < n
    · have hlt' : (k : Int) < (n : Int) := by omega
      obtain ⟨o0, o1, o2, o3, o4, o5, o6, o7, o8, o9, o10, o11, o12, o13⟩ := gbox hG
      clear o0 o1 o2 o3 o4 o5 o6 o7 o8 o9 o10 o11 o12
      obtain ⟨c3, k3, f3⟩ := there_at hth hlt 3 (by omega)
      have hnk : List.replicate (n - k) sh0 = sh0 :: List.replicate (n - (k + 1)) sh0 := by
        rw [← List.replicate_succ]; congr 1; omega
      rw [hnk] at hrow
      obtain ⟨p1, p2⟩ := put_mid (c := shC) (n := 5) (s := 3) (e' := sh1) (cs := [.int .i64 10]) hth hlt hrow (by simp) shC_len (by simp) rfl
      have HP1 : Hid ((wr.setCell ⟨w.heap.size + 1, k * 5 + 3, none⟩ (.int .i64 10)).there (w.heap.size + 1) 0 (n * 5)) := p1
      have HP2 : Hid (RowOf shC 5 (wr.setCell ⟨w.heap.size + 1, k * 5 + 3, none⟩ (.int .i64 10)) (w.heap.size + 1) 0 (List.replicate k sh1 ++ sh1 :: List.replicate (n - (k + 1)) sh0)) := p2
      have HR : Hid (wr.heap[w.heap.size]? = some (.cells #[.bool false, .int .i64 0, .string ⟨#[]⟩, .int .i64 0, .int .i64 0, .int .i64 0, .int .i64 0, .int .i64 0, .int .i64 0, .int .i64 0, .int .i64 0, .slice none 0 0, .slice none 0 0, .slice none 0 0] 41 (0, 0))) := hR
      have HG : Hid (wr.heap[w.heap.size + 1 + 1]? = some (.cells #[.bool true, .int .i64 pa, .string na, .int .i64 10, .int .i64 15, .int .i64 0, .int .i64 0, .int .i64 0, .int .i64 0, .int .i64 0, .int .i64 0, .slice none 0 0, .slice none 0 0, .slice (some ⟨w.heap.size + 1, 0, none⟩) n n] 41 (0, 0))) := hG
      clear hR hG p1 p2 hnk hrow hth
      go_wp2
      refine ⟨⟨k + 1, hlt, by go_num, ?_, HP1.out, ?_, ?_, acc.setCell (by show w.heap.size ≤ w.heap.size + 1; omega) _, ?_⟩, by simp [intOf]; omega⟩
      · rw [List.replicate_succ', List.append_assoc]; exact HP2.out
      · rw [heap_setCell_other _ _ _ _ (by simp)]; exact HR.out
      · rw [heap_setCell_other _ _ _ _ (by simp)]; exact HG.out
      · simp only [World.size_setCell]; exact hsz
    · have hlt' : ¬ (k : Int) < (n : Int) := by omega
      obtain rfl : k = n := by omega
      rw [Nat.sub_self, List.replicate_zero, List.append_nil] at hrow
      have HO : Hid (OwnSh (w.heap.size + 1) wr (.slice (some ⟨w.heap.size + 1, 0, none⟩) k k) (List.replicate k sh1)) := .inr ⟨w.heap.size + 1, k, Nat.le_refl _, by omega, by simp, hrow, by simpa using hth, by simp, by unfold maxLen; omega⟩
      obtain ⟨o0, o1, o2, o3, o4, o5, o6, o7, o8, o9, o10, o11, o12, o13⟩ := gbox hG
      obtain ⟨r0, r1, r2, r3, r4, r5, r6, r7, r8, r9, r10, r11, r12, r13⟩ := gbox hR
      have r0f := fbox hR 0
      have r1f := fbox hR 1
      have r2f := fbox hR 2
      have r3f := fbox hR 3
      have r4f := fbox hR 4
      have r5f := fbox hR 5
      have r6f := fbox hR 6
      have r7f := fbox hR 7
      have r8f := fbox hR 8
      have r9f := fbox hR 9
      have r10f := fbox hR 10
      have r11f := fbox hR 11
      have r12f := fbox hR 12
      have r13f := fbox hR 13
      have HRG := ret_group (fn := Try.f12) rfl #[] wr w.heap.size (.bool true) (.int .i64 pa) (.string na) (.int .i64 10) (.int .i64 15) (.int .i64 0) (.int .i64 0) (.int .i64 0) (.int .i64 0) (.int .i64 0) (.int .i64 0) (.slice none 0 0) (.slice none 0 0) (.slice (some ⟨w.heap.size + 1, 0, none⟩) k k) hR
      have HKP := Kept.setCells wr w.heap.size 0 [.bool true, .int .i64 pa, .string na, .int .i64 10, .int .i64 15, .int .i64 0, .int .i64 0, .int .i64 0, .int .i64 0, .int .i64 0, .int .i64 0, .slice none 0 0, .slice none 0 0, .slice (some ⟨w.heap.size + 1, 0, none⟩) k k]
      have HRG' : Hid _ := HRG
      clear hR hG hrow hth
      clear HRG
      go_wp2_with fail
      refine bodyPost_ret (results_mid rfl _ _ w.heap.size 0 [.bool true, .int .i64 pa, .string na, .int .i64 10, .int .i64 15, .int .i64 0, .int .i64 0, .int .i64 0, .int .i64 0, .int .i64 0, .int .i64 0, .slice none 0 0, .slice none 0 0, .slice (some ⟨w.heap.size + 1, 0, none⟩) k k] _ rfl HRG'.out Try.underlying41 rfl info_gr) rfl ?_
      refine ⟨_, rfl, HO.out.kept HKP (fun g hg hh => by have := (HO.out.at g hg).1; omega), acc.trans (HKP.toBelow acc.size (by intro g hg; omega))⟩
end Go.Proofs.Ytocgndefjjomjaa
