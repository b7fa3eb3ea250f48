/- Rows of Cpus of one's own: what marks them, what asks whether they are held. -/
import Derived.Test.YtocgndefjjomjaaSFM
namespace Go.Proofs.Ytocgndefjjomjaa
set_option linter.unusedVariables false
set_option linter.unusedSimpArgs false
open Go.ChangeShapes Go.WideShapes Go.ChangeAt Go.RowKit

def mkCp (k : Int) : Cp := ⟨(k) % 3 == 0, k + 1, k + 1 + 1, k + 1 + 1 + 1, k + 1 + 1 + 1 + 1⟩
def mCp (k : Int) (n : Nat) : List Cp := (List.range n).map fun (i : Nat) => mkCp (k + 5 * (i : Int))
theorem mCp_len (k : Int) (n : Nat) : (mCp k n).length = n := by simp [mCp]
theorem mCp_get {k : Int} {n i : Nat} (h : i < n) : (mCp k n)[i]? = some (mkCp (k + 5 * (i : Int))) := by simp [mCp, h]
abbrev OwnCp := OwnR cpC 5
set_option maxHeartbeats 8000000 in
theorem markCpuS_own (x : Value) (xs : List Cp) (B : Nat) (k0 : Int) (w : World) (hs : OwnCp B w x xs) (hn : xs.length ≤ 1048576) (hk0 : 0 ≤ k0) (hk1 : k0 ≤ 400000000) :
    Calls Try.prog 16 #[x, .int .i64 k0] w fun e w' => e = .returned (.int .i64 (k0 + 5 * (xs.length : Int))) ∧ OwnCp B w' x (mCp k0 xs.length) ∧ w.grownBy w' x.ownBlock := by
  rcases hs with ⟨rfl, rfl⟩ | ⟨g, cap, hB, hg, rfl, hE, hth, hc, hm⟩
  · go_enter Try.func16, Try.ntmps16
    go_wp2
    refine wp_loop_rounds 1 ?_
    rw [rounds_succ]
    go_wp2
    go_ret
    exact ⟨by simp, .inl ⟨rfl, rfl⟩, grown_refl w _⟩
  · generalize hnl : xs.length = n at *
    clear hE
    go_enter Try.func16, Try.ntmps16
    go_wp2
    go_loopw [1, 5] (fun c i wr => ∃ k : Nat, k ≤ n ∧ i = .int .i64 k ∧ c = .int .i64 (k0 + 5 * (k : Int)) ∧ w.grownBy wr (some g) ∧ wr.there g 0 (n * 5) ∧ RowOf cpC 5 wr g 0 ((mCp k0 n).take k)) (fun _ i _ => n - (intOf i).toNat)
    case atStart => exact ⟨0, by omega, rfl, by simp, grown_refl w _, hth, fun i e he => by simp at he⟩
    case round =>
      obtain ⟨k, hk, rfl, rfl, acc, hth, hrow⟩ := hrel
      by_cases hlt : k < n
      · have hlt' : (k : Int) < (n : Int) := by omega
        obtain ⟨c0, k0_, f0⟩ := there_at hth hlt 0 (by omega); obtain ⟨c1, k1, f1⟩ := there_at hth hlt 1 (by omega); obtain ⟨c2, k2, f2⟩ := there_at hth hlt 2 (by omega); obtain ⟨c3, k3, f3⟩ := there_at hth hlt 3 (by omega); obtain ⟨c4, k4, f4⟩ := there_at hth hlt 4 (by omega)
        simp only [Nat.add_zero] at k0_ f0
        obtain ⟨p1, p2⟩ := put_row (c := cpC) (x := mkCp (k0 + 5 * (k : Int))) hth hlt hrow (by rw [List.length_take, mCp_len]; omega) cpC_len
        have ht : (mCp k0 n).take (k + 1) = (mCp k0 n).take k ++ [mkCp (k0 + 5 * (k : Int))] := by rw [List.take_add_one, mCp_get hlt]; rfl
        have HP1 : Hid ((wr.setCells g (k * 5) (cpC (mkCp (k0 + 5 * (k : Int))))).there g 0 (n * 5)) := p1
        have HP2 : Hid (RowOf cpC 5 (wr.setCells g (k * 5) (cpC (mkCp (k0 + 5 * (k : Int))))) g 0 ((mCp k0 n).take (k + 1))) := ht ▸ p2
        have HR : Hid (wr.there g 0 (n * 5)) := hth
        clear hth hrow p1 p2 ht
        go_wp2
        exact ⟨⟨k + 1, hlt, by go_num, by (congr 1; omega), grown_set (grown_set (grown_set (grown_set (grown_set acc _ _) _ _) _ _) _ _) _ _, HP1.out, HP2.out⟩, by simp [intOf]; omega⟩
      · have hlt' : ¬ (k : Int) < (n : Int) := by omega
        have hkk : k = n := by omega
        subst hkk
        rw [List.take_of_length_le (by rw [mCp_len]; exact Nat.le_refl _)] at hrow
        go_wp2
        go_ret
        exact ⟨rfl, .inr ⟨g, cap, hB, Nat.lt_of_lt_of_le hg acc.size, by rw [mCp_len], hrow, by rw [mCp_len]; exact hth, by rw [mCp_len]; exact hc, hm⟩, acc⟩
set_option maxHeartbeats 8000000 in
theorem heldCpuS_any (x : Value) (n : Nat) (k0 : Int) (w : World) (hs : SlCp w x (mCp k0 n)) (hn : n ≤ 1048576) (hk0 : 0 ≤ k0) (hk1 : k0 ≤ 400000000) :
    Calls Try.prog 19 #[x, .int .i64 k0] w fun e w' => e = .returned (.int .i64 (k0 + 5 * (n : Int))) ∧ Below w.heap.size w w' := by
  rcases hs with ⟨h0, a, cap, rfl⟩ | ⟨g, o, cap, rfl, hE, hl, hm⟩
  · have hn0 : n = 0 := by have := mCp_len k0 n; rw [h0] at this; simpa using this.symm
    subst hn0
    go_enter Try.func19, Try.ntmps19
    go_wp2
    refine wp_loop_rounds 1 ?_
    rw [rounds_succ]
    go_wp2
    go_ret
    exact ⟨by simp, Below.refl _ _⟩
  · rw [mCp_len] at hl ⊢
    unfold maxLen at hm
    go_enter Try.func19, Try.ntmps19
    go_wp2
    go_loopw [1, 5] (fun c i wr => ∃ k : Nat, k ≤ n ∧ i = .int .i64 k ∧ c = .int .i64 (k0 + 5 * (k : Int)) ∧ Below w.heap.size w wr) (fun _ i _ => n - (intOf i).toNat)
    case atStart => exact ⟨0, by omega, rfl, by simp, Below.refl _ _⟩
    case round =>
      obtain ⟨k, hk, rfl, rfl, acc⟩ := hrel
      by_cases hlt : k < n
      · have hlt' : (k : Int) < (n : Int) := by omega
        obtain ⟨x0, x1, x2, x3, x4⟩ := cp_cells (hE.below acc k _ (mCp_get hlt))
        unfold mkCp at x0 x1 x2 x3 x4
        dsimp only at x0 x1 x2 x3 x4
        go_wp2
        exact ⟨⟨k + 1, hlt, by go_num, by (congr 1; omega), acc⟩, by simp [intOf]; omega⟩
      · have hlt' : ¬ (k : Int) < (n : Int) := by omega
        have hkk : k = n := by omega
        subst hkk
        go_wp2
        go_ret
        exact ⟨rfl, acc⟩
end Go.Proofs.Ytocgndefjjomjaa
