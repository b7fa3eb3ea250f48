/- Rows of Tasks of one's own: what marks them, what asks whether they are held. -/
import Derived.Test.YtocgndefjjomjaaCFM
namespace Go.Proofs.Ytocgndefjjomjaa
set_option linter.unusedVariables false
set_option linter.unusedSimpArgs false
open Go.ChangeShapes Go.WideShapes Go.ChangeAt Go.RowKit

def mkTk (k : Int) : Tk := ⟨k, k + 1, k + 1 + 1, k + 1 + 1 + 1, k + 1 + 1 + 1 + 1, k + 1 + 1 + 1 + 1 + 1, k + 1 + 1 + 1 + 1 + 1 + 1, k + 1 + 1 + 1 + 1 + 1 + 1 + 1, k + 1 + 1 + 1 + 1 + 1 + 1 + 1 + 1⟩
def mTk (k : Int) (n : Nat) : List Tk := (List.range n).map fun (i : Nat) => mkTk (k + 9 * (i : Int))
theorem mTk_len (k : Int) (n : Nat) : (mTk k n).length = n := by simp [mTk]
theorem mTk_get {k : Int} {n i : Nat} (h : i < n) : (mTk k n)[i]? = some (mkTk (k + 9 * (i : Int))) := by simp [mTk, h]
abbrev OwnTk := OwnR tkC 9
set_option maxHeartbeats 8000000 in
theorem markTaskS_own (x : Value) (xs : List Tk) (B : Nat) (k0 : Int) (w : World) (hs : OwnTk B w x xs) (hn : xs.length ≤ 1048576) (hk0 : 0 ≤ k0) (hk1 : k0 ≤ 400000000) :
    Calls Try.prog 17 #[x, .int .i64 k0] w fun e w' => e = .returned (.int .i64 (k0 + 9 * (xs.length : Int))) ∧ OwnTk B w' x (mTk k0 xs.length) ∧ w.grownBy w' x.ownBlock := by
  rcases hs with ⟨rfl, rfl⟩ | ⟨g, cap, hB, hg, rfl, hE, hth, hc, hm⟩
  · go_enter Try.func17, Try.ntmps17
    go_wp2
    refine wp_loop_rounds 1 ?_
    rw [rounds_succ]
    go_wp2
    go_ret
    exact ⟨by simp, .inl ⟨rfl, rfl⟩, grown_refl w _⟩
  · generalize hnl : xs.length = n at *
    clear hE
    go_enter Try.func17, Try.ntmps17
    go_wp2
    go_loopw [1, 5] (fun c i wr => ∃ k : Nat, k ≤ n ∧ i = .int .i64 k ∧ c = .int .i64 (k0 + 9 * (k : Int)) ∧ w.grownBy wr (some g) ∧ wr.there g 0 (n * 9) ∧ RowOf tkC 9 wr g 0 ((mTk k0 n).take k)) (fun _ i _ => n - (intOf i).toNat)
    case atStart => exact ⟨0, by omega, rfl, by simp, grown_refl w _, hth, fun i e he => by simp at he⟩
    case round =>
      obtain ⟨k, hk, rfl, rfl, acc, hth, hrow⟩ := hrel
      by_cases hlt : k < n
      · have hlt' : (k : Int) < (n : Int) := by omega
        obtain ⟨c0, k0_, f0⟩ := there_at hth hlt 0 (by omega); obtain ⟨c1, k1, f1⟩ := there_at hth hlt 1 (by omega); obtain ⟨c2, k2, f2⟩ := there_at hth hlt 2 (by omega); obtain ⟨c3, k3, f3⟩ := there_at hth hlt 3 (by omega); obtain ⟨c4, k4, f4⟩ := there_at hth hlt 4 (by omega); obtain ⟨c5, k5, f5⟩ := there_at hth hlt 5 (by omega); obtain ⟨c6, k6, f6⟩ := there_at hth hlt 6 (by omega); obtain ⟨c7, k7, f7⟩ := there_at hth hlt 7 (by omega); obtain ⟨c8, k8, f8⟩ := there_at hth hlt 8 (by omega)
        simp only [Nat.add_zero] at k0_ f0
        obtain ⟨p1, p2⟩ := put_row (c := tkC) (x := mkTk (k0 + 9 * (k : Int))) hth hlt hrow (by rw [List.length_take, mTk_len]; omega) tkC_len
        have ht : (mTk k0 n).take (k + 1) = (mTk k0 n).take k ++ [mkTk (k0 + 9 * (k : Int))] := by rw [List.take_add_one, mTk_get hlt]; rfl
        have HP1 : Hid ((wr.setCells g (k * 9) (tkC (mkTk (k0 + 9 * (k : Int))))).there g 0 (n * 9)) := p1
        have HP2 : Hid (RowOf tkC 9 (wr.setCells g (k * 9) (tkC (mkTk (k0 + 9 * (k : Int))))) g 0 ((mTk k0 n).take (k + 1))) := ht ▸ p2
        have HR : Hid (wr.there g 0 (n * 9)) := hth
        clear hth hrow p1 p2 ht
        go_wp2
        exact ⟨⟨k + 1, hlt, by go_num, by (congr 1; omega), grown_set (grown_set (grown_set (grown_set (grown_set (grown_set (grown_set (grown_set (grown_set acc _ _) _ _) _ _) _ _) _ _) _ _) _ _) _ _) _ _, HP1.out, HP2.out⟩, by simp [intOf]; omega⟩
      · have hlt' : ¬ (k : Int) < (n : Int) := by omega
        have hkk : k = n := by omega
        subst hkk
        rw [List.take_of_length_le (by rw [mTk_len]; exact Nat.le_refl _)] at hrow
        go_wp2
        go_ret
        exact ⟨rfl, .inr ⟨g, cap, hB, Nat.lt_of_lt_of_le hg acc.size, by rw [mTk_len], hrow, by rw [mTk_len]; exact hth, by rw [mTk_len]; exact hc, hm⟩, acc⟩
set_option maxHeartbeats 8000000 in
set_option maxRecDepth 20000 in
theorem heldTaskS_any (x : Value) (n : Nat) (k0 : Int) (w : World) (hs : SlTk w x (mTk k0 n)) (hn : n ≤ 1048576) (hk0 : 0 ≤ k0) (hk1 : k0 ≤ 400000000) :
    Calls Try.prog 20 #[x, .int .i64 k0] w fun e w' => e = .returned (.int .i64 (k0 + 9 * (n : Int))) ∧ Below w.heap.size w w' := by
  rcases hs with ⟨h0, a, cap, rfl⟩ | ⟨g, o, cap, rfl, hE, hl, hm⟩
  · have hn0 : n = 0 := by have := mTk_len k0 n; rw [h0] at this; simpa using this.symm
    subst hn0
    go_enter Try.func20, Try.ntmps20
    go_wp2
    refine wp_loop_rounds 1 ?_
    rw [rounds_succ]
    go_wp2
    go_ret
    exact ⟨by simp, Below.refl _ _⟩
  · rw [mTk_len] at hl ⊢
    unfold maxLen at hm
    go_enter Try.func20, Try.ntmps20
    go_wp2
    go_loopw [1, 5] (fun c i wr => ∃ k : Nat, k ≤ n ∧ i = .int .i64 k ∧ c = .int .i64 (k0 + 9 * (k : Int)) ∧ Below w.heap.size w wr) (fun _ i _ => n - (intOf i).toNat)
    case atStart => exact ⟨0, by omega, rfl, by simp, Below.refl _ _⟩
    case round =>
      obtain ⟨k, hk, rfl, rfl, acc⟩ := hrel
      by_cases hlt : k < n
      · have hlt' : (k : Int) < (n : Int) := by omega
        obtain ⟨x0, x1, x2, x3, x4, x5, x6, x7, x8⟩ := tk_cells (hE.below acc k _ (mTk_get hlt))
        unfold mkTk at x0 x1 x2 x3 x4 x5 x6 x7 x8
        dsimp only at x0 x1 x2 x3 x4 x5 x6 x7 x8
        go_wp2
        exact ⟨⟨k + 1, hlt, by go_num, by (congr 1; omega), acc⟩, by simp [intOf]; omega⟩
      · have hlt' : ¬ (k : Int) < (n : Int) := by omega
        have hkk : k = n := by omega
        subst hkk
        go_wp2
        go_ret
        exact ⟨rfl, acc⟩
end Go.Proofs.Ytocgndefjjomjaa
