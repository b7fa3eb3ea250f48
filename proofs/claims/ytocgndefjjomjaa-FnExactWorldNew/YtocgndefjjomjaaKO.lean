/- Rows of bools: what copies, compares, measures, marks one, and what asks whether it is held. -/
import Derived.Test.YtocgndefjjomjaaKI
namespace Go.Proofs.Ytocgndefjjomjaa
set_option linter.unusedVariables false
set_option linter.unusedSimpArgs false
open Go.ChangeShapes Go.WideShapes Go.ChangeAt Go.RowKit

/-- the numbers lie in memory from offset o of block g on. -/
def BoolAt (W : World) (g o : Nat) (ws : List Bool) : Prop := ∀ i n, ws[i]? = some n → W.cell? ⟨g, o + i, none⟩ = some (.bool n)
def SlB (W : World) (x : Value) (ws : List Bool) : Prop :=
  (ws = [] ∧ ∃ a cap, x = .slice a 0 cap) ∨ ∃ g o cap, x = .slice (some ⟨g, o, none⟩) ws.length cap ∧ BoolAt W g o ws ∧ ws.length ≤ cap ∧ cap ≤ maxLen
theorem BoolAt.below {W W' : World} {g o : Nat} {ws : List Bool} (h : BoolAt W g o ws) (hb : Below W.heap.size W W') : BoolAt W' g o ws := by
  intro i n hn
  have h1 := h i n hn
  exact (hb.cell (block_lt_of_cell h1)).trans h1
theorem BoolAt.below' {W W' : World} {g o B : Nat} {ws : List Bool} (h : BoolAt W g o ws) (hg : g < B) (hb : Below B W W') : BoolAt W' g o ws := by
  intro i n hn
  exact (hb.cell (p := ⟨g, o + i, none⟩) hg).trans (h i n hn)
theorem SlB.below {W W' : World} {x : Value} {ws : List Bool} (h : SlB W x ws) (hb : Below W.heap.size W W') : SlB W' x ws := by
  rcases h with h | ⟨g, o, cap, h1, h2, h3, h4⟩
  · exact .inl h
  · exact .inr ⟨g, o, cap, h1, h2.below hb, h3, h4⟩
/-- numbers in a block of their own, not below B. -/
def NewB (B : Nat) (W : World) (x : Value) (ws : List Bool) : Prop :=
  ∃ g, B ≤ g ∧ g < W.heap.size ∧ x = .slice (some ⟨g, 0, none⟩) ws.length ws.length ∧ BoolAt W g 0 ws ∧ W.there g 0 ws.length
theorem NewB.sl {B : Nat} {W : World} {x : Value} {ws : List Bool} (h : NewB B W x ws) (hn : ws.length ≤ 1048576) : SlB W x ws := by
  obtain ⟨g, _, _, rfl, h1, _⟩ := h
  exact .inr ⟨_, _, _, rfl, h1, Nat.le_refl _, by unfold maxLen; omega⟩
theorem NewB.below {B : Nat} {W W' : World} {x : Value} {ws : List Bool} (h : NewB B W x ws) (hb : Below W.heap.size W W') : NewB B W' x ws := by
  obtain ⟨g, h1, h2, h3, h4, h5⟩ := h
  exact ⟨g, h1, Nat.lt_of_lt_of_le h2 hb.size, h3, h4.below hb, there_below h5 hb h2⟩
theorem bool_get {ws : List Bool} {k : Nat} (h : k < ws.length) : ∃ n, ws[k]? = some n := ⟨ws[k], List.getElem?_eq_getElem h⟩
theorem put_bool {W : World} {B n k : Nat} {ws : List Bool} {u : Bool} (hth : W.there B 0 n) (hk : k < n) (hrow : BoolAt W B 0 (ws.take k)) (he : ws[k]? = some u) :
    (W.setCell ⟨B, k, none⟩ (.bool u)).there B 0 n ∧ BoolAt (W.setCell ⟨B, k, none⟩ (.bool u)) B 0 (ws.take (k + 1)) := by
  refine ⟨there_set1 hth, ?_⟩
  intro i x hx
  have hik : i < k + 1 := by
    rcases Nat.lt_or_ge i (k + 1) with h | h
    · exact h
    · rw [List.getElem?_eq_none (by rw [List.length_take]; omega)] at hx; cases hx
  rw [List.getElem?_take, if_pos hik] at hx
  rw [Nat.zero_add]
  by_cases hi : i = k
  · subst hi
    rw [he] at hx
    obtain rfl : u = x := Option.some.inj hx
    obtain ⟨c, hc, _⟩ := there_one hth hk
    exact World.cell?_setCell_same _ _ _ (by rw [hc]; first | done | rfl)
  · rw [World.cell?_setCell_other _ _ _ _ (fun hh => hi (congrArg Addr.off hh).symm)]
    have := hrow i x (by rw [List.getElem?_take, if_pos (by omega)]; exact hx)
    rwa [Nat.zero_add] at this
theorem info_bool : (Try.prog.info? 4).map (fun i => (i.zero, i.size, i.bytes)) = some (some (.bool false), 1, 1) := by kernel_rfl

set_option maxHeartbeats 2000000 in
theorem eqBoolS_same (x y : Value) (ws : List Bool) (w : World) (hx : SlB w x ws) (hy : SlB w y ws) :
    Calls Try.prog 35 #[x, y] w fun e w' => e = .returned (.bool true) ∧ Below w.heap.size w w' := by
  rcases hx with ⟨h0, a, cap, rfl⟩ | ⟨g, o, cap, rfl, hE, hl, hm⟩
  · have : ∃ b cap', y = .slice b 0 cap' := by
      rcases hy with ⟨_, b, cap', rfl⟩ | ⟨g, o, cap', rfl, _⟩
      · exact ⟨_, _, rfl⟩
      · rw [h0]; exact ⟨_, _, rfl⟩
    obtain ⟨b, cap', rfl⟩ := this
    go_enter Try.func35, Try.ntmps35
    go_wp2
    refine wp_loop_rounds 1 ?_
    rw [rounds_succ]
    go_wp2
    go_ret
    exact ⟨rfl, Below.refl _ _⟩
  · rcases hy with ⟨h0, b, cap', rfl⟩ | ⟨g', o', cap', rfl, hE2, hl2, hm2⟩
    · rw [h0]
      go_enter Try.func35, Try.ntmps35
      go_wp2
      refine wp_loop_rounds 1 ?_
      rw [rounds_succ]
      go_wp2
      go_ret
      exact ⟨rfl, Below.refl _ _⟩
    · unfold maxLen at hm hm2
      go_enter Try.func35, Try.ntmps35
      go_wp2
      go_loopw [5] (fun i wr => ∃ k : Nat, k ≤ ws.length ∧ i = .int .i64 k ∧ Below w.heap.size w wr) (fun i _ => ws.length - (intOf i).toNat)
      case atStart => exact ⟨0, by omega, rfl, Below.refl _ _⟩
      case round =>
        obtain ⟨k, hk, rfl, acc⟩ := hrel
        by_cases hlt : k < ws.length
        · have hlt' : (k : Int) < (ws.length : Int) := by omega
          obtain ⟨n, he⟩ := bool_get hlt
          have x0 := hE.below acc k n he
          have y0 := hE2.below acc k n he
          go_wp2
          go_quiet (fail)
          go_wp2
          exact ⟨⟨k + 1, hlt, by go_num, below_drewN acc _⟩, by simp [intOf]; omega⟩
        · have hlt' : ¬ (k : Int) < (ws.length : Int) := by omega
          go_wp2
          go_ret
          exact ⟨rfl, acc⟩

set_option maxHeartbeats 2000000 in
theorem markBoolS_any (g n : Nat) (k0 : Int) (w : World) (hth : w.there g 0 n) (hg : g < w.heap.size) (hn : n ≤ 1048576) (hk0 : 0 ≤ k0) (hk1 : k0 ≤ 1000) :
    Calls Try.prog 27 #[.slice (some ⟨g, 0, none⟩) n n, .int .i64 k0] w fun e w' => e = .returned (.int .i64 (k0 + n)) ∧ w.grownBy w' (some g) := by
  go_enter Try.func27, Try.ntmps27
  go_wp2
  go_loopw [1, 5] (fun c i wr => ∃ k : Nat, k ≤ n ∧ i = .int .i64 k ∧ c = .int .i64 (k0 + k) ∧ w.grownBy wr (some g) ∧ wr.there g 0 n) (fun _ i _ => n - (intOf i).toNat)
  case atStart => exact ⟨0, by omega, rfl, by simp, grown_refl w _, hth⟩
  case round =>
    obtain ⟨k, hk, rfl, rfl, acc, hth⟩ := hrel
    by_cases hlt : k < n
    · have hlt' : (k : Int) < (n : Int) := by omega
      obtain ⟨c0, x0, f0⟩ := there_one hth hlt
      go_wp2
      exact ⟨⟨k + 1, hlt, by go_num, by (congr 1; omega), grown_set acc _ _, there_set1 hth⟩, by simp [intOf]; omega⟩
    · have hlt' : ¬ (k : Int) < (n : Int) := by omega
      have hkk : k = n := by omega
      subst hkk
      go_wp2
      go_ret
      exact ⟨rfl, acc⟩
end Go.Proofs.Ytocgndefjjomjaa
