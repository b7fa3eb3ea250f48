/- Rows of structs, of whatever make: the cells of each element lie one behind the other. -/
import Derived.Test.YtocgndefjjomjaaKM
import Derived.Deep.Slices
import Derived.ProofKit
namespace Go.Proofs.Ytocgndefjjomjaa
set_option linter.unusedVariables false
open Go.ChangeShapes Go.WideShapes Go.ChangeAt Go.RowKit

theorem range_below {W W' : World} {g o : Nat} {cs : List Value} (h : W.rangeAt g o cs) (hb : Below W.heap.size W W') : W'.rangeAt g o cs := fun j v hv =>
  (hb.cell (block_lt_of_cell (h j v hv))).trans (h j v hv)
theorem range_kept {S : Nat → Prop} {W W' : World} {g o : Nat} {cs : List Value} (h : W.rangeAt g o cs) (hk : Kept S W W') (hn : ¬ S g) : W'.rangeAt g o cs := fun j v hv =>
  (World.cell?_of_block (hk.block g (block_lt_of_cell (h j v hv)) hn)).trans (h j v hv)
section
variable {α : Type} (c : α → List Value) (n : Nat)
/-- the elements lie in memory from offset o of block g on. -/
def RowOf (W : World) (g o : Nat) (xs : List α) : Prop := ∀ i x, xs[i]? = some x → W.rangeAt g (o + i * n) (c x)
/-- a slice that holds these elements. -/
def SlR (W : World) (x : Value) (xs : List α) : Prop :=
  (xs = [] ∧ ∃ a cap, x = .slice a 0 cap) ∨ ∃ g o cap, x = .slice (some ⟨g, o, none⟩) xs.length cap ∧ RowOf c n W g o xs ∧ xs.length ≤ cap ∧ cap ≤ maxLen
/-- such a slice in a block of its own, not below B. -/
def NewR (B : Nat) (W : World) (x : Value) (xs : List α) : Prop :=
  ∃ g, B ≤ g ∧ g < W.heap.size ∧ x = .slice (some ⟨g, 0, none⟩) xs.length xs.length ∧ RowOf c n W g 0 xs ∧ W.there g 0 (xs.length * n)
variable {c n}
theorem RowOf.below {W W' : World} {g o : Nat} {xs : List α} (h : RowOf c n W g o xs) (hb : Below W.heap.size W W') : RowOf c n W' g o xs := fun i x hx => range_below (h i x hx) hb
theorem RowOf.kept {S : Nat → Prop} {W W' : World} {g o : Nat} {xs : List α} (h : RowOf c n W g o xs) (hk : Kept S W W') (hn : ¬ S g) : RowOf c n W' g o xs := fun i x hx => range_kept (h i x hx) hk hn
theorem SlR.below {W W' : World} {x : Value} {xs : List α} (h : SlR c n W x xs) (hb : Below W.heap.size W W') : SlR c n W' x xs := by
  rcases h with h | ⟨g, o, cap, h1, h2, h3, h4⟩
  · exact .inl h
  · exact .inr ⟨g, o, cap, h1, h2.below hb, h3, h4⟩
theorem NewR.below {B : Nat} {W W' : World} {x : Value} {xs : List α} (h : NewR c n B W x xs) (hb : Below W.heap.size W W') : NewR c n B W' x xs := by
  obtain ⟨g, h1, h2, h3, h4, h5⟩ := h
  exact ⟨g, h1, Nat.lt_of_lt_of_le h2 hb.size, h3, h4.below hb, there_below h5 hb h2⟩
theorem NewR.kept {S : Nat → Prop} {B : Nat} {W W' : World} {x : Value} {xs : List α} (h : NewR c n B W x xs) (hk : Kept S W W') (hn : ∀ g, x.ownBlock = some g → ¬ S g) : NewR c n B W' x xs := by
  obtain ⟨g, h1, h2, rfl, h4, h5⟩ := h
  have hg := hn g rfl
  exact ⟨g, h1, Nat.lt_of_lt_of_le h2 hk.size, rfl, h4.kept hk hg, hk.there h2 hg h5⟩
theorem NewR.mono {B B' : Nat} {W : World} {x : Value} {xs : List α} (h : NewR c n B W x xs) (hB : B' ≤ B) : NewR c n B' W x xs := by
  obtain ⟨g, h1, h2⟩ := h
  exact ⟨g, Nat.le_trans hB h1, h2⟩
theorem NewR.sl {B : Nat} {W : World} {x : Value} {xs : List α} (h : NewR c n B W x xs) (hl : xs.length ≤ 1048576) : SlR c n W x xs := by
  obtain ⟨g, _, _, rfl, h1, _⟩ := h
  exact .inr ⟨_, _, _, rfl, h1, Nat.le_refl _, by unfold maxLen; omega⟩
theorem NewR.at {B : Nat} {W : World} {x : Value} {xs : List α} (h : NewR c n B W x xs) : ∀ g, x.ownBlock = some g → B ≤ g ∧ g < W.heap.size := by
  obtain ⟨g, h1, h2, rfl, _⟩ := h
  intro k hk
  obtain rfl : g = k := by simpa [Value.ownBlock] using hk
  exact ⟨h1, h2⟩
theorem SlR.form {W : World} {x : Value} {xs : List α} (h : SlR c n W x xs) : ∃ p q, x = .slice p xs.length q ∧ xs.length ≤ 9223372036854775807 := by
  rcases h with ⟨h0, a, cap, rfl⟩ | ⟨g, o, cap, rfl, _, h1, h2⟩
  · exact ⟨a, cap, by rw [h0]; rfl, by rw [h0]; exact Nat.zero_le _⟩
  · exact ⟨_, _, rfl, by unfold maxLen at h2; omega⟩
theorem row_get {xs : List α} {k : Nat} (h : k < xs.length) : ∃ x, xs[k]? = some x := ⟨xs[k], List.getElem?_eq_getElem h⟩
/-- an element put behind a row that is not full. -/
theorem put_row {W : World} {B m k : Nat} {xs : List α} {x : α} (hth : W.there B 0 (m * n)) (hk : k < m) (hrow : RowOf c n W B 0 xs) (hxs : xs.length = k) (hc : ∀ y, (c y).length = n) :
    (W.setCells B (k * n) (c x)).there B 0 (m * n) ∧ RowOf c n (W.setCells B (k * n) (c x)) B 0 (xs ++ [x]) := by
  refine ⟨World.there_setCells hth _ _ _, ?_⟩
  have hkm : (k + 1) * n ≤ m * n := Nat.mul_le_mul_right n hk
  rw [Nat.add_mul, Nat.one_mul] at hkm
  intro i y hy
  rw [Nat.zero_add]
  rcases Nat.lt_or_ge i k with hi | hi
  · rw [List.getElem?_append_left (by omega)] at hy
    have h1 := hrow i y hy
    rw [Nat.zero_add] at h1
    refine World.rangeAt_setCells_apart h1 _ _ _ (.inr (.inl ?_))
    rw [hc]
    have : (i + 1) * n ≤ k * n := Nat.mul_le_mul_right n hi
    rw [Nat.add_mul, Nat.one_mul] at this
    exact this
  · have hik : i = k := by
      rcases Nat.lt_or_ge k i with h | h
      · rw [List.getElem?_eq_none (by simp; omega)] at hy; cases hy
      · omega
    subst hik
    rw [List.getElem?_append_right (by omega), hxs, Nat.sub_self] at hy
    obtain rfl : x = y := by simpa using hy
    refine World.rangeAt_setCells_same _ _ _ _ (fun j hj => ?_)
    rw [hc] at hj
    have := hth (i * n + j) (by omega)
    rwa [Nat.zero_add] at this
theorem there_at {w : World} {b m k : Nat} (h : w.there b 0 (m * n)) (hk : k < m) (j : Nat) (hj : j < n) : ∃ v, w.cell? ⟨b, k * n + j, none⟩ = some v ∧ w.frozen? ⟨b, k * n + j, none⟩ = false := by
  have hkm : (k + 1) * n ≤ m * n := Nat.mul_le_mul_right n hk
  rw [Nat.add_mul, Nat.one_mul] at hkm
  obtain ⟨h1, h2⟩ := h (k * n + j) (by omega)
  rw [Nat.zero_add] at h1 h2
  obtain ⟨v, hv⟩ := Option.isSome_iff_exists.1 h1
  exact ⟨v, hv, h2⟩
end
section
variable {H : Type} {enc : TypeId × Value → H} {P : Program} {w : World} {base : Nat} {spare : Nat → Bool} {held : Bool}
/-- what is read of the fields of a struct. -/
theorem trod_field {t : TypeId} {fs : Array Field} {fuel : Nat} {cs : List Value} {y : DataW H × List MemPlace} (hs : P.underlying t = some (.struct fs)) (h : DataW.trod enc P w base spare held fuel t cs = some y) :
    ∃ n, cs.length = P.cellsOf t ∧ ∀ (k : Nat) (f : Field), fs[k]? = some f → ∃ z, DataW.trod enc P w base spare held n f.type ((cs.drop f.offset).take (P.cellsOf f.type)) = some z := by
  obtain ⟨xs, n, _, _, hl, hlen, hg⟩ := DataW.trod_struct hs h
  refine ⟨n, hl, fun k f hk => ?_⟩
  have hx : ∃ z, xs[k]? = some z := ⟨xs[k]'(by rw [hlen]; exact (Array.getElem?_eq_some_iff.1 hk).1), List.getElem?_eq_getElem _⟩
  obtain ⟨z, hz⟩ := hx
  exact ⟨z, (hg k f hk).trans hz⟩
/-- a slice of structs that came in, opened. -/
theorem open_rows {α : Type} {c : α → List Value} {n : Nat} {R : α → Prop} {t e : TypeId} {fuel : Nat} {v : Value} {x : DataW H × List MemPlace} [Inhabited α] (ht : P.underlying t = some (.slice e)) (ce : P.cellsOf e = n) (hn : 0 < n) (hc : ∀ a, (c a).length = n)
    (hread : ∀ fuel cs y, DataW.trod enc P w base spare held fuel e cs = some y → ∃ a, cs = c a ∧ R a)
    (h : DataW.trod enc P w base spare held fuel t [v] = some x) : ∃ xs : List α, SlR c n w v xs ∧ ∀ a ∈ xs, R a := by
  rcases Deep.open_slice ht h with ⟨hcs, _⟩ | ⟨a, len, cap, m, k, D, Pl, hcs, hb, hl, hm, hmm, _, hel⟩
  · obtain rfl : v = .slice none 0 0 := by simpa using hcs
    exact ⟨[], .inl ⟨rfl, _, _, rfl⟩, fun e he => by cases he⟩
  · obtain rfl : v = .slice (some a) len cap := by simpa using hcs
    have hlm : len ≤ m := by rw [hmm]; split <;> omega
    by_cases h0 : len = 0
    · subst h0; exact ⟨[], .inl ⟨rfl, _, _, rfl⟩, fun e he => by cases he⟩
    have each : ∀ i, i < len → ∃ q : α, (∀ j u, (c q)[j]? = some u → w.cell? (a.add (i * n + j)) = some u) ∧ R q := by
      intro i hi
      obtain ⟨cs', h1, h2⟩ := hel i (by omega)
      rw [ce] at h1
      obtain ⟨_, hlen, hcell⟩ := World.cells?_some h1
      obtain ⟨q, rfl, hR⟩ := hread _ _ _ h2
      refine ⟨q, fun j u hu => ?_, hR⟩
      have hj : j < n := by rw [← hc q]; exact (List.getElem?_eq_some_iff.1 hu).1
      have k1 := hcell j (by omega)
      rw [Deep.add_add] at k1
      rw [k1]
      exact hu
    obtain ⟨q, hq⟩ := Deep.choose_lt each
    obtain ⟨g, o, spot⟩ := a
    have hspot : spot = none := by
      obtain ⟨u, hu⟩ : ∃ u, (c (q 0))[0]? = some u := ⟨(c (q 0))[0]'(by rw [hc]; exact hn), List.getElem?_eq_getElem _⟩
      have := (hq 0 (by omega)).1 0 u hu
      simpa [Addr.add] using World.cell?_spot this
    subst hspot
    refine ⟨(List.range len).map q, .inr ⟨g, o, cap, by simp, ?_, by simpa using hl, hm⟩, ?_⟩
    · intro i e' he' j u hu
      rw [List.getElem?_map] at he'
      have hi : i < len := by
        rcases Nat.lt_or_ge i len with h' | h'
        · exact h'
        · rw [List.getElem?_eq_none (by simpa using h')] at he'; cases he'
      rw [List.getElem?_range hi] at he'
      obtain rfl : q i = e' := by simpa using he'
      have := (hq i hi).1 j u hu
      rw [add_none', ← Nat.add_assoc] at this
      exact this
    · intro e' he'
      obtain ⟨i, hi, rfl⟩ := List.mem_map.1 he'
      exact (hq i (List.mem_range.1 hi)).2
end
end Go.Proofs.Ytocgndefjjomjaa
