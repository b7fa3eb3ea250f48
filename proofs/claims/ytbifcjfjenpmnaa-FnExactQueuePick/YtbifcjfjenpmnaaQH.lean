/- The program's heap of waiters, as plain lists; what pushing keeps: the first is nobody's junior. -/
import Derived.Test.YtbifcjfjenpmnaaQO
import Derived.Deep.AppendLies
namespace Go.Proofs.Ytbifcjfjenpmnaa
open Go.ChangeShapes Go.WideShapes Go.ChangeAt Go.RowKit

structure Wt where
  v : Int
  p : Int
def wtV (x : Wt) : Value := .agg #[.int .i64 x.v, .int .i64 x.p]
def bef (x y : Wt) : Bool := decide (x.v < y.v) || (decide (x.v = y.v) && decide (x.p < y.p))
def Bef (x y : Wt) : Prop := x.v < y.v ∨ (x.v = y.v ∧ x.p < y.p)
theorem bef_yes {x y : Wt} : bef x y = true ↔ Bef x y := by unfold bef Bef; simp
theorem bef_no {x y : Wt} : bef x y = false ↔ ¬ Bef x y := by rw [← bef_yes]; simp
def MinRoot (l : List Wt) : Prop := ∀ r, l[0]? = some r → ∀ y ∈ l, ¬ Bef y r
/-- the list with the items at i and j changed over. -/
def swapL (l : List Wt) (i j : Nat) (x y : Wt) : List Wt := (l.set i y).set j x
theorem swap_get {l : List Wt} {i j : Nat} {x y : Wt} (hi : i < l.length) (hj : j < l.length) (_hij : i ≠ j) (k : Nat) :
    (swapL l i j x y)[k]? = if k = j then some x else if k = i then some y else l[k]? := by
  unfold swapL
  by_cases h1 : k = j
  · rw [if_pos h1, h1, List.getElem?_set_self (by simpa using hj)]
  · rw [if_neg h1, List.getElem?_set_ne (fun e => h1 e.symm)]
    by_cases h2 : k = i
    · rw [if_pos h2, h2, List.getElem?_set_self hi]
    · rw [if_neg h2, List.getElem?_set_ne (fun e => h2 e.symm)]
theorem swap_mem {l : List Wt} {i j : Nat} {x y : Wt} (hx : l[i]? = some x) (hy : l[j]? = some y) (hij : i ≠ j) (z : Wt) : z ∈ swapL l i j x y ↔ z ∈ l := by
  have hi : i < l.length := (List.getElem?_eq_some_iff.1 hx).1
  have hj : j < l.length := (List.getElem?_eq_some_iff.1 hy).1
  rw [List.mem_iff_getElem?, List.mem_iff_getElem?]
  constructor
  · rintro ⟨k, hk⟩
    rw [swap_get hi hj hij] at hk
    by_cases h1 : k = j
    · rw [if_pos h1] at hk; exact ⟨i, hx.trans hk⟩
    · rw [if_neg h1] at hk
      by_cases h2 : k = i
      · rw [if_pos h2] at hk; exact ⟨j, hy.trans hk⟩
      · rw [if_neg h2] at hk; exact ⟨k, hk⟩
  · rintro ⟨k, hk⟩
    by_cases h1 : k = j
    · exact ⟨i, by rw [swap_get hi hj hij, if_neg hij, if_pos rfl, ← hk, h1, hy]⟩
    · by_cases h2 : k = i
      · exact ⟨j, by rw [swap_get hi hj hij, if_pos rfl, ← hk, h2, hx]⟩
      · exact ⟨k, by rw [swap_get hi hj hij, if_neg h1, if_neg h2, hk]⟩

/-- what holds while x, now at i, goes up. -/
structure Up (l : List Wt) (x : Wt) (c : List Wt) (i : Nat) : Prop where
  len : c.length = l.length + 1
  at_ : c[i]? = some x
  mem : ∀ y, y ∈ c ↔ y ∈ l ∨ y = x
  root : i ≠ 0 → ∃ r, c[0]? = some r ∧ ∀ k y, k ≠ i → c[k]? = some y → ¬ Bef y r
  top : i = 0 → ∀ y ∈ c, ¬ Bef y x
theorem Up.start {l : List Wt} (x : Wt) (h : MinRoot l) : Up l x (l ++ [x]) l.length := by
  refine ⟨by simp, by simp, by simp, ?_, ?_⟩
  · intro hn
    have hl : 0 < l.length := by omega
    obtain ⟨r, hr⟩ : ∃ r, l[0]? = some r := ⟨l[0], List.getElem?_eq_getElem hl⟩
    refine ⟨r, by rw [List.getElem?_append_left hl]; exact hr, ?_⟩
    intro k y hk hy
    rcases Nat.lt_or_ge k l.length with h1 | h1
    · rw [List.getElem?_append_left h1] at hy
      exact h r hr y (List.mem_of_getElem? hy)
    · rw [List.getElem?_eq_none (by simp; omega)] at hy; cases hy
  · intro hn y hy
    have : l = [] := List.length_eq_zero_iff.1 hn
    subst this
    obtain rfl : y = x := by simpa using hy
    unfold Bef; omega
theorem Up.stop {l : List Wt} {x : Wt} {c : List Wt} {i : Nat} {y : Wt} (h : Up l x c i) (hi : i ≠ 0) (hy : c[(i - 1) / 2]? = some y) (hb : ¬ Bef x y) : MinRoot c := by
  obtain ⟨r, hr, hall⟩ := h.root hi
  intro r' hr' z hz
  obtain rfl : r = r' := by rw [hr] at hr'; exact Option.some.inj hr'
  obtain ⟨k, hk⟩ := List.mem_iff_getElem?.1 hz
  by_cases h1 : k = i
  · subst h1
    obtain rfl : x = z := by rw [h.at_] at hk; exact Option.some.inj hk
    have h2 := hall _ y (by omega) hy
    unfold Bef at *; omega
  · exact hall k z h1 hk
theorem Up.done {l : List Wt} {x : Wt} {c : List Wt} (h : Up l x c 0) : MinRoot c := by
  intro r hr y hy
  obtain rfl : x = r := by have := h.at_; rw [hr] at this; exact (Option.some.inj this).symm
  exact h.top rfl y hy
theorem Up.step {l : List Wt} {x : Wt} {c : List Wt} {i : Nat} {y : Wt} (h : Up l x c i) (hi : i ≠ 0) (hy : c[(i - 1) / 2]? = some y) (hb : Bef x y) : Up l x (swapL c i ((i - 1) / 2) x y) ((i - 1) / 2) := by
  have hne : i ≠ (i - 1) / 2 := by omega
  have hi1 : i < c.length := (List.getElem?_eq_some_iff.1 h.at_).1
  have hj1 : (i - 1) / 2 < c.length := (List.getElem?_eq_some_iff.1 hy).1
  obtain ⟨r, hr, hall⟩ := h.root hi
  have get := swap_get (x := x) (y := y) hi1 hj1 hne
  refine ⟨by unfold swapL; simp [h.len], by rw [get, if_pos rfl], fun z => (swap_mem h.at_ hy hne z).trans (h.mem z), ?_, ?_⟩
  · intro hj
    refine ⟨r, by rw [get, if_neg (by omega), if_neg (by omega), hr], ?_⟩
    intro k z hk hz
    rw [get, if_neg hk] at hz
    by_cases h2 : k = i
    · rw [if_pos h2] at hz
      obtain rfl : y = z := Option.some.inj hz
      exact hall _ y (by omega) hy
    · rw [if_neg h2] at hz
      exact hall k z h2 hz
  · intro hj z hz
    obtain ⟨k, hk⟩ := List.mem_iff_getElem?.1 hz
    rw [hj] at hy
    obtain rfl : r = y := by rw [hr] at hy; exact Option.some.inj hy
    rw [get] at hk
    by_cases h1 : k = (i - 1) / 2
    · rw [if_pos h1] at hk
      obtain rfl : x = z := Option.some.inj hk
      unfold Bef; omega
    · rw [if_neg h1] at hk
      by_cases h2 : k = i
      · rw [if_pos h2] at hk
        obtain rfl : r = z := Option.some.inj hk
        unfold Bef at *; omega
      · rw [if_neg h2] at hk
        have := hall k z h2 hk
        unfold Bef at *; omega

/-- the cells of a row of waiters. -/
def flat : List Wt → List Value
  | [] => []
  | x :: l => .int .i64 x.v :: .int .i64 x.p :: flat l
theorem flat_len (l : List Wt) : (flat l).length = l.length * 2 := by
  induction l with
  | nil => rfl
  | cons x l ih => simp only [flat, List.length_cons, ih]; omega
theorem flat_append (l m : List Wt) : flat (l ++ m) = flat l ++ flat m := by
  induction l with
  | nil => rfl
  | cons x l ih => simp only [List.cons_append, flat, ih]
theorem flat_get {l : List Wt} {i : Nat} {x : Wt} (h : l[i]? = some x) : (flat l)[i * 2]? = some (.int .i64 x.v) ∧ (flat l)[i * 2 + 1]? = some (.int .i64 x.p) := by
  induction l generalizing i with
  | nil => cases h
  | cons y l ih =>
    match i with
    | 0 => obtain rfl : y = x := by simpa using h
           exact ⟨rfl, rfl⟩
    | i + 1 =>
      have := ih (i := i) (by simpa using h)
      rw [show (i + 1) * 2 = i * 2 + 1 + 1 by omega]
      exact this
theorem flat_set (l : List Wt) (i : Nat) (x : Wt) : ((flat l).set (i * 2) (.int .i64 x.v)).set (i * 2 + 1) (.int .i64 x.p) = flat (l.set i x) := by
  induction l generalizing i with
  | nil => rfl
  | cons y l ih =>
    match i with
    | 0 => rfl
    | i + 1 =>
      rw [show (i + 1) * 2 = i * 2 + 1 + 1 by omega]
      show Value.int .i64 y.v :: .int .i64 y.p :: ((flat l).set (i * 2) (.int .i64 x.v)).set (i * 2 + 1) (.int .i64 x.p) = _
      rw [ih]; rfl
theorem flat_one (x : Wt) : flat [x] = [.int .i64 x.v, .int .i64 x.p] := rfl

/-- a cell written into a row of one's own. -/
theorem owns_set {w : World} {base : Nat} {e : TypeId} {size g n cap k : Nat} {xs : List Value} {v : Value} (h : w.ownsRow base e size (.slice (some ⟨g, 0, none⟩) n cap) n xs) :
    (w.setCell ⟨g, k, none⟩ v).ownsRow base e size (.slice (some ⟨g, 0, none⟩) n cap) n (xs.set k v) := by
  obtain ⟨h1, h2⟩ := h
  rcases h2 with ⟨h2, _⟩ | ⟨g', cap', cur, h2, h3, h4, h5, h6, h7, h8⟩
  · cases h2
  · cases h2
    refine ⟨by simpa using h1, .inr ⟨g, cap, cur.setIfInBounds k v, rfl, h3, heap_setCell_same _ _ _ _ _ _ h4, h5, h6, by simpa using h7, ?_⟩⟩
    rw [Array.toList_setIfInBounds, ← h8, List.take_set]
theorem owns_there {w : World} {base : Nat} {e : TypeId} {size g n cap : Nat} {xs : List Value} (h : w.ownsRow base e size (.slice (some ⟨g, 0, none⟩) n cap) n xs) {k : Nat} {v : Value} (hk : xs[k]? = some v) :
    w.cell? ⟨g, k, none⟩ = some v ∧ w.frozen? ⟨g, k, none⟩ = false := by
  have hc := h.cells (g := g) rfl k v hk
  rw [add_none', Nat.zero_add] at hc
  refine ⟨hc, ?_⟩
  rcases h.2 with ⟨h2, _⟩ | ⟨g', cap', cur, h2, h3, h4, h5, h6, h7, h8⟩
  · cases h2
  · cases h2
    exact frozen_of_row _ _ _ _ _ h4
end Go.Proofs.Ytbifcjfjenpmnaa
