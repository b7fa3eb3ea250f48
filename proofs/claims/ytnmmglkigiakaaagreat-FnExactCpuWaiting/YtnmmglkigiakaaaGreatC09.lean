/- The program's treeOf where the root is one. -/
import Derived.Test.YtnmmglkigiakaaaGreatC08
namespace Go.Proofs.YtnmmglkigiakaaaGreat
set_option linter.unusedVariables false
set_option linter.unusedSimpArgs false
open Go.ChangeShapes Go.WideShapes Go.ChangeAt Go.RowKit

/-- what holds while the nodes are hung: k places are. -/
structure HS (w W : World) (ds : List Gr) (nb mb : Nat → Nat) (T k : Nat) : Prop where
  acc : Below w.heap.size w W
  res : W.heap[w.heap.size]? = some (.cells (tRow ds (fun _ => 0) 0) 164 (0, 0))
  arr : W.heap[T]? = some (.cells (tRow ds nb 8) 164 (0, 0))
  up : w.heap.size < T
  nodes : ∃ Dm, NS W ds 8 nb mb (parTo ds k) Dm k (w.heap.size + 1) ∧ MO ds (if k = 0 then 1 else k) Dm
  apart : ∀ i, i < 8 → usAt ds i = true → nb i ≠ T ∧ mb i ≠ T
  hung : Hung ds k
theorem HS.below {w W W' : World} {ds : List Gr} {nb mb : Nat → Nat} {T k : Nat} (h : HS w W ds nb mb T k) (hb : Below W.heap.size W W') : HS w W' ds nb mb T k := by
  obtain ⟨Dm, h1, h2⟩ := h.nodes
  exact ⟨h.acc.trans (hb.mono h.acc.size), (hb.block _ (Array.getElem?_eq_some_iff.1 h.res).1).trans h.res, (hb.block _ (Array.getElem?_eq_some_iff.1 h.arr).1).trans h.arr, h.up, ⟨Dm, h1.below hb, h2⟩, h.apart, h.hung⟩
theorem HS.skip {w W : World} {ds : List Gr} {nb mb : Nat → Nat} {T k : Nat} (h : HS w W ds nb mb T k) (hu : usAt ds k = false ∨ k = 0) : HS w W ds nb mb T (k + 1) := by
  obtain ⟨Dm, h1, h2⟩ := h.nodes
  refine ⟨h.acc, h.res, h.arr, h.up, ⟨Dm, (h1.par ?_).size_eq (by omega), ?_⟩, h.apart, hung_skip h.hung hu⟩
  · intro i hi hui
    unfold parTo
    have : (1 ≤ i ∧ i < k ∧ usAt ds i = true) ↔ (1 ≤ i ∧ i < k + 1 ∧ usAt ds i = true) := by
      constructor
      · rintro ⟨a, b, c⟩; exact ⟨a, by omega, c⟩
      · rintro ⟨a, b, c⟩
        refine ⟨a, ?_, c⟩
        rcases Nat.lt_or_ge i k with h' | h'
        · exact h'
        · obtain rfl : i = k := by omega
          rcases hu with hu | hu
          · rw [hu] at hui; cases hui
          · omega
    simp only [this]
  · rw [if_neg (by omega)]
    by_cases e : k = 0
    · subst e; exact h2
    · rw [if_neg e] at h2
      rcases hu with hu | hu
      · exact h2.skip hu
      · omega
theorem HS.hang {w W W' : World} {ds : List Gr} {nb mb : Nat → Nat} {T k j : Nat} {Dm : Nat → DataW Unit} (h : HS w W ds nb mb T k) (hk1 : 1 ≤ k) (hk : k < 8) (uk : usAt ds k = true) (hj : j < 8) (uj : usAt ds j = true) (hp : paAt ds k = (j : Int)) (hnm : nameB (naAt ds k) = true) (hs : (naAt ds k).size ≤ maxLen)
    (h8 : ds.length = 8) (hM : MO ds k Dm) (hno : dupTo ds k k = false) (hlow : nb k < W.heap.size)
    (hN : NS W' ds 8 nb mb (upd (parTo ds k) k (some j)) (upd Dm j ((Dm j).put (keyS (naAt ds k)) (.lit (.int .i64 (k : Int))))) (k + 1) (w.heap.size + 1))
    (hK : Kept (fun g => g = nb k ∨ g = mb j) W W') : HS w W' ds nb mb T (k + 1) := by
  have lk := hN.low k hk uk
  have lj := hN.low j hj uj
  have ak := h.apart k hk uk
  have aj := h.apart j hj uj
  have hsz := h.acc.size
  refine ⟨h.acc.trans (hK.toBelow hsz ?_), ?_, ?_, h.up, ⟨_, hN.par ?_, ?_⟩, h.apart, hung_step h.hung (by rw [hp]; exact usedB_nat h8 hj uj) hnm hno⟩
  · rintro g (hg | hg) <;> omega
  · rw [hK.block _ (Array.getElem?_eq_some_iff.1 h.res).1 (by rintro (hg | hg) <;> omega)]; exact h.res
  · rw [hK.block _ (Array.getElem?_eq_some_iff.1 h.arr).1 (by rintro (hg | hg); exact ak.1 hg.symm; exact aj.2 hg.symm)]; exact h.arr
  · intro i hi hui
    by_cases e : i = k
    · subst e
      rw [upd_same]
      unfold parTo
      rw [if_pos ⟨hk1, by omega, uk⟩, hp]
      rfl
    · rw [upd_other _ _ e]
      unfold parTo
      have : (1 ≤ i ∧ i < k ∧ usAt ds i = true) ↔ (1 ≤ i ∧ i < k + 1 ∧ usAt ds i = true) := by
        constructor
        · rintro ⟨a, b, c⟩; exact ⟨a, by omega, c⟩
        · rintro ⟨a, b, c⟩; exact ⟨a, by omega, c⟩
      simp only [this]
  · rw [if_neg (by omega)]
    refine hM.put hk1 uk hp hs ?_
    rw [← dup_names ds k j hp]
    exact hno
theorem HS.done {w W : World} {ds : List Gr} {nb mb : Nat → Nat} {T : Nat} (h : HS w W ds nb mb T 8) (h8 : ds.length = 8) (hr : usAt ds 0 = true) : ∃ Dm, TR W ds nb mb Dm (w.heap.size + 1) ∧ MO ds 8 Dm := by
  obtain ⟨Dm, h1, h2⟩ := h.nodes
  refine ⟨Dm, ⟨?_, h8, hr, h.hung⟩, h2⟩
  have h3 := h1.par (par' := parF ds) (fun i hi hu => by
    unfold parTo parF
    by_cases e : i = 0
    · subst e; rw [if_neg (by omega), if_pos rfl]
    · rw [if_pos ⟨by omega, hi, hu⟩, if_neg e])
  exact h3
theorem TR.kept {S : Nat → Prop} {W W' : World} {ds : List Gr} {nb mb : Nat → Nat} {Dm : Nat → DataW Unit} {B : Nat} (h : TR W ds nb mb Dm B) (hk : Kept S W W') (hS : ∀ g, B ≤ g → ¬ S g) : TR W' ds nb mb Dm B := ⟨h.ns.kept hk hS, h.len, h.root, h.hung⟩
theorem TR.mono {W : World} {ds : List Gr} {nb mb : Nat → Nat} {Dm : Nat → DataW Unit} {B B' : Nat} (h : TR W ds nb mb Dm B) (hB : B' ≤ B) : TR W ds nb mb Dm B' := ⟨⟨h.ns.node, h.ns.map, fun i hi hu => ⟨Nat.le_trans hB (h.ns.low i hi hu).1, Nat.le_trans hB (h.ns.low i hi hu).2⟩, h.ns.inj, h.ns.sep⟩, h.len, h.root, h.hung⟩
end Go.Proofs.YtnmmglkigiakaaaGreat
