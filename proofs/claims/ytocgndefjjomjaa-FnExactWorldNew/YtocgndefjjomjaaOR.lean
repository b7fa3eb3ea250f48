/- Rows of structs in a block of their own, or none at all. -/
import Derived.Test.YtocgndefjjomjaaRW
namespace Go.Proofs.Ytocgndefjjomjaa
set_option linter.unusedVariables false
open Go.ChangeShapes Go.WideShapes Go.ChangeAt Go.RowKit

section
variable {α : Type} (c : α → List Value) (n : Nat)
/-- elements that lie in a block of their own, not below B, or none. -/
def OwnR (B : Nat) (W : World) (x : Value) (xs : List α) : Prop :=
  (xs = [] ∧ x = .slice none 0 0) ∨ ∃ g cap, B ≤ g ∧ g < W.heap.size ∧ x = .slice (some ⟨g, 0, none⟩) xs.length cap ∧ RowOf c n W g 0 xs ∧ W.there g 0 (xs.length * n) ∧ xs.length ≤ cap ∧ cap ≤ maxLen
variable {c n}
theorem NewR.own {B : Nat} {W : World} {x : Value} {xs : List α} (h : NewR c n B W x xs) (hn : xs.length ≤ 1048576) : OwnR c n B W x xs := by
  obtain ⟨g, h1, h2, h3, h4, h5⟩ := h
  exact .inr ⟨g, _, h1, h2, h3, h4, h5, Nat.le_refl _, by unfold maxLen; omega⟩
theorem OwnR.sl {B : Nat} {W : World} {x : Value} {xs : List α} (h : OwnR c n B W x xs) : SlR c n W x xs := by
  rcases h with ⟨h1, h2⟩ | ⟨g, cap, _, _, h1, h2, _, h3, h4⟩
  · exact .inl ⟨h1, none, 0, h2⟩
  · exact .inr ⟨g, 0, cap, h1, h2, h3, h4⟩
theorem OwnR.mono {B B' : Nat} {W : World} {x : Value} {xs : List α} (h : OwnR c n B W x xs) (hB : B' ≤ B) : OwnR c n B' W x xs := by
  rcases h with h | ⟨g, cap, h0, h1⟩
  · exact .inl h
  · exact .inr ⟨g, cap, Nat.le_trans hB h0, h1⟩
theorem OwnR.kept {S : Nat → Prop} {B : Nat} {W W' : World} {x : Value} {xs : List α} (h : OwnR c n B W x xs) (hk : Kept S W W') (hne : ∀ g, x.ownBlock = some g → ¬ S g) : OwnR c n B W' x xs := by
  rcases h with h | ⟨g, cap, h0, h1, rfl, h3, h4, h5⟩
  · exact .inl h
  · have := hne g rfl
    exact .inr ⟨g, cap, h0, Nat.lt_of_lt_of_le h1 hk.size, rfl, h3.kept hk this, hk.there h1 this h4, h5⟩
theorem OwnR.below {B : Nat} {W W' : World} {x : Value} {xs : List α} (h : OwnR c n B W x xs) (hb : Below W.heap.size W W') : OwnR c n B W' x xs :=
  h.kept (Kept.ofBelow hb) (fun _ _ hf => hf)
theorem OwnR.at {B : Nat} {W : World} {x : Value} {xs : List α} (h : OwnR c n B W x xs) : ∀ g, x.ownBlock = some g → B ≤ g ∧ g < W.heap.size := by
  intro g hg
  rcases h with ⟨_, rfl⟩ | ⟨g', cap, h0, h1, rfl, _⟩
  · simp [Value.ownBlock] at hg
  · have : g' = g := by simpa [Value.ownBlock] using hg
    subst this; exact ⟨h0, h1⟩
theorem OwnR.form {B : Nat} {W : World} {x : Value} {xs : List α} (h : OwnR c n B W x xs) : ∃ p q, x = .slice p xs.length q := by
  rcases h with ⟨h1, h2⟩ | ⟨g, cap, _, _, h1, _⟩
  · exact ⟨none, 0, by rw [h1]; exact h2⟩
  · exact ⟨_, _, h1⟩
end
end Go.Proofs.Ytocgndefjjomjaa
