/- A row of numbers that comes in as an argument of a statement's function, opened. -/
import Derived.Test.YtbifcjfjenpmnaaQN
import Derived.ProofKit
import Derived.Deep.Slices
namespace Go.Proofs.Ytbifcjfjenpmnaa
set_option linter.unusedVariables false
open Go.ChangeShapes Go.WideShapes Go.ChangeAt Go.RowKit

set_option maxRecDepth 20000 in
theorem open_intS {H : Type} {enc : TypeId × Value → H} {w : World} {base b0 : Nat} {spare : Nat → Bool} {held : Bool} {r : Reach} {v : Value} {d : DataW H} {p : List MemPlace}
    (hv : Value.okWide Try.prog w r b0 46 v) (h : DataW.Trod enc Try.prog w base spare held 46 v d p) : ∃ ws, SlI w v ws := by
  obtain ⟨a, len, cap, rfl⟩ := okWide_slice Try.underlying46 hv
  obtain ⟨fuel, hf⟩ := h
  rcases Deep.open_slice1 Try.underlying46 (by kernel_rfl) hf with ⟨hcs, _⟩ | ⟨x, l, c, m, n, V, D, Pl, hcs, _, hl, hm, hmm, _, hel⟩
  · simp [Value.cells] at hcs
    obtain ⟨rfl, rfl, rfl⟩ := hcs
    exact ⟨[], .inl ⟨rfl, _, _, rfl⟩⟩
  · simp [Value.cells] at hcs
    obtain ⟨rfl, rfl, rfl⟩ := hcs
    have hlm : len ≤ m := by rw [hmm]; split <;> omega
    by_cases h0 : len = 0
    · subst h0; exact ⟨[], .inl ⟨rfl, _, _, rfl⟩⟩
    have each : ∀ i, i < len → ∃ q : Int, w.cell? (x.add i) = some (.int .i64 q) := by
      intro i hi
      obtain ⟨h1, h2⟩ := hel i (by omega)
      obtain ⟨b1, e1, _, x1⟩ := DataW.trod_int Try.underlying3 h2
      simp at e1
      rw [e1] at h1
      exact ⟨b1, h1⟩
    have inh : Inhabited Int := ⟨0⟩
    obtain ⟨q, hq⟩ := Deep.choose_lt each
    obtain ⟨g, o, spot⟩ := x
    have hspot : spot = none := by
      have := hq 0 (by omega)
      simpa [Addr.add] using World.cell?_spot this
    subst hspot
    refine ⟨(List.range len).map q, .inr ⟨g, o, cap, by simp, ?_, by simpa using hl, hm⟩⟩
    intro i e' he'
    rw [List.getElem?_map] at he'
    have hi : i < len := by
      rcases Nat.lt_or_ge i len with h' | h'
      · exact h'
      · rw [List.getElem?_eq_none (by simpa using h')] at he'; cases he'
    rw [List.getElem?_range hi] at he'
    obtain rfl : q i = e' := by simpa using he'
    have := hq i hi
    rwa [add_none'] at this
end Go.Proofs.Ytbifcjfjenpmnaa
