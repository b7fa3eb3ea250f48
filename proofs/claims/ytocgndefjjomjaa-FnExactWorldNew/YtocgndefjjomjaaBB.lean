/- Pools: what marks one, what asks whether it is held; a pool that comes in as an argument, opened. -/
import Derived.Test.YtocgndefjjomjaaBA
import Derived.ProofKit
namespace Go.Proofs.Ytocgndefjjomjaa
set_option linter.unusedVariables false
set_option linter.unusedSimpArgs false
open Go.ChangeShapes Go.WideShapes Go.ChangeAt Go.RowKit

/-- the pool as it is marked from k on. -/
def mBa (k : Int) (b : Ba) : Ba := ⟨b.qu, b.po, b.sp, mInts k b.lo.length, mBools (k + b.lo.length) b.dr.length⟩
/-- a struct of fields of one cell each, by value, opened. -/
theorem open_fields {H : Type} {enc : TypeId × Value → H} {P : Program} {w : World} {base b0 : Nat} {spare : Nat → Bool} {held : Bool} {r : Reach} {t : TypeId} {fs : Array Field} {v : Value} {d : DataW H} {p : List MemPlace}
    (hs : P.underlying t = some (.struct fs)) (hone : Deep.oneCellFields P fs = true) (hC : P.cellsOf t = fs.size) (hv : Value.okWide P w r b0 t v) (h : DataW.Trod enc P w base spare held t v d p) :
    ∃ cs n, v = .agg cs ∧ cs.size = fs.size ∧ ∀ (k : Nat) (f : Field), fs[k]? = some f → ∀ c, cs[k]? = some c → ∃ y, DataW.trod enc P w base spare held n f.type [c] = some y := by
  obtain ⟨cs, rfl, hsz⟩ := okWide_struct hs hv
  obtain ⟨fuel, hf⟩ := h
  obtain ⟨xs, n, _, _, _, hlen, hg⟩ := DataW.trod_struct hs hf
  refine ⟨cs, n, rfl, hsz.trans hC, ?_⟩
  intro k f hk c hc
  obtain ⟨o0, k0⟩ := Deep.hone_of hone k f hk
  have hx : ∃ y, xs[k]? = some y := ⟨xs[k]'(by rw [hlen]; exact (Array.getElem?_eq_some_iff.1 hk).1), List.getElem?_eq_getElem _⟩
  obtain ⟨y, hy⟩ := hx
  refine ⟨y, ?_⟩
  have h1 := hg k f hk
  rw [hy, o0, k0] at h1
  rw [← h1]
  congr 1
  obtain ⟨l⟩ := cs
  show [c] = (l.drop k).take 1
  have hc' : l[k]? = some c := by simpa using hc
  obtain ⟨hlt, he⟩ := List.getElem?_eq_some_iff.1 hc'
  rw [List.drop_eq_getElem_cons hlt, he]
  rfl
theorem array5 {α : Type} {cs : Array α} (h : cs.size = 5) : ∃ c0 c1 c2 c3 c4, cs = #[c0, c1, c2, c3, c4] := by
  obtain ⟨l⟩ := cs
  match l, h with
  | [c0, c1, c2, c3, c4], _ => exact ⟨c0, c1, c2, c3, c4, rfl⟩
/-- what is read as a row of numbers is one. -/
theorem trod_intS {H : Type} {enc : TypeId × Value → H} {w : World} {base : Nat} {spare : Nat → Bool} {held : Bool} {fuel : Nat} {v : Value} {y : DataW H × List MemPlace}
    (hf : DataW.trod enc Try.prog w base spare held fuel 35 [v] = some y) : ∃ ws, SlI w v ws := by
  rcases Deep.open_slice1 Try.underlying35 (by kernel_rfl) hf with ⟨hcs, _⟩ | ⟨x, l, c, m, n, V, D, Pl, hcs, _, hl, hm, hmm, _, hel⟩
  · simp at hcs
    exact ⟨[], .inl ⟨rfl, _, _, hcs⟩⟩
  · simp at hcs
    subst hcs
    have hlm : l ≤ m := by rw [hmm]; split <;> omega
    by_cases h0 : l = 0
    · subst h0; exact ⟨[], .inl ⟨rfl, _, _, rfl⟩⟩
    have each : ∀ i, i < l → ∃ q : Int, w.cell? (x.add i) = some (.int .i64 q) := by
      intro i hi
      obtain ⟨h1, h2⟩ := hel i (by omega)
      obtain ⟨b1, e1, _, x1⟩ := DataW.trod_int Try.underlying3 h2
      simp at e1
      rw [e1] at h1
      exact ⟨b1, h1⟩
    have inh : Inhabited Int := ⟨0⟩
    obtain ⟨q, hq⟩ := Deep.choose_lt each
    obtain ⟨g, o, spot⟩ := x
    have hspot : spot = none := by
      have := hq 0 (by omega)
      simpa [Addr.add] using World.cell?_spot this
    subst hspot
    refine ⟨(List.range l).map q, .inr ⟨g, o, c, by simp, ?_, by simpa using hl, hm⟩⟩
    intro i e' he'
    rw [List.getElem?_map] at he'
    have hi : i < l := by
      rcases Nat.lt_or_ge i l with h' | h'
      · exact h'
      · rw [List.getElem?_eq_none (by simpa using h')] at he'; cases he'
    rw [List.getElem?_range hi] at he'
    obtain rfl : q i = e' := by simpa using he'
    have := hq i hi
    rwa [add_none'] at this
/-- what is read as a row of bools is one. -/
theorem trod_boolS {H : Type} {enc : TypeId × Value → H} {w : World} {base : Nat} {spare : Nat → Bool} {held : Bool} {fuel : Nat} {v : Value} {y : DataW H × List MemPlace}
    (hf : DataW.trod enc Try.prog w base spare held fuel 36 [v] = some y) : ∃ ws, SlB w v ws := by
  rcases Deep.open_slice1 Try.underlying36 (by kernel_rfl) hf with ⟨hcs, _⟩ | ⟨x, l, c, m, n, V, D, Pl, hcs, _, hl, hm, hmm, _, hel⟩
  · simp at hcs
    exact ⟨[], .inl ⟨rfl, _, _, hcs⟩⟩
  · simp at hcs
    subst hcs
    have hlm : l ≤ m := by rw [hmm]; split <;> omega
    by_cases h0 : l = 0
    · subst h0; exact ⟨[], .inl ⟨rfl, _, _, rfl⟩⟩
    have each : ∀ i, i < l → ∃ q : Bool, w.cell? (x.add i) = some (.bool q) := by
      intro i hi
      obtain ⟨h1, h2⟩ := hel i (by omega)
      obtain ⟨b1, e1, _⟩ := DataW.trod_bool Try.underlying4 h2
      simp at e1
      rw [e1] at h1
      exact ⟨b1, h1⟩
    have inh : Inhabited Bool := ⟨false⟩
    obtain ⟨q, hq⟩ := Deep.choose_lt each
    obtain ⟨g, o, spot⟩ := x
    have hspot : spot = none := by
      have := hq 0 (by omega)
      simpa [Addr.add] using World.cell?_spot this
    subst hspot
    refine ⟨(List.range l).map q, .inr ⟨g, o, c, by simp, ?_, by simpa using hl, hm⟩⟩
    intro i e' he'
    rw [List.getElem?_map] at he'
    have hi : i < l := by
      rcases Nat.lt_or_ge i l with h' | h'
      · exact h'
      · rw [List.getElem?_eq_none (by simpa using h')] at he'; cases he'
    rw [List.getElem?_range hi] at he'
    obtain rfl : q i = e' := by simpa using he'
    have := hq i hi
    rwa [add_none'] at this
def BaWf (b : Ba) : Prop := (Lit.int .i64 b.qu).wf = true ∧ (Lit.int .i64 b.po).wf = true ∧ (Lit.int .i64 b.sp).wf = true
end Go.Proofs.Ytocgndefjjomjaa
