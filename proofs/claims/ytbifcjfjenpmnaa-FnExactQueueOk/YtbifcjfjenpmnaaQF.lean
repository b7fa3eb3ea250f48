/- A queue that comes in as an argument of a statement's function, opened. -/
import Derived.Test.YtbifcjfjenpmnaaQL
import Derived.ProofKit
namespace Go.Proofs.Ytbifcjfjenpmnaa
open Go.ChangeShapes Go.WideShapes Go.ChangeAt Go.RowKit

def QuWf (q : Qu) : Prop := (Lit.int .i64 q.fl).wf = true ∧ (Lit.int .i64 q.cu).wf = true ∧ (Lit.int .i64 q.rn).wf = true ∧ EntWf q.es
set_option maxRecDepth 20000 in
theorem open_queue {H : Type} {enc : TypeId × Value → H} {w : World} {base b0 : Nat} {spare : Nat → Bool} {held : Bool} {r : Reach} {v : Value} {d : DataW H} {p : List MemPlace}
    (hv : Value.okWide Try.prog w r b0 40 v) (h : DataW.Trod enc Try.prog w base spare held 40 v d p) : ∃ q sl, v = quV q sl ∧ SlE w sl q.es ∧ QuWf q := by
  obtain ⟨v0, v1, v2, v3, y0, y1, y2, y3, n, rfl, _, _, h0, h1, h2, h3⟩ := Joins.open_agg4 Try.underlying40 (by kernel_rfl) (by kernel_rfl) hv h
  obtain ⟨fl, e0, _, w0⟩ := DataW.trod_int Try.underlying3 h0
  obtain ⟨cu, e1, _, w1⟩ := DataW.trod_int Try.underlying3 h1
  obtain ⟨rn, e2, _, w2⟩ := DataW.trod_int Try.underlying3 h2
  obtain ⟨es, hs, hw⟩ := open_ents Try.underlying38 Try.underlying98 rfl rfl rfl rfl (by kernel_rfl) (by kernel_rfl) (by kernel_rfl) (by kernel_rfl) (by kernel_rfl) Try.underlying4 Try.underlying3 Try.underlying3 Try.underlying3 h3
  simp at e0 e1 e2
  subst e0 e1 e2
  exact ⟨⟨fl, cu, rn, es⟩, v3, rfl, hs, w0, w1, w2, hw⟩
end Go.Proofs.Ytbifcjfjenpmnaa
