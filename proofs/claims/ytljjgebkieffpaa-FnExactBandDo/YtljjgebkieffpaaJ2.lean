/- My law for regions that draw their order: where two operations are ready. -/
import Derived.Test.YtljjgebkieffpaaJ
namespace Go.Proofs.Ytljjgebkieffpaa
open Go.RowKit

section
variable {P : Program} {ops : Array Oper} {Q : Exit → Act → World → Prop} {s : Nat} {S0 S1 : World → Prop}
theorem JJ_two {i j : Nat} {oi oj : Oper} {fuel : Nat} {listed : Array Bool} {a : Act} {w : World} (hr : Region.ready .any ops listed = [i, j]) (hoi : ops[i]? = some oi) (hoj : ops[j]? = some oj)
    (hi : Till s S0 S1 listed w → ∀ K' : Act → World → Prop, Shut (∀ a w, Till s S0 S1 (listed.setIfInBounds i true) w → JJ P ops Q s S0 S1 fuel (listed.setIfInBounds i true) a w → K' a w) → if Region.wanted oi (yielded ops a.tmps) = true then Oper.wp P oi a w K' Q else K' (a.put oi.dst undef) w)
    (hj : Till s S0 S1 listed w → ∀ K' : Act → World → Prop, Shut (∀ a w, Till s S0 S1 (listed.setIfInBounds j true) w → JJ P ops Q s S0 S1 fuel (listed.setIfInBounds j true) a w → K' a w) → if Region.wanted oj (yielded ops a.tmps) = true then Oper.wp P oj a w K' Q else K' (a.put oj.dst undef) w) :
    JJ P ops Q s S0 S1 (fuel + 1) listed a w := by
  intro hcl hS
  have hri : i ∈ Region.ready .any ops listed := by rw [hr]; simp
  have hrj : j ∈ Region.ready .any ops listed := by rw [hr]; simp
  refine ⟨fun h0 => (by rw [hr] at h0; cases h0), fun k hk => ?_⟩
  rw [hr] at hk
  have hk' : k = i ∨ k = j := by simpa using hk
  rcases hk' with rfl | rfl
  · exact wpOp_step hoi (fun K' hK => hi hS K' (fun a w hS hW => hK a w ⟨hS, hW (hcl.step hri) hS⟩))
  · exact wpOp_step hoj (fun K' hK => hj hS K' (fun a w hS hW => hK a w ⟨hS, hW (hcl.step hrj) hS⟩))
end
end Go.Proofs.Ytljjgebkieffpaa
