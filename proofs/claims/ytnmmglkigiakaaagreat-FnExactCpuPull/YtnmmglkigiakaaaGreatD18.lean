/- The law for a region that draws its order, inside a fence; and an append to a row of one's own as one operation. -/
import Derived.Test.YtnmmglkigiakaaaGreatD17
import Derived.OrdersIn
import Derived.OwnWalkIn
namespace Go.Proofs.YtnmmglkigiakaaaGreat
set_option maxRecDepth 100000
set_option maxHeartbeats 32000000
open Go.RowKit
theorem region_invIn {F : Fence} {n : Nat} {P : Program} {Q : Exit → Act → World → Prop} {id : Nat} {ops : Array Oper} {a : Act} {w : World} (hm : P.follows .mixedOrders = true) (hah : Ahead ops = true)
    (Inv : (Nat → Bool) → Act → World → Prop) (h0 : Inv (fun _ => false) a w.drew)
    (hstep : ∀ (i : Nat) (o : Oper), ops[i]? = some o → ∀ (L : Nat → Bool) (a : Act) (w : World), Inv L a w → L i = false → (∀ e ∈ o.after, Region.binds .any e = true → L e.on = true) →
      ∀ K : Act → World → Prop, (∀ a w, Inv (setL L i) a w → K a w) → if Region.wanted o (yielded ops a.tmps) = true then Oper.wpIn F n P o a w K Q else (∀ f, o.about P w a.eval = some f → F.fn f) ∧ K (a.put o.dst undef) w)
    (hdone : ∀ (L : Nat → Bool) (a : Act) (w : World), (∀ i, i < ops.size → L i = true) → Inv L a w → Q .normal a w) :
    (Code.region id ops true).wpIn F n P Q a w := by
  refine wpIn_region_any hm ?_
  have key : ∀ (fuel : Nat) (listed : Array Bool) (a : Act) (w : World), listed.size = ops.size → (List.range ops.size).countP (fun i => !listed.getD i false) ≤ fuel → Inv (fun j => listed.getD j false) a w → wpAnyIn F n P .any ops Q fuel listed a w := by
    intro fuel
    induction fuel with
    | zero =>
      intro listed a w hsz hc hi
      have hall : ∀ i, i < ops.size → listed.getD i false = true := by
        intro i hi'
        have := List.countP_eq_zero.1 (Nat.le_zero.1 hc) i (List.mem_range.2 hi')
        simpa using this
      refine ⟨?_, hdone _ a w hall hi⟩
      unfold Region.ready
      rw [List.filter_eq_nil_iff]
      intro i hi'
      have hi2 := List.mem_range.1 hi'
      have : listed.getD i true = true := by
        have h1 := hall i hi2
        have h2 : i < listed.size := by omega
        simp [Array.getD, h2] at h1 ⊢
        exact h1
      rw [this]; simp
    | succ fuel ih =>
      intro listed a w hsz hc hi
      refine ⟨fun hr => hdone _ a w (ready_nil hah hsz hr) hi, ?_⟩
      intro i hr
      unfold Region.ready at hr
      rw [List.mem_filter] at hr
      obtain ⟨hi1, hi2⟩ := hr
      have hlt := List.mem_range.1 hi1
      have hlt' : i < listed.size := by omega
      have ho : ops[i]? = some ops[i] := Array.getElem?_eq_getElem hlt
      rw [ho] at hi2
      simp only [Option.map_some, Option.getD_some, Bool.and_eq_true, Bool.not_eq_true'] at hi2
      obtain ⟨hi2, hi3⟩ := hi2
      have hf : listed.getD i false = false := by simp [Array.getD, hlt'] at hi2 ⊢; exact hi2
      have hset : (fun j => (listed.setIfInBounds i true).getD j false) = setL (fun j => listed.getD j false) i := by
        funext j
        unfold setL
        by_cases hj : j = i
        · subst hj; simp [Array.getD, hlt']
        · rw [if_neg hj]
          by_cases hjs : j < listed.size
          · simp [Array.getD, hjs, Ne.symm hj]
          · simp [Array.getD, hjs]
      refine wpOpIn_step ho ?_
      intro K hK
      refine hstep i ops[i] ho _ a w hi hf ?_ K ?_
      · intro e he hb
        have := (Array.all_eq_true_iff_forall_mem.1 hi3) e he
        rw [hb] at this
        simpa using this
      · intro a' w' hinv
        refine hK a' w' (ih _ a' w' (by simpa using hsz) ?_ (by rw [hset]; exact hinv))
        have hle : (List.range ops.size).countP (fun j => !(listed.setIfInBounds i true).getD j false) < (List.range ops.size).countP (fun j => !listed.getD j false) := by
          have e : ∀ j, (listed.setIfInBounds i true).getD j false = setL (fun j => listed.getD j false) i j := fun j => congrFun hset j
          refine count_lt ?_ (i := i) (by rw [hf]; rfl) (by rw [e]; unfold setL; rw [if_pos rfl]; rfl) _ hi1
          intro x hx
          rw [e] at hx
          unfold setL at hx
          by_cases hxi : x = i
          · rw [if_pos hxi] at hx; cases hx
          · rw [if_neg hxi] at hx; exact hx
        omega
  refine key ops.size _ a _ (by simp) ?_ ?_
  · exact Nat.le_trans List.countP_le_length (by simp)
  · have : (fun j => (Array.replicate ops.size false).getD j false) = fun _ => false := by
      funext j; simp [Array.getD]
    rw [this]; exact h0

end Go.Proofs.YtnmmglkigiakaaaGreat
