/- A law of my own for a region that draws its order: an operation that only looks may be taken first where whoever may come before it leaves what it looks at as it was; what is asked behind an operation hangs on what has been carried out. -/
import Derived.Test.YtbifcjfjenpmnaaRows
import Derived.WalkKit
import Derived.Deep.RegionHeld3
namespace Go.Proofs.Ytbifcjfjenpmnaa
open Go.RowKit

section
variable {P : Program} {ops : Array Oper} {Q : Exit → Act → World → Prop} {md : Region.Mode} {S : Array Bool → World → Prop}

def wpAnyJ (P : Program) (md : Region.Mode) (ops : Array Oper) (Q : Exit → Act → World → Prop) (S : Array Bool → World → Prop) : Nat → Array Bool → Act → World → Prop
  | 0, listed, a, w => Region.ready md ops listed = [] ∧ Q .normal a w
  | fuel + 1, listed, a, w =>
    (Region.ready md ops listed = [] → Q .normal a w) ∧
    ∀ i ∈ Region.ready md ops listed, wpOp P ops Q i (fun a' w' => S (listed.setIfInBounds i true) w' ∧ wpAnyJ P md ops Q S fuel (listed.setIfInBounds i true) a' w') a w
theorem wpAny_of_J : ∀ (fuel : Nat) (listed : Array Bool) (a : Act) (w : World), wpAnyJ P md ops Q S fuel listed a w → wpAny P md ops Q fuel listed a w
  | 0, _, _, _, h => h
  | fuel + 1, _, _, _, h => ⟨h.1, fun i hi => wpOp_mono (fun a' w' h' => wpAny_of_J fuel _ a' w' h'.2) (h.2 i hi)⟩

/-- who has been carried out had its forerunners carried out. -/
def Closed (md : Region.Mode) (ops : Array Oper) (L : Array Bool) : Prop := ∀ j oj, ops[j]? = some oj → L.getD j false = true → ∀ e ∈ oj.after, Region.binds md e = true → L.getD e.on false = true
theorem Closed.start (n : Nat) : Closed md ops (Array.replicate n false) := by
  intro j oj _ h
  simp [Array.getD] at h
theorem Closed.step {L : Array Bool} {i : Nat} (h : Closed md ops L) (hr : i ∈ Region.ready md ops L) : Closed md ops (L.setIfInBounds i true) := by
  intro j oj hj hl e he hb
  obtain ⟨_, oi, hoi, hall⟩ := mem_ready.1 hr
  by_cases hji : i = j
  · subst hji
    rw [hoi] at hj
    obtain rfl : oi = oj := Option.some.inj hj
    exact getD_set_true (hall e he hb)
  · rw [getD_set_ne false hji] at hl
    exact getD_set_true (h j oj hj hl e he hb)

theorem wpAnyJ_first {i : Nat} {oi : Oper} {v : Value} {T : World → Prop} (hi : ops[i]? = some oi) (hsel : ∀ (j : Nat) (o : Oper) cs b, ops[j]? = some o → o.op ≠ .select cs b)
    (hQ : ∀ c a w, Q (.panic c) (a.put oi.dst v) w → Q (.panic c) a w)
    (hins : ∀ L w, S (L.setIfInBounds i true) w ↔ S L w) (hST : ∀ L w, Closed md ops L → L.getD i true = false → S L w → T w) :
    ∀ (fuel : Nat) (listed : Array Bool) (a : Act) (w : World),
      (∀ j oj, ops[j]? = some oj → j ≠ i → listed.getD j true = false → (∀ e ∈ oj.after, Region.binds md e = true → e.on ≠ i) → oi.apart ops oj = true) →
      i ∈ Region.ready md ops listed → Closed md ops listed → YieldsIf P ops T oi v a → S listed w →
      wpAnyJ P md ops Q S fuel (listed.setIfInBounds i true) (a.put oi.dst v) w → wpAnyJ P md ops Q S (fuel + 1) listed a w := by
  intro fuel
  induction fuel with
  | zero =>
    intro listed a w _ hr hcl hy hS H
    refine ⟨fun h => (by rw [h] at hr; cases hr), fun j hj => ?_⟩
    by_cases hji : j = i
    · subst hji; exact hy.wpOp hi (hST _ w hcl (mem_ready.1 hr).1 hS) ⟨(hins _ w).2 hS, H⟩
    · have := ready_mono hj hji
      rw [H.1] at this
      cases this
  | succ fuel ih =>
    intro listed a w hfree hr hcl hy hS H
    refine ⟨fun h => (by rw [h] at hr; cases hr), fun j hj => ?_⟩
    by_cases hji : j = i
    · subst hji; exact hy.wpOp hi (hST _ w hcl (mem_ready.1 hr).1 hS) ⟨(hins _ w).2 hS, H⟩
    · have h1 := H.2 j (ready_mono hj hji)
      obtain ⟨hjun, oj, hoj, hall⟩ := mem_ready.1 hj
      have hnot : ∀ e ∈ oj.after, Region.binds md e = true → e.on ≠ i := fun e he hb heq => by
        have h1 := hall e he hb
        have h0 := (mem_ready.1 hr).1
        rw [heq] at h1
        rcases Nat.lt_or_ge i listed.size with h' | h'
        · simp [h'] at h0 h1; rw [h0] at h1; cases h1
        · simp [Array.getElem?_eq_none h'] at h1
      have h2 := wpOp_putIf hoj (hfree j oj hoj hji hjun hnot) (fun cs b => hsel i oi cs b hi) (fun cs b => hsel j oj cs b hoj) hQ hy h1
      have hfree' : ∀ k ok, ops[k]? = some ok → k ≠ i → (listed.setIfInBounds j true).getD k true = false →
          (∀ e ∈ ok.after, Region.binds md e = true → e.on ≠ i) → oi.apart ops ok = true := fun k ok hk hki hun hno => by
        refine hfree k ok hk hki ?_ hno
        by_cases hjk : j = k
        · subst hjk; exact hjun
        · rw [getD_set_ne true hjk] at hun; exact hun
      refine wpOp_mono (fun a' w' h3 => ?_) h2
      have h4 := h3.2.1
      rw [Array.setIfInBounds_comm _ _ (Ne.symm hji), hins] at h4
      refine ⟨h4, ih (listed.setIfInBounds j true) a' w' hfree' (ready_mono hr (Ne.symm hji)) (hcl.step hj) h3.1 h4 ?_⟩
      rw [Array.setIfInBounds_comm _ _ hji]
      exact h3.2.2

/-- what is asked: S0 always, S1 till number s has been carried out. -/
def Till (s : Nat) (S0 S1 : World → Prop) (L : Array Bool) (w : World) : Prop := S0 w ∧ (L.getD s false = false → S1 w)
theorem till_ins {s i : Nat} {S0 S1 : World → Prop} (h : i ≠ s) (L : Array Bool) (w : World) : Till s S0 S1 (L.setIfInBounds i true) w ↔ Till s S0 S1 L w := by
  unfold Till; rw [getD_set_ne false h]
def waitsFor (md : Region.Mode) (ops : Array Oper) (s i : Nat) : Bool := ((ops[s]?).map fun o => o.after.any fun e => Region.binds md e && e.on == i).getD false
theorem till_T {s i : Nat} {S0 S1 : World → Prop} (hw : waitsFor md ops s i = true) (L : Array Bool) (w : World) (hcl : Closed md ops L) (hi : L.getD i true = false) (h : Till s S0 S1 L w) : S0 w ∧ S1 w := by
  refine ⟨h.1, h.2 ?_⟩
  by_cases hl : L.getD s false = true
  · exfalso
    unfold waitsFor at hw
    cases ho : ops[s]? with
    | none => rw [ho] at hw; cases hw
    | some o =>
      rw [ho] at hw
      simp only [Option.map_some, Option.getD_some] at hw
      rw [Array.any_eq_true'] at hw
      obtain ⟨e, he, h2⟩ := hw
      simp only [Bool.and_eq_true, beq_iff_eq] at h2
      have h3 := hcl s o ho hl e he h2.1
      rw [h2.2] at h3
      rcases Nat.lt_or_ge i L.size with h' | h'
      · simp [Array.getD, h'] at hi h3; rw [hi] at h3; cases h3
      · simp [Array.getD, Nat.not_lt.2 h'] at hi
  · simpa using hl
/-- on the way through a region. -/
def JJ (P : Program) (ops : Array Oper) (Q : Exit → Act → World → Prop) (s : Nat) (S0 S1 : World → Prop) (fuel : Nat) (listed : Array Bool) (a : Act) (w : World) : Prop :=
  Closed .any ops listed → Till s S0 S1 listed w → wpAnyJ P .any ops Q (Till s S0 S1) fuel listed a w
variable {s : Nat} {S0 S1 : World → Prop}
theorem JJ_take0 {i : Nat} {oi : Oper} {v : Value} {fuel : Nat} {listed : Array Bool} {a : Act} {w : World} (hi : ops[i]? = some oi)
    (hs : Region.noSelect ops = true) (hf : Region.free .any ops listed i = true) (hr : (Region.ready .any ops listed).contains i = true) (hne : i ≠ s)
    (hQ : ∀ c a w, Q (.panic c) (a.put oi.dst v) w → Q (.panic c) a w) (hy : YieldsIf P ops S0 oi v a)
    (h : JJ P ops Q s S0 S1 fuel (listed.setIfInBounds i true) (a.put oi.dst v) w) : JJ P ops Q s S0 S1 (fuel + 1) listed a w := fun hcl hS =>
  have hr' : i ∈ Region.ready .any ops listed := by simpa using hr
  wpAnyJ_first (T := S0) hi (Region.noSelect_spec hs) hQ (till_ins hne) (fun _ _ _ _ h => h.1) fuel listed a w (Region.free_spec hi hf) hr' hcl hy hS (h (hcl.step hr') ((till_ins hne _ _).2 hS))
theorem JJ_take {i : Nat} {oi : Oper} {v : Value} {fuel : Nat} {listed : Array Bool} {a : Act} {w : World} (hi : ops[i]? = some oi)
    (hs : Region.noSelect ops = true) (hf : Region.free .any ops listed i = true) (hr : (Region.ready .any ops listed).contains i = true) (hne : i ≠ s) (hw : waitsFor .any ops s i = true)
    (hQ : ∀ c a w, Q (.panic c) (a.put oi.dst v) w → Q (.panic c) a w) (hy : YieldsIf P ops (fun w => S0 w ∧ S1 w) oi v a)
    (h : JJ P ops Q s S0 S1 fuel (listed.setIfInBounds i true) (a.put oi.dst v) w) : JJ P ops Q s S0 S1 (fuel + 1) listed a w := fun hcl hS =>
  have hr' : i ∈ Region.ready .any ops listed := by simpa using hr
  wpAnyJ_first (T := fun w => S0 w ∧ S1 w) hi (Region.noSelect_spec hs) hQ (till_ins hne) (till_T hw) fuel listed a w (Region.free_spec hi hf) hr' hcl hy hS (h (hcl.step hr') ((till_ins hne _ _).2 hS))
theorem JJ_one {i : Nat} {o : Oper} {fuel : Nat} {listed : Array Bool} {a : Act} {w : World} (hr : Region.ready .any ops listed = [i]) (ho : ops[i]? = some o)
    (h : Till s S0 S1 listed w → ∀ K' : Act → World → Prop, Shut (∀ a w, Till s S0 S1 (listed.setIfInBounds i true) w → JJ P ops Q s S0 S1 fuel (listed.setIfInBounds i true) a w → K' a w) → if Region.wanted o (yielded ops a.tmps) = true then Oper.wp P o a w K' Q else K' (a.put o.dst undef) w) :
    JJ P ops Q s S0 S1 (fuel + 1) listed a w := by
  intro hcl hS
  have hr' : i ∈ Region.ready .any ops listed := by rw [hr]; simp
  refine ⟨fun h0 => (by rw [hr] at h0; cases h0), fun j hj => ?_⟩
  rw [hr] at hj
  obtain rfl : j = i := by simpa using hj
  exact wpOp_step ho (fun K' hK => h hS K' (fun a w hS hW => hK a w ⟨hS, hW (hcl.step hr') hS⟩))
theorem JJ_done {listed : Array Bool} {a : Act} {w : World} (hr : Region.ready .any ops listed = []) (h : Q .normal a w) (fuel : Nat) : JJ P ops Q s S0 S1 fuel listed a w := fun _ _ =>
  match fuel with
  | 0 => ⟨hr, h⟩
  | _ + 1 => ⟨fun _ => h, by rw [hr]; simp⟩
theorem wp_region_J {id : Nat} {a : Act} {w : World} (s : Nat) (S0 S1 : World → Prop) (hm : P.follows .mixedOrders = true) (hS0 : S0 w.drew) (hS1 : S1 w.drew)
    (h : JJ P ops Q s S0 S1 ops.size (Array.replicate ops.size false) a w.drew) : (Code.region id ops true).wp P Q a w :=
  wp_region_any hm (wpAny_of_J _ _ _ _ (h (Closed.start _) ⟨hS0, fun _ => hS1⟩))
end
end Go.Proofs.Ytbifcjfjenpmnaa
