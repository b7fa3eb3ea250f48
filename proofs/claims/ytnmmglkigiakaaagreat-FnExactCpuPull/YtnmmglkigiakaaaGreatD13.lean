/- Regions that draw their order, within a round of a loop over an iterator too: all operations quiet; or all quiet but one, which all ahead of it lead to and all behind it wait for. -/
import Derived.Test.YtnmmglkigiakaaaGreatD00
import Derived.Lib.QuietBelowIn
namespace Go.Proofs.YtnmmglkigiakaaaGreat
set_option maxRecDepth 100000
set_option maxHeartbeats 32000000
set_option linter.unusedVariables false
set_option linter.unusedSimpArgs false
open Go.RowKit Go.Shelf Go.Sort
section
variable {F : Fence} {n : Nat} {P : Program} {ops : Array Oper} {C : World → Prop}

theorem op_of_quiet {o : Oper} {a : Act} {K : Act → Prop} {K' : Act → World → Prop} {Q' : Exit → Act → World → Prop} {w : World} (hw : C w) (h : ∀ a w', C w' → K a → K' a w')
    (ha : o.askedIn F P a C) (hh : o.quietIn F n P a C K) : o.wpIn F n P a w K' Q' := by
  obtain ⟨v, h1, h2⟩ := hh
  have h3 := h1 w hw
  unfold Oper.quietAtIn at h3
  by_cases hd : ∃ c, o.op = .defer c
  · obtain ⟨c, hc⟩ := hd
    exfalso
    revert h3
    simp only [execOp, hc, Sem.run_bind, Sem.run_pure]
    generalize (resolve a.eval c o.type).run P w = r
    cases r with
    | ok x w' => intro h3; simp [Result.andThen, Oper.quietUponIn] at h3
    | halt x w' => intro h3; simp [Result.andThen, Oper.quietUponIn] at h3
  · refine ⟨ha w hw, ?_⟩
    rw [Oper.semAt_plain F _ _ (fun c e => hd ⟨c, e⟩)]
    generalize (execOp a.eval o).run P w = r at *
    cases r with
    | halt x w' => exact h3.elim
    | ok x w' =>
      cases x with
      | value u => obtain ⟨e1, e2⟩ := h3; rw [e1, e2]; exact h _ _ hw h2
      | skip => obtain ⟨e1, e2⟩ := h3; rw [e1]; subst e2; exact h _ _ hw h2
      | enter f args => obtain ⟨e1, hd, hc⟩ := h3; rw [e1]; exact ⟨hd, hc.mono fun e w'' ⟨he, hw''⟩ => by subst he; exact h _ _ hw'' h2⟩
      | «defer» d => exact h3.elim
      | row r args => exact h3.elim
      | round l f t a b => exact h3.elim
      | _ => exact h3.elim

theorem opIn_of_q {i : Nat} {a : Act} {K : Act → Prop} {K' : Act → World → Prop} {Q' : Exit → Act → World → Prop} {w : World} (hC : C w) (h : ∀ a w', C w' → K a → K' a w')
    (hh : qOpIn F n P ops C i K a) : wpOpIn F n P ops Q' i K' a w := by
  unfold qOpIn at hh
  unfold wpOpIn
  split
  · rename_i ho; simp only [ho] at hh; exact h _ _ hC hh
  · rename_i o ho
    simp only [ho] at hh
    split
    · rename_i hw; simp only [hw, if_true] at hh; exact op_of_quiet hC h hh.1 hh.2
    · rename_i hw; simp only [hw] at hh; exact ⟨hh.1 w hC, h _ _ hC hh.2⟩

theorem any_of_q {Q : Act → Prop} {Q' : Exit → Act → World → Prop} {md : Region.Mode} (hQ : ∀ a w, C w → Q a → Q' .normal a w) : ∀ (fuel : Nat) (listed : Array Bool) (a : Act) (w : World), C w →
    wpAnyQIn F n P md ops C Q fuel listed a → wpAnyIn F n P md ops Q' fuel listed a w
  | 0, _, _, _, hw, h => ⟨h.1, hQ _ _ hw h.2⟩
  | fuel + 1, _, _, _, hw, h => ⟨fun h0 => hQ _ _ hw (h.1 h0), fun i hi => opIn_of_q hw (fun a' w' hw' => any_of_q hQ fuel _ a' w' hw') (h.2 i hi)⟩

theorem region_quiet {id : Nat} {Q : Exit → Act → World → Prop} {a : Act} {w : World} (hm : P.follows .mixedOrders = true) (hB : Region.lexB .any ops = true) (hC : C { w with drawn := w.drawn + 1 })
    (h : wpQuietIn F n P ops C (fun a' => ∀ w', C w' → Q .normal a' w') ops.toList a) : (Code.region id ops true).wpIn F n P Q a w := by
  simp only [Region.lexB, Bool.and_eq_true] at hB
  refine wpIn_region_any hm (any_of_q (Q := fun a' => ∀ w', C w' → Q .normal a' w') (fun _ w' hw' h => h w' hw') _ _ _ _ hC ?_)
  have := wpAnyQIn_lex (F := F) (n := n) (C := C) (md := .any) hB.1 ops.toList 0 (Array.replicate ops.size false) a (by simp) (by simpa using hB.2) h
  simpa using this

/-! one operation, number m, is not quiet -/
def needB (ops : Array Oper) (m : Nat) : Bool := (List.range m).all fun i => (List.range (m + 1)).any fun k => decide (i < k) && ((ops[k]?).map fun o => o.after.any fun e => Region.binds .any e && e.on == i).getD false
def tailB (ops : Array Oper) (m : Nat) : Bool := (List.range ops.size).all fun j => decide (j ≤ m) || ((ops[j]?).map fun o => o.after.any fun e => Region.binds .any e && decide (m ≤ e.on)).getD false
def aheadB (ops : Array Oper) : Bool := (List.range ops.size).all fun i => ((ops[i]?).map fun o => o.after.all fun e => !Region.binds .any e || decide (e.on < i)).getD true
def lexM (ops : Array Oper) : Nat → Nat → Array Bool → Bool
  | 0, _, _ => true
  | f + 1, k, listed => (Region.ready .any ops listed).contains k && Region.free .any ops listed k && lexM ops f (k + 1) (listed.setIfInBounds k true)
def upTo (ops : Array Oper) (m : Nat) : Array Bool := Array.replicate m true ++ Array.replicate (ops.size - m) false
def Dc (ops : Array Oper) (listed : Array Bool) : Prop := ∀ i o, ops[i]? = some o → listed.getD i false = true → ∀ e ∈ o.after, Region.binds .any e = true → listed.getD e.on false = true

theorem getD_iff {listed : Array Bool} {i : Nat} : listed.getD i true = false ↔ (i < listed.size ∧ listed.getD i false = false) := by
  by_cases h : i < listed.size
  · simp [Array.getD, h]
  · simp [Array.getD, h]
theorem getD_set {listed : Array Bool} {i j : Nat} (hi : i < listed.size) : (listed.setIfInBounds i true).getD j false = if j = i then true else listed.getD j false := by
  by_cases h : j = i
  · subst h; simp [hi]
  · rw [if_neg h, getD_set_ne false (Ne.symm h)]
theorem Dc.set {listed : Array Bool} {i : Nat} (h : Dc ops listed) (hr : i ∈ Region.ready .any ops listed) : Dc ops (listed.setIfInBounds i true) := by
  obtain ⟨h0, o, ho, hall⟩ := mem_ready.1 hr
  obtain ⟨hlt, _⟩ := getD_iff.1 h0
  intro k ok hk hl e he hb
  by_cases hki : k = i
  · subst hki
    rw [ho] at hk
    cases hk
    exact getD_set_true (hall e he hb)
  · rw [getD_set_ne false (Ne.symm hki)] at hl
    exact getD_set_true (h k ok hk hl e he hb)
theorem gate {m : Nat} (hn : needB ops m = true) (ht : tailB ops m = true) {listed : Array Bool} (hd : Dc ops listed) (hN : ∀ k, m ≤ k → listed.getD k false = false) {j : Nat} (hj : j ∈ Region.ready .any ops listed) (hmj : m ≤ j) :
    ∀ i, i < m → listed.getD i false = true := by
  obtain ⟨_, o, ho, hall⟩ := mem_ready.1 hj
  have hjs : j < ops.size := (Array.getElem?_eq_some_iff.1 ho).1
  have hjm : j = m := by
    rcases Nat.lt_or_ge m j with h | h
    · exfalso
      have := (List.all_eq_true.1 ht) j (List.mem_range.2 hjs)
      rw [ho] at this
      simp only [Option.map_some, Option.getD_some, Bool.or_eq_true, decide_eq_true_eq] at this
      rcases this with h1 | h1
      · omega
      · obtain ⟨e, he, hb⟩ := Array.any_eq_true'.1 h1
        simp only [Bool.and_eq_true, decide_eq_true_eq] at hb
        have h2 := hall e he hb.1
        rw [hN _ hb.2] at h2
        cases h2
    · omega
  subst hjm
  have key : ∀ d i, i < j → j - i ≤ d → listed.getD i false = true := by
    intro d
    induction d with
    | zero => intro i hi hd; omega
    | succ d ih =>
      intro i hi hdd
      have := (List.all_eq_true.1 hn) i (List.mem_range.2 hi)
      obtain ⟨k, hk, hb⟩ := List.any_eq_true.1 this
      simp only [Bool.and_eq_true, decide_eq_true_eq] at hb
      obtain ⟨hik, hb⟩ := hb
      have hk' := List.mem_range.1 hk
      cases hok : ops[k]? with
      | none => rw [hok] at hb; simp at hb
      | some ok =>
        rw [hok] at hb
        simp only [Option.map_some, Option.getD_some] at hb
        obtain ⟨e, he, hbe⟩ := Array.any_eq_true'.1 hb
        simp only [Bool.and_eq_true, beq_iff_eq] at hbe
        rw [← hbe.2]
        by_cases hkj : k = j
        · subst hkj
          rw [ho] at hok
          cases hok
          exact hall e he hbe.1
        · exact hd k ok hok (ih k (by omega) (by omega)) e he hbe.1
  exact fun i hi => key (j - i) i hi (Nat.le_refl _)
theorem some_ready (ha : aheadB ops = true) {listed : Array Bool} (hsz : listed.size = ops.size) {i : Nat} (hi : i < ops.size) (hl : listed.getD i false = false) : Region.ready .any ops listed ≠ [] := by
  intro hr
  have key : ∀ i, i < ops.size → listed.getD i false = true := by
    intro i
    induction i using Nat.strongRecOn with
    | ind i ih =>
      intro hi
      cases hl : listed.getD i false
      · exfalso
        have ho : ops[i]? = some ops[i] := Array.getElem?_eq_getElem hi
        have hmem : i ∈ Region.ready .any ops listed := by
          refine mem_ready.2 ⟨getD_iff.2 ⟨by omega, hl⟩, _, ho, fun e he hb => ?_⟩
          have h1 := (List.all_eq_true.1 ha) i (List.mem_range.2 hi)
          rw [ho] at h1
          simp only [Option.map_some, Option.getD_some] at h1
          have h2 := (Array.all_eq_true_iff_forall_mem.1 h1) e he
          rw [hb] at h2
          have h3 : e.on < i := of_decide_eq_true (by simpa using h2)
          exact ih _ h3 (by omega)
        rw [hr] at hmem
        cases hmem
      · rfl
  rw [key i hi] at hl
  cases hl

def AnyM (F : Fence) (n : Nat) (P : Program) (ops : Array Oper) (C : World → Prop) (m : Nat) (N : Act → Prop) : Nat → Array Bool → Act → Prop
  | 0, listed, a => (∀ i, i < m → listed.getD i false = true) ∧ N a
  | f + 1, listed, a => (∃ i, i < m ∧ listed.getD i false = false) ∧ ∀ i ∈ Region.ready .any ops listed, qOpIn F n P ops C i (AnyM F n P ops C m N f (listed.setIfInBounds i true)) a

theorem anyM_first {m : Nat} {N : Act → Prop} (hn : needB ops m = true) (ht : tailB ops m = true) {i : Nat} {oi : Oper} {v : Value} (hi : ops[i]? = some oi) (him : i < m) (hsel : ∀ (j : Nat) (o : Oper) cs b, ops[j]? = some o → o.op ≠ .select cs b) :
    ∀ (f : Nat) (listed : Array Bool) (a : Act), Dc ops listed → (∀ k, m ≤ k → listed.getD k false = false) →
      (∀ j oj, ops[j]? = some oj → j ≠ i → listed.getD j true = false → (∀ e ∈ oj.after, Region.binds .any e = true → e.on ≠ i) → oi.apart ops oj = true) →
      i ∈ Region.ready .any ops listed → YieldsQuiet F n P ops C oi v a →
      AnyM F n P ops C m N f (listed.setIfInBounds i true) (a.put oi.dst v) → AnyM F n P ops C m N (f + 1) listed a := by
  intro f
  induction f with
  | zero =>
    intro listed a hd hN hfree hr hy H
    have hil := (getD_iff.1 (mem_ready.1 hr).1).2
    refine ⟨⟨i, him, hil⟩, fun j hj => ?_⟩
    by_cases hji : j = i
    · subst hji; exact hy.qOpIn hi H
    · exfalso
      rcases Nat.lt_or_ge j m with h | h
      · have h1 := H.1 j h
        rw [getD_set_ne false (Ne.symm hji), (getD_iff.1 (mem_ready.1 hj).1).2] at h1
        cases h1
      · have := gate hn ht hd hN hj h i him
        rw [this] at hil
        cases hil
  | succ f ih =>
    intro listed a hd hN hfree hr hy H
    have hil := (getD_iff.1 (mem_ready.1 hr).1).2
    refine ⟨⟨i, him, hil⟩, fun j hj => ?_⟩
    by_cases hji : j = i
    · subst hji; exact hy.qOpIn hi H
    · have hjm : j < m := by
        rcases Nat.lt_or_ge j m with h | h
        · exact h
        · have := gate hn ht hd hN hj h i him
          rw [this] at hil
          cases hil
      have h1 := H.2 j (ready_mono hj hji)
      obtain ⟨hjun, oj, hoj, hall⟩ := mem_ready.1 hj
      have hnot : ∀ e ∈ oj.after, Region.binds .any e = true → e.on ≠ i := fun e he hb heq => by
        have h2 := hall e he hb
        rw [heq, hil] at h2
        cases h2
      have h2 := qOpIn_put hoj (hfree j oj hoj hji hjun hnot) (fun cs b => hsel i oi cs b hi) (fun cs b => hsel j oj cs b hoj) hy h1
      have hfree' : ∀ k ok, ops[k]? = some ok → k ≠ i → (listed.setIfInBounds j true).getD k true = false →
          (∀ e ∈ ok.after, Region.binds .any e = true → e.on ≠ i) → oi.apart ops ok = true := fun k ok hk hki hun hno => by
        refine hfree k ok hk hki ?_ hno
        by_cases hjk : j = k
        · subst hjk; exact hjun
        · rw [getD_set_ne true hjk] at hun; exact hun
      have hN' : ∀ k, m ≤ k → (listed.setIfInBounds j true).getD k false = false := fun k hk => by
        rw [getD_set_ne false (by omega)]; exact hN k hk
      refine qOpIn_mono (fun a' h3 => ih (listed.setIfInBounds j true) a' (hd.set hj) hN' hfree' (ready_mono hr (Ne.symm hji)) h3.1 ?_) h2
      rw [Array.setIfInBounds_comm _ _ hji]
      exact h3.2

theorem anyM_lex {m : Nat} {N : Act → Prop} (hn : needB ops m = true) (ht : tailB ops m = true) (hs : Region.noSelect ops = true) : ∀ (l : List Oper) (k : Nat) (listed : Array Bool) (a : Act), k + l.length = m → (∀ j, j < l.length → l[j]? = ops[k + j]?) →
    Dc ops listed → (∀ i, listed.getD i false = decide (i < k)) → lexM ops l.length k listed = true → wpQuietIn F n P ops C N l a → AnyM F n P ops C m N l.length listed a
  | [], k, listed, a, hk, _, _, hl, _, h => ⟨fun i hi => by rw [hl]; simp at hk; exact decide_eq_true (by omega), h⟩
  | o :: l, k, listed, a, hk, hlo, hd, hl, hB, h => by
    have h0 : ops[k]? = some o := by have := hlo 0 (by simp); simpa using this.symm
    simp only [List.length_cons, lexM, Bool.and_eq_true] at hB hk
    obtain ⟨⟨hr, hf⟩, hB'⟩ := hB
    have hr' : k ∈ Region.ready .any ops listed := by simpa using hr
    have hsz := (getD_iff.1 (mem_ready.1 hr').1).1
    have hst : qOpIn F n P ops C k (wpQuietIn F n P ops C N l) a := by unfold qOpIn; simp only [h0]; exact h
    obtain ⟨v, hy, hK⟩ := yieldsQuiet_of_qOpIn h0 hst
    refine anyM_first hn ht h0 (by omega) (Region.noSelect_spec hs) l.length listed a hd (fun i hi => by rw [hl]; exact decide_eq_false (by omega)) (Region.free_spec h0 hf) hr' hy ?_
    refine anyM_lex hn ht hs l (k + 1) _ _ (by omega) (fun j hj => ?_) (hd.set hr') (fun i => ?_) hB' hK
    · have := hlo (j + 1) (by simp; omega)
      simpa [Nat.add_assoc, Nat.add_comm 1 j] using this
    · rw [getD_set hsz, hl]
      by_cases hik : i = k
      · subst hik; simp
      · rw [if_neg hik]; congr 1; simp; omega

theorem arr_ext {x y : Array Bool} (hs : x.size = y.size) (h : ∀ i, x.getD i false = y.getD i false) : x = y := by
  refine Array.ext hs (fun i h1 h2 => ?_)
  have := h i
  simpa [Array.getD, h1, h2] using this
theorem upTo_getD {m : Nat} (hm : m ≤ ops.size) (i : Nat) : (upTo ops m).getD i false = decide (i < m) := by
  unfold upTo
  by_cases h : i < m
  · rw [decide_eq_true h]
    simp [Array.getD, h]
    omega
  · rw [decide_eq_false h]
    simp only [Array.getD, Array.size_append, Array.size_replicate]
    split
    · simp [Array.getElem_append, h]
    · rfl

theorem anyM_sound {m : Nat} {N : Act → Prop} {Q' : Exit → Act → World → Prop} (ha : aheadB ops = true) (hn : needB ops m = true) (ht : tailB ops m = true) (hm : m < ops.size) {r : Nat}
    (hN : ∀ a w, C w → N a → wpAnyIn F n P .any ops Q' r (upTo ops m) a w) : ∀ (f : Nat) (listed : Array Bool) (a : Act) (w : World), listed.size = ops.size → Dc ops listed → (∀ k, m ≤ k → listed.getD k false = false) → C w →
      AnyM F n P ops C m N f listed a → wpAnyIn F n P .any ops Q' (f + r) listed a w := by
  intro f
  induction f with
  | zero =>
    intro listed a w hsz hd hl hw h
    have e : listed = upTo ops m := arr_ext (by rw [hsz]; unfold upTo; simp; omega) (fun i => by
      rw [upTo_getD (by omega)]
      by_cases hi : i < m
      · rw [h.1 i hi, decide_eq_true hi]
      · rw [hl i (by omega), decide_eq_false hi])
    rw [e, Nat.zero_add]
    exact hN a w hw h.2
  | succ f ih =>
    intro listed a w hsz hd hl hw h
    obtain ⟨⟨i0, hi0, hl0⟩, h2⟩ := h
    have e : f + 1 + r = (f + r) + 1 := by omega
    rw [e]
    refine ⟨fun hr => absurd hr (some_ready ha hsz (by omega : i0 < ops.size) hl0), fun i hi => ?_⟩
    have him : i < m := by
      rcases Nat.lt_or_ge i m with h | h
      · exact h
      · have := gate hn ht hd hl hi h i0 hi0
        rw [this] at hl0
        cases hl0
    refine opIn_of_q hw (fun a' w' hw' hk => ih _ a' w' (by simpa using hsz) (hd.set hi) (fun k hk => ?_) hw' hk) (h2 i hi)
    rw [getD_set_ne false (by omega)]
    exact hl k hk

def gateB (ops : Array Oper) (m : Nat) : Bool := Region.noSelect ops && (aheadB ops && (needB ops m && (tailB ops m && (decide (m < ops.size) && (lexM ops m 0 (Array.replicate ops.size false) && ((Region.ready .any ops (upTo ops m) == [m]) && Region.lexFrom .any ops (ops.size - (m + 1)) (m + 1) ((upTo ops m).setIfInBounds m true)))))))

theorem region_gated {id : Nat} {Q : Exit → Act → World → Prop} {a : Act} {w : World} (m : Nat) {o : Oper} (ho : ops[m]? = some o) (hm : P.follows .mixedOrders = true) (hB : gateB ops m = true) (hC : C { w with drawn := w.drawn + 1 })
    (h : wpQuietIn F n P ops C (fun a1 => Region.wanted o (yielded ops a1.tmps) = true ∧ ∀ w1, C w1 → o.wpIn F n P a1 w1 (fun a2 w2 => wpQuietIn F n P ops (fun w' => w' = w2) (fun a3 => Q .normal a3 w2) (ops.toList.drop (m + 1)) a2) Q) (ops.toList.take m) a) :
    (Code.region id ops true).wpIn F n P Q a w := by
  unfold gateB at hB
  simp only [Bool.and_eq_true, decide_eq_true_eq, beq_iff_eq] at hB
  obtain ⟨b1, b2, b3, b4, b5, b6, b7, b8⟩ := hB
  have hlen : (ops.toList.take m).length = m := by simp; omega
  refine wpIn_region_any hm ?_
  have hsz : m + (ops.size - m) = ops.size := by omega
  rw [← hsz]
  have hdc : Dc ops (Array.replicate (m + (ops.size - m)) false) := fun i o _ hl => by
    exfalso
    by_cases hi : i < m + (ops.size - m) <;> simp [Array.getD, hi] at hl
  have hz : ∀ i, (Array.replicate (m + (ops.size - m)) false).getD i false = decide (i < 0) := fun i => by
    by_cases hi : i < m + (ops.size - m) <;> simp [Array.getD, hi]
  have key := anyM_lex (F := F) (n := n) (P := P) (C := C) b3 b4 b1 (ops.toList.take m) 0 (Array.replicate (m + (ops.size - m)) false) a (by omega) (fun j hj => by
    rw [hlen] at hj
    rw [List.getElem?_take_of_lt hj]; simp) hdc hz (by rw [hlen, hsz]; exact b6) h
  rw [hlen] at key
  refine anyM_sound (C := C) b2 b3 b4 b5 (r := ops.size - m) ?_ m _ a _ (by simp; omega) hdc (fun k _ => by rw [hz]; simp) hC key
  rintro a1 w1 hw1 ⟨hwant, hop⟩
  have e1 : ops.size - m = (ops.size - (m + 1)) + 1 := by omega
  rw [e1]
  refine ⟨fun hr => (by rw [b7] at hr; cases hr), fun i hi => ?_⟩
  rw [b7] at hi
  obtain rfl : i = m := by simpa using hi
  unfold wpOpIn
  simp only [ho, hwant, if_true]
  refine Oper.wpIn_mono (fun a2 w2 hq => ?_) (hop w1 hw1)
  have hq2 := wpAnyQIn_lex (F := F) (n := n) (P := P) (C := fun w' => w' = w2) (md := .any) b1 (ops.toList.drop (i + 1)) (i + 1) ((upTo ops i).setIfInBounds i true) a2 (fun j => by simp [List.getElem?_drop]) (by rw [List.length_drop, Array.length_toList]; exact b8) hq
  rw [List.length_drop, Array.length_toList] at hq2
  exact any_of_q (C := fun w' => w' = w2) (fun a3 w3 hw3 hh => by rw [hw3]; exact hh) _ _ _ _ rfl hq2
abbrev Rg (w : World) : World → Prop := fun w' => ∃ p : Regrown, w' = grow (redrawn w p.d) p.os
theorem rg_drawn (w : World) : Rg w { w with drawn := w.drawn + 1 } := ⟨⟨w.drawn + 1, #[]⟩, by rw [grow_empty]; rfl⟩
theorem region_quiet_rg {id : Nat} {Q : Exit → Act → World → Prop} {a : Act} {w : World} {l : List Oper} (hm : P.follows .mixedOrders = true) (hB : Region.lexB .any l.toArray = true)
    (h : wpQuietIn F n P l.toArray (Rg w) (fun a' => ∀ w', Rg w w' → Q .normal a' w') l a) : (Code.region id l.toArray true).wpIn F n P Q a w := region_quiet hm hB (rg_drawn w) h
theorem region_gated_rg {id : Nat} {Q : Exit → Act → World → Prop} {a : Act} {w : World} {l : List Oper} (m : Nat) {o : Oper} (ho : l[m]? = some o) (hm : P.follows .mixedOrders = true) (hB : gateB l.toArray m = true)
    (h : wpQuietIn F n P l.toArray (Rg w) (fun a1 => Region.wanted o (yielded l.toArray a1.tmps) = true ∧ ∀ w1, Rg w w1 → o.wpIn F n P a1 w1 (fun a2 w2 => wpQuietIn F n P l.toArray (fun w' => w' = w2) (fun a3 => Q .normal a3 w2) (l.drop (m + 1)) a2) Q) (l.take m) a) :
    (Code.region id l.toArray true).wpIn F n P Q a w := region_gated m (by simpa using ho) hm hB (rg_drawn w) h
theorem op_runs {o : Oper} {a : Act} {w w' : World} {v : Value} {K : Act → World → Prop} {Q : Exit → Act → World → Prop} {x : Next} (hd : ∀ c, o.op ≠ .defer c) (hc : ∀ c, o.op ≠ .call c)
    (hr : (execOp a.eval o).run P w = .ok x w') (hx : (x = .value v) ∨ (x = .skip ∧ v = undef)) (hK : K (a.put o.dst v) w') : o.wpIn F n P a w K Q := by
  refine ⟨?_, ?_⟩
  · intro f hf
    exfalso
    unfold Oper.about at hf
    split at hf
    · rename_i c hcc; exact hc _ hcc
    · cases hf
  rw [Oper.semAt_plain F _ _ hd, hr]
  rcases hx with rfl | ⟨rfl, rfl⟩
  · exact hK
  · exact hK
theorem op_yield {o : Oper} {a : Act} {w : World} {K : Act → World → Prop} {Q : Exit → Act → World → Prop} {l l' : Nat} {x f : Operand} {ts : Array TypeId} {R : Ending → World → Prop}
    (hop : o.op = .call { callee := .value f, args := #[x], argTypes := ts }) (hf : a.eval f = .func (.yield l) #[] #[]) (h : Yields P l #[a.eval x] w R)
    (hK : ∀ e w', R e w' → ∃ v, e = .returned v ∧ K (a.put o.dst v) w') : o.wpIn (Fence.wide.inRound l') n P a w K Q := by
  obtain ⟨fn, tmps, assign, body, hy, hR⟩ := h
  refine ⟨fun _ _ => trivial, ?_⟩
  rw [Oper.semAt_plain _ _ _ (fun c e => by rw [hop] at e; cases e)]
  have e1 : (execOp a.eval o).run P w = .ok (.round l fn tmps assign body) w := by
    simp [execOp, hop, resolve, invoke, hf, Deferred.ofValue, hy]
  rw [e1]
  refine ⟨fun hd => (by cases hd), (round_fw (r := none) (n := 0) (hR none 0)).mono ?_⟩
  intro e w' hr
  obtain ⟨v, rfl, hk⟩ := hK e w' hr
  exact hk
end
end Go.Proofs.YtnmmglkigiakaaaGreat
