/- A loop over an iterator whose values are known ahead: what an iterator owes, what a loop over it owes, at a function's own level and within another loop's round. An iterator may itself be made of loops over iterators. -/
import Derived.RangeFuncNested
import Derived.RangeFuncBound
import Derived.RangeFuncCalls
import Derived.RangeFuncLeaves
import Derived.Shelf.Abstract
import Derived.Shelf.RegionOpen
import Derived.WalkKit
import Derived.OwnWalkIn
import Derived.TacticsInMore
import Derived.LoopNIn
import Derived.LoopIn
import Derived.Below
import Derived.Deep.Heap
namespace Go.Proofs.YtnmmglkigiakaaaGreat
set_option maxRecDepth 100000
set_option maxHeartbeats 32000000
set_option linter.unusedVariables false
open Go.RowKit Go.Shelf
structure KeepsUp (B : Nat) (W W' : World) : Prop where
  size : W.heap.size ≤ W'.heap.size
  same : ∀ k, B ≤ k → k < W.heap.size → W'.heap[k]? = W.heap[k]?
theorem KeepsUp.refl (B : Nat) (W : World) : KeepsUp B W W := ⟨Nat.le_refl _, fun _ _ _ => rfl⟩
theorem KeepsUp.trans {B : Nat} {X Y Z : World} (h : KeepsUp B X Y) (k : KeepsUp B Y Z) : KeepsUp B X Z := ⟨Nat.le_trans h.size k.size, fun i hi hl => (k.same i hi (Nat.lt_of_lt_of_le hl h.size)).trans (h.same i hi hl)⟩
theorem KeepsUp.mono {B B' : Nat} {W W' : World} (h : KeepsUp B W W') (hb : B ≤ B') : KeepsUp B' W W' := ⟨h.size, fun k hk => h.same k (Nat.le_trans hb hk)⟩
theorem KeepsUp.grown {B : Nat} {W W' : World} {row : Option Nat} (hg : W.grownBy W' row) (hr : ∀ j, row = some j → j < B) : KeepsUp B W W' := ⟨hg.size, fun k hk hl => hg.block k hl (fun e => by have := hr k e.symm; omega)⟩
theorem KeepsUp.alloc (B : Nat) (W : World) (o : Obj) : KeepsUp B W (W.alloc o) := .grown (World.grownBy_alloc W o none) (fun j e => by cases e)
theorem KeepsUp.below {B : Nat} {W W' : World} (h : Below W.heap.size W W') : KeepsUp B W W' := ⟨h.size, fun k _ hl => h.block k hl⟩
theorem KeepsUp.block {B : Nat} {W W' : World} (h : KeepsUp B W W') {k : Nat} {o : Obj} (hk : B ≤ k) (ho : W.heap[k]? = some o) : W'.heap[k]? = some o := (h.same k hk (Array.getElem?_eq_some_iff.1 ho).1).trans ho
theorem KeepsUp.set {B : Nat} (W : World) {b : Nat} (o : Nat) (v : Value) (hb : b < B) : KeepsUp B W (W.setCell ⟨b, o, none⟩ v) := ⟨by simp, fun k hk hl => Deep.blk_setCell_other W ⟨b, o, none⟩ v k (by simp; omega)⟩
abbrev FW (r : Option Nat) : Fence := { Fence.wide with round := r }
theorem room_fw (r : Option Nat) (n : Nat) : (FW r).room n := fun _ h => by cases h
theorem round_fw {r r' : Option Nat} {n m : Nat} {P : Program} {l : Nat} {f : FuncId} {t : Array Value} {a b : Code} {w : World} {R : Ending → World → Prop} (h : RoundIn (FW r) n P l f t a b w R) : RoundIn (FW r') m P l f t a b w R :=
  ⟨trivial, fun c cs _ => h.2 c cs (room_fw _ _)⟩
def Yields (P : Program) (l : Nat) (args : Array Value) (W : World) (R : Ending → World → Prop) : Prop :=
  ∃ fn tmps assign body, (Instr.yield l args).run P W = .ok (.round l fn tmps assign body) W ∧ ∀ r n, RoundIn (FW r) n P l fn tmps assign body W R
theorem calls_fw {r : Option Nat} {n : Nat} {P : Program} {f : FuncId} {args : Array Value} {w : World} {R : Ending → World → Prop} (h : Calls P f args w R) : CallsIn (FW r) n P f args w R :=
  ⟨trivial, fun cs _ => (callsIn_wide (n := n).2 h).2 cs (room_wide _)⟩

def Gives {α : Type} (P : Program) (gf : Nat) (lb : Array Value) (encs : α → Array Value) (xs : List α) (G : World → Prop) (W0 : World) : Prop :=
  ∀ (l : Nat) (J Jx : List α → World → Prop) (W : World), W0.heap.size ≤ W.heap.size → (∀ pre W', J pre W' → G W') → OwnFrom W.heap.size J → OwnFrom W.heap.size Jx →
    (∀ pre x post W1, xs = pre ++ x :: post → J pre W1 → Yields P l (encs x) W1 fun e W' =>
      KeepsUp W.heap.size W1 W' ∧ ((e = .returned (.bool true) ∧ J (pre ++ [x]) W') ∨ (e = .returned (.bool false) ∧ Jx (pre ++ [x]) W'))) →
    J [] W → Calls P gf (#[.func (.yield l) #[] #[]] ++ lb) W fun e W' => (∃ v, e = .returned v) ∧ KeepsUp W.heap.size W W' ∧ (J xs W' ∨ ∃ pre, Jx pre W')

theorem keeps_end {W W' : World} {D : Nat} {o o' : Obj} (hD : W.heap.size ≤ D) (hK : W'.heap[D]? = some o) : KeepsUp W.heap.size W (W'.putObj D o') := by
  have := (Array.getElem?_eq_some_iff.1 hK).1
  exact ⟨by simp [World.putObj]; omega, fun k h1 h2 => by omega⟩
def RLeft {α : Type} (B : Nat) (I : List α → World → Prop) (Ix : Code → List α → World → Prop) (pre : List α) (W : World) : Exit → Act → World → Prop
  | .normal, _, W' => KeepsUp B W W' ∧ I pre W'
  | .ret, _, W' => KeepsUp B W W' ∧ Ix .ret pre W'
  | .exit id, _, W' => KeepsUp B W W' ∧ Ix (.exit id) pre W'
  | .goto t, _, W' => KeepsUp B W W' ∧ Ix (.goto t) pre W'
  | .panic _, _, _ => False
  | .outgrown, _, _ => False

variable {α : Type} {P : Program} {g : Operand} {ps : Array Tmp} {assign body : Code} {Q : Exit → Act → World → Prop} {a : Act} {w : World}

theorem keeps_put {B l : Nat} {W : World} (o : Obj) (h : l < B) : KeepsUp B W (W.putObj l o) := .grown (grownBy_putObj' W l o) (fun j e => by cases e; exact h)
theorem own_mono {β : Type} {B B' : Nat} {I : β → World → Prop} (h : OwnFrom B I) (hb : B ≤ B') : OwnFrom B' I := fun s W W' row hs hg hr => h s W W' row hs hg (fun r e => ⟨Nat.le_trans hb (hr r e).1, (hr r e).2⟩)
theorem keeps_mono {B B' : Nat} {W W' : World} (h : KeepsUp B W W') (hb : B ≤ B') : KeepsUp B' W W' := h.mono hb

theorem one_round {B l : Nat} {rec : LoopState → Option Code → Loop} (hst : ∀ s c, (rec s c).state = s ∧ (rec s c).pending = c)
    (hset : ∀ s c s' c', ({ rec s c with state := s', pending := c' } : Loop) = rec s' c') (hB : B ≤ l)
    {I : List α → World → Prop} {Ix : Code → List α → World → Prop} {A : Act → World → Prop} {pre' : List α} {tmps : Array Value} {r : Option Nat} {fn : FuncId} {m : Nat} {W : World}
    (hI : OwnFrom B I) (hIx : ∀ c, OwnFrom B (Ix c)) (hA : ∀ a', OwnFrom B (fun (_ : Unit) W => A a' W))
    (hl : W.heap[l]? = some (.loop (rec .ready none)))
    (hassign : assign.wpIn (FW (some l)) m P (Exit.then (fun a' W' => KeepsUp B W W' ∧ A a' W') (fun _ _ _ => False)) { tmps, defers := [] } W)
    (hbody : ∀ a' W', (∃ r, W'.heap[l]? = some (.loop r)) → A a' W' → body.wpIn (FW (some l)) m P (RLeft B I Ix pre' W') a' W') :
    RoundIn (FW r) m P l fn tmps assign body W fun e W' =>
      KeepsUp (l + 1) W W' ∧ (∀ D, B ≤ D → D ≠ l → D < W.heap.size → W'.heap[D]? = W.heap[D]?) ∧
      ((e = .returned (.bool true) ∧ I pre' W' ∧ W'.heap[l]? = some (.loop (rec .ready none))) ∨
       (e = .returned (.bool false) ∧ ∃ c, Ix c pre' W' ∧ W'.heap[l]? = some (.loop (rec .done (some c))))) := by
  refine round_fw (r := none) (n := m) (roundIn_of_wpIn trivial (wpIn_mono hassign ?_))
  rintro e a1 W1 h1
  cases e with
  | normal =>
    obtain ⟨k1, hA1⟩ := h1
    have hl1 := k1.block hB hl
    refine ⟨_, run_beginRound hl1 (hst _ _).1, ?_⟩
    have e2 : ({ rec .ready none with state := .busy } : Loop) = rec .busy none := by
      have := hset .ready none .busy none
      rw [← this]
      have h2 := (hst .ready none).2
      cases hr : rec .ready none
      rw [hr] at h2
      simp_all
    rw [e2]
    have hl2 : (W1.putObj l (.loop (rec .busy none))).heap[l]? = some (.loop (rec .busy none)) := World.putObj_heap_same (Array.getElem?_eq_some_iff.1 hl1).1
    refine wpIn_mono (hbody a1 _ ⟨_, hl2⟩ ((hA a1).putObj (s := ()) _ hA1 hB hl1 rfl)) ?_
    have fin : ∀ (jump : Option Code) (W3 : World), KeepsUp B (W1.putObj l (.loop (rec .busy none))) W3 →
        (Instr.endRound l jump).run P W3 = .ok (.bool jump.isNone) (W3.putObj l (.loop (rec (if jump.isNone then .ready else .done) jump))) ∧
        W3.heap[l]? = some (.loop (rec .busy none)) ∧
        (W3.putObj l (.loop (rec (if jump.isNone then .ready else .done) jump))).heap[l]? = some (.loop (rec (if jump.isNone then .ready else .done) jump)) ∧
        KeepsUp (l + 1) W (W3.putObj l (.loop (rec (if jump.isNone then .ready else .done) jump))) ∧
        (∀ D, B ≤ D → D ≠ l → D < W.heap.size → (W3.putObj l (.loop (rec (if jump.isNone then .ready else .done) jump))).heap[D]? = W.heap[D]?) := by
      intro jump W3 k3
      have hl3 := k3.block hB hl2
      have hend := run_endRound (P := P) jump hl3
      rw [hset] at hend
      refine ⟨hend, hl3, World.putObj_heap_same (Array.getElem?_eq_some_iff.1 hl3).1, ?_, ?_⟩
      · exact (((keeps_mono k1 (by omega)).trans (keeps_put _ (by omega))).trans (keeps_mono k3 (by omega))).trans (keeps_put _ (by omega))
      · intro D hD hne hlt
        have s1 := k1.same _ hD hlt
        have s2 : (W1.putObj l (.loop (rec .busy none))).heap[D]? = W.heap[D]? := (World.putObj_heap_other hne).trans s1
        have h3 : D < (W1.putObj l (.loop (rec .busy none))).heap.size := by have := k1.size; simp [World.putObj]; omega
        exact (World.putObj_heap_other hne).trans ((k3.same _ hD h3).trans s2)
    rintro e a3 W3 hp
    cases e with
    | normal =>
      obtain ⟨k3, hi3⟩ := hp
      obtain ⟨f1, f2, f3, f4, f5⟩ := fin none W3 k3
      exact ⟨_, _, f1, f4, f5, .inl ⟨rfl, hI.putObj _ hi3 hB f2 rfl, f3⟩⟩
    | ret =>
      obtain ⟨k3, hi3⟩ := hp
      obtain ⟨f1, f2, f3, f4, f5⟩ := fin (some .ret) W3 k3
      exact ⟨_, _, f1, f4, f5, .inr ⟨rfl, _, (hIx _).putObj _ hi3 hB f2 rfl, f3⟩⟩
    | exit id =>
      obtain ⟨k3, hi3⟩ := hp
      obtain ⟨f1, f2, f3, f4, f5⟩ := fin (some (.exit id)) W3 k3
      exact ⟨_, _, f1, f4, f5, .inr ⟨rfl, _, (hIx _).putObj _ hi3 hB f2 rfl, f3⟩⟩
    | goto t =>
      obtain ⟨k3, hi3⟩ := hp
      obtain ⟨f1, f2, f3, f4, f5⟩ := fin (some (.goto t)) W3 k3
      exact ⟨_, _, f1, f4, f5, .inr ⟨rfl, _, (hIx _).putObj _ hi3 hB f2 rfl, f3⟩⟩
    | panic ch => exact hp.elim
    | outgrown => exact hp.elim
  | exit id => exact h1.elim
  | goto t => exact h1.elim
  | ret => exact h1.elim
  | panic ch => exact h1.elim
  | outgrown => exact h1.elim

variable {gf : Nat} {lb : Array Value} {encs : α → Array Value} {xs : List α} {G : World → Prop} {W0 : World} {n : Nat}

theorem range_own (hseq : Gives P gf lb encs xs G W0) (h0w : W0.heap.size ≤ w.heap.size) (hg : a.eval g = .func (.func gf) #[] lb) (eg : ∀ args w, (callFunc gf args).run P w = .ok (.enter gf args) w) (hps : ∀ x, (encs x).size = ps.size)
    (I : List α → World → Prop) (Ix : Code → List α → World → Prop) (A : List α → α → Act → World → Prop) (hIG : ∀ pre W, I pre W → G W) (hI : OwnFrom w.heap.size I) (hIx : ∀ c, OwnFrom w.heap.size (Ix c))
    (hA : ∀ pre x a', OwnFrom w.heap.size (fun (_ : Unit) W => A pre x a' W)) (h0 : I [] w)
    (hassign : ∀ l pre x post W, xs = pre ++ x :: post → I pre W → assign.wpIn (Fence.wide.inRound l) n P (Exit.then (fun a' W' => KeepsUp w.heap.size W W' ∧ A pre x a' W') (fun _ _ _ => False)) { tmps := (ps.zip (encs x)).foldl (fun t (p, v) => t.setIfInBounds p v) a.tmps, defers := [] } W)
    (hbody : ∀ l pre x post a' W, xs = pre ++ x :: post → (∃ r, W.heap[l]? = some (.loop r)) → A pre x a' W → body.wpIn (Fence.wide.inRound l) n P (RLeft w.heap.size I Ix (pre ++ [x]) W) a' W)
    (hdone : ∀ D W, w.heap.size ≤ D → I xs W → W.heap[D]? = some (.deferred (some [])) → Q .normal { a with defers := { target := .collected D, args := #[] } :: a.defers } W)
    (hstop : ∀ D c pre W, w.heap.size ≤ D → Ix c pre W → W.heap[D]? = some (.deferred (some [])) → c.wpIn Fence.wide n P Q { a with defers := { target := .collected D, args := #[] } :: a.defers } W) :
    (Code.rangeFunc g ps assign body).wpIn Fence.wide n P Q a w := by
  refine wpIn_rangeFunc ?_
  intro fn _
  obtain ⟨rec, hrec⟩ : ∃ rec : LoopState → Option Code → Loop, rec = fun st pe => { state := st, pending := pe, fn, tmps := a.tmps, params := ps, assign, body, defers := w.heap.size } := ⟨_, rfl⟩
  obtain ⟨W1, hW1⟩ : ∃ W1, (w.alloc (.deferred (some []))).alloc (.loop (rec .ready none)) = W1 := ⟨_, rfl⟩
  have hz : W1.heap.size = w.heap.size + 1 + 1 := by rw [← hW1]; simp
  have hL1 : W1.heap[w.heap.size + 1]? = some (.loop (rec .ready none)) := by
    rw [← hW1]; have := World.alloc_heap_new (w.alloc (.deferred (some []))) (.loop (rec .ready none)); rwa [World.size_alloc] at this
  have hK1 : W1.heap[w.heap.size]? = some (.deferred (some [])) := by
    rw [← hW1]; exact (Below.heap_alloc _ _ _ (by simp)).trans (World.alloc_heap_new w _)
  have hI1 : I [] W1 := by rw [← hW1]; exact hI.alloc _ (hI.alloc _ h0)
  refine ⟨w.heap.size + 1, [{ target := .collected w.heap.size, args := #[] }], W1, { target := .fn (.func gf) lb, args := #[.func (.yield (w.heap.size + 1)) #[] #[]] }, W1, gf,
    #[.func (.yield (w.heap.size + 1)) #[] #[]] ++ lb, W1, ?_, ?_, fun _ _ => trivial, ?_, (fun h => (by cases h)), ?_⟩
  · rw [← hW1, hrec]; exact run_enterLoop_outer _ _ _ _ _
  · simp only [resolve, hg]
    simp [go_sem]
  · simp [invoke, go_sem, eg]
  have hst : ∀ s c, (rec s c).state = s ∧ (rec s c).pending = c := fun s c => by rw [hrec]; exact ⟨rfl, rfl⟩
  have hset : ∀ s c s' c', ({ rec s c with state := s', pending := c' } : Loop) = rec s' c' := fun s c s' c' => by rw [hrec]
  have hfm : ∀ {β : Type} {K : β → World → Prop}, OwnFrom w.heap.size K → OwnFrom W1.heap.size K := fun h => own_mono h (by omega)
  have hown : ∀ (o : Obj) (k : Nat), k < W1.heap.size → OwnFrom W1.heap.size (fun (_ : List α) W => W.heap[k]? = some o) := fun o k hk s X Y row hs hg' hr =>
    (hg'.block k (Array.getElem?_eq_some_iff.1 hs).1 (fun e => by have := (hr k e.symm).1; omega)).trans hs
  refine calls_fw ((hseq (w.heap.size + 1)
    (fun pre W => I pre W ∧ W.heap[w.heap.size + 1]? = some (.loop (rec .ready none)) ∧ W.heap[w.heap.size]? = some (.deferred (some [])))
    (fun pre W => ∃ c, Ix c pre W ∧ W.heap[w.heap.size + 1]? = some (.loop (rec .done (some c))) ∧ W.heap[w.heap.size]? = some (.deferred (some [])))
    W1 (by omega) (fun pre W h => hIG pre W h.1)
    (OwnFrom.and (hfm hI) (OwnFrom.and (hown _ _ (by omega)) (hown _ _ (by omega))))
    (fun s X Y row hs hg' hr => by
      obtain ⟨c, hc, h2, h3⟩ := hs
      exact ⟨c, hfm (hIx c) s X Y row hc hg' hr, hown _ _ (by omega) s X Y row h2 hg' hr, hown _ _ (by omega) s X Y row h3 hg' hr⟩)
    ?_ ⟨hI1, hL1, hK1⟩).mono ?_)
  · rintro pre x post W hx ⟨hi, hl, hk⟩
    have hy := run_yield (P := P) (args := encs x) hl (by rw [hrec]; exact hps x)
    refine ⟨fn, _, assign, body, by rw [hrec] at hy; exact hy, fun r m => round_fw (r := r) (n := n) (m := m) ((one_round (r := r) hst hset (Nat.le_succ _) hI hIx (hA pre x) hl (hassign _ pre x post W hx hi) (fun a' W' hl' ha' => hbody _ pre x post a' W' hx hl' ha')).mono ?_)⟩
    rintro e W' ⟨k1, k2, h⟩
    refine ⟨keeps_mono k1 (by omega), ?_⟩
    have hk' := (k2 _ (Nat.le_refl _) (by omega) (Array.getElem?_eq_some_iff.1 hk).1).trans hk
    rcases h with ⟨rfl, h1, h2⟩ | ⟨rfl, c, h1, h2⟩
    · exact .inl ⟨rfl, h1, h2, hk'⟩
    · exact .inr ⟨rfl, c, h1, h2, hk'⟩
  · rintro e W2 ⟨⟨v, rfl⟩, _, (⟨hi, hl, hk⟩ | ⟨pre, c, hi, hl, hk⟩)⟩
    · exact ⟨none, _, by have := run_endLoop (P := P) hl (by rw [(hst _ _).1]; simp); rw [(hst _ _).2] at this; exact this, hdone _ _ (Nat.le_refl _) (hI.putObj _ hi (by omega) hl rfl) ((World.putObj_heap_other (by omega)).trans hk)⟩
    · exact ⟨some c, _, by have := run_endLoop (P := P) hl (by rw [(hst _ _).1]; simp); rw [(hst _ _).2] at this; exact this, hstop _ c pre _ (Nat.le_refl _) ((hIx c).putObj _ hi (by omega) hl rfl) ((World.putObj_heap_other (by omega)).trans hk)⟩

end Go.Proofs.YtnmmglkigiakaaaGreat
