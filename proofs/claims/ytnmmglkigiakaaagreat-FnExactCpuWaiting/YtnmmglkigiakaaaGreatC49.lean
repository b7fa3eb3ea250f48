/- A loop over an iterator whose body writes to rows made within the loop. The program: the iterator over the tasks in line on a processor. -/
import Derived.Test.YtnmmglkigiakaaaGreatC17
import Derived.Test.YtnmmglkigiakaaaGreatC24
import Derived.OwnWalkIn
import Derived.Test.YtnmmglkigiakaaaGreatC47
namespace Go.Proofs.YtnmmglkigiakaaaGreat
set_option linter.unusedVariables false
set_option linter.unusedSimpArgs false
open Go.ChangeShapes Go.WideShapes Go.ChangeAt Go.RowKit Go.Shelf
attribute [local go_sem] Oper.semAt_some
namespace NC
structure KeepsUp (B : Nat) (W W' : World) : Prop where
  size : W.heap.size ≤ W'.heap.size
  same : ∀ k o, B ≤ k → W.heap[k]? = some o → o.isCells = false → W'.heap[k]? = some o
theorem KeepsUp.refl (B : Nat) (W : World) : KeepsUp B W W := ⟨Nat.le_refl _, fun _ _ _ h _ => h⟩
theorem KeepsUp.trans {B : Nat} {X Y Z : World} (h : KeepsUp B X Y) (k : KeepsUp B Y Z) : KeepsUp B X Z := ⟨Nat.le_trans h.size k.size, fun i o hi hl hc => k.same i o hi (h.same i o hi hl hc) hc⟩
theorem KeepsUp.mono {B B' : Nat} {W W' : World} (h : KeepsUp B W W') (hb : B ≤ B') : KeepsUp B' W W' := ⟨h.size, fun k o hk => h.same k o (Nat.le_trans hb hk)⟩
theorem KeepsUp.row {B : Nat} {W W' : World} {row : Option Nat} (hg : W.grownBy W' row) (hr : ∀ j, row = some j → j < B ∨ ∃ o : Obj, W.heap[j]? = some o ∧ o.isCells = true) : KeepsUp B W W' :=
  ⟨hg.size, fun k o hk ho hc => (hg.block k (Array.getElem?_eq_some_iff.1 ho).1 (fun e => by
    rcases hr k e.symm with h | ⟨o', h1, h2⟩
    · omega
    · rw [ho] at h1; cases h1; rw [hc] at h2; cases h2)).trans ho⟩
theorem KeepsUp.grown {B : Nat} {W W' : World} {row : Option Nat} (hg : W.grownBy W' row) (hr : ∀ j, row = some j → j < B) : KeepsUp B W W' := .row hg (fun j e => .inl (hr j e))
theorem KeepsUp.alloc (B : Nat) (W : World) (o : Obj) : KeepsUp B W (W.alloc o) := .grown (World.grownBy_alloc W o none) (fun j e => by cases e)
theorem KeepsUp.below {B : Nat} {W W' : World} (h : Below W.heap.size W W') : KeepsUp B W W' := ⟨h.size, fun k o _ ho _ => (h.block k (Array.getElem?_eq_some_iff.1 ho).1).trans ho⟩
theorem KeepsUp.block {B : Nat} {W W' : World} (h : KeepsUp B W W') {k : Nat} {o : Obj} (hk : B ≤ k) (ho : W.heap[k]? = some o) (hc : o.isCells = false) : W'.heap[k]? = some o := h.same k o hk ho hc
theorem KeepsUp.set {B : Nat} (W : World) {b : Nat} (o : Nat) (v : Value) (hb : b < B) : KeepsUp B W (W.setCell ⟨b, o, none⟩ v) := ⟨by simp, fun k x hk hl hc => (Deep.blk_setCell_other W ⟨b, o, none⟩ v k (by simp; omega)).trans hl⟩
/-- an iterator hands on xs, one behind the other, as long as G holds of memory. -/
def Gives {α : Type} (P : Program) (gf : Nat) (lb : Array Value) (encs : α → Array Value) (xs : List α) (G : World → Prop) (W0 : World) : Prop :=
  ∀ (l : Nat) (J Jx : List α → World → Prop) (W : World), W0.heap.size ≤ W.heap.size → (∀ pre W', J pre W' → G W') → OwnFrom W.heap.size J → OwnFrom W.heap.size Jx →
    (∀ pre x post W1, xs = pre ++ x :: post → J pre W1 → Yields P l (encs x) W1 fun e W' =>
      KeepsUp W.heap.size W1 W' ∧ ((e = .returned (.bool true) ∧ J (pre ++ [x]) W') ∨ (e = .returned (.bool false) ∧ Jx (pre ++ [x]) W'))) →
    J [] W → Calls P gf (#[.func (.yield l) #[] #[]] ++ lb) W fun e W' => (∃ v, e = .returned v) ∧ KeepsUp W.heap.size W W' ∧ (J xs W' ∨ ∃ pre, Jx pre W')

/-- how a round's body may be left. -/
def RLeft {α : Type} (B : Nat) (I : List α → World → Prop) (Ix : Code → List α → World → Prop) (pre : List α) (W : World) : Exit → Act → World → Prop
  | .normal, _, W' => KeepsUp B W W' ∧ I pre W'
  | .ret, _, W' => KeepsUp B W W' ∧ Ix .ret pre W'
  | .exit id, _, W' => KeepsUp B W W' ∧ Ix (.exit id) pre W'
  | .goto t, _, W' => KeepsUp B W W' ∧ Ix (.goto t) pre W'
  | .panic _, _, _ => False
  | .outgrown, _, _ => False

variable {α : Type} {P : Program} {g : Operand} {ps : Array Tmp} {assign body : Code} {Q : Exit → Act → World → Prop} {a : Act} {w : World}

theorem keeps_put {B l : Nat} {W : World} (o : Obj) (h : l < B) : KeepsUp B W (W.putObj l o) := .grown (grownBy_putObj' W l o) (fun j e => by cases e; exact h)
theorem keeps_mono {B B' : Nat} {W W' : World} (h : KeepsUp B W W') (hb : B ≤ B') : KeepsUp B' W W' := h.mono hb

/-- one round, over whatever record l and whatever more (X) the law holds beside the caller's invariant. -/
theorem one_round {B l : Nat} {rec : LoopState → Option Code → Loop} (hst : ∀ s c, (rec s c).state = s ∧ (rec s c).pending = c)
    (hset : ∀ s c s' c', ({ rec s c with state := s', pending := c' } : Loop) = rec s' c') (hB : B ≤ l)
    {I : List α → World → Prop} {Ix : Code → List α → World → Prop} {A : Act → World → Prop} {pre' : List α} {tmps : Array Value} {r : Option Nat} {fn : FuncId} {m : Nat} {W : World}
    (hI : OwnFrom B I) (hIx : ∀ c, OwnFrom B (Ix c)) (hA : ∀ a', OwnFrom B (fun (_ : Unit) W => A a' W))
    (hl : W.heap[l]? = some (.loop (rec .ready none)))
    (hassign : assign.wpIn (FW (some l)) m P (Exit.then (fun a' W' => KeepsUp B W W' ∧ A a' W') (fun _ _ _ => False)) { tmps, defers := [] } W)
    (hbody : ∀ a' W', (∃ r, W'.heap[l]? = some (.loop r)) → A a' W' → body.wpIn (FW (some l)) m P (RLeft B I Ix pre' W') a' W') :
    RoundIn (FW r) m P l fn tmps assign body W fun e W' =>
      KeepsUp (l + 1) W W' ∧ (∀ D o, B ≤ D → D ≠ l → W.heap[D]? = some o → o.isCells = false → W'.heap[D]? = some o) ∧
      ((e = .returned (.bool true) ∧ I pre' W' ∧ W'.heap[l]? = some (.loop (rec .ready none))) ∨
       (e = .returned (.bool false) ∧ ∃ c, Ix c pre' W' ∧ W'.heap[l]? = some (.loop (rec .done (some c))))) := by
  refine round_fw (r := none) (n := m) (roundIn_of_wpIn trivial (wpIn_mono hassign ?_))
  rintro e a1 W1 h1
  cases e with
  | normal =>
    obtain ⟨k1, hA1⟩ := h1
    have hl1 := k1.block hB hl rfl
    refine ⟨_, run_beginRound hl1 (hst _ _).1, ?_⟩
    have e2 : ({ rec .ready none with state := .busy } : Loop) = rec .busy none := by
      have := hset .ready none .busy none
      rw [← this]
      have h2 := (hst .ready none).2
      cases hr : rec .ready none
      rw [hr] at h2
      simp_all
    rw [e2]
    have hl2 : (W1.putObj l (.loop (rec .busy none))).heap[l]? = some (.loop (rec .busy none)) := World.putObj_heap_same (Array.getElem?_eq_some_iff.1 hl1).1
    refine wpIn_mono (hbody a1 _ ⟨_, hl2⟩ ((hA a1).putObj (s := ()) _ hA1 hB hl1 rfl)) ?_
    have fin : ∀ (jump : Option Code) (W3 : World), KeepsUp B (W1.putObj l (.loop (rec .busy none))) W3 →
        (Instr.endRound l jump).run P W3 = .ok (.bool jump.isNone) (W3.putObj l (.loop (rec (if jump.isNone then .ready else .done) jump))) ∧
        W3.heap[l]? = some (.loop (rec .busy none)) ∧
        (W3.putObj l (.loop (rec (if jump.isNone then .ready else .done) jump))).heap[l]? = some (.loop (rec (if jump.isNone then .ready else .done) jump)) ∧
        KeepsUp (l + 1) W (W3.putObj l (.loop (rec (if jump.isNone then .ready else .done) jump))) ∧
        (∀ D o, B ≤ D → D ≠ l → W.heap[D]? = some o → o.isCells = false → (W3.putObj l (.loop (rec (if jump.isNone then .ready else .done) jump))).heap[D]? = some o) := by
      intro jump W3 k3
      have hl3 := k3.block hB hl2 rfl
      have hend := run_endRound (P := P) jump hl3
      rw [hset] at hend
      refine ⟨hend, hl3, World.putObj_heap_same (Array.getElem?_eq_some_iff.1 hl3).1, ?_, ?_⟩
      · exact (((keeps_mono k1 (by omega)).trans (keeps_put _ (by omega))).trans (keeps_mono k3 (by omega))).trans (keeps_put _ (by omega))
      · intro D o hD hne hlt hc
        have s1 := k1.same _ _ hD hlt hc
        have s2 : (W1.putObj l (.loop (rec .busy none))).heap[D]? = some o := (World.putObj_heap_other hne).trans s1
        exact (World.putObj_heap_other hne).trans (k3.same _ _ hD s2 hc)
    rintro e a3 W3 hp
    cases e with
    | normal =>
      obtain ⟨k3, hi3⟩ := hp
      obtain ⟨f1, f2, f3, f4, f5⟩ := fin none W3 k3
      exact ⟨_, _, f1, f4, f5, .inl ⟨rfl, hI.putObj _ hi3 hB f2 rfl, f3⟩⟩
    | ret =>
      obtain ⟨k3, hi3⟩ := hp
      obtain ⟨f1, f2, f3, f4, f5⟩ := fin (some .ret) W3 k3
      exact ⟨_, _, f1, f4, f5, .inr ⟨rfl, _, (hIx _).putObj _ hi3 hB f2 rfl, f3⟩⟩
    | exit id =>
      obtain ⟨k3, hi3⟩ := hp
      obtain ⟨f1, f2, f3, f4, f5⟩ := fin (some (.exit id)) W3 k3
      exact ⟨_, _, f1, f4, f5, .inr ⟨rfl, _, (hIx _).putObj _ hi3 hB f2 rfl, f3⟩⟩
    | goto t =>
      obtain ⟨k3, hi3⟩ := hp
      obtain ⟨f1, f2, f3, f4, f5⟩ := fin (some (.goto t)) W3 k3
      exact ⟨_, _, f1, f4, f5, .inr ⟨rfl, _, (hIx _).putObj _ hi3 hB f2 rfl, f3⟩⟩
    | panic ch => exact hp.elim
    | outgrown => exact hp.elim
  | exit id => exact h1.elim
  | goto t => exact h1.elim
  | ret => exact h1.elim
  | panic ch => exact h1.elim
  | outgrown => exact h1.elim

variable {gf : Nat} {lb : Array Value} {encs : α → Array Value} {xs : List α} {G : World → Prop} {W0 : World} {n : Nat}

/-- a loop over an iterator, at a function's own level. -/
theorem range_own (hseq : Gives P gf lb encs xs G W0) (h0w : W0.heap.size ≤ w.heap.size) (hg : a.eval g = .func (.func gf) #[] lb) (eg : ∀ args w, (callFunc gf args).run P w = .ok (.enter gf args) w) (hps : ∀ x, (encs x).size = ps.size)
    (I : List α → World → Prop) (Ix : Code → List α → World → Prop) (A : List α → α → Act → World → Prop) (hIG : ∀ pre W, I pre W → G W) (hI : OwnFrom w.heap.size I) (hIx : ∀ c, OwnFrom w.heap.size (Ix c))
    (hA : ∀ pre x a', OwnFrom w.heap.size (fun (_ : Unit) W => A pre x a' W)) (h0 : I [] w)
    (hassign : ∀ l pre x post W, xs = pre ++ x :: post → I pre W → assign.wpIn (Fence.wide.inRound l) n P (Exit.then (fun a' W' => KeepsUp w.heap.size W W' ∧ A pre x a' W') (fun _ _ _ => False)) { tmps := (ps.zip (encs x)).foldl (fun t (p, v) => t.setIfInBounds p v) a.tmps, defers := [] } W)
    (hbody : ∀ l pre x post a' W, xs = pre ++ x :: post → (∃ r, W.heap[l]? = some (.loop r)) → A pre x a' W → body.wpIn (Fence.wide.inRound l) n P (RLeft w.heap.size I Ix (pre ++ [x]) W) a' W)
    (hdone : ∀ D W, w.heap.size ≤ D → I xs W → W.heap[D]? = some (.deferred (some [])) → Q .normal { a with defers := { target := .collected D, args := #[] } :: a.defers } W)
    (hstop : ∀ D c pre W, w.heap.size ≤ D → Ix c pre W → W.heap[D]? = some (.deferred (some [])) → c.wpIn Fence.wide n P Q { a with defers := { target := .collected D, args := #[] } :: a.defers } W) :
    (Code.rangeFunc g ps assign body).wpIn Fence.wide n P Q a w := by
  refine wpIn_rangeFunc ?_
  intro fn _
  obtain ⟨rec, hrec⟩ : ∃ rec : LoopState → Option Code → Loop, rec = fun st pe => { state := st, pending := pe, fn, tmps := a.tmps, params := ps, assign, body, defers := w.heap.size } := ⟨_, rfl⟩
  obtain ⟨W1, hW1⟩ : ∃ W1, (w.alloc (.deferred (some []))).alloc (.loop (rec .ready none)) = W1 := ⟨_, rfl⟩
  have hz : W1.heap.size = w.heap.size + 1 + 1 := by rw [← hW1]; simp
  have hL1 : W1.heap[w.heap.size + 1]? = some (.loop (rec .ready none)) := by
    rw [← hW1]; have := World.alloc_heap_new (w.alloc (.deferred (some []))) (.loop (rec .ready none)); rwa [World.size_alloc] at this
  have hK1 : W1.heap[w.heap.size]? = some (.deferred (some [])) := by
    rw [← hW1]; exact (Below.heap_alloc _ _ _ (by simp)).trans (World.alloc_heap_new w _)
  have hI1 : I [] W1 := by rw [← hW1]; exact hI.alloc _ (hI.alloc _ h0)
  refine ⟨w.heap.size + 1, [{ target := .collected w.heap.size, args := #[] }], W1, { target := .fn (.func gf) lb, args := #[.func (.yield (w.heap.size + 1)) #[] #[]] }, W1, gf,
    #[.func (.yield (w.heap.size + 1)) #[] #[]] ++ lb, W1, ?_, ?_, fun _ _ => trivial, ?_, (fun h => (by cases h)), ?_⟩
  · rw [← hW1, hrec]; exact run_enterLoop_outer _ _ _ _ _
  · simp only [resolve, hg]
    simp [go_sem]
  · simp [invoke, go_sem, eg]
  have hst : ∀ s c, (rec s c).state = s ∧ (rec s c).pending = c := fun s c => by rw [hrec]; exact ⟨rfl, rfl⟩
  have hset : ∀ s c s' c', ({ rec s c with state := s', pending := c' } : Loop) = rec s' c' := fun s c s' c' => by rw [hrec]
  have hfm : ∀ {β : Type} {K : β → World → Prop}, OwnFrom w.heap.size K → OwnFrom W1.heap.size K := fun h => own_mono h (by omega)
  have hown : ∀ (o : Obj) (k : Nat), k < W1.heap.size → OwnFrom W1.heap.size (fun (_ : List α) W => W.heap[k]? = some o) := fun o k hk s X Y row hs hg' hr =>
    (hg'.block k (Array.getElem?_eq_some_iff.1 hs).1 (fun e => by have := (hr k e.symm).1; omega)).trans hs
  refine calls_fw ((hseq (w.heap.size + 1)
    (fun pre W => I pre W ∧ W.heap[w.heap.size + 1]? = some (.loop (rec .ready none)) ∧ W.heap[w.heap.size]? = some (.deferred (some [])))
    (fun pre W => ∃ c, Ix c pre W ∧ W.heap[w.heap.size + 1]? = some (.loop (rec .done (some c))) ∧ W.heap[w.heap.size]? = some (.deferred (some [])))
    W1 (by omega) (fun pre W h => hIG pre W h.1)
    (OwnFrom.and (hfm hI) (OwnFrom.and (hown _ _ (by omega)) (hown _ _ (by omega))))
    (fun s X Y row hs hg' hr => by
      obtain ⟨c, hc, h2, h3⟩ := hs
      exact ⟨c, hfm (hIx c) s X Y row hc hg' hr, hown _ _ (by omega) s X Y row h2 hg' hr, hown _ _ (by omega) s X Y row h3 hg' hr⟩)
    ?_ ⟨hI1, hL1, hK1⟩).mono ?_)
  · rintro pre x post W hx ⟨hi, hl, hk⟩
    have hy := run_yield (P := P) (args := encs x) hl (by rw [hrec]; exact hps x)
    refine ⟨fn, _, assign, body, by rw [hrec] at hy; exact hy, fun r m => round_fw (r := r) (n := n) (m := m) ((one_round (r := r) hst hset (Nat.le_succ _) hI hIx (hA pre x) hl (hassign _ pre x post W hx hi) (fun a' W' hl' ha' => hbody _ pre x post a' W' hx hl' ha')).mono ?_)⟩
    rintro e W' ⟨k1, k2, h⟩
    refine ⟨keeps_mono k1 (by omega), ?_⟩
    have hk' := k2 _ _ (Nat.le_refl _) (by omega) hk rfl
    rcases h with ⟨rfl, h1, h2⟩ | ⟨rfl, c, h1, h2⟩
    · exact .inl ⟨rfl, h1, h2, hk'⟩
    · exact .inr ⟨rfl, c, h1, h2, hk'⟩
  · rintro e W2 ⟨⟨v, rfl⟩, _, (⟨hi, hl, hk⟩ | ⟨pre, c, hi, hl, hk⟩)⟩
    · exact ⟨none, _, by have := run_endLoop (P := P) hl (by rw [(hst _ _).1]; simp); rw [(hst _ _).2] at this; exact this, hdone _ _ (Nat.le_refl _) (hI.putObj _ hi (by omega) hl rfl) ((World.putObj_heap_other (by omega)).trans hk)⟩
    · exact ⟨some c, _, by have := run_endLoop (P := P) hl (by rw [(hst _ _).1]; simp); rw [(hst _ _).2] at this; exact this, hstop _ c pre _ (Nat.le_refl _) ((hIx c).putObj _ hi (by omega) hl rfl) ((World.putObj_heap_other (by omega)).trans hk)⟩

set_option maxRecDepth 100000 in
set_option maxHeartbeats 4000000 in
theorem inner_gives (pw bw : Nat) (z : Value) (ds : List Gr) (G : World → Prop) (W0 : World)
    (hG : ∀ W, G W → W.cell? ⟨bw, 0, none⟩ = some (.pointer (some ⟨pw, 0, none⟩)) ∧ GroupsAt W pw z ds) :
    Gives Tryz.prog 177 #[.pointer (some ⟨bw, 0, none⟩)] encN (inners ds) G W0 := by
  intro l J Jx W hW hJG hJ hJx hY h0
  refine (callsIn_wide (n := 9)).1 ?_
  refine callsIn_of_wp Tryz.func177 rfl trivial ?_ rfl
  simp only [Tryz.ntmps177, List.size_toArray, List.length_cons, List.length_nil, Nat.reduceAdd, Nat.reduceSub, Array.replicate_succ, Array.replicate_zero, List.push_toArray, List.append_toArray, List.nil_append, List.cons_append]
  obtain ⟨c1, c2⟩ := hG _ (hJG _ _ h0)
  have HJ := KeepsUp.refl W.heap.size W
  obtain ⟨c3, p, cap, rfl, hlen, _⟩ := groups_read c2
  have HG : Hid (∀ wr pre, J pre wr → ∀ k, k < ds.length → ∃ g o, p = some ⟨g, o, none⟩ ∧ ∃ e : Gv, e.d.us = usAt ds k ∧ (∀ j v, (gvC e)[j]? = some v → wr.cell? ⟨g, o + k * 14 + j, none⟩ = some v) ∧ (∃ p l c, e.x = .slice p l c) ∧ (∃ p l c, e.y = .slice p l c) ∧ (∃ p l c, e.z = .slice p l c)) := by
    intro wr pre hj k hk
    obtain ⟨_, p', cap', e1, _, h3⟩ := groups_read (hG _ (hJG _ _ hj)).2
    simp only [Value.slice.injEq] at e1
    obtain ⟨rfl, _, _⟩ := e1
    obtain ⟨g, o, h4, e, h5, _, h6, h7⟩ := h3 k hk
    exact ⟨g, o, h4, e, h5, h6, h7⟩
  clear c2
  gi_wp2
  clear c3
  gi_loopw [10] (fun t wr => ∃ k : Nat, k ≤ ds.length ∧ t = .int .i64 (k : Int) ∧ J (innerTo ds k) wr ∧ KeepsUp W.heap.size W wr)
    (fun t _ => ds.length - (intOf t).toNat)
  case atStart => exact ⟨0, by omega, rfl, h0, HJ⟩
  case round =>
    obtain ⟨k, hk, rfl, hJs, hkf⟩ := hrel
    by_cases hlt : k < ds.length
    · have hlt' : (k : Int) < (ds.length : Int) := by omega
      obtain ⟨g, o, hp, e, e1, hc, ⟨q1, l1, k1, f1⟩, ⟨q2, l2, k2, f2⟩, ⟨q3, l3, k3, f3⟩⟩ := HG.out _ _ hJs k hlt
      subst hp
      obtain ⟨x0, x1, x2, x3, x4, x5, x6, x7, x8, x9, x10, x11, x12, x13⟩ := gv_cells (W := wr) (g := g) (o := o + k * 14) (e := e) hc
      rw [e1] at x0
      rw [f1] at x11
      rw [f2] at x12
      rw [f3] at x13
      clear hc f1 f2 f3 e1
      have hsucc := innerTo_succ ds k
      cases hu : usAt ds k
      · rw [hu] at x0
        rw [hu] at hsucc
        simp only [Bool.false_and, if_neg Bool.false_ne_true, List.append_nil] at hsucc
        have HS : Hid (innerTo ds (k + 1) = innerTo ds k) := hsucc
        clear hsucc
        gi_wp2
        refine ⟨fun _ h => (by cases h), ?_⟩
        gi_wp2
        go_roundw
        case rel => exact ⟨k + 1, by omega, by go_num, by rw [HS.out]; exact hJ.alloc _ hJs, hkf.trans (KeepsUp.alloc _ _ _)⟩
        case measure => simp [intOf]; omega
      · by_cases h0 : k = 0
        · rw [hu] at x0
          rw [if_neg (by simp [h0]), List.append_nil] at hsucc
          subst h0
          have HS : Hid (innerTo ds (0 + 1) = innerTo ds 0) := hsucc
          simp only [Nat.zero_mul, Nat.add_zero] at x0 x1 x2 x3 x4 x5 x6 x7 x8 x9 x10 x11 x12 x13
          clear hsucc
          gi_wp2
          refine ⟨fun _ h => (by cases h), ?_⟩
          gi_wp2
          go_roundw
          case rel => exact ⟨0 + 1, by omega, rfl, by rw [HS.out]; exact hJ.alloc _ hJs, hkf.trans (KeepsUp.alloc _ _ _)⟩
          case measure => simp [intOf]; omega
        · rw [hu] at x0
          have hk0 : ¬ (k : Int) = 0 := by omega
          rw [if_pos (by simp [hu, h0])] at hsucc
          obtain ⟨post, hpost⟩ := innerTo_pre ds (k := k + 1) (n := ds.length) (by omega)
          rw [hsucc, List.append_assoc] at hpost
          obtain ⟨fn, tmps, assign, body, hy, hR⟩ := hY (innerTo ds k) k post (wr.alloc (.cells #[.bool true, .int .i64 e.d.pa, .string e.d.na, .int .i64 e.d.we, .int .i64 e.d.cp, .int .i64 e.d.pe, .int .i64 e.d.ne, .int .i64 e.d.su, .int .i64 e.d.ba.qu, .int .i64 e.d.ba.po, .int .i64 e.d.ba.sp, .slice q1 l1 k1, .slice q2 l2 k2, .slice q3 l3 k3] 84)) hpost (hJ.alloc _ hJs)
          have hR := hR none 8
          unfold encN at hy
          gi_wp2
          refine hR.mono ?_
          rintro e' W3 ⟨hk3, (⟨rfl, hJ3⟩ | ⟨rfl, hJx3⟩)⟩
          · gi_wp2
            go_roundw
            case rel => exact ⟨k + 1, by omega, by go_num, by rw [hsucc]; exact hJ3, (hkf.trans (KeepsUp.alloc _ _ _)).trans hk3⟩
            case measure => simp [intOf]; omega
          · gi_wp2
            refine bodyPost_ret (results_none rfl _ _ _) rfl ?_
            exact ⟨⟨_, rfl⟩, (hkf.trans (KeepsUp.alloc _ _ _)).trans hk3, .inr ⟨_, hJx3⟩⟩
    · have hlt' : ¬ (k : Int) < (ds.length : Int) := by omega
      obtain rfl : k = ds.length := by omega
      gi_wp2
      go_end0
      exact ⟨⟨_, rfl⟩, hkf, .inl hJs⟩
end NC
end Go.Proofs.YtnmmglkigiakaaaGreat
namespace Go.Proofs.YtnmmglkigiakaaaGreat
set_option linter.unusedVariables false
set_option linter.unusedSimpArgs false
open Go.ChangeShapes Go.WideShapes Go.ChangeAt Go.RowKit Go.Shelf Go.Sort
attribute [local go_sem] Oper.semAt_some

/-- a processor in a box. -/
def PBox (W : World) (b pw : Nat) (c : Int) (pg po : Nat) : Prop := W.heap[b]? = some (.cells #[.pointer (some ⟨pw, 0, none⟩), .int .i64 c, .pointer (some ⟨pg, po, none⟩)] 56 (0, 0))
theorem PBox.cells {W : World} {b pw : Nat} {c : Int} {pg po : Nat} (h : PBox W b pw c pg po) : W.cell? ⟨b, 0, none⟩ = some (.pointer (some ⟨pw, 0, none⟩)) ∧ W.cell? ⟨b, 1, none⟩ = some (.int .i64 c) ∧ W.cell? ⟨b, 2, none⟩ = some (.pointer (some ⟨pg, po, none⟩)) := by
  have hr := range_of_block (cs := [.pointer (some ⟨pw, 0, none⟩), .int .i64 c, .pointer (some ⟨pg, po, none⟩)]) h
  exact ⟨by simpa using hr 0 _ rfl, by simpa using hr 1 _ rfl, by simpa using hr 2 _ rfl⟩
theorem mk_inLine (pw pg po : Nat) (c : Int) (w : World) : Calls Tryz.prog 78 #[.agg #[.pointer (some ⟨pw, 0, none⟩), .int .i64 c, .pointer (some ⟨pg, po, none⟩)]] w fun e w' =>
    e = .returned (.func (.func 122) #[] #[ptr w.heap.size]) ∧ w' = w.alloc (.cells #[.pointer (some ⟨pw, 0, none⟩), .int .i64 c, .pointer (some ⟨pg, po, none⟩)] 56) := by
  unfold ptr
  go_enter Tryz.func78, Tryz.ntmps78
  go_wp2
  go_ret
  exact ⟨rfl, rfl⟩
namespace NC
set_option maxRecDepth 100000 in
set_option maxHeartbeats 8000000 in
theorem inLine_gives (pw bp c pg po : Nat) (u : Wv) (G : World → Prop) (W0 : World) (hF : Fit u) (hT : TFit u) (hc : c < u.cs.length) (hG : ∀ W, G W → PBox W bp pw (c : Int) pg po ∧ AtW W pw u) :
    Gives Tryz.prog 122 #[.pointer (some ⟨bp, 0, none⟩)] encN (lineL u c) G W0 := by
  intro l J Jx W hW hJG hJ hJx hY h0
  refine (callsIn_wide (n := 9)).1 ?_
  refine callsIn_of_wp Tryz.func122 rfl trivial ?_ rfl
  simp only [Tryz.ntmps122, List.size_toArray, List.length_cons, List.length_nil, Nat.reduceAdd, Nat.reduceSub, Array.replicate_succ, Array.replicate_zero, List.push_toArray, List.append_toArray, List.nil_append, List.cons_append]
  have hfn : ∀ f, Fence.wide.fn f := fun _ => trivial
  obtain ⟨c0, c2⟩ := hG _ (hJG _ _ h0)
  obtain ⟨q0, q1, q2⟩ := c0.cells
  have HJ := KeepsUp.refl W.heap.size W
  obtain ⟨_, _, w2, _⟩ := c2.cells
  obtain ⟨p, cap, hp, hlen, _⟩ := row_read c2.2.2.1
  have HG : Hid (∀ wr pre, J pre wr → wr.cell? ⟨bp, 0, none⟩ = some (.pointer (some ⟨pw, 0, none⟩)) ∧ wr.cell? ⟨bp, 1, none⟩ = some (.int .i64 (c : Int)) ∧ wr.cell? ⟨bp, 2, none⟩ = some (.pointer (some ⟨pg, po, none⟩)) ∧ AtW wr pw u) := by
    intro wr pre hj
    obtain ⟨d0, d1⟩ := hG _ (hJG _ _ hj)
    exact ⟨d0.cells.1, d0.cells.2.1, d0.cells.2.2, d1⟩
  have HI : Hid (∀ (k : Nat) W, AtW W pw u → Calls Tryz.prog 123 #[.agg #[.pointer (some ⟨pw, 0, none⟩), .int .i64 (c : Int), .pointer (some ⟨pg, po, none⟩)], .int .i64 (k : Int)] W fun e w' => e = .returned (.bool (lineB u c k)) ∧ Below W.heap.size W w') := by
    intro k W hW
    have h0 := hasInLine_any pw c pg po (k : Int) u W hW hF hT hc
    rw [lineB_inlT] at h0
    unfold prV ptr ptrO at h0
    exact h0
  rw [hp] at w2
  clear c2 c0 hp hF hT
  gi_wp2
  clear w2 q0 q1 q2
  gi_loopw [11] (fun t wr => ∃ k : Nat, k ≤ u.ts.length ∧ t = .int .i64 (k : Int) ∧ J (pickTo (lineB u c) k) wr ∧ KeepsUp W.heap.size W wr)
    (fun t _ => u.ts.length - (intOf t).toNat)
  case atStart => exact ⟨0, by omega, rfl, h0, HJ⟩
  case round =>
    obtain ⟨k, hk, rfl, hJs, hkf⟩ := hrel
    by_cases hlt : k < u.ts.length
    · have hlt' : (k : Int) < (u.ts.length : Int) := by omega
      obtain ⟨k0, k1, k2, k3⟩ := HG.out _ _ hJs
      have hq := HI.out k wr k3
      have HK : Hid (J (pickTo (lineB u c) k) wr) := hJs
      have HKF : Hid (KeepsUp W.heap.size W wr) := hkf
      have HLT : Hid (k < u.ts.length) := hlt
      clear k3 hlt hJs hkf
      cases hln : lineB u c k
      · have HX : Hid (pickTo (lineB u c) (k + 1) = pickTo (lineB u c) k) := pickTo_no hln
        rw [hln] at hq
        clear hln
        gi_wp2_with (gi_at_call 123; refine (calls_fw hq).mono ?_; rintro e1 V1 ⟨rfl, hb1⟩)
        exact ⟨⟨k + 1, HLT.out, by go_num, by rw [HX.out]; exact own_below hJ HK.out hb1, HKF.out.trans (KeepsUp.below hb1)⟩, by simp [intOf]; omega⟩
      · have HX : Hid (pickTo (lineB u c) (k + 1) = pickTo (lineB u c) k ++ [k]) := pickTo_yes hln
        have HP : Hid (∃ post, lineL u c = pickTo (lineB u c) k ++ k :: post) := by
          obtain ⟨post, hpost⟩ := pickTo_pre (lineB u c) (k := k + 1) (n := u.ts.length) HLT.out
          rw [HX.out, List.append_assoc] at hpost
          exact ⟨post, hpost⟩
        rw [hln] at hq
        clear hln
        gi_wp2_with (gi_at_call 123; refine (calls_fw hq).mono ?_; rintro e1 V1 ⟨rfl, hb1⟩; obtain ⟨post, hpost⟩ := HP.out; obtain ⟨fn, tmps, assign, body, hy, hR⟩ := hY (pickTo (lineB u c) k) k post V1 hpost (own_below hJ HK.out hb1); have hR := hR none 8; unfold encN at hy; clear hpost)
        refine hR.mono ?_
        rintro e' W3 ⟨hk3, (⟨rfl, hJ3⟩ | ⟨rfl, hJx3⟩)⟩
        · gi_wp2
          go_roundw
          case rel => exact ⟨k + 1, HLT.out, by go_num, by rw [HX.out]; exact hJ3, (HKF.out.trans (KeepsUp.below hb1)).trans hk3⟩
          case measure => simp [intOf]; omega
        · gi_wp2
          refine bodyPost_ret (results_none rfl _ _ _) rfl ?_
          exact ⟨⟨_, rfl⟩, (HKF.out.trans (KeepsUp.below hb1)).trans hk3, .inr ⟨_, hJx3⟩⟩
    · have hlt' : ¬ (k : Int) < (u.ts.length : Int) := by omega
      have hkk : k = u.ts.length := by omega
      have HF : Hid (pickTo (lineB u c) k = lineL u c) := by rw [hkk]; rfl
      rw [HF.out] at hJs
      clear hkk
      gi_wp2
      go_end0
      exact ⟨⟨_, rfl⟩, hkf, .inl hJs⟩
end NC
end Go.Proofs.YtnmmglkigiakaaaGreat
