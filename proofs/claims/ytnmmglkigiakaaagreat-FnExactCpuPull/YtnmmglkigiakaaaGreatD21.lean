/- The program: the weights of a group's tasks that are ready on a processor. A loop over an iterator whose body writes to rows made within the loop. The program: the iterator over the tasks in line on a processor. Laws of a loop over an iterator: the round's assignment and its body in one. Sets of processors: what the program and the specification call a group's pins is one; where a task may be is a processor that there is. The program: whether a task is ok. The program: whether just those groups are On on a processor that are to be, and stand well. -/
import Derived.Test.YtnmmglkigiakaaaGreatD20
namespace Go.Proofs.YtnmmglkigiakaaaGreat
set_option maxRecDepth 100000
set_option maxHeartbeats 32000000
set_option linter.unusedVariables false
set_option linter.unusedSimpArgs false
open Go.ChangeShapes Go.WideShapes Go.ChangeAt Go.RowKit Go.Shelf Go.Sort
attribute [local go_sem] Oper.semAt_some
theorem cellsN_app (l : List Nat) (k : Nat) : cellsN (l ++ [k]) = cellsN l ++ [.int .i64 (k : Int)] := by unfold cellsN; rw [List.map_append]; rfl
end Go.Proofs.YtnmmglkigiakaaaGreat
namespace Go.Proofs.YtnmmglkigiakaaaGreat
set_option maxRecDepth 100000
set_option maxHeartbeats 32000000
set_option linter.unusedVariables false
set_option linter.unusedSimpArgs false
open Go.ChangeShapes Go.WideShapes Go.ChangeAt Go.RowKit Go.Shelf
attribute [local go_sem] Oper.semAt_some
namespace NC
structure KeepsUp (B : Nat) (W W' : World) : Prop where
  size : W.heap.size ≤ W'.heap.size
  same : ∀ k o, B ≤ k → W.heap[k]? = some o → o.isCells = false → W'.heap[k]? = some o
theorem KeepsUp.refl (B : Nat) (W : World) : KeepsUp B W W := ⟨Nat.le_refl _, fun _ _ _ h _ => h⟩
theorem KeepsUp.trans {B : Nat} {X Y Z : World} (h : KeepsUp B X Y) (k : KeepsUp B Y Z) : KeepsUp B X Z := ⟨Nat.le_trans h.size k.size, fun i o hi hl hc => k.same i o hi (h.same i o hi hl hc) hc⟩
theorem KeepsUp.mono {B B' : Nat} {W W' : World} (h : KeepsUp B W W') (hb : B ≤ B') : KeepsUp B' W W' := ⟨h.size, fun k o hk => h.same k o (Nat.le_trans hb hk)⟩
theorem KeepsUp.row {B : Nat} {W W' : World} {row : Option Nat} (hg : W.grownBy W' row) (hr : ∀ j, row = some j → j < B ∨ ∃ o : Obj, W.heap[j]? = some o ∧ o.isCells = true) : KeepsUp B W W' :=
  ⟨hg.size, fun k o hk ho hc => (hg.block k (Array.getElem?_eq_some_iff.1 ho).1 (fun e => by
    rcases hr k e.symm with h | ⟨o', h1, h2⟩
    · omega
    · rw [ho] at h1; cases h1; rw [hc] at h2; cases h2)).trans ho⟩
theorem KeepsUp.grown {B : Nat} {W W' : World} {row : Option Nat} (hg : W.grownBy W' row) (hr : ∀ j, row = some j → j < B) : KeepsUp B W W' := .row hg (fun j e => .inl (hr j e))
theorem KeepsUp.alloc (B : Nat) (W : World) (o : Obj) : KeepsUp B W (W.alloc o) := .grown (World.grownBy_alloc W o none) (fun j e => by cases e)
theorem KeepsUp.below {B : Nat} {W W' : World} (h : Below W.heap.size W W') : KeepsUp B W W' := ⟨h.size, fun k o _ ho _ => (h.block k (Array.getElem?_eq_some_iff.1 ho).1).trans ho⟩
theorem KeepsUp.block {B : Nat} {W W' : World} (h : KeepsUp B W W') {k : Nat} {o : Obj} (hk : B ≤ k) (ho : W.heap[k]? = some o) (hc : o.isCells = false) : W'.heap[k]? = some o := h.same k o hk ho hc
theorem KeepsUp.set {B : Nat} (W : World) {b : Nat} (o : Nat) (v : Value) (hb : b < B) : KeepsUp B W (W.setCell ⟨b, o, none⟩ v) := ⟨by simp, fun k x hk hl hc => (Deep.blk_setCell_other W ⟨b, o, none⟩ v k (by simp; omega)).trans hl⟩
def Gives {α : Type} (P : Program) (gf : Nat) (lb : Array Value) (encs : α → Array Value) (xs : List α) (G : World → Prop) (W0 : World) : Prop :=
  ∀ (l : Nat) (J Jx : List α → World → Prop) (W : World), W0.heap.size ≤ W.heap.size → (∀ pre W', J pre W' → G W') → OwnFrom W.heap.size J → OwnFrom W.heap.size Jx →
    (∀ pre x post W1, xs = pre ++ x :: post → J pre W1 → Yields P l (encs x) W1 fun e W' =>
      KeepsUp W.heap.size W1 W' ∧ ((e = .returned (.bool true) ∧ J (pre ++ [x]) W') ∨ (e = .returned (.bool false) ∧ Jx (pre ++ [x]) W'))) →
    J [] W → Calls P gf (#[.func (.yield l) #[] #[]] ++ lb) W fun e W' => (∃ v, e = .returned v) ∧ KeepsUp W.heap.size W W' ∧ (J xs W' ∨ ∃ pre, Jx pre W')

def RLeft {α : Type} (B : Nat) (I : List α → World → Prop) (Ix : Code → List α → World → Prop) (pre : List α) (W : World) : Exit → Act → World → Prop
  | .normal, _, W' => KeepsUp B W W' ∧ I pre W'
  | .ret, _, W' => KeepsUp B W W' ∧ Ix .ret pre W'
  | .exit id, _, W' => KeepsUp B W W' ∧ Ix (.exit id) pre W'
  | .goto t, _, W' => KeepsUp B W W' ∧ Ix (.goto t) pre W'
  | .panic _, _, _ => False
  | .outgrown, _, _ => False

variable {α : Type} {P : Program} {g : Operand} {ps : Array Tmp} {assign body : Code} {Q : Exit → Act → World → Prop} {a : Act} {w : World}

theorem keeps_put {B l : Nat} {W : World} (o : Obj) (h : l < B) : KeepsUp B W (W.putObj l o) := .grown (grownBy_putObj' W l o) (fun j e => by cases e; exact h)
theorem keeps_mono {B B' : Nat} {W W' : World} (h : KeepsUp B W W') (hb : B ≤ B') : KeepsUp B' W W' := h.mono hb

theorem one_round {B l : Nat} {rec : LoopState → Option Code → Loop} (hst : ∀ s c, (rec s c).state = s ∧ (rec s c).pending = c)
    (hset : ∀ s c s' c', ({ rec s c with state := s', pending := c' } : Loop) = rec s' c') (hB : B ≤ l)
    {I : List α → World → Prop} {Ix : Code → List α → World → Prop} {A : Act → World → Prop} {pre' : List α} {tmps : Array Value} {r : Option Nat} {fn : FuncId} {m : Nat} {W : World}
    (hI : OwnFrom B I) (hIx : ∀ c, OwnFrom B (Ix c)) (hA : ∀ a', OwnFrom B (fun (_ : Unit) W => A a' W))
    (hl : W.heap[l]? = some (.loop (rec .ready none)))
    (hassign : assign.wpIn (FW (some l)) m P (Exit.then (fun a' W' => KeepsUp B W W' ∧ A a' W') (fun _ _ _ => False)) { tmps, defers := [] } W)
    (hbody : ∀ a' W', (∃ r, W'.heap[l]? = some (.loop r)) → A a' W' → body.wpIn (FW (some l)) m P (RLeft B I Ix pre' W') a' W') :
    RoundIn (FW r) m P l fn tmps assign body W fun e W' =>
      KeepsUp (l + 1) W W' ∧ (∀ D o, B ≤ D → D ≠ l → W.heap[D]? = some o → o.isCells = false → W'.heap[D]? = some o) ∧
      ((e = .returned (.bool true) ∧ I pre' W' ∧ W'.heap[l]? = some (.loop (rec .ready none))) ∨
       (e = .returned (.bool false) ∧ ∃ c, Ix c pre' W' ∧ W'.heap[l]? = some (.loop (rec .done (some c))))) := by
  refine round_fw (r := none) (n := m) (roundIn_of_wpIn trivial (wpIn_mono hassign ?_))
  rintro e a1 W1 h1
  cases e with
  | normal =>
    obtain ⟨k1, hA1⟩ := h1
    have hl1 := k1.block hB hl rfl
    refine ⟨_, run_beginRound hl1 (hst _ _).1, ?_⟩
    have e2 : ({ rec .ready none with state := .busy } : Loop) = rec .busy none := by
      have := hset .ready none .busy none
      rw [← this]
      have h2 := (hst .ready none).2
      cases hr : rec .ready none
      rw [hr] at h2
      simp_all
    rw [e2]
    have hl2 : (W1.putObj l (.loop (rec .busy none))).heap[l]? = some (.loop (rec .busy none)) := World.putObj_heap_same (Array.getElem?_eq_some_iff.1 hl1).1
    refine wpIn_mono (hbody a1 _ ⟨_, hl2⟩ ((hA a1).putObj (s := ()) _ hA1 hB hl1 rfl)) ?_
    have fin : ∀ (jump : Option Code) (W3 : World), KeepsUp B (W1.putObj l (.loop (rec .busy none))) W3 →
        (Instr.endRound l jump).run P W3 = .ok (.bool jump.isNone) (W3.putObj l (.loop (rec (if jump.isNone then .ready else .done) jump))) ∧
        W3.heap[l]? = some (.loop (rec .busy none)) ∧
        (W3.putObj l (.loop (rec (if jump.isNone then .ready else .done) jump))).heap[l]? = some (.loop (rec (if jump.isNone then .ready else .done) jump)) ∧
        KeepsUp (l + 1) W (W3.putObj l (.loop (rec (if jump.isNone then .ready else .done) jump))) ∧
        (∀ D o, B ≤ D → D ≠ l → W.heap[D]? = some o → o.isCells = false → (W3.putObj l (.loop (rec (if jump.isNone then .ready else .done) jump))).heap[D]? = some o) := by
      intro jump W3 k3
      have hl3 := k3.block hB hl2 rfl
      have hend := run_endRound (P := P) jump hl3
      rw [hset] at hend
      refine ⟨hend, hl3, World.putObj_heap_same (Array.getElem?_eq_some_iff.1 hl3).1, ?_, ?_⟩
      · exact (((keeps_mono k1 (by omega)).trans (keeps_put _ (by omega))).trans (keeps_mono k3 (by omega))).trans (keeps_put _ (by omega))
      · intro D o hD hne hlt hc
        have s1 := k1.same _ _ hD hlt hc
        have s2 : (W1.putObj l (.loop (rec .busy none))).heap[D]? = some o := (World.putObj_heap_other hne).trans s1
        exact (World.putObj_heap_other hne).trans (k3.same _ _ hD s2 hc)
    rintro e a3 W3 hp
    cases e with
    | normal =>
      obtain ⟨k3, hi3⟩ := hp
      obtain ⟨f1, f2, f3, f4, f5⟩ := fin none W3 k3
      exact ⟨_, _, f1, f4, f5, .inl ⟨rfl, hI.putObj _ hi3 hB f2 rfl, f3⟩⟩
    | ret =>
      obtain ⟨k3, hi3⟩ := hp
      obtain ⟨f1, f2, f3, f4, f5⟩ := fin (some .ret) W3 k3
      exact ⟨_, _, f1, f4, f5, .inr ⟨rfl, _, (hIx _).putObj _ hi3 hB f2 rfl, f3⟩⟩
    | exit id =>
      obtain ⟨k3, hi3⟩ := hp
      obtain ⟨f1, f2, f3, f4, f5⟩ := fin (some (.exit id)) W3 k3
      exact ⟨_, _, f1, f4, f5, .inr ⟨rfl, _, (hIx _).putObj _ hi3 hB f2 rfl, f3⟩⟩
    | goto t =>
      obtain ⟨k3, hi3⟩ := hp
      obtain ⟨f1, f2, f3, f4, f5⟩ := fin (some (.goto t)) W3 k3
      exact ⟨_, _, f1, f4, f5, .inr ⟨rfl, _, (hIx _).putObj _ hi3 hB f2 rfl, f3⟩⟩
    | panic ch => exact hp.elim
    | outgrown => exact hp.elim
  | exit id => exact h1.elim
  | goto t => exact h1.elim
  | ret => exact h1.elim
  | panic ch => exact h1.elim
  | outgrown => exact h1.elim

variable {gf : Nat} {lb : Array Value} {encs : α → Array Value} {xs : List α} {G : World → Prop} {W0 : World} {n : Nat}

theorem range_own (hseq : Gives P gf lb encs xs G W0) (h0w : W0.heap.size ≤ w.heap.size) (hg : a.eval g = .func (.func gf) #[] lb) (eg : ∀ args w, (callFunc gf args).run P w = .ok (.enter gf args) w) (hps : ∀ x, (encs x).size = ps.size)
    (I : List α → World → Prop) (Ix : Code → List α → World → Prop) (A : List α → α → Act → World → Prop) (hIG : ∀ pre W, I pre W → G W) (hI : OwnFrom w.heap.size I) (hIx : ∀ c, OwnFrom w.heap.size (Ix c))
    (hA : ∀ pre x a', OwnFrom w.heap.size (fun (_ : Unit) W => A pre x a' W)) (h0 : I [] w)
    (hassign : ∀ l pre x post W, xs = pre ++ x :: post → I pre W → assign.wpIn (Fence.wide.inRound l) n P (Exit.then (fun a' W' => KeepsUp w.heap.size W W' ∧ A pre x a' W') (fun _ _ _ => False)) { tmps := (ps.zip (encs x)).foldl (fun t (p, v) => t.setIfInBounds p v) a.tmps, defers := [] } W)
    (hbody : ∀ l pre x post a' W, xs = pre ++ x :: post → (∃ r, W.heap[l]? = some (.loop r)) → A pre x a' W → body.wpIn (Fence.wide.inRound l) n P (RLeft w.heap.size I Ix (pre ++ [x]) W) a' W)
    (hdone : ∀ D W, w.heap.size ≤ D → I xs W → W.heap[D]? = some (.deferred (some [])) → Q .normal { a with defers := { target := .collected D, args := #[] } :: a.defers } W)
    (hstop : ∀ D c pre W, w.heap.size ≤ D → Ix c pre W → W.heap[D]? = some (.deferred (some [])) → c.wpIn Fence.wide n P Q { a with defers := { target := .collected D, args := #[] } :: a.defers } W) :
    (Code.rangeFunc g ps assign body).wpIn Fence.wide n P Q a w := by
  refine wpIn_rangeFunc ?_
  intro fn _
  obtain ⟨rec, hrec⟩ : ∃ rec : LoopState → Option Code → Loop, rec = fun st pe => { state := st, pending := pe, fn, tmps := a.tmps, params := ps, assign, body, defers := w.heap.size } := ⟨_, rfl⟩
  obtain ⟨W1, hW1⟩ : ∃ W1, (w.alloc (.deferred (some []))).alloc (.loop (rec .ready none)) = W1 := ⟨_, rfl⟩
  have hz : W1.heap.size = w.heap.size + 1 + 1 := by rw [← hW1]; simp
  have hL1 : W1.heap[w.heap.size + 1]? = some (.loop (rec .ready none)) := by
    rw [← hW1]; have := World.alloc_heap_new (w.alloc (.deferred (some []))) (.loop (rec .ready none)); rwa [World.size_alloc] at this
  have hK1 : W1.heap[w.heap.size]? = some (.deferred (some [])) := by
    rw [← hW1]; exact (Below.heap_alloc _ _ _ (by simp)).trans (World.alloc_heap_new w _)
  have hI1 : I [] W1 := by rw [← hW1]; exact hI.alloc _ (hI.alloc _ h0)
  refine ⟨w.heap.size + 1, [{ target := .collected w.heap.size, args := #[] }], W1, { target := .fn (.func gf) lb, args := #[.func (.yield (w.heap.size + 1)) #[] #[]] }, W1, gf,
    #[.func (.yield (w.heap.size + 1)) #[] #[]] ++ lb, W1, ?_, ?_, fun _ _ => trivial, ?_, (fun h => (by cases h)), ?_⟩
  · rw [← hW1, hrec]; exact run_enterLoop_outer _ _ _ _ _
  · simp only [resolve, hg]
    simp [go_sem]
  · simp [invoke, go_sem, eg]
  have hst : ∀ s c, (rec s c).state = s ∧ (rec s c).pending = c := fun s c => by rw [hrec]; exact ⟨rfl, rfl⟩
  have hset : ∀ s c s' c', ({ rec s c with state := s', pending := c' } : Loop) = rec s' c' := fun s c s' c' => by rw [hrec]
  have hfm : ∀ {β : Type} {K : β → World → Prop}, OwnFrom w.heap.size K → OwnFrom W1.heap.size K := fun h => own_mono h (by omega)
  have hown : ∀ (o : Obj) (k : Nat), k < W1.heap.size → OwnFrom W1.heap.size (fun (_ : List α) W => W.heap[k]? = some o) := fun o k hk s X Y row hs hg' hr =>
    (hg'.block k (Array.getElem?_eq_some_iff.1 hs).1 (fun e => by have := (hr k e.symm).1; omega)).trans hs
  refine calls_fw ((hseq (w.heap.size + 1)
    (fun pre W => I pre W ∧ W.heap[w.heap.size + 1]? = some (.loop (rec .ready none)) ∧ W.heap[w.heap.size]? = some (.deferred (some [])))
    (fun pre W => ∃ c, Ix c pre W ∧ W.heap[w.heap.size + 1]? = some (.loop (rec .done (some c))) ∧ W.heap[w.heap.size]? = some (.deferred (some [])))
    W1 (by omega) (fun pre W h => hIG pre W h.1)
    (OwnFrom.and (hfm hI) (OwnFrom.and (hown _ _ (by omega)) (hown _ _ (by omega))))
    (fun s X Y row hs hg' hr => by
      obtain ⟨c, hc, h2, h3⟩ := hs
      exact ⟨c, hfm (hIx c) s X Y row hc hg' hr, hown _ _ (by omega) s X Y row h2 hg' hr, hown _ _ (by omega) s X Y row h3 hg' hr⟩)
    ?_ ⟨hI1, hL1, hK1⟩).mono ?_)
  · rintro pre x post W hx ⟨hi, hl, hk⟩
    have hy := run_yield (P := P) (args := encs x) hl (by rw [hrec]; exact hps x)
    refine ⟨fn, _, assign, body, by rw [hrec] at hy; exact hy, fun r m => round_fw (r := r) (n := n) (m := m) ((one_round (r := r) hst hset (Nat.le_succ _) hI hIx (hA pre x) hl (hassign _ pre x post W hx hi) (fun a' W' hl' ha' => hbody _ pre x post a' W' hx hl' ha')).mono ?_)⟩
    rintro e W' ⟨k1, k2, h⟩
    refine ⟨keeps_mono k1 (by omega), ?_⟩
    have hk' := k2 _ _ (Nat.le_refl _) (by omega) hk rfl
    rcases h with ⟨rfl, h1, h2⟩ | ⟨rfl, c, h1, h2⟩
    · exact .inl ⟨rfl, h1, h2, hk'⟩
    · exact .inr ⟨rfl, c, h1, h2, hk'⟩
  · rintro e W2 ⟨⟨v, rfl⟩, _, (⟨hi, hl, hk⟩ | ⟨pre, c, hi, hl, hk⟩)⟩
    · exact ⟨none, _, by have := run_endLoop (P := P) hl (by rw [(hst _ _).1]; simp); rw [(hst _ _).2] at this; exact this, hdone _ _ (Nat.le_refl _) (hI.putObj _ hi (by omega) hl rfl) ((World.putObj_heap_other (by omega)).trans hk)⟩
    · exact ⟨some c, _, by have := run_endLoop (P := P) hl (by rw [(hst _ _).1]; simp); rw [(hst _ _).2] at this; exact this, hstop _ c pre _ (Nat.le_refl _) ((hIx c).putObj _ hi (by omega) hl rfl) ((World.putObj_heap_other (by omega)).trans hk)⟩

theorem inner_gives (pw bw : Nat) (z : Value) (ds : List Gr) (G : World → Prop) (W0 : World)
    (hG : ∀ W, G W → W.cell? ⟨bw, 0, none⟩ = some (.pointer (some ⟨pw, 0, none⟩)) ∧ GroupsAt W pw z ds) :
    Gives Tryz.prog 177 #[.pointer (some ⟨bw, 0, none⟩)] encN (inners ds) G W0 := by
  intro l J Jx W hW hJG hJ hJx hY h0
  refine (callsIn_wide (n := 9)).1 ?_
  refine callsIn_of_wp Tryz.func177 rfl trivial ?_ rfl
  simp only [Tryz.ntmps177, List.size_toArray, List.length_cons, List.length_nil, Nat.reduceAdd, Nat.reduceSub, Array.replicate_succ, Array.replicate_zero, List.push_toArray, List.append_toArray, List.nil_append, List.cons_append]
  obtain ⟨c1, c2⟩ := hG _ (hJG _ _ h0)
  have HJ := KeepsUp.refl W.heap.size W
  obtain ⟨c3, p, cap, rfl, hlen, _⟩ := groups_read c2
  have HG : Hid (∀ wr pre, J pre wr → ∀ k, k < ds.length → ∃ g o, p = some ⟨g, o, none⟩ ∧ ∃ e : Gv, e.d.us = usAt ds k ∧ (∀ j v, (gvC e)[j]? = some v → wr.cell? ⟨g, o + k * 14 + j, none⟩ = some v) ∧ (∃ p l c, e.x = .slice p l c) ∧ (∃ p l c, e.y = .slice p l c) ∧ (∃ p l c, e.z = .slice p l c)) := by
    intro wr pre hj k hk
    obtain ⟨_, p', cap', e1, _, h3⟩ := groups_read (hG _ (hJG _ _ hj)).2
    simp only [Value.slice.injEq] at e1
    obtain ⟨rfl, _, _⟩ := e1
    obtain ⟨g, o, h4, e, h5, _, h6, h7⟩ := h3 k hk
    exact ⟨g, o, h4, e, h5, h6, h7⟩
  clear c2
  gi_wp2
  clear c3
  gi_loopw [10] (fun t wr => ∃ k : Nat, k ≤ ds.length ∧ t = .int .i64 (k : Int) ∧ J (innerTo ds k) wr ∧ KeepsUp W.heap.size W wr)
    (fun t _ => ds.length - (intOf t).toNat)
  case atStart => exact ⟨0, by omega, rfl, h0, HJ⟩
  case round =>
    obtain ⟨k, hk, rfl, hJs, hkf⟩ := hrel
    by_cases hlt : k < ds.length
    · have hlt' : (k : Int) < (ds.length : Int) := by omega
      obtain ⟨g, o, hp, e, e1, hc, ⟨q1, l1, k1, f1⟩, ⟨q2, l2, k2, f2⟩, ⟨q3, l3, k3, f3⟩⟩ := HG.out _ _ hJs k hlt
      subst hp
      obtain ⟨x0, x1, x2, x3, x4, x5, x6, x7, x8, x9, x10, x11, x12, x13⟩ := gv_cells (W := wr) (g := g) (o := o + k * 14) (e := e) hc
      rw [e1] at x0
      rw [f1] at x11
      rw [f2] at x12
      rw [f3] at x13
      clear hc f1 f2 f3 e1
      have hsucc := innerTo_succ ds k
      cases hu : usAt ds k
      · rw [hu] at x0
        rw [hu] at hsucc
        simp only [Bool.false_and, if_neg Bool.false_ne_true, List.append_nil] at hsucc
        have HS : Hid (innerTo ds (k + 1) = innerTo ds k) := hsucc
        clear hsucc
        gi_wp2
        refine ⟨fun _ h => (by cases h), ?_⟩
        gi_wp2
        go_roundw
        case rel => exact ⟨k + 1, by omega, by go_num, by rw [HS.out]; exact hJ.alloc _ hJs, hkf.trans (KeepsUp.alloc _ _ _)⟩
        case measure => simp [intOf]; omega
      · by_cases h0 : k = 0
        · rw [hu] at x0
          rw [if_neg (by simp [h0]), List.append_nil] at hsucc
          subst h0
          have HS : Hid (innerTo ds (0 + 1) = innerTo ds 0) := hsucc
          simp only [Nat.zero_mul, Nat.add_zero] at x0 x1 x2 x3 x4 x5 x6 x7 x8 x9 x10 x11 x12 x13
          clear hsucc
          gi_wp2
          refine ⟨fun _ h => (by cases h), ?_⟩
          gi_wp2
          go_roundw
          case rel => exact ⟨0 + 1, by omega, rfl, by rw [HS.out]; exact hJ.alloc _ hJs, hkf.trans (KeepsUp.alloc _ _ _)⟩
          case measure => simp [intOf]; omega
        · rw [hu] at x0
          have hk0 : ¬ (k : Int) = 0 := by omega
          rw [if_pos (by simp [hu, h0])] at hsucc
          obtain ⟨post, hpost⟩ := innerTo_pre ds (k := k + 1) (n := ds.length) (by omega)
          rw [hsucc, List.append_assoc] at hpost
          obtain ⟨fn, tmps, assign, body, hy, hR⟩ := hY (innerTo ds k) k post (wr.alloc (.cells #[.bool true, .int .i64 e.d.pa, .string e.d.na, .int .i64 e.d.we, .int .i64 e.d.cp, .int .i64 e.d.pe, .int .i64 e.d.ne, .int .i64 e.d.su, .int .i64 e.d.ba.qu, .int .i64 e.d.ba.po, .int .i64 e.d.ba.sp, .slice q1 l1 k1, .slice q2 l2 k2, .slice q3 l3 k3] 84)) hpost (hJ.alloc _ hJs)
          have hR := hR none 8
          unfold encN at hy
          gi_wp2
          refine hR.mono ?_
          rintro e' W3 ⟨hk3, (⟨rfl, hJ3⟩ | ⟨rfl, hJx3⟩)⟩
          · gi_wp2
            go_roundw
            case rel => exact ⟨k + 1, by omega, by go_num, by rw [hsucc]; exact hJ3, (hkf.trans (KeepsUp.alloc _ _ _)).trans hk3⟩
            case measure => simp [intOf]; omega
          · gi_wp2
            refine bodyPost_ret (results_none rfl _ _ _) rfl ?_
            exact ⟨⟨_, rfl⟩, (hkf.trans (KeepsUp.alloc _ _ _)).trans hk3, .inr ⟨_, hJx3⟩⟩
    · have hlt' : ¬ (k : Int) < (ds.length : Int) := by omega
      obtain rfl : k = ds.length := by omega
      gi_wp2
      go_end0
      exact ⟨⟨_, rfl⟩, hkf, .inl hJs⟩
end NC
end Go.Proofs.YtnmmglkigiakaaaGreat
namespace Go.Proofs.YtnmmglkigiakaaaGreat
set_option maxRecDepth 100000
set_option maxHeartbeats 32000000
set_option linter.unusedVariables false
set_option linter.unusedSimpArgs false
open Go.ChangeShapes Go.WideShapes Go.ChangeAt Go.RowKit Go.Shelf Go.Sort
attribute [local go_sem] Oper.semAt_some
def PBox (W : World) (b pw : Nat) (c : Int) (pg po : Nat) : Prop := W.heap[b]? = some (.cells #[.pointer (some ⟨pw, 0, none⟩), .int .i64 c, .pointer (some ⟨pg, po, none⟩)] 56 (0, 0))
theorem PBox.cells {W : World} {b pw : Nat} {c : Int} {pg po : Nat} (h : PBox W b pw c pg po) : W.cell? ⟨b, 0, none⟩ = some (.pointer (some ⟨pw, 0, none⟩)) ∧ W.cell? ⟨b, 1, none⟩ = some (.int .i64 c) ∧ W.cell? ⟨b, 2, none⟩ = some (.pointer (some ⟨pg, po, none⟩)) := by
  have hr := range_of_block (cs := [.pointer (some ⟨pw, 0, none⟩), .int .i64 c, .pointer (some ⟨pg, po, none⟩)]) h
  exact ⟨by simpa using hr 0 _ rfl, by simpa using hr 1 _ rfl, by simpa using hr 2 _ rfl⟩
theorem mk_inLine (pw pg po : Nat) (c : Int) (w : World) : Calls Tryz.prog 78 #[.agg #[.pointer (some ⟨pw, 0, none⟩), .int .i64 c, .pointer (some ⟨pg, po, none⟩)]] w fun e w' =>
    e = .returned (.func (.func 122) #[] #[ptr w.heap.size]) ∧ w' = w.alloc (.cells #[.pointer (some ⟨pw, 0, none⟩), .int .i64 c, .pointer (some ⟨pg, po, none⟩)] 56) := by
  unfold ptr
  go_enter Tryz.func78, Tryz.ntmps78
  go_wp2
  go_ret
  exact ⟨rfl, rfl⟩
namespace NC
theorem inLine_gives (pw bp c pg po : Nat) (u : Wv) (G : World → Prop) (W0 : World) (hF : Fit u) (hT : TFit u) (hc : c < u.cs.length) (hG : ∀ W, G W → PBox W bp pw (c : Int) pg po ∧ AtW W pw u) :
    Gives Tryz.prog 122 #[.pointer (some ⟨bp, 0, none⟩)] encN (lineL u c) G W0 := by
  intro l J Jx W hW hJG hJ hJx hY h0
  refine (callsIn_wide (n := 9)).1 ?_
  refine callsIn_of_wp Tryz.func122 rfl trivial ?_ rfl
  simp only [Tryz.ntmps122, List.size_toArray, List.length_cons, List.length_nil, Nat.reduceAdd, Nat.reduceSub, Array.replicate_succ, Array.replicate_zero, List.push_toArray, List.append_toArray, List.nil_append, List.cons_append]
  have hfn : ∀ f, Fence.wide.fn f := fun _ => trivial
  obtain ⟨c0, c2⟩ := hG _ (hJG _ _ h0)
  obtain ⟨q0, q1, q2⟩ := c0.cells
  have HJ := KeepsUp.refl W.heap.size W
  obtain ⟨_, _, w2, _⟩ := c2.cells
  obtain ⟨p, cap, hp, hlen, _⟩ := row_read c2.2.2.1
  have HG : Hid (∀ wr pre, J pre wr → wr.cell? ⟨bp, 0, none⟩ = some (.pointer (some ⟨pw, 0, none⟩)) ∧ wr.cell? ⟨bp, 1, none⟩ = some (.int .i64 (c : Int)) ∧ wr.cell? ⟨bp, 2, none⟩ = some (.pointer (some ⟨pg, po, none⟩)) ∧ AtW wr pw u) := by
    intro wr pre hj
    obtain ⟨d0, d1⟩ := hG _ (hJG _ _ hj)
    exact ⟨d0.cells.1, d0.cells.2.1, d0.cells.2.2, d1⟩
  have HI : Hid (∀ (k : Nat) W, AtW W pw u → Calls Tryz.prog 123 #[.agg #[.pointer (some ⟨pw, 0, none⟩), .int .i64 (c : Int), .pointer (some ⟨pg, po, none⟩)], .int .i64 (k : Int)] W fun e w' => e = .returned (.bool (lineB u c k)) ∧ Below W.heap.size W w') := by
    intro k W hW
    have h0 := hasInLine_any pw c pg po (k : Int) u W hW hF hT hc
    rw [lineB_inlT] at h0
    unfold prV ptr ptrO at h0
    exact h0
  rw [hp] at w2
  clear c2 c0 hp hF hT
  gi_wp2
  clear w2 q0 q1 q2
  gi_loopw [11] (fun t wr => ∃ k : Nat, k ≤ u.ts.length ∧ t = .int .i64 (k : Int) ∧ J (pickTo (lineB u c) k) wr ∧ KeepsUp W.heap.size W wr)
    (fun t _ => u.ts.length - (intOf t).toNat)
  case atStart => exact ⟨0, by omega, rfl, h0, HJ⟩
  case round =>
    obtain ⟨k, hk, rfl, hJs, hkf⟩ := hrel
    by_cases hlt : k < u.ts.length
    · have hlt' : (k : Int) < (u.ts.length : Int) := by omega
      obtain ⟨k0, k1, k2, k3⟩ := HG.out _ _ hJs
      have hq := HI.out k wr k3
      have HK : Hid (J (pickTo (lineB u c) k) wr) := hJs
      have HKF : Hid (KeepsUp W.heap.size W wr) := hkf
      have HLT : Hid (k < u.ts.length) := hlt
      clear k3 hlt hJs hkf
      cases hln : lineB u c k
      · have HX : Hid (pickTo (lineB u c) (k + 1) = pickTo (lineB u c) k) := pickTo_no hln
        rw [hln] at hq
        clear hln
        gi_wp2_with (gi_at_call 123; refine (calls_fw hq).mono ?_; rintro e1 V1 ⟨rfl, hb1⟩)
        exact ⟨⟨k + 1, HLT.out, by go_num, by rw [HX.out]; exact own_below hJ HK.out hb1, HKF.out.trans (KeepsUp.below hb1)⟩, by simp [intOf]; omega⟩
      · have HX : Hid (pickTo (lineB u c) (k + 1) = pickTo (lineB u c) k ++ [k]) := pickTo_yes hln
        have HP : Hid (∃ post, lineL u c = pickTo (lineB u c) k ++ k :: post) := by
          obtain ⟨post, hpost⟩ := pickTo_pre (lineB u c) (k := k + 1) (n := u.ts.length) HLT.out
          rw [HX.out, List.append_assoc] at hpost
          exact ⟨post, hpost⟩
        rw [hln] at hq
        clear hln
        gi_wp2_with (gi_at_call 123; refine (calls_fw hq).mono ?_; rintro e1 V1 ⟨rfl, hb1⟩; obtain ⟨post, hpost⟩ := HP.out; obtain ⟨fn, tmps, assign, body, hy, hR⟩ := hY (pickTo (lineB u c) k) k post V1 hpost (own_below hJ HK.out hb1); have hR := hR none 8; unfold encN at hy; clear hpost)
        refine hR.mono ?_
        rintro e' W3 ⟨hk3, (⟨rfl, hJ3⟩ | ⟨rfl, hJx3⟩)⟩
        · gi_wp2
          go_roundw
          case rel => exact ⟨k + 1, HLT.out, by go_num, by rw [HX.out]; exact hJ3, (HKF.out.trans (KeepsUp.below hb1)).trans hk3⟩
          case measure => simp [intOf]; omega
        · gi_wp2
          refine bodyPost_ret (results_none rfl _ _ _) rfl ?_
          exact ⟨⟨_, rfl⟩, (HKF.out.trans (KeepsUp.below hb1)).trans hk3, .inr ⟨_, hJx3⟩⟩
    · have hlt' : ¬ (k : Int) < (u.ts.length : Int) := by omega
      have hkk : k = u.ts.length := by omega
      have HF : Hid (pickTo (lineB u c) k = lineL u c) := by rw [hkk]; rfl
      rw [HF.out] at hJs
      clear hkk
      gi_wp2
      go_end0
      exact ⟨⟨_, rfl⟩, hkf, .inl hJs⟩
end NC
end Go.Proofs.YtnmmglkigiakaaaGreat
namespace Go.Proofs.YtnmmglkigiakaaaGreat
set_option maxRecDepth 100000
set_option maxHeartbeats 32000000
set_option linter.unusedVariables false
open Go.RowKit Go.Shelf
theorem range_own_j {α : Type} {P : Program} {g : Operand} {ps : Array Tmp} {assign body : Code} {Q : Exit → Act → World → Prop} {a : Act} {w : World} {gf : Nat} {lb : Array Value} {encs : α → Array Value} {xs : List α} {G : World → Prop} {W0 : World} {n : Nat}
    (hseq : Gives P gf lb encs xs G W0) (h0w : W0.heap.size ≤ w.heap.size) (hg : a.eval g = .func (.func gf) #[] lb) (eg : ∀ args w, (callFunc gf args).run P w = .ok (.enter gf args) w) (hps : ∀ x, (encs x).size = ps.size)
    (I : List α → World → Prop) (Ix : Code → List α → World → Prop) (hIG : ∀ pre W, I pre W → G W) (hI : OwnFrom w.heap.size I) (hIx : ∀ c, OwnFrom w.heap.size (Ix c)) (h0 : I [] w)
    (hround : ∀ l pre x post W, xs = pre ++ x :: post → I pre W → assign.wpIn (Fence.wide.inRound l) n P (Exit.then (fun a' W' => KeepsUp w.heap.size W W' ∧ I pre W' ∧ ∀ l' W'', (∃ r, W''.heap[l']? = some (.loop r)) → I pre W'' → body.wpIn (Fence.wide.inRound l') n P (RLeft w.heap.size I Ix (pre ++ [x]) W'') a' W'') (fun _ _ _ => False)) { tmps := (ps.zip (encs x)).foldl (fun t (p, v) => t.setIfInBounds p v) a.tmps, defers := [] } W)
    (hdone : ∀ D W, w.heap.size ≤ D → I xs W → W.heap[D]? = some (.deferred (some [])) → Q .normal { a with defers := { target := .collected D, args := #[] } :: a.defers } W)
    (hstop : ∀ D c pre W, w.heap.size ≤ D → Ix c pre W → W.heap[D]? = some (.deferred (some [])) → c.wpIn Fence.wide n P Q { a with defers := { target := .collected D, args := #[] } :: a.defers } W) :
    (Code.rangeFunc g ps assign body).wpIn Fence.wide n P Q a w := by
  refine range_own hseq h0w hg eg hps I Ix (fun pre x a' W' => I pre W' ∧ ∀ l' W'', (∃ r, W''.heap[l']? = some (.loop r)) → I pre W'' → body.wpIn (Fence.wide.inRound l') n P (RLeft w.heap.size I Ix (pre ++ [x]) W'') a' W'') hIG hI hIx ?_ h0 ?_ ?_ hdone hstop
  · exact fun pre x a' => fun s X Y row hs hg' hr => ⟨hI pre X Y row hs.1 hg' hr, hs.2⟩
  · intro l pre x post W hx hi
    exact hround l pre x post W hx hi
  · rintro l pre x post a' W hx hl ⟨h1, h2⟩
    exact h2 l W hl h1
namespace NC
theorem range_own_j {α : Type} {P : Program} {g : Operand} {ps : Array Tmp} {assign body : Code} {Q : Exit → Act → World → Prop} {a : Act} {w : World} {gf : Nat} {lb : Array Value} {encs : α → Array Value} {xs : List α} {G : World → Prop} {W0 : World} {n : Nat}
    (hseq : Gives P gf lb encs xs G W0) (h0w : W0.heap.size ≤ w.heap.size) (hg : a.eval g = .func (.func gf) #[] lb) (eg : ∀ args w, (callFunc gf args).run P w = .ok (.enter gf args) w) (hps : ∀ x, (encs x).size = ps.size)
    (I : List α → World → Prop) (Ix : Code → List α → World → Prop) (hIG : ∀ pre W, I pre W → G W) (hI : OwnFrom w.heap.size I) (hIx : ∀ c, OwnFrom w.heap.size (Ix c)) (h0 : I [] w)
    (hround : ∀ l pre x post W, xs = pre ++ x :: post → I pre W → assign.wpIn (Fence.wide.inRound l) n P (Exit.then (fun a' W' => KeepsUp w.heap.size W W' ∧ I pre W' ∧ ∀ l' W'', (∃ r, W''.heap[l']? = some (.loop r)) → I pre W'' → body.wpIn (Fence.wide.inRound l') n P (RLeft w.heap.size I Ix (pre ++ [x]) W'') a' W'') (fun _ _ _ => False)) { tmps := (ps.zip (encs x)).foldl (fun t (p, v) => t.setIfInBounds p v) a.tmps, defers := [] } W)
    (hdone : ∀ D W, w.heap.size ≤ D → I xs W → W.heap[D]? = some (.deferred (some [])) → Q .normal { a with defers := { target := .collected D, args := #[] } :: a.defers } W)
    (hstop : ∀ D c pre W, w.heap.size ≤ D → Ix c pre W → W.heap[D]? = some (.deferred (some [])) → c.wpIn Fence.wide n P Q { a with defers := { target := .collected D, args := #[] } :: a.defers } W) :
    (Code.rangeFunc g ps assign body).wpIn Fence.wide n P Q a w := by
  refine range_own hseq h0w hg eg hps I Ix (fun pre x a' W' => I pre W' ∧ ∀ l' W'', (∃ r, W''.heap[l']? = some (.loop r)) → I pre W'' → body.wpIn (Fence.wide.inRound l') n P (RLeft w.heap.size I Ix (pre ++ [x]) W'') a' W'') hIG hI hIx ?_ h0 ?_ ?_ hdone hstop
  · exact fun pre x a' => fun s X Y row hs hg' hr => ⟨hI pre X Y row hs.1 hg' hr, hs.2⟩
  · intro l pre x post W hx hi
    exact hround l pre x post W hx hi
  · rintro l pre x post a' W hx hl ⟨h1, h2⟩
    exact h2 l W hl h1
end NC
end Go.Proofs.YtnmmglkigiakaaaGreat
namespace Go.Proofs.YtnmmglkigiakaaaGreat
set_option maxRecDepth 100000
set_option maxHeartbeats 32000000
set_option linter.unusedVariables false
set_option linter.unusedSimpArgs false
open Go.ChangeShapes Go.WideShapes Go.ChangeAt Go.RowKit Go.Shelf Go.Sort
def SetIn (m : Int) : Prop := 0 ≤ m ∧ m ≤ 15
theorem setIn_fin {m : Int} (h : SetIn m) : ∃ a : Fin 16, m = (a.val : Int) := ⟨⟨m.toNat, by have := h.1; have := h.2; omega⟩, by have := h.1; have := h.2; simp; omega⟩
theorem and_has_fin : ∀ a b : Fin 16, ∀ i : Fin 4, Msk.hasB (Msk.andM (a.val : Int) (b.val : Int)) (i.val : Int) = (Msk.hasB (a.val : Int) (i.val : Int) && Msk.hasB (b.val : Int) (i.val : Int)) := by decide +kernel
theorem and_in_fin : ∀ a b : Fin 16, 0 ≤ Msk.andM (a.val : Int) (b.val : Int) ∧ Msk.andM (a.val : Int) (b.val : Int) ≤ 15 := by decide +kernel
theorem ext_fin : ∀ a b : Fin 16, (∀ i : Fin 4, Msk.hasB (a.val : Int) (i.val : Int) = Msk.hasB (b.val : Int) (i.val : Int)) → a = b := by decide +kernel
theorem and_has {a b : Int} (ha : SetIn a) (hb : SetIn b) {i : Nat} (hi : i < 4) : Msk.hasB (Msk.andM a b) (i : Int) = (Msk.hasB a (i : Int) && Msk.hasB b (i : Int)) := by
  obtain ⟨x, rfl⟩ := setIn_fin ha
  obtain ⟨y, rfl⟩ := setIn_fin hb
  exact and_has_fin x y ⟨i, hi⟩
theorem and_in {a b : Int} (ha : SetIn a) (hb : SetIn b) : SetIn (Msk.andM a b) := by
  obtain ⟨x, rfl⟩ := setIn_fin ha
  obtain ⟨y, rfl⟩ := setIn_fin hb
  exact and_in_fin x y
theorem set_ext {a b : Int} (ha : SetIn a) (hb : SetIn b) (h : ∀ i : Nat, i < 4 → Msk.hasB a (i : Int) = Msk.hasB b (i : Int)) : a = b := by
  obtain ⟨x, rfl⟩ := setIn_fin ha
  obtain ⟨y, rfl⟩ := setIn_fin hb
  rw [ext_fin x y (fun i => h i.val i.isLt)]
theorem bits_and {a b : Int} (ha : SetIn a) (hb : SetIn b) : bits BinOp.and IntKind.i64 a b = Msk.andM a b := by
  rw [Msk.and_eq ha.1 ha.2 hb.1 hb.2]; unfold Msk.andM; rw [if_pos ⟨ha.1, ha.2, hb.1, hb.2⟩]
theorem ups_in (cs : List Cp) (h : cs.length ≤ 4) : SetIn (upsM cs) := by
  obtain ⟨h1, h2⟩ := upsTo_bound cs cs.length
  refine ⟨h1, ?_⟩
  unfold upsM
  have : (2 : Int) ^ cs.length ≤ 2 ^ 4 := by
    have : cs.length = 0 ∨ cs.length = 1 ∨ cs.length = 2 ∨ cs.length = 3 ∨ cs.length = 4 := by omega
    rcases this with e | e | e | e | e <;> rw [e] <;> decide
  omega
def CpIn (ds : List Gr) : Prop := ∀ k : Nat, usAt ds k = true → SetIn (cpAt ds k)
def allS (ds : List Gr) (g i : Nat) : Bool := (outs ds g).all (fun k => Msk.hasB (cpAt ds k) (i : Int)) && Msk.hasB (cpAt ds 0) (i : Int)
def upS (ds : List Gr) (i : Nat) : Nat → Nat → Bool
  | 0, _ => true
  | f + 1, g => if g = 0 then true else Msk.hasB (cpAt ds (paAt ds g).toNat) (i : Int) && upS ds i f (paAt ds g).toNat
theorem pinF_has {ds : List Gr} (ht : treeB ds = true) (hc : CpIn ds) : ∀ (f g : Nat) (m : Int), g < 8 → usAt ds g = true → SetIn m → SetIn (pinF ds f g m) ∧ ∀ i : Nat, i < 4 → Msk.hasB (pinF ds f g m) (i : Int) = (Msk.hasB m (i : Int) && upS ds i f g) := by
  intro f
  induction f with
  | zero => intro g m _ _ hm; exact ⟨hm, fun i _ => by simp [pinF, upS]⟩
  | succ f ih =>
    intro g m hg hu hm
    unfold pinF upS
    rcases tree_step ht hg hu with ⟨rfl, _⟩ | ⟨h0, j, hp, hj, uj, _⟩
    · rw [if_pos rfl]; exact ⟨hm, fun i _ => by simp⟩
    · rw [if_neg h0, hp, Int.toNat_natCast]
      obtain ⟨h1, h2⟩ := ih j (Msk.andM m (cpAt ds j)) hj uj (and_in hm (hc j uj))
      refine ⟨h1, fun i hi => ?_⟩
      rw [if_neg h0, h2 i hi, and_has hm (hc j uj) hi, Bool.and_assoc]
theorem upS_all {ds : List Gr} (ht : treeB ds = true) : ∀ (f g i : Nat), g < 8 → usAt ds g = true → (depB ds (g : Int)).toNat = f → (Msk.hasB (cpAt ds g) (i : Int) && upS ds i f g) = allS ds g i := by
  intro f
  induction f with
  | zero =>
    intro g i hg hu hd
    rcases tree_step ht hg hu with ⟨rfl, _⟩ | ⟨h0, j, hp, hj, uj, hd1, hd2, _⟩
    · unfold allS; rw [outs_root ht]; simp [upS]
    · omega
  | succ f ih =>
    intro g i hg hu hd
    rcases tree_step ht hg hu with ⟨rfl, hd0⟩ | ⟨h0, j, hp, hj, uj, hd1, hd2, _⟩
    · rw [hd0] at hd; exact absurd hd (by simp)
    · unfold upS
      rw [if_neg h0, hp, Int.toNat_natCast, ih j i hj uj (by omega)]
      unfold allS
      rw [outs_step h0 hp hd1 hd2, List.all_cons, Bool.and_assoc]
theorem pinS_has {ds : List Gr} (ht : treeB ds = true) (hc : CpIn ds) {g : Nat} (hg : g < 8) (hu : usAt ds g = true) : SetIn (pinS ds g) ∧ ∀ i : Nat, i < 4 → Msk.hasB (pinS ds g) (i : Int) = allS ds g i := by
  obtain ⟨h1, h2⟩ := pinF_has ht hc (depB ds (g : Int)).toNat g (cpAt ds g) hg hu (hc g hu)
  exact ⟨h1, fun i hi => (h2 i hi).trans (upS_all ht _ g i hg hu rfl)⟩
theorem fold_has {ds : List Gr} (hc : CpIn ds) : ∀ (l : List Nat) (s : Int), (∀ k ∈ l, usAt ds k = true) → SetIn s → SetIn (l.foldl (andS ds) s) ∧ ∀ i : Nat, i < 4 → Msk.hasB (l.foldl (andS ds) s) (i : Int) = (Msk.hasB s (i : Int) && l.all (fun k => Msk.hasB (cpAt ds k) (i : Int))) := by
  intro l
  induction l with
  | nil => intro s _ hs; exact ⟨hs, fun i _ => by simp⟩
  | cons k l ih =>
    intro s hu hs
    have hk := hc k (hu k (by simp))
    have e : andS ds s k = Msk.andM s (cpAt ds k) := bits_and hs hk
    rw [List.foldl_cons, e]
    obtain ⟨h1, h2⟩ := ih (Msk.andM s (cpAt ds k)) (fun j hj => hu j (by simp [hj])) (and_in hs hk)
    refine ⟨h1, fun i hi => ?_⟩
    rw [h2 i hi, and_has hs hk hi, List.all_cons, Bool.and_assoc]
theorem root_used {ds : List Gr} (ht : treeB ds = true) : usAt ds 0 = true := (tree_facts ht).2
theorem pins_eq {cs : List Cp} {ds : List Gr} (hn : cs.length ≤ 4) (ht : treeB ds = true) (hc : CpIn ds) {g : Nat} (hg : g < 8) (hu : usAt ds g = true) : Msk.andM (pinS ds g) (upsM cs) = pinsM cs ds g ∧ SetIn (pinsM cs ds g) := by
  obtain ⟨s1, s2⟩ := pinS_has ht hc hg hu
  have hU := ups_in cs hn
  have h0 := hc 0 (root_used ht)
  have e0 : andS ds (upsM cs) 0 = Msk.andM (upsM cs) (cpAt ds 0) := bits_and hU h0
  obtain ⟨f1, f2⟩ := fold_has hc (outs ds g) (Msk.andM (upsM cs) (cpAt ds 0)) (fun k hk => (outs_used ht hg hu hk).2.1) (and_in hU h0)
  have hP : pinsM cs ds g = (outs ds g).foldl (andS ds) (Msk.andM (upsM cs) (cpAt ds 0)) := by unfold pinsM; rw [e0]
  rw [hP]
  refine ⟨set_ext (and_in s1 hU) f1 (fun i hi => ?_), f1⟩
  rw [and_has s1 hU hi, s2 i hi, f2 i hi, and_has hU h0 hi]
  unfold allS
  cases Msk.hasB (upsM cs) (i : Int) <;> cases Msk.hasB (cpAt ds 0) (i : Int) <;> cases (outs ds g).all (fun k => Msk.hasB (cpAt ds k) (i : Int)) <;> rfl
theorem where_eq {cs : List Cp} {ds : List Gr} (hn : cs.length ≤ 4) (ht : treeB ds = true) (hc : CpIn ds) {g : Nat} (hg : g < 8) (hu : usAt ds g = true) {ma : Int} (hm : SetIn ma) : whereS cs ds g ma = whereM cs ds g ma ∧ SetIn (whereM cs ds g ma) ∧ (∀ i : Nat, i < 4 → Msk.hasB (whereM cs ds g ma) (i : Int) = true → Msk.hasB (upsM cs) (i : Int) = true) := by
  obtain ⟨e, hp⟩ := pins_eq hn ht hc hg hu
  obtain ⟨s1, s2⟩ := pinS_has ht hc hg hu
  have hU := ups_in cs hn
  unfold whereS whereM
  rw [e, bits_and hm hp]
  refine ⟨rfl, ?_, ?_⟩
  · split
    · exact and_in hm hp
    · split
      · exact hp
      · exact hU
  · intro i hi
    have k1 : Msk.hasB (pinsM cs ds g) (i : Int) = true → Msk.hasB (upsM cs) (i : Int) = true := by
      rw [← e, and_has s1 hU hi]
      intro h; rw [Bool.and_eq_true] at h; exact h.2
    split
    · rw [and_has hm hp hi]
      intro h; rw [Bool.and_eq_true] at h; exact k1 h.2
    · split
      · exact k1
      · exact id
theorem ups_at_fin : ∀ n : Fin 5, ∀ a : Fin 16, ∀ i : Fin 4, a.val < 2 ^ n.val → Msk.hasB (a.val : Int) (i.val : Int) = true → i.val < n.val := by decide +kernel
theorem ups_at {cs : List Cp} (hn : cs.length ≤ 4) {i : Nat} (hi : i < 4) (h : Msk.hasB (upsM cs) (i : Int) = true) : i < cs.length := by
  obtain ⟨h1, h2⟩ := upsTo_bound cs cs.length
  obtain ⟨a, ha⟩ := setIn_fin (ups_in cs hn)
  refine ups_at_fin ⟨cs.length, by omega⟩ a ⟨i, hi⟩ ?_ (by rw [← ha]; exact h)
  have h3 : (a.val : Int) < 2 ^ cs.length := by rw [← ha]; exact h2
  exact_mod_cast h3
theorem has_nat {m c : Int} (h : Msk.hasB m c = true) : ∃ i : Nat, i < 4 ∧ c = (i : Int) := by
  unfold Msk.hasB at h
  simp only [Bool.and_eq_true, decide_eq_true_eq] at h
  obtain ⟨_, ⟨h1, h2⟩, _⟩ := h
  exact ⟨c.toNat, by omega, by omega⟩
theorem where_at {cs : List Cp} {ds : List Gr} (hn : cs.length ≤ 4) (ht : treeB ds = true) (hc : CpIn ds) {g : Nat} (hg : g < 8) (hu : usAt ds g = true) {ma c : Int} (hm : SetIn ma) (h : Msk.hasB (whereM cs ds g ma) c = true) : ∃ i : Nat, i < cs.length ∧ c = (i : Int) := by
  obtain ⟨i, hi, rfl⟩ := has_nat h
  exact ⟨i, ups_at hn hi ((where_eq hn ht hc hg hu hm).2.2 i hi h), rfl⟩
end Go.Proofs.YtnmmglkigiakaaaGreat
namespace Go.Proofs.YtnmmglkigiakaaaGreat
set_option maxRecDepth 100000
set_option maxHeartbeats 32000000
set_option linter.unusedVariables false
set_option linter.unusedSimpArgs false
open Go.ChangeShapes Go.WideShapes Go.ChangeAt Go.RowKit Go.Shelf Go.Sort
attribute [local go_sem] Oper.semAt_some
def zeroTB (t : Tk) : Bool := decide (t.gr = 0) && (decide (t.cpu = 0) && (decide (t.ni = 0) && (decide (t.ma = 0) && (decide (t.v = 0) && (decide (t.su = 0) && (decide (t.us = 0) && decide (t.lo = 0)))))))
def whereB (u : Wv) (t : Tk) : Bool := Msk.hasB (whereM u.cs (gsD u.gs) t.gr.toNat t.ma) t.cpu
def taskOkB (u : Wv) (t : Tk) : Bool :=
  if t.st = 0 then zeroTB t
  else (decide (t.st = 1) || decide (t.st = 2)) && (usedB (gsD u.gs) t.gr && (numB t && (whereB u t && (decide (t.st = 2) || taskWellB (gsD u.gs) t))))
theorem num_set {t : Tk} (h : numB t = true) : SetIn t.ma := by
  unfold numB at h
  simp only [Bool.and_eq_true] at h
  have h2 := h.2.1
  unfold setB at h2
  rw [Bool.and_eq_true] at h2
  exact l1in_iff.1 h2.2

theorem taskOk_none (pw k : Nat) (u : Wv) (t : Tk) (w : World) (hA : AtW w pw u) (hF : Fit u) (hC : CpIn (gsD u.gs)) (ht : u.ts[k]? = some t) (hst : t.st = 0) :
    Calls Tryz.prog 111 #[ptr pw, .int .i64 (k : Int)] w fun e w' => e = .returned (.bool (taskOkB u t)) ∧ Below w.heap.size w w' := by
  obtain ⟨tg, to, cap, m2, hr, hkl, hlen⟩ := hA.cellsT ht
  obtain ⟨x0, x1, x2, x3, x4, x5, x6, x7, x8⟩ := tk_cells hr
  obtain ⟨st, gr, cpu, ni, ma, v, su, us, lo⟩ := t
  dsimp only at hst x0 x1 x2 x3 x4 x5 x6 x7 x8 ⊢
  unfold ptr
  clear hr
  subst hst
  obtain ⟨W1, hW1⟩ : ∃ W1, w.alloc (.cells #[.int .i64 0, .int .i64 gr, .int .i64 cpu, .int .i64 ni, .int .i64 ma, .int .i64 v, .int .i64 su, .int .i64 us, .int .i64 lo] 68) = W1 := ⟨_, rfl⟩
  obtain ⟨B1, l1, hrg⟩ := boxed_task hW1
  have n0 : W1.cell? ⟨w.heap.size, 0, none⟩ = some (.int .i64 0) := hrg 0 _ rfl
  have n1 : W1.cell? ⟨w.heap.size, 1, none⟩ = some (.int .i64 gr) := hrg 1 _ rfl
  have n2 : W1.cell? ⟨w.heap.size, 2, none⟩ = some (.int .i64 cpu) := hrg 2 _ rfl
  have n3 : W1.cell? ⟨w.heap.size, 3, none⟩ = some (.int .i64 ni) := hrg 3 _ rfl
  have n4 : W1.cell? ⟨w.heap.size, 4, none⟩ = some (.int .i64 ma) := hrg 4 _ rfl
  have n5 : W1.cell? ⟨w.heap.size, 5, none⟩ = some (.int .i64 v) := hrg 5 _ rfl
  have n6 : W1.cell? ⟨w.heap.size, 6, none⟩ = some (.int .i64 su) := hrg 6 _ rfl
  have n7 : W1.cell? ⟨w.heap.size, 7, none⟩ = some (.int .i64 us) := hrg 7 _ rfl
  have n8 : W1.cell? ⟨w.heap.size, 8, none⟩ = some (.int .i64 lo) := hrg 8 _ rfl
  have acc : Below w.heap.size w W1 := B1
  have lV := l1
  clear hrg
  clear hA hF hC ht
  by_cases h0 : gr = 0
  · subst h0
    by_cases h1 : cpu = 0
    · subst h1
      by_cases h2 : ni = 0
      · subst h2
        by_cases h3 : ma = 0
        · subst h3
          by_cases h4 : v = 0
          · subst h4
            by_cases h5 : su = 0
            · subst h5
              by_cases h6 : us = 0
              · subst h6
                by_cases h7 : lo = 0
                · subst h7
                  have HR : Hid (taskOkB u ⟨0, 0, 0, 0, 0, 0, 0, 0, 0⟩ = true) := by unfold Hid; simp [taskOkB, zeroTB]
                  subst hW1
                  clear n0 n1 n2 n3 n4 n5 n6 n7 n8 l1 lV B1
                  go_enter Tryz.func111, Tryz.ntmps111
                  go_wp2
                  go_ret
                  refine ⟨?_, acc⟩
                  first | exact ret_bool HR.out.symm | (rw [HR.out]; simp []; done)
                · have HR : Hid (taskOkB u ⟨0, 0, 0, 0, 0, 0, 0, 0, lo⟩ = false) := by unfold Hid; simp [taskOkB, zeroTB, h7]
                  subst hW1
                  clear n0 n1 n2 n3 n4 n5 n6 n7 n8 l1 lV B1
                  go_enter Tryz.func111, Tryz.ntmps111
                  go_wp2
                  go_ret
                  refine ⟨?_, acc⟩
                  first | exact ret_bool HR.out.symm | (rw [HR.out]; simp [h7]; done)
              · have HR : Hid (taskOkB u ⟨0, 0, 0, 0, 0, 0, 0, us, lo⟩ = false) := by unfold Hid; simp [taskOkB, zeroTB, h6]
                subst hW1
                clear n0 n1 n2 n3 n4 n5 n6 n7 n8 l1 lV B1
                go_enter Tryz.func111, Tryz.ntmps111
                go_wp2
                go_ret
                refine ⟨?_, acc⟩
                first | exact ret_bool HR.out.symm | (rw [HR.out]; simp [h6]; done)
            · have HR : Hid (taskOkB u ⟨0, 0, 0, 0, 0, 0, su, us, lo⟩ = false) := by unfold Hid; simp [taskOkB, zeroTB, h5]
              subst hW1
              clear n0 n1 n2 n3 n4 n5 n6 n7 n8 l1 lV B1
              go_enter Tryz.func111, Tryz.ntmps111
              go_wp2
              go_ret
              refine ⟨?_, acc⟩
              first | exact ret_bool HR.out.symm | (rw [HR.out]; simp [h5]; done)
          · have HR : Hid (taskOkB u ⟨0, 0, 0, 0, 0, v, su, us, lo⟩ = false) := by unfold Hid; simp [taskOkB, zeroTB, h4]
            subst hW1
            clear n0 n1 n2 n3 n4 n5 n6 n7 n8 l1 lV B1
            go_enter Tryz.func111, Tryz.ntmps111
            go_wp2
            go_ret
            refine ⟨?_, acc⟩
            first | exact ret_bool HR.out.symm | (rw [HR.out]; simp [h4]; done)
        · have HR : Hid (taskOkB u ⟨0, 0, 0, 0, ma, v, su, us, lo⟩ = false) := by unfold Hid; simp [taskOkB, zeroTB, h3]
          subst hW1
          clear n0 n1 n2 n3 n4 n5 n6 n7 n8 l1 lV B1
          go_enter Tryz.func111, Tryz.ntmps111
          go_wp2
          go_ret
          refine ⟨?_, acc⟩
          first | exact ret_bool HR.out.symm | (rw [HR.out]; simp [h3]; done)
      · have HR : Hid (taskOkB u ⟨0, 0, 0, ni, ma, v, su, us, lo⟩ = false) := by unfold Hid; simp [taskOkB, zeroTB, h2]
        subst hW1
        clear n0 n1 n2 n3 n4 n5 n6 n7 n8 l1 lV B1
        go_enter Tryz.func111, Tryz.ntmps111
        go_wp2
        go_ret
        refine ⟨?_, acc⟩
        first | exact ret_bool HR.out.symm | (rw [HR.out]; simp [h2]; done)
    · have HR : Hid (taskOkB u ⟨0, 0, cpu, ni, ma, v, su, us, lo⟩ = false) := by unfold Hid; simp [taskOkB, zeroTB, h1]
      subst hW1
      clear n0 n1 n2 n3 n4 n5 n6 n7 n8 l1 lV B1
      go_enter Tryz.func111, Tryz.ntmps111
      go_wp2
      go_ret
      refine ⟨?_, acc⟩
      first | exact ret_bool HR.out.symm | (rw [HR.out]; simp [h1]; done)
  · have HR : Hid (taskOkB u ⟨0, gr, cpu, ni, ma, v, su, us, lo⟩ = false) := by unfold Hid; simp [taskOkB, zeroTB, h0]
    subst hW1
    clear n0 n1 n2 n3 n4 n5 n6 n7 n8 l1 lV B1
    go_enter Tryz.func111, Tryz.ntmps111
    go_wp2
    go_ret
    refine ⟨?_, acc⟩
    first | exact ret_bool HR.out.symm | (rw [HR.out]; simp [h0]; done)
theorem taskOk_odd (pw k : Nat) (u : Wv) (t : Tk) (w : World) (hA : AtW w pw u) (hF : Fit u) (hC : CpIn (gsD u.gs)) (ht : u.ts[k]? = some t) (hst : t.st ≠ 0 ∧ t.st ≠ 1 ∧ t.st ≠ 2) :
    Calls Tryz.prog 111 #[ptr pw, .int .i64 (k : Int)] w fun e w' => e = .returned (.bool (taskOkB u t)) ∧ Below w.heap.size w w' := by
  obtain ⟨tg, to, cap, m2, hr, hkl, hlen⟩ := hA.cellsT ht
  obtain ⟨x0, x1, x2, x3, x4, x5, x6, x7, x8⟩ := tk_cells hr
  obtain ⟨st, gr, cpu, ni, ma, v, su, us, lo⟩ := t
  dsimp only at hst x0 x1 x2 x3 x4 x5 x6 x7 x8 ⊢
  unfold ptr
  clear hr
  obtain ⟨s0, s1, s2⟩ := hst
  obtain ⟨W1, hW1⟩ : ∃ W1, w.alloc (.cells #[.int .i64 st, .int .i64 gr, .int .i64 cpu, .int .i64 ni, .int .i64 ma, .int .i64 v, .int .i64 su, .int .i64 us, .int .i64 lo] 68) = W1 := ⟨_, rfl⟩
  obtain ⟨B1, l1, hrg⟩ := boxed_task hW1
  have n0 : W1.cell? ⟨w.heap.size, 0, none⟩ = some (.int .i64 st) := hrg 0 _ rfl
  have n1 : W1.cell? ⟨w.heap.size, 1, none⟩ = some (.int .i64 gr) := hrg 1 _ rfl
  have n2 : W1.cell? ⟨w.heap.size, 2, none⟩ = some (.int .i64 cpu) := hrg 2 _ rfl
  have n3 : W1.cell? ⟨w.heap.size, 3, none⟩ = some (.int .i64 ni) := hrg 3 _ rfl
  have n4 : W1.cell? ⟨w.heap.size, 4, none⟩ = some (.int .i64 ma) := hrg 4 _ rfl
  have n5 : W1.cell? ⟨w.heap.size, 5, none⟩ = some (.int .i64 v) := hrg 5 _ rfl
  have n6 : W1.cell? ⟨w.heap.size, 6, none⟩ = some (.int .i64 su) := hrg 6 _ rfl
  have n7 : W1.cell? ⟨w.heap.size, 7, none⟩ = some (.int .i64 us) := hrg 7 _ rfl
  have n8 : W1.cell? ⟨w.heap.size, 8, none⟩ = some (.int .i64 lo) := hrg 8 _ rfl
  have acc : Below w.heap.size w W1 := B1
  have lV := l1
  clear hrg
  have HR : Hid (taskOkB u ⟨st, gr, cpu, ni, ma, v, su, us, lo⟩ = false) := by unfold Hid taskOkB; simp [s0, s1, s2]
  clear hA hF hC ht
  go_enter Tryz.func111, Tryz.ntmps111
  go_wp2
  go_ret
  exact ⟨by rw [HR.out]; rfl, acc⟩
theorem taskOk1_nogroup (pw k : Nat) (u : Wv) (t : Tk) (w : World) (hA : AtW w pw u) (hF : Fit u) (hC : CpIn (gsD u.gs)) (ht : u.ts[k]? = some t) (hst : t.st = 1) (hu : usedB (gsD u.gs) t.gr = false) :
    Calls Tryz.prog 111 #[ptr pw, .int .i64 (k : Int)] w fun e w' => e = .returned (.bool (taskOkB u t)) ∧ Below w.heap.size w w' := by
  obtain ⟨tg, to, cap, m2, hr, hkl, hlen⟩ := hA.cellsT ht
  obtain ⟨x0, x1, x2, x3, x4, x5, x6, x7, x8⟩ := tk_cells hr
  obtain ⟨st, gr, cpu, ni, ma, v, su, us, lo⟩ := t
  dsimp only at hst x0 x1 x2 x3 x4 x5 x6 x7 x8 ⊢
  unfold ptr
  clear hr
  subst hst
  dsimp only at hu
  obtain ⟨W1, hW1⟩ : ∃ W1, w.alloc (.cells #[.int .i64 1, .int .i64 gr, .int .i64 cpu, .int .i64 ni, .int .i64 ma, .int .i64 v, .int .i64 su, .int .i64 us, .int .i64 lo] 68) = W1 := ⟨_, rfl⟩
  obtain ⟨B1, l1, hrg⟩ := boxed_task hW1
  have n0 : W1.cell? ⟨w.heap.size, 0, none⟩ = some (.int .i64 1) := hrg 0 _ rfl
  have n1 : W1.cell? ⟨w.heap.size, 1, none⟩ = some (.int .i64 gr) := hrg 1 _ rfl
  have n2 : W1.cell? ⟨w.heap.size, 2, none⟩ = some (.int .i64 cpu) := hrg 2 _ rfl
  have n3 : W1.cell? ⟨w.heap.size, 3, none⟩ = some (.int .i64 ni) := hrg 3 _ rfl
  have n4 : W1.cell? ⟨w.heap.size, 4, none⟩ = some (.int .i64 ma) := hrg 4 _ rfl
  have n5 : W1.cell? ⟨w.heap.size, 5, none⟩ = some (.int .i64 v) := hrg 5 _ rfl
  have n6 : W1.cell? ⟨w.heap.size, 6, none⟩ = some (.int .i64 su) := hrg 6 _ rfl
  have n7 : W1.cell? ⟨w.heap.size, 7, none⟩ = some (.int .i64 us) := hrg 7 _ rfl
  have n8 : W1.cell? ⟨w.heap.size, 8, none⟩ = some (.int .i64 lo) := hrg 8 _ rfl
  have acc : Below w.heap.size w W1 := B1
  have lV := l1
  clear hrg
  have HR : Hid (taskOkB u ⟨1, gr, cpu, ni, ma, v, su, us, lo⟩ = false) := by unfold Hid taskOkB; simp [hu]
  have HA : Hid (AtW w pw u) := hA
  have HU : Hid (usedB (gsD u.gs) gr = false) := hu
  clear hA hF hC ht hu
  go_enter Tryz.func111, Tryz.ntmps111
  go_wp2_with (go_at_call 57; refine (hasGroup_any pw _ u _ (HA.out.below acc)).mono ?_; rintro e1 w1 ⟨rfl, rfl⟩; rw [HU.out])
  go_ret
  exact ⟨by rw [HR.out]; rfl, acc⟩
theorem taskOk1_nonum (pw k : Nat) (u : Wv) (t : Tk) (w : World) (hA : AtW w pw u) (hF : Fit u) (hC : CpIn (gsD u.gs)) (ht : u.ts[k]? = some t) (hst : t.st = 1) (hu : usedB (gsD u.gs) t.gr = true) (hn : numB t = false) :
    Calls Tryz.prog 111 #[ptr pw, .int .i64 (k : Int)] w fun e w' => e = .returned (.bool (taskOkB u t)) ∧ Below w.heap.size w w' := by
  obtain ⟨tg, to, cap, m2, hr, hkl, hlen⟩ := hA.cellsT ht
  obtain ⟨x0, x1, x2, x3, x4, x5, x6, x7, x8⟩ := tk_cells hr
  obtain ⟨st, gr, cpu, ni, ma, v, su, us, lo⟩ := t
  dsimp only at hst x0 x1 x2 x3 x4 x5 x6 x7 x8 ⊢
  unfold ptr
  clear hr
  subst hst
  dsimp only at hu
  obtain ⟨W1, hW1⟩ : ∃ W1, w.alloc (.cells #[.int .i64 1, .int .i64 gr, .int .i64 cpu, .int .i64 ni, .int .i64 ma, .int .i64 v, .int .i64 su, .int .i64 us, .int .i64 lo] 68) = W1 := ⟨_, rfl⟩
  obtain ⟨B1, l1, hrg⟩ := boxed_task hW1
  have n0 : W1.cell? ⟨w.heap.size, 0, none⟩ = some (.int .i64 1) := hrg 0 _ rfl
  have n1 : W1.cell? ⟨w.heap.size, 1, none⟩ = some (.int .i64 gr) := hrg 1 _ rfl
  have n2 : W1.cell? ⟨w.heap.size, 2, none⟩ = some (.int .i64 cpu) := hrg 2 _ rfl
  have n3 : W1.cell? ⟨w.heap.size, 3, none⟩ = some (.int .i64 ni) := hrg 3 _ rfl
  have n4 : W1.cell? ⟨w.heap.size, 4, none⟩ = some (.int .i64 ma) := hrg 4 _ rfl
  have n5 : W1.cell? ⟨w.heap.size, 5, none⟩ = some (.int .i64 v) := hrg 5 _ rfl
  have n6 : W1.cell? ⟨w.heap.size, 6, none⟩ = some (.int .i64 su) := hrg 6 _ rfl
  have n7 : W1.cell? ⟨w.heap.size, 7, none⟩ = some (.int .i64 us) := hrg 7 _ rfl
  have n8 : W1.cell? ⟨w.heap.size, 8, none⟩ = some (.int .i64 lo) := hrg 8 _ rfl
  have acc : Below w.heap.size w W1 := B1
  have lV := l1
  clear hrg
  have HR : Hid (taskOkB u ⟨1, gr, cpu, ni, ma, v, su, us, lo⟩ = false) := by unfold Hid taskOkB; simp [hu, hn]
  have HA : Hid (AtW w pw u) := hA
  have HU : Hid (usedB (gsD u.gs) gr = true) := hu
  have HM : Hid (numB ⟨1, gr, cpu, ni, ma, v, su, us, lo⟩ = false) := hn
  clear hA hF hC ht hu hn
  go_enter Tryz.func111, Tryz.ntmps111
  go_wp2_with (first | (go_at_call 57; refine (hasGroup_any pw _ u _ (HA.out.below acc)).mono ?_; rintro e1 w1 ⟨rfl, rfl⟩; rw [HU.out]) | (go_at_call 145; refine (hasNumbers_any ⟨1, gr, cpu, ni, ma, v, su, us, lo⟩ _).mono ?_; rintro e1 V ⟨rfl, hb1⟩; rw [HM.out]; obtain ⟨n0, n1, n2, n3, n4, n5, n6, n7, n8⟩ := cells_9 hb1 lV n0 n1 n2 n3 n4 n5 n6 n7 n8; replace acc := acc.trans (hb1.mono acc.size); have lV := Nat.lt_of_lt_of_le lV hb1.size; clear hb1))
  go_ret
  exact ⟨by rw [HR.out]; rfl, acc⟩
theorem taskOk1_nowhere (pw k : Nat) (u : Wv) (t : Tk) (w : World) (hA : AtW w pw u) (hF : Fit u) (hC : CpIn (gsD u.gs)) (ht : u.ts[k]? = some t) (hst : t.st = 1) (hu : usedB (gsD u.gs) t.gr = true) (hn : numB t = true) (hw : whereB u t = false) :
    Calls Tryz.prog 111 #[ptr pw, .int .i64 (k : Int)] w fun e w' => e = .returned (.bool (taskOkB u t)) ∧ Below w.heap.size w w' := by
  obtain ⟨tg, to, cap, m2, hr, hkl, hlen⟩ := hA.cellsT ht
  obtain ⟨x0, x1, x2, x3, x4, x5, x6, x7, x8⟩ := tk_cells hr
  obtain ⟨st, gr, cpu, ni, ma, v, su, us, lo⟩ := t
  dsimp only at hst x0 x1 x2 x3 x4 x5 x6 x7 x8 ⊢
  unfold ptr
  clear hr
  subst hst
  obtain ⟨g, hgr, hgl, hug⟩ := usedB_yes hu
  dsimp only at hgr hu
  subst hgr
  have hg : g < 8 := by have := hF.g8; rw [gsD_length] at hgl; omega
  have hma := num_set hn
  dsimp only at hma
  have hW := (where_eq hF.n4 hF.tree hC hg hug hma).2.1
  have hh : Msk.hasB (whereM u.cs (gsD u.gs) g ma) cpu = false := hw
  obtain ⟨W1, hW1⟩ : ∃ W1, w.alloc (.cells #[.int .i64 1, .int .i64 (g : Int), .int .i64 cpu, .int .i64 ni, .int .i64 ma, .int .i64 v, .int .i64 su, .int .i64 us, .int .i64 lo] 68) = W1 := ⟨_, rfl⟩
  obtain ⟨B1, l1, hrg⟩ := boxed_task hW1
  have n0 : W1.cell? ⟨w.heap.size, 0, none⟩ = some (.int .i64 1) := hrg 0 _ rfl
  have n1 : W1.cell? ⟨w.heap.size, 1, none⟩ = some (.int .i64 (g : Int)) := hrg 1 _ rfl
  have n2 : W1.cell? ⟨w.heap.size, 2, none⟩ = some (.int .i64 cpu) := hrg 2 _ rfl
  have n3 : W1.cell? ⟨w.heap.size, 3, none⟩ = some (.int .i64 ni) := hrg 3 _ rfl
  have n4 : W1.cell? ⟨w.heap.size, 4, none⟩ = some (.int .i64 ma) := hrg 4 _ rfl
  have n5 : W1.cell? ⟨w.heap.size, 5, none⟩ = some (.int .i64 v) := hrg 5 _ rfl
  have n6 : W1.cell? ⟨w.heap.size, 6, none⟩ = some (.int .i64 su) := hrg 6 _ rfl
  have n7 : W1.cell? ⟨w.heap.size, 7, none⟩ = some (.int .i64 us) := hrg 7 _ rfl
  have n8 : W1.cell? ⟨w.heap.size, 8, none⟩ = some (.int .i64 lo) := hrg 8 _ rfl
  have acc : Below w.heap.size w W1 := B1
  have lV := l1
  clear hrg
  have HR : Hid (taskOkB u ⟨1, (g : Int), cpu, ni, ma, v, su, us, lo⟩ = false) := by unfold Hid taskOkB; simp [hw]
  have HA : Hid (AtW w pw u) := hA
  have HU : Hid (usedB (gsD u.gs) (g : Int) = true) := hu
  have HM : Hid (numB ⟨1, (g : Int), cpu, ni, ma, v, su, us, lo⟩ = true) := hn
  clear hA ht hu hn hw
  go_enter Tryz.func111, Tryz.ntmps111
  go_wp2_with (first | (go_at_call 57; refine (hasGroup_any pw _ u _ (HA.out.below acc)).mono ?_; rintro e1 w1 ⟨rfl, rfl⟩; rw [HU.out]) | (go_at_call 145; refine (hasNumbers_any ⟨1, (g : Int), cpu, ni, ma, v, su, us, lo⟩ _).mono ?_; rintro e1 V ⟨rfl, hb1⟩; rw [HM.out]; obtain ⟨n0, n1, n2, n3, n4, n5, n6, n7, n8⟩ := cells_9 hb1 lV n0 n1 n2 n3 n4 n5 n6 n7 n8; replace acc := acc.trans (hb1.mono acc.size); have lV := Nat.lt_of_lt_of_le lV hb1.size; clear hb1))
  have hAV := HA.out.below acc
  have cW : ∀ d os, Calls Tryz.prog 146 #[.pointer (some ⟨pw, 0, none⟩), .agg #[.int .i64 1, .int .i64 (g : Int), .int .i64 cpu, .int .i64 ni, .int .i64 ma, .int .i64 v, .int .i64 su, .int .i64 us, .int .i64 lo]] (grow (redrawn V d) os) fun e' w'' => e' = .returned (.int .i64 (whereM u.cs (gsD u.gs) g ma)) ∧ ∃ p : Regrown, w'' = grow (redrawn V p.d) p.os := fun d os =>
    Calls.regrown_of (whereOf_any pw g ⟨1, (g : Int), cpu, ni, ma, v, su, us, lo⟩ u _ (hAV.below (below_regrown V d os)) hF.n4 hF.tree hg hug rfl)
  have cS : ∀ d os, Calls Tryz.prog 47 #[.int .i64 (whereM u.cs (gsD u.gs) g ma), .int .i64 cpu] (grow (redrawn V d) os) fun e' w'' => e' = .returned (.bool false) ∧ ∃ p : Regrown, w'' = grow (redrawn V p.d) p.os := fun d os => by
    have h0 := Msk.set_has (whereM u.cs (gsD u.gs) g ma) cpu (grow (redrawn V d) os) hW.1 hW.2
    rw [hh] at h0
    exact Calls.regrown_of (h0.mono fun e' w' h => ⟨h.1, h.2 ▸ Below.refl _ _⟩)
  have k0 := cell_regrown n0
  have k1 := cell_regrown n1
  have k2 := cell_regrown n2
  have k3 := cell_regrown n3
  have k4 := cell_regrown n4
  have k5 := cell_regrown n5
  have k6 := cell_regrown n6
  have k7 := cell_regrown n7
  have k8 := cell_regrown n8
  refine wp_region_quiet_below (by kernel_rfl) (by kernel_rfl) ?_
  clear hAV
  repeat (go_big_quiet_step (first | exact cW _ _ | exact cS _ _))
  refine wpQuiet_nil ?_
  rintro _ ⟨⟨dq, osq⟩, rfl⟩
  clear cW cS k0 k1 k2 k3 k4 k5 k6 k7 k8
  go_wp2
  go_ret
  exact ⟨by rw [HR.out]; rfl, acc.trans ((below_regrown V dq osq).mono acc.size)⟩
theorem taskOk1_there (pw k : Nat) (u : Wv) (t : Tk) (w : World) (hA : AtW w pw u) (hF : Fit u) (hC : CpIn (gsD u.gs)) (ht : u.ts[k]? = some t) (hst : t.st = 1) (hu : usedB (gsD u.gs) t.gr = true) (hn : numB t = true) (hw : whereB u t = true) :
    Calls Tryz.prog 111 #[ptr pw, .int .i64 (k : Int)] w fun e w' => e = .returned (.bool (taskOkB u t)) ∧ Below w.heap.size w w' := by
  obtain ⟨tg, to, cap, m2, hr, hkl, hlen⟩ := hA.cellsT ht
  obtain ⟨x0, x1, x2, x3, x4, x5, x6, x7, x8⟩ := tk_cells hr
  obtain ⟨st, gr, cpu, ni, ma, v, su, us, lo⟩ := t
  dsimp only at hst x0 x1 x2 x3 x4 x5 x6 x7 x8 ⊢
  unfold ptr
  clear hr
  subst hst
  obtain ⟨g, hgr, hgl, hug⟩ := usedB_yes hu
  dsimp only at hgr hu
  subst hgr
  have hg : g < 8 := by have := hF.g8; rw [gsD_length] at hgl; omega
  have hma := num_set hn
  dsimp only at hma
  have hW := (where_eq hF.n4 hF.tree hC hg hug hma).2.1
  have hh : Msk.hasB (whereM u.cs (gsD u.gs) g ma) cpu = true := hw
  obtain ⟨c, hc, rfl⟩ := where_at hF.n4 hF.tree hC hg hug hma hh
  obtain ⟨W1, hW1⟩ : ∃ W1, w.alloc (.cells #[.int .i64 1, .int .i64 (g : Int), .int .i64 (c : Int), .int .i64 ni, .int .i64 ma, .int .i64 v, .int .i64 su, .int .i64 us, .int .i64 lo] 68) = W1 := ⟨_, rfl⟩
  obtain ⟨B1, l1, hrg⟩ := boxed_task hW1
  have n0 : W1.cell? ⟨w.heap.size, 0, none⟩ = some (.int .i64 1) := hrg 0 _ rfl
  have n1 : W1.cell? ⟨w.heap.size, 1, none⟩ = some (.int .i64 (g : Int)) := hrg 1 _ rfl
  have n2 : W1.cell? ⟨w.heap.size, 2, none⟩ = some (.int .i64 (c : Int)) := hrg 2 _ rfl
  have n3 : W1.cell? ⟨w.heap.size, 3, none⟩ = some (.int .i64 ni) := hrg 3 _ rfl
  have n4 : W1.cell? ⟨w.heap.size, 4, none⟩ = some (.int .i64 ma) := hrg 4 _ rfl
  have n5 : W1.cell? ⟨w.heap.size, 5, none⟩ = some (.int .i64 v) := hrg 5 _ rfl
  have n6 : W1.cell? ⟨w.heap.size, 6, none⟩ = some (.int .i64 su) := hrg 6 _ rfl
  have n7 : W1.cell? ⟨w.heap.size, 7, none⟩ = some (.int .i64 us) := hrg 7 _ rfl
  have n8 : W1.cell? ⟨w.heap.size, 8, none⟩ = some (.int .i64 lo) := hrg 8 _ rfl
  have acc : Below w.heap.size w W1 := B1
  have lV := l1
  clear hrg
  have HR : Hid (taskOkB u ⟨1, (g : Int), (c : Int), ni, ma, v, su, us, lo⟩ = taskWellB (gsD u.gs) ⟨1, (g : Int), (c : Int), ni, ma, v, su, us, lo⟩) := by unfold Hid taskOkB; rw [hu, hn, hw]; simp
  have HA : Hid (AtW w pw u) := hA
  have HU : Hid (usedB (gsD u.gs) (g : Int) = true) := hu
  have HM : Hid (numB ⟨1, (g : Int), (c : Int), ni, ma, v, su, us, lo⟩ = true) := hn
  clear hA ht hu hn hw
  go_enter Tryz.func111, Tryz.ntmps111
  go_wp2_with (first | (go_at_call 57; refine (hasGroup_any pw _ u _ (HA.out.below acc)).mono ?_; rintro e1 w1 ⟨rfl, rfl⟩; rw [HU.out]) | (go_at_call 145; refine (hasNumbers_any ⟨1, (g : Int), (c : Int), ni, ma, v, su, us, lo⟩ _).mono ?_; rintro e1 V ⟨rfl, hb1⟩; rw [HM.out]; obtain ⟨n0, n1, n2, n3, n4, n5, n6, n7, n8⟩ := cells_9 hb1 lV n0 n1 n2 n3 n4 n5 n6 n7 n8; replace acc := acc.trans (hb1.mono acc.size); have lV := Nat.lt_of_lt_of_le lV hb1.size; clear hb1))
  have hAV := HA.out.below acc
  have cW : ∀ d os, Calls Tryz.prog 146 #[.pointer (some ⟨pw, 0, none⟩), .agg #[.int .i64 1, .int .i64 (g : Int), .int .i64 (c : Int), .int .i64 ni, .int .i64 ma, .int .i64 v, .int .i64 su, .int .i64 us, .int .i64 lo]] (grow (redrawn V d) os) fun e' w'' => e' = .returned (.int .i64 (whereM u.cs (gsD u.gs) g ma)) ∧ ∃ p : Regrown, w'' = grow (redrawn V p.d) p.os := fun d os =>
    Calls.regrown_of (whereOf_any pw g ⟨1, (g : Int), (c : Int), ni, ma, v, su, us, lo⟩ u _ (hAV.below (below_regrown V d os)) hF.n4 hF.tree hg hug rfl)
  have cS : ∀ d os, Calls Tryz.prog 47 #[.int .i64 (whereM u.cs (gsD u.gs) g ma), .int .i64 (c : Int)] (grow (redrawn V d) os) fun e' w'' => e' = .returned (.bool true) ∧ ∃ p : Regrown, w'' = grow (redrawn V p.d) p.os := fun d os => by
    have h0 := Msk.set_has (whereM u.cs (gsD u.gs) g ma) (c : Int) (grow (redrawn V d) os) hW.1 hW.2
    rw [hh] at h0
    exact Calls.regrown_of (h0.mono fun e' w' h => ⟨h.1, h.2 ▸ Below.refl _ _⟩)
  have k0 := cell_regrown n0
  have k1 := cell_regrown n1
  have k2 := cell_regrown n2
  have k3 := cell_regrown n3
  have k4 := cell_regrown n4
  have k5 := cell_regrown n5
  have k6 := cell_regrown n6
  have k7 := cell_regrown n7
  have k8 := cell_regrown n8
  refine wp_region_quiet_below (by kernel_rfl) (by kernel_rfl) ?_
  clear hAV
  repeat (go_big_quiet_step (first | exact cW _ _ | exact cS _ _))
  refine wpQuiet_nil ?_
  rintro _ ⟨⟨dq, osq⟩, rfl⟩
  clear cW cS k0 k1 k2 k3 k4 k5 k6 k7 k8
  obtain ⟨V2, hV2⟩ : ∃ V2, grow (redrawn V dq) osq = V2 := ⟨_, rfl⟩
  have hb1 : Below V.heap.size V V2 := by rw [← hV2]; exact below_regrown _ _ _
  rw [hV2]
  clear hV2
  replace n0 := (hb1.cell (p := ⟨w.heap.size, 0, none⟩) lV).trans n0
  replace n1 := (hb1.cell (p := ⟨w.heap.size, 1, none⟩) lV).trans n1
  replace n2 := (hb1.cell (p := ⟨w.heap.size, 2, none⟩) lV).trans n2
  replace n3 := (hb1.cell (p := ⟨w.heap.size, 3, none⟩) lV).trans n3
  replace n4 := (hb1.cell (p := ⟨w.heap.size, 4, none⟩) lV).trans n4
  replace n5 := (hb1.cell (p := ⟨w.heap.size, 5, none⟩) lV).trans n5
  replace n6 := (hb1.cell (p := ⟨w.heap.size, 6, none⟩) lV).trans n6
  replace n7 := (hb1.cell (p := ⟨w.heap.size, 7, none⟩) lV).trans n7
  replace n8 := (hb1.cell (p := ⟨w.heap.size, 8, none⟩) lV).trans n8
  have acc2 := acc.trans (hb1.mono acc.size)
  have cQ : ∀ d os, Calls Tryz.prog 58 #[.pointer (some ⟨pw, 0, none⟩), .int .i64 (c : Int)] (grow (redrawn V2 d) os) fun e' w'' => e' = .returned (.agg #[.pointer (some ⟨pw, 0, none⟩), .int .i64 (c : Int)]) ∧ ∃ p : Regrown, w'' = grow (redrawn V2 p.d) p.os := fun d os => Calls.regrown_of (mk_queues pw (c : Int) _)
  have hAV2 := HA.out.below acc2
  have cT : ∀ d os, Calls Tryz.prog 147 #[.agg #[.pointer (some ⟨pw, 0, none⟩), .int .i64 (c : Int)], .agg #[.int .i64 1, .int .i64 (g : Int), .int .i64 (c : Int), .int .i64 ni, .int .i64 ma, .int .i64 v, .int .i64 su, .int .i64 us, .int .i64 lo], .int .i64 149] (grow (redrawn V2 d) os) fun e' w'' => e' = .returned (.bool (taskWellB (gsD u.gs) ⟨1, (g : Int), (c : Int), ni, ma, v, su, us, lo⟩)) ∧ ∃ p : Regrown, w'' = grow (redrawn V2 p.d) p.os := fun d os => by
    obtain ⟨eg, zg, zo, zc, heg, _, hz, hsg, hrow⟩ := (hAV2.below (below_regrown V2 d os)).group (k := g) (by rw [hF.g8]; exact hg) hug (hF.ok hc)
    exact Calls.regrown_of (taskWithin_any pw c g 149 ⟨1, (g : Int), (c : Int), ni, ma, v, su, us, lo⟩ u eg _ _ (hAV2.below (below_regrown V2 d os)) heg hsg rfl)
  have k0 := cell_regrown n0
  have k1 := cell_regrown n1
  have k2 := cell_regrown n2
  have k3 := cell_regrown n3
  have k4 := cell_regrown n4
  have k5 := cell_regrown n5
  have k6 := cell_regrown n6
  have k7 := cell_regrown n7
  have k8 := cell_regrown n8
  go_wp2
  refine wp_region_quiet_below (by kernel_rfl) (by kernel_rfl) ?_
  clear hW1
  repeat (go_big_quiet_step (first | exact cQ _ _ | exact cT _ _))
  refine wpQuiet_nil ?_
  rintro _ ⟨⟨dq, osq⟩, rfl⟩
  go_wp2
  go_ret
  exact ⟨by rw [HR.out]; rfl, acc2.trans ((below_regrown V2 dq osq).mono acc2.size)⟩
theorem taskOk2_nogroup (pw k : Nat) (u : Wv) (t : Tk) (w : World) (hA : AtW w pw u) (hF : Fit u) (hC : CpIn (gsD u.gs)) (ht : u.ts[k]? = some t) (hst : t.st = 2) (hu : usedB (gsD u.gs) t.gr = false) :
    Calls Tryz.prog 111 #[ptr pw, .int .i64 (k : Int)] w fun e w' => e = .returned (.bool (taskOkB u t)) ∧ Below w.heap.size w w' := by
  obtain ⟨tg, to, cap, m2, hr, hkl, hlen⟩ := hA.cellsT ht
  obtain ⟨x0, x1, x2, x3, x4, x5, x6, x7, x8⟩ := tk_cells hr
  obtain ⟨st, gr, cpu, ni, ma, v, su, us, lo⟩ := t
  dsimp only at hst x0 x1 x2 x3 x4 x5 x6 x7 x8 ⊢
  unfold ptr
  clear hr
  subst hst
  dsimp only at hu
  obtain ⟨W1, hW1⟩ : ∃ W1, w.alloc (.cells #[.int .i64 2, .int .i64 gr, .int .i64 cpu, .int .i64 ni, .int .i64 ma, .int .i64 v, .int .i64 su, .int .i64 us, .int .i64 lo] 68) = W1 := ⟨_, rfl⟩
  obtain ⟨B1, l1, hrg⟩ := boxed_task hW1
  have n0 : W1.cell? ⟨w.heap.size, 0, none⟩ = some (.int .i64 2) := hrg 0 _ rfl
  have n1 : W1.cell? ⟨w.heap.size, 1, none⟩ = some (.int .i64 gr) := hrg 1 _ rfl
  have n2 : W1.cell? ⟨w.heap.size, 2, none⟩ = some (.int .i64 cpu) := hrg 2 _ rfl
  have n3 : W1.cell? ⟨w.heap.size, 3, none⟩ = some (.int .i64 ni) := hrg 3 _ rfl
  have n4 : W1.cell? ⟨w.heap.size, 4, none⟩ = some (.int .i64 ma) := hrg 4 _ rfl
  have n5 : W1.cell? ⟨w.heap.size, 5, none⟩ = some (.int .i64 v) := hrg 5 _ rfl
  have n6 : W1.cell? ⟨w.heap.size, 6, none⟩ = some (.int .i64 su) := hrg 6 _ rfl
  have n7 : W1.cell? ⟨w.heap.size, 7, none⟩ = some (.int .i64 us) := hrg 7 _ rfl
  have n8 : W1.cell? ⟨w.heap.size, 8, none⟩ = some (.int .i64 lo) := hrg 8 _ rfl
  have acc : Below w.heap.size w W1 := B1
  have lV := l1
  clear hrg
  have HR : Hid (taskOkB u ⟨2, gr, cpu, ni, ma, v, su, us, lo⟩ = false) := by unfold Hid taskOkB; simp [hu]
  have HA : Hid (AtW w pw u) := hA
  have HU : Hid (usedB (gsD u.gs) gr = false) := hu
  clear hA hF hC ht hu
  go_enter Tryz.func111, Tryz.ntmps111
  go_wp2_with (go_at_call 57; refine (hasGroup_any pw _ u _ (HA.out.below acc)).mono ?_; rintro e1 w1 ⟨rfl, rfl⟩; rw [HU.out])
  go_ret
  exact ⟨by rw [HR.out]; rfl, acc⟩
theorem taskOk2_nonum (pw k : Nat) (u : Wv) (t : Tk) (w : World) (hA : AtW w pw u) (hF : Fit u) (hC : CpIn (gsD u.gs)) (ht : u.ts[k]? = some t) (hst : t.st = 2) (hu : usedB (gsD u.gs) t.gr = true) (hn : numB t = false) :
    Calls Tryz.prog 111 #[ptr pw, .int .i64 (k : Int)] w fun e w' => e = .returned (.bool (taskOkB u t)) ∧ Below w.heap.size w w' := by
  obtain ⟨tg, to, cap, m2, hr, hkl, hlen⟩ := hA.cellsT ht
  obtain ⟨x0, x1, x2, x3, x4, x5, x6, x7, x8⟩ := tk_cells hr
  obtain ⟨st, gr, cpu, ni, ma, v, su, us, lo⟩ := t
  dsimp only at hst x0 x1 x2 x3 x4 x5 x6 x7 x8 ⊢
  unfold ptr
  clear hr
  subst hst
  dsimp only at hu
  obtain ⟨W1, hW1⟩ : ∃ W1, w.alloc (.cells #[.int .i64 2, .int .i64 gr, .int .i64 cpu, .int .i64 ni, .int .i64 ma, .int .i64 v, .int .i64 su, .int .i64 us, .int .i64 lo] 68) = W1 := ⟨_, rfl⟩
  obtain ⟨B1, l1, hrg⟩ := boxed_task hW1
  have n0 : W1.cell? ⟨w.heap.size, 0, none⟩ = some (.int .i64 2) := hrg 0 _ rfl
  have n1 : W1.cell? ⟨w.heap.size, 1, none⟩ = some (.int .i64 gr) := hrg 1 _ rfl
  have n2 : W1.cell? ⟨w.heap.size, 2, none⟩ = some (.int .i64 cpu) := hrg 2 _ rfl
  have n3 : W1.cell? ⟨w.heap.size, 3, none⟩ = some (.int .i64 ni) := hrg 3 _ rfl
  have n4 : W1.cell? ⟨w.heap.size, 4, none⟩ = some (.int .i64 ma) := hrg 4 _ rfl
  have n5 : W1.cell? ⟨w.heap.size, 5, none⟩ = some (.int .i64 v) := hrg 5 _ rfl
  have n6 : W1.cell? ⟨w.heap.size, 6, none⟩ = some (.int .i64 su) := hrg 6 _ rfl
  have n7 : W1.cell? ⟨w.heap.size, 7, none⟩ = some (.int .i64 us) := hrg 7 _ rfl
  have n8 : W1.cell? ⟨w.heap.size, 8, none⟩ = some (.int .i64 lo) := hrg 8 _ rfl
  have acc : Below w.heap.size w W1 := B1
  have lV := l1
  clear hrg
  have HR : Hid (taskOkB u ⟨2, gr, cpu, ni, ma, v, su, us, lo⟩ = false) := by unfold Hid taskOkB; simp [hu, hn]
  have HA : Hid (AtW w pw u) := hA
  have HU : Hid (usedB (gsD u.gs) gr = true) := hu
  have HM : Hid (numB ⟨2, gr, cpu, ni, ma, v, su, us, lo⟩ = false) := hn
  clear hA hF hC ht hu hn
  go_enter Tryz.func111, Tryz.ntmps111
  go_wp2_with (first | (go_at_call 57; refine (hasGroup_any pw _ u _ (HA.out.below acc)).mono ?_; rintro e1 w1 ⟨rfl, rfl⟩; rw [HU.out]) | (go_at_call 145; refine (hasNumbers_any ⟨2, gr, cpu, ni, ma, v, su, us, lo⟩ _).mono ?_; rintro e1 V ⟨rfl, hb1⟩; rw [HM.out]; obtain ⟨n0, n1, n2, n3, n4, n5, n6, n7, n8⟩ := cells_9 hb1 lV n0 n1 n2 n3 n4 n5 n6 n7 n8; replace acc := acc.trans (hb1.mono acc.size); have lV := Nat.lt_of_lt_of_le lV hb1.size; clear hb1))
  go_ret
  exact ⟨by rw [HR.out]; rfl, acc⟩
theorem taskOk2_nowhere (pw k : Nat) (u : Wv) (t : Tk) (w : World) (hA : AtW w pw u) (hF : Fit u) (hC : CpIn (gsD u.gs)) (ht : u.ts[k]? = some t) (hst : t.st = 2) (hu : usedB (gsD u.gs) t.gr = true) (hn : numB t = true) (hw : whereB u t = false) :
    Calls Tryz.prog 111 #[ptr pw, .int .i64 (k : Int)] w fun e w' => e = .returned (.bool (taskOkB u t)) ∧ Below w.heap.size w w' := by
  obtain ⟨tg, to, cap, m2, hr, hkl, hlen⟩ := hA.cellsT ht
  obtain ⟨x0, x1, x2, x3, x4, x5, x6, x7, x8⟩ := tk_cells hr
  obtain ⟨st, gr, cpu, ni, ma, v, su, us, lo⟩ := t
  dsimp only at hst x0 x1 x2 x3 x4 x5 x6 x7 x8 ⊢
  unfold ptr
  clear hr
  subst hst
  obtain ⟨g, hgr, hgl, hug⟩ := usedB_yes hu
  dsimp only at hgr hu
  subst hgr
  have hg : g < 8 := by have := hF.g8; rw [gsD_length] at hgl; omega
  have hma := num_set hn
  dsimp only at hma
  have hW := (where_eq hF.n4 hF.tree hC hg hug hma).2.1
  have hh : Msk.hasB (whereM u.cs (gsD u.gs) g ma) cpu = false := hw
  obtain ⟨W1, hW1⟩ : ∃ W1, w.alloc (.cells #[.int .i64 2, .int .i64 (g : Int), .int .i64 cpu, .int .i64 ni, .int .i64 ma, .int .i64 v, .int .i64 su, .int .i64 us, .int .i64 lo] 68) = W1 := ⟨_, rfl⟩
  obtain ⟨B1, l1, hrg⟩ := boxed_task hW1
  have n0 : W1.cell? ⟨w.heap.size, 0, none⟩ = some (.int .i64 2) := hrg 0 _ rfl
  have n1 : W1.cell? ⟨w.heap.size, 1, none⟩ = some (.int .i64 (g : Int)) := hrg 1 _ rfl
  have n2 : W1.cell? ⟨w.heap.size, 2, none⟩ = some (.int .i64 cpu) := hrg 2 _ rfl
  have n3 : W1.cell? ⟨w.heap.size, 3, none⟩ = some (.int .i64 ni) := hrg 3 _ rfl
  have n4 : W1.cell? ⟨w.heap.size, 4, none⟩ = some (.int .i64 ma) := hrg 4 _ rfl
  have n5 : W1.cell? ⟨w.heap.size, 5, none⟩ = some (.int .i64 v) := hrg 5 _ rfl
  have n6 : W1.cell? ⟨w.heap.size, 6, none⟩ = some (.int .i64 su) := hrg 6 _ rfl
  have n7 : W1.cell? ⟨w.heap.size, 7, none⟩ = some (.int .i64 us) := hrg 7 _ rfl
  have n8 : W1.cell? ⟨w.heap.size, 8, none⟩ = some (.int .i64 lo) := hrg 8 _ rfl
  have acc : Below w.heap.size w W1 := B1
  have lV := l1
  clear hrg
  have HR : Hid (taskOkB u ⟨2, (g : Int), cpu, ni, ma, v, su, us, lo⟩ = false) := by unfold Hid taskOkB; simp [hw]
  have HA : Hid (AtW w pw u) := hA
  have HU : Hid (usedB (gsD u.gs) (g : Int) = true) := hu
  have HM : Hid (numB ⟨2, (g : Int), cpu, ni, ma, v, su, us, lo⟩ = true) := hn
  clear hA ht hu hn hw
  go_enter Tryz.func111, Tryz.ntmps111
  go_wp2_with (first | (go_at_call 57; refine (hasGroup_any pw _ u _ (HA.out.below acc)).mono ?_; rintro e1 w1 ⟨rfl, rfl⟩; rw [HU.out]) | (go_at_call 145; refine (hasNumbers_any ⟨2, (g : Int), cpu, ni, ma, v, su, us, lo⟩ _).mono ?_; rintro e1 V ⟨rfl, hb1⟩; rw [HM.out]; obtain ⟨n0, n1, n2, n3, n4, n5, n6, n7, n8⟩ := cells_9 hb1 lV n0 n1 n2 n3 n4 n5 n6 n7 n8; replace acc := acc.trans (hb1.mono acc.size); have lV := Nat.lt_of_lt_of_le lV hb1.size; clear hb1))
  have hAV := HA.out.below acc
  have cW : ∀ d os, Calls Tryz.prog 146 #[.pointer (some ⟨pw, 0, none⟩), .agg #[.int .i64 2, .int .i64 (g : Int), .int .i64 cpu, .int .i64 ni, .int .i64 ma, .int .i64 v, .int .i64 su, .int .i64 us, .int .i64 lo]] (grow (redrawn V d) os) fun e' w'' => e' = .returned (.int .i64 (whereM u.cs (gsD u.gs) g ma)) ∧ ∃ p : Regrown, w'' = grow (redrawn V p.d) p.os := fun d os =>
    Calls.regrown_of (whereOf_any pw g ⟨2, (g : Int), cpu, ni, ma, v, su, us, lo⟩ u _ (hAV.below (below_regrown V d os)) hF.n4 hF.tree hg hug rfl)
  have cS : ∀ d os, Calls Tryz.prog 47 #[.int .i64 (whereM u.cs (gsD u.gs) g ma), .int .i64 cpu] (grow (redrawn V d) os) fun e' w'' => e' = .returned (.bool false) ∧ ∃ p : Regrown, w'' = grow (redrawn V p.d) p.os := fun d os => by
    have h0 := Msk.set_has (whereM u.cs (gsD u.gs) g ma) cpu (grow (redrawn V d) os) hW.1 hW.2
    rw [hh] at h0
    exact Calls.regrown_of (h0.mono fun e' w' h => ⟨h.1, h.2 ▸ Below.refl _ _⟩)
  have k0 := cell_regrown n0
  have k1 := cell_regrown n1
  have k2 := cell_regrown n2
  have k3 := cell_regrown n3
  have k4 := cell_regrown n4
  have k5 := cell_regrown n5
  have k6 := cell_regrown n6
  have k7 := cell_regrown n7
  have k8 := cell_regrown n8
  refine wp_region_quiet_below (by kernel_rfl) (by kernel_rfl) ?_
  clear hAV
  repeat (go_big_quiet_step (first | exact cW _ _ | exact cS _ _))
  refine wpQuiet_nil ?_
  rintro _ ⟨⟨dq, osq⟩, rfl⟩
  clear cW cS k0 k1 k2 k3 k4 k5 k6 k7 k8
  go_wp2
  go_ret
  exact ⟨by rw [HR.out]; rfl, acc.trans ((below_regrown V dq osq).mono acc.size)⟩
theorem taskOk2_there (pw k : Nat) (u : Wv) (t : Tk) (w : World) (hA : AtW w pw u) (hF : Fit u) (hC : CpIn (gsD u.gs)) (ht : u.ts[k]? = some t) (hst : t.st = 2) (hu : usedB (gsD u.gs) t.gr = true) (hn : numB t = true) (hw : whereB u t = true) :
    Calls Tryz.prog 111 #[ptr pw, .int .i64 (k : Int)] w fun e w' => e = .returned (.bool (taskOkB u t)) ∧ Below w.heap.size w w' := by
  obtain ⟨tg, to, cap, m2, hr, hkl, hlen⟩ := hA.cellsT ht
  obtain ⟨x0, x1, x2, x3, x4, x5, x6, x7, x8⟩ := tk_cells hr
  obtain ⟨st, gr, cpu, ni, ma, v, su, us, lo⟩ := t
  dsimp only at hst x0 x1 x2 x3 x4 x5 x6 x7 x8 ⊢
  unfold ptr
  clear hr
  subst hst
  obtain ⟨g, hgr, hgl, hug⟩ := usedB_yes hu
  dsimp only at hgr hu
  subst hgr
  have hg : g < 8 := by have := hF.g8; rw [gsD_length] at hgl; omega
  have hma := num_set hn
  dsimp only at hma
  have hW := (where_eq hF.n4 hF.tree hC hg hug hma).2.1
  have hh : Msk.hasB (whereM u.cs (gsD u.gs) g ma) cpu = true := hw
  obtain ⟨c, hc, rfl⟩ := where_at hF.n4 hF.tree hC hg hug hma hh
  obtain ⟨W1, hW1⟩ : ∃ W1, w.alloc (.cells #[.int .i64 2, .int .i64 (g : Int), .int .i64 (c : Int), .int .i64 ni, .int .i64 ma, .int .i64 v, .int .i64 su, .int .i64 us, .int .i64 lo] 68) = W1 := ⟨_, rfl⟩
  obtain ⟨B1, l1, hrg⟩ := boxed_task hW1
  have n0 : W1.cell? ⟨w.heap.size, 0, none⟩ = some (.int .i64 2) := hrg 0 _ rfl
  have n1 : W1.cell? ⟨w.heap.size, 1, none⟩ = some (.int .i64 (g : Int)) := hrg 1 _ rfl
  have n2 : W1.cell? ⟨w.heap.size, 2, none⟩ = some (.int .i64 (c : Int)) := hrg 2 _ rfl
  have n3 : W1.cell? ⟨w.heap.size, 3, none⟩ = some (.int .i64 ni) := hrg 3 _ rfl
  have n4 : W1.cell? ⟨w.heap.size, 4, none⟩ = some (.int .i64 ma) := hrg 4 _ rfl
  have n5 : W1.cell? ⟨w.heap.size, 5, none⟩ = some (.int .i64 v) := hrg 5 _ rfl
  have n6 : W1.cell? ⟨w.heap.size, 6, none⟩ = some (.int .i64 su) := hrg 6 _ rfl
  have n7 : W1.cell? ⟨w.heap.size, 7, none⟩ = some (.int .i64 us) := hrg 7 _ rfl
  have n8 : W1.cell? ⟨w.heap.size, 8, none⟩ = some (.int .i64 lo) := hrg 8 _ rfl
  have acc : Below w.heap.size w W1 := B1
  have lV := l1
  clear hrg
  have HR : Hid (taskOkB u ⟨2, (g : Int), (c : Int), ni, ma, v, su, us, lo⟩ = true) := by unfold Hid taskOkB; rw [hu, hn, hw]; simp
  have HA : Hid (AtW w pw u) := hA
  have HU : Hid (usedB (gsD u.gs) (g : Int) = true) := hu
  have HM : Hid (numB ⟨2, (g : Int), (c : Int), ni, ma, v, su, us, lo⟩ = true) := hn
  clear hA ht hu hn hw
  go_enter Tryz.func111, Tryz.ntmps111
  go_wp2_with (first | (go_at_call 57; refine (hasGroup_any pw _ u _ (HA.out.below acc)).mono ?_; rintro e1 w1 ⟨rfl, rfl⟩; rw [HU.out]) | (go_at_call 145; refine (hasNumbers_any ⟨2, (g : Int), (c : Int), ni, ma, v, su, us, lo⟩ _).mono ?_; rintro e1 V ⟨rfl, hb1⟩; rw [HM.out]; obtain ⟨n0, n1, n2, n3, n4, n5, n6, n7, n8⟩ := cells_9 hb1 lV n0 n1 n2 n3 n4 n5 n6 n7 n8; replace acc := acc.trans (hb1.mono acc.size); have lV := Nat.lt_of_lt_of_le lV hb1.size; clear hb1))
  have hAV := HA.out.below acc
  have cW : ∀ d os, Calls Tryz.prog 146 #[.pointer (some ⟨pw, 0, none⟩), .agg #[.int .i64 2, .int .i64 (g : Int), .int .i64 (c : Int), .int .i64 ni, .int .i64 ma, .int .i64 v, .int .i64 su, .int .i64 us, .int .i64 lo]] (grow (redrawn V d) os) fun e' w'' => e' = .returned (.int .i64 (whereM u.cs (gsD u.gs) g ma)) ∧ ∃ p : Regrown, w'' = grow (redrawn V p.d) p.os := fun d os =>
    Calls.regrown_of (whereOf_any pw g ⟨2, (g : Int), (c : Int), ni, ma, v, su, us, lo⟩ u _ (hAV.below (below_regrown V d os)) hF.n4 hF.tree hg hug rfl)
  have cS : ∀ d os, Calls Tryz.prog 47 #[.int .i64 (whereM u.cs (gsD u.gs) g ma), .int .i64 (c : Int)] (grow (redrawn V d) os) fun e' w'' => e' = .returned (.bool true) ∧ ∃ p : Regrown, w'' = grow (redrawn V p.d) p.os := fun d os => by
    have h0 := Msk.set_has (whereM u.cs (gsD u.gs) g ma) (c : Int) (grow (redrawn V d) os) hW.1 hW.2
    rw [hh] at h0
    exact Calls.regrown_of (h0.mono fun e' w' h => ⟨h.1, h.2 ▸ Below.refl _ _⟩)
  have k0 := cell_regrown n0
  have k1 := cell_regrown n1
  have k2 := cell_regrown n2
  have k3 := cell_regrown n3
  have k4 := cell_regrown n4
  have k5 := cell_regrown n5
  have k6 := cell_regrown n6
  have k7 := cell_regrown n7
  have k8 := cell_regrown n8
  refine wp_region_quiet_below (by kernel_rfl) (by kernel_rfl) ?_
  clear hAV
  repeat (go_big_quiet_step (first | exact cW _ _ | exact cS _ _))
  refine wpQuiet_nil ?_
  rintro _ ⟨⟨dq, osq⟩, rfl⟩
  clear cW cS k0 k1 k2 k3 k4 k5 k6 k7 k8
  obtain ⟨V2, hV2⟩ : ∃ V2, grow (redrawn V dq) osq = V2 := ⟨_, rfl⟩
  have hb1 : Below V.heap.size V V2 := by rw [← hV2]; exact below_regrown _ _ _
  rw [hV2]
  clear hV2
  replace n0 := (hb1.cell (p := ⟨w.heap.size, 0, none⟩) lV).trans n0
  replace n1 := (hb1.cell (p := ⟨w.heap.size, 1, none⟩) lV).trans n1
  replace n2 := (hb1.cell (p := ⟨w.heap.size, 2, none⟩) lV).trans n2
  replace n3 := (hb1.cell (p := ⟨w.heap.size, 3, none⟩) lV).trans n3
  replace n4 := (hb1.cell (p := ⟨w.heap.size, 4, none⟩) lV).trans n4
  replace n5 := (hb1.cell (p := ⟨w.heap.size, 5, none⟩) lV).trans n5
  replace n6 := (hb1.cell (p := ⟨w.heap.size, 6, none⟩) lV).trans n6
  replace n7 := (hb1.cell (p := ⟨w.heap.size, 7, none⟩) lV).trans n7
  replace n8 := (hb1.cell (p := ⟨w.heap.size, 8, none⟩) lV).trans n8
  have acc2 := acc.trans (hb1.mono acc.size)
  have k0 := cell_regrown n0
  have k1 := cell_regrown n1
  have k2 := cell_regrown n2
  have k3 := cell_regrown n3
  have k4 := cell_regrown n4
  have k5 := cell_regrown n5
  have k6 := cell_regrown n6
  have k7 := cell_regrown n7
  have k8 := cell_regrown n8
  go_wp2
  refine wp_region_quiet_below (by kernel_rfl) (by kernel_rfl) ?_
  clear hW1
  repeat (go_big_quiet_step (fail))
  refine wpQuiet_nil ?_
  rintro _ ⟨⟨dq, osq⟩, rfl⟩
  go_wp2
  go_ret
  exact ⟨by rw [HR.out]; rfl, acc2.trans ((below_regrown V2 dq osq).mono acc2.size)⟩
theorem isTaskOk_any (pw k : Nat) (u : Wv) (t : Tk) (w : World) (hA : AtW w pw u) (hF : Fit u) (hC : CpIn (gsD u.gs)) (ht : u.ts[k]? = some t) :
    Calls Tryz.prog 111 #[ptr pw, .int .i64 (k : Int)] w fun e w' => e = .returned (.bool (taskOkB u t)) ∧ Below w.heap.size w w' := by
  by_cases s0 : t.st = 0
  · exact taskOk_none pw k u t w hA hF hC ht s0
  by_cases s1 : t.st = 1
  · cases hu : usedB (gsD u.gs) t.gr
    · exact taskOk1_nogroup pw k u t w hA hF hC ht s1 hu
    · cases hn : numB t
      · exact taskOk1_nonum pw k u t w hA hF hC ht s1 hu hn
      · cases hw : whereB u t
        · exact taskOk1_nowhere pw k u t w hA hF hC ht s1 hu hn hw
        · exact taskOk1_there pw k u t w hA hF hC ht s1 hu hn hw
  by_cases s2 : t.st = 2
  · cases hu : usedB (gsD u.gs) t.gr
    · exact taskOk2_nogroup pw k u t w hA hF hC ht s2 hu
    · cases hn : numB t
      · exact taskOk2_nonum pw k u t w hA hF hC ht s2 hu hn
      · cases hw : whereB u t
        · exact taskOk2_nowhere pw k u t w hA hF hC ht s2 hu hn hw
        · exact taskOk2_there pw k u t w hA hF hC ht s2 hu hn hw
  exact taskOk_odd pw k u t w hA hF hC ht ⟨s0, s1, s2⟩
/-! somebody has a least virtual time just if somebody stands there -/
theorem leastL_some : ∀ (l : List Int), (leastL l).2 = !l.isEmpty := by
  intro l
  have key : ∀ (l : List Int) (a : Int × Bool), (l.foldl lstep a).2 = (a.2 || !l.isEmpty) := by
    intro l
    induction l with
    | nil => intro a; simp
    | cons x l ih =>
      intro a
      rw [List.foldl_cons, ih]
      have : (lstep a x).2 = true := by
        unfold lstep
        split
        · rfl
        · rename_i h
          cases h2 : a.2
          · exact absurd (Or.inl h2) h
          · rfl
      rw [this]; simp
  rw [leastL, key]; simp
theorem groupsL_in {ds : List Gr} {g : Int} {c k : Nat} : k ∈ groupsL ds g c ↔ (k < ds.length ∧ k ≠ 0 ∧ actG ds g c k = true) := by
  unfold groupsL inners innerTo standG actG
  rw [List.mem_filter, List.mem_filter, List.mem_range]
  simp only [Bool.and_eq_true, decide_eq_true_eq]
  constructor
  · rintro ⟨⟨h1, h2, h3⟩, h4, h5⟩; exact ⟨h1, h3, h2, h4, h5⟩
  · rintro ⟨h1, h3, h2, h4, h5⟩; exact ⟨⟨h1, h2, h3⟩, h4, h5⟩
theorem active_eq (ts : List Tk) (ds : List Gr) (g : Int) (c : Nat) : (leastL (timesL ts ds g c)).2 = actB ts ds g c := by
  rw [leastL_some]
  cases ha : actB ts ds g c
  · unfold actB at ha
    simp only [Bool.or_eq_false_iff, decide_eq_false_iff_not] at ha
    have h1 : tasksL ts g (c : Int) = [] := List.eq_nil_iff_forall_not_mem.2 (fun k hk => ha.1 ⟨k, (in_tasks hk).1, (in_tasks hk).2⟩)
    have h2 : groupsL ds g c = [] := List.eq_nil_iff_forall_not_mem.2 (fun k hk => ha.2 ⟨k, (groupsL_in.1 hk).1, (groupsL_in.1 hk).2.1, (groupsL_in.1 hk).2.2⟩)
    unfold timesL timesT timesG
    rw [h1, h2]; rfl
  · unfold actB at ha
    rw [Bool.or_eq_true] at ha
    rw [Bool.not_eq_true', List.isEmpty_eq_false_iff]
    intro hnil
    unfold timesL timesT timesG at hnil
    rw [List.append_eq_nil_iff, List.map_eq_nil_iff, List.map_eq_nil_iff] at hnil
    rcases ha with h | h
    · obtain ⟨k, h1, h2⟩ := of_decide_eq_true h
      have : k ∈ tasksL ts g (c : Int) := by
        unfold tasksL taskTo
        rw [List.mem_filter, List.mem_range]
        exact ⟨h1, h2⟩
      rw [hnil.1] at this; cases this
    · obtain ⟨k, h1, h2, h3⟩ := of_decide_eq_true h
      have : k ∈ groupsL ds g c := groupsL_in.2 ⟨h1, h2, h3⟩
      rw [hnil.2] at this; cases this
def baAt (ds : List Gr) (k : Nat) : Ba := ((ds[k]?).map (·.ba)).getD ⟨0, 0, 0, [], []⟩
theorem baAt_eq {gs : List Gv} {k : Nat} {e : Gv} (h : gs[k]? = some e) : baAt (gsD gs) k = e.d.ba := by unfold baAt; rw [gsD_at h]; rfl
def qkB (ts : List Tk) (ds : List Gr) (c k : Nat) : Bool := queueB ts ds c k (shAt ds k c) (baAt ds k)
theorem areQueuesOk_any (pw c : Nat) (u : Wv) (w : World) (hA : AtW w pw u) (hF : Fit u) (hc : c < u.cs.length) :
    Calls Tryz.prog 112 #[ptr pw, .int .i64 (c : Int)] w fun e w' => e = .returned (.bool ((inners (gsD u.gs)).all (qkB u.ts (gsD u.gs) c))) ∧ Below w.heap.size w w' := by
  have mixed : Tryz.prog.follows Departure.mixedOrders = true := by kernel_rfl
  have hfn : ∀ f, Fence.wide.fn f := fun _ => trivial
  refine (callsIn_wide (n := 9)).1 ?_
  refine callsIn_of_wp_marks Tryz.func112 rfl trivial ?_ rfl
  unfold ptr
  simp only [Tryz.ntmps112, List.size_toArray, List.length_cons, List.length_nil, Nat.reduceAdd, Nat.reduceSub, Array.replicate_succ, Array.replicate_zero, List.push_toArray, List.append_toArray, List.nil_append, List.cons_append]
  obtain ⟨W1, hW1⟩ : ∃ W1, w.alloc (.cells #[.bool false] 4) = W1 := ⟨_, rfl⟩
  have r1 : W1.heap[w.heap.size]? = some (.cells #[.bool false] 4 (0, 0)) := by rw [← hW1]; exact World.alloc_heap_new w _
  have B1 : Below w.heap.size w W1 := by rw [← hW1]; exact (Below.refl _ _).alloc (Nat.le_refl _) _
  have l1 : w.heap.size < W1.heap.size := by rw [← hW1]; simp
  gi_wp2_with (first | (gi_at_call 58; refine (calls_fw (mk_queues pw (c : Int) _)).mono ?_; rintro e' V ⟨rfl, hV⟩; simp only [qV, ptr]) | (gi_at_call 148; refine (calls_fw (mk_inner pw _)).mono ?_; rintro e' w' ⟨rfl, rfl⟩; simp only [ptr]))
  obtain ⟨X, hX⟩ : ∃ X, V.alloc (.cells #[.pointer (some ⟨pw, 0, none⟩), .int .i64 (c : Int)] 53) = X := ⟨_, rfl⟩
  have x0 : X.heap[V.heap.size]? = some (.cells #[.pointer (some ⟨pw, 0, none⟩), .int .i64 (c : Int)] 53 (0, 0)) := by rw [← hX]; exact World.alloc_heap_new V _
  have BX : Below V.heap.size V X := by rw [← hX]; exact (Below.refl _ _).alloc (Nat.le_refl _) _
  obtain ⟨Y, hY⟩ : ∃ Y, X.alloc (.cells #[.pointer (some ⟨pw, 0, none⟩)] 51) = Y := ⟨_, rfl⟩
  have y0 : Y.heap[X.heap.size]? = some (.cells #[.pointer (some ⟨pw, 0, none⟩)] 51 (0, 0)) := by rw [← hY]; exact World.alloc_heap_new X _
  have BY : Below X.heap.size X Y := by rw [← hY]; exact (Below.refl _ _).alloc (Nat.le_refl _) _
  have lY : X.heap.size < Y.heap.size := by rw [← hY]; simp
  simp only [hX, hY]
  clear hX hY hW1
  have wV : Below w.heap.size w V := B1.trans (hV.mono B1.size)
  have wX := wV.trans (BX.mono wV.size)
  have wY := wX.trans (BY.mono wX.size)
  have v1 := below_at BY (below_at BX (below_at hV r1))
  have v2 := below_at BY x0
  have hyY : w.heap.size < Y.heap.size := by have := hV.size; have := BX.size; omega
  refine range_own (xs := inners (gsD u.gs)) (encs := encN) (gf := 177) (lb := #[ptr X.heap.size]) (W0 := w) (G := fun W' => W'.cell? ⟨X.heap.size, 0, none⟩ = some (.pointer (some ⟨pw, 0, none⟩)) ∧ GroupsAt W' pw u.z (gsD u.gs))
    (inner_gives pw X.heap.size u.z (gsD u.gs) _ w (fun W' h => h)) wY.size rfl (enters_of Tryz.func177 (by kernel_rfl) rfl) (fun _ => rfl)
    (fun pre W' => (∀ k ∈ pre, qkB u.ts (gsD u.gs) c k = true) ∧ W'.heap[w.heap.size]? = some (.cells #[.bool false] 4 (0, 0)) ∧ QBox W' V.heap.size pw (c : Int) ∧ W'.heap[X.heap.size]? = some (.cells #[.pointer (some ⟨pw, 0, none⟩)] 51 (0, 0)) ∧ Below w.heap.size w W')
    (fun cc pre W' => cc = .ret ∧ (∃ k ∈ inners (gsD u.gs), qkB u.ts (gsD u.gs) c k = false) ∧ W'.heap[w.heap.size]? = some (.cells #[.bool false] 4 (0, 0)) ∧ Below w.heap.size w W')
    (fun pre x a' W' => ((∀ k ∈ pre, qkB u.ts (gsD u.gs) c k = true) ∧ W'.heap[w.heap.size]? = some (.cells #[.bool false] 4 (0, 0)) ∧ QBox W' V.heap.size pw (c : Int) ∧ W'.heap[X.heap.size]? = some (.cells #[.pointer (some ⟨pw, 0, none⟩)] 51 (0, 0)) ∧ Below w.heap.size w W') ∧ a' = { tmps := #[.pointer (some ⟨pw, 0, none⟩), .int .i64 (c : Int), undef, undef, .pointer (some ⟨w.heap.size, 0, none⟩), .pointer (some ⟨V.heap.size, 0, none⟩), .int .i64 (x : Int), undef, .pointer (some ⟨pw, 0, none⟩), .int .i64 (c : Int), .agg #[.pointer (some ⟨pw, 0, none⟩), .int .i64 (c : Int)], .pointer (some ⟨pw, 0, none⟩), .func (.func 177) #[] #[ptr X.heap.size], .int .i64 (x : Int), undef, undef, undef, undef, undef, undef, undef, undef, undef, undef, undef, undef, undef, undef, undef, undef, undef, undef, undef, undef], defers := [] })
    (fun pre W' hi => ⟨(Msk.cell_of_box_l hi.2.2.2.1).1, (hA.below hi.2.2.2.2).groups⟩)
    ?hI ?hIx ?hA ⟨fun j hj => (by cases hj), v1, v2, y0, wY⟩ ?hassign ?hbody ?hdone ?hstop
  case hI => exact OwnFrom.and (ownFrom_pure _ _) (OwnFrom.and (own_block _ _ _ rfl) (OwnFrom.and (own_block _ _ _ rfl) (OwnFrom.and (own_block _ _ _ rfl) (ownFrom_below (Nat.le_refl _) wY.size))))
  case hIx => exact fun cc => OwnFrom.and (ownFrom_pure _ _) (OwnFrom.and (ownFrom_pure _ _) (OwnFrom.and (own_block _ _ _ rfl) (ownFrom_below (Nat.le_refl _) wY.size)))
  case hA => exact fun pre x a' => OwnFrom.and (OwnFrom.and (ownFrom_pure _ _) (OwnFrom.and (own_block _ _ _ rfl) (OwnFrom.and (own_block _ _ _ rfl) (OwnFrom.and (own_block _ _ _ rfl) (ownFrom_below (Nat.le_refl _) wY.size))))) (ownFrom_pure _ _)
  case hassign =>
    intro l' pre x post W' hx hi
    unfold encN
    gi_wp2
    first | exact ⟨KeepsUp.refl _ _, hi, trivial⟩ | exact ⟨KeepsUp.refl _ _, hi, rfl⟩
  case hbody =>
    rintro l' pre x post a' W' hx hl' ⟨⟨hp, h2, h3, h4, h6⟩, rfl⟩
    have hin : x ∈ inners (gsD u.gs) := by rw [hx]; simp
    obtain ⟨i1, i2, i3⟩ := in_inners hin
    rw [gsD_length, hF.g8] at i1
    have AW := hA.below h6
    obtain ⟨ea, zg, zo, zc, hea, hpa, hz, hsh, hrow⟩ := AW.group (k := x) (by rw [hF.g8]; exact i1) i2 (hF.ok hc)
    obtain ⟨j, hpj, hj8, huj⟩ : ∃ j : Nat, paAt (gsD u.gs) x = (j : Int) ∧ j < 8 ∧ usAt (gsD u.gs) j = true := by
      rcases tree_step hF.tree i1 i2 with ⟨rfl, _⟩ | ⟨_, j, hp, hj, uj, _⟩
      · exact absurd rfl i3
      · exact ⟨j, hp, hj, uj⟩
    obtain ⟨eb, yg, yo, yc, heb, _, hy, hsb, hrb⟩ := AW.group (k := j) (by rw [hF.g8]; exact hj8) huj (hF.ok hc)
    obtain ⟨_, s1, _⟩ := sh_cells hrow
    have ls := block_lt_of_cell s1
    have hdr : 0 < ea.d.ba.qu → c < ea.d.ba.dr.length := fun h => by rw [hF.dr x ea hea h]; exact hc
    obtain ⟨q0, q1⟩ := h3.cells
    have lq : V.heap.size < W'.heap.size := block_lt_of_cell q0
    have acc : Below W'.heap.size W' W' := Below.refl _ _
    have HW : Hid (AtW W' pw u) := AW
    have HP : Hid (∀ j ∈ pre, qkB u.ts (gsD u.gs) c j = true) := hp
    obtain ⟨st, hst⟩ : ∃ b, (actB u.ts (gsD u.gs) (x : Int) c && !dryB ea.d.ba c) = b := ⟨_, rfl⟩
    obtain ⟨wi, hwi⟩ : ∃ b, withinB (shAt (gsD u.gs) x c).v (shAt (gsD u.gs) j c).fl (vstep 149 (shAt (gsD u.gs) x c).w) = b := ⟨_, rfl⟩
    obtain ⟨on, hon⟩ : ∃ b, (shAt (gsD u.gs) x c).on = b := ⟨_, rfl⟩
    have HTS : Hid (((leastL (timesL u.ts (gsD u.gs) (x : Int) c)).2 && !dryB ea.d.ba c) = st) := by unfold Hid; rw [active_eq]; exact hst
    have HGW : Hid (withinB (shAt (gsD u.gs) x c).v (shAt (gsD u.gs) j c).fl (vstep 149 (shAt (gsD u.gs) x c).w) = wi) := hwi
    have HQ0 : qkB u.ts (gsD u.gs) c x = ((on == st) && (!on || wi)) := by unfold qkB queueB; rw [baAt_eq hea, hst, hon, hpj, Int.toNat_natCast, hwi]
    rw [hon] at s1
    unfold QBox at h3
    clear hst hwi hon hp AW hx hrow hrb hl'
    cases on
    · cases st
      · have HQ : Hid (qkB u.ts (gsD u.gs) c x = true) := by unfold Hid; rw [HQ0]; rfl
        clear HQ0
        gi_wp2_with (first | (gi_at_call 149; refine (calls_fw (shelf_any pw x c u ea _ zg zo zc _ (hA.below h6) hea hsh hz)).mono ?_; rintro e' V1 ⟨rfl, hb1⟩; simp only [ptrO]; have s1 := (hb1.cell ls).trans s1; have q0 := (hb1.cell lq).trans q0; have q1 := (hb1.cell lq).trans q1; replace acc := acc.trans (hb1.mono acc.size); have hc3 := (Msk.cell_of_box_l (below_at acc h2)).1; have hf3 := (Msk.cell_of_box_l (below_at acc h2)).2; have lq := Nat.lt_of_lt_of_le lq hb1.size; clear hb1) | (gi_at_call 150; refine (calls_fw (toStand_any pw c x u ea _ (HW.out.below acc) (hF.ok hc) hea hdr)).mono ?_; rintro e' V2 ⟨rfl, hb1⟩; rw [HTS.out]; have q0 := (hb1.cell lq).trans q0; have q1 := (hb1.cell lq).trans q1; replace acc := acc.trans (hb1.mono acc.size); have hc3 := (Msk.cell_of_box_l (below_at acc h2)).1; have hf3 := (Msk.cell_of_box_l (below_at acc h2)).2; have lq := Nat.lt_of_lt_of_le lq hb1.size; clear hb1))
        all_goals first
        | exact absurd ‹some undef = some (Value.bool _)› (by simp [undef])
        | (refine ⟨KeepsUp.below acc, fun q hq => ?_, below_at acc h2, below_at acc h3, below_at acc h4, h6.trans (acc.mono h6.size)⟩
           rcases List.mem_append.1 hq with hq | hq
           · exact HP.out q hq
           · obtain rfl : q = x := by simpa using hq
             exact HQ.out)
      · have HQ : Hid (qkB u.ts (gsD u.gs) c x = false) := by unfold Hid; rw [HQ0]; rfl
        clear HQ0
        gi_wp2_with (first | (gi_at_call 149; refine (calls_fw (shelf_any pw x c u ea _ zg zo zc _ (hA.below h6) hea hsh hz)).mono ?_; rintro e' V1 ⟨rfl, hb1⟩; simp only [ptrO]; have s1 := (hb1.cell ls).trans s1; have q0 := (hb1.cell lq).trans q0; have q1 := (hb1.cell lq).trans q1; replace acc := acc.trans (hb1.mono acc.size); have hc3 := (Msk.cell_of_box_l (below_at acc h2)).1; have hf3 := (Msk.cell_of_box_l (below_at acc h2)).2; have lq := Nat.lt_of_lt_of_le lq hb1.size; clear hb1) | (gi_at_call 150; refine (calls_fw (toStand_any pw c x u ea _ (HW.out.below acc) (hF.ok hc) hea hdr)).mono ?_; rintro e' V2 ⟨rfl, hb1⟩; rw [HTS.out]; have q0 := (hb1.cell lq).trans q0; have q1 := (hb1.cell lq).trans q1; replace acc := acc.trans (hb1.mono acc.size); have hc3 := (Msk.cell_of_box_l (below_at acc h2)).1; have hf3 := (Msk.cell_of_box_l (below_at acc h2)).2; have lq := Nat.lt_of_lt_of_le lq hb1.size; clear hb1))
        all_goals first
        | exact absurd ‹some undef = some (Value.bool _)› (by simp [undef])
        | (have r2 := below_at acc h2
           exact ⟨(KeepsUp.below acc).trans (KeepsUp.set _ _ _ hyY), rfl, ⟨x, hin, HQ.out⟩, (show Boxed _ _ _ _ from r2).set _, (h6.trans (acc.mono h6.size)).setCell (p := ⟨w.heap.size, 0, none⟩) (by simp) _⟩)
    · cases st
      · have HQ : Hid (qkB u.ts (gsD u.gs) c x = false) := by unfold Hid; rw [HQ0]; rfl
        clear HQ0
        gi_wp2_with (first | (gi_at_call 149; refine (calls_fw (shelf_any pw x c u ea _ zg zo zc _ (hA.below h6) hea hsh hz)).mono ?_; rintro e' V1 ⟨rfl, hb1⟩; simp only [ptrO]; have s1 := (hb1.cell ls).trans s1; have q0 := (hb1.cell lq).trans q0; have q1 := (hb1.cell lq).trans q1; replace acc := acc.trans (hb1.mono acc.size); have hc3 := (Msk.cell_of_box_l (below_at acc h2)).1; have hf3 := (Msk.cell_of_box_l (below_at acc h2)).2; have lq := Nat.lt_of_lt_of_le lq hb1.size; clear hb1) | (gi_at_call 150; refine (calls_fw (toStand_any pw c x u ea _ (HW.out.below acc) (hF.ok hc) hea hdr)).mono ?_; rintro e' V2 ⟨rfl, hb1⟩; rw [HTS.out]; have q0 := (hb1.cell lq).trans q0; have q1 := (hb1.cell lq).trans q1; replace acc := acc.trans (hb1.mono acc.size); have hc3 := (Msk.cell_of_box_l (below_at acc h2)).1; have hf3 := (Msk.cell_of_box_l (below_at acc h2)).2; have lq := Nat.lt_of_lt_of_le lq hb1.size; clear hb1))
        all_goals first
        | exact absurd ‹some undef = some (Value.bool _)› (by simp [undef])
        | (have r2 := below_at acc h2
           exact ⟨(KeepsUp.below acc).trans (KeepsUp.set _ _ _ hyY), rfl, ⟨x, hin, HQ.out⟩, (show Boxed _ _ _ _ from r2).set _, (h6.trans (acc.mono h6.size)).setCell (p := ⟨w.heap.size, 0, none⟩) (by simp) _⟩)
      · cases wi
        · have HQ : Hid (qkB u.ts (gsD u.gs) c x = false) := by unfold Hid; rw [HQ0]; rfl
          clear HQ0
          gi_wp2_with (first | (gi_at_call 149; refine (calls_fw (shelf_any pw x c u ea _ zg zo zc _ (hA.below h6) hea hsh hz)).mono ?_; rintro e' V1 ⟨rfl, hb1⟩; simp only [ptrO]; have s1 := (hb1.cell ls).trans s1; have q0 := (hb1.cell lq).trans q0; have q1 := (hb1.cell lq).trans q1; replace acc := acc.trans (hb1.mono acc.size); have hc3 := (Msk.cell_of_box_l (below_at acc h2)).1; have hf3 := (Msk.cell_of_box_l (below_at acc h2)).2; have lq := Nat.lt_of_lt_of_le lq hb1.size; clear hb1) | (gi_at_call 150; refine (calls_fw (toStand_any pw c x u ea _ (HW.out.below acc) (hF.ok hc) hea hdr)).mono ?_; rintro e' V2 ⟨rfl, hb1⟩; rw [HTS.out]; have q0 := (hb1.cell lq).trans q0; have q1 := (hb1.cell lq).trans q1; replace acc := acc.trans (hb1.mono acc.size); have hc3 := (Msk.cell_of_box_l (below_at acc h2)).1; have hf3 := (Msk.cell_of_box_l (below_at acc h2)).2; have lq := Nat.lt_of_lt_of_le lq hb1.size; clear hb1) | (gi_at_call 151; refine (calls_fw (groupWithin_any pw c x j 149 u ea eb _ _ _ (HW.out.below acc) hea hsh (hpa.trans hpj) heb hsb)).mono ?_; rintro e' V3 ⟨rfl, hb1⟩; rw [HGW.out]; replace acc := acc.trans (hb1.mono acc.size); have hc3 := (Msk.cell_of_box_l (below_at acc h2)).1; have hf3 := (Msk.cell_of_box_l (below_at acc h2)).2; clear hb1))
          all_goals first
          | exact absurd ‹some undef = some (Value.bool _)› (by simp [undef])
          | (have r2 := below_at acc h2
             exact ⟨(KeepsUp.below acc).trans (KeepsUp.set _ _ _ hyY), rfl, ⟨x, hin, HQ.out⟩, (show Boxed _ _ _ _ from r2).set _, (h6.trans (acc.mono h6.size)).setCell (p := ⟨w.heap.size, 0, none⟩) (by simp) _⟩)
        · have HQ : Hid (qkB u.ts (gsD u.gs) c x = true) := by unfold Hid; rw [HQ0]; rfl
          clear HQ0
          gi_wp2_with (first | (gi_at_call 149; refine (calls_fw (shelf_any pw x c u ea _ zg zo zc _ (hA.below h6) hea hsh hz)).mono ?_; rintro e' V1 ⟨rfl, hb1⟩; simp only [ptrO]; have s1 := (hb1.cell ls).trans s1; have q0 := (hb1.cell lq).trans q0; have q1 := (hb1.cell lq).trans q1; replace acc := acc.trans (hb1.mono acc.size); have hc3 := (Msk.cell_of_box_l (below_at acc h2)).1; have hf3 := (Msk.cell_of_box_l (below_at acc h2)).2; have lq := Nat.lt_of_lt_of_le lq hb1.size; clear hb1) | (gi_at_call 150; refine (calls_fw (toStand_any pw c x u ea _ (HW.out.below acc) (hF.ok hc) hea hdr)).mono ?_; rintro e' V2 ⟨rfl, hb1⟩; rw [HTS.out]; have q0 := (hb1.cell lq).trans q0; have q1 := (hb1.cell lq).trans q1; replace acc := acc.trans (hb1.mono acc.size); have hc3 := (Msk.cell_of_box_l (below_at acc h2)).1; have hf3 := (Msk.cell_of_box_l (below_at acc h2)).2; have lq := Nat.lt_of_lt_of_le lq hb1.size; clear hb1) | (gi_at_call 151; refine (calls_fw (groupWithin_any pw c x j 149 u ea eb _ _ _ (HW.out.below acc) hea hsh (hpa.trans hpj) heb hsb)).mono ?_; rintro e' V3 ⟨rfl, hb1⟩; rw [HGW.out]; replace acc := acc.trans (hb1.mono acc.size); have hc3 := (Msk.cell_of_box_l (below_at acc h2)).1; have hf3 := (Msk.cell_of_box_l (below_at acc h2)).2; clear hb1))
          all_goals first
          | exact absurd ‹some undef = some (Value.bool _)› (by simp [undef])
          | (refine ⟨KeepsUp.below acc, fun q hq => ?_, below_at acc h2, below_at acc h3, below_at acc h4, h6.trans (acc.mono h6.size)⟩
             rcases List.mem_append.1 hq with hq | hq
             · exact HP.out q hq
             · obtain rfl : q = x := by simpa using hq
               exact HQ.out)
  case hdone =>
    rintro D W' hD ⟨hp, h2, h3, h4, h6⟩ hK
    have hc3 := (Msk.cell_of_box_l h2).1
    have hf3 := (Msk.cell_of_box_l h2).2
    have HP : Hid ((inners (gsD u.gs)).all (qkB u.ts (gsD u.gs) c) = true) := List.all_eq_true.2 (fun j hj => hp j hj)
    have hD' : w.heap.size ≤ D := Nat.le_trans wY.size hD
    have hne : D ≠ w.heap.size := by omega
    have hK' : (W'.setCell ⟨w.heap.size, 0, none⟩ (.bool true)).heap[D]? = some (.deferred (some [])) := by rw [Deep.blk_setCell_other _ _ _ _ hne]; exact hK
    have hb' : Boxed ((W'.setCell ⟨w.heap.size, 0, none⟩ (.bool true)).putObj D (.deferred none)) w.heap.size 4 (.bool true) := (World.putObj_heap_other (Ne.symm hne)).trans ((show Boxed _ _ _ _ from h2).set _)
    have hcr := hb'.cell
    clear hp h2 h3 h4 v1 v2 x0 y0 r1
    gi_wp2
    refine ⟨by simp, .inl ⟨_, _, rfl, run_takeDeferred hK', ?_⟩⟩
    refine ⟨.bool true, ?_, by rw [HP.out], (h6.setCell (p := ⟨w.heap.size, 0, none⟩) (by simp) _).trans (belowK_b (w := w) (Nat.le_refl _) _ D _ _ hD' hK' rfl rfl)⟩
    simp [results, Tryz.f112, go_sem, hcr]
  case hstop =>
    rintro D cc pre W' hD ⟨rfl, ⟨j, hj, hoff⟩, h2, h6⟩ hK
    have hD' : w.heap.size ≤ D := Nat.le_trans wY.size hD
    have hne : D ≠ w.heap.size := by omega
    have HP : Hid ((inners (gsD u.gs)).all (qkB u.ts (gsD u.gs) c) = false) := by
      unfold Hid
      rw [← Bool.not_eq_true, List.all_eq_true]
      intro hal
      have := hal j hj
      rw [hoff] at this; cases this
    have hb' : Boxed (W'.putObj D (.deferred none)) w.heap.size 4 (.bool false) := (World.putObj_heap_other (Ne.symm hne)).trans h2
    have hcr := hb'.cell
    clear v1 v2 x0 y0 r1
    gi_wp2
    refine ⟨by simp, .inl ⟨_, _, rfl, run_takeDeferred hK, ?_⟩⟩
    refine ⟨.bool false, ?_, by rw [HP.out], h6.trans (belowK_b (w := w) (Nat.le_refl _) _ D _ _ hD' hK rfl rfl)⟩
    simp [results, Tryz.f112, go_sem, hcr]
end Go.Proofs.YtnmmglkigiakaaaGreat
