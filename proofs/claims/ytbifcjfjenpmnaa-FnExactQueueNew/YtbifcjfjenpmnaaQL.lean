/- Contracts of the statements' own functions on queues: what copies one, what compares two. -/
import Derived.Test.YtbifcjfjenpmnaaQS
import Derived.Laws.MakeOwn
import Derived.Handy
import Derived.Deep.MidRow
namespace Go.Proofs.Ytbifcjfjenpmnaa
open Go.ChangeShapes Go.WideShapes Go.ChangeAt Go.RowKit

def entV (e : Ent) : Value := .agg #[.bool e.on, .int .i64 e.v, .int .i64 e.w, .int .i64 e.s]
set_option maxHeartbeats 2000000 in
theorem toEntry_any (x : Ent) (w : World) :
    Calls Try.prog 76 #[entV x] w fun e w' => e = .returned (entV x) ∧ Below w.heap.size w w' := by
  obtain ⟨on, v, n, s⟩ := x
  unfold entV
  go_enter Try.func76, Try.ntmps76
  go_wp2
  go_returns
  exact ⟨rfl, (((Below.refl _ _).alloc (Nat.le_refl _) _).alloc (by simp) _).alloc (by simp; omega) _⟩

theorem info_ent : (Try.prog.info? 32).map (fun i => (i.zero, i.size, i.bytes)) = some (some (.agg #[.bool false, .int .i64 0, .int .i64 0, .int .i64 0]), 4, 32) := by kernel_rfl
theorem there_made (w : World) (cs : Array Value) (t : TypeId) {n : Nat} (h : cs.size = n) : (w.alloc (.cells cs t (0, 0))).there w.heap.size 0 n := by
  intro j hj
  have hb := heap_alloc_new w (.cells cs t (0, 0))
  constructor
  · unfold World.cell?; rw [hb]; simp [h, hj]
  · unfold World.frozen?; rw [hb]; simp
theorem there_below {w w' : World} {b o n : Nat} (h : w.there b o n) (hb : Below w.heap.size w w') (hlt : b < w.heap.size) : w'.there b o n := by
  intro j hj
  obtain ⟨h1, h2⟩ := h j hj
  have hk := hb.block _ hlt
  exact ⟨by rw [hb.cell hlt]; exact h1, by unfold World.frozen? at h2 ⊢; rw [hk]; exact h2⟩
theorem there_four {w : World} {b n k : Nat} (h : w.there b 0 (n * 4)) (hk : k < n) :
    (∃ c, w.cell? ⟨b, k * 4, none⟩ = some c ∧ w.frozen? ⟨b, k * 4, none⟩ = false) ∧ (∃ c, w.cell? ⟨b, k * 4 + 1, none⟩ = some c ∧ w.frozen? ⟨b, k * 4 + 1, none⟩ = false) ∧
    (∃ c, w.cell? ⟨b, k * 4 + 2, none⟩ = some c ∧ w.frozen? ⟨b, k * 4 + 2, none⟩ = false) ∧ (∃ c, w.cell? ⟨b, k * 4 + 3, none⟩ = some c ∧ w.frozen? ⟨b, k * 4 + 3, none⟩ = false) := by
  have get : ∀ j, j < n * 4 → ∃ c, w.cell? ⟨b, j, none⟩ = some c ∧ w.frozen? ⟨b, j, none⟩ = false := by
    intro j hj
    obtain ⟨h1, h2⟩ := h j hj
    rw [Nat.zero_add] at h1 h2
    obtain ⟨c, hc⟩ := Option.isSome_iff_exists.1 h1
    exact ⟨c, hc, h2⟩
  exact ⟨get _ (by omega), get _ (by omega), get _ (by omega), get _ (by omega)⟩
/-- a slice that holds these entries in a block of its own, not below B. -/
def NewE (B : Nat) (W : World) (x : Value) (es : List Ent) : Prop :=
  ∃ g, B ≤ g ∧ g < W.heap.size ∧ x = .slice (some ⟨g, 0, none⟩) es.length es.length ∧ EntAt W g 0 es ∧ W.there g 0 (es.length * 4)
theorem NewE.sl {B : Nat} {W : World} {x : Value} {es : List Ent} (h : NewE B W x es) (hn : es.length ≤ 1048576) : SlE W x es := by
  obtain ⟨g, _, _, rfl, h1, _⟩ := h
  exact .inr ⟨_, _, _, rfl, h1, Nat.le_refl _, by unfold maxLen; omega⟩
theorem NewE.below {B : Nat} {W W' : World} {x : Value} {es : List Ent} (h : NewE B W x es) (hb : Below W.heap.size W W') : NewE B W' x es := by
  obtain ⟨g, h1, h2, h3, h4, h5⟩ := h
  exact ⟨g, h1, Nat.lt_of_lt_of_le h2 hb.size, h3, h4.below hb, there_below h5 hb h2⟩
theorem NewE.mono {B B' : Nat} {W : World} {x : Value} {es : List Ent} (h : NewE B W x es) (hB : B' ≤ B) : NewE B' W x es := by
  obtain ⟨g, h1, h2⟩ := h
  exact ⟨g, Nat.le_trans hB h1, h2⟩
def entCells (e : Ent) : List Value := [.bool e.on, .int .i64 e.v, .int .i64 e.w, .int .i64 e.s]
theorem ent_range {W : World} {g o : Nat} {e : Ent} : W.rangeAt g o (entCells e) ↔
    W.cell? ⟨g, o, none⟩ = some (.bool e.on) ∧ W.cell? ⟨g, o + 1, none⟩ = some (.int .i64 e.v) ∧ W.cell? ⟨g, o + 2, none⟩ = some (.int .i64 e.w) ∧ W.cell? ⟨g, o + 3, none⟩ = some (.int .i64 e.s) := by
  constructor
  · intro h
    exact ⟨h 0 _ rfl, h 1 _ rfl, h 2 _ rfl, h 3 _ rfl⟩
  · rintro ⟨h0, h1, h2, h3⟩ j v hv
    match j, hv with
    | 0, hv => obtain rfl : _ = v := by simpa [entCells] using hv
               exact h0
    | 1, hv => obtain rfl : _ = v := by simpa [entCells] using hv
               exact h1
    | 2, hv => obtain rfl : _ = v := by simpa [entCells] using hv
               exact h2
    | 3, hv => obtain rfl : _ = v := by simpa [entCells] using hv
               exact h3
    | j + 4, hv => simp [entCells] at hv
/-- an entry put into a row of entries. -/
theorem put_ent {W : World} {B n k : Nat} {es : List Ent} {e : Ent} (hth : W.there B 0 (n * 4)) (hk : k < n) (hrow : EntAt W B 0 (es.take k)) (he : es[k]? = some e) :
    (W.setCells B (k * 4) (entCells e)).there B 0 (n * 4) ∧ EntAt (W.setCells B (k * 4) (entCells e)) B 0 (es.take (k + 1)) := by
  refine ⟨World.there_setCells hth _ _ _, ?_⟩
  intro i x hx
  rw [← ent_range, Nat.zero_add]
  by_cases hi : i = k
  · subst hi
    have hxe : x = e := by
      rw [List.getElem?_take, if_pos (by omega), he] at hx
      exact (Option.some.inj hx).symm
    rw [hxe]
    refine World.rangeAt_setCells_same _ _ _ _ (fun j hj => ?_)
    have hj4 : j < 4 := hj
    have := hth (i * 4 + j) (by omega)
    rwa [Nat.zero_add] at this
  · have hik : i < k := by
      rcases Nat.lt_or_ge i (k + 1) with h | h
      · omega
      · rw [List.getElem?_eq_none (by rw [List.length_take]; omega)] at hx; cases hx
    have hx' : (es.take k)[i]? = some x := by
      rw [List.getElem?_take, if_pos (by omega)] at hx
      rw [List.getElem?_take, if_pos hik]; exact hx
    have := hrow i x hx'
    rw [← ent_range, Nat.zero_add] at this
    exact World.rangeAt_setCells_apart this _ _ _ (.inr (.inl (by show i * 4 + 4 ≤ k * 4; omega)))
set_option maxHeartbeats 2000000 in
theorem toEntryS_any (sl : Value) (es : List Ent) (w : World) (hs : SlE w sl es) (hn : es.length ≤ 1048576) :
    Calls Try.prog 52 #[sl] w fun e w' => ∃ sl', e = .returned sl' ∧ NewE w.heap.size w' sl' es ∧ Below w.heap.size w w' := by
  obtain ⟨i0, hi, hz0, hz1, hz2⟩ := info_parts info_ent
  have hmk := run_make (P := Try.prog) w 23 32 i0 _ Try.underlying23 hi hz0 .i64 .i64 es.length es.length (by omega) (by omega) (by rw [hz2]; omega) (by omega)
  rw [hz1] at hmk
  rcases hs with ⟨rfl, a, cap, rfl⟩ | ⟨g, o, cap, rfl, hE, hl, hm⟩
  · rw [show (((([] : List Ent).length : Nat)) : Int) = 0 from rfl] at hmk
    go_enter Try.func52, Try.ntmps52
    go_wp2
    refine wp_loop_rounds 1 ?_
    rw [rounds_succ]
    go_wp2
    go_ret
    exact ⟨_, rfl, ⟨_, Nat.le_refl _, by simp, rfl, fun i e he => by simp at he, fun j hj => by simp at hj⟩, (Below.refl _ _).alloc (Nat.le_refl _) _⟩
  · unfold maxLen at hm
    go_enter Try.func52, Try.ntmps52
    go_wp2
    clear hmk
    go_loopw [4] (fun i wr => ∃ k : Nat, k ≤ es.length ∧ i = .int .i64 k ∧ Below w.heap.size w wr ∧ w.heap.size < wr.heap.size ∧ wr.there w.heap.size 0 (es.length * 4) ∧ EntAt wr w.heap.size 0 (es.take k)) (fun i _ => es.length - (intOf i).toNat)
    case atStart => exact ⟨0, by omega, rfl, (Below.refl _ _).alloc (Nat.le_refl _) _, by simp, there_made _ _ _ (size_madeCells _ _), fun j e hj => by simp at hj⟩
    case round =>
      obtain ⟨k, hk, rfl, acc, hwz, hth, hrow⟩ := hrel
      by_cases hlt : k < es.length
      · have hlt' : (k : Int) < (es.length : Int) := by omega
        obtain ⟨e, he, ho, hv⟩ := ent_get hlt
        have hE' := hE.below acc
        obtain ⟨x0, x1, x2, x3⟩ := hE' k e he
        go_wp2_with (go_at_call 76; refine (toEntry_any e _).mono ?_; rintro e1 w2 ⟨rfl, hb2⟩; have hth2 := there_below hth hb2 hwz; obtain ⟨⟨c0, k0, f0⟩, ⟨c1, k1, f1⟩, ⟨c2, k2, f2⟩, ⟨c3, k3, f3⟩⟩ := there_four hth2 hlt; unfold entV)
        obtain ⟨p1, p2⟩ := put_ent (e := e) hth2 hlt (hrow.below hb2) he
        refine ⟨⟨k + 1, hlt, by go_num, ?_, ?_, p1, p2⟩, by simp [intOf]; omega⟩
        · exact ((((acc.trans (hb2.mono acc.size)).setCell (Nat.le_refl _) _).setCell (Nat.le_refl _) _).setCell (Nat.le_refl _) _).setCell (Nat.le_refl _) _
        · simp only [World.size_setCell]; exact Nat.lt_of_lt_of_le hwz hb2.size
      · have hlt' : ¬ (k : Int) < (es.length : Int) := by omega
        have hkk : k = es.length := by omega
        rw [hkk, List.take_length] at hrow
        clear hkk
        go_wp2
        go_ret
        exact ⟨_, rfl, ⟨_, Nat.le_refl _, hwz, rfl, hrow, hth⟩, acc⟩

def quV (q : Qu) (sl : Value) : Value := .agg #[.int .i64 q.fl, .int .i64 q.cu, .int .i64 q.rn, sl]
theorem fbox {w : World} {b : Nat} {cs : Array Value} {t : TypeId} (h : w.heap[b]? = some (.cells cs t (0, 0))) (k : Nat) : w.frozen? ⟨b, k, none⟩ = false := by
  unfold World.frozen?; rw [h]; simp
theorem three_box {w w2 : World} {A B C : Obj} (h : Below (((w.alloc A).alloc B).alloc C).heap.size (((w.alloc A).alloc B).alloc C) w2) :
    w.heap.size + 1 + 1 < w2.heap.size ∧ w2.heap[w.heap.size + 1]? = some B ∧ w2.heap[w.heap.size + 1 + 1]? = some C := by
  have hs := h.size
  have e1 : (w.alloc A).heap.size = w.heap.size + 1 := by simp
  have e2 : ((w.alloc A).alloc B).heap.size = w.heap.size + 1 + 1 := by simp
  have e3 : (((w.alloc A).alloc B).alloc C).heap.size = w.heap.size + 1 + 1 + 1 := by simp
  refine ⟨by omega, ?_, ?_⟩
  · rw [h.block _ (by omega), heap_alloc_old _ _ (by omega)]
    have := heap_alloc_new (w.alloc A) B
    rwa [e1] at this
  · rw [h.block _ (by omega)]
    have := heap_alloc_new ((w.alloc A).alloc B) C
    rwa [e2] at this
theorem results_mid {P : Program} {fn : Func} {p : Tmp} {ty : TypeId} (h : fn.results = #[.cell p ty]) (tmps : Array Value) (w : World) (b o : Nat) (cs : List Value) (d : TypeDesc)
    (hp : tmps.getD p undef = .pointer (some ⟨b, o, none⟩)) (hc : w.rangeAt b o cs)
    (hu : P.underlying ty = some d) (hd : d.isRow = true) (hi : (P.info? ty).map (·.size) = some cs.length) :
    (results fn tmps).run P w = .ok (.agg cs.toArray) w := by
  have hp' : tmps[p]?.getD undef = .pointer (some ⟨b, o, none⟩) := by simpa using hp
  simp [results, h, hp', asAddr, run_loadVar_mid w b o ty cs d hc hu hd hi]
theorem info_qu : (Try.prog.info? 25).map (·.size) = some 4 := by kernel_rfl
theorem ent_apart {W : World} {g o b o' : Nat} {es : List Ent} {vs : List Value} (hne : b ≠ g) (h : EntAt W g o es) : EntAt (W.setCells b o' vs) g o es := by
  intro i e he
  rw [← ent_range]
  exact World.rangeAt_setCells_apart (ent_range.2 (h i e he)) _ _ _ (.inl (Ne.symm hne))
theorem ent_apart1 {W : World} {g o b o' : Nat} {es : List Ent} {v : Value} (hne : b ≠ g) (h : EntAt W g o es) : EntAt (W.setCell ⟨b, o', none⟩ v) g o es :=
  ent_apart (vs := [v]) hne h
theorem there_set1 {W : World} {g o n b o' : Nat} {v : Value} (h : W.there g o n) : (W.setCell ⟨b, o', none⟩ v).there g o n := World.there_setCells h b o' [v]
set_option maxHeartbeats 2000000 in
theorem toQueue_any (q : Qu) (sl : Value) (w : World) (hs : SlE w sl q.es) (hn : q.es.length ≤ 1048576) :
    Calls Try.prog 17 #[quV q sl] w fun e w' => ∃ sl', e = .returned (quV q sl') ∧ NewE w.heap.size w' sl' q.es ∧ Below w.heap.size w w' := by
  obtain ⟨fl, cu, rn, es⟩ := q
  unfold quV
  dsimp only at *
  go_enter Try.func17, Try.ntmps17
  go_wp2_with (go_at_call 52; refine (toEntryS_any sl es _ (hs.below ((((Below.refl _ _).alloc (Nat.le_refl _) _).alloc (by simp) _).alloc (by simp; omega) _)) hn).mono ?_; rintro e1 w2 ⟨sl', rfl, hN, hb2⟩; obtain ⟨g, h1, h2, rfl, h4⟩ := hN; obtain ⟨hs1, hE1, hE2⟩ := three_box hb2; obtain ⟨q0, q1, q2, q3⟩ := qbox hE2; have f3 := fbox hE2 3; obtain ⟨r0, r1, r2, r3⟩ := qbox hE1; have g0 := fbox hE1 0; have g1 := fbox hE1 1; have g2 := fbox hE1 2; have g3 := fbox hE1 3; clear hE1 hE2)
  have hg : w.heap.size + 1 + 1 < g := by simp at h1; omega
  have hb3 : Below w.heap.size w w2 := ((((Below.refl _ _).alloc (Nat.le_refl _) _).alloc (by simp) _).alloc (by simp; omega) _).trans (hb2.mono (by simp; omega))
  have hth : (w2.setCell ⟨w.heap.size + 1 + 1, 3, none⟩ (.slice (some ⟨g, 0, none⟩) es.length es.length)).there (w.heap.size + 1) 0 4 := by
    have n1 : ∀ x y, (⟨w.heap.size + 1 + 1, 3, none⟩ : Addr) ≠ ⟨w.heap.size + 1, x, y⟩ := fun x y hh => by
      have := congrArg Addr.block hh; simp at this
    intro j hj
    rw [Nat.zero_add, World.cell?_setCell_other _ _ _ _ (n1 _ _), World.frozen?_setCell]
    match j, hj with
    | 0, _ => exact ⟨by rw [r0]; rfl, g0⟩
    | 1, _ => exact ⟨by rw [r1]; rfl, g1⟩
    | 2, _ => exact ⟨by rw [r2]; rfl, g2⟩
    | 3, _ => exact ⟨by rw [r3]; rfl, g3⟩
  refine bodyPost_ret (results_mid rfl _ _ (w.heap.size + 1) 0 [.int .i64 fl, .int .i64 cu, .int .i64 rn, .slice (some ⟨g, 0, none⟩) es.length es.length] _ rfl (World.rangeAt_setCells_same _ _ _ _ hth) Try.underlying25 rfl info_qu) rfl ?_
  refine ⟨_, rfl, ?_, ?_⟩
  · refine ⟨g, by omega, ?_, rfl, ?_, ?_⟩
    · simp only [World.size_setCell]; exact h2
    · exact ent_apart1 (by omega) (ent_apart1 (by omega) (ent_apart1 (by omega) (ent_apart1 (by omega) (ent_apart1 (by omega) h4.1))))
    · exact there_set1 (there_set1 (there_set1 (there_set1 (there_set1 h4.2))))
  · refine ((((hb3.setCell ?_ _).setCell ?_ _).setCell ?_ _).setCell ?_ _).setCell ?_ _ <;> simp <;> omega
set_option maxHeartbeats 2000000 in
theorem eqEntry_same (x : Ent) (w : World) :
    Calls Try.prog 79 #[entV x, entV x] w fun e w' => e = .returned (.bool true) ∧ Below w.heap.size w w' := by
  obtain ⟨on, v, n, s⟩ := x
  unfold entV
  go_enter Try.func79, Try.ntmps79
  go_wp2
  go_ret
  exact ⟨rfl, ((Below.refl _ _).alloc (Nat.le_refl _) _).alloc (by simp) _⟩
end Go.Proofs.Ytbifcjfjenpmnaa
