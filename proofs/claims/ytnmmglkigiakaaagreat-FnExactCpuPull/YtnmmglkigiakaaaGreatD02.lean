/- Small laws on memory, of whatever program. Rows of numbers: what copies, compares, measures, marks one, and what asks whether it is held. Rows of bools: what copies, compares, measures, marks one, and what asks whether it is held. Rows of numbers and of bools that are one's own: what marks them, what asks whether they are held. Rows of structs, of whatever make: the cells of each element lie one behind the other. Rows of structs in a block of their own, or none at all. Rows of Shelfs: what copies, compares, measures and marks them; such rows that came in, opened. Rows of Cpus: what copies, compares, measures and marks them; such rows that came in, opened. Rows of Tasks: what copies, compares, measures and marks them; such rows that came in, opened. -/
import Derived.Test.YtnmmglkigiakaaaGreatD01
import Derived.Deep.Slices
import Derived.Lib.SmallJoins
import Derived.Deep.QuietTactic
import Derived.BigQuiet
import Derived.Deep.RegionHeld3
import Derived.Laws.MakeOwn
import Derived.Deep.MidRow
import Derived.Deep.AppendLies
namespace Go.Proofs.YtnmmglkigiakaaaGreat
set_option maxRecDepth 100000
set_option maxHeartbeats 32000000
set_option linter.unusedVariables false
set_option linter.unusedSimpArgs false
open Go.ChangeShapes Go.WideShapes Go.ChangeAt Go.RowKit
theorem add_none' (b o i : Nat) : (⟨b, o, none⟩ : Addr).add i = ⟨b, o + i, none⟩ := by unfold Addr.add; split <;> simp_all
theorem ret_bool {a b : Bool} (h : a = b) : Ending.returned (.bool a) = .returned (.bool b) := by rw [h]
theorem qbox {w : World} {b : Nat} {x y z v : Value} {t : TypeId} (h : w.heap[b]? = some (.cells #[x, y, z, v] t (0, 0))) :
    w.cell? ⟨b, 0, none⟩ = some x ∧ w.cell? ⟨b, 1, none⟩ = some y ∧ w.cell? ⟨b, 2, none⟩ = some z ∧ w.cell? ⟨b, 3, none⟩ = some v := by
  refine ⟨?_, ?_, ?_, ?_⟩ <;> simp [World.cell?, h]
theorem there_made (w : World) (cs : Array Value) (t : TypeId) {n : Nat} (h : cs.size = n) : (w.alloc (.cells cs t (0, 0))).there w.heap.size 0 n := by
  intro j hj
  have hb := heap_alloc_new w (.cells cs t (0, 0))
  constructor
  · unfold World.cell?; rw [hb]; simp [h, hj]
  · unfold World.frozen?; rw [hb]; simp
theorem there_below {w w' : World} {b o n : Nat} (h : w.there b o n) (hb : Below w.heap.size w w') (hlt : b < w.heap.size) : w'.there b o n := by
  intro j hj
  obtain ⟨h1, h2⟩ := h j hj
  have hk := hb.block _ hlt
  exact ⟨by rw [hb.cell hlt]; exact h1, by unfold World.frozen? at h2 ⊢; rw [hk]; exact h2⟩
theorem fbox {w : World} {b : Nat} {cs : Array Value} {t : TypeId} (h : w.heap[b]? = some (.cells cs t (0, 0))) (k : Nat) : w.frozen? ⟨b, k, none⟩ = false := by
  unfold World.frozen?; rw [h]; simp
theorem results_mid {P : Program} {fn : Func} {p : Tmp} {ty : TypeId} (h : fn.results = #[.cell p ty]) (tmps : Array Value) (w : World) (b o : Nat) (cs : List Value) (d : TypeDesc)
    (hp : tmps.getD p undef = .pointer (some ⟨b, o, none⟩)) (hc : w.rangeAt b o cs)
    (hu : P.underlying ty = some d) (hd : d.isRow = true) (hi : (P.info? ty).map (·.size) = some cs.length) :
    (results fn tmps).run P w = .ok (.agg cs.toArray) w := by
  have hp' : tmps[p]?.getD undef = .pointer (some ⟨b, o, none⟩) := by simpa using hp
  simp [results, h, hp', asAddr, run_loadVar_mid w b o ty cs d hc hu hd hi]
theorem there_set1 {W : World} {g o n b o' : Nat} {v : Value} (h : W.there g o n) : (W.setCell ⟨b, o', none⟩ v).there g o n := World.there_setCells h b o' [v]
theorem box_kept {w w2 : World} {A : Obj} (h : Below (w.alloc A).heap.size (w.alloc A) w2) : Below w.heap.size w w2 ∧ w2.heap[w.heap.size]? = some A ∧ w.heap.size < w2.heap.size := by
  have e1 : (w.alloc A).heap.size = w.heap.size + 1 := by simp
  have hs := h.size
  exact ⟨((Below.refl _ _).alloc (Nat.le_refl _) _).trans (h.mono (by omega)), (h.block _ (by omega)).trans (heap_alloc_new _ _), by omega⟩
theorem two_box {w w2 : World} {A B : Obj} (h : Below ((w.alloc A).alloc B).heap.size ((w.alloc A).alloc B) w2) :
    Below w.heap.size w w2 ∧ w.heap.size + 1 < w2.heap.size ∧ w2.heap[w.heap.size]? = some A ∧ w2.heap[w.heap.size + 1]? = some B := by
  have hs := h.size
  have e1 : (w.alloc A).heap.size = w.heap.size + 1 := by simp
  have e2 : ((w.alloc A).alloc B).heap.size = w.heap.size + 1 + 1 := by simp
  refine ⟨(((Below.refl _ _).alloc (Nat.le_refl _) _).alloc (by omega) _).trans (h.mono (by omega)), by omega, ?_, ?_⟩
  · rw [h.block _ (by omega), heap_alloc_old _ _ (by omega)]
    exact heap_alloc_new _ _
  · rw [h.block _ (by omega)]
    have := heap_alloc_new (w.alloc A) B
    rwa [e1] at this
theorem three_box {w w2 : World} {A B C : Obj} (h : Below (((w.alloc A).alloc B).alloc C).heap.size (((w.alloc A).alloc B).alloc C) w2) :
    w.heap.size + 1 + 1 < w2.heap.size ∧ w2.heap[w.heap.size + 1]? = some B ∧ w2.heap[w.heap.size + 1 + 1]? = some C := by
  have hs := h.size
  have e1 : (w.alloc A).heap.size = w.heap.size + 1 := by simp
  have e2 : ((w.alloc A).alloc B).heap.size = w.heap.size + 1 + 1 := by simp
  have e3 : (((w.alloc A).alloc B).alloc C).heap.size = w.heap.size + 1 + 1 + 1 := by simp
  refine ⟨by omega, ?_, ?_⟩
  · rw [h.block _ (by omega), heap_alloc_old _ _ (by omega)]
    have := heap_alloc_new (w.alloc A) B
    rwa [e1] at this
  · rw [h.block _ (by omega)]
    have := heap_alloc_new ((w.alloc A).alloc B) C
    rwa [e2] at this
theorem three_box' {w w2 : World} {A B C : Obj} (h : Below (((w.alloc A).alloc B).alloc C).heap.size (((w.alloc A).alloc B).alloc C) w2) :
    Below w.heap.size w w2 ∧ w.heap.size + 1 + 1 < w2.heap.size ∧ w2.heap[w.heap.size]? = some A ∧ w2.heap[w.heap.size + 1]? = some B ∧ w2.heap[w.heap.size + 1 + 1]? = some C := by
  obtain ⟨h1, h2, h3⟩ := three_box h
  have e1 : (w.alloc A).heap.size = w.heap.size + 1 := by simp
  have e2 : ((w.alloc A).alloc B).heap.size = w.heap.size + 1 + 1 := by simp
  have e3 : (((w.alloc A).alloc B).alloc C).heap.size = w.heap.size + 1 + 1 + 1 := by simp
  refine ⟨((((Below.refl _ _).alloc (Nat.le_refl _) _).alloc (by omega) _).alloc (by omega) _).trans (h.mono (by omega)), h1, ?_, h2, h3⟩
  rw [h.block _ (by omega), heap_alloc_old _ _ (by omega), heap_alloc_old _ _ (by omega)]
  exact heap_alloc_new _ _
theorem cells_2 {B b : Nat} {W W' : World} (h : Below B W W') (l : b < B) {o0 : Nat} {v0 : Value} {o1 : Nat} {v1 : Value} (h0 : W.cell? ⟨b, o0, none⟩ = some v0) (h1 : W.cell? ⟨b, o1, none⟩ = some v1) : W'.cell? ⟨b, o0, none⟩ = some v0 ∧ W'.cell? ⟨b, o1, none⟩ = some v1 := ⟨(h.cell (p := ⟨b, o0, none⟩) l).trans h0, (h.cell (p := ⟨b, o1, none⟩) l).trans h1⟩
theorem cells_3 {B b : Nat} {W W' : World} (h : Below B W W') (l : b < B) {o0 : Nat} {v0 : Value} {o1 : Nat} {v1 : Value} {o2 : Nat} {v2 : Value} (h0 : W.cell? ⟨b, o0, none⟩ = some v0) (h1 : W.cell? ⟨b, o1, none⟩ = some v1) (h2 : W.cell? ⟨b, o2, none⟩ = some v2) : W'.cell? ⟨b, o0, none⟩ = some v0 ∧ W'.cell? ⟨b, o1, none⟩ = some v1 ∧ W'.cell? ⟨b, o2, none⟩ = some v2 := ⟨(h.cell (p := ⟨b, o0, none⟩) l).trans h0, (h.cell (p := ⟨b, o1, none⟩) l).trans h1, (h.cell (p := ⟨b, o2, none⟩) l).trans h2⟩
theorem cells_4 {B b : Nat} {W W' : World} (h : Below B W W') (l : b < B) {o0 : Nat} {v0 : Value} {o1 : Nat} {v1 : Value} {o2 : Nat} {v2 : Value} {o3 : Nat} {v3 : Value} (h0 : W.cell? ⟨b, o0, none⟩ = some v0) (h1 : W.cell? ⟨b, o1, none⟩ = some v1) (h2 : W.cell? ⟨b, o2, none⟩ = some v2) (h3 : W.cell? ⟨b, o3, none⟩ = some v3) : W'.cell? ⟨b, o0, none⟩ = some v0 ∧ W'.cell? ⟨b, o1, none⟩ = some v1 ∧ W'.cell? ⟨b, o2, none⟩ = some v2 ∧ W'.cell? ⟨b, o3, none⟩ = some v3 := ⟨(h.cell (p := ⟨b, o0, none⟩) l).trans h0, (h.cell (p := ⟨b, o1, none⟩) l).trans h1, (h.cell (p := ⟨b, o2, none⟩) l).trans h2, (h.cell (p := ⟨b, o3, none⟩) l).trans h3⟩
theorem cells_5 {B b : Nat} {W W' : World} (h : Below B W W') (l : b < B) {o0 : Nat} {v0 : Value} {o1 : Nat} {v1 : Value} {o2 : Nat} {v2 : Value} {o3 : Nat} {v3 : Value} {o4 : Nat} {v4 : Value} (h0 : W.cell? ⟨b, o0, none⟩ = some v0) (h1 : W.cell? ⟨b, o1, none⟩ = some v1) (h2 : W.cell? ⟨b, o2, none⟩ = some v2) (h3 : W.cell? ⟨b, o3, none⟩ = some v3) (h4 : W.cell? ⟨b, o4, none⟩ = some v4) : W'.cell? ⟨b, o0, none⟩ = some v0 ∧ W'.cell? ⟨b, o1, none⟩ = some v1 ∧ W'.cell? ⟨b, o2, none⟩ = some v2 ∧ W'.cell? ⟨b, o3, none⟩ = some v3 ∧ W'.cell? ⟨b, o4, none⟩ = some v4 := ⟨(h.cell (p := ⟨b, o0, none⟩) l).trans h0, (h.cell (p := ⟨b, o1, none⟩) l).trans h1, (h.cell (p := ⟨b, o2, none⟩) l).trans h2, (h.cell (p := ⟨b, o3, none⟩) l).trans h3, (h.cell (p := ⟨b, o4, none⟩) l).trans h4⟩
theorem cells_6 {B b : Nat} {W W' : World} (h : Below B W W') (l : b < B) {o0 : Nat} {v0 : Value} {o1 : Nat} {v1 : Value} {o2 : Nat} {v2 : Value} {o3 : Nat} {v3 : Value} {o4 : Nat} {v4 : Value} {o5 : Nat} {v5 : Value} (h0 : W.cell? ⟨b, o0, none⟩ = some v0) (h1 : W.cell? ⟨b, o1, none⟩ = some v1) (h2 : W.cell? ⟨b, o2, none⟩ = some v2) (h3 : W.cell? ⟨b, o3, none⟩ = some v3) (h4 : W.cell? ⟨b, o4, none⟩ = some v4) (h5 : W.cell? ⟨b, o5, none⟩ = some v5) : W'.cell? ⟨b, o0, none⟩ = some v0 ∧ W'.cell? ⟨b, o1, none⟩ = some v1 ∧ W'.cell? ⟨b, o2, none⟩ = some v2 ∧ W'.cell? ⟨b, o3, none⟩ = some v3 ∧ W'.cell? ⟨b, o4, none⟩ = some v4 ∧ W'.cell? ⟨b, o5, none⟩ = some v5 := ⟨(h.cell (p := ⟨b, o0, none⟩) l).trans h0, (h.cell (p := ⟨b, o1, none⟩) l).trans h1, (h.cell (p := ⟨b, o2, none⟩) l).trans h2, (h.cell (p := ⟨b, o3, none⟩) l).trans h3, (h.cell (p := ⟨b, o4, none⟩) l).trans h4, (h.cell (p := ⟨b, o5, none⟩) l).trans h5⟩
theorem cells_7 {B b : Nat} {W W' : World} (h : Below B W W') (l : b < B) {o0 : Nat} {v0 : Value} {o1 : Nat} {v1 : Value} {o2 : Nat} {v2 : Value} {o3 : Nat} {v3 : Value} {o4 : Nat} {v4 : Value} {o5 : Nat} {v5 : Value} {o6 : Nat} {v6 : Value} (h0 : W.cell? ⟨b, o0, none⟩ = some v0) (h1 : W.cell? ⟨b, o1, none⟩ = some v1) (h2 : W.cell? ⟨b, o2, none⟩ = some v2) (h3 : W.cell? ⟨b, o3, none⟩ = some v3) (h4 : W.cell? ⟨b, o4, none⟩ = some v4) (h5 : W.cell? ⟨b, o5, none⟩ = some v5) (h6 : W.cell? ⟨b, o6, none⟩ = some v6) : W'.cell? ⟨b, o0, none⟩ = some v0 ∧ W'.cell? ⟨b, o1, none⟩ = some v1 ∧ W'.cell? ⟨b, o2, none⟩ = some v2 ∧ W'.cell? ⟨b, o3, none⟩ = some v3 ∧ W'.cell? ⟨b, o4, none⟩ = some v4 ∧ W'.cell? ⟨b, o5, none⟩ = some v5 ∧ W'.cell? ⟨b, o6, none⟩ = some v6 := ⟨(h.cell (p := ⟨b, o0, none⟩) l).trans h0, (h.cell (p := ⟨b, o1, none⟩) l).trans h1, (h.cell (p := ⟨b, o2, none⟩) l).trans h2, (h.cell (p := ⟨b, o3, none⟩) l).trans h3, (h.cell (p := ⟨b, o4, none⟩) l).trans h4, (h.cell (p := ⟨b, o5, none⟩) l).trans h5, (h.cell (p := ⟨b, o6, none⟩) l).trans h6⟩
theorem cells_8 {B b : Nat} {W W' : World} (h : Below B W W') (l : b < B) {o0 : Nat} {v0 : Value} {o1 : Nat} {v1 : Value} {o2 : Nat} {v2 : Value} {o3 : Nat} {v3 : Value} {o4 : Nat} {v4 : Value} {o5 : Nat} {v5 : Value} {o6 : Nat} {v6 : Value} {o7 : Nat} {v7 : Value} (h0 : W.cell? ⟨b, o0, none⟩ = some v0) (h1 : W.cell? ⟨b, o1, none⟩ = some v1) (h2 : W.cell? ⟨b, o2, none⟩ = some v2) (h3 : W.cell? ⟨b, o3, none⟩ = some v3) (h4 : W.cell? ⟨b, o4, none⟩ = some v4) (h5 : W.cell? ⟨b, o5, none⟩ = some v5) (h6 : W.cell? ⟨b, o6, none⟩ = some v6) (h7 : W.cell? ⟨b, o7, none⟩ = some v7) : W'.cell? ⟨b, o0, none⟩ = some v0 ∧ W'.cell? ⟨b, o1, none⟩ = some v1 ∧ W'.cell? ⟨b, o2, none⟩ = some v2 ∧ W'.cell? ⟨b, o3, none⟩ = some v3 ∧ W'.cell? ⟨b, o4, none⟩ = some v4 ∧ W'.cell? ⟨b, o5, none⟩ = some v5 ∧ W'.cell? ⟨b, o6, none⟩ = some v6 ∧ W'.cell? ⟨b, o7, none⟩ = some v7 := ⟨(h.cell (p := ⟨b, o0, none⟩) l).trans h0, (h.cell (p := ⟨b, o1, none⟩) l).trans h1, (h.cell (p := ⟨b, o2, none⟩) l).trans h2, (h.cell (p := ⟨b, o3, none⟩) l).trans h3, (h.cell (p := ⟨b, o4, none⟩) l).trans h4, (h.cell (p := ⟨b, o5, none⟩) l).trans h5, (h.cell (p := ⟨b, o6, none⟩) l).trans h6, (h.cell (p := ⟨b, o7, none⟩) l).trans h7⟩
theorem cells_9 {B b : Nat} {W W' : World} (h : Below B W W') (l : b < B) {o0 : Nat} {v0 : Value} {o1 : Nat} {v1 : Value} {o2 : Nat} {v2 : Value} {o3 : Nat} {v3 : Value} {o4 : Nat} {v4 : Value} {o5 : Nat} {v5 : Value} {o6 : Nat} {v6 : Value} {o7 : Nat} {v7 : Value} {o8 : Nat} {v8 : Value} (h0 : W.cell? ⟨b, o0, none⟩ = some v0) (h1 : W.cell? ⟨b, o1, none⟩ = some v1) (h2 : W.cell? ⟨b, o2, none⟩ = some v2) (h3 : W.cell? ⟨b, o3, none⟩ = some v3) (h4 : W.cell? ⟨b, o4, none⟩ = some v4) (h5 : W.cell? ⟨b, o5, none⟩ = some v5) (h6 : W.cell? ⟨b, o6, none⟩ = some v6) (h7 : W.cell? ⟨b, o7, none⟩ = some v7) (h8 : W.cell? ⟨b, o8, none⟩ = some v8) : W'.cell? ⟨b, o0, none⟩ = some v0 ∧ W'.cell? ⟨b, o1, none⟩ = some v1 ∧ W'.cell? ⟨b, o2, none⟩ = some v2 ∧ W'.cell? ⟨b, o3, none⟩ = some v3 ∧ W'.cell? ⟨b, o4, none⟩ = some v4 ∧ W'.cell? ⟨b, o5, none⟩ = some v5 ∧ W'.cell? ⟨b, o6, none⟩ = some v6 ∧ W'.cell? ⟨b, o7, none⟩ = some v7 ∧ W'.cell? ⟨b, o8, none⟩ = some v8 := ⟨(h.cell (p := ⟨b, o0, none⟩) l).trans h0, (h.cell (p := ⟨b, o1, none⟩) l).trans h1, (h.cell (p := ⟨b, o2, none⟩) l).trans h2, (h.cell (p := ⟨b, o3, none⟩) l).trans h3, (h.cell (p := ⟨b, o4, none⟩) l).trans h4, (h.cell (p := ⟨b, o5, none⟩) l).trans h5, (h.cell (p := ⟨b, o6, none⟩) l).trans h6, (h.cell (p := ⟨b, o7, none⟩) l).trans h7, (h.cell (p := ⟨b, o8, none⟩) l).trans h8⟩
def IntAt (W : World) (g o : Nat) (ws : List Int) : Prop := ∀ i n, ws[i]? = some n → W.cell? ⟨g, o + i, none⟩ = some (.int .i64 n)
def SlI (W : World) (x : Value) (ws : List Int) : Prop :=
  (ws = [] ∧ ∃ a cap, x = .slice a 0 cap) ∨ ∃ g o cap, x = .slice (some ⟨g, o, none⟩) ws.length cap ∧ IntAt W g o ws ∧ ws.length ≤ cap ∧ cap ≤ maxLen
theorem IntAt.below {W W' : World} {g o : Nat} {ws : List Int} (h : IntAt W g o ws) (hb : Below W.heap.size W W') : IntAt W' g o ws := by
  intro i n hn
  have h1 := h i n hn
  exact (hb.cell (block_lt_of_cell h1)).trans h1
theorem SlI.below {W W' : World} {x : Value} {ws : List Int} (h : SlI W x ws) (hb : Below W.heap.size W W') : SlI W' x ws := by
  rcases h with h | ⟨g, o, cap, h1, h2, h3, h4⟩
  · exact .inl h
  · exact .inr ⟨g, o, cap, h1, h2.below hb, h3, h4⟩
def NewI (B : Nat) (W : World) (x : Value) (ws : List Int) : Prop :=
  ∃ g, B ≤ g ∧ g < W.heap.size ∧ x = .slice (some ⟨g, 0, none⟩) ws.length ws.length ∧ IntAt W g 0 ws ∧ W.there g 0 ws.length
theorem int_get {ws : List Int} {k : Nat} (h : k < ws.length) : ∃ n, ws[k]? = some n := ⟨ws[k], List.getElem?_eq_getElem h⟩
theorem there_one {w : World} {b n k : Nat} (h : w.there b 0 n) (hk : k < n) : ∃ c, w.cell? ⟨b, k, none⟩ = some c ∧ w.frozen? ⟨b, k, none⟩ = false := by
  obtain ⟨h1, h2⟩ := h k hk
  rw [Nat.zero_add] at h1 h2
  obtain ⟨c, hc⟩ := Option.isSome_iff_exists.1 h1
  exact ⟨c, hc, h2⟩
theorem put_int {W : World} {B n k : Nat} {ws : List Int} {u : Int} (hth : W.there B 0 n) (hk : k < n) (hrow : IntAt W B 0 (ws.take k)) (he : ws[k]? = some u) :
    (W.setCell ⟨B, k, none⟩ (.int .i64 u)).there B 0 n ∧ IntAt (W.setCell ⟨B, k, none⟩ (.int .i64 u)) B 0 (ws.take (k + 1)) := by
  refine ⟨there_set1 hth, ?_⟩
  intro i x hx
  have hik : i < k + 1 := by
    rcases Nat.lt_or_ge i (k + 1) with h | h
    · exact h
    · rw [List.getElem?_eq_none (by rw [List.length_take]; omega)] at hx; cases hx
  rw [List.getElem?_take, if_pos hik] at hx
  rw [Nat.zero_add]
  by_cases hi : i = k
  · subst hi
    rw [he] at hx
    obtain rfl : u = x := Option.some.inj hx
    obtain ⟨c, hc, _⟩ := there_one hth hk
    exact World.cell?_setCell_same _ _ _ (by rw [hc]; first | done | rfl)
  · rw [World.cell?_setCell_other _ _ _ _ (fun hh => hi (congrArg Addr.off hh).symm)]
    have := hrow i x (by rw [List.getElem?_take, if_pos (by omega)]; exact hx)
    rwa [Nat.zero_add] at this
theorem info_int : (Tryz.prog.info? 3).map (fun i => (i.zero, i.size, i.bytes)) = some (some (.int .i64 0), 1, 8) := by kernel_rfl

theorem toIntS_any (sl : Value) (ws : List Int) (w : World) (hs : SlI w sl ws) (hn : ws.length ≤ 1048576) :
    Calls Tryz.prog 157 #[sl] w fun e w' => ∃ sl', e = .returned sl' ∧ NewI w.heap.size w' sl' ws ∧ Below w.heap.size w w' := by
  obtain ⟨i0, hi, hz0, hz1, hz2⟩ := info_parts info_int
  have hmk := run_make (P := Tryz.prog) w 78 3 i0 _ Tryz.underlying78 hi hz0 .i64 .i64 ws.length ws.length (by omega) (by omega) (by rw [hz2]; omega) (by omega)
  rw [hz1, Nat.mul_one] at hmk
  rcases hs with ⟨rfl, a, cap, rfl⟩ | ⟨g, o, cap, rfl, hE, hl, hm⟩
  · rw [show (((([] : List Int).length : Nat)) : Int) = 0 from rfl] at hmk
    go_enter Tryz.func157, Tryz.ntmps157
    go_wp2
    refine wp_loop_rounds 1 ?_
    rw [rounds_succ]
    go_wp2
    go_ret
    exact ⟨_, rfl, ⟨_, Nat.le_refl _, by simp, rfl, fun i e he => by simp at he, fun j hj => by simp at hj⟩, (Below.refl _ _).alloc (Nat.le_refl _) _⟩
  · unfold maxLen at hm
    go_enter Tryz.func157, Tryz.ntmps157
    go_wp2
    clear hmk
    go_loopw [4] (fun i wr => ∃ k : Nat, k ≤ ws.length ∧ i = .int .i64 k ∧ Below w.heap.size w wr ∧ w.heap.size < wr.heap.size ∧ wr.there w.heap.size 0 ws.length ∧ IntAt wr w.heap.size 0 (ws.take k)) (fun i _ => ws.length - (intOf i).toNat)
    case atStart => exact ⟨0, by omega, rfl, (Below.refl _ _).alloc (Nat.le_refl _) _, by simp, there_made _ _ _ (by simp [size_madeCells]), fun j e hj => by simp at hj⟩
    case round =>
      obtain ⟨k, hk, rfl, acc, hwz, hth, hrow⟩ := hrel
      by_cases hlt : k < ws.length
      · have hlt' : (k : Int) < (ws.length : Int) := by omega
        obtain ⟨n, he⟩ := int_get hlt
        have x0 := hE.below acc k n he
        obtain ⟨c0, k0, f0⟩ := there_one hth hlt
        obtain ⟨p1, p2⟩ := put_int (u := n) hth hlt hrow he
        go_wp2
        exact ⟨⟨k + 1, hlt, by go_num, acc.setCell (Nat.le_refl _) _, by simp only [World.size_setCell]; exact hwz, p1, p2⟩, by simp [intOf]; omega⟩
      · have hlt' : ¬ (k : Int) < (ws.length : Int) := by omega
        have hkk : k = ws.length := by omega
        rw [hkk, List.take_length] at hrow
        clear hkk
        go_wp2
        go_ret
        exact ⟨_, rfl, ⟨_, Nat.le_refl _, hwz, rfl, hrow, hth⟩, acc⟩

theorem eqIntS_same (x y : Value) (ws : List Int) (w : World) (hx : SlI w x ws) (hy : SlI w y ws) :
    Calls Tryz.prog 163 #[x, y] w fun e w' => e = .returned (.bool true) ∧ Below w.heap.size w w' := by
  rcases hx with ⟨h0, a, cap, rfl⟩ | ⟨g, o, cap, rfl, hE, hl, hm⟩
  · have : ∃ b cap', y = .slice b 0 cap' := by
      rcases hy with ⟨_, b, cap', rfl⟩ | ⟨g, o, cap', rfl, _⟩
      · exact ⟨_, _, rfl⟩
      · rw [h0]; exact ⟨_, _, rfl⟩
    obtain ⟨b, cap', rfl⟩ := this
    go_enter Tryz.func163, Tryz.ntmps163
    go_wp2
    refine wp_loop_rounds 1 ?_
    rw [rounds_succ]
    go_wp2
    go_ret
    exact ⟨rfl, Below.refl _ _⟩
  · rcases hy with ⟨h0, b, cap', rfl⟩ | ⟨g', o', cap', rfl, hE2, hl2, hm2⟩
    · rw [h0]
      go_enter Tryz.func163, Tryz.ntmps163
      go_wp2
      refine wp_loop_rounds 1 ?_
      rw [rounds_succ]
      go_wp2
      go_ret
      exact ⟨rfl, Below.refl _ _⟩
    · unfold maxLen at hm hm2
      go_enter Tryz.func163, Tryz.ntmps163
      go_wp2
      go_loopw [5] (fun i wr => ∃ k : Nat, k ≤ ws.length ∧ i = .int .i64 k ∧ Below w.heap.size w wr) (fun i _ => ws.length - (intOf i).toNat)
      case atStart => exact ⟨0, by omega, rfl, Below.refl _ _⟩
      case round =>
        obtain ⟨k, hk, rfl, acc⟩ := hrel
        by_cases hlt : k < ws.length
        · have hlt' : (k : Int) < (ws.length : Int) := by omega
          obtain ⟨n, he⟩ := int_get hlt
          have x0 := hE.below acc k n he
          have y0 := hE2.below acc k n he
          go_wp2
          go_quiet (fail)
          go_wp2
          exact ⟨⟨k + 1, hlt, by go_num, below_drewN acc _⟩, by simp [intOf]; omega⟩
        · have hlt' : ¬ (k : Int) < (ws.length : Int) := by omega
          go_wp2
          go_ret
          exact ⟨rfl, acc⟩

def BoolAt (W : World) (g o : Nat) (ws : List Bool) : Prop := ∀ i n, ws[i]? = some n → W.cell? ⟨g, o + i, none⟩ = some (.bool n)
def SlB (W : World) (x : Value) (ws : List Bool) : Prop :=
  (ws = [] ∧ ∃ a cap, x = .slice a 0 cap) ∨ ∃ g o cap, x = .slice (some ⟨g, o, none⟩) ws.length cap ∧ BoolAt W g o ws ∧ ws.length ≤ cap ∧ cap ≤ maxLen
theorem BoolAt.below {W W' : World} {g o : Nat} {ws : List Bool} (h : BoolAt W g o ws) (hb : Below W.heap.size W W') : BoolAt W' g o ws := by
  intro i n hn
  have h1 := h i n hn
  exact (hb.cell (block_lt_of_cell h1)).trans h1
theorem SlB.below {W W' : World} {x : Value} {ws : List Bool} (h : SlB W x ws) (hb : Below W.heap.size W W') : SlB W' x ws := by
  rcases h with h | ⟨g, o, cap, h1, h2, h3, h4⟩
  · exact .inl h
  · exact .inr ⟨g, o, cap, h1, h2.below hb, h3, h4⟩
def NewB (B : Nat) (W : World) (x : Value) (ws : List Bool) : Prop :=
  ∃ g, B ≤ g ∧ g < W.heap.size ∧ x = .slice (some ⟨g, 0, none⟩) ws.length ws.length ∧ BoolAt W g 0 ws ∧ W.there g 0 ws.length
theorem bool_get {ws : List Bool} {k : Nat} (h : k < ws.length) : ∃ n, ws[k]? = some n := ⟨ws[k], List.getElem?_eq_getElem h⟩
theorem put_bool {W : World} {B n k : Nat} {ws : List Bool} {u : Bool} (hth : W.there B 0 n) (hk : k < n) (hrow : BoolAt W B 0 (ws.take k)) (he : ws[k]? = some u) :
    (W.setCell ⟨B, k, none⟩ (.bool u)).there B 0 n ∧ BoolAt (W.setCell ⟨B, k, none⟩ (.bool u)) B 0 (ws.take (k + 1)) := by
  refine ⟨there_set1 hth, ?_⟩
  intro i x hx
  have hik : i < k + 1 := by
    rcases Nat.lt_or_ge i (k + 1) with h | h
    · exact h
    · rw [List.getElem?_eq_none (by rw [List.length_take]; omega)] at hx; cases hx
  rw [List.getElem?_take, if_pos hik] at hx
  rw [Nat.zero_add]
  by_cases hi : i = k
  · subst hi
    rw [he] at hx
    obtain rfl : u = x := Option.some.inj hx
    obtain ⟨c, hc, _⟩ := there_one hth hk
    exact World.cell?_setCell_same _ _ _ (by rw [hc]; first | done | rfl)
  · rw [World.cell?_setCell_other _ _ _ _ (fun hh => hi (congrArg Addr.off hh).symm)]
    have := hrow i x (by rw [List.getElem?_take, if_pos (by omega)]; exact hx)
    rwa [Nat.zero_add] at this
theorem info_bool : (Tryz.prog.info? 4).map (fun i => (i.zero, i.size, i.bytes)) = some (some (.bool false), 1, 1) := by kernel_rfl

theorem toBoolS_any (sl : Value) (ws : List Bool) (w : World) (hs : SlB w sl ws) (hn : ws.length ≤ 1048576) :
    Calls Tryz.prog 158 #[sl] w fun e w' => ∃ sl', e = .returned sl' ∧ NewB w.heap.size w' sl' ws ∧ Below w.heap.size w w' := by
  obtain ⟨i0, hi, hz0, hz1, hz2⟩ := info_parts info_bool
  have hmk := run_make (P := Tryz.prog) w 79 4 i0 _ Tryz.underlying79 hi hz0 .i64 .i64 ws.length ws.length (by omega) (by omega) (by rw [hz2]; omega) (by omega)
  rw [hz1, Nat.mul_one] at hmk
  rcases hs with ⟨rfl, a, cap, rfl⟩ | ⟨g, o, cap, rfl, hE, hl, hm⟩
  · rw [show (((([] : List Bool).length : Nat)) : Int) = 0 from rfl] at hmk
    go_enter Tryz.func158, Tryz.ntmps158
    go_wp2
    refine wp_loop_rounds 1 ?_
    rw [rounds_succ]
    go_wp2
    go_ret
    exact ⟨_, rfl, ⟨_, Nat.le_refl _, by simp, rfl, fun i e he => by simp at he, fun j hj => by simp at hj⟩, (Below.refl _ _).alloc (Nat.le_refl _) _⟩
  · unfold maxLen at hm
    go_enter Tryz.func158, Tryz.ntmps158
    go_wp2
    clear hmk
    go_loopw [4] (fun i wr => ∃ k : Nat, k ≤ ws.length ∧ i = .int .i64 k ∧ Below w.heap.size w wr ∧ w.heap.size < wr.heap.size ∧ wr.there w.heap.size 0 ws.length ∧ BoolAt wr w.heap.size 0 (ws.take k)) (fun i _ => ws.length - (intOf i).toNat)
    case atStart => exact ⟨0, by omega, rfl, (Below.refl _ _).alloc (Nat.le_refl _) _, by simp, there_made _ _ _ (by simp [size_madeCells]), fun j e hj => by simp at hj⟩
    case round =>
      obtain ⟨k, hk, rfl, acc, hwz, hth, hrow⟩ := hrel
      by_cases hlt : k < ws.length
      · have hlt' : (k : Int) < (ws.length : Int) := by omega
        obtain ⟨n, he⟩ := bool_get hlt
        have x0 := hE.below acc k n he
        obtain ⟨c0, k0, f0⟩ := there_one hth hlt
        obtain ⟨p1, p2⟩ := put_bool (u := n) hth hlt hrow he
        go_wp2
        exact ⟨⟨k + 1, hlt, by go_num, acc.setCell (Nat.le_refl _) _, by simp only [World.size_setCell]; exact hwz, p1, p2⟩, by simp [intOf]; omega⟩
      · have hlt' : ¬ (k : Int) < (ws.length : Int) := by omega
        have hkk : k = ws.length := by omega
        rw [hkk, List.take_length] at hrow
        clear hkk
        go_wp2
        go_ret
        exact ⟨_, rfl, ⟨_, Nat.le_refl _, hwz, rfl, hrow, hth⟩, acc⟩

theorem eqBoolS_same (x y : Value) (ws : List Bool) (w : World) (hx : SlB w x ws) (hy : SlB w y ws) :
    Calls Tryz.prog 164 #[x, y] w fun e w' => e = .returned (.bool true) ∧ Below w.heap.size w w' := by
  rcases hx with ⟨h0, a, cap, rfl⟩ | ⟨g, o, cap, rfl, hE, hl, hm⟩
  · have : ∃ b cap', y = .slice b 0 cap' := by
      rcases hy with ⟨_, b, cap', rfl⟩ | ⟨g, o, cap', rfl, _⟩
      · exact ⟨_, _, rfl⟩
      · rw [h0]; exact ⟨_, _, rfl⟩
    obtain ⟨b, cap', rfl⟩ := this
    go_enter Tryz.func164, Tryz.ntmps164
    go_wp2
    refine wp_loop_rounds 1 ?_
    rw [rounds_succ]
    go_wp2
    go_ret
    exact ⟨rfl, Below.refl _ _⟩
  · rcases hy with ⟨h0, b, cap', rfl⟩ | ⟨g', o', cap', rfl, hE2, hl2, hm2⟩
    · rw [h0]
      go_enter Tryz.func164, Tryz.ntmps164
      go_wp2
      refine wp_loop_rounds 1 ?_
      rw [rounds_succ]
      go_wp2
      go_ret
      exact ⟨rfl, Below.refl _ _⟩
    · unfold maxLen at hm hm2
      go_enter Tryz.func164, Tryz.ntmps164
      go_wp2
      go_loopw [5] (fun i wr => ∃ k : Nat, k ≤ ws.length ∧ i = .int .i64 k ∧ Below w.heap.size w wr) (fun i _ => ws.length - (intOf i).toNat)
      case atStart => exact ⟨0, by omega, rfl, Below.refl _ _⟩
      case round =>
        obtain ⟨k, hk, rfl, acc⟩ := hrel
        by_cases hlt : k < ws.length
        · have hlt' : (k : Int) < (ws.length : Int) := by omega
          obtain ⟨n, he⟩ := bool_get hlt
          have x0 := hE.below acc k n he
          have y0 := hE2.below acc k n he
          go_wp2
          go_quiet (fail)
          go_wp2
          exact ⟨⟨k + 1, hlt, by go_num, below_drewN acc _⟩, by simp [intOf]; omega⟩
        · have hlt' : ¬ (k : Int) < (ws.length : Int) := by omega
          go_wp2
          go_ret
          exact ⟨rfl, acc⟩

structure Kept (S : Nat → Prop) (w w' : World) : Prop where
  os : w'.os = w.os
  tape : w'.tape = w.tape
  output : w'.output = w.output
  size : w.heap.size ≤ w'.heap.size
  block : ∀ k, k < w.heap.size → ¬ S k → w'.heap[k]? = w.heap[k]?
theorem Kept.refl (S : Nat → Prop) (w : World) : Kept S w w := ⟨rfl, rfl, rfl, Nat.le_refl _, fun _ _ _ => rfl⟩
theorem Kept.trans {S T : Nat → Prop} {w w1 w2 : World} (h : Kept S w w1) (h' : Kept T w1 w2) : Kept (fun k => S k ∨ T k) w w2 :=
  ⟨h'.os.trans h.os, h'.tape.trans h.tape, h'.output.trans h.output, Nat.le_trans h.size h'.size,
   fun k hk hn => (h'.block k (Nat.lt_of_lt_of_le hk h.size) (fun x => hn (.inr x))).trans (h.block k hk (fun x => hn (.inl x)))⟩
theorem Kept.mono {S T : Nat → Prop} {w w1 : World} (h : Kept S w w1) (hs : ∀ k, S k → T k) : Kept T w w1 :=
  ⟨h.os, h.tape, h.output, h.size, fun k hk hn => h.block k hk (fun x => hn (hs k x))⟩
theorem Kept.ofGrown {w w1 : World} {r : Option Nat} (h : w.grownBy w1 r) : Kept (fun k => r = some k) w w1 :=
  ⟨h.os, h.tape, h.output, h.size, fun k hk hn => h.block k hk (fun x => hn x.symm)⟩
theorem Kept.ofBelow {w w1 : World} (h : Below w.heap.size w w1) : Kept (fun _ => False) w w1 :=
  ⟨h.os, h.tape, h.output, h.size, fun k hk _ => h.block k hk⟩
theorem Kept.toBelow {S : Nat → Prop} {w w1 : World} {B : Nat} (h : Kept S w w1) (hB : B ≤ w.heap.size) (hs : ∀ k, S k → B ≤ k) : Below B w w1 :=
  ⟨h.os, h.tape, h.output, h.size, fun k hk => h.block k (by omega) (fun x => by have := hs k x; omega)⟩
theorem Kept.there {S : Nat → Prop} {w w1 : World} {g o n : Nat} (h : Kept S w w1) (hl : g < w.heap.size) (hn : ¬ S g) (ht : w.there g o n) : w1.there g o n := by
  have hb := h.block g hl hn
  intro j hj
  obtain ⟨h1, h2⟩ := ht j hj
  exact ⟨by rw [World.cell?_of_block hb]; exact h1, by rw [World.frozen?_of_block hb]; exact h2⟩
theorem Kept.ints {S : Nat → Prop} {w w1 : World} {g o : Nat} {ws : List Int} (h : Kept S w w1) (hl : g < w.heap.size) (hn : ¬ S g) (ht : IntAt w g o ws) : IntAt w1 g o ws := by
  intro i n hi
  rw [World.cell?_of_block (h.block g hl hn)]
  exact ht i n hi
theorem Kept.bools {S : Nat → Prop} {w w1 : World} {g o : Nat} {ws : List Bool} (h : Kept S w w1) (hl : g < w.heap.size) (hn : ¬ S g) (ht : BoolAt w g o ws) : BoolAt w1 g o ws := by
  intro i n hi
  rw [World.cell?_of_block (h.block g hl hn)]
  exact ht i n hi

theorem Kept.set (w : World) (b o : Nat) (v : Value) : Kept (fun k => k = b) w (w.setCell ⟨b, o, none⟩ v) :=
  ⟨rfl, rfl, rfl, by simp [World.setCell], fun k _ hne => heap_setCell_other _ _ _ _ (fun e => hne e)⟩
def OwnI (B : Nat) (W : World) (x : Value) (ws : List Int) : Prop :=
  (ws = [] ∧ x = .slice none 0 0) ∨ ∃ g cap, B ≤ g ∧ g < W.heap.size ∧ x = .slice (some ⟨g, 0, none⟩) ws.length cap ∧ IntAt W g 0 ws ∧ W.there g 0 ws.length ∧ ws.length ≤ cap ∧ cap ≤ maxLen
def OwnB (B : Nat) (W : World) (x : Value) (ws : List Bool) : Prop :=
  (ws = [] ∧ x = .slice none 0 0) ∨ ∃ g cap, B ≤ g ∧ g < W.heap.size ∧ x = .slice (some ⟨g, 0, none⟩) ws.length cap ∧ BoolAt W g 0 ws ∧ W.there g 0 ws.length ∧ ws.length ≤ cap ∧ cap ≤ maxLen
theorem OwnI.sl {B : Nat} {W : World} {x : Value} {ws : List Int} (h : OwnI B W x ws) : SlI W x ws := by
  rcases h with ⟨h1, h2⟩ | ⟨g, cap, _, _, h1, h2, _, h3, h4⟩
  · exact .inl ⟨h1, none, 0, h2⟩
  · exact .inr ⟨g, 0, cap, h1, h2, h3, h4⟩
theorem OwnB.sl {B : Nat} {W : World} {x : Value} {ws : List Bool} (h : OwnB B W x ws) : SlB W x ws := by
  rcases h with ⟨h1, h2⟩ | ⟨g, cap, _, _, h1, h2, _, h3, h4⟩
  · exact .inl ⟨h1, none, 0, h2⟩
  · exact .inr ⟨g, 0, cap, h1, h2, h3, h4⟩
theorem OwnI.mono {B B' : Nat} {W : World} {x : Value} {ws : List Int} (h : OwnI B W x ws) (hB : B' ≤ B) : OwnI B' W x ws := by
  rcases h with h | ⟨g, cap, h0, h1⟩
  · exact .inl h
  · exact .inr ⟨g, cap, Nat.le_trans hB h0, h1⟩
theorem OwnB.mono {B B' : Nat} {W : World} {x : Value} {ws : List Bool} (h : OwnB B W x ws) (hB : B' ≤ B) : OwnB B' W x ws := by
  rcases h with h | ⟨g, cap, h0, h1⟩
  · exact .inl h
  · exact .inr ⟨g, cap, Nat.le_trans hB h0, h1⟩
theorem OwnI.kept {S : Nat → Prop} {B : Nat} {W W' : World} {x : Value} {ws : List Int} (h : OwnI B W x ws) (hk : Kept S W W') (hne : ∀ g, x.ownBlock = some g → ¬ S g) : OwnI B W' x ws := by
  rcases h with h | ⟨g, cap, h0, h1, rfl, h3, h4, h5⟩
  · exact .inl h
  · have := hne g rfl
    exact .inr ⟨g, cap, h0, Nat.lt_of_lt_of_le h1 hk.size, rfl, hk.ints h1 this h3, hk.there h1 this h4, h5⟩
theorem OwnB.kept {S : Nat → Prop} {B : Nat} {W W' : World} {x : Value} {ws : List Bool} (h : OwnB B W x ws) (hk : Kept S W W') (hne : ∀ g, x.ownBlock = some g → ¬ S g) : OwnB B W' x ws := by
  rcases h with h | ⟨g, cap, h0, h1, rfl, h3, h4, h5⟩
  · exact .inl h
  · have := hne g rfl
    exact .inr ⟨g, cap, h0, Nat.lt_of_lt_of_le h1 hk.size, rfl, hk.bools h1 this h3, hk.there h1 this h4, h5⟩
theorem OwnI.below {B : Nat} {W W' : World} {x : Value} {ws : List Int} (h : OwnI B W x ws) (hb : Below W.heap.size W W') : OwnI B W' x ws :=
  h.kept (Kept.ofBelow hb) (fun _ _ hf => hf)
theorem OwnB.below {B : Nat} {W W' : World} {x : Value} {ws : List Bool} (h : OwnB B W x ws) (hb : Below W.heap.size W W') : OwnB B W' x ws :=
  h.kept (Kept.ofBelow hb) (fun _ _ hf => hf)
theorem OwnI.at {B : Nat} {W : World} {x : Value} {ws : List Int} (h : OwnI B W x ws) : ∀ g, x.ownBlock = some g → B ≤ g ∧ g < W.heap.size := by
  intro g hg
  rcases h with ⟨_, rfl⟩ | ⟨g', cap, h0, h1, rfl, _⟩
  · simp [Value.ownBlock] at hg
  · have : g' = g := by simpa [Value.ownBlock] using hg
    subst this; exact ⟨h0, h1⟩
theorem OwnB.at {B : Nat} {W : World} {x : Value} {ws : List Bool} (h : OwnB B W x ws) : ∀ g, x.ownBlock = some g → B ≤ g ∧ g < W.heap.size := by
  intro g hg
  rcases h with ⟨_, rfl⟩ | ⟨g', cap, h0, h1, rfl, _⟩
  · simp [Value.ownBlock] at hg
  · have : g' = g := by simpa [Value.ownBlock] using hg
    subst this; exact ⟨h0, h1⟩
theorem OwnI.form {B : Nat} {W : World} {x : Value} {ws : List Int} (h : OwnI B W x ws) : ∃ p c, x = .slice p ws.length c := by
  rcases h with ⟨h1, h2⟩ | ⟨g, cap, _, _, h1, _⟩
  · exact ⟨none, 0, by rw [h1]; exact h2⟩
  · exact ⟨_, _, h1⟩
theorem OwnB.form {B : Nat} {W : World} {x : Value} {ws : List Bool} (h : OwnB B W x ws) : ∃ p c, x = .slice p ws.length c := by
  rcases h with ⟨h1, h2⟩ | ⟨g, cap, _, _, h1, _⟩
  · exact ⟨none, 0, by rw [h1]; exact h2⟩
  · exact ⟨_, _, h1⟩
end Go.Proofs.YtnmmglkigiakaaaGreat
namespace Go.Proofs.YtnmmglkigiakaaaGreat
set_option maxRecDepth 100000
set_option maxHeartbeats 32000000
set_option linter.unusedVariables false
open Go.ChangeShapes Go.WideShapes Go.ChangeAt Go.RowKit
theorem range_below {W W' : World} {g o : Nat} {cs : List Value} (h : W.rangeAt g o cs) (hb : Below W.heap.size W W') : W'.rangeAt g o cs := fun j v hv =>
  (hb.cell (block_lt_of_cell (h j v hv))).trans (h j v hv)
theorem range_kept {S : Nat → Prop} {W W' : World} {g o : Nat} {cs : List Value} (h : W.rangeAt g o cs) (hk : Kept S W W') (hn : ¬ S g) : W'.rangeAt g o cs := fun j v hv =>
  (World.cell?_of_block (hk.block g (block_lt_of_cell (h j v hv)) hn)).trans (h j v hv)
section
variable {α : Type} (c : α → List Value) (n : Nat)
def RowOf (W : World) (g o : Nat) (xs : List α) : Prop := ∀ i x, xs[i]? = some x → W.rangeAt g (o + i * n) (c x)
def SlR (W : World) (x : Value) (xs : List α) : Prop :=
  (xs = [] ∧ ∃ a cap, x = .slice a 0 cap) ∨ ∃ g o cap, x = .slice (some ⟨g, o, none⟩) xs.length cap ∧ RowOf c n W g o xs ∧ xs.length ≤ cap ∧ cap ≤ maxLen
def NewR (B : Nat) (W : World) (x : Value) (xs : List α) : Prop :=
  ∃ g, B ≤ g ∧ g < W.heap.size ∧ x = .slice (some ⟨g, 0, none⟩) xs.length xs.length ∧ RowOf c n W g 0 xs ∧ W.there g 0 (xs.length * n)
variable {c n}
theorem RowOf.below {W W' : World} {g o : Nat} {xs : List α} (h : RowOf c n W g o xs) (hb : Below W.heap.size W W') : RowOf c n W' g o xs := fun i x hx => range_below (h i x hx) hb
theorem RowOf.kept {S : Nat → Prop} {W W' : World} {g o : Nat} {xs : List α} (h : RowOf c n W g o xs) (hk : Kept S W W') (hn : ¬ S g) : RowOf c n W' g o xs := fun i x hx => range_kept (h i x hx) hk hn
theorem SlR.below {W W' : World} {x : Value} {xs : List α} (h : SlR c n W x xs) (hb : Below W.heap.size W W') : SlR c n W' x xs := by
  rcases h with h | ⟨g, o, cap, h1, h2, h3, h4⟩
  · exact .inl h
  · exact .inr ⟨g, o, cap, h1, h2.below hb, h3, h4⟩
theorem NewR.below {B : Nat} {W W' : World} {x : Value} {xs : List α} (h : NewR c n B W x xs) (hb : Below W.heap.size W W') : NewR c n B W' x xs := by
  obtain ⟨g, h1, h2, h3, h4, h5⟩ := h
  exact ⟨g, h1, Nat.lt_of_lt_of_le h2 hb.size, h3, h4.below hb, there_below h5 hb h2⟩
theorem NewR.kept {S : Nat → Prop} {B : Nat} {W W' : World} {x : Value} {xs : List α} (h : NewR c n B W x xs) (hk : Kept S W W') (hn : ∀ g, x.ownBlock = some g → ¬ S g) : NewR c n B W' x xs := by
  obtain ⟨g, h1, h2, rfl, h4, h5⟩ := h
  have hg := hn g rfl
  exact ⟨g, h1, Nat.lt_of_lt_of_le h2 hk.size, rfl, h4.kept hk hg, hk.there h2 hg h5⟩
theorem NewR.mono {B B' : Nat} {W : World} {x : Value} {xs : List α} (h : NewR c n B W x xs) (hB : B' ≤ B) : NewR c n B' W x xs := by
  obtain ⟨g, h1, h2⟩ := h
  exact ⟨g, Nat.le_trans hB h1, h2⟩
theorem NewR.sl {B : Nat} {W : World} {x : Value} {xs : List α} (h : NewR c n B W x xs) (hl : xs.length ≤ 1048576) : SlR c n W x xs := by
  obtain ⟨g, _, _, rfl, h1, _⟩ := h
  exact .inr ⟨_, _, _, rfl, h1, Nat.le_refl _, by unfold maxLen; omega⟩
theorem NewR.at {B : Nat} {W : World} {x : Value} {xs : List α} (h : NewR c n B W x xs) : ∀ g, x.ownBlock = some g → B ≤ g ∧ g < W.heap.size := by
  obtain ⟨g, h1, h2, rfl, _⟩ := h
  intro k hk
  obtain rfl : g = k := by simpa [Value.ownBlock] using hk
  exact ⟨h1, h2⟩
theorem SlR.form {W : World} {x : Value} {xs : List α} (h : SlR c n W x xs) : ∃ p q, x = .slice p xs.length q ∧ xs.length ≤ 9223372036854775807 := by
  rcases h with ⟨h0, a, cap, rfl⟩ | ⟨g, o, cap, rfl, _, h1, h2⟩
  · exact ⟨a, cap, by rw [h0]; rfl, by rw [h0]; exact Nat.zero_le _⟩
  · exact ⟨_, _, rfl, by unfold maxLen at h2; omega⟩
theorem row_get {xs : List α} {k : Nat} (h : k < xs.length) : ∃ x, xs[k]? = some x := ⟨xs[k], List.getElem?_eq_getElem h⟩
theorem put_row {W : World} {B m k : Nat} {xs : List α} {x : α} (hth : W.there B 0 (m * n)) (hk : k < m) (hrow : RowOf c n W B 0 xs) (hxs : xs.length = k) (hc : ∀ y, (c y).length = n) :
    (W.setCells B (k * n) (c x)).there B 0 (m * n) ∧ RowOf c n (W.setCells B (k * n) (c x)) B 0 (xs ++ [x]) := by
  refine ⟨World.there_setCells hth _ _ _, ?_⟩
  have hkm : (k + 1) * n ≤ m * n := Nat.mul_le_mul_right n hk
  rw [Nat.add_mul, Nat.one_mul] at hkm
  intro i y hy
  rw [Nat.zero_add]
  rcases Nat.lt_or_ge i k with hi | hi
  · rw [List.getElem?_append_left (by omega)] at hy
    have h1 := hrow i y hy
    rw [Nat.zero_add] at h1
    refine World.rangeAt_setCells_apart h1 _ _ _ (.inr (.inl ?_))
    rw [hc]
    have : (i + 1) * n ≤ k * n := Nat.mul_le_mul_right n hi
    rw [Nat.add_mul, Nat.one_mul] at this
    exact this
  · have hik : i = k := by
      rcases Nat.lt_or_ge k i with h | h
      · rw [List.getElem?_eq_none (by simp; omega)] at hy; cases hy
      · omega
    subst hik
    rw [List.getElem?_append_right (by omega), hxs, Nat.sub_self] at hy
    obtain rfl : x = y := by simpa using hy
    refine World.rangeAt_setCells_same _ _ _ _ (fun j hj => ?_)
    rw [hc] at hj
    have := hth (i * n + j) (by omega)
    rwa [Nat.zero_add] at this
theorem there_at {w : World} {b m k : Nat} (h : w.there b 0 (m * n)) (hk : k < m) (j : Nat) (hj : j < n) : ∃ v, w.cell? ⟨b, k * n + j, none⟩ = some v ∧ w.frozen? ⟨b, k * n + j, none⟩ = false := by
  have hkm : (k + 1) * n ≤ m * n := Nat.mul_le_mul_right n hk
  rw [Nat.add_mul, Nat.one_mul] at hkm
  obtain ⟨h1, h2⟩ := h (k * n + j) (by omega)
  rw [Nat.zero_add] at h1 h2
  obtain ⟨v, hv⟩ := Option.isSome_iff_exists.1 h1
  exact ⟨v, hv, h2⟩
end
section
variable {H : Type} {enc : TypeId × Value → H} {P : Program} {w : World} {base : Nat} {spare : Nat → Bool} {held : Bool}
theorem trod_field {t : TypeId} {fs : Array Field} {fuel : Nat} {cs : List Value} {y : DataW H × List MemPlace} (hs : P.underlying t = some (.struct fs)) (h : DataW.trod enc P w base spare held fuel t cs = some y) :
    ∃ n, cs.length = P.cellsOf t ∧ ∀ (k : Nat) (f : Field), fs[k]? = some f → ∃ z, DataW.trod enc P w base spare held n f.type ((cs.drop f.offset).take (P.cellsOf f.type)) = some z := by
  obtain ⟨xs, n, _, _, hl, hlen, hg⟩ := DataW.trod_struct hs h
  refine ⟨n, hl, fun k f hk => ?_⟩
  have hx : ∃ z, xs[k]? = some z := ⟨xs[k]'(by rw [hlen]; exact (Array.getElem?_eq_some_iff.1 hk).1), List.getElem?_eq_getElem _⟩
  obtain ⟨z, hz⟩ := hx
  exact ⟨z, (hg k f hk).trans hz⟩
theorem open_rows {α : Type} {c : α → List Value} {n : Nat} {R : α → Prop} {t e : TypeId} {fuel : Nat} {v : Value} {x : DataW H × List MemPlace} [Inhabited α] (ht : P.underlying t = some (.slice e)) (ce : P.cellsOf e = n) (hn : 0 < n) (hc : ∀ a, (c a).length = n)
    (hread : ∀ fuel cs y, DataW.trod enc P w base spare held fuel e cs = some y → ∃ a, cs = c a ∧ R a)
    (h : DataW.trod enc P w base spare held fuel t [v] = some x) : ∃ xs : List α, SlR c n w v xs ∧ ∀ a ∈ xs, R a := by
  rcases Deep.open_slice ht h with ⟨hcs, _⟩ | ⟨a, len, cap, m, k, D, Pl, hcs, hb, hl, hm, hmm, _, hel⟩
  · obtain rfl : v = .slice none 0 0 := by simpa using hcs
    exact ⟨[], .inl ⟨rfl, _, _, rfl⟩, fun e he => by cases he⟩
  · obtain rfl : v = .slice (some a) len cap := by simpa using hcs
    have hlm : len ≤ m := by rw [hmm]; split <;> omega
    by_cases h0 : len = 0
    · subst h0; exact ⟨[], .inl ⟨rfl, _, _, rfl⟩, fun e he => by cases he⟩
    have each : ∀ i, i < len → ∃ q : α, (∀ j u, (c q)[j]? = some u → w.cell? (a.add (i * n + j)) = some u) ∧ R q := by
      intro i hi
      obtain ⟨cs', h1, h2⟩ := hel i (by omega)
      rw [ce] at h1
      obtain ⟨_, hlen, hcell⟩ := World.cells?_some h1
      obtain ⟨q, rfl, hR⟩ := hread _ _ _ h2
      refine ⟨q, fun j u hu => ?_, hR⟩
      have hj : j < n := by rw [← hc q]; exact (List.getElem?_eq_some_iff.1 hu).1
      have k1 := hcell j (by omega)
      rw [Deep.add_add] at k1
      rw [k1]
      exact hu
    obtain ⟨q, hq⟩ := Deep.choose_lt each
    obtain ⟨g, o, spot⟩ := a
    have hspot : spot = none := by
      obtain ⟨u, hu⟩ : ∃ u, (c (q 0))[0]? = some u := ⟨(c (q 0))[0]'(by rw [hc]; exact hn), List.getElem?_eq_getElem _⟩
      have := (hq 0 (by omega)).1 0 u hu
      simpa [Addr.add] using World.cell?_spot this
    subst hspot
    refine ⟨(List.range len).map q, .inr ⟨g, o, cap, by simp, ?_, by simpa using hl, hm⟩, ?_⟩
    · intro i e' he' j u hu
      rw [List.getElem?_map] at he'
      have hi : i < len := by
        rcases Nat.lt_or_ge i len with h' | h'
        · exact h'
        · rw [List.getElem?_eq_none (by simpa using h')] at he'; cases he'
      rw [List.getElem?_range hi] at he'
      obtain rfl : q i = e' := by simpa using he'
      have := (hq i hi).1 j u hu
      rw [add_none', ← Nat.add_assoc] at this
      exact this
    · intro e' he'
      obtain ⟨i, hi, rfl⟩ := List.mem_map.1 he'
      exact (hq i (List.mem_range.1 hi)).2
end
end Go.Proofs.YtnmmglkigiakaaaGreat
namespace Go.Proofs.YtnmmglkigiakaaaGreat
set_option maxRecDepth 100000
set_option maxHeartbeats 32000000
set_option linter.unusedVariables false
open Go.ChangeShapes Go.WideShapes Go.ChangeAt Go.RowKit
section
variable {α : Type} (c : α → List Value) (n : Nat)
def OwnR (B : Nat) (W : World) (x : Value) (xs : List α) : Prop :=
  (xs = [] ∧ x = .slice none 0 0) ∨ ∃ g cap, B ≤ g ∧ g < W.heap.size ∧ x = .slice (some ⟨g, 0, none⟩) xs.length cap ∧ RowOf c n W g 0 xs ∧ W.there g 0 (xs.length * n) ∧ xs.length ≤ cap ∧ cap ≤ maxLen
variable {c n}
theorem NewR.own {B : Nat} {W : World} {x : Value} {xs : List α} (h : NewR c n B W x xs) (hn : xs.length ≤ 1048576) : OwnR c n B W x xs := by
  obtain ⟨g, h1, h2, h3, h4, h5⟩ := h
  exact .inr ⟨g, _, h1, h2, h3, h4, h5, Nat.le_refl _, by unfold maxLen; omega⟩
theorem OwnR.sl {B : Nat} {W : World} {x : Value} {xs : List α} (h : OwnR c n B W x xs) : SlR c n W x xs := by
  rcases h with ⟨h1, h2⟩ | ⟨g, cap, _, _, h1, h2, _, h3, h4⟩
  · exact .inl ⟨h1, none, 0, h2⟩
  · exact .inr ⟨g, 0, cap, h1, h2, h3, h4⟩
theorem OwnR.mono {B B' : Nat} {W : World} {x : Value} {xs : List α} (h : OwnR c n B W x xs) (hB : B' ≤ B) : OwnR c n B' W x xs := by
  rcases h with h | ⟨g, cap, h0, h1⟩
  · exact .inl h
  · exact .inr ⟨g, cap, Nat.le_trans hB h0, h1⟩
theorem OwnR.kept {S : Nat → Prop} {B : Nat} {W W' : World} {x : Value} {xs : List α} (h : OwnR c n B W x xs) (hk : Kept S W W') (hne : ∀ g, x.ownBlock = some g → ¬ S g) : OwnR c n B W' x xs := by
  rcases h with h | ⟨g, cap, h0, h1, rfl, h3, h4, h5⟩
  · exact .inl h
  · have := hne g rfl
    exact .inr ⟨g, cap, h0, Nat.lt_of_lt_of_le h1 hk.size, rfl, h3.kept hk this, hk.there h1 this h4, h5⟩
theorem OwnR.below {B : Nat} {W W' : World} {x : Value} {xs : List α} (h : OwnR c n B W x xs) (hb : Below W.heap.size W W') : OwnR c n B W' x xs :=
  h.kept (Kept.ofBelow hb) (fun _ _ hf => hf)
theorem OwnR.at {B : Nat} {W : World} {x : Value} {xs : List α} (h : OwnR c n B W x xs) : ∀ g, x.ownBlock = some g → B ≤ g ∧ g < W.heap.size := by
  intro g hg
  rcases h with ⟨_, rfl⟩ | ⟨g', cap, h0, h1, rfl, _⟩
  · simp [Value.ownBlock] at hg
  · have : g' = g := by simpa [Value.ownBlock] using hg
    subst this; exact ⟨h0, h1⟩
theorem OwnR.form {B : Nat} {W : World} {x : Value} {xs : List α} (h : OwnR c n B W x xs) : ∃ p q, x = .slice p xs.length q := by
  rcases h with ⟨h1, h2⟩ | ⟨g, cap, _, _, h1, _⟩
  · exact ⟨none, 0, by rw [h1]; exact h2⟩
  · exact ⟨_, _, h1⟩
end
end Go.Proofs.YtnmmglkigiakaaaGreat
namespace Go.Proofs.YtnmmglkigiakaaaGreat
set_option maxRecDepth 100000
set_option maxHeartbeats 32000000
set_option linter.unusedVariables false
set_option linter.unusedSimpArgs false
open Go.ChangeShapes Go.WideShapes Go.ChangeAt Go.RowKit
structure Sh where
  fl : Int
  on : Bool
  v : Int
  w : Int
  s : Int
def sh0 : Sh := ⟨0, false, 0, 0, 0⟩
def shC (e : Sh) : List Value := [.int .i64 e.fl, .bool e.on, .int .i64 e.v, .int .i64 e.w, .int .i64 e.s]
def shV (e : Sh) : Value := .agg #[.int .i64 e.fl, .bool e.on, .int .i64 e.v, .int .i64 e.w, .int .i64 e.s]
theorem shC_len (e : Sh) : (shC e).length = 5 := rfl
theorem sh_cells {W : World} {g o : Nat} {e : Sh} (h : W.rangeAt g o (shC e)) : W.cell? ⟨g, o, none⟩ = some (.int .i64 e.fl) ∧ W.cell? ⟨g, o + 1, none⟩ = some (.bool e.on) ∧ W.cell? ⟨g, o + 2, none⟩ = some (.int .i64 e.v) ∧ W.cell? ⟨g, o + 3, none⟩ = some (.int .i64 e.w) ∧ W.cell? ⟨g, o + 4, none⟩ = some (.int .i64 e.s) :=
  ⟨h 0 _ rfl, h 1 _ rfl, h 2 _ rfl, h 3 _ rfl, h 4 _ rfl⟩
abbrev SlSh := SlR shC 5
abbrev NewSh := NewR shC 5
theorem toShelf_any (x : Sh) (w : World) : Calls Tryz.prog 159 #[shV x] w fun e w' => e = .returned (shV x) ∧ Below w.heap.size w w' := by
  obtain ⟨fl, on, v, w, s⟩ := x
  unfold shV
  go_enter Tryz.func159, Tryz.ntmps159
  go_wp2
  go_returns
  exact ⟨rfl, by go_grown⟩
theorem info_sh : (Tryz.prog.info? 121).map (fun i => (i.zero, i.size, i.bytes)) = some (some (.agg #[.int .i64 0, .bool false, .int .i64 0, .int .i64 0, .int .i64 0]), 5, 40) := by kernel_rfl
theorem toShelfS_any (sl : Value) (xs : List Sh) (w : World) (hs : SlSh w sl xs) (hn : xs.length ≤ 1048576) :
    Calls Tryz.prog 119 #[sl] w fun e w' => ∃ sl', e = .returned sl' ∧ NewSh w.heap.size w' sl' xs ∧ Below w.heap.size w w' := by
  obtain ⟨i0, hi, hz0, hz1, hz2⟩ := info_parts info_sh
  have hmk := run_make (P := Tryz.prog) w 82 121 i0 _ Tryz.underlying82 hi hz0 .i64 .i64 xs.length xs.length (by omega) (by omega) (by rw [hz2]; omega) (by omega)
  rw [hz1] at hmk
  rcases hs with ⟨rfl, a, cap, rfl⟩ | ⟨g, o, cap, rfl, hE, hl, hm⟩
  · rw [show (((([] : List Sh).length : Nat)) : Int) = 0 from rfl] at hmk
    go_enter Tryz.func119, Tryz.ntmps119
    go_wp2
    refine wp_loop_rounds 1 ?_
    rw [rounds_succ]
    go_wp2
    go_ret
    exact ⟨_, rfl, ⟨_, Nat.le_refl _, by simp, rfl, fun i e he => by simp at he, fun j hj => by simp at hj⟩, (Below.refl _ _).alloc (Nat.le_refl _) _⟩
  · unfold maxLen at hm
    go_enter Tryz.func119, Tryz.ntmps119
    go_wp2
    clear hmk
    go_loopw [4] (fun i wr => ∃ k : Nat, k ≤ xs.length ∧ i = .int .i64 k ∧ Below w.heap.size w wr ∧ w.heap.size < wr.heap.size ∧ wr.there w.heap.size 0 (xs.length * 5) ∧ RowOf shC 5 wr w.heap.size 0 (xs.take k)) (fun i _ => xs.length - (intOf i).toNat)
    case atStart => exact ⟨0, by omega, rfl, (Below.refl _ _).alloc (Nat.le_refl _) _, by simp, there_made _ _ _ (size_madeCells _ _), fun j e hj => by simp at hj⟩
    case round =>
      obtain ⟨k, hk, rfl, acc, hwz, hth, hrow⟩ := hrel
      by_cases hlt : k < xs.length
      · have hlt' : (k : Int) < (xs.length : Int) := by omega
        obtain ⟨e, he⟩ := row_get hlt
        obtain ⟨x0, x1, x2, x3, x4⟩ := sh_cells (hE.below acc k e he)
        have HE : Hid (xs[k]? = some e) := he
        have HR : Hid (RowOf shC 5 wr w.heap.size 0 (xs.take k)) := hrow
        have HT : Hid (wr.there w.heap.size 0 (xs.length * 5)) := hth
        clear he hrow hth
        go_wp2_with (go_at_call 159; refine (toShelf_any e _).mono ?_; rintro e1 w2 ⟨rfl, hb2⟩; have hth2 := there_below HT.out hb2 hwz; obtain ⟨c0, k0, f0⟩ := there_at hth2 hlt 0 (by omega); obtain ⟨c1, k1, f1⟩ := there_at hth2 hlt 1 (by omega); obtain ⟨c2, k2, f2⟩ := there_at hth2 hlt 2 (by omega); obtain ⟨c3, k3, f3⟩ := there_at hth2 hlt 3 (by omega); obtain ⟨c4, k4, f4⟩ := there_at hth2 hlt 4 (by omega); simp only [Nat.add_zero] at k0 f0; have HT2 : Hid (w2.there w.heap.size 0 (xs.length * 5)) := hth2; clear hth2; unfold shV)
        obtain ⟨p1, p2⟩ := put_row (c := shC) (x := e) HT2.out hlt (HR.out.below hb2) (List.length_take_of_le hk) shC_len
        have ht : xs.take (k + 1) = xs.take k ++ [e] := by rw [List.take_add_one, HE.out]; rfl
        refine ⟨⟨k + 1, hlt, by go_num, ?_, ?_, p1, ht ▸ p2⟩, by simp [intOf]; omega⟩
        · exact ((((((acc.trans (hb2.mono acc.size))).setCell (Nat.le_refl _) _).setCell (Nat.le_refl _) _).setCell (Nat.le_refl _) _).setCell (Nat.le_refl _) _).setCell (Nat.le_refl _) _
        · simp only [World.size_setCell]; exact Nat.lt_of_lt_of_le hwz hb2.size
      · have hlt' : ¬ (k : Int) < (xs.length : Int) := by omega
        have hkk : k = xs.length := by omega
        rw [hkk, List.take_length] at hrow
        clear hkk
        go_wp2
        go_ret
        exact ⟨_, rfl, ⟨_, Nat.le_refl _, hwz, rfl, hrow, hth⟩, acc⟩
theorem eqShelf_same (x : Sh) (w : World) : Calls Tryz.prog 165 #[shV x, shV x] w fun e w' => e = .returned (.bool true) ∧ Below w.heap.size w w' := by
  obtain ⟨fl, on, v, w, s⟩ := x
  unfold shV
  go_enter Tryz.func165, Tryz.ntmps165
  go_wp2
  go_ret
  exact ⟨rfl, by go_grown⟩
theorem eqShelfS_same (x y : Value) (xs : List Sh) (w : World) (hx : SlSh w x xs) (hy : SlSh w y xs) :
    Calls Tryz.prog 125 #[x, y] w fun e w' => e = .returned (.bool true) ∧ Below w.heap.size w w' := by
  rcases hx with ⟨h0, a, cap, rfl⟩ | ⟨g, o, cap, rfl, hE, hl, hm⟩
  · have : ∃ b cap', y = .slice b 0 cap' := by
      rcases hy with ⟨_, b, cap', rfl⟩ | ⟨g, o, cap', rfl, _⟩
      · exact ⟨_, _, rfl⟩
      · rw [h0]; exact ⟨_, _, rfl⟩
    obtain ⟨b, cap', rfl⟩ := this
    go_enter Tryz.func125, Tryz.ntmps125
    go_wp2
    refine wp_loop_rounds 1 ?_
    rw [rounds_succ]
    go_wp2
    go_ret
    exact ⟨rfl, Below.refl _ _⟩
  · rcases hy with ⟨h0, b, cap', rfl⟩ | ⟨g', o', cap', rfl, hE2, hl2, hm2⟩
    · rw [h0]
      go_enter Tryz.func125, Tryz.ntmps125
      go_wp2
      refine wp_loop_rounds 1 ?_
      rw [rounds_succ]
      go_wp2
      go_ret
      exact ⟨rfl, Below.refl _ _⟩
    · unfold maxLen at hm hm2
      go_enter Tryz.func125, Tryz.ntmps125
      go_wp2
      go_loopw [5] (fun i wr => ∃ k : Nat, k ≤ xs.length ∧ i = .int .i64 k ∧ Below w.heap.size w wr) (fun i _ => xs.length - (intOf i).toNat)
      case atStart => exact ⟨0, by omega, rfl, Below.refl _ _⟩
      case round =>
        obtain ⟨k, hk, rfl, acc⟩ := hrel
        by_cases hlt : k < xs.length
        · have hlt' : (k : Int) < (xs.length : Int) := by omega
          obtain ⟨e, he⟩ := row_get hlt
          obtain ⟨x0, x1, x2, x3, x4⟩ := sh_cells (hE.below acc k e he)
          obtain ⟨y0, y1, y2, y3, y4⟩ := sh_cells (hE2.below acc k e he)
          clear he
          go_wp2_with fail
          go_region_with (go_at_call 165; refine (eqShelf_same e _).mono ?_; rintro e1 w2 ⟨rfl, hb2⟩)
          all_goals
            replace hb2 := (Below.refl _ wr).drew.trans hb2
            go_wp2
            go_roundw
            case rel => exact ⟨k + 1, by omega, by go_num, acc.trans (hb2.mono acc.size)⟩
            case measure => simp [intOf]; omega
        · have hlt' : ¬ (k : Int) < (xs.length : Int) := by omega
          go_wp2
          go_ret
          exact ⟨rfl, acc⟩
theorem read_sh {H : Type} {enc : TypeId × Value → H} {w : World} {base : Nat} {spare : Nat → Bool} {held : Bool} (fuel : Nat) (cs : List Value) (y : DataW H × List MemPlace)
    (h : DataW.trod enc Tryz.prog w base spare held fuel 157 cs = some y) : ∃ a : Sh, cs = shC a ∧ True := by
  obtain ⟨n, hl, hf⟩ := trod_field Tryz.underlying157 h
  have hl : cs.length = 5 := hl.trans (by kernel_rfl)
  match cs, hl with
  | [c0, c1, c2, c3, c4], _ =>
    obtain ⟨y0, h0⟩ := hf 0 _ rfl
    have h0 : DataW.trod enc Tryz.prog w base spare held n 3 [c0] = some y0 := h0
    obtain ⟨b0, e0, _, w0⟩ := DataW.trod_int Tryz.underlying3 h0
    obtain ⟨y1, h1⟩ := hf 1 _ rfl
    have h1 : DataW.trod enc Tryz.prog w base spare held n 4 [c1] = some y1 := h1
    obtain ⟨b1, e1, _⟩ := DataW.trod_bool Tryz.underlying4 h1
    obtain ⟨y2, h2⟩ := hf 2 _ rfl
    have h2 : DataW.trod enc Tryz.prog w base spare held n 3 [c2] = some y2 := h2
    obtain ⟨b2, e2, _, w2⟩ := DataW.trod_int Tryz.underlying3 h2
    obtain ⟨y3, h3⟩ := hf 3 _ rfl
    have h3 : DataW.trod enc Tryz.prog w base spare held n 3 [c3] = some y3 := h3
    obtain ⟨b3, e3, _, w3⟩ := DataW.trod_int Tryz.underlying3 h3
    obtain ⟨y4, h4⟩ := hf 4 _ rfl
    have h4 : DataW.trod enc Tryz.prog w base spare held n 3 [c4] = some y4 := h4
    obtain ⟨b4, e4, _, w4⟩ := DataW.trod_int Tryz.underlying3 h4
    simp at e0 e1 e2 e3 e4
    subst e0 e1 e2 e3 e4
    exact ⟨⟨b0, b1, b2, b3, b4⟩, rfl, trivial⟩
theorem trod_shS {H : Type} {enc : TypeId × Value → H} {w : World} {base : Nat} {spare : Nat → Bool} {held : Bool} {fuel : Nat} {v : Value} {y : DataW H × List MemPlace}
    (h : DataW.trod enc Tryz.prog w base spare held fuel 92 [v] = some y) : ∃ xs, SlSh w v xs := by
  have inh : Inhabited Sh := ⟨sh0⟩
  obtain ⟨xs, h1, _⟩ := open_rows (c := shC) (R := fun _ => True) Tryz.underlying92 (show Tryz.prog.cellsOf 157 = 5 by kernel_rfl) (by omega) shC_len read_sh h
  exact ⟨xs, h1⟩
structure Cp where
  up : Bool
  cur : Int
  ran : Int
  busy : Int
  idle : Int
def cp0 : Cp := ⟨false, 0, 0, 0, 0⟩
def cpC (e : Cp) : List Value := [.bool e.up, .int .i64 e.cur, .int .i64 e.ran, .int .i64 e.busy, .int .i64 e.idle]
def cpV (e : Cp) : Value := .agg #[.bool e.up, .int .i64 e.cur, .int .i64 e.ran, .int .i64 e.busy, .int .i64 e.idle]
theorem cpC_len (e : Cp) : (cpC e).length = 5 := rfl
theorem cp_cells {W : World} {g o : Nat} {e : Cp} (h : W.rangeAt g o (cpC e)) : W.cell? ⟨g, o, none⟩ = some (.bool e.up) ∧ W.cell? ⟨g, o + 1, none⟩ = some (.int .i64 e.cur) ∧ W.cell? ⟨g, o + 2, none⟩ = some (.int .i64 e.ran) ∧ W.cell? ⟨g, o + 3, none⟩ = some (.int .i64 e.busy) ∧ W.cell? ⟨g, o + 4, none⟩ = some (.int .i64 e.idle) :=
  ⟨h 0 _ rfl, h 1 _ rfl, h 2 _ rfl, h 3 _ rfl, h 4 _ rfl⟩
abbrev SlCp := SlR cpC 5
abbrev NewCp := NewR cpC 5
theorem toCpu_any (x : Cp) (w : World) : Calls Tryz.prog 73 #[cpV x] w fun e w' => e = .returned (cpV x) ∧ Below w.heap.size w w' := by
  obtain ⟨up, cur, ran, busy, idle⟩ := x
  unfold cpV
  go_enter Tryz.func73, Tryz.ntmps73
  go_wp2
  go_returns
  exact ⟨rfl, by go_grown⟩
theorem info_cp : (Tryz.prog.info? 70).map (fun i => (i.zero, i.size, i.bytes)) = some (some (.agg #[.bool false, .int .i64 0, .int .i64 0, .int .i64 0, .int .i64 0]), 5, 40) := by kernel_rfl
theorem toCpuS_any (sl : Value) (xs : List Cp) (w : World) (hs : SlCp w sl xs) (hn : xs.length ≤ 1048576) :
    Calls Tryz.prog 35 #[sl] w fun e w' => ∃ sl', e = .returned sl' ∧ NewCp w.heap.size w' sl' xs ∧ Below w.heap.size w w' := by
  obtain ⟨i0, hi, hz0, hz1, hz2⟩ := info_parts info_cp
  have hmk := run_make (P := Tryz.prog) w 29 70 i0 _ Tryz.underlying29 hi hz0 .i64 .i64 xs.length xs.length (by omega) (by omega) (by rw [hz2]; omega) (by omega)
  rw [hz1] at hmk
  rcases hs with ⟨rfl, a, cap, rfl⟩ | ⟨g, o, cap, rfl, hE, hl, hm⟩
  · rw [show (((([] : List Cp).length : Nat)) : Int) = 0 from rfl] at hmk
    go_enter Tryz.func35, Tryz.ntmps35
    go_wp2
    refine wp_loop_rounds 1 ?_
    rw [rounds_succ]
    go_wp2
    go_ret
    exact ⟨_, rfl, ⟨_, Nat.le_refl _, by simp, rfl, fun i e he => by simp at he, fun j hj => by simp at hj⟩, (Below.refl _ _).alloc (Nat.le_refl _) _⟩
  · unfold maxLen at hm
    go_enter Tryz.func35, Tryz.ntmps35
    go_wp2
    clear hmk
    go_loopw [4] (fun i wr => ∃ k : Nat, k ≤ xs.length ∧ i = .int .i64 k ∧ Below w.heap.size w wr ∧ w.heap.size < wr.heap.size ∧ wr.there w.heap.size 0 (xs.length * 5) ∧ RowOf cpC 5 wr w.heap.size 0 (xs.take k)) (fun i _ => xs.length - (intOf i).toNat)
    case atStart => exact ⟨0, by omega, rfl, (Below.refl _ _).alloc (Nat.le_refl _) _, by simp, there_made _ _ _ (size_madeCells _ _), fun j e hj => by simp at hj⟩
    case round =>
      obtain ⟨k, hk, rfl, acc, hwz, hth, hrow⟩ := hrel
      by_cases hlt : k < xs.length
      · have hlt' : (k : Int) < (xs.length : Int) := by omega
        obtain ⟨e, he⟩ := row_get hlt
        obtain ⟨x0, x1, x2, x3, x4⟩ := cp_cells (hE.below acc k e he)
        have HE : Hid (xs[k]? = some e) := he
        have HR : Hid (RowOf cpC 5 wr w.heap.size 0 (xs.take k)) := hrow
        have HT : Hid (wr.there w.heap.size 0 (xs.length * 5)) := hth
        clear he hrow hth
        go_wp2_with (go_at_call 73; refine (toCpu_any e _).mono ?_; rintro e1 w2 ⟨rfl, hb2⟩; have hth2 := there_below HT.out hb2 hwz; obtain ⟨c0, k0, f0⟩ := there_at hth2 hlt 0 (by omega); obtain ⟨c1, k1, f1⟩ := there_at hth2 hlt 1 (by omega); obtain ⟨c2, k2, f2⟩ := there_at hth2 hlt 2 (by omega); obtain ⟨c3, k3, f3⟩ := there_at hth2 hlt 3 (by omega); obtain ⟨c4, k4, f4⟩ := there_at hth2 hlt 4 (by omega); simp only [Nat.add_zero] at k0 f0; have HT2 : Hid (w2.there w.heap.size 0 (xs.length * 5)) := hth2; clear hth2; unfold cpV)
        obtain ⟨p1, p2⟩ := put_row (c := cpC) (x := e) HT2.out hlt (HR.out.below hb2) (List.length_take_of_le hk) cpC_len
        have ht : xs.take (k + 1) = xs.take k ++ [e] := by rw [List.take_add_one, HE.out]; rfl
        refine ⟨⟨k + 1, hlt, by go_num, ?_, ?_, p1, ht ▸ p2⟩, by simp [intOf]; omega⟩
        · exact ((((((acc.trans (hb2.mono acc.size))).setCell (Nat.le_refl _) _).setCell (Nat.le_refl _) _).setCell (Nat.le_refl _) _).setCell (Nat.le_refl _) _).setCell (Nat.le_refl _) _
        · simp only [World.size_setCell]; exact Nat.lt_of_lt_of_le hwz hb2.size
      · have hlt' : ¬ (k : Int) < (xs.length : Int) := by omega
        have hkk : k = xs.length := by omega
        rw [hkk, List.take_length] at hrow
        clear hkk
        go_wp2
        go_ret
        exact ⟨_, rfl, ⟨_, Nat.le_refl _, hwz, rfl, hrow, hth⟩, acc⟩
theorem eqCpu_same (x : Cp) (w : World) : Calls Tryz.prog 79 #[cpV x, cpV x] w fun e w' => e = .returned (.bool true) ∧ Below w.heap.size w w' := by
  obtain ⟨up, cur, ran, busy, idle⟩ := x
  unfold cpV
  go_enter Tryz.func79, Tryz.ntmps79
  go_wp2
  go_ret
  exact ⟨rfl, by go_grown⟩
theorem eqCpuS_same (x y : Value) (xs : List Cp) (w : World) (hx : SlCp w x xs) (hy : SlCp w y xs) :
    Calls Tryz.prog 41 #[x, y] w fun e w' => e = .returned (.bool true) ∧ Below w.heap.size w w' := by
  rcases hx with ⟨h0, a, cap, rfl⟩ | ⟨g, o, cap, rfl, hE, hl, hm⟩
  · have : ∃ b cap', y = .slice b 0 cap' := by
      rcases hy with ⟨_, b, cap', rfl⟩ | ⟨g, o, cap', rfl, _⟩
      · exact ⟨_, _, rfl⟩
      · rw [h0]; exact ⟨_, _, rfl⟩
    obtain ⟨b, cap', rfl⟩ := this
    go_enter Tryz.func41, Tryz.ntmps41
    go_wp2
    refine wp_loop_rounds 1 ?_
    rw [rounds_succ]
    go_wp2
    go_ret
    exact ⟨rfl, Below.refl _ _⟩
  · rcases hy with ⟨h0, b, cap', rfl⟩ | ⟨g', o', cap', rfl, hE2, hl2, hm2⟩
    · rw [h0]
      go_enter Tryz.func41, Tryz.ntmps41
      go_wp2
      refine wp_loop_rounds 1 ?_
      rw [rounds_succ]
      go_wp2
      go_ret
      exact ⟨rfl, Below.refl _ _⟩
    · unfold maxLen at hm hm2
      go_enter Tryz.func41, Tryz.ntmps41
      go_wp2
      go_loopw [5] (fun i wr => ∃ k : Nat, k ≤ xs.length ∧ i = .int .i64 k ∧ Below w.heap.size w wr) (fun i _ => xs.length - (intOf i).toNat)
      case atStart => exact ⟨0, by omega, rfl, Below.refl _ _⟩
      case round =>
        obtain ⟨k, hk, rfl, acc⟩ := hrel
        by_cases hlt : k < xs.length
        · have hlt' : (k : Int) < (xs.length : Int) := by omega
          obtain ⟨e, he⟩ := row_get hlt
          obtain ⟨x0, x1, x2, x3, x4⟩ := cp_cells (hE.below acc k e he)
          obtain ⟨y0, y1, y2, y3, y4⟩ := cp_cells (hE2.below acc k e he)
          clear he
          go_wp2_with fail
          go_region_with (go_at_call 79; refine (eqCpu_same e _).mono ?_; rintro e1 w2 ⟨rfl, hb2⟩)
          all_goals
            replace hb2 := (Below.refl _ wr).drew.trans hb2
            go_wp2
            go_roundw
            case rel => exact ⟨k + 1, by omega, by go_num, acc.trans (hb2.mono acc.size)⟩
            case measure => simp [intOf]; omega
        · have hlt' : ¬ (k : Int) < (xs.length : Int) := by omega
          go_wp2
          go_ret
          exact ⟨rfl, acc⟩
theorem read_cp {H : Type} {enc : TypeId × Value → H} {w : World} {base : Nat} {spare : Nat → Bool} {held : Bool} (fuel : Nat) (cs : List Value) (y : DataW H × List MemPlace)
    (h : DataW.trod enc Tryz.prog w base spare held fuel 96 cs = some y) : ∃ a : Cp, cs = cpC a ∧ True := by
  obtain ⟨n, hl, hf⟩ := trod_field Tryz.underlying96 h
  have hl : cs.length = 5 := hl.trans (by kernel_rfl)
  match cs, hl with
  | [c0, c1, c2, c3, c4], _ =>
    obtain ⟨y0, h0⟩ := hf 0 _ rfl
    have h0 : DataW.trod enc Tryz.prog w base spare held n 4 [c0] = some y0 := h0
    obtain ⟨b0, e0, _⟩ := DataW.trod_bool Tryz.underlying4 h0
    obtain ⟨y1, h1⟩ := hf 1 _ rfl
    have h1 : DataW.trod enc Tryz.prog w base spare held n 3 [c1] = some y1 := h1
    obtain ⟨b1, e1, _, w1⟩ := DataW.trod_int Tryz.underlying3 h1
    obtain ⟨y2, h2⟩ := hf 2 _ rfl
    have h2 : DataW.trod enc Tryz.prog w base spare held n 3 [c2] = some y2 := h2
    obtain ⟨b2, e2, _, w2⟩ := DataW.trod_int Tryz.underlying3 h2
    obtain ⟨y3, h3⟩ := hf 3 _ rfl
    have h3 : DataW.trod enc Tryz.prog w base spare held n 3 [c3] = some y3 := h3
    obtain ⟨b3, e3, _, w3⟩ := DataW.trod_int Tryz.underlying3 h3
    obtain ⟨y4, h4⟩ := hf 4 _ rfl
    have h4 : DataW.trod enc Tryz.prog w base spare held n 3 [c4] = some y4 := h4
    obtain ⟨b4, e4, _, w4⟩ := DataW.trod_int Tryz.underlying3 h4
    simp at e0 e1 e2 e3 e4
    subst e0 e1 e2 e3 e4
    exact ⟨⟨b0, b1, b2, b3, b4⟩, rfl, trivial⟩
theorem trod_cpS {H : Type} {enc : TypeId × Value → H} {w : World} {base : Nat} {spare : Nat → Bool} {held : Bool} {fuel : Nat} {v : Value} {y : DataW H × List MemPlace}
    (h : DataW.trod enc Tryz.prog w base spare held fuel 22 [v] = some y) : ∃ xs, SlCp w v xs := by
  have inh : Inhabited Cp := ⟨cp0⟩
  obtain ⟨xs, h1, _⟩ := open_rows (c := cpC) (R := fun _ => True) Tryz.underlying22 (show Tryz.prog.cellsOf 96 = 5 by kernel_rfl) (by omega) cpC_len read_cp h
  exact ⟨xs, h1⟩
structure Tk where
  st : Int
  gr : Int
  cpu : Int
  ni : Int
  ma : Int
  v : Int
  su : Int
  us : Int
  lo : Int
def tk0 : Tk := ⟨0, 0, 0, 0, 0, 0, 0, 0, 0⟩
def tkC (e : Tk) : List Value := [.int .i64 e.st, .int .i64 e.gr, .int .i64 e.cpu, .int .i64 e.ni, .int .i64 e.ma, .int .i64 e.v, .int .i64 e.su, .int .i64 e.us, .int .i64 e.lo]
def tkV (e : Tk) : Value := .agg #[.int .i64 e.st, .int .i64 e.gr, .int .i64 e.cpu, .int .i64 e.ni, .int .i64 e.ma, .int .i64 e.v, .int .i64 e.su, .int .i64 e.us, .int .i64 e.lo]
theorem tkC_len (e : Tk) : (tkC e).length = 9 := rfl
theorem tk_cells {W : World} {g o : Nat} {e : Tk} (h : W.rangeAt g o (tkC e)) : W.cell? ⟨g, o, none⟩ = some (.int .i64 e.st) ∧ W.cell? ⟨g, o + 1, none⟩ = some (.int .i64 e.gr) ∧ W.cell? ⟨g, o + 2, none⟩ = some (.int .i64 e.cpu) ∧ W.cell? ⟨g, o + 3, none⟩ = some (.int .i64 e.ni) ∧ W.cell? ⟨g, o + 4, none⟩ = some (.int .i64 e.ma) ∧ W.cell? ⟨g, o + 5, none⟩ = some (.int .i64 e.v) ∧ W.cell? ⟨g, o + 6, none⟩ = some (.int .i64 e.su) ∧ W.cell? ⟨g, o + 7, none⟩ = some (.int .i64 e.us) ∧ W.cell? ⟨g, o + 8, none⟩ = some (.int .i64 e.lo) :=
  ⟨h 0 _ rfl, h 1 _ rfl, h 2 _ rfl, h 3 _ rfl, h 4 _ rfl, h 5 _ rfl, h 6 _ rfl, h 7 _ rfl, h 8 _ rfl⟩
abbrev SlTk := SlR tkC 9
abbrev NewTk := NewR tkC 9
theorem toTask_any (x : Tk) (w : World) : Calls Tryz.prog 74 #[tkV x] w fun e w' => e = .returned (tkV x) ∧ Below w.heap.size w w' := by
  obtain ⟨st, gr, cpu, ni, ma, v, su, us, lo⟩ := x
  unfold tkV
  go_enter Tryz.func74, Tryz.ntmps74
  go_wp2
  go_returns
  exact ⟨rfl, by go_grown⟩
theorem info_tk : (Tryz.prog.info? 68).map (fun i => (i.zero, i.size, i.bytes)) = some (some (.agg #[.int .i64 0, .int .i64 0, .int .i64 0, .int .i64 0, .int .i64 0, .int .i64 0, .int .i64 0, .int .i64 0, .int .i64 0]), 9, 72) := by kernel_rfl
theorem toTaskS_any (sl : Value) (xs : List Tk) (w : World) (hs : SlTk w sl xs) (hn : xs.length ≤ 1048576) :
    Calls Tryz.prog 36 #[sl] w fun e w' => ∃ sl', e = .returned sl' ∧ NewTk w.heap.size w' sl' xs ∧ Below w.heap.size w w' := by
  obtain ⟨i0, hi, hz0, hz1, hz2⟩ := info_parts info_tk
  have hmk := run_make (P := Tryz.prog) w 30 68 i0 _ Tryz.underlying30 hi hz0 .i64 .i64 xs.length xs.length (by omega) (by omega) (by rw [hz2]; omega) (by omega)
  rw [hz1] at hmk
  rcases hs with ⟨rfl, a, cap, rfl⟩ | ⟨g, o, cap, rfl, hE, hl, hm⟩
  · rw [show (((([] : List Tk).length : Nat)) : Int) = 0 from rfl] at hmk
    go_enter Tryz.func36, Tryz.ntmps36
    go_wp2
    refine wp_loop_rounds 1 ?_
    rw [rounds_succ]
    go_wp2
    go_ret
    exact ⟨_, rfl, ⟨_, Nat.le_refl _, by simp, rfl, fun i e he => by simp at he, fun j hj => by simp at hj⟩, (Below.refl _ _).alloc (Nat.le_refl _) _⟩
  · unfold maxLen at hm
    go_enter Tryz.func36, Tryz.ntmps36
    go_wp2
    clear hmk
    go_loopw [4] (fun i wr => ∃ k : Nat, k ≤ xs.length ∧ i = .int .i64 k ∧ Below w.heap.size w wr ∧ w.heap.size < wr.heap.size ∧ wr.there w.heap.size 0 (xs.length * 9) ∧ RowOf tkC 9 wr w.heap.size 0 (xs.take k)) (fun i _ => xs.length - (intOf i).toNat)
    case atStart => exact ⟨0, by omega, rfl, (Below.refl _ _).alloc (Nat.le_refl _) _, by simp, there_made _ _ _ (size_madeCells _ _), fun j e hj => by simp at hj⟩
    case round =>
      obtain ⟨k, hk, rfl, acc, hwz, hth, hrow⟩ := hrel
      by_cases hlt : k < xs.length
      · have hlt' : (k : Int) < (xs.length : Int) := by omega
        obtain ⟨e, he⟩ := row_get hlt
        obtain ⟨x0, x1, x2, x3, x4, x5, x6, x7, x8⟩ := tk_cells (hE.below acc k e he)
        have HE : Hid (xs[k]? = some e) := he
        have HR : Hid (RowOf tkC 9 wr w.heap.size 0 (xs.take k)) := hrow
        have HT : Hid (wr.there w.heap.size 0 (xs.length * 9)) := hth
        clear he hrow hth
        go_wp2_with (go_at_call 74; refine (toTask_any e _).mono ?_; rintro e1 w2 ⟨rfl, hb2⟩; have hth2 := there_below HT.out hb2 hwz; obtain ⟨c0, k0, f0⟩ := there_at hth2 hlt 0 (by omega); obtain ⟨c1, k1, f1⟩ := there_at hth2 hlt 1 (by omega); obtain ⟨c2, k2, f2⟩ := there_at hth2 hlt 2 (by omega); obtain ⟨c3, k3, f3⟩ := there_at hth2 hlt 3 (by omega); obtain ⟨c4, k4, f4⟩ := there_at hth2 hlt 4 (by omega); obtain ⟨c5, k5, f5⟩ := there_at hth2 hlt 5 (by omega); obtain ⟨c6, k6, f6⟩ := there_at hth2 hlt 6 (by omega); obtain ⟨c7, k7, f7⟩ := there_at hth2 hlt 7 (by omega); obtain ⟨c8, k8, f8⟩ := there_at hth2 hlt 8 (by omega); simp only [Nat.add_zero] at k0 f0; have HT2 : Hid (w2.there w.heap.size 0 (xs.length * 9)) := hth2; clear hth2; unfold tkV)
        obtain ⟨p1, p2⟩ := put_row (c := tkC) (x := e) HT2.out hlt (HR.out.below hb2) (List.length_take_of_le hk) tkC_len
        have ht : xs.take (k + 1) = xs.take k ++ [e] := by rw [List.take_add_one, HE.out]; rfl
        refine ⟨⟨k + 1, hlt, by go_num, ?_, ?_, p1, ht ▸ p2⟩, by simp [intOf]; omega⟩
        · exact ((((((((((acc.trans (hb2.mono acc.size))).setCell (Nat.le_refl _) _).setCell (Nat.le_refl _) _).setCell (Nat.le_refl _) _).setCell (Nat.le_refl _) _).setCell (Nat.le_refl _) _).setCell (Nat.le_refl _) _).setCell (Nat.le_refl _) _).setCell (Nat.le_refl _) _).setCell (Nat.le_refl _) _
        · simp only [World.size_setCell]; exact Nat.lt_of_lt_of_le hwz hb2.size
      · have hlt' : ¬ (k : Int) < (xs.length : Int) := by omega
        have hkk : k = xs.length := by omega
        rw [hkk, List.take_length] at hrow
        clear hkk
        go_wp2
        go_ret
        exact ⟨_, rfl, ⟨_, Nat.le_refl _, hwz, rfl, hrow, hth⟩, acc⟩
theorem eqTask_same (x : Tk) (w : World) : Calls Tryz.prog 80 #[tkV x, tkV x] w fun e w' => e = .returned (.bool true) ∧ Below w.heap.size w w' := by
  obtain ⟨st, gr, cpu, ni, ma, v, su, us, lo⟩ := x
  unfold tkV
  go_enter Tryz.func80, Tryz.ntmps80
  go_wp2
  go_ret
  exact ⟨rfl, by go_grown⟩
theorem eqTaskS_same (x y : Value) (xs : List Tk) (w : World) (hx : SlTk w x xs) (hy : SlTk w y xs) :
    Calls Tryz.prog 42 #[x, y] w fun e w' => e = .returned (.bool true) ∧ Below w.heap.size w w' := by
  rcases hx with ⟨h0, a, cap, rfl⟩ | ⟨g, o, cap, rfl, hE, hl, hm⟩
  · have : ∃ b cap', y = .slice b 0 cap' := by
      rcases hy with ⟨_, b, cap', rfl⟩ | ⟨g, o, cap', rfl, _⟩
      · exact ⟨_, _, rfl⟩
      · rw [h0]; exact ⟨_, _, rfl⟩
    obtain ⟨b, cap', rfl⟩ := this
    go_enter Tryz.func42, Tryz.ntmps42
    go_wp2
    refine wp_loop_rounds 1 ?_
    rw [rounds_succ]
    go_wp2
    go_ret
    exact ⟨rfl, Below.refl _ _⟩
  · rcases hy with ⟨h0, b, cap', rfl⟩ | ⟨g', o', cap', rfl, hE2, hl2, hm2⟩
    · rw [h0]
      go_enter Tryz.func42, Tryz.ntmps42
      go_wp2
      refine wp_loop_rounds 1 ?_
      rw [rounds_succ]
      go_wp2
      go_ret
      exact ⟨rfl, Below.refl _ _⟩
    · unfold maxLen at hm hm2
      go_enter Tryz.func42, Tryz.ntmps42
      go_wp2
      go_loopw [5] (fun i wr => ∃ k : Nat, k ≤ xs.length ∧ i = .int .i64 k ∧ Below w.heap.size w wr) (fun i _ => xs.length - (intOf i).toNat)
      case atStart => exact ⟨0, by omega, rfl, Below.refl _ _⟩
      case round =>
        obtain ⟨k, hk, rfl, acc⟩ := hrel
        by_cases hlt : k < xs.length
        · have hlt' : (k : Int) < (xs.length : Int) := by omega
          obtain ⟨e, he⟩ := row_get hlt
          obtain ⟨x0, x1, x2, x3, x4, x5, x6, x7, x8⟩ := tk_cells (hE.below acc k e he)
          obtain ⟨y0, y1, y2, y3, y4, y5, y6, y7, y8⟩ := tk_cells (hE2.below acc k e he)
          clear he
          go_wp2_with fail
          go_region_with (go_at_call 80; refine (eqTask_same e _).mono ?_; rintro e1 w2 ⟨rfl, hb2⟩)
          all_goals
            replace hb2 := (Below.refl _ wr).drew.trans hb2
            go_wp2
            go_roundw
            case rel => exact ⟨k + 1, by omega, by go_num, acc.trans (hb2.mono acc.size)⟩
            case measure => simp [intOf]; omega
        · have hlt' : ¬ (k : Int) < (xs.length : Int) := by omega
          go_wp2
          go_ret
          exact ⟨rfl, acc⟩
theorem read_tk {H : Type} {enc : TypeId × Value → H} {w : World} {base : Nat} {spare : Nat → Bool} {held : Bool} (fuel : Nat) (cs : List Value) (y : DataW H × List MemPlace)
    (h : DataW.trod enc Tryz.prog w base spare held fuel 98 cs = some y) : ∃ a : Tk, cs = tkC a ∧ True := by
  obtain ⟨n, hl, hf⟩ := trod_field Tryz.underlying98 h
  have hl : cs.length = 9 := hl.trans (by kernel_rfl)
  match cs, hl with
  | [c0, c1, c2, c3, c4, c5, c6, c7, c8], _ =>
    obtain ⟨y0, h0⟩ := hf 0 _ rfl
    have h0 : DataW.trod enc Tryz.prog w base spare held n 3 [c0] = some y0 := h0
    obtain ⟨b0, e0, _, w0⟩ := DataW.trod_int Tryz.underlying3 h0
    obtain ⟨y1, h1⟩ := hf 1 _ rfl
    have h1 : DataW.trod enc Tryz.prog w base spare held n 3 [c1] = some y1 := h1
    obtain ⟨b1, e1, _, w1⟩ := DataW.trod_int Tryz.underlying3 h1
    obtain ⟨y2, h2⟩ := hf 2 _ rfl
    have h2 : DataW.trod enc Tryz.prog w base spare held n 3 [c2] = some y2 := h2
    obtain ⟨b2, e2, _, w2⟩ := DataW.trod_int Tryz.underlying3 h2
    obtain ⟨y3, h3⟩ := hf 3 _ rfl
    have h3 : DataW.trod enc Tryz.prog w base spare held n 3 [c3] = some y3 := h3
    obtain ⟨b3, e3, _, w3⟩ := DataW.trod_int Tryz.underlying3 h3
    obtain ⟨y4, h4⟩ := hf 4 _ rfl
    have h4 : DataW.trod enc Tryz.prog w base spare held n 3 [c4] = some y4 := h4
    obtain ⟨b4, e4, _, w4⟩ := DataW.trod_int Tryz.underlying3 h4
    obtain ⟨y5, h5⟩ := hf 5 _ rfl
    have h5 : DataW.trod enc Tryz.prog w base spare held n 3 [c5] = some y5 := h5
    obtain ⟨b5, e5, _, w5⟩ := DataW.trod_int Tryz.underlying3 h5
    obtain ⟨y6, h6⟩ := hf 6 _ rfl
    have h6 : DataW.trod enc Tryz.prog w base spare held n 3 [c6] = some y6 := h6
    obtain ⟨b6, e6, _, w6⟩ := DataW.trod_int Tryz.underlying3 h6
    obtain ⟨y7, h7⟩ := hf 7 _ rfl
    have h7 : DataW.trod enc Tryz.prog w base spare held n 3 [c7] = some y7 := h7
    obtain ⟨b7, e7, _, w7⟩ := DataW.trod_int Tryz.underlying3 h7
    obtain ⟨y8, h8⟩ := hf 8 _ rfl
    have h8 : DataW.trod enc Tryz.prog w base spare held n 3 [c8] = some y8 := h8
    obtain ⟨b8, e8, _, w8⟩ := DataW.trod_int Tryz.underlying3 h8
    simp at e0 e1 e2 e3 e4 e5 e6 e7 e8
    subst e0 e1 e2 e3 e4 e5 e6 e7 e8
    exact ⟨⟨b0, b1, b2, b3, b4, b5, b6, b7, b8⟩, rfl, trivial⟩
theorem trod_tkS {H : Type} {enc : TypeId × Value → H} {w : World} {base : Nat} {spare : Nat → Bool} {held : Bool} {fuel : Nat} {v : Value} {y : DataW H × List MemPlace}
    (h : DataW.trod enc Tryz.prog w base spare held fuel 23 [v] = some y) : ∃ xs, SlTk w v xs := by
  have inh : Inhabited Tk := ⟨tk0⟩
  obtain ⟨xs, h1, _⟩ := open_rows (c := tkC) (R := fun _ => True) Tryz.underlying23 (show Tryz.prog.cellsOf 98 = 9 by kernel_rfl) (by omega) tkC_len read_tk h
  exact ⟨xs, h1⟩
end Go.Proofs.YtnmmglkigiakaaaGreat
