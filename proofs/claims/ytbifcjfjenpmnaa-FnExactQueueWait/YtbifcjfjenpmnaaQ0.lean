/- A queue as plain data, and what is done with it: the specification's functions on queues as plain functions on lists. -/
import Derived.Test.YtbifcjfjenpmnaaW
import Derived.Deep.Slices
import Derived.Lib.SmallJoins
namespace Go.Proofs.Ytbifcjfjenpmnaa
open Go.ChangeShapes Go.WideShapes Go.ChangeAt Go.RowKit

structure Ent where
  on : Bool
  v : Int
  w : Int
  s : Int
structure Qu where
  fl : Int
  cu : Int
  rn : Int
  es : List Ent

/-- the entries lie in memory from offset o of block g on. -/
def EntAt (W : World) (g o : Nat) (es : List Ent) : Prop :=
  ∀ i e, es[i]? = some e → W.cell? ⟨g, o + i * 4, none⟩ = some (.bool e.on) ∧ W.cell? ⟨g, o + i * 4 + 1, none⟩ = some (.int .i64 e.v) ∧ W.cell? ⟨g, o + i * 4 + 2, none⟩ = some (.int .i64 e.w) ∧ W.cell? ⟨g, o + i * 4 + 3, none⟩ = some (.int .i64 e.s)
/-- each number of an entry is an int. -/
def EntWf (es : List Ent) : Prop := ∀ e ∈ es, (Lit.int .i64 e.v).wf = true ∧ (Lit.int .i64 e.w).wf = true ∧ (Lit.int .i64 e.s).wf = true
/-- a slice that holds these entries. -/
def SlE (W : World) (x : Value) (es : List Ent) : Prop :=
  (es = [] ∧ ∃ a cap, x = .slice a 0 cap) ∨ ∃ g o cap, x = .slice (some ⟨g, o, none⟩) es.length cap ∧ EntAt W g o es ∧ es.length ≤ cap ∧ cap ≤ maxLen

theorem EntAt.below {W W' : World} {g o : Nat} {es : List Ent} (h : EntAt W g o es) (hb : Below W.heap.size W W') : EntAt W' g o es := by
  intro i e he
  obtain ⟨h1, h2, h3, h4⟩ := h i e he
  exact ⟨(hb.cell (block_lt_of_cell h1)).trans h1, (hb.cell (block_lt_of_cell h2)).trans h2, (hb.cell (block_lt_of_cell h3)).trans h3, (hb.cell (block_lt_of_cell h4)).trans h4⟩
theorem SlE.below {W W' : World} {x : Value} {es : List Ent} (h : SlE W x es) (hb : Below W.heap.size W W') : SlE W' x es := by
  rcases h with h | ⟨g, o, cap, h1, h2, h3, h4⟩
  · exact .inl h
  · exact .inr ⟨g, o, cap, h1, h2.below hb, h3, h4⟩

theorem add_none' (b o i : Nat) : (⟨b, o, none⟩ : Addr).add i = ⟨b, o + i, none⟩ := by unfold Addr.add; split <;> simp_all

section
variable {H : Type} {enc : TypeId × Value → H} {P : Program} {w : World} {base : Nat} {spare : Nat → Bool} {held : Bool}
/-- a slice of entries that came in, opened. -/
theorem open_ents {t e : TypeId} {f0 f1 f2 f3 : Field} {fuel : Nat} {v : Value} {x : DataW H × List MemPlace} (ht : P.underlying t = some (.slice e)) (he : P.underlying e = some (.struct #[f0, f1, f2, f3]))
    (o0 : f0.offset = 0) (o1 : f1.offset = 1) (o2 : f2.offset = 2) (o3 : f3.offset = 3) (c0 : P.cellsOf f0.type = 1) (c1 : P.cellsOf f1.type = 1) (c2 : P.cellsOf f2.type = 1) (c3 : P.cellsOf f3.type = 1)
    (ce : P.cellsOf e = 4) (u0 : P.underlying f0.type = some .bool) (u1 : P.underlying f1.type = some (.int .i64)) (u2 : P.underlying f2.type = some (.int .i64)) (u3 : P.underlying f3.type = some (.int .i64))
    (h : DataW.trod enc P w base spare held fuel t [v] = some x) : ∃ es, SlE w v es ∧ EntWf es := by
  rcases Deep.open_slice ht h with ⟨hcs, _⟩ | ⟨a, len, cap, m, n, D, Pl, hcs, hb, hl, hm, hmm, _, hel⟩
  · obtain rfl : v = .slice none 0 0 := by simpa using hcs
    exact ⟨[], .inl ⟨rfl, _, _, rfl⟩, fun e he => by cases he⟩
  · obtain rfl : v = .slice (some a) len cap := by simpa using hcs
    have hlm : len ≤ m := by rw [hmm]; split <;> omega
    by_cases h0 : len = 0
    · subst h0; exact ⟨[], .inl ⟨rfl, _, _, rfl⟩, fun e he => by cases he⟩
    have each : ∀ i, i < len → ∃ q : Ent, (w.cell? (a.add (i * 4)) = some (.bool q.on) ∧ w.cell? (a.add (i * 4 + 1)) = some (.int .i64 q.v) ∧ w.cell? (a.add (i * 4 + 2)) = some (.int .i64 q.w) ∧ w.cell? (a.add (i * 4 + 3)) = some (.int .i64 q.s)) ∧
        (Lit.int .i64 q.v).wf = true ∧ (Lit.int .i64 q.w).wf = true ∧ (Lit.int .i64 q.s).wf = true := by
      intro i hi
      obtain ⟨cs', h1, h2⟩ := hel i (by omega)
      rw [ce] at h1
      obtain ⟨_, hlen, hcell⟩ := World.cells?_some h1
      obtain ⟨y0, y1, y2, y3, k, _, _, g0, g1, g2, g3⟩ := Joins.trod_struct4 he h2
      match cs', hlen with
      | [v0, v1, v2, v3], _ =>
        simp [o0, c0] at g0
        simp [o1, c1] at g1
        simp [o2, c2] at g2
        simp [o3, c3] at g3
        obtain ⟨b0, e0, _⟩ := DataW.trod_bool u0 g0
        obtain ⟨b1, e1, _, x1⟩ := DataW.trod_int u1 g1
        obtain ⟨b2, e2, _, x2⟩ := DataW.trod_int u2 g2
        obtain ⟨b3, e3, _, x3⟩ := DataW.trod_int u3 g3
        simp at e0 e1 e2 e3
        subst e0 e1 e2 e3
        have k0 := hcell 0 (by omega)
        have k1 := hcell 1 (by omega)
        have k2 := hcell 2 (by omega)
        have k3 := hcell 3 (by omega)
        rw [Deep.add_add] at k0 k1 k2 k3
        exact ⟨⟨b0, b1, b2, b3⟩, ⟨by simpa using k0, by simpa using k1, by simpa using k2, by simpa using k3⟩, x1, x2, x3⟩
    have inh : Inhabited Ent := ⟨⟨false, 0, 0, 0⟩⟩
    obtain ⟨q, hq⟩ := Deep.choose_lt each
    obtain ⟨g, o, spot⟩ := a
    have hspot : spot = none := by
      have := (hq 0 (by omega)).1.1
      simpa [Addr.add] using World.cell?_spot this
    subst hspot
    refine ⟨(List.range len).map q, .inr ⟨g, o, cap, by simp, ?_, by simpa using hl, hm⟩, ?_⟩
    · intro i e' he'
      rw [List.getElem?_map] at he'
      have hi : i < len := by
        rcases Nat.lt_or_ge i len with h' | h'
        · exact h'
        · rw [List.getElem?_eq_none (by simpa using h')] at he'; cases he'
      rw [List.getElem?_range hi] at he'
      obtain rfl : q i = e' := by simpa using he'
      obtain ⟨⟨k0, k1, k2, k3⟩, _⟩ := hq i hi
      rw [add_none'] at k0 k1 k2 k3
      exact ⟨k0, by rw [Nat.add_assoc]; exact k1, by rw [Nat.add_assoc]; exact k2, by rw [Nat.add_assoc]; exact k3⟩
    · intro e' he'
      obtain ⟨i, hi, rfl⟩ := List.mem_map.1 he'
      exact (hq i (List.mem_range.1 hi)).2
end

/-! what is done with a queue, as plain functions -/
def timeB (v : Int) : Bool := decide (0 ≤ v ∧ v ≤ 100000000000000000)
def wB (n : Int) : Bool := decide (1 ≤ n ∧ n ≤ 20)
def entOk (e : Ent) (fl : Int) : Bool := (wB e.w && timeB e.v && timeB e.s) && (!e.on || (decide (fl ≤ e.v) && decide (e.v - fl ≤ vstep 149 e.w)))
def curOk (q : Qu) : Bool :=
  if q.cu < 0 then decide (q.rn = 0)
  else match q.es[q.cu.toNat]? with
    | some e => e.on && decide (1 ≤ q.rn ∧ q.rn ≤ 149) && decide (e.v - q.fl ≤ vstep q.rn e.w)
    | none => false
def headOk (q : Qu) : Bool := decide (1 ≤ q.es.length ∧ q.es.length ≤ 20) && timeB q.fl && decide (-1 ≤ q.cu ∧ q.cu ≤ (q.es.length : Int) - 1)
def quOk (q : Qu) : Bool := headOk q && q.es.all (fun e => entOk e q.fl) && curOk q
def vAt (es : List Ent) (i : Nat) : Int := ((es[i]?).map (·.v)).getD 0
def onAt (es : List Ent) (i : Nat) : Bool := ((es[i]?).map (·.on)).getD false
/-- who is ready with the least virtual time among the first k; -1, if nobody is. -/
def leastTo (es : List Ent) : Nat → Int
  | 0 => -1
  | k + 1 => if (onAt es k && (decide (leastTo es k < 0) || decide (vAt es k < vAt es (leastTo es k).toNat))) = true then (k : Int) else leastTo es k
def least (es : List Ent) : Int := leastTo es es.length
def pickQ (q : Qu) : Int := if quOk q = true then (if (decide (0 ≤ q.cu) && decide (q.rn < 50)) = true then q.cu else least q.es) else -1
def riseQ (q : Qu) : Qu := if 0 ≤ least q.es then { q with fl := if q.fl < vAt q.es (least q.es).toNat then vAt q.es (least q.es).toNat else q.fl } else q
def endQ (q : Qu) : Qu := { q with cu := -1, rn := 0 }
theorem leastTo_bd (es : List Ent) (k : Nat) : -1 ≤ leastTo es k ∧ leastTo es k < (k : Int) := by
  induction k with
  | zero => exact ⟨Int.le_refl _, by show (-1 : Int) < 0; decide⟩
  | succ k ih =>
    show -1 ≤ (if _ then (k : Int) else leastTo es k) ∧ (if _ then (k : Int) else leastTo es k) < _
    split <;> omega
end Go.Proofs.Ytbifcjfjenpmnaa
