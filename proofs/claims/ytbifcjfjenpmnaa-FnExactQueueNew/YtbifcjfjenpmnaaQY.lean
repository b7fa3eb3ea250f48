/- QueueNew, of the specification. -/
import Derived.Test.YtbifcjfjenpmnaaQM
import Derived.Test.YtbifcjfjenpmnaaQO
import Derived.Test.YtbifcjfjenpmnaaJ
import Derived.Test.YtbifcjfjenpmnaaQD
namespace Go.Proofs.Ytbifcjfjenpmnaa
set_option linter.unusedVariables false
set_option linter.unusedSimpArgs false
open Go.ChangeShapes Go.WideShapes Go.ChangeAt Go.RowKit

def ent0 (n : Int) : Ent := ⟨false, 0, n, 0⟩
def rawQ (ws : List Int) : Qu := ⟨0, -1, 0, ws.map ent0⟩
def newQ (ws : List Int) : Qu × Bool := if quOk (rawQ ws) = true then (rawQ ws, true) else (⟨0, 0, 0, []⟩, false)

/-- the cells of a row of entries. -/
def flatE : List Ent → List Value
  | [] => []
  | e :: es => .bool e.on :: .int .i64 e.v :: .int .i64 e.w :: .int .i64 e.s :: flatE es
theorem flatE_append (l m : List Ent) : flatE (l ++ m) = flatE l ++ flatE m := by
  induction l with
  | nil => rfl
  | cons x l ih => simp only [List.cons_append, flatE, ih]
theorem flatE_get {l : List Ent} {i : Nat} {e : Ent} (h : l[i]? = some e) : (flatE l)[i * 4]? = some (.bool e.on) ∧ (flatE l)[i * 4 + 1]? = some (.int .i64 e.v) ∧ (flatE l)[i * 4 + 2]? = some (.int .i64 e.w) ∧ (flatE l)[i * 4 + 3]? = some (.int .i64 e.s) := by
  induction l generalizing i with
  | nil => cases h
  | cons y l ih =>
    match i with
    | 0 => obtain rfl : y = e := by simpa using h
           exact ⟨rfl, rfl, rfl, rfl⟩
    | i + 1 =>
      have := ih (i := i) (by simpa using h)
      rw [show (i + 1) * 4 = i * 4 + 1 + 1 + 1 + 1 by omega]
      exact this
theorem flatE_len (l : List Ent) : (flatE l).length = l.length * 4 := by
  induction l with
  | nil => rfl
  | cons x l ih => simp only [flatE, List.length_cons, ih]; omega
/-- a row of entries of one's own. -/
theorem own_of_row {B n : Nat} {W : World} {v : Value} {es : List Ent} (h : W.ownsRow B 32 4 v n (flatE es)) (hn : n = es.length) : OwnE B W v es := by
  subst hn
  rcases h.2 with ⟨h1, h2⟩ | ⟨g, cap, cur, rfl, h2, h3, h4, h5, h6, h7⟩
  · exact .inl ⟨List.length_eq_zero_iff.1 h2, h1⟩
  · have hc := h.cells (g := g) rfl
    refine .inr ⟨g, cap, h2, (Array.getElem?_eq_some_iff.1 h3).1, rfl, ?_, ?_, h4, h5⟩
    · intro i e he
      obtain ⟨f0, f1, f2, f3⟩ := flatE_get he
      have c0 := hc _ _ f0
      have c1 := hc _ _ f1
      have c2 := hc _ _ f2
      have c3 := hc _ _ f3
      rw [add_none'] at c0 c1 c2 c3
      exact ⟨c0, c1, c2, c3⟩
    · intro j hj
      rw [Nat.zero_add, cell_of_row _ _ _ _ _ _ h3]
      refine ⟨?_, frozen_of_row _ _ _ _ _ h3⟩
      have : j < cur.size := by rw [h6]; have := Nat.mul_le_mul_right 4 h4; omega
      simp [this]
theorem block_grown {w w1 : World} {A : Obj} {b : Nat} {o : Obj} {row : Option Nat} (h : w.heap[b]? = some o) (hg : (w.alloc A).drew.grownBy w1 row) (hne : row ≠ some b) : w1.heap[b]? = some o := by
  have hlt : b < w.heap.size := (Array.getElem?_eq_some_iff.1 h).1
  have h1 := hg.block b (by simp; omega) (Ne.symm hne)
  rw [h1]
  have b1 : Below w.heap.size w (w.alloc A).drew := ((Below.refl _ _).alloc (Nat.le_refl _) _).drew
  exact (b1.block b hlt).trans h
theorem own_ne {W : World} {B : Nat} {e : TypeId} {size : Nat} {v : Value} {n : Nat} {xs : List Value} (h : W.ownsRow B e size v n xs) {b : Nat} (hb : b < B) : v.ownBlock ≠ some b := fun hh => by
  have := (h.lt b hh).1; omega
theorem keep1 {W : World} {a b : Addr} {u v : Value} (h : W.cell? a = some v) (hne : a.block ≠ b.block) : (W.setCell b u).cell? a = some v :=
  (World.cell?_of_block (heap_setCell_other _ _ _ _ hne)).trans h
theorem take_ent0 {ws : List Int} {k : Nat} {n : Int} (h : ws[k]? = some n) : flatE ((ws.take (k + 1)).map ent0) = flatE ((ws.take k).map ent0) ++ entCells (ent0 n) := by
  rw [List.take_add_one, h, List.map_append, flatE_append]; rfl
theorem newQ_no {ws : List Int} (h : ¬ (1 ≤ ws.length ∧ ws.length ≤ 20)) : newQ ws = (⟨0, 0, 0, []⟩, false) := by
  unfold newQ
  rw [if_neg]
  unfold quOk headOk rawQ
  simp
  intro h1 h2
  omega
/-- the box of a queue, written whole. -/
theorem range_four' {W : World} {b : Nat} {x y z v x' y' z' v' : Value} {t : TypeId} (h : W.heap[b]? = some (.cells #[x', y', z', v'] t (0, 0))) :
    ((((W.setCell ⟨b, 0, none⟩ x).setCell ⟨b, 1, none⟩ y).setCell ⟨b, 2, none⟩ z).setCell ⟨b, 3, none⟩ v).rangeAt b 0 [x, y, z, v] := by
  refine World.rangeAt_setCells_same W b 0 [x, y, z, v] ?_
  intro j hj
  rw [Nat.zero_add, cell_of_row _ _ _ _ _ _ h]
  refine ⟨?_, frozen_of_row _ _ _ _ _ h⟩
  have : j < 4 := hj
  simp [this]
theorem results_mid2 {P : Program} {fn : Func} {p r : Tmp} {ty : TypeId} (h : fn.results = #[.cell p ty, .tmp r]) (tmps : Array Value) (w : World) (b o : Nat) (cs : List Value) (d : TypeDesc)
    (hp : tmps.getD p undef = .pointer (some ⟨b, o, none⟩)) (hc : w.rangeAt b o cs)
    (hu : P.underlying ty = some d) (hd : d.isRow = true) (hi : (P.info? ty).map (·.size) = some cs.length) :
    (results fn tmps).run P w = .ok (.tuple #[.agg cs.toArray, tmps.getD r undef]) w := by
  have hp' : tmps[p]?.getD undef = .pointer (some ⟨b, o, none⟩) := by simpa using hp
  simp [results, h, hp', asAddr, run_loadVar_mid w b o ty cs d hc hu hd hi]

set_option maxRecDepth 100000 in
set_option maxHeartbeats 4000000 in
theorem spec_queueNew (sl : Value) (ws : List Int) (w : World) (hs : SlI w sl ws) (hn : ws.length ≤ 1048576) :
    Calls Try.prog 20 #[sl] w fun e w' => ∃ sl', e = .returned (.tuple #[quV (newQ ws).1 sl', .bool (newQ ws).2]) ∧ OwnE w.heap.size w' sl' (newQ ws).1.es ∧ Below w.heap.size w w' := by
  obtain ⟨i0, hi0, hz0, hz1, hz2⟩ := info_parts info_ent
  obtain ⟨a, cap, rfl⟩ : ∃ a cap, sl = .slice a ws.length cap := by
    rcases hs with ⟨h0, a, cap, rfl⟩ | ⟨g, o, cap, rfl, _⟩
    · exact ⟨a, cap, by rw [h0]; rfl⟩
    · exact ⟨_, cap, rfl⟩
  by_cases c1 : 1 ≤ ws.length ∧ ws.length ≤ 20
  · have f1 := l1in_yes (n := (ws.length : Int)) (l := 1) (h := 20) (by omega) (by omega)
    obtain ⟨g, o, rfl, hE⟩ : ∃ g o, a = some ⟨g, o, none⟩ ∧ IntAt w g o ws := by
      rcases hs with ⟨h0, _⟩ | ⟨g, o, cap', h1, h2, _⟩
      · rw [h0] at c1; simp at c1
      · injection h1 with h1 _ _
        exact ⟨g, o, h1, h2⟩
    have hlen : (ws.map ent0).length = ws.length := by simp
    obtain ⟨c1a, c1b⟩ := c1
    clear hs
    go_enter Try.func20, Try.ntmps20
    go_wp2_with (go_at_call 44; refine (l1In_any _ _ _ _).mono ?_; rintro e w1 ⟨rfl, rfl⟩)
    go_loopw [5] (fun i wr => ∃ (k : Nat) (v : Value), k ≤ ws.length ∧ i = .int .i64 k ∧ wr.ownsRow (w.heap.size + 2) 32 4 v k (flatE ((ws.take k).map ent0)) ∧ wr.heap[w.heap.size + 1]? = some (.cells #[.int .i64 0, .int .i64 (-1), .int .i64 0, v] 25 (0, 0)) ∧ wr.heap[w.heap.size]? = some (.cells #[.int .i64 0, .int .i64 0, .int .i64 0, .slice none 0 0] 25 (0, 0)) ∧ Below w.heap.size w wr) (fun i _ => ws.length - (intOf i).toNat)
    case atStart => exact ⟨0, .slice none 0 0, by omega, rfl, World.ownsRow_nil _ _ _ _, heap_alloc2_new _ _ _, heap_alloc2_old _ _ _, ((Below.refl _ _).alloc (Nat.le_refl _) _).alloc (by simp) _⟩
    case round =>
      obtain ⟨k, v, hk, rfl, hown, hbq, hbr, acc⟩ := hrel
      have hsz : w.heap.size + 1 < wr.heap.size := (Array.getElem?_eq_some_iff.1 hbq).1
      obtain ⟨r0, r1, r2, r3⟩ := qbox hbq
      have r3f := fbox hbq 3
      have HBQ : Hid (wr.heap[w.heap.size + 1]? = some (.cells #[.int .i64 0, .int .i64 (-1), .int .i64 0, v] 25 (0, 0))) := hbq
      have HBR : Hid (wr.heap[w.heap.size]? = some (.cells #[.int .i64 0, .int .i64 0, .int .i64 0, .slice none 0 0] 25 (0, 0))) := hbr
      clear hbq hbr
      by_cases hlt : k < ws.length
      · have hlt' : (k : Int) < (ws.length : Int) := by omega
        have hk0 : (0 : Int) ≤ (k : Int) := by omega
        obtain ⟨n, he⟩ := int_get hlt
        have hgw : g < w.heap.size := block_lt_of_cell (hE k n he)
        have h0 : wr.cell? ⟨g, o + k, none⟩ = some (.int .i64 n) := (acc.cell (p := ⟨g, o + k, none⟩) hgw).trans (hE k n he)
        have hmx : k + 1 ≤ maxLen := by unfold maxLen; omega
        have hn0 : ∀ {C : Obj}, (wr.alloc C).drew.cell? ⟨g, o + k, none⟩ = some (.int .i64 n) := fun {C} => (((Below.refl _ wr).alloc (Nat.le_refl _) C).drew.cell (block_lt_of_cell h0)).trans h0
        have hn1 : ∀ {C : Obj} (w1 : World), (wr.alloc C).drew.grownBy w1 v.ownBlock → w1.cell? ⟨g, o + k, none⟩ = some (.int .i64 n) := fun {C} w1 hg => by
          rw [hg.cell_far _ (by simp; omega) (Ne.symm (own_ne hown (b := g) (by omega)))]; exact hn0
        have hn2 : ∀ {C : Obj} {u : Value} (w1 : World), (wr.alloc C).drew.grownBy w1 v.ownBlock → (w1.setCell ⟨w.heap.size + 1, 3, none⟩ u).cell? ⟨g, o + k, none⟩ = some (.int .i64 n) := fun {C u} w1 hg => keep1 (hn1 w1 hg) (by show g ≠ w.heap.size + 1; omega)
        go_wp2
        refine wp_region_noPanic ?_
        refine wp_region_J 10 (fun w' => w'.cell? ⟨g, o + k, none⟩ = some (.int .i64 n)) (fun w' => w'.cell? ⟨w.heap.size + 1, 3, none⟩ = some v) (by kernel_rfl) (h0) (r3) ?_
        refine JJ_take0 (i := 0) (v := ?nv0) rfl (by kernel_rfl) (by kernel_rfl) (by kernel_rfl) (by decide) (fun _ _ _ h => h) (Or.inl ⟨by rfl, ?ny0⟩) ?nr0
        case ny0 => ((intro w hSw; (try dsimp only at hSw); go_simp) <;> with_reducible rfl)
        try simp only [Act.put, List.setIfInBounds_toArray, List.set_cons_zero, List.set_cons_succ]
        refine JJ_take (i := 1) (v := ?nv1) rfl (by kernel_rfl) (by kernel_rfl) (by kernel_rfl) (by decide) (by kernel_rfl) (fun _ _ _ h => h) (Or.inl ⟨by rfl, ?ny1⟩) ?nr1
        case ny1 => ((intro w hSw; (try dsimp only at hSw); go_simp) <;> with_reducible rfl)
        try simp only [Act.put, List.setIfInBounds_toArray, List.set_cons_zero, List.set_cons_succ]
        refine JJ_take0 (i := 2) (v := ?nv2) rfl (by kernel_rfl) (by kernel_rfl) (by kernel_rfl) (by decide) (fun _ _ _ h => h) (Or.inl ⟨by rfl, ?ny2⟩) ?nr2
        case ny2 => ((intro w hSw; (try dsimp only at hSw); go_simp) <;> with_reducible rfl)
        try simp only [Act.put, List.setIfInBounds_toArray, List.set_cons_zero, List.set_cons_succ]
        refine JJ_take0 (i := 3) (v := ?nv3) rfl (by kernel_rfl) (by kernel_rfl) (by kernel_rfl) (by decide) (fun _ _ _ h => h) (Or.inl ⟨by rfl, ?ny3⟩) ?nr3
        case ny3 => ((intro w hSw; (try dsimp only at hSw); go_simp) <;> with_reducible rfl)
        try simp only [Act.put, List.setIfInBounds_toArray, List.set_cons_zero, List.set_cons_succ]
        refine JJ_take0 (i := 4) (v := ?nv4) rfl (by kernel_rfl) (by kernel_rfl) (by kernel_rfl) (by decide) (fun _ _ _ h => h) (Or.inl ⟨by rfl, ?ny4⟩) ?nr4
        case ny4 => ((intro w hSw; (try dsimp only at hSw); go_simp) <;> with_reducible rfl)
        try simp only [Act.put, List.setIfInBounds_toArray, List.set_cons_zero, List.set_cons_succ]
        refine JJ_take0 (i := 5) (v := ?nv5) rfl (by kernel_rfl) (by kernel_rfl) (by kernel_rfl) (by decide) (fun _ _ _ h => h) (Or.inl ⟨by rfl, ?ny5⟩) ?nr5
        case ny5 => ((intro w hSw; (try dsimp only at hSw); go_simp) <;> with_reducible rfl)
        try simp only [Act.put, List.setIfInBounds_toArray, List.set_cons_zero, List.set_cons_succ]
        refine JJ_take0 (i := 6) (v := ?nv6) rfl (by kernel_rfl) (by kernel_rfl) (by kernel_rfl) (by decide) (fun _ _ _ h => h) (Or.inl ⟨by rfl, ?ny6⟩) ?nr6
        case ny6 => ((intro w hSw; (try dsimp only at hSw); go_simp) <;> with_reducible rfl)
        try simp only [Act.put, List.setIfInBounds_toArray, List.set_cons_zero, List.set_cons_succ]
        refine JJ_one (i := 7) (by kernel_rfl) rfl (fun hT K hK => ?_)
        clear hT
        go_simp
        refine hK.out _ _ ⟨hn0, fun _ => ((Below.refl _ wr).alloc (Nat.le_refl _) _).drew.cell (block_lt_of_cell r3) |>.trans r3⟩ ?_
        clear hK K
        try simp only [Act.put, List.setIfInBounds_toArray, List.set_cons_zero, List.set_cons_succ]
        refine JJ_one (i := 8) (by kernel_rfl) rfl (fun hT K hK => ?_)
        clear hT
        refine step_append_lies _ (by rfl) _ _ _ (by rfl) (w.heap.size + 2) 32 i0 _ 4 32 Try.underlying23 hi0 hz0 hz1 hz2 rfl (by omega) v k (flatE ((ws.take k).map ent0)) (by rfl) ((hown.alloc _).drew)
          ⟨wr.heap.size, 0, none⟩ 1 1 (entCells (ent0 n)) (by rfl) (by rfl) (World.news_of_block (cs := #[.bool false, .int .i64 0, .int .i64 n, .int .i64 0]) (t := 32) (fr := (0, 0)) (heap_alloc_new wr _)) (by simp [Value.oneCell', entCells, ent0])
          (by omega) hmx (by omega) (by simp; omega) (wr.heap.size + 1) (by simp) ?_
        intro gg cap2 w1 hown1 hgrow hat hlt1
        have hbq1 := block_grown HBQ.out hgrow (own_ne hown (by omega))
        obtain ⟨d0, d1, d2, d3⟩ := qbox hbq1
        have d3f := fbox hbq1 3
        refine hK.out _ _ ⟨hn1 w1 hgrow, fun _ => d3⟩ ?_
        clear hK K
        try simp only [Act.put, List.setIfInBounds_toArray, List.set_cons_zero, List.set_cons_succ]
        refine JJ_take0 (i := 9) (v := ?nv9) rfl (by kernel_rfl) (by kernel_rfl) (by kernel_rfl) (by decide) (fun _ _ _ h => h) (Or.inl ⟨by rfl, ?ny9⟩) ?nr9
        case ny9 => ((intro w hSw; (try dsimp only at hSw); go_simp) <;> with_reducible rfl)
        try simp only [Act.put, List.setIfInBounds_toArray, List.set_cons_zero, List.set_cons_succ]
        refine JJ_one (i := 10) (by kernel_rfl) rfl (fun hT K hK => ?_)
        clear hT
        go_simp
        refine hK.out _ _ ⟨hn2 w1 hgrow, fun h => by cases h⟩ ?_
        clear hK K
        try simp only [Act.put, List.setIfInBounds_toArray, List.set_cons_zero, List.set_cons_succ]
        refine JJ_done (by kernel_rfl) ?_ _
        refine NoPanic.normal ?_
        have hw3 : (w1.setCell ⟨w.heap.size + 1, 3, none⟩ (.slice (some ⟨gg, 0, none⟩) (k + 1) cap2)).heap[w.heap.size + 1]? = some (.cells #[.int .i64 0, .int .i64 (-1), .int .i64 0, .slice (some ⟨gg, 0, none⟩) (k + 1) cap2] 25 (0, 0)) := heap_setCell_same _ _ _ _ _ _ hbq1
        have hw4 : (w1.setCell ⟨w.heap.size + 1, 3, none⟩ (.slice (some ⟨gg, 0, none⟩) (k + 1) cap2)).heap[w.heap.size]? = some (.cells #[.int .i64 0, .int .i64 0, .int .i64 0, .slice none 0 0] 25 (0, 0)) := by
          rw [heap_setCell_other _ _ _ _ (by simp)]
          exact block_grown HBR.out hgrow (own_ne hown (by omega))
        have hgB : w.heap.size + 2 ≤ gg := (hown1.lt gg rfl).1
        have hw5 : (w1.setCell ⟨w.heap.size + 1, 3, none⟩ (.slice (some ⟨gg, 0, none⟩) (k + 1) cap2)).ownsRow (w.heap.size + 2) 32 4 (.slice (some ⟨gg, 0, none⟩) (k + 1) cap2) (k + 1) (flatE ((ws.take (k + 1)).map ent0)) := by
          rw [take_ent0 he]
          exact ownsRow_setCell_other hown1 (by simp [Value.ownBlock]; omega) _
        have hw6 : Below w.heap.size w (w1.setCell ⟨w.heap.size + 1, 3, none⟩ (.slice (some ⟨gg, 0, none⟩) (k + 1) cap2)) := by
          refine Below.setCell ?_ (by simp) _
          exact Below.grown ((acc.alloc acc.size _).drew) hgrow (by have := acc.size; simp; omega) (fun j ej => by have := (hown.lt j ej).1; omega)
        go_wp2
        exact ⟨⟨k + 1, _, hlt, by go_num, hw5, hw3, hw4, hw6⟩, by simp [intOf]; omega⟩
      · have hkk : k = ws.length := by omega
        have hlt' : ¬ (k : Int) < (ws.length : Int) := by omega
        subst hkk
        rw [List.take_length] at hown
        obtain ⟨gg, cap3, rfl, hgg0, hgg1⟩ := hown.form (by omega)
        have HO : Hid (OwnE (w.heap.size + 2) wr (.slice (some ⟨gg, 0, none⟩) ws.length cap3) (ws.map ent0)) := own_of_row hown (by simp)
        clear hown hlen
        by_cases hok : quOk (rawQ ws) = true
        · have HN : Hid (newQ ws = (rawQ ws, true)) := by show _ = _; unfold newQ; rw [if_pos hok]
          go_wp2_with (go_at_call 16; refine (spec_queueOk (rawQ ws) _ _ HO.out.sl).mono ?_; rintro e1 w5 ⟨rfl, hb5⟩; rw [hok]; have hbq5 := (hb5.block _ (by omega)).trans HBQ.out; have hbr5 := (hb5.block _ (by omega)).trans HBR.out; obtain ⟨y0, y1, y2, y3⟩ := qbox hbq5; obtain ⟨z0, z1, z2, z3⟩ := qbox hbr5; have z0f := fbox hbr5 0; have z1f := fbox hbr5 1; have z2f := fbox hbr5 2; have z3f := fbox hbr5 3; have HBR5 : Hid (_ = _) := hbr5; clear hbq5 hbr5)
          refine bodyPost_ret (results_mid2 rfl _ _ w.heap.size 0 [.int .i64 0, .int .i64 (-1), .int .i64 0, .slice (some ⟨gg, 0, none⟩) ws.length cap3] _ rfl (range_four' HBR5.out) Try.underlying25 rfl info_qu) rfl ?_
          rw [HN.out]
          have hG := grown_set (grown_set (grown_set (grown_set (grown_refl w5 (some w.heap.size)) 0 (.int .i64 0)) 1 (.int .i64 (-1))) 2 (.int .i64 0)) 3 (.slice (some ⟨gg, 0, none⟩) ws.length cap3)
          refine ⟨_, rfl, ?_, ?_⟩
          · exact ((HO.out.below hb5).grown hG (fun g' hg' => by simp [Value.ownBlock] at hg'; intro e; cases e; omega)).mono (by omega)
          · exact (acc.trans (hb5.mono acc.size)).trans (below_grown hG (Nat.le_refl _) (Nat.le_trans acc.size hb5.size))
        · have hno : quOk (rawQ ws) = false := by simpa using hok
          have HN : Hid (newQ ws = (⟨0, 0, 0, []⟩, false)) := by show _ = _; unfold newQ; rw [if_neg hok]
          go_wp2_with (go_at_call 16; refine (spec_queueOk (rawQ ws) _ _ HO.out.sl).mono ?_; rintro e1 w5 ⟨rfl, hb5⟩; rw [hno]; have hbq5 := (hb5.block _ (by omega)).trans HBQ.out; have hbr5 := (hb5.block _ (by omega)).trans HBR.out; obtain ⟨y0, y1, y2, y3⟩ := qbox hbq5; obtain ⟨z0, z1, z2, z3⟩ := qbox hbr5; have z0f := fbox hbr5 0; have z1f := fbox hbr5 1; have z2f := fbox hbr5 2; have z3f := fbox hbr5 3; have HBR5 : Hid (_ = _) := hbr5; clear hbq5 hbr5)
          refine bodyPost_ret (results_mid2 rfl _ _ w.heap.size 0 [.int .i64 0, .int .i64 0, .int .i64 0, .slice none 0 0] _ rfl (range_four' HBR5.out) Try.underlying25 rfl info_qu) rfl ?_
          rw [HN.out]
          have hG := grown_set (grown_set (grown_set (grown_set (grown_refl w5 (some w.heap.size)) 0 (.int .i64 0)) 1 (.int .i64 0)) 2 (.int .i64 0)) 3 (.slice none 0 0)
          refine ⟨_, rfl, .inl ⟨rfl, rfl⟩, ?_⟩
          exact (acc.trans (hb5.mono acc.size)).trans (below_grown hG (Nat.le_refl _) (Nat.le_trans acc.size hb5.size))
  · have f1 := l1in_no (n := (ws.length : Int)) (l := 1) (h := 20) (by omega)
    have HN : Hid (newQ ws = (⟨0, 0, 0, []⟩, false)) := newQ_no c1
    go_enter Try.func20, Try.ntmps20
    go_wp2_with (go_at_call 44; refine (l1In_any _ _ _ _).mono ?_; rintro e w1 ⟨rfl, rfl⟩)
    go_returns
    rw [HN.out]
    exact ⟨_, rfl, .inl ⟨rfl, rfl⟩, ((Below.refl _ _).alloc (Nat.le_refl _) _).alloc (by simp) _⟩
end Go.Proofs.Ytbifcjfjenpmnaa
