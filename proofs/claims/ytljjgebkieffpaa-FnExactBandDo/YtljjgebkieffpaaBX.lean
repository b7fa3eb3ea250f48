/- The specification's l5Own. -/
import Derived.Test.YtljjgebkieffpaaBF
import Derived.Test.YtljjgebkieffpaaJ
namespace Go.Proofs.Ytljjgebkieffpaa
set_option linter.unusedVariables false
set_option linter.unusedSimpArgs false
open Go.ChangeShapes Go.WideShapes Go.ChangeAt Go.RowKit

theorem heap_alloc3 (w : World) (A B C : Obj) : (((w.alloc A).alloc B).alloc C).heap[w.heap.size]? = some A ∧ (((w.alloc A).alloc B).alloc C).heap[w.heap.size + 1]? = some B ∧ (((w.alloc A).alloc B).alloc C).heap[w.heap.size + 2]? = some C := by
  have e1 : (w.alloc A).heap.size = w.heap.size + 1 := by simp
  have e2 : ((w.alloc A).alloc B).heap.size = w.heap.size + 2 := by simp
  refine ⟨?_, ?_, ?_⟩
  · rw [heap_alloc_old _ _ (by omega)]; exact heap_alloc2_old _ _ _
  · rw [heap_alloc_old _ _ (by omega)]; exact heap_alloc2_new _ _ _
  · have := heap_alloc_new ((w.alloc A).alloc B) C
    rwa [e2] at this
def cellsI (l : List Int) : List Value := l.map (Value.int .i64)
def cellsB (l : List Bool) : List Value := l.map Value.bool
theorem own_of_rowI {B n : Nat} {W : World} {v : Value} {t : TypeId} {ws : List Int} (h : W.ownsRow B t 1 v n (cellsI ws)) (hn : n = ws.length) : OwnI B W v ws := by
  subst hn
  rcases h.2 with ⟨h1, h2⟩ | ⟨g, cap, cur, rfl, h2, h3, h4, h5, h6, h7⟩
  · exact .inl ⟨List.length_eq_zero_iff.1 h2, h1⟩
  · have hc := h.cells (g := g) rfl
    refine .inr ⟨g, cap, h2, (Array.getElem?_eq_some_iff.1 h3).1, rfl, ?_, ?_, h4, h5⟩
    · intro i e he
      have c0 := hc i (.int .i64 e) (by simp [cellsI, he])
      rw [add_none'] at c0
      exact c0
    · intro j hj
      rw [Nat.zero_add, cell_of_row _ _ _ _ _ _ h3]
      refine ⟨?_, frozen_of_row _ _ _ _ _ h3⟩
      have : j < cur.size := by omega
      simp [this]
theorem own_of_rowB {B n : Nat} {W : World} {v : Value} {t : TypeId} {ws : List Bool} (h : W.ownsRow B t 1 v n (cellsB ws)) (hn : n = ws.length) : OwnB B W v ws := by
  subst hn
  rcases h.2 with ⟨h1, h2⟩ | ⟨g, cap, cur, rfl, h2, h3, h4, h5, h6, h7⟩
  · exact .inl ⟨List.length_eq_zero_iff.1 h2, h1⟩
  · have hc := h.cells (g := g) rfl
    refine .inr ⟨g, cap, h2, (Array.getElem?_eq_some_iff.1 h3).1, rfl, ?_, ?_, h4, h5⟩
    · intro i e he
      have c0 := hc i (.bool e) (by simp [cellsB, he])
      rw [add_none'] at c0
      exact c0
    · intro j hj
      rw [Nat.zero_add, cell_of_row _ _ _ _ _ _ h3]
      refine ⟨?_, frozen_of_row _ _ _ _ _ h3⟩
      have : j < cur.size := by omega
      simp [this]
theorem own_ne {W : World} {B : Nat} {e : TypeId} {size : Nat} {v : Value} {n : Nat} {xs : List Value} (h : W.ownsRow B e size v n xs) {b : Nat} (hb : b < B) : v.ownBlock ≠ some b := fun hh => by
  have := (h.lt b hh).1; omega
theorem take_I {ws : List Int} {k : Nat} {n : Int} (h : ws[k]? = some n) : cellsI (ws.take (k + 1)) = cellsI (ws.take k) ++ [.int .i64 n] := by
  rw [List.take_add_one, h]; simp [cellsI]
theorem take_B {ws : List Bool} {k : Nat} {n : Bool} (h : ws[k]? = some n) : cellsB (ws.take (k + 1)) = cellsB (ws.take k) ++ [.bool n] := by
  rw [List.take_add_one, h]; simp [cellsB]

set_option maxRecDepth 100000 in
set_option maxHeartbeats 4000000 in
theorem l5Own_any (b : Ba) (x y : Value) (w : World) (hs : SlBa w x y b) (hh : headB b = true) :
    Calls Try.prog 41 #[baV b x y] w fun e w' => ∃ x' y', e = .returned (baV b x' y') ∧ OwnBa w.heap.size w' x' y' b ∧ Below w.heap.size w w' := by
  obtain ⟨i0, hi0, hz0, hz1, hz2⟩ := info_parts info_int
  obtain ⟨i0', hi0', hz0', hz1', hz2'⟩ := info_parts info_bool
  obtain ⟨_, ⟨a3, a4⟩, a5, _⟩ := head_parts hh
  obtain ⟨g, o, cap, g', o', cap', rfl, rfl, hE, hE', k1, k2, k3, k4⟩ := ok_rows hs hh
  have HE : Hid (IntAt w g o b.lo) := hE
  have HE' : Hid (BoolAt w g' o' b.dr) := hE'
  have H5 : Hid (b.dr.length = b.lo.length) := a5
  clear hs hE hE' hh a5
  unfold baV
  go_enter Try.func41, Try.ntmps41
  go_wp2
  generalize hpar : Obj.cells #[Value.int .i64 b.qu, .int .i64 b.po, .int .i64 b.sp, .slice (some ⟨g, o, none⟩) b.lo.length cap, .slice (some ⟨g', o', none⟩) b.lo.length cap'] 26 (0, 0) = par
  generalize hres : Obj.cells #[Value.int .i64 0, .int .i64 0, .int .i64 0, .slice none 0 0, .slice none 0 0] 26 (0, 0) = res
  go_loopw [4] (fun i wr => ∃ (k : Nat) (v u : Value), k ≤ b.lo.length ∧ i = .int .i64 k ∧ wr.ownsRow (w.heap.size + 3) 3 1 v k (cellsI (b.lo.take k)) ∧ wr.ownsRow (w.heap.size + 3) 4 1 u k (cellsB (b.dr.take k)) ∧ (∀ j, v.ownBlock = some j → u.ownBlock ≠ some j) ∧ wr.heap[w.heap.size + 2]? = some (.cells #[.int .i64 b.qu, .int .i64 b.po, .int .i64 b.sp, v, u] 26 (0, 0)) ∧ wr.heap[w.heap.size + 1]? = some res ∧ wr.heap[w.heap.size]? = some par ∧ Below w.heap.size w wr) (fun i _ => b.lo.length - (intOf i).toNat)
  case atStart =>
    subst hpar hres
    obtain ⟨b1, b2, b3⟩ := heap_alloc3 w (.cells #[Value.int .i64 b.qu, .int .i64 b.po, .int .i64 b.sp, .slice (some ⟨g, o, none⟩) b.lo.length cap, .slice (some ⟨g', o', none⟩) b.lo.length cap'] 26 (0, 0)) (.cells #[Value.int .i64 0, .int .i64 0, .int .i64 0, .slice none 0 0, .slice none 0 0] 26 (0, 0)) (.cells #[.int .i64 b.qu, .int .i64 b.po, .int .i64 b.sp, .slice none 0 0, .slice none 0 0] 26 (0, 0))
    exact ⟨0, .slice none 0 0, .slice none 0 0, by omega, rfl, World.ownsRow_nil _ _ _ _, World.ownsRow_nil _ _ _ _, fun j hj => by simp [Value.ownBlock] at hj, b3, b2, b1, (((Below.refl _ _).alloc (Nat.le_refl _) _).alloc (by simp) _).alloc (by simp; omega) _⟩
  case round =>
    obtain ⟨k, v, u, hk, rfl, hown, hownu, hvu, hbq, hbr, hbp, acc⟩ := hrel
    have hsz : w.heap.size + 2 < wr.heap.size := (Array.getElem?_eq_some_iff.1 hbq).1
    obtain ⟨r0, r1, r2, r3, r4⟩ := bbox hbq
    have r3f := fbox hbq 3
    have r4f := fbox hbq 4
    have HBQ : Hid (wr.heap[w.heap.size + 2]? = some (.cells #[.int .i64 b.qu, .int .i64 b.po, .int .i64 b.sp, v, u] 26 (0, 0))) := hbq
    have HBR : Hid (wr.heap[w.heap.size + 1]? = some res) := hbr
    have HBP : Hid (wr.heap[w.heap.size]? = some par) := hbp
    have hbp' := hbp
    rw [← hpar] at hbp'
    obtain ⟨p0, p1, p2, p3, p4⟩ := bbox hbp'
    clear hbq hbr hbp hbp'
    have HPAR : Hid (_ = par) := hpar
    have HRES : Hid (_ = res) := hres
    clear hpar hres
    by_cases hlt : k < b.lo.length
    · have hlt' : (k : Int) < (b.lo.length : Int) := by omega
      have hk0 : (0 : Int) ≤ (k : Int) := by omega
      obtain ⟨n, he⟩ := int_get hlt
      obtain ⟨d, he'⟩ : ∃ d, b.dr[k]? = some d := ⟨b.dr[k]'(by rw [H5.out]; exact hlt), List.getElem?_eq_getElem _⟩
      have x0 := HE.out k n he
      have y0 := HE'.out k d he'
      have hgw : g < w.heap.size := block_lt_of_cell x0
      have hgw' : g' < w.heap.size := block_lt_of_cell y0
      have hmx : k + 1 ≤ maxLen := by unfold maxLen; omega
      have hS : ∀ w', Below (w.heap.size + 1) wr w' → w'.cell? ⟨w.heap.size, 3, none⟩ = some (.slice (some ⟨g, o, none⟩) b.lo.length cap) ∧ w'.cell? ⟨g, o + k, none⟩ = some (.int .i64 n) := by
        intro w' hb
        exact ⟨(hb.cell (p := ⟨w.heap.size, 3, none⟩) (by show w.heap.size < _; omega)).trans p3, ((hb.cell (p := ⟨g, o + k, none⟩) (by show g < _; omega)).trans (acc.cell (p := ⟨g, o + k, none⟩) hgw)).trans x0⟩
      have hb0 : Below (w.heap.size + 1) wr wr.drew := (Below.refl _ wr).drew
      have hb1 : ∀ C, Below (w.heap.size + 1) wr (wr.alloc C).drew := fun C => ((Below.refl _ wr).alloc (by omega) C).drew
      have hb2 : ∀ C w1, (wr.alloc C).drew.grownBy w1 v.ownBlock → Below (w.heap.size + 1) wr w1 := fun C w1 hg => (hb1 C).grown hg (by simp; omega) (fun j ej => by have := (hown.lt j ej).1; omega)
      have hb3 : ∀ C w1 v', (wr.alloc C).drew.grownBy w1 v.ownBlock → Below (w.heap.size + 1) wr (w1.setCell ⟨w.heap.size + 2, 3, none⟩ v') := fun C w1 v' hg => (hb2 C w1 hg).setCell (by show w.heap.size + 1 ≤ w.heap.size + 2; omega) _
      go_wp2
      refine wp_region_noPanic ?_
      refine wp_region_J 10 (fun w' => w'.cell? ⟨w.heap.size, 3, none⟩ = some (.slice (some ⟨g, o, none⟩) b.lo.length cap) ∧ w'.cell? ⟨g, o + k, none⟩ = some (.int .i64 n)) (fun w' => w'.cell? ⟨w.heap.size + 2, 3, none⟩ = some v) (by kernel_rfl) (hS _ hb0) (r3) ?_
      refine JJ_take0 (i := 0) (v := ?nv0) rfl (by kernel_rfl) (by kernel_rfl) (by kernel_rfl) (by decide) (fun _ _ _ h => h) (Or.inl ⟨by rfl, ?ny0⟩) ?nr0
      case ny0 => ((intro w hSw; (try dsimp only at hSw); go_simp) <;> with_reducible rfl)
      try simp only [Act.put, List.setIfInBounds_toArray, List.set_cons_zero, List.set_cons_succ]
      refine JJ_take (i := 1) (v := ?nv1) rfl (by kernel_rfl) (by kernel_rfl) (by kernel_rfl) (by decide) (by kernel_rfl) (fun _ _ _ h => h) (Or.inl ⟨by rfl, ?ny1⟩) ?nr1
      case ny1 => ((intro w hSw; (try dsimp only at hSw); go_simp) <;> with_reducible rfl)
      try simp only [Act.put, List.setIfInBounds_toArray, List.set_cons_zero, List.set_cons_succ]
      refine JJ_take0 (i := 2) (v := ?nv2) rfl (by kernel_rfl) (by kernel_rfl) (by kernel_rfl) (by decide) (fun _ _ _ h => h) (Or.inl ⟨by rfl, ?ny2⟩) ?nr2
      case ny2 => ((intro w hSw; (try dsimp only at hSw); go_simp) <;> with_reducible rfl)
      try simp only [Act.put, List.setIfInBounds_toArray, List.set_cons_zero, List.set_cons_succ]
      refine JJ_take0 (i := 3) (v := ?nv3) rfl (by kernel_rfl) (by kernel_rfl) (by kernel_rfl) (by decide) (fun _ _ _ h => h) (Or.inl ⟨by rfl, ?ny3⟩) ?nr3
      case ny3 => ((intro w hSw; (try dsimp only at hSw); go_simp) <;> with_reducible rfl)
      try simp only [Act.put, List.setIfInBounds_toArray, List.set_cons_zero, List.set_cons_succ]
      refine JJ_take0 (i := 4) (v := ?nv4) rfl (by kernel_rfl) (by kernel_rfl) (by kernel_rfl) (by decide) (fun _ _ _ h => h) (Or.inl ⟨by rfl, ?ny4⟩) ?nr4
      case ny4 => ((intro w hSw; (try dsimp only at hSw); go_simp) <;> with_reducible rfl)
      try simp only [Act.put, List.setIfInBounds_toArray, List.set_cons_zero, List.set_cons_succ]
      refine JJ_take0 (i := 5) (v := ?nv5) rfl (by kernel_rfl) (by kernel_rfl) (by kernel_rfl) (by decide) (fun _ _ _ h => h) (Or.inl ⟨by rfl, ?ny5⟩) ?nr5
      case ny5 => ((intro w hSw; (try dsimp only at hSw); go_simp) <;> with_reducible rfl)
      try simp only [Act.put, List.setIfInBounds_toArray, List.set_cons_zero, List.set_cons_succ]
      refine JJ_take0 (i := 6) (v := ?nv6) rfl (by kernel_rfl) (by kernel_rfl) (by kernel_rfl) (by decide) (fun _ _ _ h => h) (Or.inl ⟨by rfl, ?ny6⟩) ?nr6
      case ny6 => ((intro w hSw; (try dsimp only at hSw); go_simp) <;> with_reducible rfl)
      try simp only [Act.put, List.setIfInBounds_toArray, List.set_cons_zero, List.set_cons_succ]
      refine JJ_one (i := 7) (by kernel_rfl) rfl (fun hT K hK => ?_)
      clear hT
      go_simp
      refine hK.out _ _ ⟨hS _ (hb1 _), fun _ => ((Below.refl _ wr).alloc (Nat.le_refl _) _).drew.cell (block_lt_of_cell r3) |>.trans r3⟩ ?_
      clear hK K
      try simp only [Act.put, List.setIfInBounds_toArray, List.set_cons_zero, List.set_cons_succ]
      refine JJ_one (i := 8) (by kernel_rfl) rfl (fun hT K hK => ?_)
      clear hT
      refine step_append_lies _ (by rfl) _ _ _ (by rfl) (w.heap.size + 3) 3 i0 _ 1 8 Try.underlying23 hi0 hz0 hz1 hz2 rfl (by omega) v k (cellsI (b.lo.take k)) (by rfl) ((hown.alloc _).drew)
        ⟨wr.heap.size, 0, none⟩ 1 1 [.int .i64 n] (by rfl) (by rfl) (World.news_of_block (cs := #[.int .i64 n]) (t := 3) (fr := (0, 0)) (heap_alloc_new wr _)) (by simp [Value.oneCell'])
        (by omega) hmx (by omega) (by simp; omega) (wr.heap.size + 1) (by simp) ?_
      intro gg cap2 w1 hown1 hgrow hat hlt1
      have hbq1 := block_grown HBQ.out hgrow (own_ne hown (by omega))
      obtain ⟨d0, d1, d2, d3, d4⟩ := bbox hbq1
      have d3f := fbox hbq1 3
      refine hK.out _ _ ⟨hS _ (hb2 _ _ hgrow), fun _ => d3⟩ ?_
      clear hK K
      try simp only [Act.put, List.setIfInBounds_toArray, List.set_cons_zero, List.set_cons_succ]
      refine JJ_take0 (i := 9) (v := ?nv9) rfl (by kernel_rfl) (by kernel_rfl) (by kernel_rfl) (by decide) (fun _ _ _ h => h) (Or.inl ⟨by rfl, ?ny9⟩) ?nr9
      case ny9 => ((intro w hSw; (try dsimp only at hSw); go_simp) <;> with_reducible rfl)
      try simp only [Act.put, List.setIfInBounds_toArray, List.set_cons_zero, List.set_cons_succ]
      refine JJ_one (i := 10) (by kernel_rfl) rfl (fun hT K hK => ?_)
      clear hT
      go_simp
      refine hK.out _ _ ⟨hS _ (hb3 _ _ _ hgrow), fun h => by cases h⟩ ?_
      clear hK K
      try simp only [Act.put, List.setIfInBounds_toArray, List.set_cons_zero, List.set_cons_succ]
      refine JJ_done (by kernel_rfl) ?_ _
      refine NoPanic.normal ?_
      have hG1 : Hid ((w1.setCell ⟨w.heap.size + 2, 3, none⟩ (.slice (some ⟨gg, 0, none⟩) (k + 1) cap2)).heap[w.heap.size + 2]? = some (.cells #[.int .i64 b.qu, .int .i64 b.po, .int .i64 b.sp, .slice (some ⟨gg, 0, none⟩) (k + 1) cap2, u] 26 (0, 0))) := heap_setCell_same _ _ _ _ _ _ hbq1
      have hb13 := hb3 _ _ (.slice (some ⟨gg, 0, none⟩) (k + 1) cap2) hgrow
      have hR1 : Hid ((w1.setCell ⟨w.heap.size + 2, 3, none⟩ (.slice (some ⟨gg, 0, none⟩) (k + 1) cap2)).heap[w.heap.size + 1]? = some res) := by
        show _ = _
        rw [heap_setCell_other _ _ _ _ (by simp)]
        exact block_grown HBR.out hgrow (own_ne hown (by omega))
      have hP1 : Hid ((w1.setCell ⟨w.heap.size + 2, 3, none⟩ (.slice (some ⟨gg, 0, none⟩) (k + 1) cap2)).heap[w.heap.size]? = some par) := by
        show _ = _
        rw [heap_setCell_other _ _ _ _ (by simp)]
        exact block_grown HBP.out hgrow (own_ne hown (by omega))
      have hgB : w.heap.size + 3 ≤ gg := (hown1.lt gg rfl).1
      have hO1 : (w1.setCell ⟨w.heap.size + 2, 3, none⟩ (.slice (some ⟨gg, 0, none⟩) (k + 1) cap2)).ownsRow (w.heap.size + 3) 3 1 (.slice (some ⟨gg, 0, none⟩) (k + 1) cap2) (k + 1) (cellsI (b.lo.take (k + 1))) := by
        rw [take_I he]
        exact ownsRow_setCell_other hown1 (by simp [Value.ownBlock]; omega) _
      have hvu' : u.ownBlock = none ∨ u.ownBlock ≠ v.ownBlock := by
        cases hu : u.ownBlock with
        | none => exact .inl rfl
        | some j => exact .inr (fun e => hvu j e.symm hu)
      have hU1 : (w1.setCell ⟨w.heap.size + 2, 3, none⟩ (.slice (some ⟨gg, 0, none⟩) (k + 1) cap2)).ownsRow (w.heap.size + 3) 4 1 u k (cellsB (b.dr.take k)) :=
        ownsRow_setCell_other (((hownu.alloc _).drew).kept hgrow hvu') (own_ne hownu (by simp)) _
      have hgu : u.ownBlock ≠ some gg := by
        intro hu
        rcases hat with h | h
        · exact hvu gg h hu
        · have := (hownu.lt gg hu).2; omega
      have hsz1 : w.heap.size + 2 < (w1.setCell ⟨w.heap.size + 2, 3, none⟩ (.slice (some ⟨gg, 0, none⟩) (k + 1) cap2)).heap.size := (Array.getElem?_eq_some_iff.1 hG1.out).1
      have hgs : gg < (w1.setCell ⟨w.heap.size + 2, 3, none⟩ (.slice (some ⟨gg, 0, none⟩) (k + 1) cap2)).heap.size := (hO1.lt gg rfl).2
      clear r0 r1 r2 r3 r4 r3f r4f d0 d1 d2 d3 d4 d3f hlt1 hat hbq1 hown1 hown hownu
      revert hG1 hb13 hR1 hP1 hO1 hU1 hsz1 hgs
      generalize w1.setCell ⟨w.heap.size + 2, 3, none⟩ (.slice (some ⟨gg, 0, none⟩) (k + 1) cap2) = W
      intro hG1 hb13 hR1 hP1 hO1 hU1 hsz1 hgs
      clear hS hb0 hb1 hb2 hb3 hgrow
      obtain ⟨r0, r1, r2, r3, r4⟩ := bbox hG1.out
      have r4f := fbox hG1.out 4
      have hS : ∀ w', Below (w.heap.size + 1) W w' → w'.cell? ⟨w.heap.size, 4, none⟩ = some (.slice (some ⟨g', o', none⟩) b.lo.length cap') ∧ w'.cell? ⟨g', o' + k, none⟩ = some (.bool d) := by
        intro w' hb
        have hb' := hb13.trans (hb.mono (by omega))
        exact ⟨(hb'.cell (p := ⟨w.heap.size, 4, none⟩) (by show w.heap.size < _; omega)).trans p4, ((hb'.cell (p := ⟨g', o' + k, none⟩) (by show g' < _; omega)).trans (acc.cell (p := ⟨g', o' + k, none⟩) hgw')).trans y0⟩
      have hb0 : Below (w.heap.size + 1) W W.drew := (Below.refl _ W).drew
      have hb1 : ∀ C, Below (w.heap.size + 1) W (W.alloc C).drew := fun C => ((Below.refl _ W).alloc (by omega) C).drew
      have hb2 : ∀ C w1, (W.alloc C).drew.grownBy w1 u.ownBlock → Below (w.heap.size + 1) W w1 := fun C w1 hg => (hb1 C).grown hg (by simp; omega) (fun j ej => by have := (hU1.lt j ej).1; omega)
      have hb3 : ∀ C w1 v', (W.alloc C).drew.grownBy w1 u.ownBlock → Below (w.heap.size + 1) W (w1.setCell ⟨w.heap.size + 2, 4, none⟩ v') := fun C w1 v' hg => (hb2 C w1 hg).setCell (by show w.heap.size + 1 ≤ w.heap.size + 2; omega) _
      go_wp2
      refine wp_region_noPanic ?_
      refine wp_region_J 10 (fun w' => w'.cell? ⟨w.heap.size, 4, none⟩ = some (.slice (some ⟨g', o', none⟩) b.lo.length cap') ∧ w'.cell? ⟨g', o' + k, none⟩ = some (.bool d)) (fun w' => w'.cell? ⟨w.heap.size + 2, 4, none⟩ = some u) (by kernel_rfl) (hS _ hb0) (r4) ?_
      refine JJ_take0 (i := 0) (v := ?mv0) rfl (by kernel_rfl) (by kernel_rfl) (by kernel_rfl) (by decide) (fun _ _ _ h => h) (Or.inl ⟨by rfl, ?my0⟩) ?mr0
      case my0 => ((intro w hSw; (try dsimp only at hSw); go_simp) <;> with_reducible rfl)
      try simp only [Act.put, List.setIfInBounds_toArray, List.set_cons_zero, List.set_cons_succ]
      refine JJ_take (i := 1) (v := ?mv1) rfl (by kernel_rfl) (by kernel_rfl) (by kernel_rfl) (by decide) (by kernel_rfl) (fun _ _ _ h => h) (Or.inl ⟨by rfl, ?my1⟩) ?mr1
      case my1 => ((intro w hSw; (try dsimp only at hSw); go_simp) <;> with_reducible rfl)
      try simp only [Act.put, List.setIfInBounds_toArray, List.set_cons_zero, List.set_cons_succ]
      refine JJ_take0 (i := 2) (v := ?mv2) rfl (by kernel_rfl) (by kernel_rfl) (by kernel_rfl) (by decide) (fun _ _ _ h => h) (Or.inl ⟨by rfl, ?my2⟩) ?mr2
      case my2 => ((intro w hSw; (try dsimp only at hSw); go_simp) <;> with_reducible rfl)
      try simp only [Act.put, List.setIfInBounds_toArray, List.set_cons_zero, List.set_cons_succ]
      refine JJ_take0 (i := 3) (v := ?mv3) rfl (by kernel_rfl) (by kernel_rfl) (by kernel_rfl) (by decide) (fun _ _ _ h => h) (Or.inl ⟨by rfl, ?my3⟩) ?mr3
      case my3 => ((intro w hSw; (try dsimp only at hSw); go_simp) <;> with_reducible rfl)
      try simp only [Act.put, List.setIfInBounds_toArray, List.set_cons_zero, List.set_cons_succ]
      refine JJ_take0 (i := 4) (v := ?mv4) rfl (by kernel_rfl) (by kernel_rfl) (by kernel_rfl) (by decide) (fun _ _ _ h => h) (Or.inl ⟨by rfl, ?my4⟩) ?mr4
      case my4 => ((intro w hSw; (try dsimp only at hSw); go_simp) <;> with_reducible rfl)
      try simp only [Act.put, List.setIfInBounds_toArray, List.set_cons_zero, List.set_cons_succ]
      refine JJ_take0 (i := 5) (v := ?mv5) rfl (by kernel_rfl) (by kernel_rfl) (by kernel_rfl) (by decide) (fun _ _ _ h => h) (Or.inl ⟨by rfl, ?my5⟩) ?mr5
      case my5 => ((intro w hSw; (try dsimp only at hSw); go_simp) <;> with_reducible rfl)
      try simp only [Act.put, List.setIfInBounds_toArray, List.set_cons_zero, List.set_cons_succ]
      refine JJ_take0 (i := 6) (v := ?mv6) rfl (by kernel_rfl) (by kernel_rfl) (by kernel_rfl) (by decide) (fun _ _ _ h => h) (Or.inl ⟨by rfl, ?my6⟩) ?mr6
      case my6 => ((intro w hSw; (try dsimp only at hSw); go_simp) <;> with_reducible rfl)
      try simp only [Act.put, List.setIfInBounds_toArray, List.set_cons_zero, List.set_cons_succ]
      refine JJ_one (i := 7) (by kernel_rfl) rfl (fun hT K hK => ?_)
      clear hT
      go_simp
      refine hK.out _ _ ⟨hS _ (hb1 _), fun _ => ((Below.refl _ W).alloc (Nat.le_refl _) _).drew.cell (block_lt_of_cell r4) |>.trans r4⟩ ?_
      clear hK K
      try simp only [Act.put, List.setIfInBounds_toArray, List.set_cons_zero, List.set_cons_succ]
      refine JJ_one (i := 8) (by kernel_rfl) rfl (fun hT K hK => ?_)
      clear hT
      refine step_append_lies _ (by rfl) _ _ _ (by rfl) (w.heap.size + 3) 4 i0' _ 1 1 Try.underlying24 hi0' hz0' hz1' hz2' rfl (by omega) u k (cellsB (b.dr.take k)) (by rfl) ((hU1.alloc _).drew)
        ⟨W.heap.size, 0, none⟩ 1 1 [.bool d] (by rfl) (by rfl) (World.news_of_block (cs := #[.bool d]) (t := 4) (fr := (0, 0)) (heap_alloc_new W _)) (by simp [Value.oneCell'])
        (by omega) hmx (by omega) (by simp; omega) (W.heap.size + 1) (by simp) ?_
      intro gg2 cap3 w1 hown2 hgrow hat hlt1
      have hbq2 := block_grown hG1.out hgrow (own_ne hU1 (by omega))
      obtain ⟨d0, d1, d2, d3, d4⟩ := bbox hbq2
      have d4f := fbox hbq2 4
      refine hK.out _ _ ⟨hS _ (hb2 _ _ hgrow), fun _ => d4⟩ ?_
      clear hK K
      try simp only [Act.put, List.setIfInBounds_toArray, List.set_cons_zero, List.set_cons_succ]
      refine JJ_take0 (i := 9) (v := ?mv9) rfl (by kernel_rfl) (by kernel_rfl) (by kernel_rfl) (by decide) (fun _ _ _ h => h) (Or.inl ⟨by rfl, ?my9⟩) ?mr9
      case my9 => ((intro w hSw; (try dsimp only at hSw); go_simp) <;> with_reducible rfl)
      try simp only [Act.put, List.setIfInBounds_toArray, List.set_cons_zero, List.set_cons_succ]
      refine JJ_one (i := 10) (by kernel_rfl) rfl (fun hT K hK => ?_)
      clear hT
      go_simp
      refine hK.out _ _ ⟨hS _ (hb3 _ _ _ hgrow), fun h => by cases h⟩ ?_
      clear hK K
      try simp only [Act.put, List.setIfInBounds_toArray, List.set_cons_zero, List.set_cons_succ]
      refine JJ_done (by kernel_rfl) ?_ _
      refine NoPanic.normal ?_
      have hG2 : (w1.setCell ⟨w.heap.size + 2, 4, none⟩ (.slice (some ⟨gg2, 0, none⟩) (k + 1) cap3)).heap[w.heap.size + 2]? = some (.cells #[.int .i64 b.qu, .int .i64 b.po, .int .i64 b.sp, .slice (some ⟨gg, 0, none⟩) (k + 1) cap2, .slice (some ⟨gg2, 0, none⟩) (k + 1) cap3] 26 (0, 0)) := heap_setCell_same _ _ _ _ _ _ hbq2
      have hR2 : (w1.setCell ⟨w.heap.size + 2, 4, none⟩ (.slice (some ⟨gg2, 0, none⟩) (k + 1) cap3)).heap[w.heap.size + 1]? = some res := by
        rw [heap_setCell_other _ _ _ _ (by simp)]
        exact block_grown hR1.out hgrow (own_ne hU1 (by omega))
      have hP2 : (w1.setCell ⟨w.heap.size + 2, 4, none⟩ (.slice (some ⟨gg2, 0, none⟩) (k + 1) cap3)).heap[w.heap.size]? = some par := by
        rw [heap_setCell_other _ _ _ _ (by simp)]
        exact block_grown hP1.out hgrow (own_ne hU1 (by omega))
      have hgB2 : w.heap.size + 3 ≤ gg2 := (hown2.lt gg2 rfl).1
      have hU2 : (w1.setCell ⟨w.heap.size + 2, 4, none⟩ (.slice (some ⟨gg2, 0, none⟩) (k + 1) cap3)).ownsRow (w.heap.size + 3) 4 1 (.slice (some ⟨gg2, 0, none⟩) (k + 1) cap3) (k + 1) (cellsB (b.dr.take (k + 1))) := by
        rw [take_B he']
        exact ownsRow_setCell_other hown2 (by simp [Value.ownBlock]; omega) _
      have hO2 : (w1.setCell ⟨w.heap.size + 2, 4, none⟩ (.slice (some ⟨gg2, 0, none⟩) (k + 1) cap3)).ownsRow (w.heap.size + 3) 3 1 (.slice (some ⟨gg, 0, none⟩) (k + 1) cap2) (k + 1) (cellsI (b.lo.take (k + 1))) :=
        ownsRow_setCell_other (((hO1.alloc _).drew).kept hgrow (.inr (Ne.symm hgu))) (by simp [Value.ownBlock]; omega) _
      have hne2 : ∀ j, (Value.slice (some ⟨gg, 0, none⟩) (k + 1) cap2).ownBlock = some j → (Value.slice (some ⟨gg2, 0, none⟩) (k + 1) cap3).ownBlock ≠ some j := by
        intro j hj hj'
        simp [Value.ownBlock] at hj hj'
        rcases hat with h | h
        · exact hgu (by rw [h, hj, hj'])
        · omega
      have hA2 : Below w.heap.size w (w1.setCell ⟨w.heap.size + 2, 4, none⟩ (.slice (some ⟨gg2, 0, none⟩) (k + 1) cap3)) := acc.trans ((hb13.trans ((hb3 _ _ _ hgrow).mono (by omega))).mono (by omega))
      go_wp2
      exact ⟨⟨k + 1, _, _, hlt, by go_num, hO2, hU2, hne2, hG2, hR2, hP2, hA2⟩, by simp [intOf]; omega⟩
    · have hkk : k = b.lo.length := by omega
      have hlt' : ¬ (k : Int) < (b.lo.length : Int) := by omega
      subst hkk
      rw [List.take_length] at hown
      rw [← H5.out, List.take_length] at hownu
      have HO : Hid (OwnI (w.heap.size + 3) wr v b.lo) := own_of_rowI hown rfl
      have HU : Hid (OwnB (w.heap.size + 3) wr u b.dr) := own_of_rowB hownu rfl
      have hbr := HBR.out
      rw [← HRES.out] at hbr
      have HR : Hid (wr.heap[w.heap.size + 1]? = some (.cells #[Value.int .i64 0, .int .i64 0, .int .i64 0, .slice none 0 0, .slice none 0 0] 26 (0, 0))) := hbr
      obtain ⟨z0, z1, z2, z3, z4⟩ := bbox hbr
      have z0f := fbox hbr 0
      have z1f := fbox hbr 1
      have z2f := fbox hbr 2
      have z3f := fbox hbr 3
      have z4f := fbox hbr 4
      obtain ⟨pv, cv, rfl⟩ := HO.out.form
      obtain ⟨pu, cu, rfl⟩ := HU.out.form
      clear hown hownu hbr r3f r4f
      go_wp2
      have hK := Kept.five wr (w.heap.size + 1) (.int .i64 b.qu) (.int .i64 b.po) (.int .i64 b.sp) (.slice pv b.lo.length cv) (.slice pu b.dr.length cu)
      refine bodyPost_ret (results_mid rfl _ _ (w.heap.size + 1) 0 [.int .i64 b.qu, .int .i64 b.po, .int .i64 b.sp, .slice pv b.lo.length cv, .slice pu b.dr.length cu] _ rfl (range_of_block (five_set HR.out _ _ _ _ _)) Try.underlying26 rfl info_ba) rfl ?_
      refine ⟨_, _, rfl, ⟨?_, ?_, hvu⟩, acc.trans (hK.toBelow acc.size (by intro k hk; omega))⟩
      · exact (HO.out.kept hK (fun g' hg' e => by have := HO.out.at g' hg'; omega)).mono (by omega)
      · exact (HU.out.kept hK (fun g' hg' e => by have := HU.out.at g' hg'; omega)).mono (by omega)
end Go.Proofs.Ytljjgebkieffpaa
