/- The program: the round in which a group of the current task is asked about. The program: whether a stay is ok, where it is over by then. The program: the last question about a stay. -/
import Derived.Test.YtnmmglkigiakaaaGreatC24
import Derived.Sort.BigQuietIn
namespace Go.Proofs.YtnmmglkigiakaaaGreat
set_option linter.unusedVariables false
set_option linter.unusedSimpArgs false
open Go.ChangeShapes Go.WideShapes Go.ChangeAt Go.RowKit Go.Shelf Go.Sort
attribute [local go_sem] Oper.semAt_some
/-- the body of the first loop over an iterator in a code. -/
def loopBody : Code → Option Code
  | .seq a b => match loopBody a with | some x => some x | none => loopBody b
  | .cond _ a b => match loopBody a with | some x => some x | none => loopBody b
  | .block _ a => loopBody a
  | .loop a => loopBody a
  | .scope a => loopBody a
  | .rangeFunc _ _ _ b => some b
  | _ => none
set_option maxRecDepth 100000 in
set_option maxHeartbeats 16000000 in
theorem stay_round {b : Code} (hb : Tryz.f152.body.bind loopBody = some b) (l' : Nat) (Q : Exit → Act → World → Prop) (D : Nat → Value) (pb rb pw pg po x : Nat) (c ran : Int) (va : Bool) (W' : World)
    (p0 : W'.cell? ⟨pb, 0, none⟩ = some (.pointer (some ⟨pw, 0, none⟩))) (p1 : W'.cell? ⟨pb, 1, none⟩ = some (.int .i64 c)) (p2 : W'.cell? ⟨pb, 2, none⟩ = some (.pointer (some ⟨pg, po, none⟩))) (n2 : W'.cell? ⟨pg, po + 2, none⟩ = some (.int .i64 ran))
    (hr : W'.heap[rb]? = some (.cells #[.bool false] 4 (0, 0)))
    (cW : ∀ d os, CallsIn (Fence.wide.inRound l') (9 - 1) Tryz.prog 151 #[.agg #[.pointer (some ⟨pw, 0, none⟩), .int .i64 c], .int .i64 (x : Int), .int .i64 ran] (grow (redrawn W' d) os) fun e' w'' => e' = .returned (.bool va) ∧ ∃ p : Regrown, w'' = grow (redrawn W' p.d) p.os)
    (hret : va = false → ∀ d os a', Q .ret a' ((grow (redrawn W' d) os).setCell ⟨rb, 0, none⟩ (.bool false)))
    (hnext : va = true → ∀ d os a', Q .normal a' (grow (redrawn W' d) os)) :
    b.wpIn (Fence.wide.inRound l') 9 Tryz.prog Q { tmps := #[D 0, .pointer (some ⟨pb, 0, none⟩), .pointer (some ⟨rb, 0, none⟩), D 3, .int .i64 (x : Int), D 5, D 6, D 7, D 8, D 9, D 10, D 11, D 12, D 13, D 14, D 15, D 16, D 17, D 18, D 19, D 20, D 21, D 22, D 23, D 24, D 25, D 26, D 27, D 28, D 29, D 30, D 31, D 32, D 33, D 34, D 35, D 36, D 37, D 38, D 39, D 40, D 41, D 42, D 43, D 44, D 45, D 46, D 47, D 48, D 49, D 50, D 51, D 52, D 53, D 54, D 55, D 56, D 57, D 58, D 59, D 60, D 61, D 62, D 63, D 64, D 65, D 66, D 67, D 68, D 69, D 70, D 71, D 72, D 73, D 74, D 75, D 76, D 77, D 78, D 79, D 80, D 81, D 82, D 83, D 84, D 85, D 86, D 87], defers := [] } W' := by
  have mixed : Tryz.prog.follows Departure.mixedOrders = true := by kernel_rfl
  have hfn : ∀ f, Fence.wide.fn f := fun _ => trivial
  simp only [Tryz.f152, Option.bind_some, loopBody, Option.some.injEq] at hb
  subst hb
  have k0 := cell_regrown p0
  have k1 := cell_regrown p1
  have k2 := cell_regrown p2
  have k3 := cell_regrown n2
  clear p0 p1 p2 n2
  cases va
  · have hR : Hid (∀ d os a', Q .ret a' ((grow (redrawn W' d) os).setCell ⟨rb, 0, none⟩ (.bool false))) := hret rfl
    clear hret hnext
    gi_wp2
    refine region_quiet_rg mixed (by kernel_rfl) ?_
    repeat (gi_big_quiet_step (exact cW _ _))
    refine wpQuietIn_nil ?_
    rintro _ ⟨⟨dq, osq⟩, rfl⟩
    have h2' := below_block dq osq hr
    have hc3 := (Msk.cell_of_box_l h2').1
    have hf3 := (Msk.cell_of_box_l h2').2
    clear h2' hr
    gi_wp2
    exact hR.out _ _ _
  · have hR : Hid (∀ d os a', Q .normal a' (grow (redrawn W' d) os)) := hnext rfl
    clear hret hnext
    gi_wp2
    refine region_quiet_rg mixed (by kernel_rfl) ?_
    repeat (gi_big_quiet_step (exact cW _ _))
    refine wpQuietIn_nil ?_
    rintro _ ⟨⟨dq, osq⟩, rfl⟩
    gi_wp2
    exact hR.out _ _ _
end Go.Proofs.YtnmmglkigiakaaaGreat
namespace Go.Proofs.YtnmmglkigiakaaaGreat
set_option linter.unusedVariables false
set_option linter.unusedSimpArgs false
open Go.ChangeShapes Go.WideShapes Go.ChangeAt Go.RowKit Go.Shelf Go.Sort
attribute [local go_sem] Oper.semAt_some

def grpInB (ds : List Gr) (ran : Int) (c k : Nat) : Bool := withinB (shAt ds k c).v (shAt ds (paAt ds k).toNat c).fl (vstep ran (shAt ds k c).w)
def tskInB (ds : List Gr) (ran : Int) (c : Nat) (t : Tk) : Bool := withinB t.v (shAt ds t.gr.toNat c).fl (vstep ran (wof t.ni))
def stay2 (u : Wv) (c : Nat) (ran : Int) (t : Tk) : Bool := (outs (gsD u.gs) t.gr.toNat).all (grpInB (gsD u.gs) ran c) && tskInB (gsD u.gs) ran c t
def stayB (u : Wv) (c : Nat) (x : Cp) : Bool :=
  if x.cur = -1 then decide (x.ran = 0) else x.up && (decide (1 ≤ x.ran) && (decide (x.ran ≤ 149) && (inlT u x.cur c && (u.ts[x.cur.toNat]?).any (stay2 u c x.ran))))
theorem blocks2 {w w1 : World} {A B : Obj} (h : ((w.alloc A).alloc B) = w1) : w1.heap[w.heap.size]? = some A ∧ w1.heap.size = w.heap.size + 2 ∧ w1.heap[w.heap.size + 1]? = some B ∧ Below w.heap.size w w1 := by
  subst h
  refine ⟨(Below.heap_alloc _ _ _ (by simp)).trans (heap_alloc_new w A), by simp, ?_, ((Below.refl _ _).alloc (Nat.le_refl _) _).alloc (by simp) _⟩
  have := heap_alloc_new (w.alloc A) B
  rwa [World.size_alloc] at this
theorem blur {c : Code} {F : Fence} {n : Nat} {P : Program} {Q : Exit → Act → World → Prop} {a : Act} {w : World} (f : (Nat → Value) → Act) (ha : a = f (fun i => a.tmps.getD i undef)) (H : ∀ D, c.wpIn F n P Q (f D) w) : c.wpIn F n P Q a w := ha ▸ H _
set_option maxRecDepth 100000 in
set_option maxHeartbeats 16000000 in
theorem stay_nobody (pw c pg po : Nat) (x : Cp) (u : Wv) (w : World) (hA : AtW w pw u) (hF : Fit u) (hT : TFit u) (hc : c < u.cs.length) (hx : w.rangeAt pg po (cpC x)) (hcur : x.cur = -1) :
    Calls Tryz.prog 152 #[prV pw (c : Int) pg po] w fun e w' => e = .returned (.bool (stayB u c x)) ∧ Below w.heap.size w w' := by
  have mixed : Tryz.prog.follows Departure.mixedOrders = true := by kernel_rfl
  have hfn : ∀ f, Fence.wide.fn f := fun _ => trivial
  obtain ⟨x0, x1, x2, x3, x4⟩ := cp_cells hx
  refine (callsIn_wide (n := 9)).1 ?_
  refine callsIn_of_wp_marks Tryz.func152 rfl trivial ?_ rfl
  unfold prV ptr ptrO
  simp only [Tryz.ntmps152, List.size_toArray, List.length_cons, List.length_nil, Nat.reduceAdd, Nat.reduceSub, Array.replicate_succ, Array.replicate_zero, List.push_toArray, List.append_toArray, List.nil_append, List.cons_append]
  obtain ⟨W1, hW1⟩ : ∃ W1, ((w.alloc (.cells #[.pointer (some ⟨pw, 0, none⟩), .int .i64 (c : Int), .pointer (some ⟨pg, po, none⟩)] 56)).alloc (.cells #[.bool false] 4)) = W1 := ⟨_, rfl⟩
  obtain ⟨z0, z1', z2, z3⟩ := blocks2 hW1
  have z1 : Hid (W1.heap.size = w.heap.size + 2) := z1'
  clear z1'
  have hp : W1.rangeAt w.heap.size 0 [.pointer (some ⟨pw, 0, none⟩), .int .i64 (c : Int), .pointer (some ⟨pg, po, none⟩)] := range_of_block z0
  have p0 : W1.cell? ⟨w.heap.size, 0, none⟩ = some (.pointer (some ⟨pw, 0, none⟩)) := hp 0 _ rfl
  have p1 : W1.cell? ⟨w.heap.size, 1, none⟩ = some (.int .i64 (c : Int)) := hp 1 _ rfl
  have p2 : W1.cell? ⟨w.heap.size, 2, none⟩ = some (.pointer (some ⟨pg, po, none⟩)) := hp 2 _ rfl
  have b0 := (Msk.cell_of_box_l z2).1
  have b0' := (Msk.cell_of_box_l z2).2
  have hlp := block_lt_of_cell x1
  replace x0 := (z3.cell (block_lt_of_cell x0)).trans x0
  replace x1 := (z3.cell (block_lt_of_cell x1)).trans x1
  replace x2 := (z3.cell (block_lt_of_cell x2)).trans x2
  obtain ⟨up, cur, ran, bu, idl⟩ := x
  dsimp only at x0 x1 x2 hcur ⊢
  have early : ∀ (W : World) (b : Bool) (a : Act), W.heap[w.heap.size + 1]? = some (.cells #[.bool b] 4 (0, 0)) → Below w.heap.size w W → a.tmps.getD 2 undef = .pointer (some ⟨w.heap.size + 1, 0, none⟩) → b = stayB u c ⟨up, cur, ran, bu, idl⟩ → ∃ v, (results Tryz.f152 a.tmps).run Tryz.prog W = .ok v W ∧ (Ending.returned v = .returned (.bool (stayB u c ⟨up, cur, ran, bu, idl⟩)) ∧ Below w.heap.size w W) := by
    intro W b a hb hB ha hh
    have hcr := (Msk.cell_of_box_l hb).1
    refine ⟨.bool b, ?_, by rw [hh], hB⟩
    simp only [Array.getD_eq_getD_getElem?] at ha
    simp [results, Tryz.f152, go_sem, hcr, ha]
  subst hcur
  by_cases hran : ran = 0
  · subst hran
    gi_wp2
    exact early _ true _ ((show Boxed _ _ _ _ from z2).set _) (z3.setCell (p := ⟨w.heap.size + 1, 0, none⟩) (by simp) _) rfl (by simp [stayB])
  · gi_wp2
    exact early _ _ _ ((show Boxed _ _ _ _ from z2).set _) (z3.setCell (p := ⟨w.heap.size + 1, 0, none⟩) (by simp) _) rfl (by simp [stayB, hran])
set_option maxRecDepth 100000 in
set_option maxHeartbeats 16000000 in
theorem stay_down (pw c pg po : Nat) (x : Cp) (u : Wv) (w : World) (hA : AtW w pw u) (hF : Fit u) (hT : TFit u) (hc : c < u.cs.length) (hx : w.rangeAt pg po (cpC x)) (hcur : x.cur ≠ -1) (hup : x.up = false) :
    Calls Tryz.prog 152 #[prV pw (c : Int) pg po] w fun e w' => e = .returned (.bool (stayB u c x)) ∧ Below w.heap.size w w' := by
  have mixed : Tryz.prog.follows Departure.mixedOrders = true := by kernel_rfl
  have hfn : ∀ f, Fence.wide.fn f := fun _ => trivial
  obtain ⟨x0, x1, x2, x3, x4⟩ := cp_cells hx
  refine (callsIn_wide (n := 9)).1 ?_
  refine callsIn_of_wp_marks Tryz.func152 rfl trivial ?_ rfl
  unfold prV ptr ptrO
  simp only [Tryz.ntmps152, List.size_toArray, List.length_cons, List.length_nil, Nat.reduceAdd, Nat.reduceSub, Array.replicate_succ, Array.replicate_zero, List.push_toArray, List.append_toArray, List.nil_append, List.cons_append]
  obtain ⟨W1, hW1⟩ : ∃ W1, ((w.alloc (.cells #[.pointer (some ⟨pw, 0, none⟩), .int .i64 (c : Int), .pointer (some ⟨pg, po, none⟩)] 56)).alloc (.cells #[.bool false] 4)) = W1 := ⟨_, rfl⟩
  obtain ⟨z0, z1', z2, z3⟩ := blocks2 hW1
  have z1 : Hid (W1.heap.size = w.heap.size + 2) := z1'
  clear z1'
  have hp : W1.rangeAt w.heap.size 0 [.pointer (some ⟨pw, 0, none⟩), .int .i64 (c : Int), .pointer (some ⟨pg, po, none⟩)] := range_of_block z0
  have p0 : W1.cell? ⟨w.heap.size, 0, none⟩ = some (.pointer (some ⟨pw, 0, none⟩)) := hp 0 _ rfl
  have p1 : W1.cell? ⟨w.heap.size, 1, none⟩ = some (.int .i64 (c : Int)) := hp 1 _ rfl
  have p2 : W1.cell? ⟨w.heap.size, 2, none⟩ = some (.pointer (some ⟨pg, po, none⟩)) := hp 2 _ rfl
  have b0 := (Msk.cell_of_box_l z2).1
  have b0' := (Msk.cell_of_box_l z2).2
  have hlp := block_lt_of_cell x1
  replace x0 := (z3.cell (block_lt_of_cell x0)).trans x0
  replace x1 := (z3.cell (block_lt_of_cell x1)).trans x1
  replace x2 := (z3.cell (block_lt_of_cell x2)).trans x2
  obtain ⟨up, cur, ran, bu, idl⟩ := x
  dsimp only at x0 x1 x2 hcur hup ⊢
  have early : ∀ (W : World) (b : Bool) (a : Act), W.heap[w.heap.size + 1]? = some (.cells #[.bool b] 4 (0, 0)) → Below w.heap.size w W → a.tmps.getD 2 undef = .pointer (some ⟨w.heap.size + 1, 0, none⟩) → b = stayB u c ⟨up, cur, ran, bu, idl⟩ → ∃ v, (results Tryz.f152 a.tmps).run Tryz.prog W = .ok v W ∧ (Ending.returned v = .returned (.bool (stayB u c ⟨up, cur, ran, bu, idl⟩)) ∧ Below w.heap.size w W) := by
    intro W b a hb hB ha hh
    have hcr := (Msk.cell_of_box_l hb).1
    refine ⟨.bool b, ?_, by rw [hh], hB⟩
    simp only [Array.getD_eq_getD_getElem?] at ha
    simp [results, Tryz.f152, go_sem, hcr, ha]
  subst hup
  have k0 := cell_regrown p0
  have k1 := cell_regrown p1
  have k2 := cell_regrown p2
  have j0 := cell_regrown x0
  have j1 := cell_regrown x1
  have j2 := cell_regrown x2
  have HS : Hid (stayB u c ⟨false, cur, ran, bu, idl⟩ = false) := by unfold Hid stayB; simp [hcur]
  gi_wp2
  refine region_quiet_rg mixed (by kernel_rfl) ?_
  repeat (gi_big_quiet_step (fail))
  refine wpQuietIn_nil ?_
  rintro _ ⟨⟨dq, osq⟩, rfl⟩
  have y2 := below_block dq osq z2
  have b9 := (Msk.cell_of_box_l y2).1
  have b9' := (Msk.cell_of_box_l y2).2
  have B9 := z3.trans ((below_regrown W1 dq osq).mono z3.size)
  gi_wp2
  exact early _ false _ ((show Boxed _ _ _ _ from y2).set _) (B9.setCell (p := ⟨w.heap.size + 1, 0, none⟩) (by simp) _) rfl (by rw [HS.out])
set_option maxRecDepth 100000 in
set_option maxHeartbeats 16000000 in
theorem stay_short (pw c pg po : Nat) (x : Cp) (u : Wv) (w : World) (hA : AtW w pw u) (hF : Fit u) (hT : TFit u) (hc : c < u.cs.length) (hx : w.rangeAt pg po (cpC x)) (hcur : x.cur ≠ -1) (hup : x.up = true) (hr1 : x.ran < 1) :
    Calls Tryz.prog 152 #[prV pw (c : Int) pg po] w fun e w' => e = .returned (.bool (stayB u c x)) ∧ Below w.heap.size w w' := by
  have mixed : Tryz.prog.follows Departure.mixedOrders = true := by kernel_rfl
  have hfn : ∀ f, Fence.wide.fn f := fun _ => trivial
  obtain ⟨x0, x1, x2, x3, x4⟩ := cp_cells hx
  refine (callsIn_wide (n := 9)).1 ?_
  refine callsIn_of_wp_marks Tryz.func152 rfl trivial ?_ rfl
  unfold prV ptr ptrO
  simp only [Tryz.ntmps152, List.size_toArray, List.length_cons, List.length_nil, Nat.reduceAdd, Nat.reduceSub, Array.replicate_succ, Array.replicate_zero, List.push_toArray, List.append_toArray, List.nil_append, List.cons_append]
  obtain ⟨W1, hW1⟩ : ∃ W1, ((w.alloc (.cells #[.pointer (some ⟨pw, 0, none⟩), .int .i64 (c : Int), .pointer (some ⟨pg, po, none⟩)] 56)).alloc (.cells #[.bool false] 4)) = W1 := ⟨_, rfl⟩
  obtain ⟨z0, z1', z2, z3⟩ := blocks2 hW1
  have z1 : Hid (W1.heap.size = w.heap.size + 2) := z1'
  clear z1'
  have hp : W1.rangeAt w.heap.size 0 [.pointer (some ⟨pw, 0, none⟩), .int .i64 (c : Int), .pointer (some ⟨pg, po, none⟩)] := range_of_block z0
  have p0 : W1.cell? ⟨w.heap.size, 0, none⟩ = some (.pointer (some ⟨pw, 0, none⟩)) := hp 0 _ rfl
  have p1 : W1.cell? ⟨w.heap.size, 1, none⟩ = some (.int .i64 (c : Int)) := hp 1 _ rfl
  have p2 : W1.cell? ⟨w.heap.size, 2, none⟩ = some (.pointer (some ⟨pg, po, none⟩)) := hp 2 _ rfl
  have b0 := (Msk.cell_of_box_l z2).1
  have b0' := (Msk.cell_of_box_l z2).2
  have hlp := block_lt_of_cell x1
  replace x0 := (z3.cell (block_lt_of_cell x0)).trans x0
  replace x1 := (z3.cell (block_lt_of_cell x1)).trans x1
  replace x2 := (z3.cell (block_lt_of_cell x2)).trans x2
  obtain ⟨up, cur, ran, bu, idl⟩ := x
  dsimp only at x0 x1 x2 hcur hup hr1 ⊢
  have early : ∀ (W : World) (b : Bool) (a : Act), W.heap[w.heap.size + 1]? = some (.cells #[.bool b] 4 (0, 0)) → Below w.heap.size w W → a.tmps.getD 2 undef = .pointer (some ⟨w.heap.size + 1, 0, none⟩) → b = stayB u c ⟨up, cur, ran, bu, idl⟩ → ∃ v, (results Tryz.f152 a.tmps).run Tryz.prog W = .ok v W ∧ (Ending.returned v = .returned (.bool (stayB u c ⟨up, cur, ran, bu, idl⟩)) ∧ Below w.heap.size w W) := by
    intro W b a hb hB ha hh
    have hcr := (Msk.cell_of_box_l hb).1
    refine ⟨.bool b, ?_, by rw [hh], hB⟩
    simp only [Array.getD_eq_getD_getElem?] at ha
    simp [results, Tryz.f152, go_sem, hcr, ha]
  subst hup
  have k0 := cell_regrown p0
  have k1 := cell_regrown p1
  have k2 := cell_regrown p2
  have j0 := cell_regrown x0
  have j1 := cell_regrown x1
  have j2 := cell_regrown x2
  have HS : Hid (stayB u c ⟨true, cur, ran, bu, idl⟩ = false) := by unfold Hid stayB; simp [hcur]; intro h; omega
  gi_wp2
  refine region_quiet_rg mixed (by kernel_rfl) ?_
  repeat (gi_big_quiet_step (fail))
  refine wpQuietIn_nil ?_
  rintro _ ⟨⟨dq, osq⟩, rfl⟩
  have y2 := below_block dq osq z2
  have b9 := (Msk.cell_of_box_l y2).1
  have b9' := (Msk.cell_of_box_l y2).2
  have B9 := z3.trans ((below_regrown W1 dq osq).mono z3.size)
  gi_wp2
  exact early _ false _ ((show Boxed _ _ _ _ from y2).set _) (B9.setCell (p := ⟨w.heap.size + 1, 0, none⟩) (by simp) _) rfl (by rw [HS.out])
set_option maxRecDepth 100000 in
set_option maxHeartbeats 16000000 in
theorem stay_long (pw c pg po : Nat) (x : Cp) (u : Wv) (w : World) (hA : AtW w pw u) (hF : Fit u) (hT : TFit u) (hc : c < u.cs.length) (hx : w.rangeAt pg po (cpC x)) (hcur : x.cur ≠ -1) (hup : x.up = true) (hr1 : ¬ x.ran < 1) (hr2 : 149 < x.ran) :
    Calls Tryz.prog 152 #[prV pw (c : Int) pg po] w fun e w' => e = .returned (.bool (stayB u c x)) ∧ Below w.heap.size w w' := by
  have mixed : Tryz.prog.follows Departure.mixedOrders = true := by kernel_rfl
  have hfn : ∀ f, Fence.wide.fn f := fun _ => trivial
  obtain ⟨x0, x1, x2, x3, x4⟩ := cp_cells hx
  refine (callsIn_wide (n := 9)).1 ?_
  refine callsIn_of_wp_marks Tryz.func152 rfl trivial ?_ rfl
  unfold prV ptr ptrO
  simp only [Tryz.ntmps152, List.size_toArray, List.length_cons, List.length_nil, Nat.reduceAdd, Nat.reduceSub, Array.replicate_succ, Array.replicate_zero, List.push_toArray, List.append_toArray, List.nil_append, List.cons_append]
  obtain ⟨W1, hW1⟩ : ∃ W1, ((w.alloc (.cells #[.pointer (some ⟨pw, 0, none⟩), .int .i64 (c : Int), .pointer (some ⟨pg, po, none⟩)] 56)).alloc (.cells #[.bool false] 4)) = W1 := ⟨_, rfl⟩
  obtain ⟨z0, z1', z2, z3⟩ := blocks2 hW1
  have z1 : Hid (W1.heap.size = w.heap.size + 2) := z1'
  clear z1'
  have hp : W1.rangeAt w.heap.size 0 [.pointer (some ⟨pw, 0, none⟩), .int .i64 (c : Int), .pointer (some ⟨pg, po, none⟩)] := range_of_block z0
  have p0 : W1.cell? ⟨w.heap.size, 0, none⟩ = some (.pointer (some ⟨pw, 0, none⟩)) := hp 0 _ rfl
  have p1 : W1.cell? ⟨w.heap.size, 1, none⟩ = some (.int .i64 (c : Int)) := hp 1 _ rfl
  have p2 : W1.cell? ⟨w.heap.size, 2, none⟩ = some (.pointer (some ⟨pg, po, none⟩)) := hp 2 _ rfl
  have b0 := (Msk.cell_of_box_l z2).1
  have b0' := (Msk.cell_of_box_l z2).2
  have hlp := block_lt_of_cell x1
  replace x0 := (z3.cell (block_lt_of_cell x0)).trans x0
  replace x1 := (z3.cell (block_lt_of_cell x1)).trans x1
  replace x2 := (z3.cell (block_lt_of_cell x2)).trans x2
  obtain ⟨up, cur, ran, bu, idl⟩ := x
  dsimp only at x0 x1 x2 hcur hup hr1 hr2 ⊢
  have early : ∀ (W : World) (b : Bool) (a : Act), W.heap[w.heap.size + 1]? = some (.cells #[.bool b] 4 (0, 0)) → Below w.heap.size w W → a.tmps.getD 2 undef = .pointer (some ⟨w.heap.size + 1, 0, none⟩) → b = stayB u c ⟨up, cur, ran, bu, idl⟩ → ∃ v, (results Tryz.f152 a.tmps).run Tryz.prog W = .ok v W ∧ (Ending.returned v = .returned (.bool (stayB u c ⟨up, cur, ran, bu, idl⟩)) ∧ Below w.heap.size w W) := by
    intro W b a hb hB ha hh
    have hcr := (Msk.cell_of_box_l hb).1
    refine ⟨.bool b, ?_, by rw [hh], hB⟩
    simp only [Array.getD_eq_getD_getElem?] at ha
    simp [results, Tryz.f152, go_sem, hcr, ha]
  subst hup
  have k0 := cell_regrown p0
  have k1 := cell_regrown p1
  have k2 := cell_regrown p2
  have j0 := cell_regrown x0
  have j1 := cell_regrown x1
  have j2 := cell_regrown x2
  have hd1 : decide (ran < 1) = false := decide_eq_false hr1
  have HS : Hid (stayB u c ⟨true, cur, ran, bu, idl⟩ = false) := by unfold Hid stayB; simp [hcur]; intro _ h; omega
  gi_wp2
  refine region_quiet_rg mixed (by kernel_rfl) ?_
  repeat (gi_big_quiet_step (fail))
  refine wpQuietIn_nil ?_
  rintro _ ⟨⟨dq, osq⟩, rfl⟩
  have y2 := below_block dq osq z2
  have b9 := (Msk.cell_of_box_l y2).1
  have b9' := (Msk.cell_of_box_l y2).2
  have B9 := z3.trans ((below_regrown W1 dq osq).mono z3.size)
  gi_wp2
  exact early _ false _ ((show Boxed _ _ _ _ from y2).set _) (B9.setCell (p := ⟨w.heap.size + 1, 0, none⟩) (by simp) _) rfl (by rw [HS.out])
set_option maxRecDepth 100000 in
set_option maxHeartbeats 16000000 in
theorem stay_off (pw c pg po : Nat) (x : Cp) (u : Wv) (w : World) (hA : AtW w pw u) (hF : Fit u) (hT : TFit u) (hc : c < u.cs.length) (hx : w.rangeAt pg po (cpC x)) (hcur : x.cur ≠ -1) (hup : x.up = true) (hr1 : ¬ x.ran < 1) (hr2 : ¬ 149 < x.ran) (hin : inlT u x.cur c = false) :
    Calls Tryz.prog 152 #[prV pw (c : Int) pg po] w fun e w' => e = .returned (.bool (stayB u c x)) ∧ Below w.heap.size w w' := by
  have mixed : Tryz.prog.follows Departure.mixedOrders = true := by kernel_rfl
  have hfn : ∀ f, Fence.wide.fn f := fun _ => trivial
  obtain ⟨x0, x1, x2, x3, x4⟩ := cp_cells hx
  refine (callsIn_wide (n := 9)).1 ?_
  refine callsIn_of_wp_marks Tryz.func152 rfl trivial ?_ rfl
  unfold prV ptr ptrO
  simp only [Tryz.ntmps152, List.size_toArray, List.length_cons, List.length_nil, Nat.reduceAdd, Nat.reduceSub, Array.replicate_succ, Array.replicate_zero, List.push_toArray, List.append_toArray, List.nil_append, List.cons_append]
  obtain ⟨W1, hW1⟩ : ∃ W1, ((w.alloc (.cells #[.pointer (some ⟨pw, 0, none⟩), .int .i64 (c : Int), .pointer (some ⟨pg, po, none⟩)] 56)).alloc (.cells #[.bool false] 4)) = W1 := ⟨_, rfl⟩
  obtain ⟨z0, z1', z2, z3⟩ := blocks2 hW1
  have z1 : Hid (W1.heap.size = w.heap.size + 2) := z1'
  clear z1'
  have hp : W1.rangeAt w.heap.size 0 [.pointer (some ⟨pw, 0, none⟩), .int .i64 (c : Int), .pointer (some ⟨pg, po, none⟩)] := range_of_block z0
  have p0 : W1.cell? ⟨w.heap.size, 0, none⟩ = some (.pointer (some ⟨pw, 0, none⟩)) := hp 0 _ rfl
  have p1 : W1.cell? ⟨w.heap.size, 1, none⟩ = some (.int .i64 (c : Int)) := hp 1 _ rfl
  have p2 : W1.cell? ⟨w.heap.size, 2, none⟩ = some (.pointer (some ⟨pg, po, none⟩)) := hp 2 _ rfl
  have b0 := (Msk.cell_of_box_l z2).1
  have b0' := (Msk.cell_of_box_l z2).2
  have hlp := block_lt_of_cell x1
  replace x0 := (z3.cell (block_lt_of_cell x0)).trans x0
  replace x1 := (z3.cell (block_lt_of_cell x1)).trans x1
  replace x2 := (z3.cell (block_lt_of_cell x2)).trans x2
  obtain ⟨up, cur, ran, bu, idl⟩ := x
  dsimp only at x0 x1 x2 hcur hup hr1 hr2 hin ⊢
  have early : ∀ (W : World) (b : Bool) (a : Act), W.heap[w.heap.size + 1]? = some (.cells #[.bool b] 4 (0, 0)) → Below w.heap.size w W → a.tmps.getD 2 undef = .pointer (some ⟨w.heap.size + 1, 0, none⟩) → b = stayB u c ⟨up, cur, ran, bu, idl⟩ → ∃ v, (results Tryz.f152 a.tmps).run Tryz.prog W = .ok v W ∧ (Ending.returned v = .returned (.bool (stayB u c ⟨up, cur, ran, bu, idl⟩)) ∧ Below w.heap.size w W) := by
    intro W b a hb hB ha hh
    have hcr := (Msk.cell_of_box_l hb).1
    refine ⟨.bool b, ?_, by rw [hh], hB⟩
    simp only [Array.getD_eq_getD_getElem?] at ha
    simp [results, Tryz.f152, go_sem, hcr, ha]
  subst hup
  have k0 := cell_regrown p0
  have k1 := cell_regrown p1
  have k2 := cell_regrown p2
  have j0 := cell_regrown x0
  have j1 := cell_regrown x1
  have j2 := cell_regrown x2
  have hd1 : decide (ran < 1) = false := decide_eq_false hr1
  have hd2 : decide (149 < ran) = false := decide_eq_false hr2
  have cL : ∀ d os, CallsIn Fence.wide (9 - 1) Tryz.prog 123 #[.agg #[.pointer (some ⟨pw, 0, none⟩), .int .i64 (c : Int), .pointer (some ⟨pg, po, none⟩)], .int .i64 cur] (grow (redrawn W1 d) os) fun e' w'' => e' = .returned (.bool (inlT u cur c)) ∧ ∃ p : Regrown, w'' = grow (redrawn W1 p.d) p.os := fun d os =>
    calls_fw (Calls.regrown_of (hasInLine_any pw c pg po cur u _ ((hA.below z3).below (below_regrown W1 d os)) hF hT hc))
  have HS : Hid (stayB u c ⟨true, cur, ran, bu, idl⟩ = false) := by unfold Hid stayB; simp [hcur, hin]
  rw [hin] at cL
  clear hin
  gi_wp2
  refine region_quiet_rg mixed (by kernel_rfl) ?_
  repeat (gi_big_quiet_step (exact cL _ _))
  refine wpQuietIn_nil ?_
  rintro _ ⟨⟨dq, osq⟩, rfl⟩
  have y2 := below_block dq osq z2
  have b9 := (Msk.cell_of_box_l y2).1
  have b9' := (Msk.cell_of_box_l y2).2
  have B9 := z3.trans ((below_regrown W1 dq osq).mono z3.size)
  gi_wp2
  exact early _ false _ ((show Boxed _ _ _ _ from y2).set _) (B9.setCell (p := ⟨w.heap.size + 1, 0, none⟩) (by simp) _) rfl (by rw [HS.out])
end Go.Proofs.YtnmmglkigiakaaaGreat
namespace Go.Proofs.YtnmmglkigiakaaaGreat
set_option linter.unusedVariables false
set_option linter.unusedSimpArgs false
open Go.ChangeShapes Go.WideShapes Go.ChangeAt Go.RowKit Go.Shelf Go.Sort
attribute [local go_sem] Oper.semAt_some
theorem blur_q {Q : Exit → Act → World → Prop} {a : Act} {w : World} (f : (Nat → Value) → Act) (ha : a = f (fun i => a.tmps.getD i undef)) (H : ∀ D, Q .normal (f D) w) : Q .normal a w := ha ▸ H _
/-- what the temporaries of isStayOk hold behind the loop's beginning: few of them live. -/
def stayAct (D : Nat → Value) (pb tb : Nat) (x f : Value) : Act := { tmps := #[D 0, .pointer (some ⟨pb, 0, none⟩), .pointer (some ⟨pb + 1, 0, none⟩), .pointer (some ⟨tb, 0, none⟩), x, D 5, D 6, D 7, D 8, D 9, D 10, D 11, D 12, D 13, D 14, D 15, D 16, D 17, D 18, D 19, D 20, D 21, D 22, D 23, D 24, D 25, D 26, D 27, D 28, D 29, D 30, D 31, D 32, D 33, D 34, D 35, D 36, D 37, D 38, D 39, D 40, D 41, D 42, D 43, D 44, D 45, D 46, D 47, D 48, D 49, D 50, D 51, D 52, D 53, D 54, D 55, D 56, D 57, D 58, D 59, D 60, D 61, D 62, D 63, D 64, D 65, D 66, f, D 68, D 69, D 70, D 71, D 72, D 73, D 74, D 75, D 76, D 77, D 78, D 79, D 80, D 81, D 82, D 83, D 84, D 85, D 86, D 87], defers := [] }
theorem stayAct_ex {a : Act} {pb tb : Nat} {x : Value} (h : a = stayAct (fun i => a.tmps.getD i undef) pb tb x (a.tmps.getD 67 undef)) : ∃ D f, a = stayAct D pb tb x f := ⟨_, _, h⟩
/-- the region of a number in a code. -/
def findRegion (n : Nat) : Code → Option Code
  | .region id ops m => if id = n then some (.region id ops m) else none
  | .seq a b => match findRegion n a with | some x => some x | none => findRegion n b
  | .cond _ a b => match findRegion n a with | some x => some x | none => findRegion n b
  | .block _ a => findRegion n a
  | .loop a => findRegion n a
  | .scope a => findRegion n a
  | .rangeFunc _ _ a b => match findRegion n a with | some x => some x | none => findRegion n b
  | _ => none
set_option maxRecDepth 100000 in
set_option maxHeartbeats 16000000 in
theorem stay_last {b : Code} (hb : Tryz.f152.body.bind (findRegion 10) = some b) (Q : Exit → Act → World → Prop) (D : Nat → Value) (df : List Deferred) (pb rb tb pw pg po : Nat) (c ran e0 e1 e2 e3 e4 e5 e6 e7 e8 : Int) (va : Bool) (W' : World)
    (p0 : W'.cell? ⟨pb, 0, none⟩ = some (.pointer (some ⟨pw, 0, none⟩))) (p1 : W'.cell? ⟨pb, 1, none⟩ = some (.int .i64 c)) (p2 : W'.cell? ⟨pb, 2, none⟩ = some (.pointer (some ⟨pg, po, none⟩))) (n2 : W'.cell? ⟨pg, po + 2, none⟩ = some (.int .i64 ran))
    (ht : W'.rangeAt tb 0 [.int .i64 e0, .int .i64 e1, .int .i64 e2, .int .i64 e3, .int .i64 e4, .int .i64 e5, .int .i64 e6, .int .i64 e7, .int .i64 e8])
    (hr : W'.heap[rb]? = some (.cells #[.bool false] 4 (0, 0)))
    (cW : ∀ d os, CallsIn Fence.wide (9 - 1) Tryz.prog 147 #[.agg #[.pointer (some ⟨pw, 0, none⟩), .int .i64 c], .agg #[.int .i64 e0, .int .i64 e1, .int .i64 e2, .int .i64 e3, .int .i64 e4, .int .i64 e5, .int .i64 e6, .int .i64 e7, .int .i64 e8], .int .i64 ran] (grow (redrawn W' d) os) fun e' w'' => e' = .returned (.bool va) ∧ ∃ p : Regrown, w'' = grow (redrawn W' p.d) p.os)
    (hQ : ∀ d os (D : Nat → Value), Q .normal { tmps := #[D 0, .pointer (some ⟨pb, 0, none⟩), .pointer (some ⟨rb, 0, none⟩), .pointer (some ⟨tb, 0, none⟩), D 4, D 5, D 6, D 7, D 8, D 9, D 10, D 11, D 12, D 13, D 14, D 15, D 16, D 17, D 18, D 19, D 20, D 21, D 22, D 23, D 24, D 25, D 26, D 27, D 28, D 29, D 30, D 31, D 32, D 33, D 34, D 35, D 36, D 37, D 38, D 39, D 40, D 41, D 42, D 43, D 44, D 45, D 46, D 47, D 48, D 49, D 50, D 51, D 52, D 53, D 54, D 55, D 56, D 57, D 58, D 59, D 60, D 61, D 62, D 63, D 64, D 65, D 66, D 67, D 68, D 69, D 70, D 71, D 72, D 73, D 74, D 75, D 76, D 77, D 78, D 79, D 80, D 81, D 82, D 83, D 84, D 85, D 86, D 87], defers := df } ((grow (redrawn W' d) os).setCell ⟨rb, 0, none⟩ (.bool va))) :
    b.wpIn Fence.wide 9 Tryz.prog Q { tmps := #[D 0, .pointer (some ⟨pb, 0, none⟩), .pointer (some ⟨rb, 0, none⟩), .pointer (some ⟨tb, 0, none⟩), D 4, D 5, D 6, D 7, D 8, D 9, D 10, D 11, D 12, D 13, D 14, D 15, D 16, D 17, D 18, D 19, D 20, D 21, D 22, D 23, D 24, D 25, D 26, D 27, D 28, D 29, D 30, D 31, D 32, D 33, D 34, D 35, D 36, D 37, D 38, D 39, D 40, D 41, D 42, D 43, D 44, D 45, D 46, D 47, D 48, D 49, D 50, D 51, D 52, D 53, D 54, D 55, D 56, D 57, D 58, D 59, D 60, D 61, D 62, D 63, D 64, D 65, D 66, D 67, D 68, D 69, D 70, D 71, D 72, D 73, D 74, D 75, D 76, D 77, D 78, D 79, D 80, D 81, D 82, D 83, D 84, D 85, D 86, D 87], defers := df } W' := by
  have mixed : Tryz.prog.follows Departure.mixedOrders = true := by kernel_rfl
  have hfn : ∀ f, Fence.wide.fn f := fun _ => trivial
  simp only [Tryz.f152, Option.bind_some, findRegion, Nat.reduceEqDiff, if_false, if_true, reduceCtorEq, Option.some.injEq] at hb
  subst hb
  have k0 := cell_regrown p0
  have k1 := cell_regrown p1
  have k2 := cell_regrown p2
  have k3 := cell_regrown n2
  have m0 := cell_regrown (show W'.cell? ⟨tb, 0, none⟩ = _ from ht 0 _ rfl)
  have m1 := cell_regrown (show W'.cell? ⟨tb, 1, none⟩ = _ from ht 1 _ rfl)
  have m2 := cell_regrown (show W'.cell? ⟨tb, 2, none⟩ = _ from ht 2 _ rfl)
  have m3 := cell_regrown (show W'.cell? ⟨tb, 3, none⟩ = _ from ht 3 _ rfl)
  have m4 := cell_regrown (show W'.cell? ⟨tb, 4, none⟩ = _ from ht 4 _ rfl)
  have m5 := cell_regrown (show W'.cell? ⟨tb, 5, none⟩ = _ from ht 5 _ rfl)
  have m6 := cell_regrown (show W'.cell? ⟨tb, 6, none⟩ = _ from ht 6 _ rfl)
  have m7 := cell_regrown (show W'.cell? ⟨tb, 7, none⟩ = _ from ht 7 _ rfl)
  have m8 := cell_regrown (show W'.cell? ⟨tb, 8, none⟩ = _ from ht 8 _ rfl)
  clear p0 p1 p2 n2 ht
  refine region_gated_rg 9 rfl mixed (by kernel_rfl) ?_
  simp only [List.take_succ_cons, List.take_zero, List.drop_succ_cons, List.drop_zero]
  repeat (gi_big_quiet_step (exact cW _ _))
  refine wpQuietIn_nil ⟨by kernel_rfl, ?_⟩
  rintro _ ⟨⟨dq, osq⟩, rfl⟩
  have h2' := below_block dq osq hr
  have hc3 := (Msk.cell_of_box_l h2').1
  have hf3 := (Msk.cell_of_box_l h2').2
  refine op_runs (w' := (grow (redrawn W' dq) osq).setCell ⟨rb, 0, none⟩ (.bool va)) (v := undef) (x := .skip) (by intro c e; cases e) (by intro c e; cases e) (by go_simp) (.inr ⟨rfl, rfl⟩) ?_
  refine wpQuietIn_nil ?_
  exact blur_q (Q := Q) (fun D => { tmps := #[D 0, .pointer (some ⟨pb, 0, none⟩), .pointer (some ⟨rb, 0, none⟩), .pointer (some ⟨tb, 0, none⟩), D 4, D 5, D 6, D 7, D 8, D 9, D 10, D 11, D 12, D 13, D 14, D 15, D 16, D 17, D 18, D 19, D 20, D 21, D 22, D 23, D 24, D 25, D 26, D 27, D 28, D 29, D 30, D 31, D 32, D 33, D 34, D 35, D 36, D 37, D 38, D 39, D 40, D 41, D 42, D 43, D 44, D 45, D 46, D 47, D 48, D 49, D 50, D 51, D 52, D 53, D 54, D 55, D 56, D 57, D 58, D 59, D 60, D 61, D 62, D 63, D 64, D 65, D 66, D 67, D 68, D 69, D 70, D 71, D 72, D 73, D 74, D 75, D 76, D 77, D 78, D 79, D 80, D 81, D 82, D 83, D 84, D 85, D 86, D 87], defers := df }) rfl (fun D => hQ _ _ D)
end Go.Proofs.YtnmmglkigiakaaaGreat
