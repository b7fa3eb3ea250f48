/- The program: the round in which a group of the current task is asked about. The program: whether a stay is ok, where it is over by then. The program: the last question about a stay. The program: whether a stay is ok, of a task in line. The program: whether a stay, and a processor, is ok. -/
import Derived.Sort.BigQuietIn
import Derived.Test.YtnmmglkigiakaaaGreatD20
namespace Go.Proofs.YtnmmglkigiakaaaGreat
set_option maxRecDepth 100000
set_option maxHeartbeats 32000000
set_option linter.unusedVariables false
set_option linter.unusedSimpArgs false
open Go.ChangeShapes Go.WideShapes Go.ChangeAt Go.RowKit Go.Shelf Go.Sort
attribute [local go_sem] Oper.semAt_some
def loopBody : Code → Option Code
  | .seq a b => match loopBody a with | some x => some x | none => loopBody b
  | .cond _ a b => match loopBody a with | some x => some x | none => loopBody b
  | .block _ a => loopBody a
  | .loop a => loopBody a
  | .scope a => loopBody a
  | .rangeFunc _ _ _ b => some b
  | _ => none
theorem stay_round {b : Code} (hb : Tryz.f152.body.bind loopBody = some b) (l' : Nat) (Q : Exit → Act → World → Prop) (D : Nat → Value) (pb rb pw pg po x : Nat) (c ran : Int) (va : Bool) (W' : World)
    (p0 : W'.cell? ⟨pb, 0, none⟩ = some (.pointer (some ⟨pw, 0, none⟩))) (p1 : W'.cell? ⟨pb, 1, none⟩ = some (.int .i64 c)) (p2 : W'.cell? ⟨pb, 2, none⟩ = some (.pointer (some ⟨pg, po, none⟩))) (n2 : W'.cell? ⟨pg, po + 2, none⟩ = some (.int .i64 ran))
    (hr : W'.heap[rb]? = some (.cells #[.bool false] 4 (0, 0)))
    (cW : ∀ d os, CallsIn (Fence.wide.inRound l') (9 - 1) Tryz.prog 151 #[.agg #[.pointer (some ⟨pw, 0, none⟩), .int .i64 c], .int .i64 (x : Int), .int .i64 ran] (grow (redrawn W' d) os) fun e' w'' => e' = .returned (.bool va) ∧ ∃ p : Regrown, w'' = grow (redrawn W' p.d) p.os)
    (hret : va = false → ∀ d os a', Q .ret a' ((grow (redrawn W' d) os).setCell ⟨rb, 0, none⟩ (.bool false)))
    (hnext : va = true → ∀ d os a', Q .normal a' (grow (redrawn W' d) os)) :
    b.wpIn (Fence.wide.inRound l') 9 Tryz.prog Q { tmps := #[D 0, .pointer (some ⟨pb, 0, none⟩), .pointer (some ⟨rb, 0, none⟩), D 3, .int .i64 (x : Int), D 5, D 6, D 7, D 8, D 9, D 10, D 11, D 12, D 13, D 14, D 15, D 16, D 17, D 18, D 19, D 20, D 21, D 22, D 23, D 24, D 25, D 26, D 27, D 28, D 29, D 30, D 31, D 32, D 33, D 34, D 35, D 36, D 37, D 38, D 39, D 40, D 41, D 42, D 43, D 44, D 45, D 46, D 47, D 48, D 49, D 50, D 51, D 52, D 53, D 54, D 55, D 56, D 57, D 58, D 59, D 60, D 61, D 62, D 63, D 64, D 65, D 66, D 67, D 68, D 69, D 70, D 71, D 72, D 73, D 74, D 75, D 76, D 77, D 78, D 79, D 80, D 81, D 82, D 83, D 84, D 85, D 86, D 87], defers := [] } W' := by
  have mixed : Tryz.prog.follows Departure.mixedOrders = true := by kernel_rfl
  have hfn : ∀ f, Fence.wide.fn f := fun _ => trivial
  simp only [Tryz.f152, Option.bind_some, loopBody, Option.some.injEq] at hb
  subst hb
  have k0 := cell_regrown p0
  have k1 := cell_regrown p1
  have k2 := cell_regrown p2
  have k3 := cell_regrown n2
  clear p0 p1 p2 n2
  cases va
  · have hR : Hid (∀ d os a', Q .ret a' ((grow (redrawn W' d) os).setCell ⟨rb, 0, none⟩ (.bool false))) := hret rfl
    clear hret hnext
    gi_wp2
    refine region_quiet_rg mixed (by kernel_rfl) ?_
    repeat (gi_big_quiet_step (exact cW _ _))
    refine wpQuietIn_nil ?_
    rintro _ ⟨⟨dq, osq⟩, rfl⟩
    have h2' := below_block dq osq hr
    have hc3 := (Msk.cell_of_box_l h2').1
    have hf3 := (Msk.cell_of_box_l h2').2
    clear h2' hr
    gi_wp2
    exact hR.out _ _ _
  · have hR : Hid (∀ d os a', Q .normal a' (grow (redrawn W' d) os)) := hnext rfl
    clear hret hnext
    gi_wp2
    refine region_quiet_rg mixed (by kernel_rfl) ?_
    repeat (gi_big_quiet_step (exact cW _ _))
    refine wpQuietIn_nil ?_
    rintro _ ⟨⟨dq, osq⟩, rfl⟩
    gi_wp2
    exact hR.out _ _ _
def grpInB (ds : List Gr) (ran : Int) (c k : Nat) : Bool := withinB (shAt ds k c).v (shAt ds (paAt ds k).toNat c).fl (vstep ran (shAt ds k c).w)
def tskInB (ds : List Gr) (ran : Int) (c : Nat) (t : Tk) : Bool := withinB t.v (shAt ds t.gr.toNat c).fl (vstep ran (wof t.ni))
def stay2 (u : Wv) (c : Nat) (ran : Int) (t : Tk) : Bool := (outs (gsD u.gs) t.gr.toNat).all (grpInB (gsD u.gs) ran c) && tskInB (gsD u.gs) ran c t
def stayB (u : Wv) (c : Nat) (x : Cp) : Bool :=
  if x.cur = -1 then decide (x.ran = 0) else x.up && (decide (1 ≤ x.ran) && (decide (x.ran ≤ 149) && (inlT u x.cur c && (u.ts[x.cur.toNat]?).any (stay2 u c x.ran))))
theorem blocks2 {w w1 : World} {A B : Obj} (h : ((w.alloc A).alloc B) = w1) : w1.heap[w.heap.size]? = some A ∧ w1.heap.size = w.heap.size + 2 ∧ w1.heap[w.heap.size + 1]? = some B ∧ Below w.heap.size w w1 := by
  subst h
  refine ⟨(Below.heap_alloc _ _ _ (by simp)).trans (heap_alloc_new w A), by simp, ?_, ((Below.refl _ _).alloc (Nat.le_refl _) _).alloc (by simp) _⟩
  have := heap_alloc_new (w.alloc A) B
  rwa [World.size_alloc] at this
theorem blur {c : Code} {F : Fence} {n : Nat} {P : Program} {Q : Exit → Act → World → Prop} {a : Act} {w : World} (f : (Nat → Value) → Act) (ha : a = f (fun i => a.tmps.getD i undef)) (H : ∀ D, c.wpIn F n P Q (f D) w) : c.wpIn F n P Q a w := ha ▸ H _
theorem stay_nobody (pw c pg po : Nat) (x : Cp) (u : Wv) (w : World) (hA : AtW w pw u) (hF : Fit u) (hT : TFit u) (hc : c < u.cs.length) (hx : w.rangeAt pg po (cpC x)) (hcur : x.cur = -1) :
    Calls Tryz.prog 152 #[prV pw (c : Int) pg po] w fun e w' => e = .returned (.bool (stayB u c x)) ∧ Below w.heap.size w w' := by
  have mixed : Tryz.prog.follows Departure.mixedOrders = true := by kernel_rfl
  have hfn : ∀ f, Fence.wide.fn f := fun _ => trivial
  obtain ⟨x0, x1, x2, x3, x4⟩ := cp_cells hx
  refine (callsIn_wide (n := 9)).1 ?_
  refine callsIn_of_wp_marks Tryz.func152 rfl trivial ?_ rfl
  unfold prV ptr ptrO
  simp only [Tryz.ntmps152, List.size_toArray, List.length_cons, List.length_nil, Nat.reduceAdd, Nat.reduceSub, Array.replicate_succ, Array.replicate_zero, List.push_toArray, List.append_toArray, List.nil_append, List.cons_append]
  obtain ⟨W1, hW1⟩ : ∃ W1, ((w.alloc (.cells #[.pointer (some ⟨pw, 0, none⟩), .int .i64 (c : Int), .pointer (some ⟨pg, po, none⟩)] 56)).alloc (.cells #[.bool false] 4)) = W1 := ⟨_, rfl⟩
  obtain ⟨z0, z1', z2, z3⟩ := blocks2 hW1
  have z1 : Hid (W1.heap.size = w.heap.size + 2) := z1'
  clear z1'
  have hp : W1.rangeAt w.heap.size 0 [.pointer (some ⟨pw, 0, none⟩), .int .i64 (c : Int), .pointer (some ⟨pg, po, none⟩)] := range_of_block z0
  have p0 : W1.cell? ⟨w.heap.size, 0, none⟩ = some (.pointer (some ⟨pw, 0, none⟩)) := hp 0 _ rfl
  have p1 : W1.cell? ⟨w.heap.size, 1, none⟩ = some (.int .i64 (c : Int)) := hp 1 _ rfl
  have p2 : W1.cell? ⟨w.heap.size, 2, none⟩ = some (.pointer (some ⟨pg, po, none⟩)) := hp 2 _ rfl
  have b0 := (Msk.cell_of_box_l z2).1
  have b0' := (Msk.cell_of_box_l z2).2
  have hlp := block_lt_of_cell x1
  replace x0 := (z3.cell (block_lt_of_cell x0)).trans x0
  replace x1 := (z3.cell (block_lt_of_cell x1)).trans x1
  replace x2 := (z3.cell (block_lt_of_cell x2)).trans x2
  obtain ⟨up, cur, ran, bu, idl⟩ := x
  dsimp only at x0 x1 x2 hcur ⊢
  have early : ∀ (W : World) (b : Bool) (a : Act), W.heap[w.heap.size + 1]? = some (.cells #[.bool b] 4 (0, 0)) → Below w.heap.size w W → a.tmps.getD 2 undef = .pointer (some ⟨w.heap.size + 1, 0, none⟩) → b = stayB u c ⟨up, cur, ran, bu, idl⟩ → ∃ v, (results Tryz.f152 a.tmps).run Tryz.prog W = .ok v W ∧ (Ending.returned v = .returned (.bool (stayB u c ⟨up, cur, ran, bu, idl⟩)) ∧ Below w.heap.size w W) := by
    intro W b a hb hB ha hh
    have hcr := (Msk.cell_of_box_l hb).1
    refine ⟨.bool b, ?_, by rw [hh], hB⟩
    simp only [Array.getD_eq_getD_getElem?] at ha
    simp [results, Tryz.f152, go_sem, hcr, ha]
  subst hcur
  by_cases hran : ran = 0
  · subst hran
    gi_wp2
    exact early _ true _ ((show Boxed _ _ _ _ from z2).set _) (z3.setCell (p := ⟨w.heap.size + 1, 0, none⟩) (by simp) _) rfl (by simp [stayB])
  · gi_wp2
    exact early _ _ _ ((show Boxed _ _ _ _ from z2).set _) (z3.setCell (p := ⟨w.heap.size + 1, 0, none⟩) (by simp) _) rfl (by simp [stayB, hran])
theorem stay_down (pw c pg po : Nat) (x : Cp) (u : Wv) (w : World) (hA : AtW w pw u) (hF : Fit u) (hT : TFit u) (hc : c < u.cs.length) (hx : w.rangeAt pg po (cpC x)) (hcur : x.cur ≠ -1) (hup : x.up = false) :
    Calls Tryz.prog 152 #[prV pw (c : Int) pg po] w fun e w' => e = .returned (.bool (stayB u c x)) ∧ Below w.heap.size w w' := by
  have mixed : Tryz.prog.follows Departure.mixedOrders = true := by kernel_rfl
  have hfn : ∀ f, Fence.wide.fn f := fun _ => trivial
  obtain ⟨x0, x1, x2, x3, x4⟩ := cp_cells hx
  refine (callsIn_wide (n := 9)).1 ?_
  refine callsIn_of_wp_marks Tryz.func152 rfl trivial ?_ rfl
  unfold prV ptr ptrO
  simp only [Tryz.ntmps152, List.size_toArray, List.length_cons, List.length_nil, Nat.reduceAdd, Nat.reduceSub, Array.replicate_succ, Array.replicate_zero, List.push_toArray, List.append_toArray, List.nil_append, List.cons_append]
  obtain ⟨W1, hW1⟩ : ∃ W1, ((w.alloc (.cells #[.pointer (some ⟨pw, 0, none⟩), .int .i64 (c : Int), .pointer (some ⟨pg, po, none⟩)] 56)).alloc (.cells #[.bool false] 4)) = W1 := ⟨_, rfl⟩
  obtain ⟨z0, z1', z2, z3⟩ := blocks2 hW1
  have z1 : Hid (W1.heap.size = w.heap.size + 2) := z1'
  clear z1'
  have hp : W1.rangeAt w.heap.size 0 [.pointer (some ⟨pw, 0, none⟩), .int .i64 (c : Int), .pointer (some ⟨pg, po, none⟩)] := range_of_block z0
  have p0 : W1.cell? ⟨w.heap.size, 0, none⟩ = some (.pointer (some ⟨pw, 0, none⟩)) := hp 0 _ rfl
  have p1 : W1.cell? ⟨w.heap.size, 1, none⟩ = some (.int .i64 (c : Int)) := hp 1 _ rfl
  have p2 : W1.cell? ⟨w.heap.size, 2, none⟩ = some (.pointer (some ⟨pg, po, none⟩)) := hp 2 _ rfl
  have b0 := (Msk.cell_of_box_l z2).1
  have b0' := (Msk.cell_of_box_l z2).2
  have hlp := block_lt_of_cell x1
  replace x0 := (z3.cell (block_lt_of_cell x0)).trans x0
  replace x1 := (z3.cell (block_lt_of_cell x1)).trans x1
  replace x2 := (z3.cell (block_lt_of_cell x2)).trans x2
  obtain ⟨up, cur, ran, bu, idl⟩ := x
  dsimp only at x0 x1 x2 hcur hup ⊢
  have early : ∀ (W : World) (b : Bool) (a : Act), W.heap[w.heap.size + 1]? = some (.cells #[.bool b] 4 (0, 0)) → Below w.heap.size w W → a.tmps.getD 2 undef = .pointer (some ⟨w.heap.size + 1, 0, none⟩) → b = stayB u c ⟨up, cur, ran, bu, idl⟩ → ∃ v, (results Tryz.f152 a.tmps).run Tryz.prog W = .ok v W ∧ (Ending.returned v = .returned (.bool (stayB u c ⟨up, cur, ran, bu, idl⟩)) ∧ Below w.heap.size w W) := by
    intro W b a hb hB ha hh
    have hcr := (Msk.cell_of_box_l hb).1
    refine ⟨.bool b, ?_, by rw [hh], hB⟩
    simp only [Array.getD_eq_getD_getElem?] at ha
    simp [results, Tryz.f152, go_sem, hcr, ha]
  subst hup
  have k0 := cell_regrown p0
  have k1 := cell_regrown p1
  have k2 := cell_regrown p2
  have j0 := cell_regrown x0
  have j1 := cell_regrown x1
  have j2 := cell_regrown x2
  have HS : Hid (stayB u c ⟨false, cur, ran, bu, idl⟩ = false) := by unfold Hid stayB; simp [hcur]
  gi_wp2
  refine region_quiet_rg mixed (by kernel_rfl) ?_
  repeat (gi_big_quiet_step (fail))
  refine wpQuietIn_nil ?_
  rintro _ ⟨⟨dq, osq⟩, rfl⟩
  have y2 := below_block dq osq z2
  have b9 := (Msk.cell_of_box_l y2).1
  have b9' := (Msk.cell_of_box_l y2).2
  have B9 := z3.trans ((below_regrown W1 dq osq).mono z3.size)
  gi_wp2
  exact early _ false _ ((show Boxed _ _ _ _ from y2).set _) (B9.setCell (p := ⟨w.heap.size + 1, 0, none⟩) (by simp) _) rfl (by rw [HS.out])
theorem stay_short (pw c pg po : Nat) (x : Cp) (u : Wv) (w : World) (hA : AtW w pw u) (hF : Fit u) (hT : TFit u) (hc : c < u.cs.length) (hx : w.rangeAt pg po (cpC x)) (hcur : x.cur ≠ -1) (hup : x.up = true) (hr1 : x.ran < 1) :
    Calls Tryz.prog 152 #[prV pw (c : Int) pg po] w fun e w' => e = .returned (.bool (stayB u c x)) ∧ Below w.heap.size w w' := by
  have mixed : Tryz.prog.follows Departure.mixedOrders = true := by kernel_rfl
  have hfn : ∀ f, Fence.wide.fn f := fun _ => trivial
  obtain ⟨x0, x1, x2, x3, x4⟩ := cp_cells hx
  refine (callsIn_wide (n := 9)).1 ?_
  refine callsIn_of_wp_marks Tryz.func152 rfl trivial ?_ rfl
  unfold prV ptr ptrO
  simp only [Tryz.ntmps152, List.size_toArray, List.length_cons, List.length_nil, Nat.reduceAdd, Nat.reduceSub, Array.replicate_succ, Array.replicate_zero, List.push_toArray, List.append_toArray, List.nil_append, List.cons_append]
  obtain ⟨W1, hW1⟩ : ∃ W1, ((w.alloc (.cells #[.pointer (some ⟨pw, 0, none⟩), .int .i64 (c : Int), .pointer (some ⟨pg, po, none⟩)] 56)).alloc (.cells #[.bool false] 4)) = W1 := ⟨_, rfl⟩
  obtain ⟨z0, z1', z2, z3⟩ := blocks2 hW1
  have z1 : Hid (W1.heap.size = w.heap.size + 2) := z1'
  clear z1'
  have hp : W1.rangeAt w.heap.size 0 [.pointer (some ⟨pw, 0, none⟩), .int .i64 (c : Int), .pointer (some ⟨pg, po, none⟩)] := range_of_block z0
  have p0 : W1.cell? ⟨w.heap.size, 0, none⟩ = some (.pointer (some ⟨pw, 0, none⟩)) := hp 0 _ rfl
  have p1 : W1.cell? ⟨w.heap.size, 1, none⟩ = some (.int .i64 (c : Int)) := hp 1 _ rfl
  have p2 : W1.cell? ⟨w.heap.size, 2, none⟩ = some (.pointer (some ⟨pg, po, none⟩)) := hp 2 _ rfl
  have b0 := (Msk.cell_of_box_l z2).1
  have b0' := (Msk.cell_of_box_l z2).2
  have hlp := block_lt_of_cell x1
  replace x0 := (z3.cell (block_lt_of_cell x0)).trans x0
  replace x1 := (z3.cell (block_lt_of_cell x1)).trans x1
  replace x2 := (z3.cell (block_lt_of_cell x2)).trans x2
  obtain ⟨up, cur, ran, bu, idl⟩ := x
  dsimp only at x0 x1 x2 hcur hup hr1 ⊢
  have early : ∀ (W : World) (b : Bool) (a : Act), W.heap[w.heap.size + 1]? = some (.cells #[.bool b] 4 (0, 0)) → Below w.heap.size w W → a.tmps.getD 2 undef = .pointer (some ⟨w.heap.size + 1, 0, none⟩) → b = stayB u c ⟨up, cur, ran, bu, idl⟩ → ∃ v, (results Tryz.f152 a.tmps).run Tryz.prog W = .ok v W ∧ (Ending.returned v = .returned (.bool (stayB u c ⟨up, cur, ran, bu, idl⟩)) ∧ Below w.heap.size w W) := by
    intro W b a hb hB ha hh
    have hcr := (Msk.cell_of_box_l hb).1
    refine ⟨.bool b, ?_, by rw [hh], hB⟩
    simp only [Array.getD_eq_getD_getElem?] at ha
    simp [results, Tryz.f152, go_sem, hcr, ha]
  subst hup
  have k0 := cell_regrown p0
  have k1 := cell_regrown p1
  have k2 := cell_regrown p2
  have j0 := cell_regrown x0
  have j1 := cell_regrown x1
  have j2 := cell_regrown x2
  have HS : Hid (stayB u c ⟨true, cur, ran, bu, idl⟩ = false) := by unfold Hid stayB; simp [hcur]; intro h; omega
  gi_wp2
  refine region_quiet_rg mixed (by kernel_rfl) ?_
  repeat (gi_big_quiet_step (fail))
  refine wpQuietIn_nil ?_
  rintro _ ⟨⟨dq, osq⟩, rfl⟩
  have y2 := below_block dq osq z2
  have b9 := (Msk.cell_of_box_l y2).1
  have b9' := (Msk.cell_of_box_l y2).2
  have B9 := z3.trans ((below_regrown W1 dq osq).mono z3.size)
  gi_wp2
  exact early _ false _ ((show Boxed _ _ _ _ from y2).set _) (B9.setCell (p := ⟨w.heap.size + 1, 0, none⟩) (by simp) _) rfl (by rw [HS.out])
theorem stay_long (pw c pg po : Nat) (x : Cp) (u : Wv) (w : World) (hA : AtW w pw u) (hF : Fit u) (hT : TFit u) (hc : c < u.cs.length) (hx : w.rangeAt pg po (cpC x)) (hcur : x.cur ≠ -1) (hup : x.up = true) (hr1 : ¬ x.ran < 1) (hr2 : 149 < x.ran) :
    Calls Tryz.prog 152 #[prV pw (c : Int) pg po] w fun e w' => e = .returned (.bool (stayB u c x)) ∧ Below w.heap.size w w' := by
  have mixed : Tryz.prog.follows Departure.mixedOrders = true := by kernel_rfl
  have hfn : ∀ f, Fence.wide.fn f := fun _ => trivial
  obtain ⟨x0, x1, x2, x3, x4⟩ := cp_cells hx
  refine (callsIn_wide (n := 9)).1 ?_
  refine callsIn_of_wp_marks Tryz.func152 rfl trivial ?_ rfl
  unfold prV ptr ptrO
  simp only [Tryz.ntmps152, List.size_toArray, List.length_cons, List.length_nil, Nat.reduceAdd, Nat.reduceSub, Array.replicate_succ, Array.replicate_zero, List.push_toArray, List.append_toArray, List.nil_append, List.cons_append]
  obtain ⟨W1, hW1⟩ : ∃ W1, ((w.alloc (.cells #[.pointer (some ⟨pw, 0, none⟩), .int .i64 (c : Int), .pointer (some ⟨pg, po, none⟩)] 56)).alloc (.cells #[.bool false] 4)) = W1 := ⟨_, rfl⟩
  obtain ⟨z0, z1', z2, z3⟩ := blocks2 hW1
  have z1 : Hid (W1.heap.size = w.heap.size + 2) := z1'
  clear z1'
  have hp : W1.rangeAt w.heap.size 0 [.pointer (some ⟨pw, 0, none⟩), .int .i64 (c : Int), .pointer (some ⟨pg, po, none⟩)] := range_of_block z0
  have p0 : W1.cell? ⟨w.heap.size, 0, none⟩ = some (.pointer (some ⟨pw, 0, none⟩)) := hp 0 _ rfl
  have p1 : W1.cell? ⟨w.heap.size, 1, none⟩ = some (.int .i64 (c : Int)) := hp 1 _ rfl
  have p2 : W1.cell? ⟨w.heap.size, 2, none⟩ = some (.pointer (some ⟨pg, po, none⟩)) := hp 2 _ rfl
  have b0 := (Msk.cell_of_box_l z2).1
  have b0' := (Msk.cell_of_box_l z2).2
  have hlp := block_lt_of_cell x1
  replace x0 := (z3.cell (block_lt_of_cell x0)).trans x0
  replace x1 := (z3.cell (block_lt_of_cell x1)).trans x1
  replace x2 := (z3.cell (block_lt_of_cell x2)).trans x2
  obtain ⟨up, cur, ran, bu, idl⟩ := x
  dsimp only at x0 x1 x2 hcur hup hr1 hr2 ⊢
  have early : ∀ (W : World) (b : Bool) (a : Act), W.heap[w.heap.size + 1]? = some (.cells #[.bool b] 4 (0, 0)) → Below w.heap.size w W → a.tmps.getD 2 undef = .pointer (some ⟨w.heap.size + 1, 0, none⟩) → b = stayB u c ⟨up, cur, ran, bu, idl⟩ → ∃ v, (results Tryz.f152 a.tmps).run Tryz.prog W = .ok v W ∧ (Ending.returned v = .returned (.bool (stayB u c ⟨up, cur, ran, bu, idl⟩)) ∧ Below w.heap.size w W) := by
    intro W b a hb hB ha hh
    have hcr := (Msk.cell_of_box_l hb).1
    refine ⟨.bool b, ?_, by rw [hh], hB⟩
    simp only [Array.getD_eq_getD_getElem?] at ha
    simp [results, Tryz.f152, go_sem, hcr, ha]
  subst hup
  have k0 := cell_regrown p0
  have k1 := cell_regrown p1
  have k2 := cell_regrown p2
  have j0 := cell_regrown x0
  have j1 := cell_regrown x1
  have j2 := cell_regrown x2
  have hd1 : decide (ran < 1) = false := decide_eq_false hr1
  have HS : Hid (stayB u c ⟨true, cur, ran, bu, idl⟩ = false) := by unfold Hid stayB; simp [hcur]; intro _ h; omega
  gi_wp2
  refine region_quiet_rg mixed (by kernel_rfl) ?_
  repeat (gi_big_quiet_step (fail))
  refine wpQuietIn_nil ?_
  rintro _ ⟨⟨dq, osq⟩, rfl⟩
  have y2 := below_block dq osq z2
  have b9 := (Msk.cell_of_box_l y2).1
  have b9' := (Msk.cell_of_box_l y2).2
  have B9 := z3.trans ((below_regrown W1 dq osq).mono z3.size)
  gi_wp2
  exact early _ false _ ((show Boxed _ _ _ _ from y2).set _) (B9.setCell (p := ⟨w.heap.size + 1, 0, none⟩) (by simp) _) rfl (by rw [HS.out])
theorem stay_off (pw c pg po : Nat) (x : Cp) (u : Wv) (w : World) (hA : AtW w pw u) (hF : Fit u) (hT : TFit u) (hc : c < u.cs.length) (hx : w.rangeAt pg po (cpC x)) (hcur : x.cur ≠ -1) (hup : x.up = true) (hr1 : ¬ x.ran < 1) (hr2 : ¬ 149 < x.ran) (hin : inlT u x.cur c = false) :
    Calls Tryz.prog 152 #[prV pw (c : Int) pg po] w fun e w' => e = .returned (.bool (stayB u c x)) ∧ Below w.heap.size w w' := by
  have mixed : Tryz.prog.follows Departure.mixedOrders = true := by kernel_rfl
  have hfn : ∀ f, Fence.wide.fn f := fun _ => trivial
  obtain ⟨x0, x1, x2, x3, x4⟩ := cp_cells hx
  refine (callsIn_wide (n := 9)).1 ?_
  refine callsIn_of_wp_marks Tryz.func152 rfl trivial ?_ rfl
  unfold prV ptr ptrO
  simp only [Tryz.ntmps152, List.size_toArray, List.length_cons, List.length_nil, Nat.reduceAdd, Nat.reduceSub, Array.replicate_succ, Array.replicate_zero, List.push_toArray, List.append_toArray, List.nil_append, List.cons_append]
  obtain ⟨W1, hW1⟩ : ∃ W1, ((w.alloc (.cells #[.pointer (some ⟨pw, 0, none⟩), .int .i64 (c : Int), .pointer (some ⟨pg, po, none⟩)] 56)).alloc (.cells #[.bool false] 4)) = W1 := ⟨_, rfl⟩
  obtain ⟨z0, z1', z2, z3⟩ := blocks2 hW1
  have z1 : Hid (W1.heap.size = w.heap.size + 2) := z1'
  clear z1'
  have hp : W1.rangeAt w.heap.size 0 [.pointer (some ⟨pw, 0, none⟩), .int .i64 (c : Int), .pointer (some ⟨pg, po, none⟩)] := range_of_block z0
  have p0 : W1.cell? ⟨w.heap.size, 0, none⟩ = some (.pointer (some ⟨pw, 0, none⟩)) := hp 0 _ rfl
  have p1 : W1.cell? ⟨w.heap.size, 1, none⟩ = some (.int .i64 (c : Int)) := hp 1 _ rfl
  have p2 : W1.cell? ⟨w.heap.size, 2, none⟩ = some (.pointer (some ⟨pg, po, none⟩)) := hp 2 _ rfl
  have b0 := (Msk.cell_of_box_l z2).1
  have b0' := (Msk.cell_of_box_l z2).2
  have hlp := block_lt_of_cell x1
  replace x0 := (z3.cell (block_lt_of_cell x0)).trans x0
  replace x1 := (z3.cell (block_lt_of_cell x1)).trans x1
  replace x2 := (z3.cell (block_lt_of_cell x2)).trans x2
  obtain ⟨up, cur, ran, bu, idl⟩ := x
  dsimp only at x0 x1 x2 hcur hup hr1 hr2 hin ⊢
  have early : ∀ (W : World) (b : Bool) (a : Act), W.heap[w.heap.size + 1]? = some (.cells #[.bool b] 4 (0, 0)) → Below w.heap.size w W → a.tmps.getD 2 undef = .pointer (some ⟨w.heap.size + 1, 0, none⟩) → b = stayB u c ⟨up, cur, ran, bu, idl⟩ → ∃ v, (results Tryz.f152 a.tmps).run Tryz.prog W = .ok v W ∧ (Ending.returned v = .returned (.bool (stayB u c ⟨up, cur, ran, bu, idl⟩)) ∧ Below w.heap.size w W) := by
    intro W b a hb hB ha hh
    have hcr := (Msk.cell_of_box_l hb).1
    refine ⟨.bool b, ?_, by rw [hh], hB⟩
    simp only [Array.getD_eq_getD_getElem?] at ha
    simp [results, Tryz.f152, go_sem, hcr, ha]
  subst hup
  have k0 := cell_regrown p0
  have k1 := cell_regrown p1
  have k2 := cell_regrown p2
  have j0 := cell_regrown x0
  have j1 := cell_regrown x1
  have j2 := cell_regrown x2
  have hd1 : decide (ran < 1) = false := decide_eq_false hr1
  have hd2 : decide (149 < ran) = false := decide_eq_false hr2
  have cL : ∀ d os, CallsIn Fence.wide (9 - 1) Tryz.prog 123 #[.agg #[.pointer (some ⟨pw, 0, none⟩), .int .i64 (c : Int), .pointer (some ⟨pg, po, none⟩)], .int .i64 cur] (grow (redrawn W1 d) os) fun e' w'' => e' = .returned (.bool (inlT u cur c)) ∧ ∃ p : Regrown, w'' = grow (redrawn W1 p.d) p.os := fun d os =>
    calls_fw (Calls.regrown_of (hasInLine_any pw c pg po cur u _ ((hA.below z3).below (below_regrown W1 d os)) hF hT hc))
  have HS : Hid (stayB u c ⟨true, cur, ran, bu, idl⟩ = false) := by unfold Hid stayB; simp [hcur, hin]
  rw [hin] at cL
  clear hin
  gi_wp2
  refine region_quiet_rg mixed (by kernel_rfl) ?_
  repeat (gi_big_quiet_step (exact cL _ _))
  refine wpQuietIn_nil ?_
  rintro _ ⟨⟨dq, osq⟩, rfl⟩
  have y2 := below_block dq osq z2
  have b9 := (Msk.cell_of_box_l y2).1
  have b9' := (Msk.cell_of_box_l y2).2
  have B9 := z3.trans ((below_regrown W1 dq osq).mono z3.size)
  gi_wp2
  exact early _ false _ ((show Boxed _ _ _ _ from y2).set _) (B9.setCell (p := ⟨w.heap.size + 1, 0, none⟩) (by simp) _) rfl (by rw [HS.out])
theorem blur_q {Q : Exit → Act → World → Prop} {a : Act} {w : World} (f : (Nat → Value) → Act) (ha : a = f (fun i => a.tmps.getD i undef)) (H : ∀ D, Q .normal (f D) w) : Q .normal a w := ha ▸ H _
def stayAct (D : Nat → Value) (pb tb : Nat) (x f : Value) : Act := { tmps := #[D 0, .pointer (some ⟨pb, 0, none⟩), .pointer (some ⟨pb + 1, 0, none⟩), .pointer (some ⟨tb, 0, none⟩), x, D 5, D 6, D 7, D 8, D 9, D 10, D 11, D 12, D 13, D 14, D 15, D 16, D 17, D 18, D 19, D 20, D 21, D 22, D 23, D 24, D 25, D 26, D 27, D 28, D 29, D 30, D 31, D 32, D 33, D 34, D 35, D 36, D 37, D 38, D 39, D 40, D 41, D 42, D 43, D 44, D 45, D 46, D 47, D 48, D 49, D 50, D 51, D 52, D 53, D 54, D 55, D 56, D 57, D 58, D 59, D 60, D 61, D 62, D 63, D 64, D 65, D 66, f, D 68, D 69, D 70, D 71, D 72, D 73, D 74, D 75, D 76, D 77, D 78, D 79, D 80, D 81, D 82, D 83, D 84, D 85, D 86, D 87], defers := [] }
theorem stayAct_ex {a : Act} {pb tb : Nat} {x : Value} (h : a = stayAct (fun i => a.tmps.getD i undef) pb tb x (a.tmps.getD 67 undef)) : ∃ D f, a = stayAct D pb tb x f := ⟨_, _, h⟩
def findRegion (n : Nat) : Code → Option Code
  | .region id ops m => if id = n then some (.region id ops m) else none
  | .seq a b => match findRegion n a with | some x => some x | none => findRegion n b
  | .cond _ a b => match findRegion n a with | some x => some x | none => findRegion n b
  | .block _ a => findRegion n a
  | .loop a => findRegion n a
  | .scope a => findRegion n a
  | .rangeFunc _ _ a b => match findRegion n a with | some x => some x | none => findRegion n b
  | _ => none
theorem stay_last {b : Code} (hb : Tryz.f152.body.bind (findRegion 10) = some b) (Q : Exit → Act → World → Prop) (D : Nat → Value) (df : List Deferred) (pb rb tb pw pg po : Nat) (c ran e0 e1 e2 e3 e4 e5 e6 e7 e8 : Int) (va : Bool) (W' : World)
    (p0 : W'.cell? ⟨pb, 0, none⟩ = some (.pointer (some ⟨pw, 0, none⟩))) (p1 : W'.cell? ⟨pb, 1, none⟩ = some (.int .i64 c)) (p2 : W'.cell? ⟨pb, 2, none⟩ = some (.pointer (some ⟨pg, po, none⟩))) (n2 : W'.cell? ⟨pg, po + 2, none⟩ = some (.int .i64 ran))
    (ht : W'.rangeAt tb 0 [.int .i64 e0, .int .i64 e1, .int .i64 e2, .int .i64 e3, .int .i64 e4, .int .i64 e5, .int .i64 e6, .int .i64 e7, .int .i64 e8])
    (hr : W'.heap[rb]? = some (.cells #[.bool false] 4 (0, 0)))
    (cW : ∀ d os, CallsIn Fence.wide (9 - 1) Tryz.prog 147 #[.agg #[.pointer (some ⟨pw, 0, none⟩), .int .i64 c], .agg #[.int .i64 e0, .int .i64 e1, .int .i64 e2, .int .i64 e3, .int .i64 e4, .int .i64 e5, .int .i64 e6, .int .i64 e7, .int .i64 e8], .int .i64 ran] (grow (redrawn W' d) os) fun e' w'' => e' = .returned (.bool va) ∧ ∃ p : Regrown, w'' = grow (redrawn W' p.d) p.os)
    (hQ : ∀ d os (D : Nat → Value), Q .normal { tmps := #[D 0, .pointer (some ⟨pb, 0, none⟩), .pointer (some ⟨rb, 0, none⟩), .pointer (some ⟨tb, 0, none⟩), D 4, D 5, D 6, D 7, D 8, D 9, D 10, D 11, D 12, D 13, D 14, D 15, D 16, D 17, D 18, D 19, D 20, D 21, D 22, D 23, D 24, D 25, D 26, D 27, D 28, D 29, D 30, D 31, D 32, D 33, D 34, D 35, D 36, D 37, D 38, D 39, D 40, D 41, D 42, D 43, D 44, D 45, D 46, D 47, D 48, D 49, D 50, D 51, D 52, D 53, D 54, D 55, D 56, D 57, D 58, D 59, D 60, D 61, D 62, D 63, D 64, D 65, D 66, D 67, D 68, D 69, D 70, D 71, D 72, D 73, D 74, D 75, D 76, D 77, D 78, D 79, D 80, D 81, D 82, D 83, D 84, D 85, D 86, D 87], defers := df } ((grow (redrawn W' d) os).setCell ⟨rb, 0, none⟩ (.bool va))) :
    b.wpIn Fence.wide 9 Tryz.prog Q { tmps := #[D 0, .pointer (some ⟨pb, 0, none⟩), .pointer (some ⟨rb, 0, none⟩), .pointer (some ⟨tb, 0, none⟩), D 4, D 5, D 6, D 7, D 8, D 9, D 10, D 11, D 12, D 13, D 14, D 15, D 16, D 17, D 18, D 19, D 20, D 21, D 22, D 23, D 24, D 25, D 26, D 27, D 28, D 29, D 30, D 31, D 32, D 33, D 34, D 35, D 36, D 37, D 38, D 39, D 40, D 41, D 42, D 43, D 44, D 45, D 46, D 47, D 48, D 49, D 50, D 51, D 52, D 53, D 54, D 55, D 56, D 57, D 58, D 59, D 60, D 61, D 62, D 63, D 64, D 65, D 66, D 67, D 68, D 69, D 70, D 71, D 72, D 73, D 74, D 75, D 76, D 77, D 78, D 79, D 80, D 81, D 82, D 83, D 84, D 85, D 86, D 87], defers := df } W' := by
  have mixed : Tryz.prog.follows Departure.mixedOrders = true := by kernel_rfl
  have hfn : ∀ f, Fence.wide.fn f := fun _ => trivial
  simp only [Tryz.f152, Option.bind_some, findRegion, Nat.reduceEqDiff, if_false, if_true, reduceCtorEq, Option.some.injEq] at hb
  subst hb
  have k0 := cell_regrown p0
  have k1 := cell_regrown p1
  have k2 := cell_regrown p2
  have k3 := cell_regrown n2
  have m0 := cell_regrown (show W'.cell? ⟨tb, 0, none⟩ = _ from ht 0 _ rfl)
  have m1 := cell_regrown (show W'.cell? ⟨tb, 1, none⟩ = _ from ht 1 _ rfl)
  have m2 := cell_regrown (show W'.cell? ⟨tb, 2, none⟩ = _ from ht 2 _ rfl)
  have m3 := cell_regrown (show W'.cell? ⟨tb, 3, none⟩ = _ from ht 3 _ rfl)
  have m4 := cell_regrown (show W'.cell? ⟨tb, 4, none⟩ = _ from ht 4 _ rfl)
  have m5 := cell_regrown (show W'.cell? ⟨tb, 5, none⟩ = _ from ht 5 _ rfl)
  have m6 := cell_regrown (show W'.cell? ⟨tb, 6, none⟩ = _ from ht 6 _ rfl)
  have m7 := cell_regrown (show W'.cell? ⟨tb, 7, none⟩ = _ from ht 7 _ rfl)
  have m8 := cell_regrown (show W'.cell? ⟨tb, 8, none⟩ = _ from ht 8 _ rfl)
  clear p0 p1 p2 n2 ht
  refine region_gated_rg 9 rfl mixed (by kernel_rfl) ?_
  simp only [List.take_succ_cons, List.take_zero, List.drop_succ_cons, List.drop_zero]
  repeat (gi_big_quiet_step (exact cW _ _))
  refine wpQuietIn_nil ⟨by kernel_rfl, ?_⟩
  rintro _ ⟨⟨dq, osq⟩, rfl⟩
  have h2' := below_block dq osq hr
  have hc3 := (Msk.cell_of_box_l h2').1
  have hf3 := (Msk.cell_of_box_l h2').2
  refine op_runs (w' := (grow (redrawn W' dq) osq).setCell ⟨rb, 0, none⟩ (.bool va)) (v := undef) (x := .skip) (by intro c e; cases e) (by intro c e; cases e) (by go_simp) (.inr ⟨rfl, rfl⟩) ?_
  refine wpQuietIn_nil ?_
  exact blur_q (Q := Q) (fun D => { tmps := #[D 0, .pointer (some ⟨pb, 0, none⟩), .pointer (some ⟨rb, 0, none⟩), .pointer (some ⟨tb, 0, none⟩), D 4, D 5, D 6, D 7, D 8, D 9, D 10, D 11, D 12, D 13, D 14, D 15, D 16, D 17, D 18, D 19, D 20, D 21, D 22, D 23, D 24, D 25, D 26, D 27, D 28, D 29, D 30, D 31, D 32, D 33, D 34, D 35, D 36, D 37, D 38, D 39, D 40, D 41, D 42, D 43, D 44, D 45, D 46, D 47, D 48, D 49, D 50, D 51, D 52, D 53, D 54, D 55, D 56, D 57, D 58, D 59, D 60, D 61, D 62, D 63, D 64, D 65, D 66, D 67, D 68, D 69, D 70, D 71, D 72, D 73, D 74, D 75, D 76, D 77, D 78, D 79, D 80, D 81, D 82, D 83, D 84, D 85, D 86, D 87], defers := df }) rfl (fun D => hQ _ _ D)
theorem stay_there (pw c pg po : Nat) (x : Cp) (u : Wv) (w : World) (hA : AtW w pw u) (hF : Fit u) (hT : TFit u) (hc : c < u.cs.length) (hx : w.rangeAt pg po (cpC x)) (hcur : x.cur ≠ -1) (hup : x.up = true) (hr1 : ¬ x.ran < 1) (hr2 : ¬ 149 < x.ran) (hin : inlT u x.cur c = true) :
    Calls Tryz.prog 152 #[prV pw (c : Int) pg po] w fun e w' => e = .returned (.bool (stayB u c x)) ∧ Below w.heap.size w w' := by
  have mixed : Tryz.prog.follows Departure.mixedOrders = true := by kernel_rfl
  have hfn : ∀ f, Fence.wide.fn f := fun _ => trivial
  obtain ⟨x0, x1, x2, x3, x4⟩ := cp_cells hx
  refine (callsIn_wide (n := 9)).1 ?_
  refine callsIn_of_wp_marks Tryz.func152 rfl trivial ?_ rfl
  unfold prV ptr ptrO
  simp only [Tryz.ntmps152, List.size_toArray, List.length_cons, List.length_nil, Nat.reduceAdd, Nat.reduceSub, Array.replicate_succ, Array.replicate_zero, List.push_toArray, List.append_toArray, List.nil_append, List.cons_append]
  obtain ⟨W1, hW1⟩ : ∃ W1, ((w.alloc (.cells #[.pointer (some ⟨pw, 0, none⟩), .int .i64 (c : Int), .pointer (some ⟨pg, po, none⟩)] 56)).alloc (.cells #[.bool false] 4)) = W1 := ⟨_, rfl⟩
  obtain ⟨z0, z1', z2, z3⟩ := blocks2 hW1
  have z1 : Hid (W1.heap.size = w.heap.size + 2) := z1'
  clear z1'
  have hp : W1.rangeAt w.heap.size 0 [.pointer (some ⟨pw, 0, none⟩), .int .i64 (c : Int), .pointer (some ⟨pg, po, none⟩)] := range_of_block z0
  have p0 : W1.cell? ⟨w.heap.size, 0, none⟩ = some (.pointer (some ⟨pw, 0, none⟩)) := hp 0 _ rfl
  have p1 : W1.cell? ⟨w.heap.size, 1, none⟩ = some (.int .i64 (c : Int)) := hp 1 _ rfl
  have p2 : W1.cell? ⟨w.heap.size, 2, none⟩ = some (.pointer (some ⟨pg, po, none⟩)) := hp 2 _ rfl
  have b0 := (Msk.cell_of_box_l z2).1
  have b0' := (Msk.cell_of_box_l z2).2
  have hlp := block_lt_of_cell x1
  replace x0 := (z3.cell (block_lt_of_cell x0)).trans x0
  replace x1 := (z3.cell (block_lt_of_cell x1)).trans x1
  replace x2 := (z3.cell (block_lt_of_cell x2)).trans x2
  obtain ⟨up, cur, ran, bu, idl⟩ := x
  dsimp only at x0 x1 x2 hcur hup hr1 hr2 hin ⊢
  have early : ∀ (W : World) (b : Bool) (a : Act), W.heap[w.heap.size + 1]? = some (.cells #[.bool b] 4 (0, 0)) → Below w.heap.size w W → a.tmps.getD 2 undef = .pointer (some ⟨w.heap.size + 1, 0, none⟩) → b = stayB u c ⟨up, cur, ran, bu, idl⟩ → ∃ v, (results Tryz.f152 a.tmps).run Tryz.prog W = .ok v W ∧ (Ending.returned v = .returned (.bool (stayB u c ⟨up, cur, ran, bu, idl⟩)) ∧ Below w.heap.size w W) := by
    intro W b a hb hB ha hh
    have hcr := (Msk.cell_of_box_l hb).1
    refine ⟨.bool b, ?_, by rw [hh], hB⟩
    simp only [Array.getD_eq_getD_getElem?] at ha
    simp [results, Tryz.f152, go_sem, hcr, ha]
  subst hup
  have k0 := cell_regrown p0
  have k1 := cell_regrown p1
  have k2 := cell_regrown p2
  have j0 := cell_regrown x0
  have j1 := cell_regrown x1
  have j2 := cell_regrown x2
  have hd1 : decide (ran < 1) = false := decide_eq_false hr1
  have hd2 : decide (149 < ran) = false := decide_eq_false hr2
  have cL : ∀ d os, CallsIn Fence.wide (9 - 1) Tryz.prog 123 #[.agg #[.pointer (some ⟨pw, 0, none⟩), .int .i64 (c : Int), .pointer (some ⟨pg, po, none⟩)], .int .i64 cur] (grow (redrawn W1 d) os) fun e' w'' => e' = .returned (.bool (inlT u cur c)) ∧ ∃ p : Regrown, w'' = grow (redrawn W1 p.d) p.os := fun d os =>
    calls_fw (Calls.regrown_of (hasInLine_any pw c pg po cur u _ ((hA.below z3).below (below_regrown W1 d os)) hF hT hc))
  have htb : taskB u.ts cur = true := by unfold inlT at hin; simp only [Bool.and_eq_true] at hin; exact hin.1
  obtain ⟨k, e, rfl, hk, he, hne⟩ := task_at htb
  obtain ⟨g, c', hg, hg8, hug, hcp, hc'⟩ := hT k e he hne
  have hin2 := hin
  unfold inlT at hin2
  rw [htb, Int.toNat_natCast, he, Bool.true_and] at hin2
  have hin3 : (decide (e.cpu = (c : Int)) && inlineB (gsD u.gs) e.st e.gr.toNat c) = true := hin2
  simp only [Bool.and_eq_true, decide_eq_true_eq] at hin3
  obtain ⟨hec, hil⟩ := hin3
  rw [hg, Int.toNat_natCast] at hil
  obtain rfl : c = c' := by rw [hcp] at hec; exact_mod_cast hec.symm
  have HX : Hid (w.rangeAt pg po (cpC ⟨true, (k : Int), ran, bu, idl⟩)) := hx
  have HS : Hid (stayB u c ⟨true, (k : Int), ran, bu, idl⟩ = ((outs (gsD u.gs) g).all (grpInB (gsD u.gs) ran c) && tskInB (gsD u.gs) ran c e)) := by
    unfold Hid stayB
    rw [if_neg hcur, hin]
    rw [Int.toNat_natCast, he]
    simp only [Bool.true_and]
    rw [decide_eq_true (by omega : 1 ≤ ran), decide_eq_true (by omega : ran ≤ 149)]
    show stay2 u c ran e = _
    unfold stay2; rw [hg, Int.toNat_natCast]
  rw [hin] at cL
  clear hin hin2 htb
  gi_wp2
  refine region_quiet_rg mixed (by kernel_rfl) ?_
  repeat (gi_big_quiet_step (exact cL _ _))
  refine wpQuietIn_nil ?_
  rintro _ ⟨⟨dq, osq⟩, rfl⟩
  obtain ⟨V, hV⟩ : ∃ V, grow (redrawn W1 dq) osq = V := ⟨_, rfl⟩
  have bV : Below W1.heap.size W1 V := by rw [← hV]; exact below_regrown _ _ _
  rw [hV]
  clear hV
  have B9 := z3.trans (bV.mono z3.size)
  have v0 := (bV.cell (block_lt_of_cell p0)).trans p0
  have v1 := (bV.cell (block_lt_of_cell p1)).trans p1
  have v2 := (bV.cell (block_lt_of_cell p2)).trans p2
  have n1 := (bV.cell (block_lt_of_cell x1)).trans x1
  have n2 := (bV.cell (block_lt_of_cell x2)).trans x2
  have y2 := below_at bV z2
  have AV := hA.below B9
  obtain ⟨tg, to, cap, m2, hr, hlt, hlen⟩ := AV.cellsT he
  obtain ⟨t0, t1, t2, t3, t4, t5, t6, t7, t8⟩ := tk_cells hr
  have hkn : (k : Int) < (u.ts.length : Int) := by omega
  have lA : w.heap.size < V.heap.size := by have := bV.size; have := z1.out; omega
  have lB : pg < V.heap.size := by have := B9.size; have : pg < w.heap.size := hlp; omega
  have lC : tg < V.heap.size := block_lt_of_cell t0
  have lD : pw < V.heap.size := AV.lt
  clear k0 k1 k2 j0 j1 j2 x0 x1 x2 p0 p1 p2 z2 hp hx cL b0 b0' hr hcur
  gi_wp2
  gi_region_o
  obtain ⟨X, hX⟩ : ∃ X, (V.alloc (.cells #[.int .i64 e.st, .int .i64 (g : Int), .int .i64 (c : Int), .int .i64 e.ni, .int .i64 e.ma, .int .i64 e.v, .int .i64 e.su, .int .i64 e.us, .int .i64 e.lo] 68)).drew = X := ⟨_, rfl⟩
  have xB : Below V.heap.size V X := by rw [← hX]; exact ((Below.refl _ _).alloc (Nat.le_refl _) _).drew
  have xt : X.heap[V.heap.size]? = some (.cells #[.int .i64 e.st, .int .i64 (g : Int), .int .i64 (c : Int), .int .i64 e.ni, .int .i64 e.ma, .int .i64 e.v, .int .i64 e.su, .int .i64 e.us, .int .i64 e.lo] 68 (0, 0)) := by rw [← hX]; exact World.alloc_heap_new V _
  first | rw [hX] | erw [hX] | (refine Eq.mp (congrArg (fun W => _ W) hX.symm) ?_)
  have y0 := below_at bV z0
  have wX := B9.trans (xB.mono B9.size)
  have xy0 := below_at xB y0
  have xy2 := below_at xB y2
  have m0 := (xB.cell (p := ⟨w.heap.size, 0, none⟩) lA).trans v0
  have htk : X.rangeAt V.heap.size 0 [.int .i64 e.st, .int .i64 (g : Int), .int .i64 (c : Int), .int .i64 e.ni, .int .i64 e.ma, .int .i64 e.v, .int .i64 e.su, .int .i64 e.us, .int .i64 e.lo] := range_of_block xt
  have mg : X.cell? ⟨V.heap.size, 1, none⟩ = some (.int .i64 (g : Int)) := htk 1 _ rfl
  clear hX v0 v1 v2 n1 n2 m2 t0 t1 t2 t3 t4 t5 t6 t7 t8 lA lB lC lD y0 y2
  gi_wp2_with (gi_at_call 132; refine (calls_fw (mk_outward pw (g : Int) _)).mono ?_; rintro e' w' ⟨rfl, rfl⟩; simp only [ptr])
  obtain ⟨Y, hY⟩ : ∃ Y, ((X.alloc (.cells #[.pointer (some ⟨pw, 0, none⟩)] 51)).alloc (.cells #[.int .i64 (g : Int)] 3)) = Y := ⟨_, rfl⟩
  obtain ⟨u0, u1, u2, u3⟩ := blocks2 hY
  clear u1
  simp only [hY]
  clear hY m0 mg htk
  have wY := wX.trans (u3.mono wX.size)
  refine blur (fun D : Nat → Value => stayAct D w.heap.size V.heap.size (D 4) (.func (.func 167) #[] #[ptr (X.heap.size + 1), ptr X.heap.size])) rfl ?_
  intro D
  refine range_own (xs := outs (gsD u.gs) g) (encs := encN) (gf := 167) (lb := #[ptr (X.heap.size + 1), ptr X.heap.size]) (W0 := w) (G := fun W' => W'.cell? ⟨X.heap.size + 1, 0, none⟩ = some (.int .i64 (g : Int)) ∧ W'.cell? ⟨X.heap.size, 0, none⟩ = some (.pointer (some ⟨pw, 0, none⟩)) ∧ GroupsAt W' pw u.z (gsD u.gs))
    (outward_gives pw X.heap.size (X.heap.size + 1) u.z (gsD u.gs) g hF.tree hg8 hug _ w (fun W' h => h)) wY.size rfl (enters_of Tryz.func167 (by kernel_rfl) rfl) (fun _ => rfl)
    (fun pre W' => (∀ j ∈ pre, grpInB (gsD u.gs) ran c j = true) ∧ W'.heap[w.heap.size]? = some (.cells #[.pointer (some ⟨pw, 0, none⟩), .int .i64 (c : Int), .pointer (some ⟨pg, po, none⟩)] 56 (0, 0)) ∧ W'.heap[w.heap.size + 1]? = some (.cells #[.bool false] 4 (0, 0)) ∧ W'.heap[V.heap.size]? = some (.cells #[.int .i64 e.st, .int .i64 (g : Int), .int .i64 (c : Int), .int .i64 e.ni, .int .i64 e.ma, .int .i64 e.v, .int .i64 e.su, .int .i64 e.us, .int .i64 e.lo] 68 (0, 0)) ∧ W'.heap[X.heap.size]? = some (.cells #[.pointer (some ⟨pw, 0, none⟩)] 51 (0, 0)) ∧ IBox W' (X.heap.size + 1) (g : Int) ∧ Below w.heap.size w W')
    (fun cc pre W' => cc = .ret ∧ (∃ j ∈ outs (gsD u.gs) g, grpInB (gsD u.gs) ran c j = false) ∧ W'.heap[w.heap.size + 1]? = some (.cells #[.bool false] 4 (0, 0)) ∧ Below w.heap.size w W')
    (fun pre x a' W' => ((∀ j ∈ pre, grpInB (gsD u.gs) ran c j = true) ∧ W'.heap[w.heap.size]? = some (.cells #[.pointer (some ⟨pw, 0, none⟩), .int .i64 (c : Int), .pointer (some ⟨pg, po, none⟩)] 56 (0, 0)) ∧ W'.heap[w.heap.size + 1]? = some (.cells #[.bool false] 4 (0, 0)) ∧ W'.heap[V.heap.size]? = some (.cells #[.int .i64 e.st, .int .i64 (g : Int), .int .i64 (c : Int), .int .i64 e.ni, .int .i64 e.ma, .int .i64 e.v, .int .i64 e.su, .int .i64 e.us, .int .i64 e.lo] 68 (0, 0)) ∧ W'.heap[X.heap.size]? = some (.cells #[.pointer (some ⟨pw, 0, none⟩)] 51 (0, 0)) ∧ IBox W' (X.heap.size + 1) (g : Int) ∧ Below w.heap.size w W') ∧ ∃ D' f', a' = stayAct D' w.heap.size V.heap.size (.int .i64 (x : Int)) f')
    (fun pre W' hi => ⟨hi.2.2.2.2.2.1.cell, (Msk.cell_of_box_l hi.2.2.2.2.1).1, (hA.below hi.2.2.2.2.2.2).groups⟩)
    ?hI ?hIx ?hA ⟨fun j hj => (by cases hj), below_at u3 xy0, below_at u3 xy2, below_at u3 xt, u0, u2, wY⟩ ?hassign ?hbody ?hdone ?hstop
  case hI => exact OwnFrom.and (ownFrom_pure _ _) (OwnFrom.and (own_block _ _ _ rfl) (OwnFrom.and (own_block _ _ _ rfl) (OwnFrom.and (own_block _ _ _ rfl) (OwnFrom.and (own_block _ _ _ rfl) (OwnFrom.and (own_block _ _ _ rfl) (ownFrom_below (Nat.le_refl _) wY.size))))))
  case hIx => exact fun cc => OwnFrom.and (ownFrom_pure _ _) (OwnFrom.and (ownFrom_pure _ _) (OwnFrom.and (own_block _ _ _ rfl) (ownFrom_below (Nat.le_refl _) wY.size)))
  case hA => exact fun pre x a' => OwnFrom.and (OwnFrom.and (ownFrom_pure _ _) (OwnFrom.and (own_block _ _ _ rfl) (OwnFrom.and (own_block _ _ _ rfl) (OwnFrom.and (own_block _ _ _ rfl) (OwnFrom.and (own_block _ _ _ rfl) (OwnFrom.and (own_block _ _ _ rfl) (ownFrom_below (Nat.le_refl _) wY.size))))))) (ownFrom_pure _ _)
  case hassign =>
    intro l' pre x post W' hx hi
    unfold encN stayAct
    gi_wp2
    exact ⟨KeepsUp.refl _ _, hi, stayAct_ex rfl⟩
  case hbody =>
    rintro l' pre x post a' W' hx hl' ⟨⟨hp, h1, h2, h3, h4, h5, h6⟩, D', f', rfl⟩
    have hyY : w.heap.size + 1 < Y.heap.size := by have := z1.out; have := bV.size; have := xB.size; have := u3.size; omega
    have hin : x ∈ outs (gsD u.gs) g := by rw [hx]; simp
    obtain ⟨i1, i2, i3⟩ := outs_used hF.tree hg8 hug hin
    have AW := hA.below h6
    obtain ⟨ea, zg, zo, zc, hea, hpa, hz, hsh, hrow⟩ := AW.group (k := x) (by rw [hF.g8]; exact i1) i2 (hF.ok hc)
    obtain ⟨j, hpj, hj8, huj⟩ : ∃ j : Nat, paAt (gsD u.gs) x = (j : Int) ∧ j < 8 ∧ usAt (gsD u.gs) j = true := by
      rcases tree_step hF.tree i1 i2 with ⟨rfl, _⟩ | ⟨_, j, hp, hj, uj, _⟩
      · exact absurd rfl i3
      · exact ⟨j, hp, hj, uj⟩
    obtain ⟨eb, yg, yo, yc, heb, _, hy, hsb, hrb⟩ := AW.group (k := j) (by rw [hF.g8]; exact hj8) huj (hF.ok hc)
    have hgB : withinB (shAt (gsD u.gs) x c).v (shAt (gsD u.gs) j c).fl (vstep ran (shAt (gsD u.gs) x c).w) = grpInB (gsD u.gs) ran c x := by unfold grpInB; rw [hpj, Int.toNat_natCast]
    have cW : ∀ d os, CallsIn (Fence.wide.inRound l') (9 - 1) Tryz.prog 151 #[.agg #[.pointer (some ⟨pw, 0, none⟩), .int .i64 (c : Int)], .int .i64 (x : Int), .int .i64 ran] (grow (redrawn W' d) os) fun e' w'' => e' = .returned (.bool (grpInB (gsD u.gs) ran c x)) ∧ ∃ p : Regrown, w'' = grow (redrawn W' p.d) p.os := fun d os => by
      have := groupWithin_any pw c x j ran u ea eb _ _ _ (AW.below (below_regrown W' d os)) hea hsh (hpa.trans hpj) heb hsb
      rw [hgB] at this
      exact calls_fw (Calls.regrown_of this)
    obtain ⟨_, n1, n2, _, _⟩ := cp_cells (range_below HX.out h6)
    have hpr : W'.rangeAt w.heap.size 0 [.pointer (some ⟨pw, 0, none⟩), .int .i64 (c : Int), .pointer (some ⟨pg, po, none⟩)] := range_of_block h1
    have HP : Hid (∀ j ∈ pre, grpInB (gsD u.gs) ran c j = true) := hp
    refine blur (fun D : Nat → Value => { tmps := #[D 0, .pointer (some ⟨w.heap.size, 0, none⟩), .pointer (some ⟨w.heap.size + 1, 0, none⟩), D 3, .int .i64 (x : Int), D 5, D 6, D 7, D 8, D 9, D 10, D 11, D 12, D 13, D 14, D 15, D 16, D 17, D 18, D 19, D 20, D 21, D 22, D 23, D 24, D 25, D 26, D 27, D 28, D 29, D 30, D 31, D 32, D 33, D 34, D 35, D 36, D 37, D 38, D 39, D 40, D 41, D 42, D 43, D 44, D 45, D 46, D 47, D 48, D 49, D 50, D 51, D 52, D 53, D 54, D 55, D 56, D 57, D 58, D 59, D 60, D 61, D 62, D 63, D 64, D 65, D 66, D 67, D 68, D 69, D 70, D 71, D 72, D 73, D 74, D 75, D 76, D 77, D 78, D 79, D 80, D 81, D 82, D 83, D 84, D 85, D 86, D 87], defers := [] }) rfl (fun D => ?_)
    exact stay_round rfl l' _ D w.heap.size (w.heap.size + 1) pw pg po x (c : Int) ran (grpInB (gsD u.gs) ran c x) W' (hpr 0 _ rfl) (hpr 1 _ rfl) (hpr 2 _ rfl) n2 h2 cW
      (fun hon dq osq a' => ⟨(KeepsUp.below (below_regrown _ _ _)).trans (KeepsUp.set _ _ _ hyY), rfl, ⟨x, hin, hon⟩, (show Boxed _ _ _ _ from below_block dq osq h2).set _, (h6.trans ((below_regrown W' dq osq).mono h6.size)).setCell (p := ⟨w.heap.size + 1, 0, none⟩) (by simp) _⟩)
      (fun hon dq osq a' => ⟨KeepsUp.below (below_regrown _ _ _), fun q hq => (List.mem_append.1 hq).elim (HP.out q) (fun hq => (List.mem_singleton.1 hq) ▸ hon), below_block dq osq h1, below_block dq osq h2, below_block dq osq h3, below_block dq osq h4, below_block dq osq h5, h6.trans ((below_regrown W' dq osq).mono h6.size)⟩)
  case hdone =>
    rintro D W' hD ⟨hp, h1, h2, h3, h4, h5, h6⟩ hK
    have AW := hA.below h6
    obtain ⟨eg, zg, zo, zc, heg, _, hz, hsg, hrow⟩ := AW.group (k := g) (by rw [hF.g8]; exact hg8) hug (hF.ok hc)
    have hall : (outs (gsD u.gs) g).all (grpInB (gsD u.gs) ran c) = true := List.all_eq_true.2 (fun j hj => hp j hj)
    have HS2 : Hid (stayB u c ⟨true, (k : Int), ran, bu, idl⟩ = tskInB (gsD u.gs) ran c e) := by unfold Hid; rw [HS.out, hall, Bool.true_and]
    have hB0 : withinB e.v (shAt (gsD u.gs) g c).fl (vstep ran (wof e.ni)) = tskInB (gsD u.gs) ran c e := by unfold tskInB; rw [hg, Int.toNat_natCast]
    have cW : ∀ d os, CallsIn Fence.wide (9 - 1) Tryz.prog 147 #[.agg #[.pointer (some ⟨pw, 0, none⟩), .int .i64 (c : Int)], .agg #[.int .i64 e.st, .int .i64 (g : Int), .int .i64 (c : Int), .int .i64 e.ni, .int .i64 e.ma, .int .i64 e.v, .int .i64 e.su, .int .i64 e.us, .int .i64 e.lo], .int .i64 ran] (grow (redrawn W' d) os) fun e' w'' => e' = .returned (.bool (tskInB (gsD u.gs) ran c e)) ∧ ∃ p : Regrown, w'' = grow (redrawn W' p.d) p.os := fun d os => by
      have := taskWithin_any pw c g ran e u eg _ _ (AW.below (below_regrown W' d os)) heg hsg hg
      rw [hB0] at this
      unfold tkV qV ptr at this
      rw [hg, hec] at this
      exact calls_fw (Calls.regrown_of this)
    obtain ⟨_, n1, n2, _, _⟩ := cp_cells (range_below HX.out h6)
    have hpr : W'.rangeAt w.heap.size 0 [.pointer (some ⟨pw, 0, none⟩), .int .i64 (c : Int), .pointer (some ⟨pg, po, none⟩)] := range_of_block h1
    have htk : W'.rangeAt V.heap.size 0 [.int .i64 e.st, .int .i64 (g : Int), .int .i64 (c : Int), .int .i64 e.ni, .int .i64 e.ma, .int .i64 e.v, .int .i64 e.su, .int .i64 e.us, .int .i64 e.lo] := range_of_block h3
    have hD' : w.heap.size ≤ D := Nat.le_trans wY.size hD
    have hne : D ≠ w.heap.size + 1 := by have := z1.out; have := bV.size; have := xB.size; have := u3.size; omega
    clear h1 h3 h4 h5 hp AW n1 hrow heg hz hsg hB0 hall early xy0 xy2 xt u0 u2
    gi_wp2
    refine blur (fun D2 : Nat → Value => { tmps := #[D2 0, .pointer (some ⟨w.heap.size, 0, none⟩), .pointer (some ⟨w.heap.size + 1, 0, none⟩), .pointer (some ⟨V.heap.size, 0, none⟩), D2 4, D2 5, D2 6, D2 7, D2 8, D2 9, D2 10, D2 11, D2 12, D2 13, D2 14, D2 15, D2 16, D2 17, D2 18, D2 19, D2 20, D2 21, D2 22, D2 23, D2 24, D2 25, D2 26, D2 27, D2 28, D2 29, D2 30, D2 31, D2 32, D2 33, D2 34, D2 35, D2 36, D2 37, D2 38, D2 39, D2 40, D2 41, D2 42, D2 43, D2 44, D2 45, D2 46, D2 47, D2 48, D2 49, D2 50, D2 51, D2 52, D2 53, D2 54, D2 55, D2 56, D2 57, D2 58, D2 59, D2 60, D2 61, D2 62, D2 63, D2 64, D2 65, D2 66, D2 67, D2 68, D2 69, D2 70, D2 71, D2 72, D2 73, D2 74, D2 75, D2 76, D2 77, D2 78, D2 79, D2 80, D2 81, D2 82, D2 83, D2 84, D2 85, D2 86, D2 87], defers := _ }) rfl (fun D2 => ?_)
    refine stay_last rfl _ D2 _ w.heap.size (w.heap.size + 1) V.heap.size pw pg po (c : Int) ran _ _ _ _ _ _ _ _ _ (tskInB (gsD u.gs) ran c e) W' (hpr 0 _ rfl) (hpr 1 _ rfl) (hpr 2 _ rfl) n2 htk h2 cW ?_
    intro dq osq D3
    have h2' := below_block dq osq h2
    have hK2 := below_block dq osq hK
    have hK3 : ((grow (redrawn W' dq) osq).setCell ⟨w.heap.size + 1, 0, none⟩ (.bool (tskInB (gsD u.gs) ran c e))).heap[D]? = some (.deferred (some [])) := by rw [Deep.blk_setCell_other _ _ _ _ hne]; exact hK2
    have hb' : Boxed (((grow (redrawn W' dq) osq).setCell ⟨w.heap.size + 1, 0, none⟩ (.bool (tskInB (gsD u.gs) ran c e))).putObj D (.deferred none)) (w.heap.size + 1) 4 (.bool (tskInB (gsD u.gs) ran c e)) := (World.putObj_heap_other (Ne.symm hne)).trans ((show Boxed _ _ _ _ from h2').set _)
    have hcr := hb'.cell
    gi_wp2
    refine ⟨by simp, .inl ⟨_, _, rfl, run_takeDeferred hK3, ?_⟩⟩
    refine ⟨.bool (tskInB (gsD u.gs) ran c e), ?_, by rw [HS2.out], ((h6.trans ((below_regrown W' dq osq).mono h6.size)).setCell (p := ⟨w.heap.size + 1, 0, none⟩) (by simp) _).trans (belowK_b (w := w) (Nat.le_refl _) _ D _ _ hD' hK3 rfl rfl)⟩
    simp [results, Tryz.f152, go_sem, hcr]
  case hstop =>
    rintro D cc pre W' hD ⟨rfl, ⟨j, hj, hoff⟩, h2, h6⟩ hK
    have hD' : w.heap.size ≤ D := Nat.le_trans wY.size hD
    have hne : D ≠ w.heap.size + 1 := by have := z1.out; have := bV.size; have := xB.size; have := u3.size; omega
    have hno : (outs (gsD u.gs) g).all (grpInB (gsD u.gs) ran c) = false := by
      rw [← Bool.not_eq_true, List.all_eq_true]
      intro hal
      have := hal j hj
      rw [hoff] at this; cases this
    have HS2 : Hid (stayB u c ⟨true, (k : Int), ran, bu, idl⟩ = false) := by unfold Hid; rw [HS.out, hno, Bool.false_and]
    have hb' : Boxed (W'.putObj D (.deferred none)) (w.heap.size + 1) 4 (.bool false) := (World.putObj_heap_other (Ne.symm hne)).trans h2
    have hcr := hb'.cell
    clear hno early xy0 xy2 xt u0 u2
    gi_wp2
    refine ⟨by simp, .inl ⟨_, _, rfl, run_takeDeferred hK, ?_⟩⟩
    refine ⟨.bool false, ?_, by rw [HS2.out], h6.trans (belowK_b (w := w) (Nat.le_refl _) _ D _ _ hD' hK rfl rfl)⟩
    simp [results, stayAct, Tryz.f152, go_sem, hcr]
theorem stayOk_any (pw c pg po : Nat) (x : Cp) (u : Wv) (w : World) (hA : AtW w pw u) (hF : Fit u) (hT : TFit u) (hc : c < u.cs.length) (hx : w.rangeAt pg po (cpC x)) :
    Calls Tryz.prog 152 #[prV pw (c : Int) pg po] w fun e w' => e = .returned (.bool (stayB u c x)) ∧ Below w.heap.size w w' := by
  by_cases hcur : x.cur = -1
  · exact stay_nobody pw c pg po x u w hA hF hT hc hx hcur
  cases hup : x.up
  · exact stay_down pw c pg po x u w hA hF hT hc hx hcur hup
  by_cases hr1 : x.ran < 1
  · exact stay_short pw c pg po x u w hA hF hT hc hx hcur hup hr1
  by_cases hr2 : 149 < x.ran
  · exact stay_long pw c pg po x u w hA hF hT hc hx hcur hup hr1 hr2
  cases hin : inlT u x.cur c
  · exact stay_off pw c pg po x u w hA hF hT hc hx hcur hup hr1 hr2 hin
  · exact stay_there pw c pg po x u w hA hF hT hc hx hcur hup hr1 hr2 hin
def cpuOkB (u : Wv) (c : Nat) (x : Cp) : Bool := timeB x.busy && (timeB x.idle && stayB u c x)
theorem isProcessorOk_any (pw c : Nat) (u : Wv) (x : Cp) (w : World) (hA : AtW w pw u) (hF : Fit u) (hT : TFit u) (hx : u.cs[c]? = some x) :
    Calls Tryz.prog 113 #[ptr pw, .int .i64 (c : Int)] w fun e w' => e = .returned (.bool (cpuOkB u c x)) ∧ Below w.heap.size w w' := by
  have hc : c < u.cs.length := (List.getElem?_eq_some_iff.1 hx).1
  have HA : Hid (AtW w pw u) := hA
  obtain ⟨sb, hsb⟩ : ∃ b, stayB u c x = b := ⟨_, rfl⟩
  have HS : Hid (stayB u c x = sb) := hsb
  clear hsb
  unfold ptr
  cases h0 : l1in x.busy 0 100000000000000000
  · have HRR : Hid (cpuOkB u c x = false) := by unfold Hid; simp [cpuOkB, timeB, HS.out, h0]
    go_enter Tryz.func113, Tryz.ntmps113
    go_wp2_with (first | (go_at_call 39; refine (procAt_any pw c u x _ hA hx).mono ?_; rintro e1 V ⟨g, o, rfl, hrow, hgl, hb1⟩; simp only [prV, ptr, ptrO]; obtain ⟨_, _, _, c3, c4⟩ := cp_cells hrow; have lg := block_lt_of_cell c3; have HV : Hid (∀ A, Below w.heap.size w (V.alloc A)) := (fun A => hb1.alloc hb1.size _); have HR : Hid (V.rangeAt g o (cpC x)) := hrow; have HB : Hid (Below w.heap.size w V) := hb1; clear hb1 hrow hgl) | (go_at_call 138; refine (isTime_any _ _).mono ?_; rintro e1 w1 ⟨rfl, hw1⟩; subst w1) | (go_at_call 152; refine (stayOk_any pw c g o x u _ (HA.out.below (HV.out _)) hF hT hc (range_below HR.out ((Below.refl _ _).alloc (Nat.le_refl _) _))).mono ?_; rintro e1 w1 ⟨rfl, hb2⟩; rw [HS.out]; replace HV : Hid (Below w.heap.size w w1) := (HV.out _).trans (hb2.mono (HV.out _).size); clear hb2))
    go_ret
    refine ⟨?_, by first | exact HV.out | exact HV.out _⟩
    first | exact ret_bool HRR.out.symm | (rw [HRR.out]; simp [h0]; done)
  · cases h1 : l1in x.idle 0 100000000000000000
    · have HRR : Hid (cpuOkB u c x = false) := by unfold Hid; simp [cpuOkB, timeB, HS.out, h0, h1]
      go_enter Tryz.func113, Tryz.ntmps113
      go_wp2_with (first | (go_at_call 39; refine (procAt_any pw c u x _ hA hx).mono ?_; rintro e1 V ⟨g, o, rfl, hrow, hgl, hb1⟩; simp only [prV, ptr, ptrO]; obtain ⟨_, _, _, c3, c4⟩ := cp_cells hrow; have lg := block_lt_of_cell c3; have HV : Hid (∀ A, Below w.heap.size w (V.alloc A)) := (fun A => hb1.alloc hb1.size _); have HR : Hid (V.rangeAt g o (cpC x)) := hrow; have HB : Hid (Below w.heap.size w V) := hb1; clear hb1 hrow hgl) | (go_at_call 138; refine (isTime_any _ _).mono ?_; rintro e1 w1 ⟨rfl, hw1⟩; subst w1) | (go_at_call 152; refine (stayOk_any pw c g o x u _ (HA.out.below (HV.out _)) hF hT hc (range_below HR.out ((Below.refl _ _).alloc (Nat.le_refl _) _))).mono ?_; rintro e1 w1 ⟨rfl, hb2⟩; rw [HS.out]; replace HV : Hid (Below w.heap.size w w1) := (HV.out _).trans (hb2.mono (HV.out _).size); clear hb2))
      go_ret
      refine ⟨?_, by first | exact HV.out | exact HV.out _⟩
      first | exact ret_bool HRR.out.symm | (rw [HRR.out]; simp [h0, h1]; done)
    · cases h2 : sb
      · have HRR : Hid (cpuOkB u c x = false) := by unfold Hid; simp [cpuOkB, timeB, HS.out, h0, h1, h2]
        go_enter Tryz.func113, Tryz.ntmps113
        go_wp2_with (first | (go_at_call 39; refine (procAt_any pw c u x _ hA hx).mono ?_; rintro e1 V ⟨g, o, rfl, hrow, hgl, hb1⟩; simp only [prV, ptr, ptrO]; obtain ⟨_, _, _, c3, c4⟩ := cp_cells hrow; have lg := block_lt_of_cell c3; have HV : Hid (∀ A, Below w.heap.size w (V.alloc A)) := (fun A => hb1.alloc hb1.size _); have HR : Hid (V.rangeAt g o (cpC x)) := hrow; have HB : Hid (Below w.heap.size w V) := hb1; clear hb1 hrow hgl) | (go_at_call 138; refine (isTime_any _ _).mono ?_; rintro e1 w1 ⟨rfl, hw1⟩; subst w1) | (go_at_call 152; refine (stayOk_any pw c g o x u _ (HA.out.below (HV.out _)) hF hT hc (range_below HR.out ((Below.refl _ _).alloc (Nat.le_refl _) _))).mono ?_; rintro e1 w1 ⟨rfl, hb2⟩; rw [HS.out]; replace HV : Hid (Below w.heap.size w w1) := (HV.out _).trans (hb2.mono (HV.out _).size); clear hb2))
        go_ret
        refine ⟨?_, by first | exact HV.out | exact HV.out _⟩
        first | exact ret_bool HRR.out.symm | (rw [HRR.out]; simp [h0, h1, h2]; done)
      · have HRR : Hid (cpuOkB u c x = true) := by unfold Hid; simp [cpuOkB, timeB, HS.out, h0, h1, h2]
        go_enter Tryz.func113, Tryz.ntmps113
        go_wp2_with (first | (go_at_call 39; refine (procAt_any pw c u x _ hA hx).mono ?_; rintro e1 V ⟨g, o, rfl, hrow, hgl, hb1⟩; simp only [prV, ptr, ptrO]; obtain ⟨_, _, _, c3, c4⟩ := cp_cells hrow; have lg := block_lt_of_cell c3; have HV : Hid (∀ A, Below w.heap.size w (V.alloc A)) := (fun A => hb1.alloc hb1.size _); have HR : Hid (V.rangeAt g o (cpC x)) := hrow; have HB : Hid (Below w.heap.size w V) := hb1; clear hb1 hrow hgl) | (go_at_call 138; refine (isTime_any _ _).mono ?_; rintro e1 w1 ⟨rfl, hw1⟩; subst w1) | (go_at_call 152; refine (stayOk_any pw c g o x u _ (HA.out.below (HV.out _)) hF hT hc (range_below HR.out ((Below.refl _ _).alloc (Nat.le_refl _) _))).mono ?_; rintro e1 w1 ⟨rfl, hb2⟩; rw [HS.out]; replace HV : Hid (Below w.heap.size w w1) := (HV.out _).trans (hb2.mono (HV.out _).size); clear hb2))
        go_ret
        refine ⟨?_, by first | exact HV.out | exact HV.out _⟩
        first | exact ret_bool HRR.out.symm | (rw [HRR.out]; simp [h0, h1, h2]; done)
end Go.Proofs.YtnmmglkigiakaaaGreat
