/- The iterator over the groups that stand in a queue. The iterator over the times of who stands in a queue. Who is furthest behind in a queue; whether a group is to stand. -/
import Derived.Test.YtnmmglkigiakaaaGreatD12
import Derived.Test.YtnmmglkigiakaaaGreatD13
namespace Go.Proofs.YtnmmglkigiakaaaGreat
set_option maxRecDepth 100000
set_option maxHeartbeats 32000000
set_option linter.unusedVariables false
set_option linter.unusedSimpArgs false
open Go.ChangeShapes Go.WideShapes Go.ChangeAt Go.RowKit Go.Shelf Go.Sort
attribute [local go_sem] Oper.semAt_some
def shAt (ds : List Gr) (k c : Nat) : Sh := (((ds[k]?).bind (fun d : Gr => d.sh[c]?))).getD sh0
def ShOk (ds : List Gr) (c : Nat) : Prop := ∀ (k : Nat) (d : Gr), ds[k]? = some d → d.us = true → ∃ s, d.sh[c]? = some s
def standG (ds : List Gr) (g : Int) (c k : Nat) : Bool := decide (paAt ds k = g) && (shAt ds k c).on
def groupsL (ds : List Gr) (g : Int) (c : Nat) : List Nat := (inners ds).filter (standG ds g c)
theorem gsD_at {gs : List Gv} {k : Nat} {e : Gv} (h : gs[k]? = some e) : (gsD gs)[k]? = some e.d := by simp [gsD, h]
theorem AtW.group {W : World} {b : Nat} {u : Wv} (h : AtW W b u) {k c : Nat} (hk : k < u.gs.length) (hu : usAt (gsD u.gs) k = true) (hok : ShOk (gsD u.gs) c) :
    ∃ e : Gv, ∃ g o cap, u.gs[k]? = some e ∧ e.d.pa = paAt (gsD u.gs) k ∧ e.z = .slice (some ⟨g, o, none⟩) e.d.sh.length cap ∧ e.d.sh[c]? = some (shAt (gsD u.gs) k c) ∧ W.rangeAt g (o + c * 5) (shC (shAt (gsD u.gs) k c)) := by
  obtain ⟨e, he, e1, e2, _⟩ := gs_get hk
  obtain ⟨s, hs⟩ := hok k e.d (gsD_at he) (by rw [← e1]; exact hu)
  have hsh : shAt (gsD u.gs) k c = s := by unfold shAt; rw [gsD_at he]; simp [hs]
  rw [hsh]
  rcases h.sh he with ⟨h0, _⟩ | ⟨g, o, cap, h1, h2, _⟩
  · rw [h0] at hs; simp at hs
  · exact ⟨e, g, o, cap, he, e2.symm, h1, hs, h2 c s hs⟩
theorem in_inners {ds : List Gr} {k : Nat} (h : k ∈ inners ds) : k < ds.length ∧ usAt ds k = true ∧ k ≠ 0 := by
  unfold inners innerTo at h
  rw [List.mem_filter, List.mem_range] at h
  simpa [Bool.and_eq_true, and_assoc] using h

theorem grown_of_below {W W' : World} (h : Below W.heap.size W W') : W.grownBy W' none := ⟨h.os, h.tape, h.output, h.size, fun k hk _ => h.block k hk⟩
theorem own_below {β : Type} {B : Nat} {I : β → World → Prop} (h : OwnFrom B I) {s : β} {W W' : World} (hs : I s W) (hb : Below W.heap.size W W') : I s W' := h s W W' none hs (grown_of_below hb) (fun r e => by cases e)
theorem own_block {β : Type} (B b : Nat) (o : Obj) (ho : o.isCells = true) : OwnFrom B (fun (_ : β) W => W.heap[b]? = some o) := fun s X Y row hs hg hr =>
  (hg.block b (Array.getElem?_eq_some_iff.1 hs).1 (fun e => by obtain ⟨_, o', h1, h2⟩ := hr b e.symm; rw [show X.heap[b]? = some o from hs] at h1; cases h1; rw [ho] at h2; cases h2)).trans hs
theorem own_map {β γ : Type} {B : Nat} {I : γ → World → Prop} (h : OwnFrom B I) (f : β → γ) : OwnFrom B (fun s W => I (f s) W) := fun s X Y row hs hg hr => h (f s) X Y row hs hg hr
theorem below_block {W : World} {b : Nat} {o : Obj} (d : Nat) (os : Array Obj) (h : W.heap[b]? = some o) : (grow (redrawn W d) os).heap[b]? = some o := ((below_regrown W d os).block b (Array.getElem?_eq_some_iff.1 h).1).trans h
theorem filter_snoc {β : Type} (q : β → Bool) (pre : List β) (x : β) : (pre ++ [x]).filter q = pre.filter q ++ (if q x = true then [x] else []) := by
  rw [List.filter_append]; congr 1
  by_cases h : q x = true
  · rw [if_pos h]; simp [List.filter_cons, h]
  · rw [if_neg h]; simp [List.filter_cons, h]

theorem groupsIn_gives (pw bq bg c : Nat) (u : Wv) (g : Int) (G : World → Prop) (W0 : World) (hok : ShOk (gsD u.gs) c) (hG : ∀ W, G W → QBox W bq pw (c : Int) ∧ IBox W bg g ∧ AtW W pw u) :
    Gives Tryz.prog 199 #[ptr bq, ptr bg] encN (groupsL (gsD u.gs) g c) G W0 := by
  obtain ⟨ds, hds⟩ : ∃ ds, gsD u.gs = ds := ⟨_, rfl⟩
  rw [hds] at hok ⊢
  intro l J Jx W hW hJG hJ hJx hY h0
  refine (callsIn_wide (n := 9)).1 ?_
  refine callsIn_of_wp_marks Tryz.func199 rfl trivial ?_ rfl
  unfold ptr
  simp only [Tryz.ntmps199, List.size_toArray, List.length_cons, List.length_nil, Nat.reduceAdd, Nat.reduceSub, Array.replicate_succ, Array.replicate_zero, List.push_toArray, List.append_toArray, List.nil_append, List.cons_append]
  obtain ⟨c0, _, c2⟩ := hG _ (hJG _ _ h0)
  obtain ⟨q0, _⟩ := c0.cells
  have b0 := block_lt_of_cell q0
  simp only [] at b0
  gi_wp2_with (refine ⟨trivial, ?_⟩; gi_at_call 148; refine (calls_fw (mk_inner pw _)).mono ?_; rintro e w' ⟨rfl, rfl⟩)
  refine range_own (xs := inners ds) (encs := encN) (gf := 177) (lb := #[.pointer (some ⟨W.heap.size + 1, 0, none⟩)]) (W0 := W) (G := fun W' => W'.heap[W.heap.size + 1]? = some (.cells #[ptr pw] 51 (0, 0)) ∧ AtW W' pw u)
    (inner_gives pw (W.heap.size + 1) u.z ds _ W (fun W' h => ⟨(Msk.cell_of_box_l h.1).1, hds ▸ h.2.groups⟩)) (by simp; omega) rfl (enters_of Tryz.func177 (by kernel_rfl) rfl) (fun _ => rfl)
    (fun pre W' => J (pre.filter (standG ds g c)) W' ∧ W'.heap[W.heap.size]? = some (.cells #[.func (.yield l) #[] #[]] 65 (0, 0)) ∧ W'.heap[W.heap.size + 1]? = some (.cells #[ptr pw] 51 (0, 0)))
    (fun cc pre W' => cc = .ret ∧ ∃ pre', Jx pre' W')
    (fun pre x a' W' => (J (pre.filter (standG ds g c)) W' ∧ W'.heap[W.heap.size]? = some (.cells #[.func (.yield l) #[] #[]] 65 (0, 0)) ∧ W'.heap[W.heap.size + 1]? = some (.cells #[ptr pw] 51 (0, 0))) ∧ a' = { tmps := #[.func (.yield l) #[] #[], ptr bq, ptr bg, ptr W.heap.size, .int .i64 (x : Int), ptr bq, ptr pw, .func (.func 177) #[] #[ptr (W.heap.size + 1)], .int .i64 (x : Int), undef, undef, undef, undef, undef, undef, undef, undef, undef, undef, undef, undef, undef, undef, undef, undef, undef, undef, undef, undef, undef, undef, undef, undef, undef], defers := [] })
    (fun pre W' h => ⟨h.2.2, (hG _ (hJG _ _ h.1)).2.2⟩)
    ?hI ?hIx ?hA ?h0 ?hassign ?hbody ?hdone ?hstop
  case hI => exact OwnFrom.and (own_map (own_mono hJ (by simp; omega)) _) (OwnFrom.and (own_block _ _ _ rfl) (own_block _ _ _ rfl))
  case hIx => exact fun cc s X Y row hs hg' hr => ⟨hs.1, by obtain ⟨_, p', hp'⟩ := hs; exact ⟨p', (own_mono hJx (by simp; omega)) p' X Y row hp' hg' hr⟩⟩
  case hA => exact fun pre x a' => OwnFrom.and (OwnFrom.and (own_map (own_mono hJ (by simp; omega)) (fun _ => pre.filter (standG ds g c))) (OwnFrom.and (own_block _ _ _ rfl) (own_block _ _ _ rfl))) (ownFrom_pure _ _)
  case h0 => exact ⟨hJ.alloc _ (hJ.alloc _ h0), (Below.heap_alloc _ _ _ (by simp)).trans (World.alloc_heap_new W _), by have := World.alloc_heap_new (W.alloc (.cells #[.func (.yield l) #[] #[]] 65)) (.cells #[ptr pw] 51); rwa [World.size_alloc] at this⟩
  case hassign =>
    intro l' pre x post W' hx hi
    unfold encN
    gi_wp2
    exact ⟨KeepsUp.refl _ _, hi, rfl⟩
  case hbody =>
    have mixed : Tryz.prog.follows Departure.mixedOrders = true := by kernel_rfl
    have hfn : ∀ f, Fence.wide.fn f := fun _ => trivial
    rintro l' pre x post a' W' hx hl' ⟨⟨hj, h1, h2⟩, rfl⟩
    obtain ⟨d0, d1, d2⟩ := hG _ (hJG _ _ hj)
    have hin : x ∈ inners ds := by rw [hx]; simp
    obtain ⟨x1, x2, x3⟩ := in_inners hin
    rw [← hds, gsD_length] at x1
    obtain ⟨e, gg, oo, cap, he, hpa, hz, hsh, hrow⟩ := d2.group x1 (hds.symm ▸ x2) (hds.symm ▸ hok)
    rw [hds] at hpa hsh hrow
    obtain ⟨s0, s1, s2, s3, s4⟩ := sh_cells hrow
    obtain ⟨p, cp, hp, hlen, hr⟩ := d2.rowG
    obtain ⟨gr, go, rfl, hc⟩ := hr x e he
    obtain ⟨_, y1, _⟩ := gv_cells hc
    rw [hpa] at y1
    obtain ⟨_, _, _, w3⟩ := d2.cells
    rw [hp] at w3
    obtain ⟨q0', q1'⟩ := d0.cells
    have i0 := d1.cell
    have f0 := (Msk.cell_of_box_l h1).1
    have hsn := filter_snoc (standG ds g c) pre x
    have B1 : Hid (AtW W' pw u) := d2
    have H1 : Hid (W'.heap[W.heap.size]? = some (.cells #[.func (.yield l) #[] #[]] 65 (0, 0))) := h1
    have H2 : Hid (W'.heap[W.heap.size + 1]? = some (.cells #[ptr pw] 51 (0, 0))) := h2
    have BB : Hid (J (pre.filter (standG ds g c)) W') := hj
    clear c0 c2 hr hc hrow
    unfold ptr
    have hrd : ∀ d os, (grow (redrawn W' d) os).cell? ⟨bq, 0, none⟩ = some (.pointer (some ⟨pw, 0, none⟩)) := cell_regrown q0'
    have hr1 := cell_regrown q1'
    have hr2 := cell_regrown i0
    have hr3 := cell_regrown f0
    have hr4 := cell_regrown y1
    have hr5 := cell_regrown w3
    have hr6 := cell_regrown s1
    have cS : ∀ d os, CallsIn (Fence.wide.inRound l') (9 - 1) Tryz.prog 149 #[.agg #[.pointer (some ⟨pw, 0, none⟩), .int .i64 (c : Int)], .int .i64 (x : Int)] (grow (redrawn W' d) os) fun e' w'' => e' = .returned (ptrO gg (oo + c * 5)) ∧ ∃ p : Regrown, w'' = grow (redrawn W' p.d) p.os := fun d os =>
      calls_fw (Calls.regrown_of (shelf_any pw x c u e _ gg oo cap _ (B1.out.below (below_regrown W' d os)) he hsh hz))
    clear q0' q1' i0 f0 y1 w3 s0 s1 s2 s3 s4 d0 d1 d2 hj h1 hpa
    unfold ptrO at cS
    by_cases hpg : paAt ds x = g
    · cases hon : (shAt ds x c).on
      · gi_wp2
        refine region_quiet_rg mixed (by kernel_rfl) ?_
        have hr7 : ∀ d os, (grow (redrawn W' d) os).cell? ⟨gg, oo + c * 5 + 1, none⟩ = some (.bool false) := fun d os => by rw [hr6, hon]
        clear hr6
        repeat (quiet_step_in (exact cS _ _))
        refine wpQuietIn_nil ?_
        rintro _ ⟨⟨dq, osq⟩, rfl⟩
        gi_wp2
        refine ⟨KeepsUp.below (below_regrown _ _ _), ?_, ?_, ?_⟩
        · rw [hsn, if_neg (by unfold standG; simp [hon]), List.append_nil]
          exact own_below hJ BB.out (below_regrown _ _ _)
        · exact (below_block _ _ H1.out)
        · exact (below_block _ _ H2.out)
      · gi_wp2
        refine region_gated_rg 22 rfl mixed (by kernel_rfl) ?_
        have hr7 : ∀ d os, (grow (redrawn W' d) os).cell? ⟨gg, oo + c * 5 + 1, none⟩ = some (.bool true) := fun d os => by rw [hr6, hon]
        clear hr6
        simp only [List.take_succ_cons, List.take_zero, List.drop_succ_cons, List.drop_zero]
        repeat (quiet_step_in (exact cS _ _))
        refine wpQuietIn_nil ⟨by kernel_rfl, ?_⟩
        rintro _ ⟨⟨dq, osq⟩, rfl⟩
        have hst : standG ds g c x = true := by unfold standG; simp [hpg, hon]
        have hxs : groupsL ds g c = pre.filter (standG ds g c) ++ x :: post.filter (standG ds g c) := by
          unfold groupsL
          rw [hx, List.filter_append, List.filter_cons, if_pos hst]
        rw [hst, if_pos rfl] at hsn
        refine op_yield (l := l) rfl rfl (hY _ x _ _ hxs (own_below hJ BB.out (below_regrown W' dq osq))) ?_
        rintro e' w2 ⟨hk2, (⟨rfl, hJ2⟩ | ⟨rfl, hJ2⟩)⟩
        · refine ⟨_, rfl, ?_⟩
          repeat (quiet_step_in (exact cS _ _))
          refine wpQuietIn_nil ?_
          gi_wp2
          refine ⟨(KeepsUp.below (below_regrown _ _ _)).trans (hk2.mono (by omega)), ?_, ?_, ?_⟩
          · rw [hsn]; exact hJ2
          · exact hk2.block (Nat.le_refl _) (below_block _ _ H1.out)
          · exact hk2.block (Nat.le_succ _) (below_block _ _ H2.out)
        · refine ⟨_, rfl, ?_⟩
          repeat (quiet_step_in (exact cS _ _))
          refine wpQuietIn_nil ?_
          gi_wp2
          exact ⟨(KeepsUp.below (below_regrown _ _ _)).trans (hk2.mono (by omega)), rfl, _, hJ2⟩
    · gi_wp2
      refine region_quiet_rg mixed (by kernel_rfl) ?_
      repeat (quiet_step_in (exact cS _ _))
      refine wpQuietIn_nil ?_
      rintro _ ⟨⟨dq, osq⟩, rfl⟩
      gi_wp2
      refine ⟨KeepsUp.below (below_regrown _ _ _), ?_, ?_, ?_⟩
      · rw [hsn, if_neg (by unfold standG; simp [hpg]), List.append_nil]
        exact own_below hJ BB.out (below_regrown _ _ _)
      · exact (below_block _ _ H1.out)
      · exact (below_block _ _ H2.out)
  case hdone =>
    intro D W' hD hi hK
    have hD' : W.heap.size ≤ D := by simp at hD; omega
    gi_wp2
    refine ⟨by simp, .inl ⟨_, _, rfl, run_takeDeferred hK, ?_⟩⟩
    exact ⟨_, results_none rfl _ _ _, ⟨_, rfl⟩, keeps_end hD' hK, .inl (hJ.putObj _ hi.1 hD' hK rfl)⟩
  case hstop =>
    rintro D cc pre W' hD ⟨rfl, p', hp'⟩ hK
    have hD' : W.heap.size ≤ D := by simp at hD; omega
    gi_wp2
    refine ⟨by simp, .inl ⟨_, _, rfl, run_takeDeferred hK, ?_⟩⟩
    exact ⟨_, results_none rfl _ _ _, ⟨_, rfl⟩, keeps_end hD' hK, .inr ⟨p', hJx.putObj _ hp' hD' hK rfl⟩⟩
def encI (x : Int) : Array Value := #[.int .i64 x]
def vAt (ts : List Tk) (i : Nat) : Int := ((ts[i]?).map (·.v)).getD 0
def timesT (ts : List Tk) (g : Int) (c : Nat) : List Int := (tasksL ts g c).map (vAt ts)
def timesG (ds : List Gr) (g : Int) (c : Nat) : List Int := (groupsL ds g c).map (fun k => (shAt ds k c).v)
def timesL (ts : List Tk) (ds : List Gr) (g : Int) (c : Nat) : List Int := timesT ts g c ++ timesG ds g c
theorem own_at {β : Type} {B k : Nat} (o : Obj) (hk : k < B) : OwnFrom B (fun (_ : β) W => W.heap[k]? = some o) := fun s X Y row hs hg hr =>
  (hg.block k (Array.getElem?_eq_some_iff.1 hs).1 (fun e => by have := (hr k e.symm).1; omega)).trans hs
theorem in_tasks {ts : List Tk} {g c : Int} {i : Nat} (h : i ∈ tasksL ts g c) : i < ts.length ∧ taskIn ts g c i = true := by
  unfold tasksL taskTo at h
  rw [List.mem_filter, List.mem_range] at h
  exact h
theorem vAt_eq {ts : List Tk} {i : Nat} {e : Tk} (h : ts[i]? = some e) : vAt ts i = e.v := by unfold vAt; rw [h]; rfl
theorem AtW.rowT {W : World} {b : Nat} {u : Wv} (h : AtW W b u) : ∃ p cap, u.y = .slice p u.ts.length cap ∧ u.ts.length ≤ 9223372036854775807 ∧ ∀ k e, u.ts[k]? = some e → ∃ g o, p = some ⟨g, o, none⟩ ∧ W.rangeAt g (o + k * 9) (tkC e) := row_read h.2.2.1
theorem groups_in {ds : List Gr} {g : Int} {c k : Nat} (h : k ∈ groupsL ds g c) : k < ds.length ∧ usAt ds k = true ∧ k ≠ 0 ∧ standG ds g c k = true := by
  unfold groupsL at h
  rw [List.mem_filter] at h
  obtain ⟨a, b, d⟩ := in_inners h.1
  exact ⟨a, b, d, h.2⟩

theorem times_gives (pw bq bg c : Nat) (u : Wv) (g : Int) (G : World → Prop) (W0 : World) (hok : ShOk (gsD u.gs) c) (hG : ∀ W, G W → QBox W bq pw (c : Int) ∧ IBox W bg g ∧ AtW W pw u) :
    Gives Tryz.prog 197 #[ptr bq, ptr bg] encI (timesL u.ts (gsD u.gs) g c) G W0 := by
  have mixed : Tryz.prog.follows Departure.mixedOrders = true := by kernel_rfl
  have hfn : ∀ f, Fence.wide.fn f := fun _ => trivial
  intro l J Jx W hW hJG hJ hJx hY h0
  refine (callsIn_wide (n := 9)).1 ?_
  refine callsIn_of_wp_marks Tryz.func197 rfl trivial ?_ rfl
  unfold ptr
  simp only [Tryz.ntmps197, List.size_toArray, List.length_cons, List.length_nil, Nat.reduceAdd, Nat.reduceSub, Array.replicate_succ, Array.replicate_zero, List.push_toArray, List.append_toArray, List.nil_append, List.cons_append]
  obtain ⟨c0, c1, c2⟩ := hG _ (hJG _ _ h0)
  obtain ⟨q0, q1⟩ := c0.cells
  have i0 := c1.cell
  have b0 := block_lt_of_cell q0
  have b1 := block_lt_of_cell i0
  simp only [] at b0 b1
  gi_wp2_with (gi_at_call 192; refine (calls_fw (mk_tasksIn pw (c : Int) g _)).mono ?_; rintro e w' ⟨rfl, rfl⟩; simp only [twoBox, ptr])
  obtain ⟨w1, hw1⟩ : ∃ w1, (((W.alloc (.cells #[.func (.yield l) #[] #[]] 65)).alloc (.cells #[.pointer (some ⟨pw, 0, none⟩), .int .i64 (c : Int)] 53)).alloc (.cells #[.int .i64 g] 3)) = w1 := ⟨_, rfl⟩
  have z1 : w1.heap.size = W.heap.size + 3 := by rw [← hw1]; simp
  have y1 : w1.heap[W.heap.size]? = some (.cells #[.func (.yield l) #[] #[]] 65 (0, 0)) := by rw [← hw1]; exact (Below.heap_alloc _ _ _ (by simp; omega)).trans ((Below.heap_alloc _ _ _ (by simp)).trans (World.alloc_heap_new W _))
  have y2 : QBox w1 (W.heap.size + 1) pw (c : Int) := by rw [← hw1]; exact (Below.heap_alloc _ _ _ (by simp)).trans (by have := World.alloc_heap_new (W.alloc (.cells #[.func (.yield l) #[] #[]] 65)) (.cells #[.pointer (some ⟨pw, 0, none⟩), .int .i64 (c : Int)] 53); rwa [World.size_alloc] at this)
  have y3 : IBox w1 (W.heap.size + 1 + 1) g := by rw [← hw1]; have := World.alloc_heap_new ((W.alloc (.cells #[.func (.yield l) #[] #[]] 65)).alloc (.cells #[.pointer (some ⟨pw, 0, none⟩), .int .i64 (c : Int)] 53)) (.cells #[.int .i64 g] 3); rwa [World.size_alloc, World.size_alloc] at this
  have j1 : J [] w1 := by rw [← hw1]; exact hJ.alloc _ (hJ.alloc _ (hJ.alloc _ h0))
  have hsz : W.heap.size + 1 + 1 = (W.alloc (.cells #[.func (.yield l) #[] #[]] 65)).heap.size + 1 := by simp
  simp only [hw1, World.size_alloc]
  clear hw1 hsz
  refine range_own (xs := tasksL u.ts g (c : Int)) (encs := encN) (gf := 198) (lb := #[ptr (W.heap.size + 1), ptr (W.heap.size + 1 + 1)]) (W0 := W) (G := fun W' => QBox W' (W.heap.size + 1) pw (c : Int) ∧ IBox W' (W.heap.size + 1 + 1) g ∧ AtW W' pw u)
    (tasksIn_gives pw (W.heap.size + 1) (W.heap.size + 1 + 1) u g (c : Int) _ W (fun W' h => h)) (by omega) rfl (enters_of Tryz.func198 (by kernel_rfl) rfl) (fun _ => rfl)
    (fun pre W' => J (pre.map (vAt u.ts)) W' ∧ W'.heap[W.heap.size]? = some (.cells #[.func (.yield l) #[] #[]] 65 (0, 0)) ∧ QBox W' (W.heap.size + 1) pw (c : Int) ∧ IBox W' (W.heap.size + 1 + 1) g)
    (fun cc pre W' => cc = .ret ∧ ∃ pre', Jx pre' W')
    (fun pre x a' W' => (J (pre.map (vAt u.ts)) W' ∧ W'.heap[W.heap.size]? = some (.cells #[.func (.yield l) #[] #[]] 65 (0, 0)) ∧ QBox W' (W.heap.size + 1) pw (c : Int) ∧ IBox W' (W.heap.size + 1 + 1) g) ∧ a' = { tmps := #[.func (.yield l) #[] #[], ptr bq, ptr bg, ptr W.heap.size, .int .i64 (x : Int), undef, qV pw (c : Int), .int .i64 g, .func (.func 198) #[] #[ptr (W.heap.size + 1), ptr (W.heap.size + 1 + 1)], .int .i64 (x : Int), undef, undef, undef, undef, undef, undef, undef, undef, undef, undef, undef, undef, undef, undef, undef, undef, undef, undef, undef, undef, undef, undef, undef, undef, undef], defers := [] })
    (fun pre W' h => ⟨h.2.2.1, h.2.2.2, (hG _ (hJG _ _ h.1)).2.2⟩)
    ?hI ?hIx ?hA ⟨j1, y1, y2, y3⟩ ?hassign ?hbody ?hdone ?hstop
  case hI => exact OwnFrom.and (own_map (own_mono hJ (by omega)) _) (OwnFrom.and (own_block _ _ _ rfl) (OwnFrom.and (own_block _ _ _ rfl) (own_block _ _ _ rfl)))
  case hIx => exact fun cc s X Y row hs hg' hr => ⟨hs.1, by obtain ⟨_, p', hp'⟩ := hs; exact ⟨p', (own_mono hJx (by omega)) p' X Y row hp' hg' hr⟩⟩
  case hA => exact fun pre x a' => OwnFrom.and (OwnFrom.and (own_map (own_mono hJ (by omega)) (fun _ => pre.map (vAt u.ts))) (OwnFrom.and (own_block _ _ _ rfl) (OwnFrom.and (own_block _ _ _ rfl) (own_block _ _ _ rfl)))) (ownFrom_pure _ _)
  case hassign =>
    intro l' pre x post W' hx hi
    unfold encN
    gi_wp2
    exact ⟨KeepsUp.refl _ _, hi, rfl⟩
  case hbody =>
    rintro l' pre x post a' W' hx hl' ⟨⟨hj, h1, h2, h3⟩, rfl⟩
    obtain ⟨d0, d1, d2⟩ := hG _ (hJG _ _ hj)
    have hin : x ∈ tasksL u.ts g (c : Int) := by rw [hx]; simp
    obtain ⟨x1, x2⟩ := in_tasks hin
    obtain ⟨e, he⟩ := row_get x1
    obtain ⟨p, cp, hp, hlen, hr⟩ := d2.rowT
    obtain ⟨gr, go, rfl, hc⟩ := hr x e he
    obtain ⟨_, _, _, _, _, t5, _⟩ := tk_cells hc
    obtain ⟨_, _, w2, _⟩ := d2.cells
    rw [hp] at w2
    have hv := vAt_eq he
    have BB : Hid (J (pre.map (vAt u.ts)) W') := hj
    have H1 : Hid (W'.heap[W.heap.size]? = some (.cells #[.func (.yield l) #[] #[]] 65 (0, 0))) := h1
    have H2 : Hid (QBox W' (W.heap.size + 1) pw (c : Int)) := h2
    have H3 : Hid (IBox W' (W.heap.size + 1 + 1) g) := h3
    have hr0 := cell_regrown d0.cells.1
    have hr1 := cell_regrown (Msk.cell_of_box_l h1).1
    have hr2 := cell_regrown w2
    have hr3 := cell_regrown t5
    have hxs : timesL u.ts (gsD u.gs) g c = pre.map (vAt u.ts) ++ e.v :: (post.map (vAt u.ts) ++ timesG (gsD u.gs) g c) := by
      unfold timesL timesT
      rw [hx, List.map_append, List.map_cons, hv]; simp
    have HXS : Hid (timesL u.ts (gsD u.gs) g c = pre.map (vAt u.ts) ++ e.v :: (post.map (vAt u.ts) ++ timesG (gsD u.gs) g c)) := hxs
    have hsn : Hid ((pre ++ [x]).map (vAt u.ts) = pre.map (vAt u.ts) ++ [e.v]) := by unfold Hid; rw [List.map_append, List.map_cons, hv]; rfl
    clear hr hc w2 t5 d0 d1 d2 hj h1 h2 h3 hp hv hxs he
    unfold ptr qV ptr
    gi_wp2
    refine region_gated_rg 10 rfl mixed (by kernel_rfl) ?_
    simp only [List.take_succ_cons, List.take_zero, List.drop_succ_cons, List.drop_zero]
    repeat (quiet_step_in (fail))
    refine wpQuietIn_nil ⟨by kernel_rfl, ?_⟩
    rintro _ ⟨⟨dq, osq⟩, rfl⟩
    refine op_yield (l := l) rfl rfl (hY _ e.v _ _ HXS.out (own_below hJ BB.out (below_regrown W' dq osq))) ?_
    rintro e' w2 ⟨hk2, (⟨rfl, hJ2⟩ | ⟨rfl, hJ2⟩)⟩
    · refine ⟨_, rfl, ?_⟩
      repeat (quiet_step_in (fail))
      refine wpQuietIn_nil ?_
      gi_wp2
      refine ⟨(KeepsUp.below (below_regrown _ _ _)).trans (hk2.mono (by omega)), ?_, ?_, ?_, ?_⟩
      · rw [hsn.out]; exact hJ2
      · exact hk2.block (Nat.le_refl _) (below_block _ _ H1.out)
      · exact hk2.block (by omega) (below_block _ _ H2.out)
      · exact hk2.block (by omega) (below_block _ _ H3.out)
    · refine ⟨_, rfl, ?_⟩
      repeat (quiet_step_in (fail))
      refine wpQuietIn_nil ?_
      gi_wp2
      exact ⟨(KeepsUp.below (below_regrown _ _ _)).trans (hk2.mono (by omega)), rfl, _, hJ2⟩
  case hstop =>
    rintro D cc pre W' hD ⟨rfl, p', hp'⟩ hK
    have hD' : W.heap.size ≤ D := by omega
    gi_wp2
    refine ⟨by simp, .inl ⟨_, _, rfl, run_takeDeferred hK, ?_⟩⟩
    exact ⟨_, results_none rfl _ _ _, ⟨_, rfl⟩, keeps_end hD' hK, .inr ⟨p', hJx.putObj _ hp' hD' hK rfl⟩⟩
  case hdone =>
    rintro D W' hD ⟨hj, h1, h2, h3⟩ hK
    have hD' : W.heap.size ≤ D := by omega
    obtain ⟨d0, d1, d2⟩ := hG _ (hJG _ _ hj)
    have k0 := d0.cells.1
    have k1 := d0.cells.2
    have k2 := d1.cell
    clear q0 q1 i0 y1 y2 y3 j1 h2 h3 c0 c1 c2 d0 d1 d2
    revert hj h1 hK k0 k1 k2
    obtain ⟨V, hV⟩ : ∃ V, V = W' := ⟨_, rfl⟩
    rw [← hV]
    clear hV
    intro hj h1 hK k0 k1 k2
    have hDV : D < V.heap.size := (Array.getElem?_eq_some_iff.1 hK).1
    gi_wp2_with (gi_at_call 194; refine (calls_fw (mk_groupsIn pw (c : Int) g _)).mono ?_; rintro e w' ⟨rfl, rfl⟩; simp only [twoBox, ptr])
    obtain ⟨w2, hw2⟩ : ∃ w2, ((V.alloc (.cells #[.pointer (some ⟨pw, 0, none⟩), .int .i64 (c : Int)] 53)).alloc (.cells #[.int .i64 g] 3)) = w2 := ⟨_, rfl⟩
    have z2 : w2.heap.size = V.heap.size + 2 := by rw [← hw2]; simp
    have y1 : w2.heap[W.heap.size]? = some (.cells #[.func (.yield l) #[] #[]] 65 (0, 0)) := by rw [← hw2]; exact (Below.heap_alloc _ _ _ (by simp; omega)).trans ((Below.heap_alloc _ _ _ (by omega)).trans h1)
    have y2 : QBox w2 V.heap.size pw (c : Int) := by rw [← hw2]; exact (Below.heap_alloc _ _ _ (by simp)).trans (World.alloc_heap_new V _)
    have y3 : IBox w2 (V.heap.size + 1) g := by rw [← hw2]; have := World.alloc_heap_new (V.alloc (.cells #[.pointer (some ⟨pw, 0, none⟩), .int .i64 (c : Int)] 53)) (.cells #[.int .i64 g] 3); rwa [World.size_alloc] at this
    have y4 : w2.heap[D]? = some (.deferred (some [])) := by rw [← hw2]; exact (Below.heap_alloc _ _ _ (by simp; omega)).trans ((Below.heap_alloc _ _ _ hDV).trans hK)
    have j2 : J (timesT u.ts g c) w2 := by rw [← hw2]; exact (own_mono hJ (Nat.le_refl _)).alloc _ (hJ.alloc _ hj)
    simp only [hw2]
    clear hw2 h1 hK hj k0 k1 k2
    refine range_own (xs := groupsL (gsD u.gs) g c) (encs := encN) (gf := 199) (lb := #[ptr V.heap.size, ptr (V.heap.size + 1)]) (W0 := V) (G := fun W' => QBox W' V.heap.size pw (c : Int) ∧ IBox W' (V.heap.size + 1) g ∧ AtW W' pw u)
      (groupsIn_gives pw V.heap.size (V.heap.size + 1) c u g _ V hok (fun W' h => h)) (by omega) rfl (enters_of Tryz.func199 (by kernel_rfl) rfl) (fun _ => rfl)
      (fun pre W' => J (timesT u.ts g c ++ pre.map (fun k => (shAt (gsD u.gs) k c).v)) W' ∧ W'.heap[W.heap.size]? = some (.cells #[.func (.yield l) #[] #[]] 65 (0, 0)) ∧ QBox W' V.heap.size pw (c : Int) ∧ IBox W' (V.heap.size + 1) g ∧ W'.heap[D]? = some (.deferred (some [])))
      (fun cc pre W' => cc = .ret ∧ W'.heap[D]? = some (.deferred (some [])) ∧ ∃ pre', Jx pre' W')
      (fun pre x a' W' => (J (timesT u.ts g c ++ pre.map (fun k => (shAt (gsD u.gs) k c).v)) W' ∧ W'.heap[W.heap.size]? = some (.cells #[.func (.yield l) #[] #[]] 65 (0, 0)) ∧ QBox W' V.heap.size pw (c : Int) ∧ IBox W' (V.heap.size + 1) g ∧ W'.heap[D]? = some (.deferred (some []))) ∧ a' = { tmps := #[.func (.yield l) #[] #[], ptr bq, ptr bg, ptr W.heap.size, undef, .int .i64 (x : Int), qV pw (c : Int), .int .i64 g, .func (.func 198) #[] #[ptr (W.heap.size + 1), ptr (W.heap.size + 1 + 1)], undef, undef, undef, undef, undef, undef, undef, undef, undef, undef, undef, undef, undef, qV pw (c : Int), .int .i64 g, .func (.func 199) #[] #[ptr V.heap.size, ptr (V.heap.size + 1)], .int .i64 (x : Int), undef, undef, undef, undef, undef, undef, undef, undef, undef], defers := [] })
      (fun pre W' h => ⟨h.2.2.1, h.2.2.2.1, (hG _ (hJG _ _ h.1)).2.2⟩)
      ?gI ?gIx ?gA ⟨by rw [List.map_nil, List.append_nil]; exact j2, y1, y2, y3, y4⟩ ?gassign ?gbody ?gdone ?gstop
    case gI => exact OwnFrom.and (own_map (own_mono hJ (by omega)) _) (OwnFrom.and (own_block _ _ _ rfl) (OwnFrom.and (own_block _ _ _ rfl) (OwnFrom.and (own_block _ _ _ rfl) (own_at _ (by omega)))))
    case gIx => exact fun cc s X Y row hs hg' hr => ⟨hs.1, own_at (β := Unit) _ (by omega) () X Y row hs.2.1 hg' hr, by obtain ⟨_, _, p', hp'⟩ := hs; exact ⟨p', (own_mono hJx (by omega)) p' X Y row hp' hg' hr⟩⟩
    case gA => exact fun pre x a' => OwnFrom.and (OwnFrom.and (own_map (own_mono hJ (by omega)) (fun _ => timesT u.ts g c ++ pre.map (fun k => (shAt (gsD u.gs) k c).v))) (OwnFrom.and (own_block _ _ _ rfl) (OwnFrom.and (own_block _ _ _ rfl) (OwnFrom.and (own_block _ _ _ rfl) (own_at _ (by omega)))))) (ownFrom_pure _ _)
    case gassign =>
      intro l' pre x post W' hx hi
      unfold encN
      gi_wp2
      exact ⟨KeepsUp.refl _ _, hi, rfl⟩
    case gbody =>
      rintro l' pre x post a' W' hx hl' ⟨⟨hj, h1, h2, h3, h4⟩, rfl⟩
      obtain ⟨d0, d1, d2⟩ := hG _ (hJG _ _ hj)
      have hin : x ∈ groupsL (gsD u.gs) g c := by rw [hx]; simp
      obtain ⟨x1, x2, x3, x4⟩ := groups_in hin
      rw [gsD_length] at x1
      obtain ⟨e, gg, oo, cap, he, hpa, hz, hsh, hrow⟩ := d2.group x1 x2 hok
      obtain ⟨s0, s1, s2, s3, s4⟩ := sh_cells hrow
      have B1 : Hid (AtW W' pw u) := d2
      have BB : Hid (J (timesT u.ts g c ++ pre.map (fun k => (shAt (gsD u.gs) k c).v)) W') := hj
      have H1 : Hid (W'.heap[W.heap.size]? = some (.cells #[.func (.yield l) #[] #[]] 65 (0, 0))) := h1
      have H2 : Hid (QBox W' V.heap.size pw (c : Int)) := h2
      have H3 : Hid (IBox W' (V.heap.size + 1) g) := h3
      have H4 : Hid (W'.heap[D]? = some (.deferred (some []))) := h4
      have hr0 := cell_regrown d0.cells.1
      have hr00 := cell_regrown d0.cells.2
      have hr1 := cell_regrown (Msk.cell_of_box_l h1).1
      have hr3 := cell_regrown s2
      have HXS : Hid (timesL u.ts (gsD u.gs) g c = (timesT u.ts g c ++ pre.map (fun k => (shAt (gsD u.gs) k c).v)) ++ (shAt (gsD u.gs) x c).v :: post.map (fun k => (shAt (gsD u.gs) k c).v)) := by
        unfold Hid timesL timesG
        rw [hx, List.map_append, List.map_cons]; simp
      have hsn : Hid (timesT u.ts g c ++ (pre ++ [x]).map (fun k => (shAt (gsD u.gs) k c).v) = (timesT u.ts g c ++ pre.map (fun k => (shAt (gsD u.gs) k c).v)) ++ [(shAt (gsD u.gs) x c).v]) := by
        unfold Hid; rw [List.map_append, List.map_cons, ← List.append_assoc]; rfl
      have cS : ∀ d os, CallsIn (Fence.wide.inRound l') (9 - 1) Tryz.prog 149 #[.agg #[.pointer (some ⟨pw, 0, none⟩), .int .i64 (c : Int)], .int .i64 (x : Int)] (grow (redrawn W' d) os) fun e' w'' => e' = .returned (ptrO gg (oo + c * 5)) ∧ ∃ p : Regrown, w'' = grow (redrawn W' p.d) p.os := fun d os =>
        calls_fw (Calls.regrown_of (shelf_any pw x c u e _ gg oo cap _ (B1.out.below (below_regrown W' d os)) he hsh hz))
      clear s0 s1 s2 s3 s4 d0 d1 d2 hj h1 h2 h3 h4 hpa hrow he hz hsh
      unfold ptrO at cS
      unfold ptr qV ptr
      gi_wp2
      refine region_gated_rg 7 rfl mixed (by kernel_rfl) ?_
      simp only [List.take_succ_cons, List.take_zero, List.drop_succ_cons, List.drop_zero]
      repeat (quiet_step_in (exact cS _ _))
      refine wpQuietIn_nil ⟨by kernel_rfl, ?_⟩
      rintro _ ⟨⟨dq, osq⟩, rfl⟩
      refine op_yield (l := l) rfl rfl (hY _ (shAt (gsD u.gs) x c).v _ _ HXS.out (own_below hJ BB.out (below_regrown W' dq osq))) ?_
      rintro e' w2 ⟨hk2, (⟨rfl, hJ2⟩ | ⟨rfl, hJ2⟩)⟩
      · refine ⟨_, rfl, ?_⟩
        repeat (quiet_step_in (exact cS _ _))
        refine wpQuietIn_nil ?_
        gi_wp2
        refine ⟨(KeepsUp.below (below_regrown _ _ _)).trans (hk2.mono (by omega)), ?_, ?_, ?_, ?_, ?_⟩
        · rw [hsn.out]; exact hJ2
        · exact hk2.block (Nat.le_refl _) (below_block _ _ H1.out)
        · exact hk2.block (by omega) (below_block _ _ H2.out)
        · exact hk2.block (by omega) (below_block _ _ H3.out)
        · exact hk2.block hD' (below_block _ _ H4.out)
      · refine ⟨_, rfl, ?_⟩
        repeat (quiet_step_in (exact cS _ _))
        refine wpQuietIn_nil ?_
        gi_wp2
        exact ⟨(KeepsUp.below (below_regrown _ _ _)).trans (hk2.mono (by omega)), rfl, hk2.block hD' (below_block _ _ H4.out), _, hJ2⟩
    case gstop =>
      rintro D2 cc pre W' hD2 ⟨rfl, hd, p', hp'⟩ hK
      have hne : D ≠ D2 := by omega
      have hd2 : (W'.putObj D2 (.deferred none)).heap[D]? = some (.deferred (some [])) := (World.putObj_heap_other hne).trans hd
      gi_wp2
      refine ⟨by simp, .inl ⟨_, _, rfl, run_takeDeferred hK, ?_⟩⟩
      refine ⟨by simp, .inl ⟨_, _, rfl, run_takeDeferred hd2, ?_⟩⟩
      exact ⟨_, results_none rfl _ _ _, ⟨_, rfl⟩, keeps_end hD' hd2, .inr ⟨p', hJx.putObj _ (hJx.putObj _ hp' (by omega) hK rfl) hD' hd2 rfl⟩⟩
    case gdone =>
      rintro D2 W' hD2 ⟨hj, h1, h2, h3, hd⟩ hK
      have hne : D ≠ D2 := by omega
      have hd2 : (W'.putObj D2 (.deferred none)).heap[D]? = some (.deferred (some [])) := (World.putObj_heap_other hne).trans hd
      gi_wp2
      refine ⟨by simp, .inl ⟨_, _, rfl, run_takeDeferred hK, ?_⟩⟩
      refine ⟨by simp, .inl ⟨_, _, rfl, run_takeDeferred hd2, ?_⟩⟩
      exact ⟨_, results_none rfl _ _ _, ⟨_, rfl⟩, keeps_end hD' hd2, .inl (hJ.putObj _ (hJ.putObj _ hj (by omega) hK rfl) hD' hd2 rfl)⟩
def lstep (a : Int × Bool) (v : Int) : Int × Bool := if a.2 = false ∨ v < a.1 then (v, true) else a
def leastL (l : List Int) : Int × Bool := l.foldl lstep (0, false)
theorem leastL_snoc (l : List Int) (v : Int) : leastL (l ++ [v]) = lstep (leastL l) v := by unfold leastL; rw [List.foldl_append]; rfl

theorem blocks5 {w w1 : World} {A B C D E : Obj} (h : (((((w.alloc A).alloc B).alloc C).alloc D).alloc E) = w1) :
    w1.heap[w.heap.size]? = some A ∧ w1.heap.size = w.heap.size + 5 ∧ w1.heap[w.heap.size + 1]? = some B ∧ w1.heap[w.heap.size + 1 + 1]? = some C ∧ w1.heap[w.heap.size + 1 + 1 + 1]? = some D ∧ w1.heap[w.heap.size + 1 + 1 + 1 + 1]? = some E ∧ Below w.heap.size w w1 := by
  subst h
  have nw : ∀ (v : World) (o : Obj) (n : Nat), v.heap.size = n → (v.alloc o).heap[n]? = some o := fun v o n e => by subst e; exact heap_alloc_new v o
  have od : ∀ (v : World) (o o' : Obj) (n : Nat), n < v.heap.size → v.heap[n]? = some o → (v.alloc o').heap[n]? = some o := fun v o o' n e h => (Below.heap_alloc v o' n e).trans h
  refine ⟨?_, by simp, ?_, ?_, ?_, ?_, ?_⟩
  · exact od _ _ _ _ (by simp <;> omega) (od _ _ _ _ (by simp <;> omega) (od _ _ _ _ (by simp <;> omega) (od _ _ _ _ (by simp <;> omega) (nw _ _ _ rfl))))
  · exact od _ _ _ _ (by simp <;> omega) (od _ _ _ _ (by simp <;> omega) (od _ _ _ _ (by simp <;> omega) (nw _ _ _ (by simp <;> omega))))
  · exact od _ _ _ _ (by simp <;> omega) (od _ _ _ _ (by simp <;> omega) (nw _ _ _ (by simp <;> omega)))
  · exact od _ _ _ _ (by simp <;> omega) (nw _ _ _ (by simp <;> omega))
  · exact nw _ _ _ (by simp <;> omega)
  · exact (((((Below.refl _ _).alloc (Nat.le_refl _) _).alloc (by simp) _).alloc (by simp; omega) _).alloc (by simp; omega) _).alloc (by simp; omega) _

theorem least_any (pw c : Nat) (u : Wv) (g : Int) (w : World) (h : AtW w pw u) (hok : ShOk (gsD u.gs) c) :
    Calls Tryz.prog 178 #[qV pw (c : Int), .int .i64 g] w fun e w' => e = .returned (.tuple #[.int .i64 (leastL (timesL u.ts (gsD u.gs) g c)).1, .bool (leastL (timesL u.ts (gsD u.gs) g c)).2]) ∧ Below w.heap.size w w' := by
  have mixed : Tryz.prog.follows Departure.mixedOrders = true := by kernel_rfl
  have hfn : ∀ f, Fence.wide.fn f := fun _ => trivial
  refine (callsIn_wide (n := 9)).1 ?_
  refine callsIn_of_wp_marks Tryz.func178 rfl trivial ?_ rfl
  unfold qV ptr
  simp only [Tryz.ntmps178, List.size_toArray, List.length_cons, List.length_nil, Nat.reduceAdd, Nat.reduceSub, Array.replicate_succ, Array.replicate_zero, List.push_toArray, List.append_toArray, List.nil_append, List.cons_append]
  gi_wp2_with (gi_at_call 190; refine (calls_fw (mk_times pw (c : Int) g _)).mono ?_; rintro e w' ⟨rfl, rfl⟩; simp only [twoBox, ptr])
  simp only [World.size_alloc]
  obtain ⟨w1, hw1⟩ : ∃ w1, (((((w.alloc (.cells #[.pointer (some ⟨pw, 0, none⟩), .int .i64 (c : Int)] 53)).alloc (.cells #[.int .i64 0] 3)).alloc (.cells #[.bool false] 4)).alloc (.cells #[.pointer (some ⟨pw, 0, none⟩), .int .i64 (c : Int)] 53)).alloc (.cells #[.int .i64 g] 3)) = w1 := ⟨_, rfl⟩
  obtain ⟨z0, z1, z2, z3, z4, z5, z6⟩ := blocks5 hw1
  simp only [hw1]
  clear hw1
  have hlt := h.lt
  refine range_own (xs := timesL u.ts (gsD u.gs) g c) (encs := encI) (gf := 197) (lb := #[ptr (w.heap.size + 1 + 1 + 1), ptr (w.heap.size + 1 + 1 + 1 + 1)]) (W0 := w) (G := fun W' => QBox W' (w.heap.size + 1 + 1 + 1) pw (c : Int) ∧ IBox W' (w.heap.size + 1 + 1 + 1 + 1) g ∧ AtW W' pw u)
    (times_gives pw (w.heap.size + 1 + 1 + 1) (w.heap.size + 1 + 1 + 1 + 1) c u g _ w hok (fun W' h => h)) (by omega) rfl (enters_of Tryz.func197 (by kernel_rfl) rfl) (fun _ => rfl)
    (fun pre W' => Boxed W' (w.heap.size + 1) 3 (.int .i64 (leastL pre).1) ∧ Boxed W' (w.heap.size + 1 + 1) 4 (.bool (leastL pre).2) ∧ QBox W' (w.heap.size + 1 + 1 + 1) pw (c : Int) ∧ IBox W' (w.heap.size + 1 + 1 + 1 + 1) g ∧ Below w.heap.size w W')
    (fun _ _ _ => False)
    (fun pre x a' W' => (Boxed W' (w.heap.size + 1) 3 (.int .i64 (leastL pre).1) ∧ Boxed W' (w.heap.size + 1 + 1) 4 (.bool (leastL pre).2) ∧ QBox W' (w.heap.size + 1 + 1 + 1) pw (c : Int) ∧ IBox W' (w.heap.size + 1 + 1 + 1 + 1) g ∧ Below w.heap.size w W') ∧ a' = { tmps := #[qV pw (c : Int), .int .i64 g, ptr w.heap.size, undef, .int .i64 0, .bool false, ptr (w.heap.size + 1), ptr (w.heap.size + 1 + 1), .int .i64 x, qV pw (c : Int), .int .i64 g, .func (.func 197) #[] #[ptr (w.heap.size + 1 + 1 + 1), ptr (w.heap.size + 1 + 1 + 1 + 1)], .int .i64 x, undef, undef, undef, undef, undef, undef, undef, undef, undef, undef], defers := [] })
    (fun pre W' hi => ⟨hi.2.2.1, hi.2.2.2.1, h.below hi.2.2.2.2⟩)
    ?hI (fun _ _ _ _ _ hs _ _ => hs) ?hA ⟨z2, z3, z4, z5, z6⟩ ?hassign ?hbody ?hdone (fun _ _ _ _ _ hs _ => hs.elim)
  case hI => exact OwnFrom.and (Own.from (boxed_own _ _ _) _) (OwnFrom.and (Own.from (boxed_own _ _ _) _) (OwnFrom.and (own_block _ _ _ rfl) (OwnFrom.and (own_block _ _ _ rfl) (ownFrom_below (Nat.le_refl _) (by omega)))))
  case hA => exact fun pre x a' => OwnFrom.and (OwnFrom.and (own_block _ _ _ rfl) (OwnFrom.and (own_block _ _ _ rfl) (OwnFrom.and (own_block _ _ _ rfl) (OwnFrom.and (own_block _ _ _ rfl) (ownFrom_below (Nat.le_refl _) (by omega)))))) (ownFrom_pure _ _)
  case hassign =>
    intro l' pre x post W' hx hi
    unfold encI
    gi_wp2
    exact ⟨KeepsUp.refl _ _, hi, rfl⟩
  case hbody =>
    rintro l' pre x post a' W' hx hl' ⟨⟨h1, h2, h3, h4, h5⟩, rfl⟩
    have hsn := leastL_snoc pre x
    have f1 := h1.cell
    have f1' := h1.frozen
    have f2 := h2.cell
    have f2' := h2.frozen
    have H1 : Hid (Boxed W' (w.heap.size + 1) 3 (.int .i64 (leastL pre).1)) := h1
    have H2 : Hid (Boxed W' (w.heap.size + 1 + 1) 4 (.bool (leastL pre).2)) := h2
    have H3 : Hid (QBox W' (w.heap.size + 1 + 1 + 1) pw (c : Int)) := h3
    have H4 : Hid (IBox W' (w.heap.size + 1 + 1 + 1 + 1) g) := h4
    have H5 : Hid (Below w.heap.size w W') := h5
    clear h1 h2 h3 h4 h5 z0 z2 z3 z4 z5 z6
    unfold ptr qV ptr
    obtain ⟨⟨m, b⟩, hmb⟩ : ∃ p, leastL pre = p := ⟨_, rfl⟩
    rw [hmb] at f1 f2 hsn
    have set2 : ∀ {k : Nat} {o : Obj}, k ≠ w.heap.size + 1 → k ≠ w.heap.size + 1 + 1 → W'.heap[k]? = some o → ((W'.setCell ⟨w.heap.size + 1, 0, none⟩ (.int .i64 x)).setCell ⟨w.heap.size + 1 + 1, 0, none⟩ (.bool true)).heap[k]? = some o := fun h1 h2 h => by
      rw [Deep.blk_setCell_other _ _ _ _ h2, Deep.blk_setCell_other _ _ _ _ h1]; exact h
    have HST : Hid (∀ {k : Nat} {o : Obj}, k ≠ w.heap.size + 1 → k ≠ w.heap.size + 1 + 1 → W'.heap[k]? = some o → ((W'.setCell ⟨w.heap.size + 1, 0, none⟩ (.int .i64 x)).setCell ⟨w.heap.size + 1 + 1, 0, none⟩ (.bool true)).heap[k]? = some o) := set2
    have HSN : Hid (leastL (pre ++ [x]) = lstep (m, b) x) := hsn
    have HMB : Hid (leastL pre = (m, b)) := hmb
    clear hsn hmb set2
    cases b
    · gi_wp2
      have HS : lstep (m, false) x = (x, true) := by unfold lstep; rw [if_pos (.inl rfl)]
      refine ⟨(KeepsUp.set _ _ _ (by omega)).trans (KeepsUp.set _ _ _ (by omega)), ?_, ?_, ?_, ?_, ?_⟩
      · rw [HSN.out, HS]; exact ((H1.out.set _).other (by omega) _)
      · rw [HSN.out, HS]; exact ((H2.out.other (by omega) _).set _)
      · exact HST.out (by omega) (by omega) H3.out
      · exact HST.out (by omega) (by omega) H4.out
      · exact (H5.out.setCell (p := ⟨w.heap.size + 1, 0, none⟩) (by simp) _).setCell (p := ⟨w.heap.size + 1 + 1, 0, none⟩) (by simp; omega) _
    · by_cases hx2 : x < m
      · gi_wp2
        have HS : lstep (m, true) x = (x, true) := by unfold lstep; rw [if_pos (.inr hx2)]
        refine ⟨(KeepsUp.set _ _ _ (by omega)).trans (KeepsUp.set _ _ _ (by omega)), ?_, ?_, ?_, ?_, ?_⟩
        · rw [HSN.out, HS]; exact ((H1.out.set _).other (by omega) _)
        · rw [HSN.out, HS]; exact ((H2.out.other (by omega) _).set _)
        · exact HST.out (by omega) (by omega) H3.out
        · exact HST.out (by omega) (by omega) H4.out
        · exact (H5.out.setCell (p := ⟨w.heap.size + 1, 0, none⟩) (by simp) _).setCell (p := ⟨w.heap.size + 1 + 1, 0, none⟩) (by simp; omega) _
      · gi_wp2
        have HS : lstep (m, true) x = (m, true) := by unfold lstep; rw [if_neg (by simp [hx2])]
        refine ⟨KeepsUp.refl _ _, ?_, ?_, H3.out, H4.out, H5.out⟩
        · rw [HSN.out, HS]; have := H1.out; rw [HMB.out] at this; exact this
        · rw [HSN.out, HS]; have := H2.out; rw [HMB.out] at this; exact this
  case hdone =>
    rintro D W' hD ⟨h1, h2, h3, h4, h5⟩ hK
    have hD' : w.heap.size ≤ D := by omega
    have f1 := cell_regrown h1.cell
    have f2 := cell_regrown h2.cell
    gi_wp2
    refine region_quiet_rg mixed (by kernel_rfl) ?_
    repeat (quiet_step_in (fail))
    refine wpQuietIn_nil ?_
    rintro _ ⟨⟨dq, osq⟩, rfl⟩
    gi_wp2
    have hK2 := below_block dq osq hK
    refine ⟨by simp, .inl ⟨_, _, rfl, run_takeDeferred hK2, ?_⟩⟩
    exact ⟨_, results_tmp2 rfl _ _ _, rfl, h5.trans (((below_regrown W' dq osq).mono h5.size).trans (belowK_b (w := w) (Nat.le_refl _) _ D _ _ hD' hK2 rfl rfl))⟩
end Go.Proofs.YtnmmglkigiakaaaGreat
