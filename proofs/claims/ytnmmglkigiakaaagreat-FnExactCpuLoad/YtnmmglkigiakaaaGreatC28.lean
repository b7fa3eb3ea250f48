/- The program: whether just those groups are On on a processor that are to be, and stand well. -/
import Derived.Test.YtnmmglkigiakaaaGreatC24
import Derived.Test.YtnmmglkigiakaaaGreatC25
namespace Go.Proofs.YtnmmglkigiakaaaGreat
set_option linter.unusedVariables false
set_option linter.unusedSimpArgs false
open Go.ChangeShapes Go.WideShapes Go.ChangeAt Go.RowKit Go.Shelf Go.Sort
attribute [local go_sem] Oper.semAt_some

/-! somebody has a least virtual time just if somebody stands there -/
theorem leastL_some : ∀ (l : List Int), (leastL l).2 = !l.isEmpty := by
  intro l
  have key : ∀ (l : List Int) (a : Int × Bool), (l.foldl lstep a).2 = (a.2 || !l.isEmpty) := by
    intro l
    induction l with
    | nil => intro a; simp
    | cons x l ih =>
      intro a
      rw [List.foldl_cons, ih]
      have : (lstep a x).2 = true := by
        unfold lstep
        split
        · rfl
        · rename_i h
          cases h2 : a.2
          · exact absurd (Or.inl h2) h
          · rfl
      rw [this]; simp
  rw [leastL, key]; simp
theorem groupsL_in {ds : List Gr} {g : Int} {c k : Nat} : k ∈ groupsL ds g c ↔ (k < ds.length ∧ k ≠ 0 ∧ actG ds g c k = true) := by
  unfold groupsL inners innerTo standG actG
  rw [List.mem_filter, List.mem_filter, List.mem_range]
  simp only [Bool.and_eq_true, decide_eq_true_eq]
  constructor
  · rintro ⟨⟨h1, h2, h3⟩, h4, h5⟩; exact ⟨h1, h3, h2, h4, h5⟩
  · rintro ⟨h1, h3, h2, h4, h5⟩; exact ⟨⟨h1, h2, h3⟩, h4, h5⟩
theorem active_eq (ts : List Tk) (ds : List Gr) (g : Int) (c : Nat) : (leastL (timesL ts ds g c)).2 = actB ts ds g c := by
  rw [leastL_some]
  cases ha : actB ts ds g c
  · unfold actB at ha
    simp only [Bool.or_eq_false_iff, decide_eq_false_iff_not] at ha
    have h1 : tasksL ts g (c : Int) = [] := List.eq_nil_iff_forall_not_mem.2 (fun k hk => ha.1 ⟨k, (in_tasks hk).1, (in_tasks hk).2⟩)
    have h2 : groupsL ds g c = [] := List.eq_nil_iff_forall_not_mem.2 (fun k hk => ha.2 ⟨k, (groupsL_in.1 hk).1, (groupsL_in.1 hk).2.1, (groupsL_in.1 hk).2.2⟩)
    unfold timesL timesT timesG
    rw [h1, h2]; rfl
  · unfold actB at ha
    rw [Bool.or_eq_true] at ha
    rw [Bool.not_eq_true', List.isEmpty_eq_false_iff]
    intro hnil
    unfold timesL timesT timesG at hnil
    rw [List.append_eq_nil_iff, List.map_eq_nil_iff, List.map_eq_nil_iff] at hnil
    rcases ha with h | h
    · obtain ⟨k, h1, h2⟩ := of_decide_eq_true h
      have : k ∈ tasksL ts g (c : Int) := by
        unfold tasksL taskTo
        rw [List.mem_filter, List.mem_range]
        exact ⟨h1, h2⟩
      rw [hnil.1] at this; cases this
    · obtain ⟨k, h1, h2, h3⟩ := of_decide_eq_true h
      have : k ∈ groupsL ds g c := groupsL_in.2 ⟨h1, h2, h3⟩
      rw [hnil.2] at this; cases this
/-- whether group k is On on processor c just as it is to be, and stands well then. -/
def baAt (ds : List Gr) (k : Nat) : Ba := ((ds[k]?).map (·.ba)).getD ⟨0, 0, 0, [], []⟩
theorem baAt_eq {gs : List Gv} {k : Nat} {e : Gv} (h : gs[k]? = some e) : baAt (gsD gs) k = e.d.ba := by unfold baAt; rw [gsD_at h]; rfl
def qkB (ts : List Tk) (ds : List Gr) (c k : Nat) : Bool := queueB ts ds c k (shAt ds k c) (baAt ds k)
set_option maxRecDepth 100000 in
set_option maxHeartbeats 16000000 in
theorem areQueuesOk_any (pw c : Nat) (u : Wv) (w : World) (hA : AtW w pw u) (hF : Fit u) (hc : c < u.cs.length) :
    Calls Tryz.prog 112 #[ptr pw, .int .i64 (c : Int)] w fun e w' => e = .returned (.bool ((inners (gsD u.gs)).all (qkB u.ts (gsD u.gs) c))) ∧ Below w.heap.size w w' := by
  have mixed : Tryz.prog.follows Departure.mixedOrders = true := by kernel_rfl
  have hfn : ∀ f, Fence.wide.fn f := fun _ => trivial
  refine (callsIn_wide (n := 9)).1 ?_
  refine callsIn_of_wp_marks Tryz.func112 rfl trivial ?_ rfl
  unfold ptr
  simp only [Tryz.ntmps112, List.size_toArray, List.length_cons, List.length_nil, Nat.reduceAdd, Nat.reduceSub, Array.replicate_succ, Array.replicate_zero, List.push_toArray, List.append_toArray, List.nil_append, List.cons_append]
  obtain ⟨W1, hW1⟩ : ∃ W1, w.alloc (.cells #[.bool false] 4) = W1 := ⟨_, rfl⟩
  have r1 : W1.heap[w.heap.size]? = some (.cells #[.bool false] 4 (0, 0)) := by rw [← hW1]; exact World.alloc_heap_new w _
  have B1 : Below w.heap.size w W1 := by rw [← hW1]; exact (Below.refl _ _).alloc (Nat.le_refl _) _
  have l1 : w.heap.size < W1.heap.size := by rw [← hW1]; simp
  gi_wp2_with (first | (gi_at_call 58; refine (calls_fw (mk_queues pw (c : Int) _)).mono ?_; rintro e' V ⟨rfl, hV⟩; simp only [qV, ptr]) | (gi_at_call 148; refine (calls_fw (mk_inner pw _)).mono ?_; rintro e' w' ⟨rfl, rfl⟩; simp only [ptr]))
  obtain ⟨X, hX⟩ : ∃ X, V.alloc (.cells #[.pointer (some ⟨pw, 0, none⟩), .int .i64 (c : Int)] 53) = X := ⟨_, rfl⟩
  have x0 : X.heap[V.heap.size]? = some (.cells #[.pointer (some ⟨pw, 0, none⟩), .int .i64 (c : Int)] 53 (0, 0)) := by rw [← hX]; exact World.alloc_heap_new V _
  have BX : Below V.heap.size V X := by rw [← hX]; exact (Below.refl _ _).alloc (Nat.le_refl _) _
  obtain ⟨Y, hY⟩ : ∃ Y, X.alloc (.cells #[.pointer (some ⟨pw, 0, none⟩)] 51) = Y := ⟨_, rfl⟩
  have y0 : Y.heap[X.heap.size]? = some (.cells #[.pointer (some ⟨pw, 0, none⟩)] 51 (0, 0)) := by rw [← hY]; exact World.alloc_heap_new X _
  have BY : Below X.heap.size X Y := by rw [← hY]; exact (Below.refl _ _).alloc (Nat.le_refl _) _
  have lY : X.heap.size < Y.heap.size := by rw [← hY]; simp
  simp only [hX, hY]
  clear hX hY hW1
  have wV : Below w.heap.size w V := B1.trans (hV.mono B1.size)
  have wX := wV.trans (BX.mono wV.size)
  have wY := wX.trans (BY.mono wX.size)
  have v1 := below_at BY (below_at BX (below_at hV r1))
  have v2 := below_at BY x0
  have hyY : w.heap.size < Y.heap.size := by have := hV.size; have := BX.size; omega
  refine range_own (xs := inners (gsD u.gs)) (encs := encN) (gf := 177) (lb := #[ptr X.heap.size]) (W0 := w) (G := fun W' => W'.cell? ⟨X.heap.size, 0, none⟩ = some (.pointer (some ⟨pw, 0, none⟩)) ∧ GroupsAt W' pw u.z (gsD u.gs))
    (inner_gives pw X.heap.size u.z (gsD u.gs) _ w (fun W' h => h)) wY.size rfl (enters_of Tryz.func177 (by kernel_rfl) rfl) (fun _ => rfl)
    (fun pre W' => (∀ k ∈ pre, qkB u.ts (gsD u.gs) c k = true) ∧ W'.heap[w.heap.size]? = some (.cells #[.bool false] 4 (0, 0)) ∧ QBox W' V.heap.size pw (c : Int) ∧ W'.heap[X.heap.size]? = some (.cells #[.pointer (some ⟨pw, 0, none⟩)] 51 (0, 0)) ∧ Below w.heap.size w W')
    (fun cc pre W' => cc = .ret ∧ (∃ k ∈ inners (gsD u.gs), qkB u.ts (gsD u.gs) c k = false) ∧ W'.heap[w.heap.size]? = some (.cells #[.bool false] 4 (0, 0)) ∧ Below w.heap.size w W')
    (fun pre x a' W' => ((∀ k ∈ pre, qkB u.ts (gsD u.gs) c k = true) ∧ W'.heap[w.heap.size]? = some (.cells #[.bool false] 4 (0, 0)) ∧ QBox W' V.heap.size pw (c : Int) ∧ W'.heap[X.heap.size]? = some (.cells #[.pointer (some ⟨pw, 0, none⟩)] 51 (0, 0)) ∧ Below w.heap.size w W') ∧ a' = { tmps := #[.pointer (some ⟨pw, 0, none⟩), .int .i64 (c : Int), undef, undef, .pointer (some ⟨w.heap.size, 0, none⟩), .pointer (some ⟨V.heap.size, 0, none⟩), .int .i64 (x : Int), undef, .pointer (some ⟨pw, 0, none⟩), .int .i64 (c : Int), .agg #[.pointer (some ⟨pw, 0, none⟩), .int .i64 (c : Int)], .pointer (some ⟨pw, 0, none⟩), .func (.func 177) #[] #[ptr X.heap.size], .int .i64 (x : Int), undef, undef, undef, undef, undef, undef, undef, undef, undef, undef, undef, undef, undef, undef, undef, undef, undef, undef, undef, undef], defers := [] })
    (fun pre W' hi => ⟨(Msk.cell_of_box_l hi.2.2.2.1).1, (hA.below hi.2.2.2.2).groups⟩)
    ?hI ?hIx ?hA ⟨fun j hj => (by cases hj), v1, v2, y0, wY⟩ ?hassign ?hbody ?hdone ?hstop
  case hI => exact OwnFrom.and (ownFrom_pure _ _) (OwnFrom.and (own_block _ _ _ rfl) (OwnFrom.and (own_block _ _ _ rfl) (OwnFrom.and (own_block _ _ _ rfl) (ownFrom_below (Nat.le_refl _) wY.size))))
  case hIx => exact fun cc => OwnFrom.and (ownFrom_pure _ _) (OwnFrom.and (ownFrom_pure _ _) (OwnFrom.and (own_block _ _ _ rfl) (ownFrom_below (Nat.le_refl _) wY.size)))
  case hA => exact fun pre x a' => OwnFrom.and (OwnFrom.and (ownFrom_pure _ _) (OwnFrom.and (own_block _ _ _ rfl) (OwnFrom.and (own_block _ _ _ rfl) (OwnFrom.and (own_block _ _ _ rfl) (ownFrom_below (Nat.le_refl _) wY.size))))) (ownFrom_pure _ _)
  case hassign =>
    intro l' pre x post W' hx hi
    unfold encN
    gi_wp2
    first | exact ⟨KeepsUp.refl _ _, hi, trivial⟩ | exact ⟨KeepsUp.refl _ _, hi, rfl⟩
  case hbody =>
    rintro l' pre x post a' W' hx hl' ⟨⟨hp, h2, h3, h4, h6⟩, rfl⟩
    have hin : x ∈ inners (gsD u.gs) := by rw [hx]; simp
    obtain ⟨i1, i2, i3⟩ := in_inners hin
    rw [gsD_length, hF.g8] at i1
    have AW := hA.below h6
    obtain ⟨ea, zg, zo, zc, hea, hpa, hz, hsh, hrow⟩ := AW.group (k := x) (by rw [hF.g8]; exact i1) i2 (hF.ok hc)
    obtain ⟨j, hpj, hj8, huj⟩ : ∃ j : Nat, paAt (gsD u.gs) x = (j : Int) ∧ j < 8 ∧ usAt (gsD u.gs) j = true := by
      rcases tree_step hF.tree i1 i2 with ⟨rfl, _⟩ | ⟨_, j, hp, hj, uj, _⟩
      · exact absurd rfl i3
      · exact ⟨j, hp, hj, uj⟩
    obtain ⟨eb, yg, yo, yc, heb, _, hy, hsb, hrb⟩ := AW.group (k := j) (by rw [hF.g8]; exact hj8) huj (hF.ok hc)
    obtain ⟨_, s1, _⟩ := sh_cells hrow
    have ls := block_lt_of_cell s1
    have hdr : 0 < ea.d.ba.qu → c < ea.d.ba.dr.length := fun h => by rw [hF.dr x ea hea h]; exact hc
    obtain ⟨q0, q1⟩ := h3.cells
    have lq : V.heap.size < W'.heap.size := block_lt_of_cell q0
    have acc : Below W'.heap.size W' W' := Below.refl _ _
    have HW : Hid (AtW W' pw u) := AW
    have HP : Hid (∀ j ∈ pre, qkB u.ts (gsD u.gs) c j = true) := hp
    obtain ⟨st, hst⟩ : ∃ b, (actB u.ts (gsD u.gs) (x : Int) c && !dryB ea.d.ba c) = b := ⟨_, rfl⟩
    obtain ⟨wi, hwi⟩ : ∃ b, withinB (shAt (gsD u.gs) x c).v (shAt (gsD u.gs) j c).fl (vstep 149 (shAt (gsD u.gs) x c).w) = b := ⟨_, rfl⟩
    obtain ⟨on, hon⟩ : ∃ b, (shAt (gsD u.gs) x c).on = b := ⟨_, rfl⟩
    have HTS : Hid (((leastL (timesL u.ts (gsD u.gs) (x : Int) c)).2 && !dryB ea.d.ba c) = st) := by unfold Hid; rw [active_eq]; exact hst
    have HGW : Hid (withinB (shAt (gsD u.gs) x c).v (shAt (gsD u.gs) j c).fl (vstep 149 (shAt (gsD u.gs) x c).w) = wi) := hwi
    have HQ0 : qkB u.ts (gsD u.gs) c x = ((on == st) && (!on || wi)) := by unfold qkB queueB; rw [baAt_eq hea, hst, hon, hpj, Int.toNat_natCast, hwi]
    rw [hon] at s1
    unfold QBox at h3
    clear hst hwi hon hp AW hx hrow hrb hl'
    cases on
    · cases st
      · have HQ : Hid (qkB u.ts (gsD u.gs) c x = true) := by unfold Hid; rw [HQ0]; rfl
        clear HQ0
        gi_wp2_with (first | (gi_at_call 149; refine (calls_fw (shelf_any pw x c u ea _ zg zo zc _ (hA.below h6) hea hsh hz)).mono ?_; rintro e' V1 ⟨rfl, hb1⟩; simp only [ptrO]; have s1 := (hb1.cell ls).trans s1; have q0 := (hb1.cell lq).trans q0; have q1 := (hb1.cell lq).trans q1; replace acc := acc.trans (hb1.mono acc.size); have hc3 := (Msk.cell_of_box_l (below_at acc h2)).1; have hf3 := (Msk.cell_of_box_l (below_at acc h2)).2; have lq := Nat.lt_of_lt_of_le lq hb1.size; clear hb1) | (gi_at_call 150; refine (calls_fw (toStand_any pw c x u ea _ (HW.out.below acc) (hF.ok hc) hea hdr)).mono ?_; rintro e' V2 ⟨rfl, hb1⟩; rw [HTS.out]; have q0 := (hb1.cell lq).trans q0; have q1 := (hb1.cell lq).trans q1; replace acc := acc.trans (hb1.mono acc.size); have hc3 := (Msk.cell_of_box_l (below_at acc h2)).1; have hf3 := (Msk.cell_of_box_l (below_at acc h2)).2; have lq := Nat.lt_of_lt_of_le lq hb1.size; clear hb1))
        all_goals first
        | exact absurd ‹some undef = some (Value.bool _)› (by simp [undef])
        | (refine ⟨KeepsUp.below acc, fun q hq => ?_, below_at acc h2, below_at acc h3, below_at acc h4, h6.trans (acc.mono h6.size)⟩
           rcases List.mem_append.1 hq with hq | hq
           · exact HP.out q hq
           · obtain rfl : q = x := by simpa using hq
             exact HQ.out)
      · have HQ : Hid (qkB u.ts (gsD u.gs) c x = false) := by unfold Hid; rw [HQ0]; rfl
        clear HQ0
        gi_wp2_with (first | (gi_at_call 149; refine (calls_fw (shelf_any pw x c u ea _ zg zo zc _ (hA.below h6) hea hsh hz)).mono ?_; rintro e' V1 ⟨rfl, hb1⟩; simp only [ptrO]; have s1 := (hb1.cell ls).trans s1; have q0 := (hb1.cell lq).trans q0; have q1 := (hb1.cell lq).trans q1; replace acc := acc.trans (hb1.mono acc.size); have hc3 := (Msk.cell_of_box_l (below_at acc h2)).1; have hf3 := (Msk.cell_of_box_l (below_at acc h2)).2; have lq := Nat.lt_of_lt_of_le lq hb1.size; clear hb1) | (gi_at_call 150; refine (calls_fw (toStand_any pw c x u ea _ (HW.out.below acc) (hF.ok hc) hea hdr)).mono ?_; rintro e' V2 ⟨rfl, hb1⟩; rw [HTS.out]; have q0 := (hb1.cell lq).trans q0; have q1 := (hb1.cell lq).trans q1; replace acc := acc.trans (hb1.mono acc.size); have hc3 := (Msk.cell_of_box_l (below_at acc h2)).1; have hf3 := (Msk.cell_of_box_l (below_at acc h2)).2; have lq := Nat.lt_of_lt_of_le lq hb1.size; clear hb1))
        all_goals first
        | exact absurd ‹some undef = some (Value.bool _)› (by simp [undef])
        | (have r2 := below_at acc h2
           exact ⟨(KeepsUp.below acc).trans (KeepsUp.set _ _ _ hyY), rfl, ⟨x, hin, HQ.out⟩, (show Boxed _ _ _ _ from r2).set _, (h6.trans (acc.mono h6.size)).setCell (p := ⟨w.heap.size, 0, none⟩) (by simp) _⟩)
    · cases st
      · have HQ : Hid (qkB u.ts (gsD u.gs) c x = false) := by unfold Hid; rw [HQ0]; rfl
        clear HQ0
        gi_wp2_with (first | (gi_at_call 149; refine (calls_fw (shelf_any pw x c u ea _ zg zo zc _ (hA.below h6) hea hsh hz)).mono ?_; rintro e' V1 ⟨rfl, hb1⟩; simp only [ptrO]; have s1 := (hb1.cell ls).trans s1; have q0 := (hb1.cell lq).trans q0; have q1 := (hb1.cell lq).trans q1; replace acc := acc.trans (hb1.mono acc.size); have hc3 := (Msk.cell_of_box_l (below_at acc h2)).1; have hf3 := (Msk.cell_of_box_l (below_at acc h2)).2; have lq := Nat.lt_of_lt_of_le lq hb1.size; clear hb1) | (gi_at_call 150; refine (calls_fw (toStand_any pw c x u ea _ (HW.out.below acc) (hF.ok hc) hea hdr)).mono ?_; rintro e' V2 ⟨rfl, hb1⟩; rw [HTS.out]; have q0 := (hb1.cell lq).trans q0; have q1 := (hb1.cell lq).trans q1; replace acc := acc.trans (hb1.mono acc.size); have hc3 := (Msk.cell_of_box_l (below_at acc h2)).1; have hf3 := (Msk.cell_of_box_l (below_at acc h2)).2; have lq := Nat.lt_of_lt_of_le lq hb1.size; clear hb1))
        all_goals first
        | exact absurd ‹some undef = some (Value.bool _)› (by simp [undef])
        | (have r2 := below_at acc h2
           exact ⟨(KeepsUp.below acc).trans (KeepsUp.set _ _ _ hyY), rfl, ⟨x, hin, HQ.out⟩, (show Boxed _ _ _ _ from r2).set _, (h6.trans (acc.mono h6.size)).setCell (p := ⟨w.heap.size, 0, none⟩) (by simp) _⟩)
      · cases wi
        · have HQ : Hid (qkB u.ts (gsD u.gs) c x = false) := by unfold Hid; rw [HQ0]; rfl
          clear HQ0
          gi_wp2_with (first | (gi_at_call 149; refine (calls_fw (shelf_any pw x c u ea _ zg zo zc _ (hA.below h6) hea hsh hz)).mono ?_; rintro e' V1 ⟨rfl, hb1⟩; simp only [ptrO]; have s1 := (hb1.cell ls).trans s1; have q0 := (hb1.cell lq).trans q0; have q1 := (hb1.cell lq).trans q1; replace acc := acc.trans (hb1.mono acc.size); have hc3 := (Msk.cell_of_box_l (below_at acc h2)).1; have hf3 := (Msk.cell_of_box_l (below_at acc h2)).2; have lq := Nat.lt_of_lt_of_le lq hb1.size; clear hb1) | (gi_at_call 150; refine (calls_fw (toStand_any pw c x u ea _ (HW.out.below acc) (hF.ok hc) hea hdr)).mono ?_; rintro e' V2 ⟨rfl, hb1⟩; rw [HTS.out]; have q0 := (hb1.cell lq).trans q0; have q1 := (hb1.cell lq).trans q1; replace acc := acc.trans (hb1.mono acc.size); have hc3 := (Msk.cell_of_box_l (below_at acc h2)).1; have hf3 := (Msk.cell_of_box_l (below_at acc h2)).2; have lq := Nat.lt_of_lt_of_le lq hb1.size; clear hb1) | (gi_at_call 151; refine (calls_fw (groupWithin_any pw c x j 149 u ea eb _ _ _ (HW.out.below acc) hea hsh (hpa.trans hpj) heb hsb)).mono ?_; rintro e' V3 ⟨rfl, hb1⟩; rw [HGW.out]; replace acc := acc.trans (hb1.mono acc.size); have hc3 := (Msk.cell_of_box_l (below_at acc h2)).1; have hf3 := (Msk.cell_of_box_l (below_at acc h2)).2; clear hb1))
          all_goals first
          | exact absurd ‹some undef = some (Value.bool _)› (by simp [undef])
          | (have r2 := below_at acc h2
             exact ⟨(KeepsUp.below acc).trans (KeepsUp.set _ _ _ hyY), rfl, ⟨x, hin, HQ.out⟩, (show Boxed _ _ _ _ from r2).set _, (h6.trans (acc.mono h6.size)).setCell (p := ⟨w.heap.size, 0, none⟩) (by simp) _⟩)
        · have HQ : Hid (qkB u.ts (gsD u.gs) c x = true) := by unfold Hid; rw [HQ0]; rfl
          clear HQ0
          gi_wp2_with (first | (gi_at_call 149; refine (calls_fw (shelf_any pw x c u ea _ zg zo zc _ (hA.below h6) hea hsh hz)).mono ?_; rintro e' V1 ⟨rfl, hb1⟩; simp only [ptrO]; have s1 := (hb1.cell ls).trans s1; have q0 := (hb1.cell lq).trans q0; have q1 := (hb1.cell lq).trans q1; replace acc := acc.trans (hb1.mono acc.size); have hc3 := (Msk.cell_of_box_l (below_at acc h2)).1; have hf3 := (Msk.cell_of_box_l (below_at acc h2)).2; have lq := Nat.lt_of_lt_of_le lq hb1.size; clear hb1) | (gi_at_call 150; refine (calls_fw (toStand_any pw c x u ea _ (HW.out.below acc) (hF.ok hc) hea hdr)).mono ?_; rintro e' V2 ⟨rfl, hb1⟩; rw [HTS.out]; have q0 := (hb1.cell lq).trans q0; have q1 := (hb1.cell lq).trans q1; replace acc := acc.trans (hb1.mono acc.size); have hc3 := (Msk.cell_of_box_l (below_at acc h2)).1; have hf3 := (Msk.cell_of_box_l (below_at acc h2)).2; have lq := Nat.lt_of_lt_of_le lq hb1.size; clear hb1) | (gi_at_call 151; refine (calls_fw (groupWithin_any pw c x j 149 u ea eb _ _ _ (HW.out.below acc) hea hsh (hpa.trans hpj) heb hsb)).mono ?_; rintro e' V3 ⟨rfl, hb1⟩; rw [HGW.out]; replace acc := acc.trans (hb1.mono acc.size); have hc3 := (Msk.cell_of_box_l (below_at acc h2)).1; have hf3 := (Msk.cell_of_box_l (below_at acc h2)).2; clear hb1))
          all_goals first
          | exact absurd ‹some undef = some (Value.bool _)› (by simp [undef])
          | (refine ⟨KeepsUp.below acc, fun q hq => ?_, below_at acc h2, below_at acc h3, below_at acc h4, h6.trans (acc.mono h6.size)⟩
             rcases List.mem_append.1 hq with hq | hq
             · exact HP.out q hq
             · obtain rfl : q = x := by simpa using hq
               exact HQ.out)
  case hdone =>
    rintro D W' hD ⟨hp, h2, h3, h4, h6⟩ hK
    have hc3 := (Msk.cell_of_box_l h2).1
    have hf3 := (Msk.cell_of_box_l h2).2
    have HP : Hid ((inners (gsD u.gs)).all (qkB u.ts (gsD u.gs) c) = true) := List.all_eq_true.2 (fun j hj => hp j hj)
    have hD' : w.heap.size ≤ D := Nat.le_trans wY.size hD
    have hne : D ≠ w.heap.size := by omega
    have hK' : (W'.setCell ⟨w.heap.size, 0, none⟩ (.bool true)).heap[D]? = some (.deferred (some [])) := by rw [Deep.blk_setCell_other _ _ _ _ hne]; exact hK
    have hb' : Boxed ((W'.setCell ⟨w.heap.size, 0, none⟩ (.bool true)).putObj D (.deferred none)) w.heap.size 4 (.bool true) := (World.putObj_heap_other (Ne.symm hne)).trans ((show Boxed _ _ _ _ from h2).set _)
    have hcr := hb'.cell
    clear hp h2 h3 h4 v1 v2 x0 y0 r1
    gi_wp2
    refine ⟨by simp, .inl ⟨_, _, rfl, run_takeDeferred hK', ?_⟩⟩
    refine ⟨.bool true, ?_, by rw [HP.out], (h6.setCell (p := ⟨w.heap.size, 0, none⟩) (by simp) _).trans (belowK_b (w := w) (Nat.le_refl _) _ D _ _ hD' hK' rfl rfl)⟩
    simp [results, Tryz.f112, go_sem, hcr]
  case hstop =>
    rintro D cc pre W' hD ⟨rfl, ⟨j, hj, hoff⟩, h2, h6⟩ hK
    have hD' : w.heap.size ≤ D := Nat.le_trans wY.size hD
    have hne : D ≠ w.heap.size := by omega
    have HP : Hid ((inners (gsD u.gs)).all (qkB u.ts (gsD u.gs) c) = false) := by
      unfold Hid
      rw [← Bool.not_eq_true, List.all_eq_true]
      intro hal
      have := hal j hj
      rw [hoff] at this; cases this
    have hb' : Boxed (W'.putObj D (.deferred none)) w.heap.size 4 (.bool false) := (World.putObj_heap_other (Ne.symm hne)).trans h2
    have hcr := hb'.cell
    clear v1 v2 x0 y0 r1
    gi_wp2
    refine ⟨by simp, .inl ⟨_, _, rfl, run_takeDeferred hK, ?_⟩⟩
    refine ⟨.bool false, ?_, by rw [HP.out], h6.trans (belowK_b (w := w) (Nat.le_refl _) _ D _ _ hD' hK rfl rfl)⟩
    simp [results, Tryz.f112, go_sem, hcr]
end Go.Proofs.YtnmmglkigiakaaaGreat
