/- The program: the members of a set, one behind the other; who has more to do; the best of a set. The program: who has more to do; the best of a set. The program: the best of a set by the loads. -/
import Derived.Test.YtnmmglkigiakaaaGreatD22
import Derived.Test.YtnmmglkigiakaaaGreatD30
namespace Go.Proofs.YtnmmglkigiakaaaGreat
set_option maxRecDepth 100000
set_option maxHeartbeats 32000000
set_option linter.unusedVariables false
set_option linter.unusedSimpArgs false
open Go.ChangeShapes Go.WideShapes Go.ChangeAt Go.RowKit Go.Shelf Go.Sort
attribute [local go_sem] Oper.semAt_some
def memL (m : Int) : List Nat := pickTo (fun b => Msk.hasB m ((b : Nat) : Int)) 4
theorem memL_lt {m : Int} {b : Nat} (h : b ∈ memL m) : b < 4 ∧ Msk.hasB m (b : Int) = true := pickTo_mem h
theorem members_gives (Bn : Nat) (m : Int) (hm : SetIn m) (G : World → Prop) (W0 : World) (hG : ∀ W, G W → W.cell? ⟨Bn, 0, none⟩ = some (.int .i64 m)) :
    Gives Tryz.prog 131 #[.pointer (some ⟨Bn, 0, none⟩)] encN (memL m) G W0 := by
  intro l J Jx W hW hJG hJ hJx hY h0
  refine (callsIn_wide (n := 9)).1 ?_
  refine callsIn_of_wp Tryz.func131 rfl trivial ?_ rfl
  simp only [Tryz.ntmps131, List.size_toArray, List.length_cons, List.length_nil, Nat.reduceAdd, Nat.reduceSub, Array.replicate_succ, Array.replicate_zero, List.push_toArray, List.append_toArray, List.nil_append, List.cons_append]
  have hfn : ∀ f, Fence.wide.fn f := fun _ => trivial
  have HG : Hid (∀ wr pre, J pre wr → wr.cell? ⟨Bn, 0, none⟩ = some (.int .i64 m)) := fun wr pre hj => hG _ (hJG _ _ hj)
  have c0 := HG.out _ _ h0
  have HJ := KeepsUp.refl W.heap.size W
  gi_wp2
  clear c0
  gi_loopw [4] (fun i wr => ∃ k : Nat, k ≤ 4 ∧ i = .int .i64 (k : Int) ∧ J (pickTo (fun b => Msk.hasB m ((b : Nat) : Int)) k) wr ∧ KeepsUp W.heap.size W wr)
    (fun i _ => 4 - (intOf i).toNat)
  case atStart => exact ⟨0, by omega, rfl, h0, HJ⟩
  case round =>
    obtain ⟨k, hk, rfl, hJs, hkf⟩ := hrel
    by_cases hlt : k < 4
    · have c0 := HG.out _ _ hJs
      have hq := Msk.set_has m (k : Int)
      have HK : Hid (J (pickTo (fun b => Msk.hasB m ((b : Nat) : Int)) k) wr) := hJs
      have HKF : Hid (KeepsUp W.heap.size W wr) := hkf
      have hlt' : (k : Int) < 4 := by omega
      cases hh : Msk.hasB m (k : Int)
      · have HX : Hid (pickTo (fun b => Msk.hasB m ((b : Nat) : Int)) (k + 1) = pickTo (fun b => Msk.hasB m ((b : Nat) : Int)) k) := pickTo_no hh
        rw [hh] at hq
        clear hh hJs hkf
        gi_wp2_with (gi_at_call 47; refine (calls_fw (hq _ hm.1 hm.2)).mono ?_; rintro e w1 ⟨rfl, rfl⟩)
        first
          | exact ⟨⟨k + 1, by omega, by go_num, by rw [HX.out]; exact HK.out, HKF.out⟩, by simp [intOf]; omega⟩
          | (refine ⟨fun _ h => (by cases h), ?_⟩
             gi_wp2
             go_roundw
             case rel => exact ⟨k + 1, by omega, by go_num, by rw [HX.out]; exact HK.out, HKF.out⟩
             case measure => simp [intOf]; omega)
      · have HX : Hid (pickTo (fun b => Msk.hasB m ((b : Nat) : Int)) (k + 1) = pickTo (fun b => Msk.hasB m ((b : Nat) : Int)) k ++ [k]) := pickTo_yes hh
        obtain ⟨post, hpost⟩ := pickTo_pre (fun b => Msk.hasB m ((b : Nat) : Int)) (k := k + 1) (n := 4) (by omega)
        rw [HX.out, List.append_assoc] at hpost
        obtain ⟨fn, tmps, assign, body, hy, hR⟩ := hY (pickTo (fun b => Msk.hasB m ((b : Nat) : Int)) k) k post wr hpost HK.out
        have hR := hR none 8
        unfold encN at hy
        rw [hh] at hq
        clear hh hJs hkf hpost
        gi_wp2_with (gi_at_call 47; refine (calls_fw (hq _ hm.1 hm.2)).mono ?_; rintro e w1 ⟨rfl, rfl⟩)
        refine hR.mono ?_
        rintro e' W3 ⟨hk3, (⟨rfl, hJ3⟩ | ⟨rfl, hJx3⟩)⟩
        · have c3 := HG.out _ _ hJ3
          gi_wp2
          go_roundw
          case rel => exact ⟨k + 1, by omega, by go_num, by rw [HX.out]; exact hJ3, HKF.out.trans hk3⟩
          case measure => simp [intOf]; omega
        · gi_wp2
          refine bodyPost_ret (results_none rfl _ _ _) rfl ?_
          exact ⟨⟨_, rfl⟩, HKF.out.trans hk3, .inr ⟨_, hJx3⟩⟩
    · obtain rfl : k = 4 := by omega
      gi_wp2
      go_end0
      exact ⟨⟨_, rfl⟩, hkf, .inl hJs⟩
theorem better_any (pw bp c pg po a b : Nat) (u : Wv) (w : World) (hP : PBox w bp pw (c : Int) pg po) (hA : AtW w pw u) (hF : Fit u) (hT : TFit u) (ha : a < u.cs.length) (hb : b < u.cs.length) :
    Calls Tryz.prog 92 #[.int .i64 (a : Int), .int .i64 (b : Int), .pointer (some ⟨bp, 0, none⟩)] w fun e w' => e = .returned (.bool (decide (loadN u b < loadN u a))) ∧ Below w.heap.size w w' := by
  obtain ⟨xa, hxa⟩ := row_get ha
  obtain ⟨xb, hxb⟩ := row_get hb
  obtain ⟨g0, o0, n0, cap0, hz0⟩ : ∃ g0 o0 n0 cap0, u.x = .slice (some ⟨g0, o0, none⟩) n0 cap0 := by
    obtain ⟨p, cap, hp, _, hr⟩ := hA.rowC
    obtain ⟨g, o, rfl, _⟩ := hr a xa hxa
    exact ⟨g, o, _, cap, hp⟩
  obtain ⟨q0, q1, q2⟩ := hP.cells
  obtain ⟨oa, hoa⟩ : ∃ n, o0 + a * 5 = n := ⟨_, rfl⟩
  obtain ⟨ob, hob⟩ : ∃ n, o0 + b * 5 = n := ⟨_, rfl⟩
  have k0 := cell_regrown q0
  obtain ⟨la, hla⟩ : ∃ n, loadN u a = n := ⟨_, rfl⟩
  obtain ⟨lb, hlb⟩ : ∃ n, loadN u b = n := ⟨_, rfl⟩
  have cA : ∀ d os, Calls Tryz.prog 39 #[.pointer (some ⟨pw, 0, none⟩), .int .i64 (a : Int)] (grow (redrawn w d) os) fun e' w'' => e' = .returned (.agg #[.pointer (some ⟨pw, 0, none⟩), .int .i64 (a : Int), .pointer (some ⟨g0, oa, none⟩)]) ∧ ∃ p : Regrown, w'' = grow (redrawn w p.d) p.os := fun d os =>
    Calls.regrown_of ((procAt_fix pw a g0 o0 n0 cap0 u xa _ (hA.below (below_regrown w d os)) hxa hz0).mono fun e' w' h => ⟨by have := h.1; rw [hoa] at this; unfold prV ptr ptrO at this; exact this, h.2.2.2⟩)
  have cB : ∀ d os, Calls Tryz.prog 39 #[.pointer (some ⟨pw, 0, none⟩), .int .i64 (b : Int)] (grow (redrawn w d) os) fun e' w'' => e' = .returned (.agg #[.pointer (some ⟨pw, 0, none⟩), .int .i64 (b : Int), .pointer (some ⟨g0, ob, none⟩)]) ∧ ∃ p : Regrown, w'' = grow (redrawn w p.d) p.os := fun d os =>
    Calls.regrown_of ((procAt_fix pw b g0 o0 n0 cap0 u xb _ (hA.below (below_regrown w d os)) hxb hz0).mono fun e' w' h => ⟨by have := h.1; rw [hob] at this; unfold prV ptr ptrO at this; exact this, h.2.2.2⟩)
  have cLA : ∀ d os, Calls Tryz.prog 40 #[.agg #[.pointer (some ⟨pw, 0, none⟩), .int .i64 (a : Int), .pointer (some ⟨g0, oa, none⟩)]] (grow (redrawn w d) os) fun e' w'' => e' = .returned (.int .i64 la) ∧ ∃ p : Regrown, w'' = grow (redrawn w p.d) p.os := fun d os => by
    have h0 := load_any pw a g0 oa u _ (hA.below (below_regrown w d os)) hF hT ha
    unfold prV ptr ptrO at h0
    rw [hla] at h0
    exact Calls.regrown_of h0
  have cLB : ∀ d os, Calls Tryz.prog 40 #[.agg #[.pointer (some ⟨pw, 0, none⟩), .int .i64 (b : Int), .pointer (some ⟨g0, ob, none⟩)]] (grow (redrawn w d) os) fun e' w'' => e' = .returned (.int .i64 lb) ∧ ∃ p : Regrown, w'' = grow (redrawn w p.d) p.os := fun d os => by
    have h0 := load_any pw b g0 ob u _ (hA.below (below_regrown w d os)) hF hT hb
    unfold prV ptr ptrO at h0
    rw [hlb] at h0
    exact Calls.regrown_of h0
  rw [hla, hlb]
  clear hA hP hxa hxb hz0 q0 q1 q2 hla hlb hoa hob
  by_cases hlt : lb < la
  · have HX : Hid (decide (lb < la) = true) := decide_eq_true hlt
    go_enter Tryz.func92, Tryz.ntmps92
    go_wp2
    refine wp_region_quiet_below (by kernel_rfl) (by kernel_rfl) ?_
    go_big_quiet_step (exact cA _ _)
    go_big_quiet_step (exact cA _ _)
    go_big_quiet_step (exact cA _ _)
    go_big_quiet_step (exact cA _ _)
    go_big_quiet_step (exact cA _ _)
    go_big_quiet_step (exact cLA _ _)
    go_big_quiet_step (exact cB _ _)
    go_big_quiet_step (exact cB _ _)
    go_big_quiet_step (exact cB _ _)
    go_big_quiet_step (exact cB _ _)
    go_big_quiet_step (exact cB _ _)
    go_big_quiet_step (exact cLB _ _)
    go_big_quiet_step (exact cLB _ _)
    go_big_quiet_step (exact cLB _ _)
    refine wpQuiet_nil ?_
    rintro _ ⟨⟨dq, osq⟩, rfl⟩
    go_wp2
    go_ret
    exact ⟨by rw [HX.out] <;> first | rfl | simp [hlt], below_regrown w dq osq⟩
  · have HX : Hid (decide (lb < la) = false) := decide_eq_false hlt
    go_enter Tryz.func92, Tryz.ntmps92
    go_wp2
    refine wp_region_quiet_below (by kernel_rfl) (by kernel_rfl) ?_
    go_big_quiet_step (exact cA _ _)
    go_big_quiet_step (exact cA _ _)
    go_big_quiet_step (exact cA _ _)
    go_big_quiet_step (exact cA _ _)
    go_big_quiet_step (exact cA _ _)
    go_big_quiet_step (exact cLA _ _)
    go_big_quiet_step (exact cB _ _)
    go_big_quiet_step (exact cB _ _)
    go_big_quiet_step (exact cB _ _)
    go_big_quiet_step (exact cB _ _)
    go_big_quiet_step (exact cB _ _)
    go_big_quiet_step (exact cLB _ _)
    go_big_quiet_step (exact cLB _ _)
    go_big_quiet_step (exact cLB _ _)
    refine wpQuiet_nil ?_
    rintro _ ⟨⟨dq, osq⟩, rfl⟩
    go_wp2
    go_ret
    exact ⟨by rw [HX.out] <;> first | rfl | simp [hlt], below_regrown w dq osq⟩

def fbstep (better : Nat → Nat → Bool) (acc : Nat × Bool) (x : Nat) : Nat × Bool := if acc.2 = false ∨ better x acc.1 = true then (x, true) else acc
def fbL (better : Nat → Nat → Bool) (l : List Nat) : Nat × Bool := l.foldl (fbstep better) (0, false)
theorem fbL_snoc (better : Nat → Nat → Bool) (l : List Nat) (x : Nat) : fbL better (l ++ [x]) = fbstep better (fbL better l) x := by unfold fbL; rw [List.foldl_append]; rfl
theorem fb_mem_aux (better : Nat → Nat → Bool) (xs : List Nat) : ∀ (l : List Nat) (acc : Nat × Bool), (∀ x ∈ l, x ∈ xs) → (acc.2 = true → acc.1 ∈ xs) → (l.foldl (fbstep better) acc).2 = true → (l.foldl (fbstep better) acc).1 ∈ xs := by
  intro l
  induction l with
  | nil => intro acc _ h h2; exact h h2
  | cons x l ih =>
    intro acc h h1 h2
    refine ih (fbstep better acc x) (fun y hy => h y (by simp [hy])) ?_ h2
    intro h3
    unfold fbstep at h3 ⊢
    split
    · exact h x (by simp)
    · rename_i hn
      rw [if_neg hn] at h3
      exact h1 h3
theorem fbL_mem (better : Nat → Nat → Bool) (xs l : List Nat) (h : ∀ x ∈ l, x ∈ xs) (h2 : (fbL better l).2 = true) : (fbL better l).1 ∈ xs := fb_mem_aux better xs l (0, false) h (fun h => by cases h) h2
def byLoad (u : Wv) (a b : Nat) : Bool := decide (loadN u b < loadN u a)
theorem firstBest_load (pw bp c pg po Bn : Nat) (m : Int) (u : Wv) (w : World) (hm : SetIn m) (hms : ∀ b ∈ memL m, b < u.cs.length) (hN : w.cell? ⟨Bn, 0, none⟩ = some (.int .i64 m)) (hP : PBox w bp pw (c : Int) pg po) (hA : AtW w pw u) (hF : Fit u) (hT : TFit u) :
    Calls Tryz.prog 89 #[.func (.func 131) #[] #[.pointer (some ⟨Bn, 0, none⟩)], .func (.func 92) #[] #[.pointer (some ⟨bp, 0, none⟩)]] w fun e w' =>
      e = .returned (.tuple #[.int .i64 ((fbL (byLoad u) (memL m)).1 : Int), .bool (fbL (byLoad u) (memL m)).2]) ∧ Below w.heap.size w w' := by
  have mixed : Tryz.prog.follows Departure.mixedOrders = true := by kernel_rfl
  have hfn : ∀ f, Fence.wide.fn f := fun _ => trivial
  have hlN := block_lt_of_cell hN
  simp only [] at hlN
  have hlP : bp < w.heap.size := (Array.getElem?_eq_some_iff.1 hP).1
  have HI : Hid (∀ (a b : Nat) W, a ∈ memL m → b ∈ memL m → Below w.heap.size w W → Calls Tryz.prog 92 #[.int .i64 (a : Int), .int .i64 (b : Int), .pointer (some ⟨bp, 0, none⟩)] W fun e w' => e = .returned (.bool (byLoad u a b)) ∧ Below W.heap.size W w') :=
    fun a b W ha hb hW => better_any pw bp c pg po a b u W ((hW.block bp hlP).trans hP) (hA.below hW) hF hT (hms a ha) (hms b hb)
  refine (callsIn_wide (n := 9)).1 ?_
  refine callsIn_of_wp_marks Tryz.func89 rfl trivial ?_ rfl
  simp only [Tryz.ntmps89, List.size_toArray, List.length_cons, List.length_nil, Nat.reduceAdd, Nat.reduceSub, Array.replicate_succ, Array.replicate_zero, List.push_toArray, List.append_toArray, List.nil_append, List.cons_append]
  gi_wp2
  obtain ⟨w1, hw1⟩ : ∃ w1, (((w.alloc (.cells #[.func (.func 92) #[] #[.pointer (some ⟨bp, 0, none⟩)]] 111)).alloc (.cells #[.int .i64 0] 3)).alloc (.cells #[.bool false] 4)) = w1 := ⟨_, rfl⟩
  obtain ⟨z0, z1, z2, z3, z6⟩ := blocks3 hw1
  simp only [hw1]
  clear hw1
  refine range_own_j (xs := memL m) (encs := encN) (gf := 131) (lb := #[.pointer (some ⟨Bn, 0, none⟩)]) (W0 := w) (G := fun W' => W'.cell? ⟨Bn, 0, none⟩ = some (.int .i64 m))
    (members_gives Bn m hm _ w (fun W' h => h)) (by omega) rfl (enters_of Tryz.func131 (by kernel_rfl) rfl) (fun _ => rfl)
    (fun pre W' => W'.heap[w.heap.size]? = some (.cells #[.func (.func 92) #[] #[.pointer (some ⟨bp, 0, none⟩)]] 111 (0, 0)) ∧ Boxed W' (w.heap.size + 1) 3 (.int .i64 ((fbL (byLoad u) pre).1 : Int)) ∧ Boxed W' (w.heap.size + 1 + 1) 4 (.bool (fbL (byLoad u) pre).2) ∧ Below w.heap.size w W')
    (fun _ _ _ => False)
    (fun pre W' hi => (hi.2.2.2.cell hlN).trans hN)
    ?hI (fun _ _ _ _ _ hs _ _ => hs) ⟨z0, z2, z3, z6⟩ ?hround ?hdone (fun _ _ _ _ _ hs _ => hs.elim)
  case hI => exact OwnFrom.and (own_block _ _ _ rfl) (OwnFrom.and (Own.from (boxed_own _ _ _) _) (OwnFrom.and (Own.from (boxed_own _ _ _) _) (ownFrom_below (Nat.le_refl _) (by omega))))
  case hround =>
    intro l' pre x post W0' hx hi
    unfold encN
    have HI0 : Hid (W0'.heap[w.heap.size]? = some (.cells #[.func (.func 92) #[] #[.pointer (some ⟨bp, 0, none⟩)]] 111 (0, 0)) ∧ Boxed W0' (w.heap.size + 1) 3 (.int .i64 ((fbL (byLoad u) pre).1 : Int)) ∧ Boxed W0' (w.heap.size + 1 + 1) 4 (.bool (fbL (byLoad u) pre).2) ∧ Below w.heap.size w W0') := hi
    have hin : x ∈ memL m := by rw [hx]; simp
    have hpm : ∀ y ∈ pre, y ∈ memL m := fun y hy => by rw [hx]; simp [hy]
    clear hi hx z0 z2 z3 z6
    gi_wp2
    refine ⟨KeepsUp.refl _ _, HI0.out, ?_⟩
    clear HI0 W0'
    rintro l'' W' hl' ⟨h0, h1, h2, h5⟩
    have f0 := (Msk.cell_of_box_l h0).1
    have f1 := h1.cell
    have f1' := h1.frozen
    have f2 := h2.cell
    have f2' := h2.frozen
    have hsn := fbL_snoc (byLoad u) pre x
    obtain ⟨⟨b, fd⟩, hmb⟩ : ∃ p, fbL (byLoad u) pre = p := ⟨_, rfl⟩
    have hbm : fd = true → b ∈ memL m := fun h => by have := fbL_mem (byLoad u) (memL m) pre hpm (by rw [hmb]; exact h); rw [hmb] at this; exact this
    rw [hmb] at f1 f2 hsn
    have H0 : Hid (W'.heap[w.heap.size]? = some (.cells #[.func (.func 92) #[] #[.pointer (some ⟨bp, 0, none⟩)]] 111 (0, 0))) := h0
    have H1 : Hid (Boxed W' (w.heap.size + 1) 3 (.int .i64 (b : Int))) := by rw [hmb] at h1; exact h1
    have H2 : Hid (Boxed W' (w.heap.size + 1 + 1) 4 (.bool fd)) := by rw [hmb] at h2; exact h2
    have H5 : Hid (Below w.heap.size w W') := h5
    have HSN : Hid (fbL (byLoad u) (pre ++ [x]) = fbstep (byLoad u) (b, fd) x) := hsn
    have set2 : ∀ (V : World) {k : Nat} {o : Obj}, k ≠ w.heap.size + 1 → k ≠ w.heap.size + 1 + 1 → V.heap[k]? = some o → ((V.setCell ⟨w.heap.size + 1, 0, none⟩ (.int .i64 (x : Int))).setCell ⟨w.heap.size + 1 + 1, 0, none⟩ (.bool true)).heap[k]? = some o := fun V k o h1 h2 h => by
      rw [Deep.blk_setCell_other _ _ _ _ h2, Deep.blk_setCell_other _ _ _ _ h1]; exact h
    have HST : Hid (∀ (V : World) {k : Nat} {o : Obj}, k ≠ w.heap.size + 1 → k ≠ w.heap.size + 1 + 1 → V.heap[k]? = some o → ((V.setCell ⟨w.heap.size + 1, 0, none⟩ (.int .i64 (x : Int))).setCell ⟨w.heap.size + 1 + 1, 0, none⟩ (.bool true)).heap[k]? = some o) := set2
    clear h0 h1 h2 h5 hsn hmb set2 hpm
    cases fd
    · gi_wp2
      have HS : fbstep (byLoad u) (b, false) x = (x, true) := by unfold fbstep; rw [if_pos (.inl rfl)]
      refine ⟨(KeepsUp.set _ _ _ (by omega)).trans (KeepsUp.set _ _ _ (by omega)), HST.out _ (by omega) (by omega) H0.out, ?_, ?_, ?_⟩
      · rw [HSN.out, HS]; exact ((H1.out.set _).other (by omega) _)
      · rw [HSN.out, HS]; exact ((H2.out.other (by omega) _).set _)
      · exact (H5.out.setCell (p := ⟨w.heap.size + 1, 0, none⟩) (by simp) _).setCell (p := ⟨w.heap.size + 1 + 1, 0, none⟩) (by simp; omega) _
    · have hq := HI.out x b W' hin (hbm rfl) H5.out
      clear hbm
      cases hbl : byLoad u x b
      · rw [hbl] at hq
        gi_wp2_with (gi_at_call 92; refine (calls_fw hq).mono ?_; rintro e1 V1 ⟨rfl, hb1⟩)
        have HS : fbstep (byLoad u) (b, true) x = (b, true) := by unfold fbstep; rw [if_neg (by simp [hbl])]
        refine ⟨KeepsUp.below hb1, below_at hb1 H0.out, ?_, ?_, H5.out.trans (hb1.mono H5.out.size)⟩
        · rw [HSN.out, HS]; exact below_at hb1 H1.out
        · rw [HSN.out, HS]; exact below_at hb1 H2.out
      · rw [hbl] at hq
        gi_wp2_with (gi_at_call 92; refine (calls_fw hq).mono ?_; rintro e1 V1 ⟨rfl, hb1⟩; have g1 : Boxed V1 _ _ _ := below_at hb1 H1.out; have g2 : Boxed V1 _ _ _ := below_at hb1 H2.out; have f1 := g1.cell; have f1' := g1.frozen; have f2 := g2.cell; have f2' := g2.frozen)
        have HS : fbstep (byLoad u) (b, true) x = (x, true) := by unfold fbstep; rw [if_pos (.inr hbl)]
        have hsz := hb1.size
        refine ⟨(KeepsUp.below hb1).trans ((KeepsUp.set _ _ _ (by omega)).trans (KeepsUp.set _ _ _ (by omega))), HST.out _ (by omega) (by omega) (below_at hb1 H0.out), ?_, ?_, ?_⟩
        · rw [HSN.out, HS]; exact ((g1.set _).other (by omega) _)
        · rw [HSN.out, HS]; exact ((g2.other (by omega) _).set _)
        · exact ((H5.out.trans (hb1.mono H5.out.size)).setCell (p := ⟨w.heap.size + 1, 0, none⟩) (by simp) _).setCell (p := ⟨w.heap.size + 1 + 1, 0, none⟩) (by simp; omega) _
  case hdone =>
    rintro D W' hD ⟨h0, h1, h2, h5⟩ hK
    have hD' : w.heap.size ≤ D := by omega
    have f1 := cell_regrown h1.cell
    have f2 := cell_regrown h2.cell
    gi_wp2
    refine region_quiet_rg mixed (by kernel_rfl) ?_
    repeat (quiet_step_in (fail))
    refine wpQuietIn_nil ?_
    rintro _ ⟨⟨dq, osq⟩, rfl⟩
    gi_wp2
    have hK2 := below_block dq osq hK
    refine ⟨by simp, .inl ⟨_, _, rfl, run_takeDeferred hK2, ?_⟩⟩
    exact ⟨_, results_tmp2 rfl _ _ _, rfl, h5.trans (((below_regrown W' dq osq).mono h5.size).trans (belowK_b (w := w) (Nat.le_refl _) _ D _ _ hD' hK2 rfl rfl))⟩
end Go.Proofs.YtnmmglkigiakaaaGreat
