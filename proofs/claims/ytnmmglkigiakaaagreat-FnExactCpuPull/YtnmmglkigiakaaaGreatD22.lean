/- The program: a row of all that an iterator hands on; the load of a processor. The program: the load of a processor. -/
import Derived.Test.YtnmmglkigiakaaaGreatD21
import Derived.RangeFuncBox
namespace Go.Proofs.YtnmmglkigiakaaaGreat
set_option maxRecDepth 100000
set_option maxHeartbeats 32000000
set_option linter.unusedVariables false
set_option linter.unusedSimpArgs false
open Go.ChangeShapes Go.WideShapes Go.ChangeAt Go.RowKit Go.Shelf Go.Sort
attribute [local go_sem] Oper.semAt_some
theorem keeps_others {B : Nat} {W W' : World} (h : KeepsOthers W W') : NC.KeepsUp B W W' := ⟨h.size, fun k o _ ho hc => h.same k o ho hc⟩
theorem own_holds {α : Type} (B n₀ b : Nat) (t e : TypeId) (k : List α → Nat) (f : List α → List Value) : OwnFrom B (fun (s : List α) W => ∃ v, Boxed W b t v ∧ W.ownsRow n₀ e 1 v (k s) (f s)) := by
  have h := (holdsRow_own (β := List α) n₀ b t e 1 k f (fun _ _ => True)).from B
  intro s W W' row hs hg hr
  obtain ⟨v, h1, h2⟩ := hs
  obtain ⟨v', h3, h4, _⟩ := h s W W' row ⟨v, h1, h2, trivial⟩ hg hr
  exact ⟨v', h3, h4⟩
theorem appendSeq_any {gf : Nat} {lb : Array Value} {xs : List Nat} {G : World → Prop} (w : World) (hseq : NC.Gives Tryz.prog gf lb encN xs G w) (eg : ∀ args w, (callFunc gf args).run Tryz.prog w = .ok (.enter gf args) w) (hG : ∀ W, Below w.heap.size w W → G W) (hl : xs.length ≤ 12) :
    Calls Tryz.prog 121 #[.slice none 0 0, .func (.func gf) #[] lb] w fun e w' => ∃ v, e = .returned v ∧ w'.ownsRow w.heap.size 3 1 v xs.length (cellsN xs) ∧ Below w.heap.size w w' := by
  obtain ⟨i0, hi, hz0, hz1, hz2⟩ := info_parts info_int
  have hfn : ∀ f, Fence.wide.fn f := fun _ => trivial
  refine (callsIn_wide (n := 9)).1 ?_
  refine callsIn_of_wp_marks Tryz.func121 rfl trivial ?_ rfl
  simp only [Tryz.ntmps121, List.size_toArray, List.length_cons, List.length_nil, Nat.reduceAdd, Nat.reduceSub, Array.replicate_succ, Array.replicate_zero, List.push_toArray, List.append_toArray, List.nil_append, List.cons_append]
  gi_wp2
  obtain ⟨w1, hw1⟩ : ∃ w1, w.alloc (.cells #[.slice none 0 0] 78) = w1 := ⟨_, rfl⟩
  have z0 : Boxed w1 w.heap.size 78 (.slice none 0 0) := by rw [← hw1]; exact Boxed.new w _ _
  have z1 : w1.heap.size = w.heap.size + 1 := by rw [← hw1]; simp
  have z2 : Below w.heap.size w w1 := by rw [← hw1]; exact (Below.refl _ _).alloc (Nat.le_refl _) _
  simp only [hw1]
  clear hw1
  refine NC.range_own (xs := xs) (encs := encN) (gf := gf) (lb := lb) (W0 := w) (G := G) hseq (by omega) rfl eg (fun _ => rfl)
    (fun pre W' => (∃ v, Boxed W' w.heap.size 78 v ∧ W'.ownsRow w.heap.size 3 1 v pre.length (cellsN pre)) ∧ Below w.heap.size w W')
    (fun cc pre W' => False)
    (fun pre x a' W' => ((∃ v, Boxed W' w.heap.size 78 v ∧ W'.ownsRow w.heap.size 3 1 v pre.length (cellsN pre)) ∧ Below w.heap.size w W') ∧ a' = { tmps := #[.slice none 0 0, .func (.func gf) #[] lb, ptr w.heap.size, undef, .slice none 0 0, .int .i64 (x : Int), .func (.func gf) #[] lb, .int .i64 (x : Int), undef, undef, undef, undef, undef], defers := [] })
    (fun pre W' hi => hG _ hi.2)
    ?hI ?hIx ?hA ⟨⟨_, z0, World.ownsRow_nil _ _ _ _⟩, z2⟩ ?hassign ?hbody ?hdone ?hstop
  case hI => exact OwnFrom.and (own_holds _ _ _ _ _ _ _) (ownFrom_below (Nat.le_refl _) (by omega))
  case hIx => exact fun cc => ownFrom_pure _ _
  case hA => exact fun pre x a' => OwnFrom.and (OwnFrom.and (fun s X Y row hs hg hr => own_holds (α := Nat) (w1.heap.size) w.heap.size w.heap.size 78 3 (fun p => p.length) cellsN pre X Y row hs hg hr) (ownFrom_below (Nat.le_refl _) (by omega))) (ownFrom_pure _ _)
  case hassign =>
    intro l' pre x post W' hx hi
    unfold encN
    gi_wp2
    exact ⟨NC.KeepsUp.refl _ _, hi, rfl⟩
  case hbody =>
    rintro l' pre x post a' W' hx hl' ⟨⟨⟨v, hb, hown⟩, hbl⟩, rfl⟩
    have hpl : pre.length + 1 ≤ 12 := by rw [hx] at hl; simp at hl; omega
    have hmx : pre.length + 1 ≤ maxLen := by unfold maxLen; omega
    have hb8 : (pre.length + 1) * 8 ≤ 140737488355328 := by omega
    have hcell := hb.cell
    have hfz := hb.frozen
    have HX : Hid (xs = pre ++ x :: post) := hx
    clear hx hl' z0 z2 hl
    unfold ptr
    gi_wp2_with (gi_at_builtin; (refine wpListIn_append_own _ rfl _ _ 78 rfl w.heap.size 3 i0 _ 1 8 Tryz.underlying78 hi hz0 hz1 hz2 rfl (by decide) _ _ _ rfl (hown.alloc _) ⟨W'.heap.size, 0, none⟩ 1 1 [.int .i64 (x : Int)] rfl rfl (cell_one_new _ _ _) (fun x hx => by simp at hx; subst hx; rfl) hmx hb8 (by have := hbl.size; simp; omega) ?_); intro v' w3 hown' hgrow3 hnil3; obtain ⟨hb1, hb2, hown2, hko, hbe⟩ := hb.appended (by decide) hown (by have := hbl.size; omega) (Nat.le_refl _) hown' hgrow3; have hcell3 := hb1.cell; have hfz3 := hb1.frozen; obtain ⟨gg, cc, rfl⟩ := ownsRow_succ hown')
    refine ⟨keeps_others hko, ⟨_, hb2, ?_⟩, hbl.trans hbe⟩
    rw [cellsN_app, List.length_append]
    exact hown2
  case hdone =>
    rintro D W' hD ⟨⟨v, hb, hown⟩, hbl⟩ hK
    have hcell := hb.cell
    have hD' : w.heap.size ≤ D := by omega
    have hne : D ≠ w.heap.size := by omega
    gi_wp2
    refine ⟨by simp, .inl ⟨_, _, rfl, run_takeDeferred hK, ?_⟩⟩
    refine ⟨v, ?_, ⟨v, rfl, ownsRow_putObj hown _ hK rfl, hbl.trans (belowK_b (w := w) (Nat.le_refl _) _ D _ _ hD' hK rfl rfl)⟩⟩
    simp [results, Tryz.f121, go_sem]
  case hstop =>
    rintro D cc pre W' hD h hK
    exact h.elim
theorem collect_any {gf : Nat} {lb : Array Value} {xs : List Nat} {G : World → Prop} (w : World) (hseq : NC.Gives Tryz.prog gf lb encN xs G w) (eg : ∀ args w, (callFunc gf args).run Tryz.prog w = .ok (.enter gf args) w) (hG : ∀ W, Below w.heap.size w W → G W) (hl : xs.length ≤ 12) :
    Calls Tryz.prog 77 #[.func (.func gf) #[] lb] w fun e w' => ∃ v, e = .returned v ∧ w'.ownsRow w.heap.size 3 1 v xs.length (cellsN xs) ∧ Below w.heap.size w w' := by
  go_enter Tryz.func77, Tryz.ntmps77
  go_wp2_with (go_at_call 121; refine (appendSeq_any w hseq eg hG hl).mono ?_; rintro e1 V1 ⟨v, rfl, hown, hb⟩)
  go_ret
  exact ⟨v, rfl, hown, hb⟩
theorem lineL_len {u : Wv} (h : u.ts.length = 12) (c : Nat) : (lineL u c).length ≤ 12 := by
  have := pickTo_len (lineB u c) u.ts.length
  unfold lineL; omega
theorem lineL_mem {u : Wv} {c x : Nat} (h : x ∈ lineL u c) : x < u.ts.length := (pickTo_mem h).1
theorem collect_line (pw b c pg po : Nat) (u : Wv) (V : World) (hP : PBox V b pw (c : Int) pg po) (hA : AtW V pw u) (hF : Fit u) (hT : TFit u) (hc : c < u.cs.length) :
    Calls Tryz.prog 77 #[.func (.func 122) #[] #[.pointer (some ⟨b, 0, none⟩)]] V fun e w' => ∃ v, e = .returned v ∧ RowI w' v (lineL u c) ∧ Below V.heap.size V w' := by
  have hlt : b < V.heap.size := (Array.getElem?_eq_some_iff.1 hP).1
  refine (collect_any (G := fun W => PBox W b pw (c : Int) pg po ∧ AtW W pw u) V (NC.inLine_gives pw b c pg po u _ V hF hT hc (fun W h => h)) (enters_of Tryz.func122 (by kernel_rfl) rfl)
    (fun W h => ⟨(h.block b hlt).trans hP, hA.below h⟩) (lineL_len hF.nt c)).mono ?_
  rintro e w' ⟨v, rfl, hown, hb⟩
  exact ⟨v, rfl, rowI_own hown, hb⟩
theorem load_any (pw c pg po : Nat) (u : Wv) (w : World) (hA : AtW w pw u) (hF : Fit u) (hT : TFit u) (hc : c < u.cs.length) :
    Calls Tryz.prog 40 #[prV pw (c : Int) pg po] w fun e w' => e = .returned (.int .i64 (loadN u c)) ∧ Below w.heap.size w w' := by
  unfold prV ptr ptrO
  obtain ⟨W1, hW1⟩ : ∃ W1, w.alloc (.cells #[.pointer (some ⟨pw, 0, none⟩), .int .i64 (c : Int), .pointer (some ⟨pg, po, none⟩)] 56) = W1 := ⟨_, rfl⟩
  obtain ⟨B1, q0, q1, q2, l1⟩ := boxed_pr hW1
  have HA : Hid (AtW W1 pw u) := hA.below B1
  have HL : Hid ((lineL u c).length ≤ 12) := lineL_len hF.nt c
  have HD : Hid (Below W1.heap.size W1 W1.drew) := (Below.refl _ _).drew
  have HB1 : Hid (Below w.heap.size w W1) := B1
  have HX : Hid (∀ b V, PBox V b pw (c : Int) pg po → AtW V pw u → Calls Tryz.prog 77 #[.func (.func 122) #[] #[.pointer (some ⟨b, 0, none⟩)]] V fun e w' => ∃ v, e = .returned v ∧ RowI w' v (lineL u c) ∧ Below V.heap.size V w') := fun b V hP h => collect_line pw b c pg po u V hP h hF hT hc
  have HP : Hid (PBox ((W1.alloc (.cells #[.pointer (some ⟨pw, 0, none⟩), .int .i64 (c : Int), .pointer (some ⟨pg, po, none⟩)] 56)).drew) W1.heap.size pw (c : Int) pg po) := heap_alloc_new W1 _
  have HV : Hid (Below W1.heap.size W1 ((W1.alloc (.cells #[.pointer (some ⟨pw, 0, none⟩), .int .i64 (c : Int), .pointer (some ⟨pg, po, none⟩)] 56)).drew)) := ((Below.refl _ _).alloc (Nat.le_refl _) _).drew
  have HQ : Hid (∀ W, Below W1.heap.size W1 W → W.cell? ⟨w.heap.size, 0, none⟩ = some (.pointer (some ⟨pw, 0, none⟩)) ∧ W.cell? ⟨w.heap.size, 1, none⟩ = some (.int .i64 (c : Int)) ∧ W.cell? ⟨w.heap.size, 2, none⟩ = some (.pointer (some ⟨pg, po, none⟩))) := fun W h => ⟨(h.cell (p := ⟨w.heap.size, 0, none⟩) l1).trans q0, (h.cell (p := ⟨w.heap.size, 1, none⟩) l1).trans q1, (h.cell (p := ⟨w.heap.size, 2, none⟩) l1).trans q2⟩
  clear hA hF hT B1
  go_enter Tryz.func40, Tryz.ntmps40
  go_wp2
  clear hW1
  go_region_with (first | (go_at_call 78; refine (mk_inLine pw pg po (c : Int) _).mono ?_; unfold ptr; rintro e1 V1 ⟨rfl, rfl⟩) | (go_at_call 77; refine (HX.out _ _ HP.out (HA.out.below HV.out)).mono ?_; rintro e2 V2 ⟨v, rfl, hrow, hb⟩; obtain ⟨r0, r1, r2⟩ := HQ.out _ (HV.out.trans (hb.mono HV.out.size))) | (go_at_call 76; refine (weightsOf_any pw u _ _ _ ((HA.out.below HV.out).below hb) hrow HL.out (fun x hx => lineL_mem hx)).mono ?_; rintro e3 V3 ⟨rfl, rfl⟩))
  all_goals (go_wp2; go_ret; exact ⟨rfl, HB1.out.trans ((HV.out.trans (hb.mono HV.out.size)).mono HB1.out.size)⟩)
end Go.Proofs.YtnmmglkigiakaaaGreat
