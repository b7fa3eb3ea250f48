/- The program: the busiest neighbour at a level. -/
import Derived.Test.YtnmmglkigiakaaaGreatD31
import Derived.Test.YtnmmglkigiakaaaGreatD33
namespace Go.Proofs.YtnmmglkigiakaaaGreat
set_option maxRecDepth 100000
set_option maxHeartbeats 32000000
set_option linter.unusedVariables false
set_option linter.unusedSimpArgs false
open Go.ChangeShapes Go.WideShapes Go.ChangeAt Go.RowKit Go.Shelf Go.Sort
attribute [local go_sem] Oper.semAt_some
theorem giveB_lt {u : Wv} (ho : okS u = true) {c b : Nat} (h : giveB u c b = true) : b < u.cs.length := by
  unfold giveB giveTo at h
  rw [List.any_eq_true] at h
  obtain ⟨t, ht, h2⟩ := h
  rw [Bool.and_eq_true] at h2
  have hl := List.mem_range.1 ht
  obtain ⟨e, he⟩ := row_get hl
  rw [he] at h2
  have h3 : decide (e.cpu = (b : Int)) = true := h2.1
  have h4 := of_decide_eq_true h3
  obtain ⟨_, c', _, _, _, hc', hcl, _⟩ := task_is ho he
  omega
def encB (v : Int) : Nat × Bool := if v < 0 then (0, false) else (v.toNat, true)
theorem encB_none : encB (-1) = (0, false) := rfl
theorem encB_some (b : Nat) : encB (b : Int) = (b, true) := by unfold encB; rw [if_neg (by omega), Int.toNat_natCast]
theorem best_step {u : Wv} {c : Nat} {sp S : Int} (hS : ∀ b : Nat, b < 4 → Msk.hasB S (b : Int) = (Msk.hasB sp (b : Int) && giveB u c b)) : ∀ k, k ≤ 4 → fbL (byLoad u) (pickTo (fun b => Msk.hasB S ((b : Nat) : Int)) k) = encB (bestTo u c sp k) := by
  intro k
  induction k with
  | zero => intro _; rfl
  | succ k ih =>
    intro hk
    have ih := ih (by omega)
    have h := hS k (by omega)
    cases hh : Msk.hasB S (k : Int)
    · rw [pickTo_no hh, ih]
      rw [hh] at h
      have : bestTo u c sp (k + 1) = bestTo u c sp k := by
        conv => lhs; unfold bestTo
        rw [if_neg]
        intro h2
        rw [Bool.and_eq_true, Bool.and_eq_true] at h2
        rw [h2.1, h2.2.1] at h
        cases h
      rw [this]
    · rw [pickTo_yes hh, fbL_snoc, ih]
      rw [hh] at h
      have h' := h.symm
      rw [Bool.and_eq_true] at h'
      conv => rhs; arg 1; unfold bestTo
      rw [h'.1, h'.2, Bool.true_and, Bool.true_and]
      rcases bestTo_range u c sp k with hn | ⟨b, hb, hbk⟩
      · rw [hn, encB_none]
        rw [if_pos (by simp), encB_some]
        unfold fbstep; rw [if_pos (.inl rfl)]
      · rw [hb, encB_some, Int.toNat_natCast, decide_eq_false (by omega), Bool.false_or]
        unfold fbstep byLoad
        by_cases hl : loadN u b < loadN u k
        · rw [if_pos (.inr (decide_eq_true hl)), if_pos (decide_eq_true hl), encB_some]
        · rw [if_neg (by simp [hl]), if_neg (by simp [hl]), encB_some]
theorem bestTo_over {u : Wv} (ho : okS u = true) {c : Nat} {sp : Int} : ∀ d, bestTo u c sp (u.cs.length + d) = bestTo u c sp u.cs.length := by
  intro d
  induction d with
  | zero => rfl
  | succ d ih =>
    rw [← Nat.add_assoc]
    conv => lhs; unfold bestTo
    rw [if_neg, ih]
    intro h
    rw [Bool.and_eq_true, Bool.and_eq_true] at h
    have := giveB_lt ho h.2.1
    omega
theorem best_link {u : Wv} (ho : okS u = true) {c : Nat} {sp S : Int} (hS : ∀ b : Nat, b < 4 → Msk.hasB S (b : Int) = (Msk.hasB sp (b : Int) && giveB u c b)) : fbL (byLoad u) (memL S) = encB (bestM u c sp) := by
  have h4 := (okS_read ho).1.n4
  have := best_step (k := 4) hS (Nat.le_refl 4)
  unfold memL
  rw [this]
  unfold bestM
  obtain ⟨d, hd⟩ := Nat.exists_eq_add_of_le h4
  rw [hd, bestTo_over ho]
theorem span_set (n c l : Int) : SetIn (Msk.spanM n c l) := by
  unfold Msk.spanM Msk.bitI SetIn
  split <;> split <;> split <;> split <;> omega
theorem busiest_any (pw c pg po : Nat) (lv : Int) (u : Wv) (w : World) (hA : AtW w pw u) (ho : okS u = true) (hc : c < u.cs.length) :
    Calls Tryz.prog 54 #[prV pw (c : Int) pg po, .int .i64 lv] w fun e w' => e = .returned (.tuple #[.int .i64 ((encB (bestM u c (Msk.spanM (u.cs.length : Int) (c : Int) lv))).1 : Int), .bool (encB (bestM u c (Msk.spanM (u.cs.length : Int) (c : Int) lv))).2]) ∧ Below w.heap.size w w' := by
  unfold prV ptr ptrO
  obtain ⟨W1, hW1⟩ : ∃ W1, w.alloc (.cells #[.pointer (some ⟨pw, 0, none⟩), .int .i64 (c : Int), .pointer (some ⟨pg, po, none⟩)] 56) = W1 := ⟨_, rfl⟩
  obtain ⟨B1, q0, q1, q2, l1⟩ := boxed_pr hW1
  have hP1 : PBox W1 w.heap.size pw (c : Int) pg po := by rw [← hW1]; exact heap_alloc_new w _
  obtain ⟨p1, c1, p2, c2, p3, c3, e1, e2, e3, hl1, hl2, hl3⟩ := slw_forms hA.2
  have hA1 := hA.below B1
  obtain ⟨o0, o1, o2, o3⟩ := forms_at hA1 e1 e2 e3
  obtain ⟨hF, hCP, hTF, hTG⟩ := okS_read ho
  obtain ⟨sp, hsp⟩ : ∃ sp, Msk.spanM (u.cs.length : Int) (c : Int) lv = sp := ⟨_, rfl⟩
  have hsps : SetIn sp := by rw [← hsp]; exact span_set _ _ _
  have HB1 : Hid (Below w.heap.size w W1) := B1
  have HA1 : Hid (AtW W1 pw u) := hA1
  have HP1 : Hid (PBox W1 w.heap.size pw (c : Int) pg po) := hP1
  have cD : ∀ d os, Calls Tryz.prog 88 #[.int .i64 (u.cs.length : Int), .int .i64 (c : Int), .int .i64 lv] (grow (redrawn W1 d) os) fun e' w'' => e' = .returned (.int .i64 sp) ∧ ∃ p : Regrown, w'' = grow (redrawn W1 p.d) p.os := fun d os => by
    have h0 := Msk.impl_span (u.cs.length : Int) (c : Int) lv (grow (redrawn W1 d) os)
    rw [hsp] at h0
    exact Calls.regrown_of h0
  rw [hsp]
  have HLK : Hid (∀ m : Int, SetIn m → (∀ b, b < 4 → Msk.hasB m ((b : Nat) : Int) = giveB u c b) → SetIn (bits BinOp.and IntKind.i64 sp m) ∧ (∀ b ∈ memL (bits BinOp.and IntKind.i64 sp m), b < u.cs.length) ∧ fbL (byLoad u) (memL (bits BinOp.and IntKind.i64 sp m)) = encB (bestM u c sp)) := by
    intro m hm hb
    rw [bits_and hsps hm]
    have hS : ∀ b : Nat, b < 4 → Msk.hasB (Msk.andM sp m) (b : Int) = (Msk.hasB sp (b : Int) && giveB u c b) := fun b h4 => by rw [and_has hsps hm h4, hb b h4]
    refine ⟨and_in hsps hm, fun b hbm => ?_, best_link ho hS⟩
    obtain ⟨h4, h2⟩ := memL_lt hbm
    rw [hS b h4, Bool.and_eq_true] at h2
    exact giveB_lt ho h2.2
  have j0 := cell_regrown q0
  have j1 := cell_regrown q1
  have j2 := cell_regrown q2
  have i1 := cell_regrown o1
  clear hA hA1 hP1 hsp B1 q0 q1 q2 o0 o1 o2 o3 e1 e2 e3
  go_enter Tryz.func54, Tryz.ntmps54
  go_wp2
  clear hW1
  refine wp_region_quiet_below (by kernel_rfl) (by kernel_rfl) ?_
  repeat (go_big_quiet_step (exact cD _ _))
  refine wpQuiet_nil ?_
  rintro _ ⟨⟨dq, osq⟩, rfl⟩
  have hbr := below_regrown W1 dq osq
  have k0 := j0 dq osq
  have k1 := j1 dq osq
  have k2 := j2 dq osq
  obtain ⟨V, hV⟩ : ∃ V, grow (redrawn W1 dq) osq = V := ⟨_, rfl⟩
  rw [hV] at hbr k0 k1 k2 ⊢
  clear hV j0 j1 j2 i1 cD
  have HBV : Hid (Below W1.heap.size W1 V) := hbr
  have HG : Hid (∀ W, Below W1.heap.size W1 W → Calls Tryz.prog 90 #[.agg #[.pointer (some ⟨pw, 0, none⟩), .int .i64 (c : Int), .pointer (some ⟨pg, po, none⟩)]] W fun e w' => ∃ m : Int, e = .returned (.int .i64 m) ∧ SetIn m ∧ (∀ b, b < 4 → Msk.hasB m ((b : Nat) : Int) = giveB u c b) ∧ Below W.heap.size W w') := fun W h => givers_any pw c pg po u W (HA1.out.below h) ho hc
  have HFB : Hid (∀ (Bn : Nat) (S : Int) W, Below W1.heap.size W1 W → SetIn S → (∀ b ∈ memL S, b < u.cs.length) → W.cell? ⟨Bn, 0, none⟩ = some (.int .i64 S) → Calls Tryz.prog 89 #[.func (.func 131) #[] #[.pointer (some ⟨Bn, 0, none⟩)], .func (.func 92) #[] #[.pointer (some ⟨w.heap.size, 0, none⟩)]] W fun e w' =>
      e = .returned (.tuple #[.int .i64 ((fbL (byLoad u) (memL S)).1 : Int), .bool (fbL (byLoad u) (memL S)).2]) ∧ Below W.heap.size W w') := fun Bn S W h hs hms hn => firstBest_load pw w.heap.size c pg po Bn S u W hs hms hn ((h.block w.heap.size l1).trans HP1.out) (HA1.out.below h) hF hTF
  clear hbr
  go_wp2_with (first | (go_at_call 90; refine (HG.out _ HBV.out).mono ?_; rintro e1 V1 ⟨m, rfl, hm, hbits, hb1⟩; have hbx := HBV.out.trans (hb1.mono HBV.out.size); obtain ⟨hS1, hS2, hS3⟩ := HLK.out m hm hbits) | (go_at_call 91; refine (Msk.members_any _ _).mono ?_; rintro e2 V2 ⟨rfl, rfl⟩) | (go_at_call 89; refine (HFB.out _ _ _ (hbx.alloc hbx.size _) hS1 hS2 (Msk.cell_new_l _ _ _).1).mono ?_; rintro e3 V3 ⟨rfl, hb3⟩; rw [hS3]))
  refine bodyPost_ret (results_tmp2 rfl _ _ _) rfl ?_
  exact ⟨rfl, HB1.out.trans (((hbx.alloc hbx.size _).trans (hb3.mono (hbx.alloc hbx.size _).size)).mono HB1.out.size)⟩
end Go.Proofs.YtnmmglkigiakaaaGreat
