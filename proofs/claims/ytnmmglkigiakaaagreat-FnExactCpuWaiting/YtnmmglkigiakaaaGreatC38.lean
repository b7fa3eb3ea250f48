/- The program: whether the numbers of a group's shelves are ok. -/
import Derived.Test.YtnmmglkigiakaaaGreatC35
namespace Go.Proofs.YtnmmglkigiakaaaGreat
set_option linter.unusedVariables false
set_option linter.unusedSimpArgs false
open Go.ChangeShapes Go.WideShapes Go.ChangeAt Go.RowKit Go.Shelf Go.Sort
set_option maxRecDepth 100000 in
set_option maxHeartbeats 32000000 in
theorem shelves_inner (pw : Nat) (k : Nat) (u : Wv) (e : Gv) (w : World) (hA : AtW w pw u) (he : u.gs[k]? = some e) (hk0 : k ≠ 0) :
    Calls Tryz.prog 110 #[ptr pw, .int .i64 ((k : Nat) : Int)] w fun e' w' => e' = .returned (.bool (e.d.sh.all (shelfNB k))) ∧ Below w.heap.size w w' := by
  obtain ⟨gr, go, cap, w3, hr, hk, hl⟩ := hA.cellsG he
  have hkk : k ≠ 0 := hk0
  have hk0 : ¬ (k : Int) = 0 := by omega
  obtain ⟨_, _, _, _, _, _, _, _, _, _, _, _, _, y13⟩ := gv_cells hr
  obtain ⟨p, cp, hz, hlen, hrow⟩ := row_read (hA.sh he)
  rw [hz] at y13
  obtain ⟨n, hn⟩ : ∃ n, e.d.sh.length = n := ⟨_, rfl⟩
  rw [hn] at y13 hlen
  have HN : Hid (e.d.sh.length = n) := hn
  have HR : Hid (∀ (j : Nat) (s : Sh), e.d.sh[j]? = some s → ∃ g o, p = some ⟨g, o, none⟩ ∧ w.rangeAt g (o + j * 5) (shC s)) := hrow
  clear hrow hn hr hA hz he
  unfold ptr
  go_enter Tryz.func110, Tryz.ntmps110
  go_wp2
  go_loopw [16] (fun t wr => ∃ j : Nat, j ≤ n ∧ t = .int .i64 (j : Int) ∧ Below w.heap.size w wr ∧ ∀ i, i < j → ∀ s, e.d.sh[i]? = some s → shelfNB k s = true) (fun t _ => n - (intOf t).toNat)
  case atStart => exact ⟨0, Nat.zero_le _, rfl, Below.refl _ _, fun i hi => absurd hi (Nat.not_lt_zero _)⟩
  case round =>
    obtain ⟨j, hj, rfl, hb, hall⟩ := hrel
    by_cases hlt : j < n
    · have hlt' : (j : Int) < (n : Int) := by omega
      obtain ⟨⟨fl, on, v, wt, su⟩, hs⟩ : ∃ s, e.d.sh[j]? = some s := ⟨_, List.getElem?_eq_getElem (by rw [HN.out]; exact hlt)⟩
      obtain ⟨g, o, rfl, hc⟩ := HR.out j _ hs
      obtain ⟨s0, s1, s2, s3, s4⟩ := sh_cells (range_below hc hb)
      dsimp only at s0 s1 s2 s3 s4
      have hg := block_lt_of_cell s0
      have HS : Hid (e.d.sh[j]? = some ⟨fl, on, v, wt, su⟩) := hs
      have HB : Hid (Below w.heap.size w wr) := hb
      have acc : Below w.heap.size w (wr.alloc (.cells #[.int .i64 fl, .bool on, .int .i64 v, .int .i64 wt, .int .i64 su] 121)) := hb.alloc hb.size _
      have HALL : Hid (∀ i, i < j → ∀ s, e.d.sh[i]? = some s → shelfNB k s = true) := hall
      clear hs hc hb hall y13 w3
      cases h0 : l1in fl 0 100000000000000000
      · have HR2 : Hid (shelfNB k ⟨fl, on, v, wt, su⟩ = false) := by unfold Hid; simp [shelfNB, timeB, hkk, h0]
        go_wp2_with (first | (go_at_call 138; refine (isTime_any _ _).mono ?_; rintro e1 w1 ⟨rfl, rfl⟩) | (go_at_call 142; refine (isWeight_any _ _).mono ?_; rintro e1 w1 ⟨rfl, rfl⟩))
        go_ret
        refine ⟨?_, acc⟩
        have HX : Hid (e.d.sh.all (shelfNB k) = false) := by
          unfold Hid
          rw [← Bool.not_eq_true, List.all_eq_true]
          intro hal
          have := hal _ (List.mem_of_getElem? HS.out)
          rw [HR2.out] at this; cases this
        rw [HX.out]; rfl
      · cases h1 : l1in v 0 100000000000000000
        · have HR2 : Hid (shelfNB k ⟨fl, on, v, wt, su⟩ = false) := by unfold Hid; simp [shelfNB, timeB, hkk, h0, h1]
          go_wp2_with (first | (go_at_call 138; refine (isTime_any _ _).mono ?_; rintro e1 w1 ⟨rfl, rfl⟩) | (go_at_call 142; refine (isWeight_any _ _).mono ?_; rintro e1 w1 ⟨rfl, rfl⟩))
          go_ret
          refine ⟨?_, acc⟩
          have HX : Hid (e.d.sh.all (shelfNB k) = false) := by
            unfold Hid
            rw [← Bool.not_eq_true, List.all_eq_true]
            intro hal
            have := hal _ (List.mem_of_getElem? HS.out)
            rw [HR2.out] at this; cases this
          rw [HX.out]; rfl
        · cases h2 : l1in su 0 100000000000000000
          · have HR2 : Hid (shelfNB k ⟨fl, on, v, wt, su⟩ = false) := by unfold Hid; simp [shelfNB, timeB, hkk, h0, h1, h2]
            go_wp2_with (first | (go_at_call 138; refine (isTime_any _ _).mono ?_; rintro e1 w1 ⟨rfl, rfl⟩) | (go_at_call 142; refine (isWeight_any _ _).mono ?_; rintro e1 w1 ⟨rfl, rfl⟩))
            go_ret
            refine ⟨?_, acc⟩
            have HX : Hid (e.d.sh.all (shelfNB k) = false) := by
              unfold Hid
              rw [← Bool.not_eq_true, List.all_eq_true]
              intro hal
              have := hal _ (List.mem_of_getElem? HS.out)
              rw [HR2.out] at this; cases this
            rw [HX.out]; rfl
          · cases h3 : l1in wt 1 20
            · have HR2 : Hid (shelfNB k ⟨fl, on, v, wt, su⟩ = false) := by unfold Hid; simp [shelfNB, timeB, hkk, h0, h1, h2, h3]
              go_wp2_with (first | (go_at_call 138; refine (isTime_any _ _).mono ?_; rintro e1 w1 ⟨rfl, rfl⟩) | (go_at_call 142; refine (isWeight_any _ _).mono ?_; rintro e1 w1 ⟨rfl, rfl⟩))
              go_ret
              refine ⟨?_, acc⟩
              have HX : Hid (e.d.sh.all (shelfNB k) = false) := by
                unfold Hid
                rw [← Bool.not_eq_true, List.all_eq_true]
                intro hal
                have := hal _ (List.mem_of_getElem? HS.out)
                rw [HR2.out] at this; cases this
              rw [HX.out]; rfl
            · have HR2 : Hid (shelfNB k ⟨fl, on, v, wt, su⟩ = true) := by unfold Hid; simp [shelfNB, timeB, hkk, h0, h1, h2, h3]
              go_wp2_with (first | (go_at_call 138; refine (isTime_any _ _).mono ?_; rintro e1 w1 ⟨rfl, rfl⟩) | (go_at_call 142; refine (isWeight_any _ _).mono ?_; rintro e1 w1 ⟨rfl, rfl⟩))
              have NX : ∀ i, i < j + 1 → ∀ s, e.d.sh[i]? = some s → shelfNB k s = true := by
                intro i hi s hsi
                rcases Nat.lt_succ_iff_lt_or_eq.1 hi with h | rfl
                · exact HALL.out i h s hsi
                · rw [HS.out] at hsi
                  cases hsi
                  exact HR2.out
              first
              | exact ⟨⟨j + 1, hlt, by go_num, acc, NX⟩, by simp [intOf]; omega⟩
              | (go_roundw
                 case rel => exact ⟨j + 1, hlt, by go_num, acc, NX⟩
                 case measure => simp [intOf]; omega)
              | (refine ⟨?_, by simp [intOf]; omega⟩
                 repeat apply Exists.intro
                 refine ⟨⟨j + 1, hlt, by go_num, acc, NX⟩, rfl⟩)
    · have hlt' : ¬ (j : Int) < (n : Int) := by omega
      obtain rfl : j = n := by omega
      have HX : Hid (e.d.sh.all (shelfNB k) = true) := by
        unfold Hid
        rw [List.all_eq_true]
        intro s hs
        obtain ⟨i, hi⟩ := List.getElem?_of_mem hs
        exact hall i (by have := (List.getElem?_eq_some_iff.1 hi).1; rw [HN.out] at this; exact this) s hi
      clear hall
      go_wp2
      go_ret
      exact ⟨by rw [HX.out]; rfl, hb⟩
set_option maxRecDepth 100000 in
set_option maxHeartbeats 32000000 in
theorem shelves_root (pw : Nat) (u : Wv) (e : Gv) (w : World) (hA : AtW w pw u) (he : u.gs[0]? = some e) :
    Calls Tryz.prog 110 #[ptr pw, .int .i64 ((0 : Nat) : Int)] w fun e' w' => e' = .returned (.bool (e.d.sh.all (shelfNB 0))) ∧ Below w.heap.size w w' := by
  obtain ⟨gr, go, cap, w3, hr, hk, hl⟩ := hA.cellsG he
  rw [Nat.zero_mul, Nat.add_zero] at hr
  obtain ⟨_, _, _, _, _, _, _, _, _, _, _, _, _, y13⟩ := gv_cells hr
  obtain ⟨p, cp, hz, hlen, hrow⟩ := row_read (hA.sh he)
  rw [hz] at y13
  obtain ⟨n, hn⟩ : ∃ n, e.d.sh.length = n := ⟨_, rfl⟩
  rw [hn] at y13 hlen
  have HN : Hid (e.d.sh.length = n) := hn
  have HR : Hid (∀ (j : Nat) (s : Sh), e.d.sh[j]? = some s → ∃ g o, p = some ⟨g, o, none⟩ ∧ w.rangeAt g (o + j * 5) (shC s)) := hrow
  clear hrow hn hr hA hz he
  unfold ptr
  go_enter Tryz.func110, Tryz.ntmps110
  go_wp2
  go_loopw [16] (fun t wr => ∃ j : Nat, j ≤ n ∧ t = .int .i64 (j : Int) ∧ Below w.heap.size w wr ∧ ∀ i, i < j → ∀ s, e.d.sh[i]? = some s → shelfNB 0 s = true) (fun t _ => n - (intOf t).toNat)
  case atStart => exact ⟨0, Nat.zero_le _, rfl, Below.refl _ _, fun i hi => absurd hi (Nat.not_lt_zero _)⟩
  case round =>
    obtain ⟨j, hj, rfl, hb, hall⟩ := hrel
    by_cases hlt : j < n
    · have hlt' : (j : Int) < (n : Int) := by omega
      obtain ⟨⟨fl, on, v, wt, su⟩, hs⟩ : ∃ s, e.d.sh[j]? = some s := ⟨_, List.getElem?_eq_getElem (by rw [HN.out]; exact hlt)⟩
      obtain ⟨g, o, rfl, hc⟩ := HR.out j _ hs
      obtain ⟨s0, s1, s2, s3, s4⟩ := sh_cells (range_below hc hb)
      dsimp only at s0 s1 s2 s3 s4
      have hg := block_lt_of_cell s0
      have HS : Hid (e.d.sh[j]? = some ⟨fl, on, v, wt, su⟩) := hs
      have HB : Hid (Below w.heap.size w wr) := hb
      have acc : Below w.heap.size w (wr.alloc (.cells #[.int .i64 fl, .bool on, .int .i64 v, .int .i64 wt, .int .i64 su] 121)) := hb.alloc hb.size _
      have HALL : Hid (∀ i, i < j → ∀ s, e.d.sh[i]? = some s → shelfNB 0 s = true) := hall
      clear hs hc hb hall y13 w3
      cases h0 : l1in fl 0 100000000000000000
      · have HR2 : Hid (shelfNB 0 ⟨fl, on, v, wt, su⟩ = false) := by unfold Hid; simp [shelfNB, timeB, h0]
        go_wp2_with (first | (go_at_call 138; refine (isTime_any _ _).mono ?_; rintro e1 w1 ⟨rfl, rfl⟩) | (go_at_call 142; refine (isWeight_any _ _).mono ?_; rintro e1 w1 ⟨rfl, rfl⟩))
        go_ret
        refine ⟨?_, acc⟩
        have HX : Hid (e.d.sh.all (shelfNB 0) = false) := by
          unfold Hid
          rw [← Bool.not_eq_true, List.all_eq_true]
          intro hal
          have := hal _ (List.mem_of_getElem? HS.out)
          rw [HR2.out] at this; cases this
        rw [HX.out]; rfl
      · cases h1 : l1in v 0 100000000000000000
        · have HR2 : Hid (shelfNB 0 ⟨fl, on, v, wt, su⟩ = false) := by unfold Hid; simp [shelfNB, timeB, h0, h1]
          go_wp2_with (first | (go_at_call 138; refine (isTime_any _ _).mono ?_; rintro e1 w1 ⟨rfl, rfl⟩) | (go_at_call 142; refine (isWeight_any _ _).mono ?_; rintro e1 w1 ⟨rfl, rfl⟩))
          go_ret
          refine ⟨?_, acc⟩
          have HX : Hid (e.d.sh.all (shelfNB 0) = false) := by
            unfold Hid
            rw [← Bool.not_eq_true, List.all_eq_true]
            intro hal
            have := hal _ (List.mem_of_getElem? HS.out)
            rw [HR2.out] at this; cases this
          rw [HX.out]; rfl
        · cases h2 : l1in su 0 100000000000000000
          · have HR2 : Hid (shelfNB 0 ⟨fl, on, v, wt, su⟩ = false) := by unfold Hid; simp [shelfNB, timeB, h0, h1, h2]
            go_wp2_with (first | (go_at_call 138; refine (isTime_any _ _).mono ?_; rintro e1 w1 ⟨rfl, rfl⟩) | (go_at_call 142; refine (isWeight_any _ _).mono ?_; rintro e1 w1 ⟨rfl, rfl⟩))
            go_ret
            refine ⟨?_, acc⟩
            have HX : Hid (e.d.sh.all (shelfNB 0) = false) := by
              unfold Hid
              rw [← Bool.not_eq_true, List.all_eq_true]
              intro hal
              have := hal _ (List.mem_of_getElem? HS.out)
              rw [HR2.out] at this; cases this
            rw [HX.out]; rfl
          · cases h3 : l1in wt 1 20
            · have HR2 : Hid (shelfNB 0 ⟨fl, on, v, wt, su⟩ = false) := by unfold Hid; simp [shelfNB, timeB, h0, h1, h2, h3]
              go_wp2_with (first | (go_at_call 138; refine (isTime_any _ _).mono ?_; rintro e1 w1 ⟨rfl, rfl⟩) | (go_at_call 142; refine (isWeight_any _ _).mono ?_; rintro e1 w1 ⟨rfl, rfl⟩))
              go_ret
              refine ⟨?_, acc⟩
              have HX : Hid (e.d.sh.all (shelfNB 0) = false) := by
                unfold Hid
                rw [← Bool.not_eq_true, List.all_eq_true]
                intro hal
                have := hal _ (List.mem_of_getElem? HS.out)
                rw [HR2.out] at this; cases this
              rw [HX.out]; rfl
            · cases on
              · by_cases h5 : v = 0
                · subst h5
                  by_cases h6 : wt = 10
                  · subst h6
                    have HR2 : Hid (shelfNB 0 ⟨fl, false, 0, 10, su⟩ = true) := by unfold Hid; simp [shelfNB, timeB, h0, h1, h2, h3]
                    go_wp2_with (first | (go_at_call 138; refine (isTime_any _ _).mono ?_; rintro e1 w1 ⟨rfl, rfl⟩) | (go_at_call 142; refine (isWeight_any _ _).mono ?_; rintro e1 w1 ⟨rfl, rfl⟩))
                    have NX : ∀ i, i < j + 1 → ∀ s, e.d.sh[i]? = some s → shelfNB 0 s = true := by
                      intro i hi s hsi
                      rcases Nat.lt_succ_iff_lt_or_eq.1 hi with h | rfl
                      · exact HALL.out i h s hsi
                      · rw [HS.out] at hsi
                        cases hsi
                        exact HR2.out
                    first
                    | exact ⟨⟨j + 1, hlt, by go_num, acc, NX⟩, by simp [intOf]; omega⟩
                    | (go_roundw
                       case rel => exact ⟨j + 1, hlt, by go_num, acc, NX⟩
                       case measure => simp [intOf]; omega)
                    | (refine ⟨?_, by simp [intOf]; omega⟩
                       repeat apply Exists.intro
                       refine ⟨⟨j + 1, hlt, by go_num, acc, NX⟩, rfl⟩)
                  · have HR2 : Hid (shelfNB 0 ⟨fl, false, 0, wt, su⟩ = false) := by unfold Hid; simp [shelfNB, timeB, h0, h1, h2, h3, h6]
                    go_wp2_with (first | (go_at_call 138; refine (isTime_any _ _).mono ?_; rintro e1 w1 ⟨rfl, rfl⟩) | (go_at_call 142; refine (isWeight_any _ _).mono ?_; rintro e1 w1 ⟨rfl, rfl⟩))
                    go_ret
                    refine ⟨?_, acc⟩
                    have HX : Hid (e.d.sh.all (shelfNB 0) = false) := by
                      unfold Hid
                      rw [← Bool.not_eq_true, List.all_eq_true]
                      intro hal
                      have := hal _ (List.mem_of_getElem? HS.out)
                      rw [HR2.out] at this; cases this
                    rw [HX.out]; rfl
                · have HR2 : Hid (shelfNB 0 ⟨fl, false, v, wt, su⟩ = false) := by unfold Hid; simp [shelfNB, timeB, h0, h1, h2, h3, h5]
                  go_wp2_with (first | (go_at_call 138; refine (isTime_any _ _).mono ?_; rintro e1 w1 ⟨rfl, rfl⟩) | (go_at_call 142; refine (isWeight_any _ _).mono ?_; rintro e1 w1 ⟨rfl, rfl⟩))
                  go_ret
                  refine ⟨?_, acc⟩
                  have HX : Hid (e.d.sh.all (shelfNB 0) = false) := by
                    unfold Hid
                    rw [← Bool.not_eq_true, List.all_eq_true]
                    intro hal
                    have := hal _ (List.mem_of_getElem? HS.out)
                    rw [HR2.out] at this; cases this
                  rw [HX.out]; rfl
              · have HR2 : Hid (shelfNB 0 ⟨fl, true, v, wt, su⟩ = false) := by unfold Hid; simp [shelfNB, timeB, h0, h1, h2, h3]
                go_wp2_with (first | (go_at_call 138; refine (isTime_any _ _).mono ?_; rintro e1 w1 ⟨rfl, rfl⟩) | (go_at_call 142; refine (isWeight_any _ _).mono ?_; rintro e1 w1 ⟨rfl, rfl⟩))
                go_ret
                refine ⟨?_, acc⟩
                have HX : Hid (e.d.sh.all (shelfNB 0) = false) := by
                  unfold Hid
                  rw [← Bool.not_eq_true, List.all_eq_true]
                  intro hal
                  have := hal _ (List.mem_of_getElem? HS.out)
                  rw [HR2.out] at this; cases this
                rw [HX.out]; rfl
    · have hlt' : ¬ (j : Int) < (n : Int) := by omega
      obtain rfl : j = n := by omega
      have HX : Hid (e.d.sh.all (shelfNB 0) = true) := by
        unfold Hid
        rw [List.all_eq_true]
        intro s hs
        obtain ⟨i, hi⟩ := List.getElem?_of_mem hs
        exact hall i (by have := (List.getElem?_eq_some_iff.1 hi).1; rw [HN.out] at this; exact this) s hi
      clear hall
      go_wp2
      go_ret
      exact ⟨by rw [HX.out]; rfl, hb⟩
theorem areShelvesOk_any (pw k : Nat) (u : Wv) (e : Gv) (w : World) (hA : AtW w pw u) (he : u.gs[k]? = some e) :
    Calls Tryz.prog 110 #[ptr pw, .int .i64 (k : Int)] w fun e' w' => e' = .returned (.bool (e.d.sh.all (shelfNB k))) ∧ Below w.heap.size w w' := by
  by_cases h0 : k = 0
  · subst h0; exact shelves_root pw u e w hA he
  · exact shelves_inner pw k u e w hA he h0
end Go.Proofs.YtnmmglkigiakaaaGreat
