/- TreeKids: the two functions. -/
import Derived.Test.YtollijjmmpoonaaKD
import Derived.Maps.AppendAt
namespace Go.Proofs.Ytollijjmmpoonaa
set_option linter.unusedVariables false
set_option linter.unusedSimpArgs false
open Go.ChangeShapes Go.WideShapes Go.ChangeAt Go.RowKit

theorem kidsM_no {ds : List Gr} {g : Int} (h : treeB ds = false ∨ usedB ds g = false) : kidsM ds g = [] := by
  unfold kidsM
  rw [if_neg]
  rintro ⟨a, b⟩
  rcases h with h | h
  · rw [h] at a; cases a
  · rw [h] at b; cases b
theorem kidsM_yes {ds : List Gr} {g : Int} (h : treeB ds = true) (h' : usedB ds g = true) : kidsM ds g = kidsTo ds g 8 := if_pos ⟨h, h'⟩
theorem kidsM_len (ds : List Gr) (g : Int) : (kidsM ds g).length ≤ 8 := by
  unfold kidsM
  split
  · exact kidsTo_len _ _ _
  · simp
set_option maxHeartbeats 4000000 in
theorem impl_kids (x : Value) (vs : List Gv) (g : Int) (w : World) (hs : SlG w x vs) (hf : GsFit vs) :
    Calls Try.prog 23 #[x, .int .i64 g] w fun e w' => ∃ v, e = .returned v ∧ OwnI w.heap.size w' v (kidsM (gsD vs) g) ∧ Below w.heap.size w w' := by
  go_enter Try.func23, Try.ntmps23
  go_wp2_with fail
  refine (treeOf_any x vs w hs hf).mono ?_
  rintro e w1 ⟨⟨ht, rfl⟩ | ⟨ht, nb, mb, Dm, rfl, htr, hmo⟩, hb1⟩
  · have HT : Hid (kidsM (gsD vs) g = []) := kidsM_no (.inl ht)
    clear ht
    simp only []
    go_at_K
    go_wp2_with fail
    refine (at_any _ _ _ _ _).mono ?_
    rw [at_none]
    rintro e w2 ⟨rfl, hb2⟩
    simp only []
    go_at_K
    go_wp2_with fail
    refine (kids_nil _).mono ?_
    rintro e w3 ⟨rfl, rfl⟩
    simp only []
    go_at_K
    go_wp2_with fail
    go_ret
    exact ⟨_, rfl, by rw [HT.out]; exact .inl ⟨rfl, rfl⟩, hb1.trans (hb2.mono hb1.size)⟩
  · cases hu : usedB (gsD vs) g
    · have HT : Hid (kidsM (gsD vs) g = []) := kidsM_no (.inr hu)
      have hat := unusedB_at htr.len hu nb
      clear ht
      simp only []
      go_at_K
      go_wp2_with fail
      refine (at_any _ _ _ _ _).mono ?_
      rw [hat]
      rintro e w2 ⟨rfl, hb2⟩
      simp only []
      go_at_K
      go_wp2_with fail
      refine (kids_nil _).mono ?_
      rintro e w3 ⟨rfl, rfl⟩
      simp only []
      go_at_K
      go_wp2_with fail
      go_ret
      exact ⟨_, rfl, by rw [HT.out]; exact .inl ⟨rfl, rfl⟩, hb1.trans (hb2.mono hb1.size)⟩
    · obtain ⟨j, rfl, hj, uj, hat⟩ := usedB_at htr.len hu nb
      have HT : Hid (kidsM (gsD vs) (j : Int) = kidsTo (gsD vs) (j : Int) 8) := kidsM_yes ht hu
      have HTR : Hid (TR w1 (gsD vs) nb mb Dm w.heap.size) := htr
      clear ht hu htr
      simp only []
      go_at_K
      go_wp2_with fail
      refine (at_any _ _ _ _ _).mono ?_
      rw [hat]
      rintro e w2 ⟨rfl, hb2⟩
      have acc := hb1.trans (hb2.mono hb1.size)
      clear hat
      simp only []
      go_at_K
      go_wp2_with fail
      refine (kids_node _ _ _ _ _ j _ (HTR.out.below hb2) hmo hj uj).mono ?_
      rintro e w3 ⟨v, rfl, hown, hb3⟩
      simp only []
      go_at_K
      go_wp2_with fail
      go_ret
      exact ⟨v, rfl, by rw [HT.out]; exact hown.mono acc.size, acc.trans (hb3.mono acc.size)⟩
set_option maxHeartbeats 8000000 in
set_option maxRecDepth 20000 in
theorem spec_kids (x : Value) (vs : List Gv) (g : Int) (w : World) (hs : SlG w x vs) (hf : GsFit vs) :
    Calls Try.prog 22 #[x, .int .i64 g] w fun e w' => ∃ v, e = .returned v ∧ OwnI w.heap.size w' v (kidsM (gsD vs) g) ∧ Below w.heap.size w w' := by
  have HS : Hid (SlG w x vs) := hs
  have acc := Below.refl w.heap.size w
  cases ht : treeB (gsD vs)
  · have HT : Hid (kidsM (gsD vs) g = []) := kidsM_no (.inl ht)
    go_enter Try.func22, Try.ntmps22
    go_wp2_with (go_at_call 10; refine (spec_tree _ vs _ (HS.out.below acc) hf).mono ?_; rintro e w1 ⟨rfl, hb1⟩; replace acc := acc.trans (hb1.mono acc.size); clear hb1)
    go_ret
    exact ⟨_, rfl, by rw [HT.out]; exact .inl ⟨rfl, rfl⟩, acc⟩
  · cases hu : usedB (gsD vs) g
    · have HT : Hid (kidsM (gsD vs) g = []) := kidsM_no (.inr hu)
      go_enter Try.func22, Try.ntmps22
      go_wp2_with (first | (go_at_call 10; refine (spec_tree _ vs _ (HS.out.below acc) hf).mono ?_; rintro e w1 ⟨rfl, hb1⟩; replace acc := acc.trans (hb1.mono acc.size); clear hb1) | (go_at_call 36; refine (spec_used _ vs _ _ (HS.out.below acc)).mono ?_; rintro e w2 ⟨rfl, rfl⟩))
      go_ret
      exact ⟨_, rfl, by rw [HT.out]; exact .inl ⟨rfl, rfl⟩, acc⟩
    · have HT : Hid (kidsM (gsD vs) g = kidsTo (gsD vs) g 8) := kidsM_yes ht hu
      have h8 : vs.length = 8 := by have := (tree_facts ht).1; rwa [gsD_length] at this
      obtain ⟨q, o, cap, rfl, hq, hrow⟩ := groups8 hs h8
      obtain ⟨i0, hi, hz0, hz1, hz2⟩ := info_parts info_int
      go_enter Try.func22, Try.ntmps22
      go_wp2_with (first | (go_at_call 10; refine (spec_tree _ vs _ (HS.out.below acc) hf).mono ?_; rintro e w1 ⟨rfl, hb1⟩; replace acc := acc.trans (hb1.mono acc.size); clear hb1) | (go_at_call 36; refine (spec_used _ vs _ _ (HS.out.below acc)).mono ?_; rintro e w2 ⟨rfl, rfl⟩))
      have HR := hrow
      clear hrow hs
      go_loopw [5, 6] (fun c i wr => ∃ (k : Nat) (v : Value), 1 ≤ k ∧ k ≤ 8 ∧ i = .int .i64 k ∧ v = c ∧ wr.ownsRow w.heap.size 3 1 v (kidsTo (gsD vs) g k).length ((kidsTo (gsD vs) g k).map (Value.int .i64)) ∧ Below w.heap.size w wr) (fun _ i _ => 8 - (intOf i).toNat)
      case atStart => exact ⟨1, _, by omega, by omega, rfl, rfl, by rw [kidsTo_one]; exact World.ownsRow_nil _ _ _ _, acc⟩
      case round =>
        obtain ⟨k, v, hk1, hk8, rfl, rfl, hown, acc⟩ := hrel
        by_cases hlt : k < 8
        · have hlt' : (k : Int) < 8 := by omega
          obtain ⟨e, he, hr, _⟩ := HR _ acc k hlt
          obtain ⟨x0, x1, _⟩ := gv_cells hr
          have hge := gs_at he
          have hlen := kidsTo_len (gsD vs) g k
          have HK : Hid (kidsTo (gsD vs) g (k + 1) = kidsTo (gsD vs) g k ++ (if kidB (gsD vs) g k = true then [(k : Int)] else [])) := kidsTo_succ _ _ _
          have HB : Hid (kidB (gsD vs) g k = (e.d.us && (e.d.pa == g))) := by show _ = _; unfold kidB; rw [hge.1, hge.2.1, decide_eq_true hk1, Bool.true_and]
          clear hr hge he
          generalize hL : kidsTo (gsD vs) g k = L at *
          cases hus : e.d.us
          · rw [hus] at x0
            go_wp2
            exact ⟨⟨k + 1, _, by omega, hlt, by go_num, rfl, by rw [HK.out, HB.out, hus]; simpa using hown, acc⟩, by simp [intOf]; omega⟩
          · rw [hus] at x0
            by_cases hpa : e.d.pa = g
            · rw [hpa] at x1
              have hmx : L.length + 1 ≤ maxLen := by unfold maxLen; omega
              have hb8 : (L.length + 1) * 8 ≤ 140737488355328 := by omega
              go_wp2_with (at_builtin; (refine wpList_append_own _ rfl _ _ 36 rfl w.heap.size 3 i0 _ 1 8 Try.underlying36 hi hz0 hz1 hz2 rfl (by decide) _ _ _ rfl (hown.alloc _) ⟨wr.heap.size, 0, none⟩ 1 1 [.int .i64 (k : Int)] rfl rfl (cell_one_new _ _ _) (fun x hx => by simp at hx; subst hx; rfl) hmx hb8 (by have := acc.size; simp; omega) ?_); intro v' w3 hown' hgrow3 hnil3)
              refine ⟨⟨k + 1, _, by omega, hlt, by go_num, rfl, ?_, ?_⟩, by simp [intOf]; omega⟩
              · rw [HK.out, HB.out, hus, hpa]
                simpa using hown'
              · exact (acc.alloc acc.size _).grown hgrow3 (by have := acc.size; simp; omega) (fun j hj => (hown.lt j hj).1)
            · go_wp2
              exact ⟨⟨k + 1, _, by omega, hlt, by go_num, rfl, by rw [HK.out, HB.out, hus]; simpa [hpa] using hown, acc⟩, by simp [intOf]; omega⟩
        · have hlt' : ¬ (k : Int) < 8 := by omega
          obtain rfl : k = 8 := by omega
          have HO : Hid (OwnI w.heap.size wr v (kidsTo (gsD vs) g 8)) := own_of_rowZ hown rfl
          clear hown
          go_wp2
          go_ret
          exact ⟨_, rfl, by rw [HT.out]; exact HO.out, acc⟩
end Go.Proofs.Ytollijjmmpoonaa
