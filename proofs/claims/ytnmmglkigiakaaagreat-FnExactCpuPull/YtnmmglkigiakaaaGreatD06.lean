/- The tree of groups as plain functions; contracts of the specification's small functions on it. The specification's TreeOk. -/
import Derived.Test.YtnmmglkigiakaaaGreatD03
import Derived.Test.YtnmmglkigiakaaaGreatD05
namespace Go.Proofs.YtnmmglkigiakaaaGreat
set_option maxRecDepth 100000
set_option maxHeartbeats 32000000
set_option linter.unusedVariables false
set_option linter.unusedSimpArgs false
open Go.ChangeShapes Go.WideShapes Go.ChangeAt Go.RowKit
def usAt (ds : List Gr) (i : Nat) : Bool := ((ds[i]?).map (·.us)).getD false
def paAt (ds : List Gr) (i : Nat) : Int := ((ds[i]?).map (·.pa)).getD 0
def naAt (ds : List Gr) (i : Nat) : ByteArray := ((ds[i]?).map (·.na)).getD ByteArray.empty
def usedB (ds : List Gr) (g : Int) : Bool := decide (0 ≤ g) && decide (g < ds.length) && usAt ds g.toNat
def depF (ds : List Gr) : Nat → Nat → Int → Int
  | 0, _, _ => -1
  | f + 1, n, g => if usedB ds g = true then (if g = 0 then (n : Int) else depF ds f (n + 1) (paAt ds g.toNat)) else -1
def depB (ds : List Gr) (g : Int) : Int := depF ds (ds.length + 1) 0 g
def dupTo (ds : List Gr) (g : Nat) : Nat → Bool
  | 0 => false
  | k + 1 => dupTo ds g k || (decide (1 ≤ k) && (usAt ds k && (paAt ds k == paAt ds g) && ((naAt ds k).toList == (naAt ds g).toList)))
def placeB (ds : List Gr) (g : Nat) : Bool := !usAt ds g || (nameB (naAt ds g) && l1inN (depB ds g) 1 3 && !dupTo ds g g)
def treeTo (ds : List Gr) : Nat → Bool
  | 0 => true
  | k + 1 => treeTo ds k && (decide (k = 0) || placeB ds k)
def rootB (ds : List Gr) : Bool := decide (ds.length = 8) && (usAt ds 0 && (paAt ds 0 == -1) && ((naAt ds 0).toList == []))
def treeB (ds : List Gr) : Bool := rootB ds && treeTo ds 8

theorem gs_get {vs : List Gv} {k : Nat} (h : k < vs.length) : ∃ e, vs[k]? = some e ∧ usAt (gsD vs) k = e.d.us ∧ paAt (gsD vs) k = e.d.pa ∧ naAt (gsD vs) k = e.d.na := by
  obtain ⟨e, he⟩ := row_get h
  exact ⟨e, he, by simp [usAt, gsD, he], by simp [paAt, gsD, he], by simp [naAt, gsD, he]⟩
theorem gs_cells {W : World} {x : Value} {vs : List Gv} (h : SlG W x vs) : ∃ p cap, x = .slice p vs.length cap ∧ vs.length ≤ 9223372036854775807 ∧ ∀ k, k < vs.length → ∃ g o, p = some ⟨g, o, none⟩ ∧
    W.cell? ⟨g, o + k * 14, none⟩ = some (.bool (usAt (gsD vs) k)) ∧ W.cell? ⟨g, o + k * 14 + 1, none⟩ = some (.int .i64 (paAt (gsD vs) k)) ∧ W.cell? ⟨g, o + k * 14 + 2, none⟩ = some (.string (naAt (gsD vs) k)) := by
  rcases h.1 with ⟨rfl, a, cap, rfl⟩ | ⟨g, o, cap, rfl, hE, hl, hm⟩
  · exact ⟨a, cap, rfl, by simp, fun k hk => by simp at hk⟩
  · refine ⟨_, cap, rfl, by unfold maxLen at hm; omega, fun k hk => ⟨g, o, rfl, ?_⟩⟩
    obtain ⟨e, he, h1, h2, h3⟩ := gs_get hk
    obtain ⟨x0, x1, x2, _⟩ := gv_cells (hE k e he)
    rw [h1, h2, h3]
    exact ⟨x0, x1, x2⟩
theorem gsD_length (vs : List Gv) : (gsD vs).length = vs.length := by simp [gsD]

theorem spec_used (x : Value) (vs : List Gv) (g : Int) (w : World) (hs : SlG w x vs) :
    Calls Tryz.prog 55 #[x, .int .i64 g] w fun e w' => e = .returned (.bool (usedB (gsD vs) g)) ∧ w' = w := by
  obtain ⟨p, cap, rfl, hlen, hcell⟩ := gs_cells hs
  have hl := gsD_length vs
  by_cases a : 0 ≤ g
  · by_cases b : g < (vs.length : Int)
    · obtain ⟨k, rfl⟩ := Int.eq_ofNat_of_zero_le a
      obtain ⟨q, o, rfl, c0, c1, c2⟩ := hcell k (by omega)
      have hu : usedB (gsD vs) (k : Int) = usAt (gsD vs) k := by unfold usedB; rw [hl, decide_eq_true a, decide_eq_true b]; rfl
      rw [hu]
      clear hcell c1 c2 hs hu
      go_enter Tryz.func55, Tryz.ntmps55
      go_wp2
      go_ret
      exact ⟨rfl, rfl⟩
    · have hu : usedB (gsD vs) g = false := by unfold usedB; rw [hl, decide_eq_false b]; simp
      rw [hu]
      have hd : decide (g < (vs.length : Int)) = false := decide_eq_false b
      clear hcell hs hu
      go_enter Tryz.func55, Tryz.ntmps55
      go_wp2
      go_ret
      first | exact ⟨rfl, rfl⟩ | exact ⟨by simp [hd], rfl⟩
  · have hu : usedB (gsD vs) g = false := by unfold usedB; rw [decide_eq_false a]; simp
    rw [hu]
    clear hcell hs hu
    go_enter Tryz.func55, Tryz.ntmps55
    go_wp2
    go_ret
    exact ⟨rfl, rfl⟩
theorem usedB_yes {ds : List Gr} {g : Int} (h : usedB ds g = true) : ∃ k : Nat, g = (k : Int) ∧ k < ds.length ∧ usAt ds k = true := by
  unfold usedB at h
  simp only [Bool.and_eq_true, decide_eq_true_eq] at h
  obtain ⟨k, rfl⟩ := Int.eq_ofNat_of_zero_le h.1.1
  exact ⟨k, rfl, by omega, h.2⟩
theorem spec_depth (x : Value) (vs : List Gv) (g : Int) (w : World) (hs : SlG w x vs) (hf : vs.length ≤ 1048576) :
    Calls Tryz.prog 97 #[x, .int .i64 g] w fun e w' => e = .returned (.int .i64 (depB (gsD vs) g)) ∧ w' = w := by
  obtain ⟨p, cap, rfl, hlen, hcell⟩ := gs_cells hs
  have hl := gsD_length vs
  go_enter Tryz.func97, Tryz.ntmps97
  go_wp2
  go_loop [1, 5] (fun c i => ∃ (k : Nat) (m : Int), k ≤ vs.length + 1 ∧ i = .int .i64 k ∧ c = .int .i64 m ∧ depB (gsD vs) g = depF (gsD vs) (vs.length + 1 - k) k m) (fun _ i => vs.length + 1 - (intOf i).toNat)
  case atStart => exact ⟨0, g, by omega, rfl, rfl, by unfold depB; rw [hl]; rfl⟩
  case round =>
    obtain ⟨k, m, hk, rfl, rfl, hd⟩ := hrel
    by_cases hlt : k ≤ vs.length
    · have hlt' : (k : Int) ≤ (vs.length : Int) := by omega
      have hst : vs.length + 1 - k = (vs.length - k) + 1 := by omega
      rw [hst] at hd
      cases hu : usedB (gsD vs) m
      · have hd2 : depB (gsD vs) g = -1 := by rw [hd]; unfold depF; rw [hu]; rfl
        have HD : Hid (depB (gsD vs) g = -1) := hd2
        clear hd hd2 hcell
        go_wp2_with (go_at_call 55; refine (spec_used _ vs _ _ hs).mono ?_; rintro e w1 ⟨rfl, rfl⟩)
        go_ret
        exact ⟨by rw [HD.out]; rfl, rfl⟩
      · obtain ⟨j, rfl, hj, _⟩ := usedB_yes hu
        rw [hl] at hj
        by_cases h0 : (j : Int) = 0
        · have hd2 : depB (gsD vs) g = (k : Int) := by rw [hd]; unfold depF; rw [hu, if_pos rfl, if_pos h0]
          have HD : Hid (depB (gsD vs) g = (k : Int)) := hd2
          rw [h0] at hu
          clear hd hd2 hcell
          rw [h0]
          go_wp2_with (go_at_call 55; refine (spec_used _ vs _ _ hs).mono ?_; rintro e w1 ⟨rfl, rfl⟩)
          go_ret
          exact ⟨by rw [HD.out]; rfl, rfl⟩
        · have hd2 : depB (gsD vs) g = depF (gsD vs) (vs.length - k) (k + 1) (paAt (gsD vs) j) := by rw [hd]; conv => lhs; unfold depF
                                                                                                     rw [hu, if_pos rfl, if_neg h0]; rfl
          obtain ⟨q, o, rfl, c0, c1, c2⟩ := hcell j hj
          have HD : Hid (depB (gsD vs) g = depF (gsD vs) (vs.length - k) (k + 1) (paAt (gsD vs) j)) := hd2
          clear hd hd2 hcell c0 c2
          go_wp2_with (go_at_call 55; refine (spec_used _ vs _ _ hs).mono ?_; rintro e w1 ⟨rfl, rfl⟩)
          refine ⟨⟨k + 1, _, by omega, by go_num, rfl, ?_⟩, by simp [intOf]; omega⟩
          rw [HD.out]
          congr 1
          omega
    · have hlt' : ¬ (k : Int) ≤ (vs.length : Int) := by omega
      have hst : vs.length + 1 - k = 0 := by omega
      rw [hst] at hd
      have hd2 : depB (gsD vs) g = -1 := hd
      have HD : Hid (depB (gsD vs) g = -1) := hd2
      clear hd hd2 hcell
      go_wp2
      go_ret
      exact ⟨by rw [HD.out]; rfl, rfl⟩
theorem same_ways (ds : List Gr) (h g : Nat) : (usAt ds h = false) ∨ (usAt ds h = true ∧ paAt ds h ≠ paAt ds g ∧ (paAt ds h == paAt ds g) = false) ∨ (usAt ds h = true ∧ paAt ds h = paAt ds g ∧ ((naAt ds h).toList == (naAt ds g).toList) = false) ∨ (usAt ds h = true ∧ paAt ds h = paAt ds g ∧ ((naAt ds h).toList == (naAt ds g).toList) = true) := by
  cases usAt ds h
  · exact .inl rfl
  · by_cases hp : paAt ds h = paAt ds g
    · cases hn : ((naAt ds h).toList == (naAt ds g).toList)
      · exact .inr (.inr (.inl ⟨rfl, hp, rfl⟩))
      · exact .inr (.inr (.inr ⟨rfl, hp, rfl⟩))
    · exact .inr (.inl ⟨rfl, hp, by simpa using hp⟩)
theorem dup_next {ds : List Gr} {g h : Nat} (h1 : 1 ≤ h) (hd : dupTo ds g h = false) (hs : usAt ds h = false ∨ (paAt ds h == paAt ds g) = false ∨ ((naAt ds h).toList == (naAt ds g).toList) = false) : dupTo ds g (h + 1) = false := by
  unfold dupTo
  rw [hd]
  rcases hs with k | k | k <;> rw [k] <;> simp
theorem dup_hit {ds : List Gr} {g h : Nat} (h1 : 1 ≤ h) (u : usAt ds h = true) (p : paAt ds h = paAt ds g) (n : ((naAt ds h).toList == (naAt ds g).toList) = true) : dupTo ds g (h + 1) = true := by
  unfold dupTo
  rw [u, p, n]
  simp [h1]
theorem dup_mono {ds : List Gr} {g h : Nat} (hd : dupTo ds g h = true) : ∀ k, h ≤ k → dupTo ds g k = true := by
  intro k hk
  induction k with
  | zero => obtain rfl : h = 0 := by omega
            exact hd
  | succ k ih =>
    by_cases e : h = k + 1
    · subst e; exact hd
    · unfold dupTo; rw [ih (by omega)]; rfl
theorem treeTo_no {ds : List Gr} {g : Nat} (h : placeB ds g = false) (h0 : 0 < g) : ∀ k, g < k → treeTo ds k = false := by
  intro k hk
  induction k with
  | zero => omega
  | succ k ih =>
    unfold treeTo
    by_cases e : g = k
    · subst e; rw [h, decide_eq_false (by omega)]; simp
    · rw [ih (by omega)]; rfl
theorem place_unused {ds : List Gr} {g : Nat} (h : usAt ds g = false) : placeB ds g = true := by unfold placeB; rw [h]; rfl
theorem place_used {ds : List Gr} {g : Nat} (h : usAt ds g = true) : placeB ds g = (nameB (naAt ds g) && l1inN (depB ds g) 1 3 && !dupTo ds g g) := by unfold placeB; rw [h]; rfl
theorem treeTo_succ {ds : List Gr} {k : Nat} (h : treeTo ds k = true) (hp : placeB ds k = true) : treeTo ds (k + 1) = true := by unfold treeTo; rw [h, hp]; simp
theorem root_ways (ds : List Gr) : (ds.length ≠ 8 ∧ rootB ds = false) ∨ (ds.length = 8 ∧ usAt ds 0 = false ∧ rootB ds = false) ∨ (ds.length = 8 ∧ usAt ds 0 = true ∧ paAt ds 0 ≠ -1 ∧ rootB ds = false) ∨
    (ds.length = 8 ∧ usAt ds 0 = true ∧ paAt ds 0 = -1 ∧ ((naAt ds 0).toList == []) = false ∧ rootB ds = false) ∨ (ds.length = 8 ∧ usAt ds 0 = true ∧ paAt ds 0 = -1 ∧ ((naAt ds 0).toList == []) = true ∧ rootB ds = true) := by
  unfold rootB
  by_cases h8 : ds.length = 8
  · rw [decide_eq_true h8]
    cases hu : usAt ds 0
    · exact .inr (.inl ⟨h8, rfl, rfl⟩)
    · by_cases hp : paAt ds 0 = -1
      · cases hn : ((naAt ds 0).toList == [])
        · exact .inr (.inr (.inr (.inl ⟨h8, rfl, hp, rfl, by simp⟩)))
        · exact .inr (.inr (.inr (.inr ⟨h8, rfl, hp, rfl, by simp [hp]⟩)))
      · exact .inr (.inr (.inl ⟨h8, rfl, hp, by simp [hp]⟩))
  · exact .inl ⟨h8, by rw [decide_eq_false h8]; rfl⟩
theorem tree_noroot {ds : List Gr} (h : rootB ds = false) : treeB ds = false := by unfold treeB; rw [h]; rfl
theorem tree_root {ds : List Gr} (h : rootB ds = true) : treeB ds = treeTo ds 8 := by unfold treeB; rw [h]; rfl
theorem spec_tree (x : Value) (vs : List Gv) (w : World) (hs : SlG w x vs) (hf : GsFit vs) :
    Calls Tryz.prog 62 #[x] w fun e w' => e = .returned (.bool (treeB (gsD vs))) ∧ Below w.heap.size w w' := by
  obtain ⟨p, cap, rfl, hlen, hcell⟩ := gs_cells hs
  have hl := gsD_length vs
  have hna : ∀ k, k < vs.length → (naAt (gsD vs) k).size ≤ 1152921504606846976 := by
    intro k hk
    obtain ⟨e, he, _, _, h3⟩ := gs_get hk
    rw [h3]
    have := (hf.2 e (List.mem_of_getElem? he)).1
    omega
  rcases root_ways (gsD vs) with ⟨r1, r⟩ | ⟨r1, r2, r⟩ | ⟨r1, r2, r3, r⟩ | ⟨r1, r2, r3, r4, r⟩ | ⟨r1, r2, r3, r4, r⟩
  · rw [tree_noroot r]
    rw [hl] at r1
    have r1' : (vs.length : Int) ≠ 8 := by omega
    clear hcell hs hna r
    go_enter Tryz.func62, Tryz.ntmps62
    go_wp2
    go_ret
    exact ⟨rfl, Below.refl _ _⟩
  · rw [tree_noroot r]
    rw [hl] at r1
    obtain ⟨q, o, rfl, c0, c1, c2⟩ := hcell 0 (by omega)
    simp only [Nat.zero_mul, Nat.add_zero, r2, r1] at c0 c1 c2 ⊢
    clear hcell hs hna r r1 r2
    go_enter Tryz.func62, Tryz.ntmps62
    go_wp2
    go_ret
    exact ⟨rfl, Below.refl _ _⟩
  · rw [tree_noroot r]
    rw [hl] at r1
    obtain ⟨q, o, rfl, c0, c1, c2⟩ := hcell 0 (by omega)
    simp only [Nat.zero_mul, Nat.add_zero, r2, r1] at c0 c1 c2 ⊢
    clear hcell hs hna r r1 r2
    go_enter Tryz.func62, Tryz.ntmps62
    go_wp2
    go_ret
    exact ⟨rfl, Below.refl _ _⟩
  · rw [tree_noroot r]
    rw [hl] at r1
    obtain ⟨q, o, rfl, c0, c1, c2⟩ := hcell 0 (by omega)
    simp only [Nat.zero_mul, Nat.add_zero, r2, r1, r3] at c0 c1 c2 ⊢
    clear hcell hs hna r r1 r2 r3
    go_enter Tryz.func62, Tryz.ntmps62
    go_wp2
    go_ret
    exact ⟨rfl, Below.refl _ _⟩
  · rw [hl] at r1
    have hroot := tree_root r
    have hcell' := hcell
    obtain ⟨q, o, rfl, c0, c1, c2⟩ := hcell' 0 (by omega)
    simp only [Nat.zero_mul, Nat.add_zero, r2, r1, r3] at c0 c1 c2
    have hcg : ∀ W, Below w.heap.size w W → ∀ k, k < 8 → W.cell? ⟨q, o + k * 14, none⟩ = some (.bool (usAt (gsD vs) k)) ∧ W.cell? ⟨q, o + k * 14 + 1, none⟩ = some (.int .i64 (paAt (gsD vs) k)) ∧ W.cell? ⟨q, o + k * 14 + 2, none⟩ = some (.string (naAt (gsD vs) k)) := by
      intro W hb k hk
      obtain ⟨q', o', e', d0, d1, d2⟩ := hcell k (by omega)
      obtain ⟨rfl, rfl⟩ : q = q' ∧ o = o' := by simpa using e'
      exact ⟨(hb.cell (block_lt_of_cell d0)).trans d0, (hb.cell (block_lt_of_cell d1)).trans d1, (hb.cell (block_lt_of_cell d2)).trans d2⟩
    have HCG : Hid (∀ W, Below w.heap.size w W → ∀ k, k < 8 → W.cell? ⟨q, o + k * 14, none⟩ = some (.bool (usAt (gsD vs) k)) ∧ W.cell? ⟨q, o + k * 14 + 1, none⟩ = some (.int .i64 (paAt (gsD vs) k)) ∧ W.cell? ⟨q, o + k * 14 + 2, none⟩ = some (.string (naAt (gsD vs) k))) := hcg
    have HS : Hid (SlG w (.slice (some ⟨q, o, none⟩) vs.length cap) vs) := hs
    have HN : Hid (∀ k, k < vs.length → (naAt (gsD vs) k).size ≤ 1152921504606846976) := hna
    have HR : Hid (treeB (gsD vs) = treeTo (gsD vs) 8) := hroot
    clear hcell hcell' hcg hs hna r hroot hl
    rw [r1]
    go_enter Tryz.func62, Tryz.ntmps62
    go_wp2
    go_loopw [3] (fun i wr => ∃ k : Nat, 1 ≤ k ∧ k ≤ 8 ∧ i = .int .i64 k ∧ treeTo (gsD vs) k = true ∧ Below w.heap.size w wr) (fun i _ => 8 - (intOf i).toNat)
    case atStart => exact ⟨1, by omega, by omega, rfl, rfl, Below.refl _ _⟩
    case round =>
      obtain ⟨k, hk1, hk2, rfl, ht, acc⟩ := hrel
      have HTT : Hid (treeTo (gsD vs) k = true) := ht
      clear ht
      by_cases hlt : k < 8
      · obtain ⟨d0, d1, d2⟩ := HCG.out wr acc k hlt
        have hlt' : (k : Int) < 8 := by omega
        cases hu : usAt (gsD vs) k
        · rw [hu] at d0
          go_wp2
          go_roundw
          case rel => exact ⟨k + 1, by omega, by omega, by go_num, treeTo_succ HTT.out (place_unused hu), acc⟩
          case measure => simp [intOf]; omega
        · rw [hu] at d0
          have hpl := place_used hu
          cases hnm : nameB (naAt (gsD vs) k)
          · have hno := treeTo_no (ds := gsD vs) (g := k) (by rw [hpl, hnm]; rfl) (by omega) 8 hlt
            have HNO : Hid (treeB (gsD vs) = false) := HR.out.trans hno
            clear hno hpl
            go_wp2_with (go_at_call 96; refine (spec_name _ _ (HN.out k (by omega))).mono ?_; rintro e w1 ⟨rfl, rfl⟩)
            go_ret
            exact ⟨by rw [HNO.out]; rfl, acc⟩
          · cases hdp : l1inN (depB (gsD vs) k) 1 3
            · have hno := treeTo_no (ds := gsD vs) (g := k) (by rw [hpl, hnm, hdp]; rfl) (by omega) 8 hlt
              have HNO : Hid (treeB (gsD vs) = false) := HR.out.trans hno
              clear hno hpl
              go_wp2_with (first | (go_at_call 96; refine (spec_name _ _ (HN.out k (by omega))).mono ?_; rintro e w1 ⟨rfl, rfl⟩) | (go_at_call 97; refine (spec_depth _ vs _ _ (r1 ▸ HS.out.below acc) (by omega)).mono ?_; rintro e w1 ⟨rfl, rfl⟩) | (go_at_call 33; refine (l1In_name _ _ _ _).mono ?_; rintro e w1 ⟨rfl, rfl⟩))
              go_ret
              exact ⟨by rw [HNO.out]; rfl, acc⟩
            · rw [hnm, hdp] at hpl
              have HPL : Hid (placeB (gsD vs) k = (true && true && !dupTo (gsD vs) k k)) := hpl
              clear hpl
              go_wp2_with (first | (go_at_call 96; refine (spec_name _ _ (HN.out k (by omega))).mono ?_; rintro e w1 ⟨rfl, rfl⟩) | (go_at_call 97; refine (spec_depth _ vs _ _ (r1 ▸ HS.out.below acc) (by omega)).mono ?_; rintro e w1 ⟨rfl, rfl⟩) | (go_at_call 33; refine (l1In_name _ _ _ _).mono ?_; rintro e w1 ⟨rfl, rfl⟩))
              go_loopw [4] (fun i wr2 => ∃ j : Nat, 1 ≤ j ∧ j ≤ k ∧ i = .int .i64 j ∧ dupTo (gsD vs) k j = false ∧ Below w.heap.size w wr2) (fun i _ => k - (intOf i).toNat)
              case atStart => exact ⟨1, by omega, by omega, rfl, by simp [dupTo], acc⟩
              case round =>
                clear d0 d1 d2
                obtain ⟨j, hj1, hj2, rfl, hd, acc2⟩ := hrel
                have HD : Hid (dupTo (gsD vs) k j = false) := hd
                clear hd
                by_cases hjk : j < k
                · have hjk' : (j : Int) < (k : Int) := by omega
                  have hj8 : (j : Int) < 8 := by omega
                  obtain ⟨d0, d1, d2⟩ := HCG.out _ acc2 k hlt
                  obtain ⟨e0, e1, e2⟩ := HCG.out _ acc2 j (by omega)
                  rcases same_ways (gsD vs) j k with u | ⟨u, v, v'⟩ | ⟨u, v, n⟩ | ⟨u, v, n⟩
                  · have HX : Hid (dupTo (gsD vs) k (j + 1) = false) := dup_next hj1 HD.out (.inl u)
                    rw [u] at e0
                    go_wp2
                    go_quiet (fail)
                    go_wp2
                    go_roundw
                    case rel => exact ⟨j + 1, by omega, by omega, by go_num, HX.out, below_drewN acc2 _⟩
                    case measure => simp [intOf]; omega
                  · have HX : Hid (dupTo (gsD vs) k (j + 1) = false) := dup_next hj1 HD.out (.inr (.inl v'))
                    rw [u] at e0
                    go_wp2
                    go_quiet (fail)
                    go_wp2
                    go_roundw
                    case rel => exact ⟨j + 1, by omega, by omega, by go_num, HX.out, below_drewN acc2 _⟩
                    case measure => simp [intOf]; omega
                  · have HX : Hid (dupTo (gsD vs) k (j + 1) = false) := dup_next hj1 HD.out (.inr (.inr n))
                    rw [u] at e0
                    rw [v] at e1
                    clear v
                    go_wp2
                    go_quiet (fail)
                    go_wp2
                    go_roundw
                    case rel => exact ⟨j + 1, by omega, by omega, by go_num, HX.out, below_drewN acc2 _⟩
                    case measure => simp [intOf]; omega
                  · have hdk := dup_mono (dup_hit hj1 u v n) k (by omega)
                    have hno := treeTo_no (ds := gsD vs) (g := k) (by rw [HPL.out, hdk]; rfl) (by omega) 8 hlt
                    have HNO : Hid (treeB (gsD vs) = false) := HR.out.trans hno
                    clear hno hdk
                    rw [u] at e0
                    rw [v] at e1
                    clear v
                    go_wp2
                    go_quiet (fail)
                    go_wp2
                    go_ret
                    exact ⟨by rw [HNO.out]; rfl, below_drewN acc2 _⟩
                · have hjk' : ¬ (j : Int) < (k : Int) := by omega
                  obtain rfl : j = k := by omega
                  have hpl : placeB (gsD vs) j = true := by rw [HPL.out, HD.out]; rfl
                  have HP : Hid (placeB (gsD vs) j = true) := hpl
                  clear hpl
                  go_wp2
                  go_roundw
                  case rel => exact ⟨j + 1, by omega, by omega, by go_num, treeTo_succ HTT.out HP.out, acc2⟩
                  case measure => simp [intOf]; omega
      · have hlt' : ¬ (k : Int) < 8 := by omega
        obtain rfl : k = 8 := by omega
        go_wp2
        go_ret
        exact ⟨by rw [HR.out, HTT.out]; rfl, acc⟩
end Go.Proofs.YtnmmglkigiakaaaGreat
