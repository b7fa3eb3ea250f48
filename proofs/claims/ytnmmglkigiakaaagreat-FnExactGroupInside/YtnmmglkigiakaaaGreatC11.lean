/- TreeOk, TreeDepth: of the program and of its specification. TreeDepth: of the program and of its specification. TreeUnder: of the specification; the program's walk along the parents. -/
import Derived.Test.YtnmmglkigiakaaaGreatC10
namespace Go.Proofs.YtnmmglkigiakaaaGreat
set_option linter.unusedVariables false
set_option linter.unusedSimpArgs false
open Go.ChangeShapes Go.WideShapes Go.ChangeAt Go.RowKit

theorem tree_hasroot {ds : List Gr} (h : treeB ds = true) : rootB ds = true := by
  cases hr : rootB ds
  · rw [tree_noroot hr] at h; cases h
  · rfl
theorem treeOf_any (x : Value) (vs : List Gv) (w : World) (hs : SlG w x vs) (hf : GsFit vs) :
    Calls Tryz.prog 168 #[x] w fun e w' => TreeIs w w' (gsD vs) e ∧ Below w.heap.size w w' := by
  cases hr : rootB (gsD vs)
  · refine (treeOf_noroot x vs w hs hr).mono ?_
    rintro e w' ⟨rfl, hb⟩
    exact ⟨.inl ⟨tree_noroot hr, rfl⟩, hb⟩
  · exact treeOf_root x vs w hs hf hr
theorem at_none (ds : List Gr) (nb : Nat → Nat) (g : Int) : atP ds nb 0 g = .pointer none := by
  unfold atP
  split
  · exact tP_past (by omega)
  · rfl
theorem at_root {ds : List Gr} (nb : Nat → Nat) (h : usAt ds 0 = true) : atP ds nb 8 0 = .pointer (some ⟨nb 0, 0, none⟩) := by
  unfold atP
  rw [if_pos (by omega)]
  exact tP_used (i := 0) (by omega) h
set_option maxHeartbeats 2000000 in
theorem impl_treeOk (x : Value) (vs : List Gv) (w : World) (hs : SlG w x vs) (hf : GsFit vs) :
    Calls Tryz.prog 139 #[x] w fun e w' => e = .returned (.bool (treeB (gsD vs))) ∧ Below w.heap.size w w' := by
  go_enter Tryz.func139, Tryz.ntmps139
  go_wp2_with fail
  refine (treeOf_any x vs w hs hf).mono ?_
  rintro e w1 ⟨⟨ht, rfl⟩ | ⟨ht, nb, mb, Dm, rfl, htr, _⟩, hb1⟩
  · have HT : Hid (treeB (gsD vs) = false) := ht
    clear ht
    simp only []
    go_at_K
    go_wp2_with fail
    refine (at_any _ _ _ _ _).mono ?_
    rw [at_none]
    rintro e w2 ⟨rfl, hb2⟩
    simp only []
    go_at_K
    go_wp2_with fail
    go_ret
    exact ⟨by rw [HT.out]; rfl, hb1.trans (hb2.mono hb1.size)⟩
  · have HT : Hid (treeB (gsD vs) = true) := ht
    clear ht
    have hr := htr.root
    simp only []
    go_at_K
    go_wp2_with fail
    refine (at_any _ _ _ _ _).mono ?_
    rw [at_root nb hr]
    rintro e w2 ⟨rfl, hb2⟩
    simp only []
    go_at_K
    go_wp2_with fail
    go_ret
    exact ⟨by rw [HT.out]; rfl, hb1.trans (hb2.mono hb1.size)⟩
end Go.Proofs.YtnmmglkigiakaaaGreat
namespace Go.Proofs.YtnmmglkigiakaaaGreat
set_option linter.unusedVariables false
set_option linter.unusedSimpArgs false
open Go.ChangeShapes Go.WideShapes Go.ChangeAt Go.RowKit

theorem treeTo_place {ds : List Gr} (h : treeTo ds 8 = true) {i : Nat} (h1 : 1 ≤ i) (h8 : i < 8) : placeB ds i = true := by
  cases hp : placeB ds i
  · rw [treeTo_no hp (by omega) 8 h8] at h; cases h
  · rfl
theorem tree_within {ds : List Gr} (ht : treeB ds = true) (h8 : ds.length = 8) (h : Hung ds 8) (hr : usAt ds 0 = true) {i : Nat} (hi : i < 8) (hu : usAt ds i = true) : withinF ds 3 i = true := by
  by_cases h0 : i = 0
  · subst h0; simp [withinF]
  · rw [tree_root (tree_hasroot ht)] at ht
    have hp := treeTo_place ht (i := i) (by omega) hi
    rw [place_used hu, dep_within h8 h hr hi h0 hu] at hp
    simp only [Bool.and_eq_true] at hp
    exact hp.1.2
/-- a step up takes one off the depth. -/
theorem dep_step {ds : List Gr} (ht : treeB ds = true) (h8 : ds.length = 8) (h : Hung ds 8) (hr : usAt ds 0 = true) {i : Nat} (hi : i < 8) (hu : usAt ds i = true) :
    (i = 0 ∧ depB ds ((0 : Nat) : Int) = 0) ∨ (i ≠ 0 ∧ ∃ j : Nat, paAt ds i = (j : Int) ∧ j < 8 ∧ usAt ds j = true ∧ depB ds (i : Int) = depB ds (j : Int) + 1 ∧ 0 ≤ depB ds (j : Int) ∧ depB ds (i : Int) ≤ 3) := by
  by_cases h0 : i = 0
  · subst h0
    refine .inl ⟨rfl, ?_⟩
    unfold depB
    rw [h8, depF_zero h8 hr]
    rfl
  · obtain ⟨j, hj, hj8, uj⟩ := h.up h8 hi h0 hu
    have hw := tree_within ht h8 h hr hi hu
    have hw2 : withinF ds 2 j = true := by
      unfold withinF at hw
      rw [hj, Int.toNat_natCast] at hw
      simpa [h0] using hw
    obtain ⟨d, hd, _, hf⟩ := within_dep h8 h hr 2 j hj8 uj hw2
    have e1 : depB ds (j : Int) = d := by
      unfold depB
      rw [h8, hf 9 0 (by omega)]
      simp
    have e2 : depB ds (i : Int) = (d : Int) + 1 := by
      unfold depB
      rw [h8, depF_up h8 hi h0 hu hj, hf 8 1 (by omega)]
      omega
    exact .inr ⟨h0, j, hj, hj8, uj, by omega, by omega, by omega⟩
def depthM (ds : List Gr) (g : Int) : Int := if treeB ds = true ∧ usedB ds g = true then depB ds g else -1
end Go.Proofs.YtnmmglkigiakaaaGreat
namespace Go.Proofs.YtnmmglkigiakaaaGreat
set_option linter.unusedVariables false
set_option linter.unusedSimpArgs false
open Go.ChangeShapes Go.WideShapes Go.ChangeAt Go.RowKit

def underF (ds : List Gr) : Nat → Int → Nat → Bool
  | 0, _, _ => false
  | f + 1, g, h => ((h : Int) == g) || (h != 0 && underF ds f g (paAt ds h).toNat)
def underD (ds : List Gr) (g : Int) (h : Nat) : Bool := underF ds ((depB ds (h : Int)).toNat + 1) g h
def underM (ds : List Gr) (g h : Int) : Bool := treeB ds && (usedB ds g && (usedB ds h && underD ds g h.toNat))
theorem under_hit (ds : List Gr) (g : Int) (h : Nat) (e : (h : Int) = g) : underD ds g h = true := by
  unfold underD underF
  rw [e]; simp
theorem under_root {ds : List Gr} {g : Int} (e : ((0 : Nat) : Int) ≠ g) : underD ds g 0 = false := by
  unfold underD underF
  have : (((0 : Nat) : Int) == g) = false := by simpa using e
  rw [this]; rfl
theorem under_up {ds : List Gr} {g : Int} {h j : Nat} (e : (h : Int) ≠ g) (h0 : h ≠ 0) (hp : paAt ds h = (j : Int)) (hd : depB ds (h : Int) = depB ds (j : Int) + 1) (hd0 : 0 ≤ depB ds (j : Int)) : underD ds g h = underD ds g j := by
  unfold underD
  have e1 : ((h : Int) == g) = false := by simpa using e
  have e2 : (h != 0) = true := by simpa using h0
  conv => lhs; unfold underF
  rw [e1, e2, hp, Int.toNat_natCast, hd]
  have : (depB ds (j : Int) + 1).toNat = (depB ds (j : Int)).toNat + 1 := by omega
  rw [this]
  rfl
theorem tree_facts {ds : List Gr} (ht : treeB ds = true) : ds.length = 8 ∧ usAt ds 0 = true := by
  have hr := tree_hasroot ht
  rcases root_ways ds with ⟨r1, r⟩ | ⟨r1, r2, r⟩ | ⟨r1, r2, r3, r⟩ | ⟨r1, r2, r3, r4, r⟩ | ⟨r1, r2, r3, r4, r⟩
  all_goals first | (rw [r] at hr; cases hr; done) | exact ⟨r1, r2⟩
/-- a tree hangs. -/
theorem tree_hung {ds : List Gr} (ht : treeB ds = true) : Hung ds 8 := by
  obtain ⟨h8, hu0⟩ := tree_facts ht
  rw [tree_root (tree_hasroot ht)] at ht
  intro i h1 hi hu
  have hp := treeTo_place ht h1 hi
  cases hpu : usedB ds (paAt ds i)
  · rw [place_orphan h8 h1 hi hu hpu] at hp; cases hp
  · rw [place_used hu] at hp
    simp only [Bool.and_eq_true, Bool.not_eq_true'] at hp
    exact ⟨rfl, hp.1.1, hp.2⟩
theorem tree_step {ds : List Gr} (ht : treeB ds = true) {i : Nat} (hi : i < 8) (hu : usAt ds i = true) :
    (i = 0 ∧ depB ds ((0 : Nat) : Int) = 0) ∨ (i ≠ 0 ∧ ∃ j : Nat, paAt ds i = (j : Int) ∧ j < 8 ∧ usAt ds j = true ∧ depB ds (i : Int) = depB ds (j : Int) + 1 ∧ 0 ≤ depB ds (j : Int) ∧ depB ds (i : Int) ≤ 3) :=
  dep_step ht (tree_facts ht).1 (tree_hung ht) (tree_facts ht).2 hi hu

set_option maxHeartbeats 8000000 in
theorem spec_under (x : Value) (vs : List Gv) (g h : Int) (w : World) (hs : SlG w x vs) (hf : GsFit vs) :
    Calls Tryz.prog 93 #[x, .int .i64 g, .int .i64 h] w fun e w' => e = .returned (.bool (underM (gsD vs) g h)) ∧ Below w.heap.size w w' := by
  have HS : Hid (SlG w x vs) := hs
  have acc := Below.refl w.heap.size w
  cases ht : treeB (gsD vs)
  · have hd : underM (gsD vs) g h = false := by unfold underM; rw [ht]; rfl
    rw [hd]
    clear hd
    go_enter Tryz.func93, Tryz.ntmps93
    go_wp2_with (go_at_call 62; refine (spec_tree _ vs _ (HS.out.below acc) hf).mono ?_; rintro e w1 ⟨rfl, hb1⟩; replace acc := acc.trans (hb1.mono acc.size); clear hb1)
    go_ret
    exact ⟨rfl, acc⟩
  · cases hu : usedB (gsD vs) g
    · have hd : underM (gsD vs) g h = false := by unfold underM; rw [hu]; simp
      rw [hd]
      clear hd
      go_enter Tryz.func93, Tryz.ntmps93
      go_wp2_with (first | (go_at_call 62; refine (spec_tree _ vs _ (HS.out.below acc) hf).mono ?_; rintro e w1 ⟨rfl, hb1⟩; replace acc := acc.trans (hb1.mono acc.size); clear hb1) | (go_at_call 55; refine (spec_used _ vs _ _ (HS.out.below acc)).mono ?_; rintro e w2 ⟨rfl, rfl⟩))
      go_ret
      exact ⟨rfl, acc⟩
    · cases hu2 : usedB (gsD vs) h
      · have hd : underM (gsD vs) g h = false := by unfold underM; rw [hu2]; simp
        rw [hd]
        clear hd
        go_enter Tryz.func93, Tryz.ntmps93
        go_wp2_with (first | (go_at_call 62; refine (spec_tree _ vs _ (HS.out.below acc) hf).mono ?_; rintro e w1 ⟨rfl, hb1⟩; replace acc := acc.trans (hb1.mono acc.size); clear hb1) | (go_at_call 55; refine (spec_used _ vs _ _ (HS.out.below acc)).mono ?_; rintro e w2 ⟨rfl, rfl⟩))
        go_ret
        exact ⟨rfl, acc⟩
      · obtain ⟨k, rfl, hk, uk⟩ := usedB_yes hu2
        have h8 := (tree_facts ht).1
        have hv8 : vs.length = 8 := by rw [← gsD_length]; exact h8
        rw [h8] at hk
        have HU : Hid (underM (gsD vs) g (k : Int) = underD (gsD vs) g k) := by show underM _ _ _ = _; unfold underM; rw [ht, hu, hu2, Int.toNat_natCast]; rfl
        obtain ⟨q, o, cap, rfl, hq, hrow⟩ := groups8 hs hv8
        have HRW : Hid (∀ W, Below w.heap.size w W → ∀ k, k < 8 → ∃ e, vs[k]? = some e ∧ W.rangeAt q (o + k * 14) (gvC e) ∧ Slices e) := hrow
        have HTB : Hid (treeB (gsD vs) = true) := ht
        clear hrow hs h8
        go_enter Tryz.func93, Tryz.ntmps93
        go_wp2_with (first | (go_at_call 62; refine (spec_tree _ vs _ (HS.out.below acc) hf).mono ?_; rintro e w1 ⟨rfl, hb1⟩; replace acc := acc.trans (hb1.mono acc.size); clear hb1) | (go_at_call 55; refine (spec_used _ vs _ _ (HS.out.below acc)).mono ?_; rintro e w2 ⟨rfl, rfl⟩))
        go_loop [2] (fun c => ∃ j : Nat, j < 8 ∧ usAt (gsD vs) j = true ∧ c = .int .i64 (j : Int) ∧ underD (gsD vs) g k = underD (gsD vs) g j) (fun c => (depB (gsD vs) (intOf c)).toNat)
        case atStart => exact ⟨k, hk, uk, rfl, rfl⟩
        case round =>
          obtain ⟨j, hj, uj, rfl, hd⟩ := hrel
          have hj8 : (j : Int) < 8 := by omega
          have HD : Hid (underD (gsD vs) g k = underD (gsD vs) g j) := hd
          clear hd
          by_cases hjg : (j : Int) = g
          · have HX : Hid (underM (gsD vs) g (k : Int) = true) := by show underM _ _ _ = _; rw [HU.out, HD.out, under_hit _ _ _ hjg]
            subst hjg
            clear HD HU
            go_wp2
            go_ret
            exact ⟨by rw [HX.out]; rfl, acc⟩
          · rcases tree_step HTB.out hj uj with ⟨rfl, hz⟩ | ⟨h0, j', hp, hj', uj', f1, f2, f3⟩
            · have HX : Hid (underM (gsD vs) g (k : Int) = false) := by show underM _ _ _ = _; rw [HU.out, HD.out, under_root hjg]
              clear HD HU hz
              simp only [Int.natCast_zero] at hjg ⊢
              go_wp2
              go_ret
              exact ⟨by rw [HX.out]; rfl, acc⟩
            · have h0' : (j : Int) ≠ 0 := by omega
              obtain ⟨e, he, hr, _⟩ := HRW.out _ acc j hj
              obtain ⟨x0, x1, _⟩ := gv_cells hr
              rw [← (gs_at he).2.1, hp] at x1
              have HX : Hid (underD (gsD vs) g k = underD (gsD vs) g j' ∧ (depB (gsD vs) (j' : Int)).toNat < (depB (gsD vs) (j : Int)).toNat) := by
                refine ⟨?_, by omega⟩
                rw [HD.out, under_up hjg h0 hp f1 f2]
              clear HD x0 hr he f1 f2 f3 hp
              go_wp2
              exact ⟨⟨j', hj', uj', rfl, HX.out.1⟩, by have := HX.out.2; simp only [intOf]; exact this⟩
end Go.Proofs.YtnmmglkigiakaaaGreat
