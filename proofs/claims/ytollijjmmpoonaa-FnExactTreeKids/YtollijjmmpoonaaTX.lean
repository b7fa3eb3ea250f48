/- The program's treeOf. -/
import Derived.Test.YtollijjmmpoonaaTW
namespace Go.Proofs.Ytollijjmmpoonaa
set_option linter.unusedVariables false
set_option linter.unusedSimpArgs false
open Go.ChangeShapes Go.WideShapes Go.ChangeAt Go.RowKit

def parTo (ds : List Gr) (k i : Nat) : Option Nat := if 1 ≤ i ∧ i < k ∧ usAt ds i = true then some (paAt ds i).toNat else none
theorem NS.par {W : World} {ds : List Gr} {n c B : Nat} {nb mb : Nat → Nat} {par par' : Nat → Option Nat} {Dm : Nat → DataW Unit} (h : NS W ds n nb mb par Dm c B) (hp : ∀ i, i < n → usAt ds i = true → par i = par' i) : NS W ds n nb mb par' Dm c B :=
  ⟨fun i hi hu => by have := h.node i hi hu; unfold nodeC at this ⊢; rw [← hp i hi hu]; exact this, h.map, h.low, h.inj, h.sep⟩
theorem hung_step {ds : List Gr} {k : Nat} (h : Hung ds k) (h1 : usedB ds (paAt ds k) = true) (h2 : nameB (naAt ds k) = true) (h3 : dupTo ds k k = false) : Hung ds (k + 1) := by
  intro i hi hik hu
  rcases Nat.lt_or_ge i k with h' | h'
  · exact h i hi h' hu
  · obtain rfl : i = k := by omega
    exact ⟨h1, h2, h3⟩
theorem hung_skip {ds : List Gr} {k : Nat} (h : Hung ds k) (hu : usAt ds k = false ∨ k = 0) : Hung ds (k + 1) := by
  intro i hi hik hui
  rcases Nat.lt_or_ge i k with h' | h'
  · exact h i hi h' hui
  · obtain rfl : i = k := by omega
    rcases hu with hu | hu
    · rw [hu] at hui; cases hui
    · omega
theorem tree_bad {ds : List Gr} {k : Nat} (h1 : 1 ≤ k) (h8 : k < 8) (h : placeB ds k = false) : treeB ds = false := by
  unfold treeB
  rw [treeTo_no h (by omega) 8 h8]
  simp
theorem place_orphan {ds : List Gr} (h8 : ds.length = 8) {k : Nat} (h1 : 1 ≤ k) (hk : k < 8) (hu : usAt ds k = true) (hp : usedB ds (paAt ds k) = false) : placeB ds k = false := by
  rw [place_used hu]
  have : depB ds (k : Int) = -1 := by
    unfold depB
    rw [h8]
    unfold depF
    rw [usedB_nat h8 hk hu, if_pos rfl, if_neg (by omega), Int.toNat_natCast]
    unfold depF
    rw [hp]
    rfl
  rw [this, show l1inN (-1) 1 3 = false from by decide]
  simp
theorem place_name {ds : List Gr} {k : Nat} (hu : usAt ds k = true) (hp : nameB (naAt ds k) = false) : placeB ds k = false := by rw [place_used hu, hp]; rfl
theorem place_dup {ds : List Gr} {k : Nat} (hu : usAt ds k = true) (hp : dupTo ds k k = true) : placeB ds k = false := by rw [place_used hu, hp]; simp
theorem tree_far {ds : List Gr} (h8 : ds.length = 8) (h : Hung ds 8) (hr : usAt ds 0 = true) {i : Nat} (hi : i < 8) (hu : usAt ds i = true) (hw : withinF ds 3 i = false) : treeB ds = false := by
  have h0 : i ≠ 0 := by intro e; subst e; simp [withinF] at hw
  refine tree_bad (k := i) (by omega) hi ?_
  rw [place_used hu, dep_within h8 h hr hi h0 hu, hw]
  simp
theorem tree_all {ds : List Gr} (hr : rootB ds = true) (h8 : ds.length = 8) (h : Hung ds 8) (h0 : usAt ds 0 = true) (hw : ∀ i, i < 8 → usAt ds i = true → withinF ds 3 i = true) : treeB ds = true := by
  rw [tree_root hr]
  have : ∀ k, k ≤ 8 → treeTo ds k = true := by
    intro k
    induction k with
    | zero => intro _; rfl
    | succ k ih =>
      intro hk
      by_cases e : k = 0
      · subst e; rfl
      · refine treeTo_succ (ih (by omega)) ?_
        cases hu : usAt ds k
        · exact place_unused hu
        · obtain ⟨_, h2, h3⟩ := h k (by omega) (by omega) hu
          rw [place_used hu, dep_within h8 h h0 (by omega) e hu, hw k (by omega) hu, h2, h3]
          rfl
  exact this 8 (by omega)
theorem rootV_of {ds : List Gr} {d : Gr} (h : ds[0]? = some d) (h8 : ds.length = 8) : rootB ds = rootV d := by
  unfold rootB rootV usAt paAt naAt
  rw [h, decide_eq_true h8]
  rfl

/-- the answer of treeOf. -/
def TreeIs (w w' : World) (ds : List Gr) (e : Ending) : Prop :=
  (treeB ds = false ∧ e = .returned (.agg (tRow ds (fun _ => 0) 0))) ∨ (treeB ds = true ∧ ∃ nb mb Dm, e = .returned (.agg (tRow ds nb 8)) ∧ TR w' ds nb mb Dm w.heap.size ∧ MO ds 8 Dm)
set_option maxRecDepth 100000 in
set_option maxHeartbeats 16000000 in
theorem treeOf_noroot (x : Value) (vs : List Gv) (w : World) (hs : SlG w x vs) (hr : rootB (gsD vs) = false) :
    Calls Try.prog 33 #[x] w fun e w' => e = .returned (.agg (tRow (gsD vs) (fun _ => 0) 0)) ∧ Below w.heap.size w w' := by
  rw [tRow_none]
  by_cases h8 : vs.length = 8
  · obtain ⟨q, o, cap, rfl, hq, hrow⟩ := groups8 hs h8
    have hb1 : ∀ A, Below w.heap.size w (w.alloc A) := fun A => (Below.refl _ _).alloc (Nat.le_refl _) _
    obtain ⟨e, he, hrg, ⟨p1, l1, c1, e1⟩, ⟨p2, l2, c2, e2⟩, p3, l3, c3, e3⟩ := hrow _ (hb1 (.cells #[.pointer none, .pointer none, .pointer none, .pointer none, .pointer none, .pointer none, .pointer none, .pointer none] 56 (0, 0))) 0 (by omega)
    obtain ⟨x0, x1, x2, x3, x4, x5, x6, x7, x8, x9, x10, x11, x12, x13⟩ := gv_cells hrg
    have hv : rootV e.d = false := by rw [← rootV_of (ds := gsD vs) (by simp [gsD, he]) (by rw [gsD_length]; exact h8)]; exact hr
    simp only [Nat.zero_mul, Nat.add_zero] at x0 x1 x2 x3 x4 x5 x6 x7 x8 x9 x10 x11 x12 x13
    clear hrow hs hrg
    go_enter Try.func33, Try.ntmps33
    go_wp2_with fail
    have hroot := isRoot_any e
    unfold gvV at hroot
    rw [e1, e2, e3] at hroot
    refine (hroot _).mono ?_
    clear hroot
    rintro e0 w1 ⟨rfl, hb⟩
    obtain ⟨hbl, hX, hlt⟩ := box_kept hb
    obtain ⟨k0, k1, k2, k3, k4, k5, k6, k7⟩ := cells8 hX
    have f0 := fbox hX 0
    have f1 := fbox hX 1
    have f2 := fbox hX 2
    have f3 := fbox hX 3
    have f4 := fbox hX 4
    have f5 := fbox hX 5
    have f6 := fbox hX 6
    have f7 := fbox hX 7
    rw [hv]
    simp only []
    go_at_K
    go_wp2_with fail
    refine bodyPost_ret (results_mid rfl _ _ w.heap.size 0 [.pointer none, .pointer none, .pointer none, .pointer none, .pointer none, .pointer none, .pointer none, .pointer none] _ rfl (World.rangeAt_setCells_same w1 w.heap.size 0 [.pointer none, .pointer none, .pointer none, .pointer none, .pointer none, .pointer none, .pointer none, .pointer none] (there_of_block hX)) Try.underlying56 rfl info_tree) rfl ?_
    exact ⟨rfl, hbl.trans ((Kept.setCells w1 w.heap.size 0 [.pointer none, .pointer none, .pointer none, .pointer none, .pointer none, .pointer none, .pointer none, .pointer none]).toBelow hbl.size (by intro k hk; omega))⟩
  · obtain ⟨p, cap, rfl, hlen, _⟩ := gs_cells hs
    have h8' : (vs.length : Int) ≠ 8 := by omega
    clear hs
    go_enter Try.func33, Try.ntmps33
    go_wp2
    go_returns
    exact ⟨rfl, by go_grown⟩
end Go.Proofs.Ytollijjmmpoonaa
