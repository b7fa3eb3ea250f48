/- The tree of groups as plain functions; contracts of the specification's small functions on it. -/
import Derived.Test.YtollijjmmpoonaaGZ
import Derived.Test.YtollijjmmpoonaaNM
namespace Go.Proofs.Ytollijjmmpoonaa
set_option linter.unusedVariables false
set_option linter.unusedSimpArgs false
open Go.ChangeShapes Go.WideShapes Go.ChangeAt Go.RowKit

def usAt (ds : List Gr) (i : Nat) : Bool := ((ds[i]?).map (·.us)).getD false
def paAt (ds : List Gr) (i : Nat) : Int := ((ds[i]?).map (·.pa)).getD 0
def naAt (ds : List Gr) (i : Nat) : ByteArray := ((ds[i]?).map (·.na)).getD ByteArray.empty
def usedB (ds : List Gr) (g : Int) : Bool := decide (0 ≤ g) && decide (g < ds.length) && usAt ds g.toNat
def depF (ds : List Gr) : Nat → Nat → Int → Int
  | 0, _, _ => -1
  | f + 1, n, g => if usedB ds g = true then (if g = 0 then (n : Int) else depF ds f (n + 1) (paAt ds g.toNat)) else -1
def depB (ds : List Gr) (g : Int) : Int := depF ds (ds.length + 1) 0 g
theorem depF_bd (ds : List Gr) (f n : Nat) (g : Int) : -1 ≤ depF ds f n g ∧ depF ds f n g ≤ (n : Int) + f := by
  induction f generalizing n g with
  | zero => exact ⟨by show (-1 : Int) ≤ -1; omega, by show (-1 : Int) ≤ _; omega⟩
  | succ f ih =>
    unfold depF
    split
    · split
      · omega
      · have := ih (n + 1) (paAt ds g.toNat)
        omega
    · omega
/-- an earlier one, from 1 up to below k, has the parent and the name of g. -/
def dupTo (ds : List Gr) (g : Nat) : Nat → Bool
  | 0 => false
  | k + 1 => dupTo ds g k || (decide (1 ≤ k) && (usAt ds k && (paAt ds k == paAt ds g) && ((naAt ds k).toList == (naAt ds g).toList)))
def placeB (ds : List Gr) (g : Nat) : Bool := !usAt ds g || (nameB (naAt ds g) && l1inN (depB ds g) 1 3 && !dupTo ds g g)
def treeTo (ds : List Gr) : Nat → Bool
  | 0 => true
  | k + 1 => treeTo ds k && (decide (k = 0) || placeB ds k)
def rootB (ds : List Gr) : Bool := decide (ds.length = 8) && (usAt ds 0 && (paAt ds 0 == -1) && ((naAt ds 0).toList == []))
def treeB (ds : List Gr) : Bool := rootB ds && treeTo ds 8

theorem gs_get {vs : List Gv} {k : Nat} (h : k < vs.length) : ∃ e, vs[k]? = some e ∧ usAt (gsD vs) k = e.d.us ∧ paAt (gsD vs) k = e.d.pa ∧ naAt (gsD vs) k = e.d.na := by
  obtain ⟨e, he⟩ := row_get h
  exact ⟨e, he, by simp [usAt, gsD, he], by simp [paAt, gsD, he], by simp [naAt, gsD, he]⟩
/-- what the walk reads of a place. -/
theorem gs_cells {W : World} {x : Value} {vs : List Gv} (h : SlG W x vs) : ∃ p cap, x = .slice p vs.length cap ∧ vs.length ≤ 9223372036854775807 ∧ ∀ k, k < vs.length → ∃ g o, p = some ⟨g, o, none⟩ ∧
    W.cell? ⟨g, o + k * 14, none⟩ = some (.bool (usAt (gsD vs) k)) ∧ W.cell? ⟨g, o + k * 14 + 1, none⟩ = some (.int .i64 (paAt (gsD vs) k)) ∧ W.cell? ⟨g, o + k * 14 + 2, none⟩ = some (.string (naAt (gsD vs) k)) := by
  rcases h.1 with ⟨rfl, a, cap, rfl⟩ | ⟨g, o, cap, rfl, hE, hl, hm⟩
  · exact ⟨a, cap, rfl, by simp, fun k hk => by simp at hk⟩
  · refine ⟨_, cap, rfl, by unfold maxLen at hm; omega, fun k hk => ⟨g, o, rfl, ?_⟩⟩
    obtain ⟨e, he, h1, h2, h3⟩ := gs_get hk
    obtain ⟨x0, x1, x2, _⟩ := gv_cells (hE k e he)
    rw [h1, h2, h3]
    exact ⟨x0, x1, x2⟩
theorem gsD_length (vs : List Gv) : (gsD vs).length = vs.length := by simp [gsD]

set_option maxHeartbeats 2000000 in
theorem spec_used (x : Value) (vs : List Gv) (g : Int) (w : World) (hs : SlG w x vs) :
    Calls Try.prog 36 #[x, .int .i64 g] w fun e w' => e = .returned (.bool (usedB (gsD vs) g)) ∧ w' = w := by
  obtain ⟨p, cap, rfl, hlen, hcell⟩ := gs_cells hs
  have hl := gsD_length vs
  by_cases a : 0 ≤ g
  · by_cases b : g < (vs.length : Int)
    · obtain ⟨k, rfl⟩ := Int.eq_ofNat_of_zero_le a
      obtain ⟨q, o, rfl, c0, c1, c2⟩ := hcell k (by omega)
      have hu : usedB (gsD vs) (k : Int) = usAt (gsD vs) k := by unfold usedB; rw [hl, decide_eq_true a, decide_eq_true b]; rfl
      rw [hu]
      clear hcell c1 c2 hs hu
      go_enter Try.func36, Try.ntmps36
      go_wp2
      go_ret
      exact ⟨rfl, rfl⟩
    · have hu : usedB (gsD vs) g = false := by unfold usedB; rw [hl, decide_eq_false b]; simp
      rw [hu]
      have hd : decide (g < (vs.length : Int)) = false := decide_eq_false b
      clear hcell hs hu
      go_enter Try.func36, Try.ntmps36
      go_wp2
      go_ret
      first | exact ⟨rfl, rfl⟩ | exact ⟨by simp [hd], rfl⟩
  · have hu : usedB (gsD vs) g = false := by unfold usedB; rw [decide_eq_false a]; simp
    rw [hu]
    clear hcell hs hu
    go_enter Try.func36, Try.ntmps36
    go_wp2
    go_ret
    exact ⟨rfl, rfl⟩
theorem usedB_yes {ds : List Gr} {g : Int} (h : usedB ds g = true) : ∃ k : Nat, g = (k : Int) ∧ k < ds.length ∧ usAt ds k = true := by
  unfold usedB at h
  simp only [Bool.and_eq_true, decide_eq_true_eq] at h
  obtain ⟨k, rfl⟩ := Int.eq_ofNat_of_zero_le h.1.1
  exact ⟨k, rfl, by omega, h.2⟩
set_option maxHeartbeats 4000000 in
theorem spec_depth (x : Value) (vs : List Gv) (g : Int) (w : World) (hs : SlG w x vs) (hf : vs.length ≤ 1048576) :
    Calls Try.prog 31 #[x, .int .i64 g] w fun e w' => e = .returned (.int .i64 (depB (gsD vs) g)) ∧ w' = w := by
  obtain ⟨p, cap, rfl, hlen, hcell⟩ := gs_cells hs
  have hl := gsD_length vs
  go_enter Try.func31, Try.ntmps31
  go_wp2
  go_loop [1, 5] (fun c i => ∃ (k : Nat) (m : Int), k ≤ vs.length + 1 ∧ i = .int .i64 k ∧ c = .int .i64 m ∧ depB (gsD vs) g = depF (gsD vs) (vs.length + 1 - k) k m) (fun _ i => vs.length + 1 - (intOf i).toNat)
  case atStart => exact ⟨0, g, by omega, rfl, rfl, by unfold depB; rw [hl]; rfl⟩
  case round =>
    obtain ⟨k, m, hk, rfl, rfl, hd⟩ := hrel
    by_cases hlt : k ≤ vs.length
    · have hlt' : (k : Int) ≤ (vs.length : Int) := by omega
      have hst : vs.length + 1 - k = (vs.length - k) + 1 := by omega
      rw [hst] at hd
      cases hu : usedB (gsD vs) m
      · have hd2 : depB (gsD vs) g = -1 := by rw [hd]; unfold depF; rw [hu]; rfl
        have HD : Hid (depB (gsD vs) g = -1) := hd2
        clear hd hd2 hcell
        go_wp2_with (go_at_call 36; refine (spec_used _ vs _ _ hs).mono ?_; rintro e w1 ⟨rfl, rfl⟩)
        go_ret
        exact ⟨by rw [HD.out]; rfl, rfl⟩
      · obtain ⟨j, rfl, hj, _⟩ := usedB_yes hu
        rw [hl] at hj
        by_cases h0 : (j : Int) = 0
        · have hd2 : depB (gsD vs) g = (k : Int) := by rw [hd]; unfold depF; rw [hu, if_pos rfl, if_pos h0]
          have HD : Hid (depB (gsD vs) g = (k : Int)) := hd2
          rw [h0] at hu
          clear hd hd2 hcell
          rw [h0]
          go_wp2_with (go_at_call 36; refine (spec_used _ vs _ _ hs).mono ?_; rintro e w1 ⟨rfl, rfl⟩)
          go_ret
          exact ⟨by rw [HD.out]; rfl, rfl⟩
        · have hd2 : depB (gsD vs) g = depF (gsD vs) (vs.length - k) (k + 1) (paAt (gsD vs) j) := by rw [hd]; conv => lhs; unfold depF
                                                                                                     rw [hu, if_pos rfl, if_neg h0]; rfl
          obtain ⟨q, o, rfl, c0, c1, c2⟩ := hcell j hj
          have HD : Hid (depB (gsD vs) g = depF (gsD vs) (vs.length - k) (k + 1) (paAt (gsD vs) j)) := hd2
          clear hd hd2 hcell c0 c2
          go_wp2_with (go_at_call 36; refine (spec_used _ vs _ _ hs).mono ?_; rintro e w1 ⟨rfl, rfl⟩)
          refine ⟨⟨k + 1, _, by omega, by go_num, rfl, ?_⟩, by simp [intOf]; omega⟩
          rw [HD.out]
          congr 1
          omega
    · have hlt' : ¬ (k : Int) ≤ (vs.length : Int) := by omega
      have hst : vs.length + 1 - k = 0 := by omega
      rw [hst] at hd
      have hd2 : depB (gsD vs) g = -1 := hd
      have HD : Hid (depB (gsD vs) g = -1) := hd2
      clear hd hd2 hcell
      go_wp2
      go_ret
      exact ⟨by rw [HD.out]; rfl, rfl⟩
end Go.Proofs.Ytollijjmmpoonaa
