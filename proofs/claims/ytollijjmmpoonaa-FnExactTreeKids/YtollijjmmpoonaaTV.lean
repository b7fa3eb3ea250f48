/- Plain facts on trees: how far one is from the root, which names are taken; what the maps tell. -/
import Derived.Test.YtollijjmmpoonaaTI
namespace Go.Proofs.Ytollijjmmpoonaa
set_option linter.unusedVariables false
set_option linter.unusedSimpArgs false
open Go.ChangeShapes Go.WideShapes Go.ChangeAt Go.RowKit

/-- who has a parent, once all hang: all but the root. -/
def parF (ds : List Gr) (i : Nat) : Option Nat := if i = 0 then none else some (paAt ds i).toNat
/-- the places from 1 up to below k are hung: their parents are used, their names good, and nobody beside them bears one. -/
def Hung (ds : List Gr) (k : Nat) : Prop := ∀ i, 1 ≤ i → i < k → usAt ds i = true → usedB ds (paAt ds i) = true ∧ nameB (naAt ds i) = true ∧ dupTo ds i i = false
/-- at most s steps lead to the root. -/
def withinF (ds : List Gr) : Nat → Nat → Bool
  | 0, i => i == 0
  | s + 1, i => i == 0 || withinF ds s (paAt ds i).toNat
theorem Hung.up {ds : List Gr} (h8 : ds.length = 8) (h : Hung ds 8) {i : Nat} (hi : i < 8) (h0 : i ≠ 0) (hu : usAt ds i = true) : ∃ j : Nat, paAt ds i = (j : Int) ∧ j < 8 ∧ usAt ds j = true := by
  obtain ⟨h1, _⟩ := h i (by omega) hi hu
  obtain ⟨j, e, hj, uj⟩ := usedB_yes h1
  exact ⟨j, e, by omega, uj⟩
theorem usedB_nat {ds : List Gr} (h8 : ds.length = 8) {i : Nat} (hi : i < 8) (hu : usAt ds i = true) : usedB ds (i : Int) = true := by
  unfold usedB
  rw [h8, decide_eq_true (by omega), decide_eq_true (by omega), Int.toNat_natCast, hu]
  rfl
theorem depF_zero {ds : List Gr} (h8 : ds.length = 8) (hu : usAt ds 0 = true) (f n : Nat) : depF ds (f + 1) n ((0 : Nat) : Int) = n := by
  unfold depF
  rw [usedB_nat h8 (by omega) hu, if_pos rfl, if_pos (by rfl)]
theorem depF_up {ds : List Gr} (h8 : ds.length = 8) {i j : Nat} (hi : i < 8) (h0 : i ≠ 0) (hu : usAt ds i = true) (hj : paAt ds i = (j : Int)) (f n : Nat) : depF ds (f + 1) n (i : Int) = depF ds f (n + 1) (j : Int) := by
  conv => lhs; unfold depF
  rw [usedB_nat h8 hi hu, if_pos rfl, if_neg (by omega), Int.toNat_natCast, hj]
theorem depF_ge (ds : List Gr) (f n : Nat) (g : Int) : depF ds f n g = -1 ∨ (n : Int) ≤ depF ds f n g := by
  induction f generalizing n g with
  | zero => exact .inl rfl
  | succ f ih =>
    unfold depF
    split
    · split
      · exact .inr (Int.le_refl _)
      · rcases ih (n + 1) (paAt ds g.toNat) with h | h
        · exact .inl h
        · exact .inr (by omega)
    · exact .inl rfl
theorem within_dep {ds : List Gr} (h8 : ds.length = 8) (h : Hung ds 8) (hr : usAt ds 0 = true) : ∀ s i, i < 8 → usAt ds i = true → withinF ds s i = true → ∃ d : Nat, d ≤ s ∧ (d = 0 → i = 0) ∧ ∀ f n, d < f → depF ds f n (i : Int) = (n : Int) + d := by
  intro s
  induction s with
  | zero =>
    intro i hi hu hw
    obtain rfl : i = 0 := by simpa [withinF] using hw
    exact ⟨0, by omega, fun _ => rfl, fun f n hf => by
      obtain ⟨f, rfl⟩ : ∃ g, f = g + 1 := ⟨f - 1, by omega⟩
      rw [depF_zero h8 hr]; simp⟩
  | succ s ih =>
    intro i hi hu hw
    by_cases h0 : i = 0
    · subst h0
      exact ⟨0, by omega, fun _ => rfl, fun f n hf => by
        obtain ⟨f, rfl⟩ : ∃ g, f = g + 1 := ⟨f - 1, by omega⟩
        rw [depF_zero h8 hr]; simp⟩
    · obtain ⟨j, hj, hj8, uj⟩ := h.up h8 hi h0 hu
      have hw' : withinF ds s j = true := by
        unfold withinF at hw
        rw [hj, Int.toNat_natCast] at hw
        simpa [h0] using hw
      obtain ⟨d, hd, _, hf⟩ := ih j hj8 uj hw'
      refine ⟨d + 1, by omega, by omega, fun f n hff => ?_⟩
      obtain ⟨f, rfl⟩ : ∃ g, f = g + 1 := ⟨f - 1, by omega⟩
      rw [depF_up h8 hi h0 hu hj, hf f (n + 1) (by omega)]
      omega
theorem within_far {ds : List Gr} (h8 : ds.length = 8) (h : Hung ds 8) : ∀ s i, i < 8 → usAt ds i = true → withinF ds s i = false → ∀ f n, depF ds f n (i : Int) = -1 ∨ (n : Int) + s + 1 ≤ depF ds f n (i : Int) := by
  intro s
  induction s with
  | zero =>
    intro i hi hu hw f n
    have h0 : i ≠ 0 := by simpa [withinF] using hw
    obtain ⟨j, hj, _, _⟩ := h.up h8 hi h0 hu
    match f with
    | 0 => exact .inl rfl
    | f + 1 =>
      rw [depF_up h8 hi h0 hu hj]
      rcases depF_ge ds f (n + 1) (j : Int) with k | k
      · exact .inl k
      · exact .inr (by omega)
  | succ s ih =>
    intro i hi hu hw f n
    unfold withinF at hw
    have h0 : i ≠ 0 := by intro e; subst e; simp at hw
    obtain ⟨j, hj, hj8, uj⟩ := h.up h8 hi h0 hu
    rw [hj, Int.toNat_natCast] at hw
    have hw' : withinF ds s j = false := by simpa [h0] using hw
    match f with
    | 0 => exact .inl rfl
    | f + 1 =>
      rw [depF_up h8 hi h0 hu hj]
      rcases ih j hj8 uj hw' f (n + 1) with k | k
      · exact .inl k
      · exact .inr (by omega)
theorem dep_within {ds : List Gr} (h8 : ds.length = 8) (h : Hung ds 8) (hr : usAt ds 0 = true) {i : Nat} (hi : i < 8) (h0 : i ≠ 0) (hu : usAt ds i = true) : l1inN (depB ds (i : Int)) 1 3 = withinF ds 3 i := by
  unfold depB
  rw [h8, show (8 + 1 : Nat) = 9 from rfl]
  cases hw : withinF ds 3 i
  · rcases within_far h8 h 3 i hi hu hw 9 0 with k | k
    · exact decide_eq_false (by omega)
    · exact decide_eq_false (by omega)
  · obtain ⟨d, hd, hz, hf⟩ := within_dep h8 h hr 3 i hi hu hw
    have := hf 9 0 (by omega)
    have hd0 : d ≠ 0 := fun e => h0 (hz e)
    exact decide_eq_true (by omega)

/-- a name is taken in j by a place from 1 up to below k. -/
def namesTo (ds : List Gr) (j : Nat) (s : List UInt8) : Nat → Bool
  | 0 => false
  | k + 1 => namesTo ds j s k || (decide (1 ≤ k) && (usAt ds k && (paAt ds k == (j : Int)) && ((naAt ds k).data.toList == s)))
theorem dup_names (ds : List Gr) (g j : Nat) (hj : paAt ds g = (j : Int)) : ∀ k, dupTo ds g k = namesTo ds j (naAt ds g).data.toList k := by
  intro k
  induction k with
  | zero => rfl
  | succ k ih =>
    unfold dupTo namesTo
    rw [ih, hj, ByteArray.toList_eq, ByteArray.toList_eq]
/-- what the maps tell, once the places below k hang. -/
structure MO (ds : List Gr) (k : Nat) (Dm : Nat → DataW Unit) : Prop where
  isMap : ∀ j, Maps.IsMap (Dm j)
  has : ∀ j s, Maps.has (Dm j) (.string s) = namesTo ds j s k
  val : ∀ i j, 1 ≤ i → i < k → usAt ds i = true → paAt ds i = ((j : Nat) : Int) → ∀ z, (Dm j).atKey (keyS (naAt ds i)) z = .lit (.int .i64 (i : Int))
theorem MO.start (ds : List Gr) : MO ds 1 (fun _ => .map []) :=
  ⟨fun _ => ⟨_, rfl⟩, fun j s => by show Maps.has (DataW.map []) _ = _; simp [namesTo, Maps.has_eq], fun i j h1 h2 => by omega⟩
theorem MO.skip {ds : List Gr} {k : Nat} {Dm : Nat → DataW Unit} (h : MO ds k Dm) (hu : usAt ds k = false) : MO ds (k + 1) Dm := by
  refine ⟨h.isMap, fun j s => ?_, fun i j h1 h2 hui => ?_⟩
  · rw [h.has]; conv => rhs; unfold namesTo
    rw [hu]; simp
  · rcases Nat.lt_or_ge i k with hk | hk
    · exact h.val i j h1 hk hui
    · obtain rfl : i = k := by omega
      rw [hu] at hui; cases hui
theorem keyS_key (s : ByteArray) (hs : s.size ≤ maxLen) : WideAt.IsKeyLit (keyS s) := strKeyed.key (key_of s hs)
theorem names_of (ds : List Gr) (j : Nat) {i : Nat} (h1 : 1 ≤ i) (hu : usAt ds i = true) (hp : paAt ds i = (j : Int)) : ∀ k, i < k → namesTo ds j (naAt ds i).data.toList k = true := by
  intro k hk
  induction k with
  | zero => omega
  | succ k ih =>
    unfold namesTo
    by_cases e : i = k
    · subst e; rw [hu, hp]; simp [h1]
    · rw [ih (by omega)]; rfl
theorem MO.put {ds : List Gr} {k j : Nat} {Dm : Nat → DataW Unit} (h : MO ds k Dm) (hk : 1 ≤ k) (hu : usAt ds k = true) (hp : paAt ds k = (j : Int)) (hs : (naAt ds k).size ≤ maxLen) (hno : namesTo ds j (naAt ds k).data.toList k = false) :
    MO ds (k + 1) (upd Dm j ((Dm j).put (keyS (naAt ds k)) (.lit (.int .i64 (k : Int))))) := by
  have hkey := keyS_key (naAt ds k) hs
  refine ⟨fun j' => ?_, fun j' s => ?_, fun i j' h1 h2 hui hpi z => ?_⟩
  · by_cases e : j' = j
    · subst e
      rw [upd_same]
      obtain ⟨es, he⟩ := h.isMap j'
      rw [he]
      exact ⟨_, rfl⟩
    · rw [upd_other _ _ e]; exact h.isMap j'
  · conv => rhs; unfold namesTo
    rw [decide_eq_true hk, hu, hp]
    by_cases e : j' = j
    · subst e
      rw [upd_same]
      by_cases es : (naAt ds k).data.toList = s
      · subst es
        rw [show (Lit.string (naAt ds k).data.toList) = keyS (naAt ds k) from rfl, Maps.has_put_same (h.isMap j') hkey]
        simp
      · rw [Maps.has_put_other (by intro hh; exact es (by unfold keyS at hh; simpa using hh.symm)), h.has]
        have : ((naAt ds k).data.toList == s) = false := by simpa using es
        rw [this]; simp
    · rw [upd_other _ _ e, h.has]
      have : (((j : Nat) : Int) == (j' : Int)) = false := by simp; omega
      rw [this]; simp
  · by_cases e : j' = j
    · subst e
      rw [upd_same]
      by_cases ei : i = k
      · subst ei
        exact Maps.atKey_put_same (h.isMap j') hkey _ _
      · have hne : keyS (naAt ds i) ≠ keyS (naAt ds k) := by
          intro hh
          have hd : (naAt ds i).data.toList = (naAt ds k).data.toList := by unfold keyS at hh; simpa using hh
          have := names_of ds j' h1 hui hpi k (by omega)
          rw [hd, hno] at this
          cases this
        rw [Maps.atKey_put_other hne]
        exact h.val i j' h1 (by omega) hui hpi z
    · rw [upd_other _ _ e]
      by_cases ei : i = k
      · subst ei
        rw [hp] at hpi
        omega
      · exact h.val i j' h1 (by omega) hui hpi z
end Go.Proofs.Ytollijjmmpoonaa
