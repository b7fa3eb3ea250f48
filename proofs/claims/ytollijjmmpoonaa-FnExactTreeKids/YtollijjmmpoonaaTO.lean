/- The program's nodes: what nodesOf makes. -/
import Derived.Test.YtollijjmmpoonaaTN
namespace Go.Proofs.Ytollijjmmpoonaa
set_option linter.unusedVariables false
set_option linter.unusedSimpArgs false
open Go.ChangeShapes Go.WideShapes Go.ChangeAt Go.RowKit

def rootV (d : Gr) : Bool := d.us && (d.pa == -1) && (d.na.toList == [])
set_option maxHeartbeats 2000000 in
theorem isRoot_any (v : Gv) (w : World) : Calls Try.prog 51 #[gvV v] w fun e w' => e = .returned (.bool (rootV v.d)) ∧ Below w.heap.size w w' := by
  obtain ⟨⟨us, pa, na, we, cp, pe, ne, su, ⟨qu, po, sp, lo, dr⟩, sh⟩, x, y, z⟩ := v
  unfold gvV rootV
  dsimp only
  cases us
  · go_enter Try.func51, Try.ntmps51
    go_wp2
    go_ret
    exact ⟨rfl, by go_grown⟩
  · by_cases hp : pa = -1
    · subst hp
      cases hn : (na.toList == [])
      all_goals
        go_enter Try.func51, Try.ntmps51
        go_wp2
        go_ret
        exact ⟨by simp [hn], by go_grown⟩
    · have hb : (pa == -1) = false := by simpa using hp
      go_enter Try.func51, Try.ntmps51
      go_wp2
      go_ret
      exact ⟨by simp [hb], by go_grown⟩

def nodeC (ds : List Gr) (nb mb : Nat → Nat) (par : Nat → Option Nat) (i : Nat) : Array Value :=
  #[.int .i64 (i : Int), .string (naAt ds i), .pointer ((par i).map fun j => ⟨nb j, 0, none⟩), .map (some (mb i))]
/-- the nodes of the places below n that are used, each with its map; all in blocks of their own, not below B, apart. -/
structure NS (W : World) (ds : List Gr) (n : Nat) (nb mb : Nat → Nat) (par : Nat → Option Nat) (Dm : Nat → DataW Unit) (c B : Nat) : Prop where
  node : ∀ i, i < n → usAt ds i = true → W.heap[nb i]? = some (.cells (nodeC ds nb mb par i) 66 (0, 0))
  map : ∀ i, i < n → usAt ds i = true → W.ownsMap Try.prog 9 (plainElem Try.prog 3) (mb i) c (Dm i)
  low : ∀ i, i < n → usAt ds i = true → B ≤ nb i ∧ B ≤ mb i
  inj : ∀ i j, i < n → j < n → usAt ds i = true → usAt ds j = true → i ≠ j → nb i ≠ nb j ∧ mb i ≠ mb j
  sep : ∀ i j, i < n → j < n → usAt ds i = true → usAt ds j = true → nb i ≠ mb j
theorem ownsMap_below {W W' : World} {b c : Nat} {D : DataW Unit} (h : W.ownsMap Try.prog 9 (plainElem Try.prog 3) b c D) (hb : Below W.heap.size W W') : W'.ownsMap Try.prog 9 (plainElem Try.prog 3) b c D := by
  obtain ⟨es, clock, h1, h2⟩ := h
  exact ⟨es, clock, (hb.block b (Array.getElem?_eq_some_iff.1 h1).1).trans h1, h2⟩
theorem ownsMap_kept {S : Nat → Prop} {W W' : World} {b c : Nat} {D : DataW Unit} (h : W.ownsMap Try.prog 9 (plainElem Try.prog 3) b c D) (hk : Kept S W W') (hn : ¬ S b) : W'.ownsMap Try.prog 9 (plainElem Try.prog 3) b c D := by
  obtain ⟨es, clock, h1, h2⟩ := h
  exact ⟨es, clock, (hk.block b (Array.getElem?_eq_some_iff.1 h1).1 hn).trans h1, h2⟩
theorem NS.below {W W' : World} {ds : List Gr} {n c B : Nat} {nb mb : Nat → Nat} {par : Nat → Option Nat} {Dm : Nat → DataW Unit} (h : NS W ds n nb mb par Dm c B) (hb : Below W.heap.size W W') : NS W' ds n nb mb par Dm c B :=
  ⟨fun i hi hu => (hb.block _ (Array.getElem?_eq_some_iff.1 (h.node i hi hu)).1).trans (h.node i hi hu), fun i hi hu => ownsMap_below (h.map i hi hu) hb, h.low, h.inj, h.sep⟩
theorem NS.kept {S : Nat → Prop} {W W' : World} {ds : List Gr} {n c B : Nat} {nb mb : Nat → Nat} {par : Nat → Option Nat} {Dm : Nat → DataW Unit} (h : NS W ds n nb mb par Dm c B) (hk : Kept S W W') (hS : ∀ g, B ≤ g → ¬ S g) : NS W' ds n nb mb par Dm c B :=
  ⟨fun i hi hu => (hk.block _ (Array.getElem?_eq_some_iff.1 (h.node i hi hu)).1 (hS _ (h.low i hi hu).1)).trans (h.node i hi hu), fun i hi hu => ownsMap_kept (h.map i hi hu) hk (hS _ (h.low i hi hu).2), h.low, h.inj, h.sep⟩
theorem NS.lt {W : World} {ds : List Gr} {n c B : Nat} {nb mb : Nat → Nat} {par : Nat → Option Nat} {Dm : Nat → DataW Unit} (h : NS W ds n nb mb par Dm c B) {i : Nat} (hi : i < n) (hu : usAt ds i = true) : nb i < W.heap.size ∧ mb i < W.heap.size :=
  ⟨(Array.getElem?_eq_some_iff.1 (h.node i hi hu)).1, (h.map i hi hu).lt⟩
theorem NS.skip {W : World} {ds : List Gr} {n c B : Nat} {nb mb : Nat → Nat} {par : Nat → Option Nat} {Dm : Nat → DataW Unit} (h : NS W ds n nb mb par Dm c B) (hu : usAt ds n = false) : NS W ds (n + 1) nb mb par Dm c B := by
  have hn : ∀ i, i < n + 1 → usAt ds i = true → i < n := by
    intro i hi hui
    rcases Nat.lt_or_ge i n with h | h
    · exact h
    · obtain rfl : i = n := by omega
      rw [hu] at hui; cases hui
  exact ⟨fun i hi hui => h.node i (hn i hi hui) hui, fun i hi hui => h.map i (hn i hi hui) hui, fun i hi hui => h.low i (hn i hi hui) hui, fun i j hi hj hui huj => h.inj i j (hn i hi hui) (hn j hj huj) hui huj, fun i j hi hj hui huj => h.sep i j (hn i hi hui) (hn j hj huj) hui huj⟩
/-- a node and its map made behind all others. -/
theorem NS.push {W : World} {ds : List Gr} {n B b m : Nat} {nb mb : Nat → Nat} {W' : World} (h : NS W ds n nb mb (fun _ => none) (fun _ => .map []) 0 B) (hb : Below W.heap.size W W') (hB : B ≤ W.heap.size)
    (hm1 : W.heap.size ≤ m) (hb1 : W.heap.size ≤ b) (hne : b ≠ m)
    (hnode : W'.heap[b]? = some (.cells #[.int .i64 (n : Int), .string (naAt ds n), .pointer none, .map (some m)] 66 (0, 0)))
    (hmap : W'.ownsMap Try.prog 9 (plainElem (H := Unit) Try.prog 3) m 0 (.map [])) : NS W' ds (n + 1) (upd nb n b) (upd mb n m) (fun _ => none) (fun _ => .map []) 0 B := by
  have hold := h.below hb
  have hlt : ∀ i, i < n → usAt ds i = true → nb i < W.heap.size ∧ mb i < W.heap.size := fun i hi hu => h.lt hi hu
  refine ⟨?_, ?_, ?_, ?_, ?_⟩
  · intro i hi hu
    by_cases e : i = n
    · subst e
      unfold nodeC
      rw [upd_same, upd_same]
      exact hnode
    · have := hold.node i (by omega) hu
      unfold nodeC at this ⊢
      rw [upd_other _ _ e, upd_other _ _ e]
      exact this
  · intro i hi hu
    by_cases e : i = n
    · subst e
      rw [upd_same]
      exact hmap
    · rw [upd_other _ _ e]
      exact hold.map i (by omega) hu
  · intro i hi hu
    by_cases e : i = n
    · subst e
      rw [upd_same, upd_same]
      omega
    · rw [upd_other _ _ e, upd_other _ _ e]
      exact h.low i (by omega) hu
  · intro i j hi hj hui huj hij
    by_cases e : i = n
    · by_cases e' : j = n
      · omega
      · have := hlt j (by omega) huj
        rw [e, upd_same, upd_same, upd_other _ _ e', upd_other _ _ e']
        omega
    · by_cases e' : j = n
      · have := hlt i (by omega) hui
        rw [e', upd_same, upd_same, upd_other _ _ e, upd_other _ _ e]
        omega
      · rw [upd_other _ _ e, upd_other _ _ e, upd_other _ _ e', upd_other _ _ e']
        exact h.inj i j (by omega) (by omega) hui huj hij
  · intro i j hi hj hui huj
    by_cases e : i = n
    · by_cases e' : j = n
      · rw [e, e', upd_same, upd_same]; exact hne
      · have := hlt j (by omega) huj
        rw [e, upd_same, upd_other _ _ e']
        omega
    · by_cases e' : j = n
      · have := hlt i (by omega) hui
        rw [e', upd_same, upd_other _ _ e]
        omega
      · rw [upd_other _ _ e, upd_other _ _ e']
        exact h.sep i j (by omega) (by omega) hui huj
theorem NS.empty (W : World) (ds : List Gr) (nb mb : Nat → Nat) (par : Nat → Option Nat) (Dm : Nat → DataW Unit) (c B : Nat) : NS W ds 0 nb mb par Dm c B :=
  ⟨fun i hi => by omega, fun i hi => by omega, fun i hi => by omega, fun i j hi => by omega, fun i j hi => by omega⟩
end Go.Proofs.Ytollijjmmpoonaa
