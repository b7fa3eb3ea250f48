/- The program's tree in memory: nodes with pointers to their parents, each with a map of the names in it. The program's nodes: what nodesOf makes. The program's nodesOf. The program's hang: a node put into its parent. The program's hang: a node put into its parent, where there is one. Plain facts on trees: how far one is from the root, which names are taken; what the maps tell. The program's isWithin, depth: walks along the pointers to the parents. The program's treeOf. The program's treeOf where the root is one. -/
import Derived.Test.YtnmmglkigiakaaaGreatD06
import Derived.Maps.OwnSet
import Derived.Maps.OwnOps
import Derived.Maps.Views
import Derived.StringKeys
namespace Go.Proofs.YtnmmglkigiakaaaGreat
set_option maxRecDepth 100000
set_option maxHeartbeats 32000000
set_option linter.unusedVariables false
set_option linter.unusedSimpArgs false
open Go.ChangeShapes Go.WideShapes Go.ChangeAt Go.RowKit
open Go.Maps (Keyed)
theorem strKeyed : Keyed Tryz.prog 9 := Keyed.of_law (Go.WideMaps.string_law Tryz.underlying9)
def tP (ds : List Gr) (nb : Nat → Nat) (n i : Nat) : Value := if i < n ∧ usAt ds i = true then .pointer (some ⟨nb i, 0, none⟩) else .pointer none
def tRow (ds : List Gr) (nb : Nat → Nat) (n : Nat) : Array Value := ((List.range 8).map (tP ds nb n)).toArray
theorem tRow_size (ds : List Gr) (nb : Nat → Nat) (n : Nat) : (tRow ds nb n).size = 8 := by simp [tRow]
theorem tRow_get (ds : List Gr) (nb : Nat → Nat) (n i : Nat) (h : i < 8) : (tRow ds nb n)[i]? = some (tP ds nb n i) := by simp [tRow, h]
theorem tRow_one (ds : List Gr) (nb : Nat → Nat) (n : Nat) : (tRow ds nb n).all (·.oneCell') = true := by
  simp only [tRow, List.all_toArray, List.all_map, List.all_eq_true]
  intro i _
  show (tP ds nb n i).oneCell' = true
  unfold tP
  split <;> rfl
theorem tP_used {ds : List Gr} {nb : Nat → Nat} {n i : Nat} (h : i < n) (hu : usAt ds i = true) : tP ds nb n i = .pointer (some ⟨nb i, 0, none⟩) := by unfold tP; rw [if_pos ⟨h, hu⟩]
theorem tP_unused {ds : List Gr} {nb : Nat → Nat} {n i : Nat} (hu : usAt ds i = false) : tP ds nb n i = .pointer none := by unfold tP; rw [if_neg (by rw [hu]; simp)]
theorem tP_past {ds : List Gr} {nb : Nat → Nat} {n i : Nat} (h : n ≤ i) : tP ds nb n i = .pointer none := by unfold tP; rw [if_neg (by omega)]
theorem tRow_ext {a b : Array Value} (ha : a.size = 8) (hb : b.size = 8) (h : ∀ i, i < 8 → a[i]? = b[i]?) : a = b := by
  apply Array.ext (by rw [ha, hb])
  intro i h1 h2
  have := h i (by omega)
  rw [Array.getElem?_eq_getElem h1, Array.getElem?_eq_getElem h2] at this
  exact Option.some.inj this
def upd {α : Type} (f : Nat → α) (k : Nat) (x : α) : Nat → α := fun i => if i = k then x else f i
theorem upd_same {α : Type} (f : Nat → α) (k : Nat) (x : α) : upd f k x k = x := if_pos rfl
theorem upd_other {α : Type} (f : Nat → α) {k i : Nat} (x : α) (h : i ≠ k) : upd f k x i = f i := if_neg h
theorem tRow_put (ds : List Gr) (nb : Nat → Nat) (k b : Nat) (hk : k < 8) (hu : usAt ds k = true) : (tRow ds nb k).setIfInBounds k (.pointer (some ⟨b, 0, none⟩)) = tRow ds (upd nb k b) (k + 1) := by
  refine tRow_ext (by simp [tRow_size]) (tRow_size _ _ _) fun i hi => ?_
  rw [Array.getElem?_setIfInBounds, tRow_get _ _ _ i hi, tRow_get _ _ _ i hi, tRow_size]
  by_cases e : k = i
  · subst e
    rw [if_pos rfl, if_pos hk, tP_used (by omega) hu, upd_same]
  · rw [if_neg e]
    congr 1
    unfold tP
    rw [upd_other _ _ (Ne.symm e)]
    have : (i < k ∧ usAt ds i = true) ↔ (i < k + 1 ∧ usAt ds i = true) := by
      constructor
      · rintro ⟨h1, h2⟩; exact ⟨by omega, h2⟩
      · rintro ⟨h1, h2⟩; exact ⟨by omega, h2⟩
    simp only [this]
theorem tRow_skip (ds : List Gr) (nb : Nat → Nat) (k : Nat) (hu : usAt ds k = false) : tRow ds nb k = tRow ds nb (k + 1) := by
  refine tRow_ext (tRow_size _ _ _) (tRow_size _ _ _) fun i hi => ?_
  rw [tRow_get _ _ _ i hi, tRow_get _ _ _ i hi]
  congr 1
  by_cases e : i = k
  · subst e; rw [tP_unused hu, tP_unused hu]
  · unfold tP
    have : (i < k ∧ usAt ds i = true) ↔ (i < k + 1 ∧ usAt ds i = true) := by
      constructor
      · rintro ⟨h1, h2⟩; exact ⟨by omega, h2⟩
      · rintro ⟨h1, h2⟩; exact ⟨by omega, h2⟩
    simp only [this]
theorem tRow_none (ds : List Gr) (nb : Nat → Nat) : tRow ds nb 0 = #[.pointer none, .pointer none, .pointer none, .pointer none, .pointer none, .pointer none, .pointer none, .pointer none] := by
  refine tRow_ext (tRow_size _ _ _) rfl fun i hi => ?_
  rw [tRow_get _ _ _ i hi, tP_past (by omega)]
  match i, hi with
  | 0, _ => rfl
  | 1, _ => rfl
  | 2, _ => rfl
  | 3, _ => rfl
  | 4, _ => rfl
  | 5, _ => rfl
  | 6, _ => rfl
  | 7, _ => rfl
theorem info_tree : (Tryz.prog.info? 164).map (·.size) = some 8 := by kernel_rfl
theorem info_treeR (ds : List Gr) (nb : Nat → Nat) (n : Nat) : (Tryz.prog.info? 164).map (·.size) = some (tRow ds nb n).size := by rw [tRow_size]; exact info_tree

def atP (ds : List Gr) (nb : Nat → Nat) (n : Nat) (g : Int) : Value := if 0 ≤ g ∧ g < 8 then tP ds nb n g.toNat else .pointer none
theorem at_any (ds : List Gr) (nb : Nat → Nat) (n : Nat) (g : Int) (w : World) :
    Calls Tryz.prog 169 #[.agg (tRow ds nb n), .int .i64 g] w fun e w' => e = .returned (atP ds nb n g) ∧ Below w.heap.size w w' := by
  by_cases a : g < 0
  · have e0 : atP ds nb n g = .pointer none := by unfold atP; rw [if_neg (by omega)]
    rw [e0]
    clear e0
    go_enter Tryz.func169, Tryz.ntmps169
    go_wp2
    go_ret
    exact ⟨rfl, by go_grown⟩
  · by_cases b : 8 ≤ g
    · have e0 : atP ds nb n g = .pointer none := by unfold atP; rw [if_neg (by omega)]
      rw [e0]
      clear e0
      go_enter Tryz.func169, Tryz.ntmps169
      go_wp2
      go_ret
      exact ⟨rfl, by go_grown⟩
    · obtain ⟨k, rfl⟩ := Int.eq_ofNat_of_zero_le (show 0 ≤ g by omega)
      have e0 : atP ds nb n (k : Int) = tP ds nb n k := by unfold atP; rw [if_pos (by omega)]; rfl
      rw [e0]
      have hc := cell_of_row (w.alloc (.cells (tRow ds nb n) 164 (0, 0))) w.heap.size k _ _ _ (heap_alloc_new _ _)
      rw [tRow_get ds nb n k (by omega)] at hc
      clear e0
      go_enter Tryz.func169, Tryz.ntmps169
      go_wp2
      go_ret
      exact ⟨rfl, by go_grown⟩
end Go.Proofs.YtnmmglkigiakaaaGreat
namespace Go.Proofs.YtnmmglkigiakaaaGreat
set_option maxRecDepth 100000
set_option maxHeartbeats 32000000
set_option linter.unusedVariables false
set_option linter.unusedSimpArgs false
open Go.ChangeShapes Go.WideShapes Go.ChangeAt Go.RowKit
def rootV (d : Gr) : Bool := d.us && (d.pa == -1) && (d.na.toList == [])
theorem isRoot_any (v : Gv) (w : World) : Calls Tryz.prog 182 #[gvV v] w fun e w' => e = .returned (.bool (rootV v.d)) ∧ Below w.heap.size w w' := by
  obtain ⟨⟨us, pa, na, we, cp, pe, ne, su, ⟨qu, po, sp, lo, dr⟩, sh⟩, x, y, z⟩ := v
  unfold gvV rootV
  dsimp only
  cases us
  · go_enter Tryz.func182, Tryz.ntmps182
    go_wp2
    go_ret
    exact ⟨rfl, by go_grown⟩
  · by_cases hp : pa = -1
    · subst hp
      cases hn : (na.toList == [])
      all_goals
        go_enter Tryz.func182, Tryz.ntmps182
        go_wp2
        go_ret
        exact ⟨by simp [hn], by go_grown⟩
    · have hb : (pa == -1) = false := by simpa using hp
      go_enter Tryz.func182, Tryz.ntmps182
      go_wp2
      go_ret
      exact ⟨by simp [hb], by go_grown⟩

def nodeC (ds : List Gr) (nb mb : Nat → Nat) (par : Nat → Option Nat) (i : Nat) : Array Value :=
  #[.int .i64 (i : Int), .string (naAt ds i), .pointer ((par i).map fun j => ⟨nb j, 0, none⟩), .map (some (mb i))]
structure NS (W : World) (ds : List Gr) (n : Nat) (nb mb : Nat → Nat) (par : Nat → Option Nat) (Dm : Nat → DataW Unit) (c B : Nat) : Prop where
  node : ∀ i, i < n → usAt ds i = true → W.heap[nb i]? = some (.cells (nodeC ds nb mb par i) 183 (0, 0))
  map : ∀ i, i < n → usAt ds i = true → W.ownsMap Tryz.prog 9 (plainElem Tryz.prog 3) (mb i) c (Dm i)
  low : ∀ i, i < n → usAt ds i = true → B ≤ nb i ∧ B ≤ mb i
  inj : ∀ i j, i < n → j < n → usAt ds i = true → usAt ds j = true → i ≠ j → nb i ≠ nb j ∧ mb i ≠ mb j
  sep : ∀ i j, i < n → j < n → usAt ds i = true → usAt ds j = true → nb i ≠ mb j
theorem ownsMap_below {W W' : World} {b c : Nat} {D : DataW Unit} (h : W.ownsMap Tryz.prog 9 (plainElem Tryz.prog 3) b c D) (hb : Below W.heap.size W W') : W'.ownsMap Tryz.prog 9 (plainElem Tryz.prog 3) b c D := by
  obtain ⟨es, clock, h1, h2⟩ := h
  exact ⟨es, clock, (hb.block b (Array.getElem?_eq_some_iff.1 h1).1).trans h1, h2⟩
theorem ownsMap_kept {S : Nat → Prop} {W W' : World} {b c : Nat} {D : DataW Unit} (h : W.ownsMap Tryz.prog 9 (plainElem Tryz.prog 3) b c D) (hk : Kept S W W') (hn : ¬ S b) : W'.ownsMap Tryz.prog 9 (plainElem Tryz.prog 3) b c D := by
  obtain ⟨es, clock, h1, h2⟩ := h
  exact ⟨es, clock, (hk.block b (Array.getElem?_eq_some_iff.1 h1).1 hn).trans h1, h2⟩
theorem NS.below {W W' : World} {ds : List Gr} {n c B : Nat} {nb mb : Nat → Nat} {par : Nat → Option Nat} {Dm : Nat → DataW Unit} (h : NS W ds n nb mb par Dm c B) (hb : Below W.heap.size W W') : NS W' ds n nb mb par Dm c B :=
  ⟨fun i hi hu => (hb.block _ (Array.getElem?_eq_some_iff.1 (h.node i hi hu)).1).trans (h.node i hi hu), fun i hi hu => ownsMap_below (h.map i hi hu) hb, h.low, h.inj, h.sep⟩
theorem NS.kept {S : Nat → Prop} {W W' : World} {ds : List Gr} {n c B : Nat} {nb mb : Nat → Nat} {par : Nat → Option Nat} {Dm : Nat → DataW Unit} (h : NS W ds n nb mb par Dm c B) (hk : Kept S W W') (hS : ∀ g, B ≤ g → ¬ S g) : NS W' ds n nb mb par Dm c B :=
  ⟨fun i hi hu => (hk.block _ (Array.getElem?_eq_some_iff.1 (h.node i hi hu)).1 (hS _ (h.low i hi hu).1)).trans (h.node i hi hu), fun i hi hu => ownsMap_kept (h.map i hi hu) hk (hS _ (h.low i hi hu).2), h.low, h.inj, h.sep⟩
theorem NS.lt {W : World} {ds : List Gr} {n c B : Nat} {nb mb : Nat → Nat} {par : Nat → Option Nat} {Dm : Nat → DataW Unit} (h : NS W ds n nb mb par Dm c B) {i : Nat} (hi : i < n) (hu : usAt ds i = true) : nb i < W.heap.size ∧ mb i < W.heap.size :=
  ⟨(Array.getElem?_eq_some_iff.1 (h.node i hi hu)).1, (h.map i hi hu).lt⟩
theorem NS.skip {W : World} {ds : List Gr} {n c B : Nat} {nb mb : Nat → Nat} {par : Nat → Option Nat} {Dm : Nat → DataW Unit} (h : NS W ds n nb mb par Dm c B) (hu : usAt ds n = false) : NS W ds (n + 1) nb mb par Dm c B := by
  have hn : ∀ i, i < n + 1 → usAt ds i = true → i < n := by
    intro i hi hui
    rcases Nat.lt_or_ge i n with h | h
    · exact h
    · obtain rfl : i = n := by omega
      rw [hu] at hui; cases hui
  exact ⟨fun i hi hui => h.node i (hn i hi hui) hui, fun i hi hui => h.map i (hn i hi hui) hui, fun i hi hui => h.low i (hn i hi hui) hui, fun i j hi hj hui huj => h.inj i j (hn i hi hui) (hn j hj huj) hui huj, fun i j hi hj hui huj => h.sep i j (hn i hi hui) (hn j hj huj) hui huj⟩
theorem NS.push {W : World} {ds : List Gr} {n B b m : Nat} {nb mb : Nat → Nat} {W' : World} (h : NS W ds n nb mb (fun _ => none) (fun _ => .map []) 0 B) (hb : Below W.heap.size W W') (hB : B ≤ W.heap.size)
    (hm1 : W.heap.size ≤ m) (hb1 : W.heap.size ≤ b) (hne : b ≠ m)
    (hnode : W'.heap[b]? = some (.cells #[.int .i64 (n : Int), .string (naAt ds n), .pointer none, .map (some m)] 183 (0, 0)))
    (hmap : W'.ownsMap Tryz.prog 9 (plainElem (H := Unit) Tryz.prog 3) m 0 (.map [])) : NS W' ds (n + 1) (upd nb n b) (upd mb n m) (fun _ => none) (fun _ => .map []) 0 B := by
  have hold := h.below hb
  have hlt : ∀ i, i < n → usAt ds i = true → nb i < W.heap.size ∧ mb i < W.heap.size := fun i hi hu => h.lt hi hu
  refine ⟨?_, ?_, ?_, ?_, ?_⟩
  · intro i hi hu
    by_cases e : i = n
    · subst e
      unfold nodeC
      rw [upd_same, upd_same]
      exact hnode
    · have := hold.node i (by omega) hu
      unfold nodeC at this ⊢
      rw [upd_other _ _ e, upd_other _ _ e]
      exact this
  · intro i hi hu
    by_cases e : i = n
    · subst e
      rw [upd_same]
      exact hmap
    · rw [upd_other _ _ e]
      exact hold.map i (by omega) hu
  · intro i hi hu
    by_cases e : i = n
    · subst e
      rw [upd_same, upd_same]
      omega
    · rw [upd_other _ _ e, upd_other _ _ e]
      exact h.low i (by omega) hu
  · intro i j hi hj hui huj hij
    by_cases e : i = n
    · by_cases e' : j = n
      · omega
      · have := hlt j (by omega) huj
        rw [e, upd_same, upd_same, upd_other _ _ e', upd_other _ _ e']
        omega
    · by_cases e' : j = n
      · have := hlt i (by omega) hui
        rw [e', upd_same, upd_same, upd_other _ _ e, upd_other _ _ e]
        omega
      · rw [upd_other _ _ e, upd_other _ _ e, upd_other _ _ e', upd_other _ _ e']
        exact h.inj i j (by omega) (by omega) hui huj hij
  · intro i j hi hj hui huj
    by_cases e : i = n
    · by_cases e' : j = n
      · rw [e, e', upd_same, upd_same]; exact hne
      · have := hlt j (by omega) huj
        rw [e, upd_same, upd_other _ _ e']
        omega
    · by_cases e' : j = n
      · have := hlt i (by omega) hui
        rw [e', upd_same, upd_other _ _ e]
        omega
      · rw [upd_other _ _ e, upd_other _ _ e']
        exact h.sep i j (by omega) (by omega) hui huj
theorem NS.empty (W : World) (ds : List Gr) (nb mb : Nat → Nat) (par : Nat → Option Nat) (Dm : Nat → DataW Unit) (c B : Nat) : NS W ds 0 nb mb par Dm c B :=
  ⟨fun i hi => by omega, fun i hi => by omega, fun i hi => by omega, fun i j hi => by omega, fun i j hi => by omega⟩
def Slices (e : Gv) : Prop := (∃ p l c, e.x = .slice p l c) ∧ (∃ p l c, e.y = .slice p l c) ∧ ∃ p l c, e.z = .slice p l c
theorem slices_of {W : World} {e : Gv} (h : GvOk W e) : Slices e := by
  obtain ⟨p, c, h1, _⟩ := h.1.1.form
  obtain ⟨p', c', h2, _⟩ := h.1.2.form
  obtain ⟨p'', c'', h3, _⟩ := h.2.form
  exact ⟨⟨_, _, _, h1⟩, ⟨_, _, _, h2⟩, _, _, _, h3⟩
theorem groups8 {w : World} {x : Value} {vs : List Gv} (hs : SlG w x vs) (h8 : vs.length = 8) : ∃ q o cap, x = .slice (some ⟨q, o, none⟩) 8 cap ∧ q < w.heap.size ∧ ∀ W, Below w.heap.size w W → ∀ k, k < 8 → ∃ e, vs[k]? = some e ∧ W.rangeAt q (o + k * 14) (gvC e) ∧ Slices e := by
  rcases hs.1 with ⟨rfl, a, cap, rfl⟩ | ⟨g, o, cap, rfl, hE, hl, hm⟩
  · simp at h8
  · refine ⟨g, o, cap, by rw [h8], ?_, fun W hb k hk => ?_⟩
    · obtain ⟨e, he⟩ := row_get (xs := vs) (k := 0) (by omega)
      obtain ⟨x0, _⟩ := gv_cells (hE 0 e he)
      exact block_lt_of_cell x0
    · obtain ⟨e, he⟩ := row_get (xs := vs) (k := k) (by omega)
      exact ⟨e, he, range_below (hE k e he) hb, slices_of (hs.2 e (List.mem_of_getElem? he))⟩
theorem gs_at {vs : List Gv} {k : Nat} {e : Gv} (he : vs[k]? = some e) : usAt (gsD vs) k = e.d.us ∧ paAt (gsD vs) k = e.d.pa ∧ naAt (gsD vs) k = e.d.na := by
  exact ⟨by simp [usAt, gsD, he], by simp [paAt, gsD, he], by simp [naAt, gsD, he]⟩

theorem Kept.setRow (w : World) (g : Nat) (cs : Array Value) : Kept (fun k => k = g) w (w.setRow g cs) := ⟨rfl, rfl, rfl, by simp [World.setRow], fun k _ hn => setRow_other w g k cs hn⟩
theorem tRow_zero (ds : List Gr) (nb nb' : Nat → Nat) : tRow ds nb 0 = tRow ds nb' 0 := by rw [tRow_none, tRow_none]
theorem nodes_step {w wr W : World} {ds : List Gr} {nb mb : Nat → Nat} {k : Nat} {na : ByteArray} (A : Obj) (acc : Below w.heap.size w wr) (hsz : w.heap.size + 1 < wr.heap.size)
    (h0 : wr.heap[w.heap.size]? = some (.cells (tRow ds nb 0) 164 (0, 0))) (h1 : wr.heap[w.heap.size + 1]? = some (.cells (tRow ds nb k) 164 (0, 0)))
    (hN : NS wr ds k nb mb (fun _ => none) (fun _ => .map []) 0 (w.heap.size + 2)) (hlt : k < 8) (hu : usAt ds k = true) (hna : naAt ds k = na)
    (hW : W = (((wr.alloc A).alloc (.map #[] 0)).alloc (.cells #[.int .i64 (k : Int), .string na, .pointer none, .map (some (wr.heap.size + 1))] 183 (0, 0))).setCell ⟨w.heap.size + 1, k, none⟩ (.pointer (some ⟨wr.heap.size + 1 + 1, 0, none⟩))) :
    Below w.heap.size w W ∧ w.heap.size + 1 < W.heap.size ∧ W.heap[w.heap.size]? = some (.cells (tRow ds (upd nb k (wr.heap.size + 1 + 1)) 0) 164 (0, 0)) ∧
      W.heap[w.heap.size + 1]? = some (.cells (tRow ds (upd nb k (wr.heap.size + 1 + 1)) (k + 1)) 164 (0, 0)) ∧
      NS W ds (k + 1) (upd nb k (wr.heap.size + 1 + 1)) (upd mb k (wr.heap.size + 1)) (fun _ => none) (fun _ => .map []) 0 (w.heap.size + 2) := by
  have e1 : (wr.alloc A).heap.size = wr.heap.size + 1 := by simp
  have e2 : ((wr.alloc A).alloc (.map #[] 0)).heap.size = wr.heap.size + 1 + 1 := by simp
  have hb3 : Below wr.heap.size wr (((wr.alloc A).alloc (.map #[] 0)).alloc (.cells #[.int .i64 (k : Int), .string na, .pointer none, .map (some (wr.heap.size + 1))] 183 (0, 0))) := (((Below.refl _ _).alloc (Nat.le_refl _) _).alloc (by simp) _).alloc (by simp; omega) _
  have hnode := heap_alloc_new ((wr.alloc A).alloc (.map #[] 0)) (.cells #[.int .i64 (k : Int), .string na, .pointer none, .map (some (wr.heap.size + 1))] 183 (0, 0))
  rw [e2] at hnode
  have hmap : (((wr.alloc A).alloc (.map #[] 0)).alloc (.cells #[.int .i64 (k : Int), .string na, .pointer none, .map (some (wr.heap.size + 1))] 183 (0, 0))).ownsMap Tryz.prog 9 (plainElem (H := Unit) Tryz.prog 3) (wr.heap.size + 1) 0 (.map []) := by
    have := (World.ownsMap_made (wr.alloc A) Tryz.prog 9 (plainElem (H := Unit) Tryz.prog 3)).alloc (.cells #[.int .i64 (k : Int), .string na, .pointer none, .map (some (wr.heap.size + 1))] 183 (0, 0))
    rwa [e1] at this
  have hsz3 := hb3.size
  generalize (((wr.alloc A).alloc (.map #[] 0)).alloc (.cells #[.int .i64 (k : Int), .string na, .pointer none, .map (some (wr.heap.size + 1))] 183 (0, 0))) = W3 at hW hb3 hnode hmap hsz3
  have hns3 := hN.push (b := wr.heap.size + 1 + 1) (m := wr.heap.size + 1) hb3 (by omega) (by omega) (by omega) (by omega) (by rw [hna]; exact hnode) hmap
  subst hW
  have hk := Kept.set W3 (w.heap.size + 1) k (.pointer (some ⟨wr.heap.size + 1 + 1, 0, none⟩))
  have acc3 := acc.trans (hb3.mono acc.size)
  refine ⟨acc3.trans (hk.toBelow acc3.size (by intro j hj; omega)), by simp only [World.size_setCell]; omega, ?_, ?_, hns3.kept hk (by intro g hg; omega)⟩
  · rw [hk.block _ (by omega) (by omega), hb3.block _ (by omega), h0, tRow_zero]
  · rw [heap_setCell_same _ _ _ _ _ _ ((hb3.block _ hsz).trans h1), tRow_put _ _ _ _ hlt hu]

theorem nodesOf_any (x : Value) (vs : List Gv) (w : World) (hs : SlG w x vs) (h8 : vs.length = 8) :
    Calls Tryz.prog 183 #[x] w fun e w' => ∃ nb mb, e = .returned (.agg (tRow (gsD vs) nb 8)) ∧ NS w' (gsD vs) 8 nb mb (fun _ => none) (fun _ => .map []) 0 (w.heap.size + 2) ∧ Below w.heap.size w w' := by
  obtain ⟨q, o, cap, rfl, hq, hrow⟩ := groups8 hs h8
  have HR : Hid (∀ W, Below w.heap.size w W → ∀ k, k < 8 → ∃ e, vs[k]? = some e ∧ W.rangeAt q (o + k * 14) (gvC e) ∧ Slices e) := hrow
  clear hrow hs
  go_enter Tryz.func183, Tryz.ntmps183
  go_wp2
  go_loopw [8] (fun i wr => ∃ (k : Nat) (nb mb : Nat → Nat), k ≤ 8 ∧ i = .int .i64 k ∧ Below w.heap.size w wr ∧ w.heap.size + 1 < wr.heap.size ∧ wr.heap[w.heap.size]? = some (.cells (tRow (gsD vs) nb 0) 164 (0, 0)) ∧
      wr.heap[w.heap.size + 1]? = some (.cells (tRow (gsD vs) nb k) 164 (0, 0)) ∧ NS wr (gsD vs) k nb mb (fun _ => none) (fun _ => .map []) 0 (w.heap.size + 2)) (fun i _ => 8 - (intOf i).toNat)
  case atStart => exact ⟨0, fun _ => 0, fun _ => 0, by omega, rfl, by go_grown, by simp, by rw [tRow_none]; exact heap_alloc2_old _ _ _, by rw [tRow_none]; exact heap_alloc2_new _ _ _, NS.empty _ _ _ _ _ _ _ _⟩
  case round =>
    obtain ⟨k, nb, mb, hk, rfl, acc, hsz, hg0, hg1, hns⟩ := hrel
    have H0 : Hid (wr.heap[w.heap.size]? = some (.cells (tRow (gsD vs) nb 0) 164 (0, 0))) := hg0
    have H1 : Hid (wr.heap[w.heap.size + 1]? = some (.cells (tRow (gsD vs) nb k) 164 (0, 0))) := hg1
    have HN : Hid (NS wr (gsD vs) k nb mb (fun _ => none) (fun _ => .map []) 0 (w.heap.size + 2)) := hns
    clear hns
    by_cases hlt : k < 8
    · have hlt' : (k : Int) < 8 := by omega
      obtain ⟨e, he, hr, ⟨p1, l1, c1, e1⟩, ⟨p2, l2, c2, e2⟩, p3, l3, c3, e3⟩ := HR.out wr acc k hlt
      obtain ⟨u1, u2, u3⟩ := gs_at he
      obtain ⟨x0, x1, x2, x3, x4, x5, x6, x7, x8, x9, x10, x11, x12, x13⟩ := gv_cells hr
      rw [e1] at x11
      rw [e2] at x12
      rw [e3] at x13
      clear e1 e2 e3
      have hc := cell_of_row wr _ k _ _ _ hg1
      rw [tRow_get _ _ _ k hlt, tP_past (Nat.le_refl _)] at hc
      have hf := frozen_of_row wr _ k _ _ hg1
      have U1 : Hid (usAt (gsD vs) k = e.d.us) := u1
      have U3 : Hid (naAt (gsD vs) k = e.d.na) := u3
      clear hg0 hg1 hr u1 u2 u3 he
      cases hu : e.d.us
      · rw [hu] at x0
        go_wp2
        go_roundw
        case rel => exact ⟨k + 1, nb, mb, by omega, by go_num, by go_grown, by simp; omega, by rw [heap_alloc_old _ _ (by omega)]; exact H0.out, by rw [heap_alloc_old _ _ (by omega), ← tRow_skip _ _ _ (U1.out.trans hu)]; exact H1.out, (HN.out.skip (U1.out.trans hu)).below ((Below.refl _ _).alloc (Nat.le_refl _) _)⟩
        case measure => simp [intOf]; omega
      · rw [hu] at x0
        have hmm : ∀ W : World, (Instr.makeMap 181 none).run Tryz.prog W = .ok (.map (some W.heap.size)) (W.alloc (.map #[] 0)) := fun W => rfl
        have hb3 : ∀ A M Q, Below wr.heap.size wr (((wr.alloc A).alloc M).alloc Q) := fun A M Q => (((Below.refl _ _).alloc (Nat.le_refl _) _).alloc (by simp) _).alloc (by simp; omega) _
        have hc3 : ∀ A M Q, (((wr.alloc A).alloc M).alloc Q).cell? ⟨w.heap.size + 1, k, none⟩ = some (.pointer none) := fun A M Q => ((hb3 A M Q).cell hsz).trans hc
        have hf3 : ∀ A M Q, (((wr.alloc A).alloc M).alloc Q).frozen? ⟨w.heap.size + 1, k, none⟩ = false := fun A M Q => (World.frozen?_of_block ((hb3 A M Q).block _ hsz)).trans hf
        have HB3 : Hid (∀ A M Q, Below wr.heap.size wr (((wr.alloc A).alloc M).alloc Q)) := hb3
        clear hb3
        go_wp2
        obtain ⟨r1, r2, r3, r4, r5⟩ := nodes_step _ acc hsz H0.out H1.out HN.out hlt (U1.out.trans hu) U3.out rfl
        exact ⟨⟨k + 1, _, _, by omega, by go_num, r1, r2, r3, r4, r5⟩, by simp [intOf]; omega⟩
    · have : k = 8 := by omega
      subst this
      go_wp2_with (first
        | refine wpList_load_row rfl 164 _ rfl (w.heap.size + 1) rfl 164 (tRow (gsD vs) nb 8) (0, 0) _ hg1 Tryz.underlying164 rfl (info_treeR _ _ _) ?_
        | refine wpList_store_row rfl 164 _ _ rfl w.heap.size (tRow (gsD vs) nb 8) rfl rfl 164 (tRow (gsD vs) nb 0) hg0 (info_treeR _ _ _) (by rw [tRow_size, tRow_size]) (tRow_one _ _ _) ?_)
      refine bodyPost_ret (results_cell_row rfl _ _ w.heap.size 164 (tRow (gsD vs) nb 8) (0, 0) _ rfl (setRow_heap _ _ _ _ _ _ hg0) Tryz.underlying164 rfl (info_treeR _ _ _)) rfl ?_
      exact ⟨nb, mb, rfl, HN.out.kept (Kept.setRow _ _ _) (by intro g hg; omega), below_setRow acc (Nat.le_refl _) _⟩
theorem tRow_eight (ds : List Gr) (nb : Nat → Nat) (n : Nat) : tRow ds nb n = #[tP ds nb n 0, tP ds nb n 1, tP ds nb n 2, tP ds nb n 3, tP ds nb n 4, tP ds nb n 5, tP ds nb n 6, tP ds nb n 7] := by
  simp [tRow, List.range, List.range.loop]
theorem cells8 {w : World} {b : Nat} {c0 c1 c2 c3 c4 c5 c6 c7 : Value} {t : TypeId} (h : w.heap[b]? = some (.cells #[c0, c1, c2, c3, c4, c5, c6, c7] t (0, 0))) :
    w.cell? ⟨b, 0, none⟩ = some c0 ∧ w.cell? ⟨b, 1, none⟩ = some c1 ∧ w.cell? ⟨b, 2, none⟩ = some c2 ∧ w.cell? ⟨b, 3, none⟩ = some c3 ∧ w.cell? ⟨b, 4, none⟩ = some c4 ∧ w.cell? ⟨b, 5, none⟩ = some c5 ∧ w.cell? ⟨b, 6, none⟩ = some c6 ∧ w.cell? ⟨b, 7, none⟩ = some c7 := by
  refine ⟨?_, ?_, ?_, ?_, ?_, ?_, ?_, ?_⟩ <;> simp [World.cell?, h]

theorem unusedB_at {ds : List Gr} (h8 : ds.length = 8) {p : Int} (h : usedB ds p = false) (nb : Nat → Nat) : atP ds nb 8 p = .pointer none := by
  unfold atP
  split
  · rename_i hp
    obtain ⟨j, rfl⟩ := Int.eq_ofNat_of_zero_le hp.1
    unfold usedB at h
    rw [h8, decide_eq_true hp.1, decide_eq_true (by omega)] at h
    rw [Int.toNat_natCast]
    exact tP_unused (by simpa using h)
  · rfl

theorem hang_orphan (ds : List Gr) (nb : Nat → Nat) (k : Nat) (p : Int) (w : World) (h8 : ds.length = 8) (hk : k < 8) (hu : usAt ds k = true) (hp : usedB ds p = false) :
    Calls Tryz.prog 184 #[.agg (tRow ds nb 8), .int .i64 (k : Int), .int .i64 p] w fun e w' => e = .returned (.bool false) ∧ Below w.heap.size w w' := by
  have hat := unusedB_at h8 hp nb
  have hkk : (k : Int) < 8 := by omega
  have e8 := tRow_eight ds nb 8
  obtain ⟨k0, k1, k2, k3, k4, k5, k6, k7⟩ := cells8 (heap_alloc_new w (.cells #[tP ds nb 8 0, tP ds nb 8 1, tP ds nb 8 2, tP ds nb 8 3, tP ds nb 8 4, tP ds nb 8 5, tP ds nb 8 6, tP ds nb 8 7] 164 (0, 0)))
  have hc := cell_of_row (w.alloc (.cells (tRow ds nb 8) 164 (0, 0))) w.heap.size k _ _ _ (heap_alloc_new _ _)
  rw [tRow_get ds nb 8 k hk, tP_used hk hu, e8] at hc
  have E8 : Hid (tRow ds nb 8 = #[tP ds nb 8 0, tP ds nb 8 1, tP ds nb 8 2, tP ds nb 8 3, tP ds nb 8 4, tP ds nb 8 5, tP ds nb 8 6, tP ds nb 8 7]) := e8
  have HA : Hid (atP ds nb 8 p = .pointer none) := hat
  rw [e8]
  clear e8 hat
  have hlt : w.heap.size < (w.alloc (.cells #[tP ds nb 8 0, tP ds nb 8 1, tP ds nb 8 2, tP ds nb 8 3, tP ds nb 8 4, tP ds nb 8 5, tP ds nb 8 6, tP ds nb 8 7] 164 (0, 0))).heap.size := by simp
  have acc : Below w.heap.size w (w.alloc (.cells #[tP ds nb 8 0, tP ds nb 8 1, tP ds nb 8 2, tP ds nb 8 3, tP ds nb 8 4, tP ds nb 8 5, tP ds nb 8 6, tP ds nb 8 7] 164 (0, 0))) := by go_grown
  go_enter Tryz.func184, Tryz.ntmps184
  go_wp2_with fail
  generalize tP ds nb 8 0 = t0 at *
  generalize tP ds nb 8 1 = t1 at *
  generalize tP ds nb 8 2 = t2 at *
  generalize tP ds nb 8 3 = t3 at *
  generalize tP ds nb 8 4 = t4 at *
  generalize tP ds nb 8 5 = t5 at *
  generalize tP ds nb 8 6 = t6 at *
  generalize tP ds nb 8 7 = t7 at *
  generalize w.alloc (.cells #[t0, t1, t2, t3, t4, t5, t6, t7] 164 (0, 0)) = W at *
  generalize hB : w.heap.size = B at *
  go_region_held3 (fun w' => w'.cell? ⟨B, 0, none⟩ = some t0 ∧ w'.cell? ⟨B, 1, none⟩ = some t1 ∧ w'.cell? ⟨B, 2, none⟩ = some t2 ∧ w'.cell? ⟨B, 3, none⟩ = some t3 ∧ w'.cell? ⟨B, 4, none⟩ = some t4 ∧ w'.cell? ⟨B, 5, none⟩ = some t5 ∧ w'.cell? ⟨B, 6, none⟩ = some t6 ∧ w'.cell? ⟨B, 7, none⟩ = some t7 ∧ w'.cell? ⟨B, k, none⟩ = some (.pointer (some ⟨nb k, 0, none⟩))) (go_keep) (first | (go_at_call 169; rw [← E8.out]; refine (at_any ds nb 8 p _).mono ?_; rw [HA.out]; rintro e w2 ⟨rfl, hb2⟩; have hb3 := (Below.refl _ W).drew.trans hb2; have g0 := (hb3.cell hlt).trans k0; have g1 := (hb3.cell hlt).trans k1; have g2 := (hb3.cell hlt).trans k2; have g3 := (hb3.cell hlt).trans k3; have g4 := (hb3.cell hlt).trans k4; have g5 := (hb3.cell hlt).trans k5; have g6 := (hb3.cell hlt).trans k6; have g7 := (hb3.cell hlt).trans k7; have g8 := (hb3.cell hlt).trans hc))
  all_goals
    simp only [Exit.then]
    go_at_K
    go_wp2_with fail
    go_ret
    subst hB
    exact ⟨rfl, acc.trans (hb3.mono acc.size)⟩
def keyS (s : ByteArray) : Lit := .string s.data.toList
theorem key_of (s : ByteArray) (hs : s.size ≤ maxLen) : keyOf Tryz.prog 9 (.string s) = some (keyS s) := Go.WideMaps.keyOf_string_mk Tryz.underlying9 hs
theorem zero_int (w : World) : (zeroValue 3).run Tryz.prog w = .ok (.int .i64 0) w := by kernel_rfl
theorem look_named {W : World} {b c : Nat} {D : DataW Unit} (h : W.ownsMap Tryz.prog 9 (plainElem Tryz.prog 3) b c D) (s : ByteArray) (hs : s.size ≤ maxLen) :
    ∃ x : Int, D.atKey (keyS s) (.lit (.int .i64 0)) = .lit (.int .i64 x) ∧ ∀ n, (Instr.lookup 181 (.map (some b)) (.string s) true).run Tryz.prog (W.drewN n) = .ok (.tuple #[.int .i64 x, .bool (Maps.has D (keyS s))]) (W.drewN n) := by
  have each : ∀ n, ∃ x : Int, D.atKey (keyS s) (.lit (.int .i64 0)) = .lit (.int .i64 x) ∧ (Instr.lookup 181 (.map (some b)) (.string s) true).run Tryz.prog (W.drewN n) = .ok (.tuple #[.int .i64 x, .bool (Maps.has D (keyS s))]) (W.drewN n) := by
    intro n
    have hn : (W.drewN n).ownsMap Tryz.prog 9 (plainElem Tryz.prog 3) b c D := h
    obtain ⟨v, ps, h1, h2⟩ := hn.look_ok strKeyed Tryz.underlying181 (zero_int _) (plainElem_int Tryz.underlying3 (by decide)) (key_of s hs)
    obtain ⟨x, rfl, h3, _⟩ := plainElem_int_inv Tryz.underlying3 h2
    exact ⟨x, congrArg Prod.fst h3, h1⟩
  obtain ⟨x, hx, _⟩ := each 0
  refine ⟨x, hx, fun n => ?_⟩
  obtain ⟨y, hy, hr⟩ := each n
  obtain rfl : x = y := by
    have := hx.symm.trans hy
    simpa using this
  exact hr
theorem node_cells {W : World} {ds : List Gr} {n c B : Nat} {nb mb : Nat → Nat} {par : Nat → Option Nat} {Dm : Nat → DataW Unit} (h : NS W ds n nb mb par Dm c B) {i : Nat} (hi : i < n) (hu : usAt ds i = true) :
    W.cell? ⟨nb i, 0, none⟩ = some (.int .i64 (i : Int)) ∧ W.cell? ⟨nb i, 1, none⟩ = some (.string (naAt ds i)) ∧ W.cell? ⟨nb i, 2, none⟩ = some (.pointer ((par i).map fun j => ⟨nb j, 0, none⟩)) ∧ W.cell? ⟨nb i, 3, none⟩ = some (.map (some (mb i))) ∧ W.frozen? ⟨nb i, 2, none⟩ = false := by
  obtain ⟨a, b, c, d⟩ := qbox (h.node i hi hu)
  exact ⟨a, b, c, d, fbox (h.node i hi hu) 2⟩
theorem NS.size_eq {W : World} {ds : List Gr} {n c B : Nat} {nb mb : Nat → Nat} {par : Nat → Option Nat} {Dm : Nat → DataW Unit} (h : NS W ds n nb mb par Dm c B) {c' : Nat} (hc : c ≤ c') : NS W ds n nb mb par Dm c' B :=
  ⟨h.node, fun i hi hu => (h.map i hi hu).mono hc, h.low, h.inj, h.sep⟩
theorem NS.hang {W W6 : World} {ds : List Gr} {c B : Nat} {nb mb : Nat → Nat} {par : Nat → Option Nat} {Dm : Nat → DataW Unit} (h : NS W ds 8 nb mb par Dm c B) {k j : Nat} (hk : k < 8) (hj : j < 8) (uk : usAt ds k = true) (uj : usAt ds j = true)
    (hown : W6.ownsMap Tryz.prog 9 (plainElem Tryz.prog 3) (mb j) (c + 1) ((Dm j).put (keyS (naAt ds k)) (.lit (.int .i64 (k : Int))))) (hg : W.grownBy W6 (some (mb j))) :
    NS (W6.setCell ⟨nb k, 2, none⟩ (.pointer (some ⟨nb j, 0, none⟩))) ds 8 nb mb (upd par k (some j)) (upd Dm j ((Dm j).put (keyS (naAt ds k)) (.lit (.int .i64 (k : Int))))) (c + 1) B ∧
      Kept (fun g => g = nb k ∨ g = mb j) W (W6.setCell ⟨nb k, 2, none⟩ (.pointer (some ⟨nb j, 0, none⟩))) := by
  have hk1 := Kept.ofGrown hg
  have hk2 := Kept.set W6 (nb k) 2 (.pointer (some ⟨nb j, 0, none⟩))
  have hkk := hk1.trans hk2
  have hlt := fun i hi hu => h.lt (i := i) hi hu
  refine ⟨⟨?_, ?_, h.low, h.inj, h.sep⟩, hkk.mono ?_⟩
  · intro i hi hu
    have hsep := h.sep i j hi hj hu uj
    by_cases e : i = k
    · subst e
      have h6 : W6.heap[nb i]? = some (.cells (nodeC ds nb mb par i) 183 (0, 0)) := (hk1.block _ (hlt i hi hu).1 (by intro hh; exact hsep (Option.some.inj hh).symm)).trans (h.node i hi hu)
      rw [heap_setCell_same _ _ _ _ _ _ h6]
      unfold nodeC
      rw [upd_same]
      rfl
    · have hne := (h.inj i k hi hk hu uk e).1
      rw [hkk.block _ (hlt i hi hu).1 (by rintro (hh | hh); exact hsep (Option.some.inj hh).symm; exact hne hh), h.node i hi hu]
      unfold nodeC
      rw [upd_other _ _ e]
  · intro i hi hu
    by_cases e : i = j
    · subst e
      rw [upd_same]
      exact ownsMap_kept hown hk2 (fun hh => h.sep k i hk hi uk hu hh.symm)
    · rw [upd_other _ _ e]
      have hne := (h.inj i j hi hj hu uj e).2
      have hsep := h.sep k i hk hi uk hu
      exact (ownsMap_kept (h.map i hi hu) hkk (by rintro (hh | hh); exact hne (Option.some.inj hh).symm; exact hsep hh.symm)).mono (by omega)
  · rintro g (hh | hh)
    · exact .inr (Option.some.inj hh).symm
    · exact .inl hh
theorem small_wf {k : Nat} (h : k < 8) : (Lit.int .i64 (k : Int)).wf = true := by
  have : ∀ k : Fin 8, (Lit.int .i64 (k.val : Int)).wf = true := by decide
  exact this ⟨k, h⟩
theorem hang_bad (ds : List Gr) (nb mb : Nat → Nat) (par : Nat → Option Nat) (Dm : Nat → DataW Unit) (c B0 : Nat) (k j : Nat) (w : World) (hns : NS w ds 8 nb mb par Dm c B0) (hk : k < 8) (hj : j < 8) (uk : usAt ds k = true) (uj : usAt ds j = true) (hna : (naAt ds k).size ≤ 1048576) (hno : nameB (naAt ds k) = false) :
    Calls Tryz.prog 184 #[.agg (tRow ds nb 8), .int .i64 (k : Int), .int .i64 (j : Int)] w fun e w' => e = .returned (.bool false) ∧ Below w.heap.size w w' := by
  obtain ⟨hat0, hk1⟩ : atP ds nb 8 (j : Int) = .pointer (some ⟨nb j, 0, none⟩) ∧ (k : Int) < 8 := ⟨by unfold atP; rw [if_pos (by omega), Int.toNat_natCast, tP_used hj uj], by omega⟩
  have e8 := tRow_eight ds nb 8
  obtain ⟨k0, k1, k2, k3, k4, k5, k6, k7⟩ := cells8 (heap_alloc_new w (.cells #[tP ds nb 8 0, tP ds nb 8 1, tP ds nb 8 2, tP ds nb 8 3, tP ds nb 8 4, tP ds nb 8 5, tP ds nb 8 6, tP ds nb 8 7] 164 (0, 0)))
  have hc := cell_of_row (w.alloc (.cells (tRow ds nb 8) 164 (0, 0))) w.heap.size k _ _ _ (heap_alloc_new _ _)
  rw [tRow_get ds nb 8 k hk, tP_used hk uk, e8] at hc
  have E8 : Hid (tRow ds nb 8 = #[tP ds nb 8 0, tP ds nb 8 1, tP ds nb 8 2, tP ds nb 8 3, tP ds nb 8 4, tP ds nb 8 5, tP ds nb 8 6, tP ds nb 8 7]) := e8
  have HA : Hid (atP ds nb 8 (j : Int) = .pointer (some ⟨nb j, 0, none⟩)) := hat0
  rw [e8]
  clear e8 hat0
  have hlt : w.heap.size < (w.alloc (.cells #[tP ds nb 8 0, tP ds nb 8 1, tP ds nb 8 2, tP ds nb 8 3, tP ds nb 8 4, tP ds nb 8 5, tP ds nb 8 6, tP ds nb 8 7] 164 (0, 0))).heap.size := by simp
  have acc0 : Below w.heap.size w (w.alloc (.cells #[tP ds nb 8 0, tP ds nb 8 1, tP ds nb 8 2, tP ds nb 8 3, tP ds nb 8 4, tP ds nb 8 5, tP ds nb 8 6, tP ds nb 8 7] 164 (0, 0))) := by go_grown
  have ACC : Hid (Below w.heap.size w (w.alloc (.cells #[tP ds nb 8 0, tP ds nb 8 1, tP ds nb 8 2, tP ds nb 8 3, tP ds nb 8 4, tP ds nb 8 5, tP ds nb 8 6, tP ds nb 8 7] 164 (0, 0)))) := acc0
  have HNS : Hid (NS w ds 8 nb mb par Dm c B0) := hns
  clear acc0 hns
  go_enter Tryz.func184, Tryz.ntmps184
  go_wp2_with fail
  generalize tP ds nb 8 0 = t0 at *
  generalize tP ds nb 8 1 = t1 at *
  generalize tP ds nb 8 2 = t2 at *
  generalize tP ds nb 8 3 = t3 at *
  generalize tP ds nb 8 4 = t4 at *
  generalize tP ds nb 8 5 = t5 at *
  generalize tP ds nb 8 6 = t6 at *
  generalize tP ds nb 8 7 = t7 at *
  generalize w.alloc (.cells #[t0, t1, t2, t3, t4, t5, t6, t7] 164 (0, 0)) = W at *
  generalize hB : w.heap.size = B at k0 k1 k2 k3 k4 k5 k6 k7 hc hlt ⊢
  go_region_held3 (fun w' => w'.cell? ⟨B, 0, none⟩ = some t0 ∧ w'.cell? ⟨B, 1, none⟩ = some t1 ∧ w'.cell? ⟨B, 2, none⟩ = some t2 ∧ w'.cell? ⟨B, 3, none⟩ = some t3 ∧ w'.cell? ⟨B, 4, none⟩ = some t4 ∧ w'.cell? ⟨B, 5, none⟩ = some t5 ∧ w'.cell? ⟨B, 6, none⟩ = some t6 ∧ w'.cell? ⟨B, 7, none⟩ = some t7 ∧ w'.cell? ⟨B, k, none⟩ = some (.pointer (some ⟨nb k, 0, none⟩))) (go_keep) (first | (go_at_call 169; rw [← E8.out]; refine (at_any ds nb 8 (j : Int) _).mono ?_; rw [HA.out]; rintro e w2 ⟨rfl, hb2⟩; have hb3 := (Below.refl _ W).drew.trans hb2; have g0 := (hb3.cell hlt).trans k0; have g1 := (hb3.cell hlt).trans k1; have g2 := (hb3.cell hlt).trans k2; have g3 := (hb3.cell hlt).trans k3; have g4 := (hb3.cell hlt).trans k4; have g5 := (hb3.cell hlt).trans k5; have g6 := (hb3.cell hlt).trans k6; have g7 := (hb3.cell hlt).trans k7; have g8 := (hb3.cell hlt).trans hc))
  clear k0 k1 k2 k3 k4 k5 k6 k7 hc g0 g1 g2 g3 g4 g5 g6 g7 g8 E8 HA hb2 hlt
  subst hB
  have acc := ACC.out.trans (hb3.mono ACC.out.size)
  have ns2 := HNS.out.below acc
  clear ACC HNS hb3
  obtain ⟨a0, a1, a2, a3, a2f⟩ := node_cells ns2 hk uk
  obtain ⟨b0, b1, b2, b3, b2f⟩ := node_cells ns2 hj uj
  have HN2 : Hid (NS w2 ds 8 nb mb par Dm c B0) := ns2
  clear ns2
  simp only [Exit.then]
  go_at_K
  go_wp2_with fail
  refine (impl_name _ _).mono ?_
  rintro e w3 ⟨rfl, hb3⟩
  have acc3 := acc.trans (hb3.mono acc.size)
  have ns3 := HN2.out.below hb3
  clear HN2 hb3 acc a0 a1 a2 a3 a2f b0 b1 b2 b3 b2f
  rw [hno]
  simp only []
  go_at_K
  go_wp2_with fail
  go_ret
  exact ⟨rfl, acc3⟩

theorem hang_there (ds : List Gr) (nb mb : Nat → Nat) (par : Nat → Option Nat) (Dm : Nat → DataW Unit) (c B0 : Nat) (k j : Nat) (w : World) (hns : NS w ds 8 nb mb par Dm c B0) (hk : k < 8) (hj : j < 8) (uk : usAt ds k = true) (uj : usAt ds j = true) (hna : (naAt ds k).size ≤ 1048576) (hno : nameB (naAt ds k) = true) (hh : Maps.has (Dm j) (keyS (naAt ds k)) = true) :
    Calls Tryz.prog 184 #[.agg (tRow ds nb 8), .int .i64 (k : Int), .int .i64 (j : Int)] w fun e w' => e = .returned (.bool false) ∧ Below w.heap.size w w' := by
  obtain ⟨hat0, hk1⟩ : atP ds nb 8 (j : Int) = .pointer (some ⟨nb j, 0, none⟩) ∧ (k : Int) < 8 := ⟨by unfold atP; rw [if_pos (by omega), Int.toNat_natCast, tP_used hj uj], by omega⟩
  have e8 := tRow_eight ds nb 8
  obtain ⟨k0, k1, k2, k3, k4, k5, k6, k7⟩ := cells8 (heap_alloc_new w (.cells #[tP ds nb 8 0, tP ds nb 8 1, tP ds nb 8 2, tP ds nb 8 3, tP ds nb 8 4, tP ds nb 8 5, tP ds nb 8 6, tP ds nb 8 7] 164 (0, 0)))
  have hc := cell_of_row (w.alloc (.cells (tRow ds nb 8) 164 (0, 0))) w.heap.size k _ _ _ (heap_alloc_new _ _)
  rw [tRow_get ds nb 8 k hk, tP_used hk uk, e8] at hc
  have E8 : Hid (tRow ds nb 8 = #[tP ds nb 8 0, tP ds nb 8 1, tP ds nb 8 2, tP ds nb 8 3, tP ds nb 8 4, tP ds nb 8 5, tP ds nb 8 6, tP ds nb 8 7]) := e8
  have HA : Hid (atP ds nb 8 (j : Int) = .pointer (some ⟨nb j, 0, none⟩)) := hat0
  rw [e8]
  clear e8 hat0
  have hlt : w.heap.size < (w.alloc (.cells #[tP ds nb 8 0, tP ds nb 8 1, tP ds nb 8 2, tP ds nb 8 3, tP ds nb 8 4, tP ds nb 8 5, tP ds nb 8 6, tP ds nb 8 7] 164 (0, 0))).heap.size := by simp
  have acc0 : Below w.heap.size w (w.alloc (.cells #[tP ds nb 8 0, tP ds nb 8 1, tP ds nb 8 2, tP ds nb 8 3, tP ds nb 8 4, tP ds nb 8 5, tP ds nb 8 6, tP ds nb 8 7] 164 (0, 0))) := by go_grown
  have ACC : Hid (Below w.heap.size w (w.alloc (.cells #[tP ds nb 8 0, tP ds nb 8 1, tP ds nb 8 2, tP ds nb 8 3, tP ds nb 8 4, tP ds nb 8 5, tP ds nb 8 6, tP ds nb 8 7] 164 (0, 0)))) := acc0
  have HNS : Hid (NS w ds 8 nb mb par Dm c B0) := hns
  clear acc0 hns
  go_enter Tryz.func184, Tryz.ntmps184
  go_wp2_with fail
  generalize tP ds nb 8 0 = t0 at *
  generalize tP ds nb 8 1 = t1 at *
  generalize tP ds nb 8 2 = t2 at *
  generalize tP ds nb 8 3 = t3 at *
  generalize tP ds nb 8 4 = t4 at *
  generalize tP ds nb 8 5 = t5 at *
  generalize tP ds nb 8 6 = t6 at *
  generalize tP ds nb 8 7 = t7 at *
  generalize w.alloc (.cells #[t0, t1, t2, t3, t4, t5, t6, t7] 164 (0, 0)) = W at *
  generalize hB : w.heap.size = B at k0 k1 k2 k3 k4 k5 k6 k7 hc hlt ⊢
  go_region_held3 (fun w' => w'.cell? ⟨B, 0, none⟩ = some t0 ∧ w'.cell? ⟨B, 1, none⟩ = some t1 ∧ w'.cell? ⟨B, 2, none⟩ = some t2 ∧ w'.cell? ⟨B, 3, none⟩ = some t3 ∧ w'.cell? ⟨B, 4, none⟩ = some t4 ∧ w'.cell? ⟨B, 5, none⟩ = some t5 ∧ w'.cell? ⟨B, 6, none⟩ = some t6 ∧ w'.cell? ⟨B, 7, none⟩ = some t7 ∧ w'.cell? ⟨B, k, none⟩ = some (.pointer (some ⟨nb k, 0, none⟩))) (go_keep) (first | (go_at_call 169; rw [← E8.out]; refine (at_any ds nb 8 (j : Int) _).mono ?_; rw [HA.out]; rintro e w2 ⟨rfl, hb2⟩; have hb3 := (Below.refl _ W).drew.trans hb2; have g0 := (hb3.cell hlt).trans k0; have g1 := (hb3.cell hlt).trans k1; have g2 := (hb3.cell hlt).trans k2; have g3 := (hb3.cell hlt).trans k3; have g4 := (hb3.cell hlt).trans k4; have g5 := (hb3.cell hlt).trans k5; have g6 := (hb3.cell hlt).trans k6; have g7 := (hb3.cell hlt).trans k7; have g8 := (hb3.cell hlt).trans hc))
  clear k0 k1 k2 k3 k4 k5 k6 k7 hc g0 g1 g2 g3 g4 g5 g6 g7 g8 E8 HA hb2 hlt
  subst hB
  have acc := ACC.out.trans (hb3.mono ACC.out.size)
  have ns2 := HNS.out.below acc
  clear ACC HNS hb3
  obtain ⟨a0, a1, a2, a3, a2f⟩ := node_cells ns2 hk uk
  obtain ⟨b0, b1, b2, b3, b2f⟩ := node_cells ns2 hj uj
  have HN2 : Hid (NS w2 ds 8 nb mb par Dm c B0) := ns2
  clear ns2
  simp only [Exit.then]
  go_at_K
  go_wp2_with fail
  refine (impl_name _ _).mono ?_
  rintro e w3 ⟨rfl, hb3⟩
  have acc3 := acc.trans (hb3.mono acc.size)
  have ns3 := HN2.out.below hb3
  clear HN2 hb3 acc a0 a1 a2 a3 a2f b0 b1 b2 b3 b2f
  rw [hno]
  simp only []
  go_at_K
  go_wp2_with fail
  obtain ⟨a0, a1, a2, a3, a2f⟩ := node_cells ns3 hk uk
  obtain ⟨b0, b1, b2, b3, b2f⟩ := node_cells ns3 hj uj
  obtain ⟨xx, hx, hl⟩ := look_named (ns3.map j hj uj) (naAt ds k) (by unfold maxLen; omega)
  rw [hh] at hl
  have HN3 : Hid (NS w3 ds 8 nb mb par Dm c B0) := ns3
  clear ns3 hx
  go_quiet (fail)
  go_wp2_with fail
  go_ret
  exact ⟨rfl, below_drewN acc3 _⟩

theorem hang_yes (ds : List Gr) (nb mb : Nat → Nat) (par : Nat → Option Nat) (Dm : Nat → DataW Unit) (c B0 : Nat) (k j : Nat) (w : World) (hns : NS w ds 8 nb mb par Dm c B0) (hk : k < 8) (hj : j < 8) (uk : usAt ds k = true) (uj : usAt ds j = true) (hna : (naAt ds k).size ≤ 1048576) (hno : nameB (naAt ds k) = true) (hh : Maps.has (Dm j) (keyS (naAt ds k)) = false) (hcc : c ≤ 1000) :
    Calls Tryz.prog 184 #[.agg (tRow ds nb 8), .int .i64 (k : Int), .int .i64 (j : Int)] w fun e w' => e = .returned (.bool true) ∧ NS w' ds 8 nb mb (upd par k (some j)) (upd Dm j ((Dm j).put (keyS (naAt ds k)) (.lit (.int .i64 (k : Int))))) (c + 1) B0 ∧ Kept (fun g => g = nb k ∨ g = mb j) w w' := by
  obtain ⟨hat0, hk1⟩ : atP ds nb 8 (j : Int) = .pointer (some ⟨nb j, 0, none⟩) ∧ (k : Int) < 8 := ⟨by unfold atP; rw [if_pos (by omega), Int.toNat_natCast, tP_used hj uj], by omega⟩
  have e8 := tRow_eight ds nb 8
  obtain ⟨k0, k1, k2, k3, k4, k5, k6, k7⟩ := cells8 (heap_alloc_new w (.cells #[tP ds nb 8 0, tP ds nb 8 1, tP ds nb 8 2, tP ds nb 8 3, tP ds nb 8 4, tP ds nb 8 5, tP ds nb 8 6, tP ds nb 8 7] 164 (0, 0)))
  have hc := cell_of_row (w.alloc (.cells (tRow ds nb 8) 164 (0, 0))) w.heap.size k _ _ _ (heap_alloc_new _ _)
  rw [tRow_get ds nb 8 k hk, tP_used hk uk, e8] at hc
  have E8 : Hid (tRow ds nb 8 = #[tP ds nb 8 0, tP ds nb 8 1, tP ds nb 8 2, tP ds nb 8 3, tP ds nb 8 4, tP ds nb 8 5, tP ds nb 8 6, tP ds nb 8 7]) := e8
  have HA : Hid (atP ds nb 8 (j : Int) = .pointer (some ⟨nb j, 0, none⟩)) := hat0
  rw [e8]
  clear e8 hat0
  have hlt : w.heap.size < (w.alloc (.cells #[tP ds nb 8 0, tP ds nb 8 1, tP ds nb 8 2, tP ds nb 8 3, tP ds nb 8 4, tP ds nb 8 5, tP ds nb 8 6, tP ds nb 8 7] 164 (0, 0))).heap.size := by simp
  have acc0 : Below w.heap.size w (w.alloc (.cells #[tP ds nb 8 0, tP ds nb 8 1, tP ds nb 8 2, tP ds nb 8 3, tP ds nb 8 4, tP ds nb 8 5, tP ds nb 8 6, tP ds nb 8 7] 164 (0, 0))) := by go_grown
  have ACC : Hid (Below w.heap.size w (w.alloc (.cells #[tP ds nb 8 0, tP ds nb 8 1, tP ds nb 8 2, tP ds nb 8 3, tP ds nb 8 4, tP ds nb 8 5, tP ds nb 8 6, tP ds nb 8 7] 164 (0, 0)))) := acc0
  have HNS : Hid (NS w ds 8 nb mb par Dm c B0) := hns
  clear acc0 hns
  go_enter Tryz.func184, Tryz.ntmps184
  go_wp2_with fail
  generalize tP ds nb 8 0 = t0 at *
  generalize tP ds nb 8 1 = t1 at *
  generalize tP ds nb 8 2 = t2 at *
  generalize tP ds nb 8 3 = t3 at *
  generalize tP ds nb 8 4 = t4 at *
  generalize tP ds nb 8 5 = t5 at *
  generalize tP ds nb 8 6 = t6 at *
  generalize tP ds nb 8 7 = t7 at *
  generalize w.alloc (.cells #[t0, t1, t2, t3, t4, t5, t6, t7] 164 (0, 0)) = W at *
  generalize hBB : w.heap.size = B at k0 k1 k2 k3 k4 k5 k6 k7 hc hlt ⊢
  go_region_held3 (fun w' => w'.cell? ⟨B, 0, none⟩ = some t0 ∧ w'.cell? ⟨B, 1, none⟩ = some t1 ∧ w'.cell? ⟨B, 2, none⟩ = some t2 ∧ w'.cell? ⟨B, 3, none⟩ = some t3 ∧ w'.cell? ⟨B, 4, none⟩ = some t4 ∧ w'.cell? ⟨B, 5, none⟩ = some t5 ∧ w'.cell? ⟨B, 6, none⟩ = some t6 ∧ w'.cell? ⟨B, 7, none⟩ = some t7 ∧ w'.cell? ⟨B, k, none⟩ = some (.pointer (some ⟨nb k, 0, none⟩))) (go_keep) (first | (go_at_call 169; rw [← E8.out]; refine (at_any ds nb 8 (j : Int) _).mono ?_; rw [HA.out]; rintro e w2 ⟨rfl, hb2⟩; have hb3 := (Below.refl _ W).drew.trans hb2; have g0 := (hb3.cell hlt).trans k0; have g1 := (hb3.cell hlt).trans k1; have g2 := (hb3.cell hlt).trans k2; have g3 := (hb3.cell hlt).trans k3; have g4 := (hb3.cell hlt).trans k4; have g5 := (hb3.cell hlt).trans k5; have g6 := (hb3.cell hlt).trans k6; have g7 := (hb3.cell hlt).trans k7; have g8 := (hb3.cell hlt).trans hc))
  clear k0 k1 k2 k3 k4 k5 k6 k7 hc g0 g1 g2 g3 g4 g5 g6 g7 g8 E8 HA hb2 hlt
  subst hBB
  have acc := ACC.out.trans (hb3.mono ACC.out.size)
  have ns2 := HNS.out.below acc
  clear ACC HNS hb3
  obtain ⟨a0, a1, a2, a3, a2f⟩ := node_cells ns2 hk uk
  obtain ⟨b0, b1, b2, b3, b2f⟩ := node_cells ns2 hj uj
  have HN2 : Hid (NS w2 ds 8 nb mb par Dm c B0) := ns2
  clear ns2
  simp only [Exit.then]
  go_at_K
  go_wp2_with fail
  refine (impl_name _ _).mono ?_
  rintro e w3 ⟨rfl, hb3⟩
  have acc3 := acc.trans (hb3.mono acc.size)
  have ns3 := HN2.out.below hb3
  clear HN2 hb3 acc a0 a1 a2 a3 a2f b0 b1 b2 b3 b2f
  rw [hno]
  simp only []
  go_at_K
  go_wp2_with fail
  obtain ⟨a0, a1, a2, a3, a2f⟩ := node_cells ns3 hk uk
  obtain ⟨b0, b1, b2, b3, b2f⟩ := node_cells ns3 hj uj
  obtain ⟨xx, hx, hl⟩ := look_named (ns3.map j hj uj) (naAt ds k) (by unfold maxLen; omega)
  rw [hh] at hl
  have HN3 : Hid (NS w3 ds 8 nb mb par Dm c B0) := ns3
  clear ns3 hx
  go_quiet (fail)
  go_wp2_with fail
  clear a0 a1 a2 a3 a2f b0 b1 b2 b3 b2f hl
  generalize hw5 : w3.drewN _ = w5
  have ns5 : NS w5 ds 8 nb mb par Dm c B0 := by rw [← hw5]; exact HN3.out.below (below_drewN (Below.refl _ w3) _)
  have acc5 : Below w.heap.size w w5 := by rw [← hw5]; exact below_drewN acc3 _
  clear hw5 HN3 acc3
  obtain ⟨a0, a1, a2, a3, a2f⟩ := node_cells ns5 hk uk
  obtain ⟨b0, b1, b2, b3, b2f⟩ := node_cells ns5 hj uj
  obtain ⟨w6, hrun, hown, hgrow⟩ := (show w5.drew.ownsMap Tryz.prog 9 (plainElem Tryz.prog 3) (mb j) c (Dm j) from ns5.map j hj uj).update strKeyed Tryz.underlying181 (by unfold maxLen; omega) (key_of (naAt ds k) (by unfold maxLen; omega)) (plainElem_int Tryz.underlying3 (a := (k : Int)) (small_wf hk))
  have hkn := (Kept.ofGrown hgrow).block (nb k) (ns5.lt hk uk).1 (by intro h; exact ns5.sep k j hk hj uk uj (Option.some.inj h).symm)
  have d2 := (World.cell?_of_block (a := ⟨nb k, 2, none⟩) hkn).trans a2
  have d2f := (World.frozen?_of_block (a := ⟨nb k, 2, none⟩) hkn).trans a2f
  have HR := NS.hang (W := w5.drew) (c := c) (ns5.below ((Below.refl _ _).drew)) hk hj uk uj hown hgrow
  have HRH : Hid (NS (w6.setCell ⟨nb k, 2, none⟩ (.pointer (some ⟨nb j, 0, none⟩))) ds 8 nb mb (upd par k (some j)) (upd Dm j ((Dm j).put (keyS (naAt ds k)) (.lit (.int .i64 (k : Int))))) (c + 1) B0 ∧ Kept (fun g => g = nb k ∨ g = mb j) w5.drew (w6.setCell ⟨nb k, 2, none⟩ (.pointer (some ⟨nb j, 0, none⟩)))) := HR
  clear HR hown hgrow hkn ns5
  go_region
  all_goals
    simp only [Exit.then]
    go_at_K
    go_wp2_with fail
    go_ret
    exact ⟨rfl, HRH.out.1, ((Kept.ofBelow acc5.drew).trans HRH.out.2).mono (by intro g hg; rcases hg with h | h; exact h.elim; exact h)⟩
def parF (ds : List Gr) (i : Nat) : Option Nat := if i = 0 then none else some (paAt ds i).toNat
def Hung (ds : List Gr) (k : Nat) : Prop := ∀ i, 1 ≤ i → i < k → usAt ds i = true → usedB ds (paAt ds i) = true ∧ nameB (naAt ds i) = true ∧ dupTo ds i i = false
def withinF (ds : List Gr) : Nat → Nat → Bool
  | 0, i => i == 0
  | s + 1, i => i == 0 || withinF ds s (paAt ds i).toNat
theorem Hung.up {ds : List Gr} (h8 : ds.length = 8) (h : Hung ds 8) {i : Nat} (hi : i < 8) (h0 : i ≠ 0) (hu : usAt ds i = true) : ∃ j : Nat, paAt ds i = (j : Int) ∧ j < 8 ∧ usAt ds j = true := by
  obtain ⟨h1, _⟩ := h i (by omega) hi hu
  obtain ⟨j, e, hj, uj⟩ := usedB_yes h1
  exact ⟨j, e, by omega, uj⟩
theorem usedB_nat {ds : List Gr} (h8 : ds.length = 8) {i : Nat} (hi : i < 8) (hu : usAt ds i = true) : usedB ds (i : Int) = true := by
  unfold usedB
  rw [h8, decide_eq_true (by omega), decide_eq_true (by omega), Int.toNat_natCast, hu]
  rfl
theorem depF_zero {ds : List Gr} (h8 : ds.length = 8) (hu : usAt ds 0 = true) (f n : Nat) : depF ds (f + 1) n ((0 : Nat) : Int) = n := by
  unfold depF
  rw [usedB_nat h8 (by omega) hu, if_pos rfl, if_pos (by rfl)]
theorem depF_up {ds : List Gr} (h8 : ds.length = 8) {i j : Nat} (hi : i < 8) (h0 : i ≠ 0) (hu : usAt ds i = true) (hj : paAt ds i = (j : Int)) (f n : Nat) : depF ds (f + 1) n (i : Int) = depF ds f (n + 1) (j : Int) := by
  conv => lhs; unfold depF
  rw [usedB_nat h8 hi hu, if_pos rfl, if_neg (by omega), Int.toNat_natCast, hj]
theorem depF_ge (ds : List Gr) (f n : Nat) (g : Int) : depF ds f n g = -1 ∨ (n : Int) ≤ depF ds f n g := by
  induction f generalizing n g with
  | zero => exact .inl rfl
  | succ f ih =>
    unfold depF
    split
    · split
      · exact .inr (Int.le_refl _)
      · rcases ih (n + 1) (paAt ds g.toNat) with h | h
        · exact .inl h
        · exact .inr (by omega)
    · exact .inl rfl
theorem within_dep {ds : List Gr} (h8 : ds.length = 8) (h : Hung ds 8) (hr : usAt ds 0 = true) : ∀ s i, i < 8 → usAt ds i = true → withinF ds s i = true → ∃ d : Nat, d ≤ s ∧ (d = 0 → i = 0) ∧ ∀ f n, d < f → depF ds f n (i : Int) = (n : Int) + d := by
  intro s
  induction s with
  | zero =>
    intro i hi hu hw
    obtain rfl : i = 0 := by simpa [withinF] using hw
    exact ⟨0, by omega, fun _ => rfl, fun f n hf => by
      obtain ⟨f, rfl⟩ : ∃ g, f = g + 1 := ⟨f - 1, by omega⟩
      rw [depF_zero h8 hr]; simp⟩
  | succ s ih =>
    intro i hi hu hw
    by_cases h0 : i = 0
    · subst h0
      exact ⟨0, by omega, fun _ => rfl, fun f n hf => by
        obtain ⟨f, rfl⟩ : ∃ g, f = g + 1 := ⟨f - 1, by omega⟩
        rw [depF_zero h8 hr]; simp⟩
    · obtain ⟨j, hj, hj8, uj⟩ := h.up h8 hi h0 hu
      have hw' : withinF ds s j = true := by
        unfold withinF at hw
        rw [hj, Int.toNat_natCast] at hw
        simpa [h0] using hw
      obtain ⟨d, hd, _, hf⟩ := ih j hj8 uj hw'
      refine ⟨d + 1, by omega, by omega, fun f n hff => ?_⟩
      obtain ⟨f, rfl⟩ : ∃ g, f = g + 1 := ⟨f - 1, by omega⟩
      rw [depF_up h8 hi h0 hu hj, hf f (n + 1) (by omega)]
      omega
theorem within_far {ds : List Gr} (h8 : ds.length = 8) (h : Hung ds 8) : ∀ s i, i < 8 → usAt ds i = true → withinF ds s i = false → ∀ f n, depF ds f n (i : Int) = -1 ∨ (n : Int) + s + 1 ≤ depF ds f n (i : Int) := by
  intro s
  induction s with
  | zero =>
    intro i hi hu hw f n
    have h0 : i ≠ 0 := by simpa [withinF] using hw
    obtain ⟨j, hj, _, _⟩ := h.up h8 hi h0 hu
    match f with
    | 0 => exact .inl rfl
    | f + 1 =>
      rw [depF_up h8 hi h0 hu hj]
      rcases depF_ge ds f (n + 1) (j : Int) with k | k
      · exact .inl k
      · exact .inr (by omega)
  | succ s ih =>
    intro i hi hu hw f n
    unfold withinF at hw
    have h0 : i ≠ 0 := by intro e; subst e; simp at hw
    obtain ⟨j, hj, hj8, uj⟩ := h.up h8 hi h0 hu
    rw [hj, Int.toNat_natCast] at hw
    have hw' : withinF ds s j = false := by simpa [h0] using hw
    match f with
    | 0 => exact .inl rfl
    | f + 1 =>
      rw [depF_up h8 hi h0 hu hj]
      rcases ih j hj8 uj hw' f (n + 1) with k | k
      · exact .inl k
      · exact .inr (by omega)
theorem dep_within {ds : List Gr} (h8 : ds.length = 8) (h : Hung ds 8) (hr : usAt ds 0 = true) {i : Nat} (hi : i < 8) (h0 : i ≠ 0) (hu : usAt ds i = true) : l1inN (depB ds (i : Int)) 1 3 = withinF ds 3 i := by
  unfold depB
  rw [h8, show (8 + 1 : Nat) = 9 from rfl]
  cases hw : withinF ds 3 i
  · rcases within_far h8 h 3 i hi hu hw 9 0 with k | k
    · exact decide_eq_false (by omega)
    · exact decide_eq_false (by omega)
  · obtain ⟨d, hd, hz, hf⟩ := within_dep h8 h hr 3 i hi hu hw
    have := hf 9 0 (by omega)
    have hd0 : d ≠ 0 := fun e => h0 (hz e)
    exact decide_eq_true (by omega)

def namesTo (ds : List Gr) (j : Nat) (s : List UInt8) : Nat → Bool
  | 0 => false
  | k + 1 => namesTo ds j s k || (decide (1 ≤ k) && (usAt ds k && (paAt ds k == (j : Int)) && ((naAt ds k).data.toList == s)))
theorem dup_names (ds : List Gr) (g j : Nat) (hj : paAt ds g = (j : Int)) : ∀ k, dupTo ds g k = namesTo ds j (naAt ds g).data.toList k := by
  intro k
  induction k with
  | zero => rfl
  | succ k ih =>
    unfold dupTo namesTo
    rw [ih, hj, ByteArray.toList_eq, ByteArray.toList_eq]
structure MO (ds : List Gr) (k : Nat) (Dm : Nat → DataW Unit) : Prop where
  isMap : ∀ j, Maps.IsMap (Dm j)
  has : ∀ j s, Maps.has (Dm j) (.string s) = namesTo ds j s k
  val : ∀ i j, 1 ≤ i → i < k → usAt ds i = true → paAt ds i = ((j : Nat) : Int) → ∀ z, (Dm j).atKey (keyS (naAt ds i)) z = .lit (.int .i64 (i : Int))
theorem MO.start (ds : List Gr) : MO ds 1 (fun _ => .map []) :=
  ⟨fun _ => ⟨_, rfl⟩, fun j s => by show Maps.has (DataW.map []) _ = _; simp [namesTo, Maps.has_eq], fun i j h1 h2 => by omega⟩
theorem MO.skip {ds : List Gr} {k : Nat} {Dm : Nat → DataW Unit} (h : MO ds k Dm) (hu : usAt ds k = false) : MO ds (k + 1) Dm := by
  refine ⟨h.isMap, fun j s => ?_, fun i j h1 h2 hui => ?_⟩
  · rw [h.has]; conv => rhs; unfold namesTo
    rw [hu]; simp
  · rcases Nat.lt_or_ge i k with hk | hk
    · exact h.val i j h1 hk hui
    · obtain rfl : i = k := by omega
      rw [hu] at hui; cases hui
theorem keyS_key (s : ByteArray) (hs : s.size ≤ maxLen) : WideAt.IsKeyLit (keyS s) := strKeyed.key (key_of s hs)
theorem names_of (ds : List Gr) (j : Nat) {i : Nat} (h1 : 1 ≤ i) (hu : usAt ds i = true) (hp : paAt ds i = (j : Int)) : ∀ k, i < k → namesTo ds j (naAt ds i).data.toList k = true := by
  intro k hk
  induction k with
  | zero => omega
  | succ k ih =>
    unfold namesTo
    by_cases e : i = k
    · subst e; rw [hu, hp]; simp [h1]
    · rw [ih (by omega)]; rfl
theorem MO.put {ds : List Gr} {k j : Nat} {Dm : Nat → DataW Unit} (h : MO ds k Dm) (hk : 1 ≤ k) (hu : usAt ds k = true) (hp : paAt ds k = (j : Int)) (hs : (naAt ds k).size ≤ maxLen) (hno : namesTo ds j (naAt ds k).data.toList k = false) :
    MO ds (k + 1) (upd Dm j ((Dm j).put (keyS (naAt ds k)) (.lit (.int .i64 (k : Int))))) := by
  have hkey := keyS_key (naAt ds k) hs
  refine ⟨fun j' => ?_, fun j' s => ?_, fun i j' h1 h2 hui hpi z => ?_⟩
  · by_cases e : j' = j
    · subst e
      rw [upd_same]
      obtain ⟨es, he⟩ := h.isMap j'
      rw [he]
      exact ⟨_, rfl⟩
    · rw [upd_other _ _ e]; exact h.isMap j'
  · conv => rhs; unfold namesTo
    rw [decide_eq_true hk, hu, hp]
    by_cases e : j' = j
    · subst e
      rw [upd_same]
      by_cases es : (naAt ds k).data.toList = s
      · subst es
        rw [show (Lit.string (naAt ds k).data.toList) = keyS (naAt ds k) from rfl, Maps.has_put_same (h.isMap j') hkey]
        simp
      · rw [Maps.has_put_other (by intro hh; exact es (by unfold keyS at hh; simpa using hh.symm)), h.has]
        have : ((naAt ds k).data.toList == s) = false := by simpa using es
        rw [this]; simp
    · rw [upd_other _ _ e, h.has]
      have : (((j : Nat) : Int) == (j' : Int)) = false := by simp; omega
      rw [this]; simp
  · by_cases e : j' = j
    · subst e
      rw [upd_same]
      by_cases ei : i = k
      · subst ei
        exact Maps.atKey_put_same (h.isMap j') hkey _ _
      · have hne : keyS (naAt ds i) ≠ keyS (naAt ds k) := by
          intro hh
          have hd : (naAt ds i).data.toList = (naAt ds k).data.toList := by unfold keyS at hh; simpa using hh
          have := names_of ds j' h1 hui hpi k (by omega)
          rw [hd, hno] at this
          cases this
        rw [Maps.atKey_put_other hne]
        exact h.val i j' h1 (by omega) hui hpi z
    · rw [upd_other _ _ e]
      by_cases ei : i = k
      · subst ei
        rw [hp] at hpi
        omega
      · exact h.val i j' h1 (by omega) hui hpi z
structure TR (W : World) (ds : List Gr) (nb mb : Nat → Nat) (Dm : Nat → DataW Unit) (B : Nat) : Prop where
  ns : NS W ds 8 nb mb (parF ds) Dm 8 B
  len : ds.length = 8
  root : usAt ds 0 = true
  hung : Hung ds 8
theorem TR.at {W : World} {ds : List Gr} {nb mb : Nat → Nat} {Dm : Nat → DataW Unit} {B : Nat} (h : TR W ds nb mb Dm B) {i : Nat} (hi : i < 8) (hu : usAt ds i = true) :
    (i = 0 ∧ W.cell? ⟨nb i, 2, none⟩ = some (.pointer none)) ∨ (i ≠ 0 ∧ ∃ j : Nat, paAt ds i = (j : Int) ∧ j < 8 ∧ usAt ds j = true ∧ W.cell? ⟨nb i, 2, none⟩ = some (.pointer (some ⟨nb j, 0, none⟩))) := by
  obtain ⟨_, _, h2, _⟩ := node_cells h.ns hi hu
  by_cases h0 : i = 0
  · subst h0
    exact .inl ⟨rfl, by rw [h2]; rfl⟩
  · obtain ⟨j, hj, hj8, uj⟩ := h.hung.up h.len hi h0 hu
    refine .inr ⟨h0, j, hj, hj8, uj, ?_⟩
    rw [h2]
    unfold parF
    rw [if_neg h0, hj]
    rfl
theorem within_any (ds : List Gr) (nb mb : Nat → Nat) (Dm : Nat → DataW Unit) (B i : Nat) (w : World) (h : TR w ds nb mb Dm B) (hi : i < 8) (hu : usAt ds i = true) :
    Calls Tryz.prog 185 #[.pointer (some ⟨nb i, 0, none⟩), .int .i64 3] w fun e w' => e = .returned (.bool (withinF ds 3 i)) ∧ w' = w := by
  have HT : Hid (TR w ds nb mb Dm B) := h
  clear h
  go_enter Tryz.func185, Tryz.ntmps185
  go_wp2
  go_loop [0, 6] (fun n c => ∃ (s j : Nat), s ≤ 3 ∧ j < 8 ∧ usAt ds j = true ∧ n = .pointer (some ⟨nb j, 0, none⟩) ∧ c = .int .i64 (s : Int) ∧ withinF ds 3 i = withinF ds (3 - s) j) (fun _ c => 3 - (intOf c).toNat)
  case atStart => exact ⟨0, i, by omega, hi, hu, rfl, rfl, rfl⟩
  case round =>
    obtain ⟨s, j, hs, hj, uj, rfl, rfl, hw⟩ := hrel
    rcases HT.out.at hj uj with ⟨rfl, hc⟩ | ⟨h0, j', hp, hj', uj', hc⟩
    · have hw' : withinF ds 3 i = true := by
        rw [hw]
        cases 3 - s <;> simp [withinF]
      have HW : Hid (withinF ds 3 i = true) := hw'
      clear hw hw'
      by_cases hlt : (s : Int) < 3
      · go_wp2
        go_ret
        exact ⟨by rw [HW.out]; rfl, rfl⟩
      · go_wp2
        go_ret
        exact ⟨by rw [HW.out]; rfl, rfl⟩
    · by_cases hlt : (s : Int) < 3
      · have hw' : withinF ds 3 i = withinF ds (3 - (s + 1)) j' := by
          rw [hw]
          obtain ⟨t, ht⟩ : ∃ t, 3 - s = t + 1 := ⟨2 - s, by omega⟩
          rw [ht, show 3 - (s + 1) = t by omega]
          unfold withinF
          rw [hp, Int.toNat_natCast]
          have : (j == 0) = false := by simpa using h0
          rw [this]
          cases t <;> rfl
        have HW : Hid (withinF ds 3 i = withinF ds (3 - (s + 1)) j') := hw'
        clear hw hw'
        go_wp2
        exact ⟨⟨s + 1, j', by omega, hj', uj', rfl, by go_num, HW.out⟩, by simp [intOf]; omega⟩
      · have hs3 : s = 3 := by omega
        subst hs3
        have hw' : withinF ds 3 i = false := by rw [hw]; simpa [withinF] using h0
        have HW : Hid (withinF ds 3 i = false) := hw'
        clear hw hw'
        go_wp2
        go_ret
        exact ⟨by rw [HW.out]; rfl, rfl⟩
def parTo (ds : List Gr) (k i : Nat) : Option Nat := if 1 ≤ i ∧ i < k ∧ usAt ds i = true then some (paAt ds i).toNat else none
theorem NS.par {W : World} {ds : List Gr} {n c B : Nat} {nb mb : Nat → Nat} {par par' : Nat → Option Nat} {Dm : Nat → DataW Unit} (h : NS W ds n nb mb par Dm c B) (hp : ∀ i, i < n → usAt ds i = true → par i = par' i) : NS W ds n nb mb par' Dm c B :=
  ⟨fun i hi hu => by have := h.node i hi hu; unfold nodeC at this ⊢; rw [← hp i hi hu]; exact this, h.map, h.low, h.inj, h.sep⟩
theorem hung_step {ds : List Gr} {k : Nat} (h : Hung ds k) (h1 : usedB ds (paAt ds k) = true) (h2 : nameB (naAt ds k) = true) (h3 : dupTo ds k k = false) : Hung ds (k + 1) := by
  intro i hi hik hu
  rcases Nat.lt_or_ge i k with h' | h'
  · exact h i hi h' hu
  · obtain rfl : i = k := by omega
    exact ⟨h1, h2, h3⟩
theorem hung_skip {ds : List Gr} {k : Nat} (h : Hung ds k) (hu : usAt ds k = false ∨ k = 0) : Hung ds (k + 1) := by
  intro i hi hik hui
  rcases Nat.lt_or_ge i k with h' | h'
  · exact h i hi h' hui
  · obtain rfl : i = k := by omega
    rcases hu with hu | hu
    · rw [hu] at hui; cases hui
    · omega
theorem tree_bad {ds : List Gr} {k : Nat} (h1 : 1 ≤ k) (h8 : k < 8) (h : placeB ds k = false) : treeB ds = false := by
  unfold treeB
  rw [treeTo_no h (by omega) 8 h8]
  simp
theorem place_orphan {ds : List Gr} (h8 : ds.length = 8) {k : Nat} (h1 : 1 ≤ k) (hk : k < 8) (hu : usAt ds k = true) (hp : usedB ds (paAt ds k) = false) : placeB ds k = false := by
  rw [place_used hu]
  have : depB ds (k : Int) = -1 := by
    unfold depB
    rw [h8]
    unfold depF
    rw [usedB_nat h8 hk hu, if_pos rfl, if_neg (by omega), Int.toNat_natCast]
    unfold depF
    rw [hp]
    rfl
  rw [this, show l1inN (-1) 1 3 = false from by decide]
  simp
theorem place_name {ds : List Gr} {k : Nat} (hu : usAt ds k = true) (hp : nameB (naAt ds k) = false) : placeB ds k = false := by rw [place_used hu, hp]; rfl
theorem place_dup {ds : List Gr} {k : Nat} (hu : usAt ds k = true) (hp : dupTo ds k k = true) : placeB ds k = false := by rw [place_used hu, hp]; simp
theorem tree_far {ds : List Gr} (h8 : ds.length = 8) (h : Hung ds 8) (hr : usAt ds 0 = true) {i : Nat} (hi : i < 8) (hu : usAt ds i = true) (hw : withinF ds 3 i = false) : treeB ds = false := by
  have h0 : i ≠ 0 := by intro e; subst e; simp [withinF] at hw
  refine tree_bad (k := i) (by omega) hi ?_
  rw [place_used hu, dep_within h8 h hr hi h0 hu, hw]
  simp
theorem tree_all {ds : List Gr} (hr : rootB ds = true) (h8 : ds.length = 8) (h : Hung ds 8) (h0 : usAt ds 0 = true) (hw : ∀ i, i < 8 → usAt ds i = true → withinF ds 3 i = true) : treeB ds = true := by
  rw [tree_root hr]
  have : ∀ k, k ≤ 8 → treeTo ds k = true := by
    intro k
    induction k with
    | zero => intro _; rfl
    | succ k ih =>
      intro hk
      by_cases e : k = 0
      · subst e; rfl
      · refine treeTo_succ (ih (by omega)) ?_
        cases hu : usAt ds k
        · exact place_unused hu
        · obtain ⟨_, h2, h3⟩ := h k (by omega) (by omega) hu
          rw [place_used hu, dep_within h8 h h0 (by omega) e hu, hw k (by omega) hu, h2, h3]
          rfl
  exact this 8 (by omega)
theorem rootV_of {ds : List Gr} {d : Gr} (h : ds[0]? = some d) (h8 : ds.length = 8) : rootB ds = rootV d := by
  unfold rootB rootV usAt paAt naAt
  rw [h, decide_eq_true h8]
  rfl

def TreeIs (w w' : World) (ds : List Gr) (e : Ending) : Prop :=
  (treeB ds = false ∧ e = .returned (.agg (tRow ds (fun _ => 0) 0))) ∨ (treeB ds = true ∧ ∃ nb mb Dm, e = .returned (.agg (tRow ds nb 8)) ∧ TR w' ds nb mb Dm w.heap.size ∧ MO ds 8 Dm)
theorem treeOf_noroot (x : Value) (vs : List Gv) (w : World) (hs : SlG w x vs) (hr : rootB (gsD vs) = false) :
    Calls Tryz.prog 168 #[x] w fun e w' => e = .returned (.agg (tRow (gsD vs) (fun _ => 0) 0)) ∧ Below w.heap.size w w' := by
  rw [tRow_none]
  by_cases h8 : vs.length = 8
  · obtain ⟨q, o, cap, rfl, hq, hrow⟩ := groups8 hs h8
    have hb1 : ∀ A, Below w.heap.size w (w.alloc A) := fun A => (Below.refl _ _).alloc (Nat.le_refl _) _
    obtain ⟨e, he, hrg, ⟨p1, l1, c1, e1⟩, ⟨p2, l2, c2, e2⟩, p3, l3, c3, e3⟩ := hrow _ (hb1 (.cells #[.pointer none, .pointer none, .pointer none, .pointer none, .pointer none, .pointer none, .pointer none, .pointer none] 164 (0, 0))) 0 (by omega)
    obtain ⟨x0, x1, x2, x3, x4, x5, x6, x7, x8, x9, x10, x11, x12, x13⟩ := gv_cells hrg
    have hv : rootV e.d = false := by rw [← rootV_of (ds := gsD vs) (by simp [gsD, he]) (by rw [gsD_length]; exact h8)]; exact hr
    simp only [Nat.zero_mul, Nat.add_zero] at x0 x1 x2 x3 x4 x5 x6 x7 x8 x9 x10 x11 x12 x13
    clear hrow hs hrg
    go_enter Tryz.func168, Tryz.ntmps168
    go_wp2_with fail
    have hroot := isRoot_any e
    unfold gvV at hroot
    rw [e1, e2, e3] at hroot
    refine (hroot _).mono ?_
    clear hroot
    rintro e0 w1 ⟨rfl, hb⟩
    obtain ⟨hbl, hX, hlt⟩ := box_kept hb
    obtain ⟨k0, k1, k2, k3, k4, k5, k6, k7⟩ := cells8 hX
    have f0 := fbox hX 0
    have f1 := fbox hX 1
    have f2 := fbox hX 2
    have f3 := fbox hX 3
    have f4 := fbox hX 4
    have f5 := fbox hX 5
    have f6 := fbox hX 6
    have f7 := fbox hX 7
    rw [hv]
    simp only []
    go_at_K
    go_wp2_with fail
    refine bodyPost_ret (results_mid rfl _ _ w.heap.size 0 [.pointer none, .pointer none, .pointer none, .pointer none, .pointer none, .pointer none, .pointer none, .pointer none] _ rfl (World.rangeAt_setCells_same w1 w.heap.size 0 [.pointer none, .pointer none, .pointer none, .pointer none, .pointer none, .pointer none, .pointer none, .pointer none] (there_of_block hX)) Tryz.underlying164 rfl info_tree) rfl ?_
    exact ⟨rfl, hbl.trans ((Kept.setCells w1 w.heap.size 0 [.pointer none, .pointer none, .pointer none, .pointer none, .pointer none, .pointer none, .pointer none, .pointer none]).toBelow hbl.size (by intro k hk; omega))⟩
  · obtain ⟨p, cap, rfl, hlen, _⟩ := gs_cells hs
    have h8' : (vs.length : Int) ≠ 8 := by omega
    clear hs
    go_enter Tryz.func168, Tryz.ntmps168
    go_wp2
    go_returns
    exact ⟨rfl, by go_grown⟩
structure HS (w W : World) (ds : List Gr) (nb mb : Nat → Nat) (T k : Nat) : Prop where
  acc : Below w.heap.size w W
  res : W.heap[w.heap.size]? = some (.cells (tRow ds (fun _ => 0) 0) 164 (0, 0))
  arr : W.heap[T]? = some (.cells (tRow ds nb 8) 164 (0, 0))
  up : w.heap.size < T
  nodes : ∃ Dm, NS W ds 8 nb mb (parTo ds k) Dm k (w.heap.size + 1) ∧ MO ds (if k = 0 then 1 else k) Dm
  apart : ∀ i, i < 8 → usAt ds i = true → nb i ≠ T ∧ mb i ≠ T
  hung : Hung ds k
theorem HS.below {w W W' : World} {ds : List Gr} {nb mb : Nat → Nat} {T k : Nat} (h : HS w W ds nb mb T k) (hb : Below W.heap.size W W') : HS w W' ds nb mb T k := by
  obtain ⟨Dm, h1, h2⟩ := h.nodes
  exact ⟨h.acc.trans (hb.mono h.acc.size), (hb.block _ (Array.getElem?_eq_some_iff.1 h.res).1).trans h.res, (hb.block _ (Array.getElem?_eq_some_iff.1 h.arr).1).trans h.arr, h.up, ⟨Dm, h1.below hb, h2⟩, h.apart, h.hung⟩
theorem HS.skip {w W : World} {ds : List Gr} {nb mb : Nat → Nat} {T k : Nat} (h : HS w W ds nb mb T k) (hu : usAt ds k = false ∨ k = 0) : HS w W ds nb mb T (k + 1) := by
  obtain ⟨Dm, h1, h2⟩ := h.nodes
  refine ⟨h.acc, h.res, h.arr, h.up, ⟨Dm, (h1.par ?_).size_eq (by omega), ?_⟩, h.apart, hung_skip h.hung hu⟩
  · intro i hi hui
    unfold parTo
    have : (1 ≤ i ∧ i < k ∧ usAt ds i = true) ↔ (1 ≤ i ∧ i < k + 1 ∧ usAt ds i = true) := by
      constructor
      · rintro ⟨a, b, c⟩; exact ⟨a, by omega, c⟩
      · rintro ⟨a, b, c⟩
        refine ⟨a, ?_, c⟩
        rcases Nat.lt_or_ge i k with h' | h'
        · exact h'
        · obtain rfl : i = k := by omega
          rcases hu with hu | hu
          · rw [hu] at hui; cases hui
          · omega
    simp only [this]
  · rw [if_neg (by omega)]
    by_cases e : k = 0
    · subst e; exact h2
    · rw [if_neg e] at h2
      rcases hu with hu | hu
      · exact h2.skip hu
      · omega
theorem HS.hang {w W W' : World} {ds : List Gr} {nb mb : Nat → Nat} {T k j : Nat} {Dm : Nat → DataW Unit} (h : HS w W ds nb mb T k) (hk1 : 1 ≤ k) (hk : k < 8) (uk : usAt ds k = true) (hj : j < 8) (uj : usAt ds j = true) (hp : paAt ds k = (j : Int)) (hnm : nameB (naAt ds k) = true) (hs : (naAt ds k).size ≤ maxLen)
    (h8 : ds.length = 8) (hM : MO ds k Dm) (hno : dupTo ds k k = false) (hlow : nb k < W.heap.size)
    (hN : NS W' ds 8 nb mb (upd (parTo ds k) k (some j)) (upd Dm j ((Dm j).put (keyS (naAt ds k)) (.lit (.int .i64 (k : Int))))) (k + 1) (w.heap.size + 1))
    (hK : Kept (fun g => g = nb k ∨ g = mb j) W W') : HS w W' ds nb mb T (k + 1) := by
  have lk := hN.low k hk uk
  have lj := hN.low j hj uj
  have ak := h.apart k hk uk
  have aj := h.apart j hj uj
  have hsz := h.acc.size
  refine ⟨h.acc.trans (hK.toBelow hsz ?_), ?_, ?_, h.up, ⟨_, hN.par ?_, ?_⟩, h.apart, hung_step h.hung (by rw [hp]; exact usedB_nat h8 hj uj) hnm hno⟩
  · rintro g (hg | hg) <;> omega
  · rw [hK.block _ (Array.getElem?_eq_some_iff.1 h.res).1 (by rintro (hg | hg) <;> omega)]; exact h.res
  · rw [hK.block _ (Array.getElem?_eq_some_iff.1 h.arr).1 (by rintro (hg | hg); exact ak.1 hg.symm; exact aj.2 hg.symm)]; exact h.arr
  · intro i hi hui
    by_cases e : i = k
    · subst e
      rw [upd_same]
      unfold parTo
      rw [if_pos ⟨hk1, by omega, uk⟩, hp]
      rfl
    · rw [upd_other _ _ e]
      unfold parTo
      have : (1 ≤ i ∧ i < k ∧ usAt ds i = true) ↔ (1 ≤ i ∧ i < k + 1 ∧ usAt ds i = true) := by
        constructor
        · rintro ⟨a, b, c⟩; exact ⟨a, by omega, c⟩
        · rintro ⟨a, b, c⟩; exact ⟨a, by omega, c⟩
      simp only [this]
  · rw [if_neg (by omega)]
    refine hM.put hk1 uk hp hs ?_
    rw [← dup_names ds k j hp]
    exact hno
theorem HS.done {w W : World} {ds : List Gr} {nb mb : Nat → Nat} {T : Nat} (h : HS w W ds nb mb T 8) (h8 : ds.length = 8) (hr : usAt ds 0 = true) : ∃ Dm, TR W ds nb mb Dm (w.heap.size + 1) ∧ MO ds 8 Dm := by
  obtain ⟨Dm, h1, h2⟩ := h.nodes
  refine ⟨Dm, ⟨?_, h8, hr, h.hung⟩, h2⟩
  have h3 := h1.par (par' := parF ds) (fun i hi hu => by
    unfold parTo parF
    by_cases e : i = 0
    · subst e; rw [if_neg (by omega), if_pos rfl]
    · rw [if_pos ⟨by omega, hi, hu⟩, if_neg e])
  exact h3
theorem TR.kept {S : Nat → Prop} {W W' : World} {ds : List Gr} {nb mb : Nat → Nat} {Dm : Nat → DataW Unit} {B : Nat} (h : TR W ds nb mb Dm B) (hk : Kept S W W') (hS : ∀ g, B ≤ g → ¬ S g) : TR W' ds nb mb Dm B := ⟨h.ns.kept hk hS, h.len, h.root, h.hung⟩
theorem TR.mono {W : World} {ds : List Gr} {nb mb : Nat → Nat} {Dm : Nat → DataW Unit} {B B' : Nat} (h : TR W ds nb mb Dm B) (hB : B' ≤ B) : TR W ds nb mb Dm B' := ⟨⟨h.ns.node, h.ns.map, fun i hi hu => ⟨Nat.le_trans hB (h.ns.low i hi hu).1, Nat.le_trans hB (h.ns.low i hi hu).2⟩, h.ns.inj, h.ns.sep⟩, h.len, h.root, h.hung⟩
end Go.Proofs.YtnmmglkigiakaaaGreat
