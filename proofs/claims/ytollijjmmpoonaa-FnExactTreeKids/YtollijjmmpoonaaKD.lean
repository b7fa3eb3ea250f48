/- TreeKids: plain facts; the program's kids. -/
import Derived.Test.YtollijjmmpoonaaTK
import Derived.Test.YtollijjmmpoonaaLG
namespace Go.Proofs.Ytollijjmmpoonaa
set_option linter.unusedVariables false
set_option linter.unusedSimpArgs false
open Go.ChangeShapes Go.WideShapes Go.ChangeAt Go.RowKit

def kidB (ds : List Gr) (j : Int) (i : Nat) : Bool := decide (1 ≤ i) && (usAt ds i && (paAt ds i == j))
def kidsTo (ds : List Gr) (j : Int) (n : Nat) : List Int := ((List.range n).filter (kidB ds j)).map fun (i : Nat) => (i : Int)
def kidsM (ds : List Gr) (g : Int) : List Int := if treeB ds = true ∧ usedB ds g = true then kidsTo ds g 8 else []
theorem kidsTo_succ (ds : List Gr) (j : Int) (n : Nat) : kidsTo ds j (n + 1) = kidsTo ds j n ++ (if kidB ds j n = true then [(n : Int)] else []) := by
  unfold kidsTo
  rw [List.range_succ, List.filter_append, List.map_append]
  by_cases h : kidB ds j n = true
  · rw [if_pos h]; simp [h]
  · rw [if_neg h]; simp [h]
theorem kidsTo_one (ds : List Gr) (j : Int) : kidsTo ds j 1 = [] := by
  rw [show (1 : Nat) = 0 + 1 from rfl, kidsTo_succ]; rfl
theorem kidsTo_len (ds : List Gr) (j : Int) (n : Nat) : (kidsTo ds j n).length ≤ n := by
  unfold kidsTo
  rw [List.length_map]
  exact Nat.le_trans (List.length_filter_le _ _) (by rw [List.length_range]; exact Nat.le_refl _)
theorem kidsTo_sorted (ds : List Gr) (j : Int) (n : Nat) : (kidsTo ds j n).Pairwise (fun a b => decide (a ≤ b) = true) := by
  unfold kidsTo
  rw [List.pairwise_map]
  refine List.Pairwise.sublist List.filter_sublist ?_
  exact (List.pairwise_lt_range (n := n)).imp fun {a b} h => by simp; omega
theorem kid_names {ds : List Gr} {j i : Nat} (h : kidB ds (j : Int) i = true) (h8 : i < 8) : namesTo ds j (naAt ds i).data.toList 8 = true := by
  rw [names_kid, List.any_eq_true]
  refine ⟨i, List.mem_range.2 h8, ?_⟩
  unfold kidB at h
  unfold isKid
  simp only [Bool.and_eq_true, decide_eq_true_eq, beq_iff_eq] at h ⊢
  exact ⟨h.1, h.2, by trivial⟩
theorem kids_perm {ds : List Gr} {j : Nat} {Dm : Nat → DataW Unit} {ps : List (List UInt8 × Int)} (hmo : MO ds 8 Dm) (hall : AnyY.AllOf (Dm j) ps) (hnd : (ps.map (·.1)).Nodup) :
    (ps.map (·.2)).Perm (kidsTo ds (j : Int) 8) := by
  obtain ⟨_, hmem, hval⟩ := hall
  have key : ps.Perm (((List.range 8).filter (kidB ds (j : Int))).map fun (i : Nat) => ((naAt ds i).data.toList, (i : Int))) := by
    refine (List.perm_ext_iff_of_nodup ?_ ?_).2 fun p => ?_
    · refine List.Pairwise.imp ?_ (List.pairwise_map.1 hnd)
      intro a b h e
      exact h (congrArg Prod.fst e)
    · refine List.pairwise_map.2 ?_
      refine List.Pairwise.sublist List.filter_sublist ?_
      exact (List.pairwise_lt_range (n := 8)).imp fun {a b} h e => by
        have := congrArg Prod.snd e
        simp at this
        omega
    · constructor
      · intro hp
        have h1 := (hmem p.1).1 (List.mem_map.2 ⟨p, hp, rfl⟩)
        rw [hmo.has] at h1
        obtain ⟨i, _, hi1, hi8, hu, hpa, hna⟩ := kid_some h1
        have hv := hval p hp (.lit (.int .i64 0))
        have hv2 := hmo.val i j hi1 hi8 hu hpa (.lit (.int .i64 0))
        unfold keyS at hv2
        rw [hna, hv] at hv2
        have e2 : p.2 = (i : Int) := by simpa using hv2
        refine List.mem_map.2 ⟨i, List.mem_filter.2 ⟨List.mem_range.2 hi8, ?_⟩, ?_⟩
        · unfold kidB
          simp [hi1, hu, hpa]
        · rw [hna, ← e2]
      · intro hp
        obtain ⟨i, hi, rfl⟩ := List.mem_map.1 hp
        obtain ⟨h8, hk⟩ := List.mem_filter.1 hi
        have h8 := List.mem_range.1 h8
        have hn := kid_names hk h8
        rw [← hmo.has] at hn
        obtain ⟨p, hpp, hp1⟩ := List.mem_map.1 ((hmem _).2 hn)
        have hv := hval p hpp (.lit (.int .i64 0))
        unfold kidB at hk
        simp only [Bool.and_eq_true, decide_eq_true_eq, beq_iff_eq] at hk
        have hv2 := hmo.val i j hk.1 h8 hk.2.1 hk.2.2 (.lit (.int .i64 0))
        unfold keyS at hv2
        rw [hp1, hv2] at hv
        have e2 : p.2 = (i : Int) := by simpa using hv.symm
        have : p = ((naAt ds i).data.toList, (i : Int)) := by rw [← hp1, ← e2]
        rw [← this]; exact hpp
  have := key.map (·.2)
  rw [List.map_map] at this
  exact this
theorem kids_sorted {ss l : List Int} (hp : ss.Perm l) (hs : l.Pairwise (fun a b => decide (a ≤ b) = true)) : ss.mergeSort (fun x y => decide (x ≤ y)) = l := by
  refine List.Perm.eq_of_pairwise (le := fun a b => decide (a ≤ b) = true) (fun a b _ _ h1 h2 => ?_) (List.pairwise_mergeSort ?_ ?_ ss) hs ((List.mergeSort_perm ss _).trans hp)
  · simp only [decide_eq_true_eq] at h1 h2; omega
  · intro a b c h1 h2
    simp only [decide_eq_true_eq] at h1 h2 ⊢; omega
  · intro a b
    simp only [Bool.or_eq_true, decide_eq_true_eq]; omega
theorem strKeys_nodup {w : World} {b n : Nat} {D : DataW Unit} (hown : w.ownsMap Try.prog 9 (plainElem Try.prog 3) b n D) : (strKeys D).Nodup := by
  obtain ⟨es, hD, hpw, _⟩ := hown.entries strKeyed
  obtain ⟨es', hD', hko⟩ := hown.keysOf
  obtain rfl : es = es' := by rw [hD] at hD'; simpa using hD'
  subst hD
  show (es.map fun p => strOf p.1).Nodup
  refine List.pairwise_map.2 (hpw.imp_of_mem fun {p q} hp' hq' hne e => hne ?_)
  obtain ⟨v, hv⟩ := hko p hp'
  obtain ⟨x, _, hx, _⟩ := Maps.keyOf_str Try.underlying9 hv
  obtain ⟨v', hv'⟩ := hko q hq'
  obtain ⟨y, _, hy, _⟩ := Maps.keyOf_str Try.underlying9 hv'
  rw [hx, hy] at e ⊢
  exact congrArg _ e
theorem own_of_rowZ {B n : Nat} {W : World} {v : Value} {t : TypeId} {ws : List Int} (h : W.ownsRow B t 1 v n (ws.map (Value.int .i64))) (hn : n = ws.length) : OwnI B W v ws := by
  subst hn
  rcases h.2 with ⟨h1, h2⟩ | ⟨g, cap, cur, rfl, h2, h3, h4, h5, h6, h7⟩
  · exact .inl ⟨List.length_eq_zero_iff.1 h2, h1⟩
  · have hc := h.cells (g := g) rfl
    refine .inr ⟨g, cap, h2, (Array.getElem?_eq_some_iff.1 h3).1, rfl, ?_, ?_, h4, h5⟩
    · intro i e he
      have c0 := hc i (.int .i64 e) (by simp [he])
      rw [add_none'] at c0
      exact c0
    · intro j hj
      rw [Nat.zero_add, cell_of_row _ _ _ _ _ _ h3]
      refine ⟨?_, frozen_of_row _ _ _ _ _ h3⟩
      have : j < cur.size := by omega
      simp [this]
theorem sorts_any (m : Nat) : AnyZI.SortsIn Try.prog Try.sortedA_ren Fence.wide m :=
  ⟨fun blk off cap ss W hH hblk hsz => callsIn_wide.2 (AnyM.slices_Sort_int Try.sortA blk off cap ss W hH hblk hsz),
   fun p cap W => callsIn_wide.2 (AnyM.slices_Sort_int_none Try.sortA p cap W)⟩
set_option maxHeartbeats 1000000 in
theorem kids_nil (w : World) : Calls Try.prog 42 #[.pointer none] w fun e w' => e = .returned (.slice none 0 0) ∧ w' = w := by
  go_enter Try.func42, Try.ntmps42
  go_wp2
  go_ret
  exact ⟨rfl, rfl⟩
set_option maxHeartbeats 4000000 in
set_option maxRecDepth 100000 in
theorem kids_node (ds : List Gr) (nb mb : Nat → Nat) (Dm : Nat → DataW Unit) (B j : Nat) (w : World) (h : TR w ds nb mb Dm B) (hmo : MO ds 8 Dm) (hj : j < 8) (uj : usAt ds j = true) :
    Calls Try.prog 42 #[.pointer (some ⟨nb j, 0, none⟩)] w fun e w' => ∃ v, e = .returned v ∧ OwnI w.heap.size w' v (kidsTo ds (j : Int) 8) ∧ Below w.heap.size w w' := by
  obtain ⟨a0, a1, a2, a3, _⟩ := node_cells h.ns hj uj
  have hown := h.ns.map j hj uj
  have hb : Below w.heap.size w (w.alloc (.cells #[.map (some (mb j))] 64 (0, 0))) := (Below.refl _ _).alloc (Nat.le_refl _) _
  have hsz : Maps.size (Dm j) ≤ 8 := hown.size_le
  have hnd := strKeys_nodup hown
  have hseq : SeqGives Fence.wide 2 Try.prog 72 #[.pointer (some ⟨w.heap.size, 0, none⟩)] (fun c : Int => Value.int .i64 c) (fun xs => ∃ ps, AnyY.AllOf (Dm j) ps ∧ xs = ps.map (·.2)) (Maps.size (Dm j)) (w.alloc (.cells #[.map (some (mb j))] 64 (0, 0))) :=
    (AnyY.values_stops (ρ := Try.valuesA_ren) { Try.valuesA with } Fence.wide _ trivial rfl (by omega) w.heap.size (mb j) 8 (Dm j) _ (by simp) (by simp) (ownsMap_below hown hb)).gives
  have cV := callsIn_wide.1 (AnyY.values_in Try.valuesA Fence.wide 5 trivial rfl (some (mb j)) w)
  change Calls Try.prog 60 #[.map (some (mb j))] w (fun e w' => e = .returned (.func (.func 72) #[] #[.pointer (some ⟨w.heap.size, 0, none⟩)]) ∧ w' = w.alloc (.cells #[.map (some (mb j))] 64 (0, 0))) at cV
  have cS := callsIn_wide.1 (AnyZI.sorted_in Try.sortedA Fence.wide 5 trivial trivial trivial trivial rfl (by omega) (sorts_any _) (enters_of Try.func71 (by kernel_rfl) rfl) 72 #[.pointer (some ⟨w.heap.size, 0, none⟩)] trivial (enters_of Try.func72 (by kernel_rfl) rfl) _ _ (by unfold maxLen; omega) (by omega) _ hseq)
  change Calls Try.prog 59 _ _ _ at cS
  clear hseq
  go_enter Try.func42, Try.ntmps42
  go_wp2_with (first | (go_at_call 60; refine cV.mono ?_; rintro e w1 ⟨rfl, rfl⟩) | (go_at_call 59; refine cS.mono ?_; rintro e w2 ⟨v, ss, rfl, ⟨ps, hall, rfl⟩, hrow, hnil, hb2⟩))
  go_ret
  have hp := kids_perm hmo hall (hall.1.nodup_iff.2 hnd)
  have hq := kids_sorted hp (kidsTo_sorted _ _ _)
  refine ⟨v, rfl, ?_, hb.trans (hb2.mono hb.size)⟩
  rw [← hq]
  exact (own_of_rowZ hrow (by rw [List.length_mergeSort])).mono (by simp)
end Go.Proofs.Ytollijjmmpoonaa
