/- TreePath: of the program and of its specification. -/
import Derived.Test.YtollijjmmpoonaaTE
namespace Go.Proofs.Ytollijjmmpoonaa
set_option linter.unusedVariables false
set_option linter.unusedSimpArgs false
open Go.ChangeShapes Go.WideShapes Go.ChangeAt Go.RowKit

def pathF (ds : List Gr) : Nat → Nat → ByteArray
  | 0, _ => ⟨#[]⟩
  | f + 1, i => if i = 0 then ⟨#[]⟩ else pathF ds f (paAt ds i).toNat ++ ⟨#[47]⟩ ++ naAt ds i
def pathD (ds : List Gr) (i : Nat) : ByteArray := pathF ds ((depB ds (i : Int)).toNat + 1) i
theorem path_root (ds : List Gr) : pathD ds 0 = ⟨#[]⟩ := by unfold pathD pathF; rw [if_pos rfl]
theorem path_up {ds : List Gr} {i j : Nat} (h0 : i ≠ 0) (hp : paAt ds i = (j : Int)) (hd : depB ds (i : Int) = depB ds (j : Int) + 1) (hd0 : 0 ≤ depB ds (j : Int)) : pathD ds i = pathD ds j ++ ⟨#[47]⟩ ++ naAt ds i := by
  unfold pathD
  conv => lhs; unfold pathF
  rw [if_neg h0, hp, Int.toNat_natCast, hd]
  have : (depB ds (j : Int) + 1).toNat = (depB ds (j : Int)).toNat + 1 := by omega
  rw [this]
theorem name_size {s : ByteArray} (h : nameB s = true) : s.size ≤ 8 := by
  unfold nameB at h
  simp only [Bool.and_eq_true, decide_eq_true_eq] at h
  omega
theorem dep_nonneg {ds : List Gr} (ht : treeB ds = true) {i : Nat} (hi : i < 8) (hu : usAt ds i = true) : 0 ≤ depB ds (i : Int) ∧ depB ds (i : Int) ≤ 3 := by
  rcases tree_step ht hi hu with ⟨rfl, h1⟩ | ⟨_, j, _, _, _, h1, h2, h3⟩ <;> omega
theorem path_size {ds : List Gr} (ht : treeB ds = true) : ∀ d i : Nat, i < 8 → usAt ds i = true → depB ds (i : Int) = d → (pathD ds i).size ≤ 9 * d := by
  intro d
  induction d with
  | zero =>
    intro i hi hu hd
    rcases tree_step ht hi hu with ⟨rfl, h1⟩ | ⟨_, j, _, _, _, h1, h2, h3⟩
    · rw [path_root]; exact Nat.le_refl _
    · omega
  | succ d ih =>
    intro i hi hu hd
    rcases tree_step ht hi hu with ⟨rfl, h1⟩ | ⟨h0, j, hp, hj, uj, h1, h2, h3⟩
    · omega
    · have h4 := ih j hj uj (by omega)
      have h5 := name_size (tree_hung ht i (by omega) hi hu).2.1
      rw [path_up h0 hp h1 h2, ByteArray.size_append, ByteArray.size_append]
      have : (ByteArray.mk #[47]).size = 1 := rfl
      omega
set_option maxHeartbeats 4000000 in
theorem spec_l6Path (vs : List Gv) (x : Value) (ht : treeB (gsD vs) = true) : ∀ d i : Nat, i < 8 → usAt (gsD vs) i = true → depB (gsD vs) (i : Int) = d → ∀ w : World, SlG w x vs →
    Calls Try.prog 38 #[x, .int .i64 (i : Int)] w fun e w' => e = .returned (.string (pathD (gsD vs) i)) ∧ ∃ m, w' = w.drewN m := by
  have hv8 : vs.length = 8 := by rw [← gsD_length]; exact (tree_facts ht).1
  intro d
  induction d with
  | zero =>
    intro i hi hu hd w hs
    rcases tree_step ht hi hu with ⟨rfl, h1⟩ | ⟨_, j, _, _, _, h1, h2, h3⟩
    · rw [path_root]
      clear hs
      simp only [Int.natCast_zero]
      go_enter Try.func38, Try.ntmps38
      go_wp2
      go_ret
      exact ⟨rfl, 0, rfl⟩
    · omega
  | succ d ih =>
    intro i hi hu hd w hs
    rcases tree_step ht hi hu with ⟨rfl, h1⟩ | ⟨h0, j, hp, hj, uj, h1, h2, h3⟩
    · omega
    · obtain ⟨q, o, cap, rfl, hq, hrow⟩ := groups8 hs hv8
      obtain ⟨e, he, hr, _⟩ := hrow w (Below.refl _ _) i hi
      obtain ⟨x0, x1, x2, _⟩ := gv_cells hr
      rw [← (gs_at he).2.1, hp] at x1
      rw [← (gs_at he).2.2] at x2
      have hi8 : (i : Int) < 8 := by omega
      have h0' : (i : Int) ≠ 0 := by omega
      have hps := path_size ht d j hj uj (by omega)
      have hns := name_size (tree_hung ht i (by omega) hi hu).2.1
      have hpz : ((pathD (gsD vs) j).size : Int) ≤ 1000 := by omega
      have hnz : ((naAt (gsD vs) i).size : Int) ≤ 1000 := by omega
      have HP : Hid (pathD (gsD vs) i = pathD (gsD vs) j ++ ⟨#[47]⟩ ++ naAt (gsD vs) i) := path_up h0 hp h1 h2
      have HI : Hid (∀ w : World, SlG w (.slice (some ⟨q, o, none⟩) 8 cap) vs → Calls Try.prog 38 #[.slice (some ⟨q, o, none⟩) 8 cap, .int .i64 (j : Int)] w fun e w' => e = .returned (.string (pathD (gsD vs) j)) ∧ ∃ m, w' = w.drewN m) := ih j hj uj (by omega)
      have HS : Hid (SlG w (.slice (some ⟨q, o, none⟩) 8 cap) vs) := hs
      clear ih hs hrow hr he x0 h1 h2 h3 hp hps hns hd
      go_enter Try.func38, Try.ntmps38
      go_wp2_with fail
      go_quiet (first | (go_at_call 38; refine Calls.quiet_of (HI.out _ (HS.out.below (below_drewN (Below.refl _ w) _)))))
      go_wp2_with fail
      go_ret
      exact ⟨by rw [HP.out]; rfl, _, rfl⟩

set_option maxHeartbeats 8000000 in
theorem path_any (ds : List Gr) (nb mb : Nat → Nat) (Dm : Nat → DataW Unit) (B i : Nat) (w : World) (h : TR w ds nb mb Dm B) (ht : treeB ds = true) (hi : i < 8) (hu : usAt ds i = true) :
    Calls Try.prog 39 #[.pointer (some ⟨nb i, 0, none⟩)] w fun e w' => e = .returned (.string (if i = 0 then ⟨#[47]⟩ else pathD ds i)) ∧ w' = w := by
  have HT : Hid (TR w ds nb mb Dm B) := h
  have HTB : Hid (treeB ds = true) := ht
  rcases h.at hi hu with ⟨rfl, hc0⟩ | ⟨h0, i', hp0, hi', ui', hc0⟩
  · rw [if_pos rfl]
    clear h ht
    go_enter Try.func39, Try.ntmps39
    go_wp2
    go_ret
    exact ⟨rfl, rfl⟩
  · rw [if_neg h0]
    clear h ht
    go_enter Try.func39, Try.ntmps39
    go_wp2
    clear hc0 hp0
    go_loop [0, 3] (fun n t => ∃ (j : Nat) (s : ByteArray), j < 8 ∧ usAt ds j = true ∧ n = .pointer (some ⟨nb j, 0, none⟩) ∧ t = .string s ∧ pathD ds i = pathD ds j ++ s ∧ (s.size : Int) ≤ 9 * (3 - depB ds (j : Int))) (fun n _ => ptrDep ds nb n)
    case atStart =>
      refine ⟨i, ⟨#[]⟩, hi, hu, rfl, rfl, ?_, ?_⟩
      · exact (ByteArray.append_empty).symm
      · have := dep_nonneg HTB.out hi hu
        show (0 : Int) ≤ _
        omega
    case round =>
      obtain ⟨j, s, hj, uj, rfl, rfl, hpd, hsz⟩ := hrel
      have hd3 := dep_nonneg HTB.out hj uj
      rcases HT.out.at hj uj with ⟨rfl, hc⟩ | ⟨h0j, j', hp, hj', uj', hc⟩
      · have HD : Hid (pathD ds i = s) := by
          show pathD ds i = s
          rw [hpd, path_root]
          exact ByteArray.empty_append
        clear hpd hsz hd3
        go_wp2
        go_ret
        exact ⟨by rw [HD.out]; rfl, rfl⟩
      · obtain ⟨_, a1, _⟩ := node_cells HT.out.ns hj uj
        obtain ⟨j2, e2, f1, f2⟩ : ∃ j2 : Nat, paAt ds j = (j2 : Int) ∧ depB ds (j : Int) = depB ds (j2 : Int) + 1 ∧ 0 ≤ depB ds (j2 : Int) := by
          rcases tree_step HTB.out hj uj with ⟨h1, _⟩ | ⟨_, j2, e2, _, _, f1, f2, _⟩
          · exact absurd h1 h0j
          · exact ⟨j2, e2, f1, f2⟩
        obtain rfl : j' = j2 := by omega
        have hns := name_size (tree_hung HTB.out j (by omega) hj uj).2.1
        have hz1 : ((naAt ds j).size : Int) ≤ 1000 := by omega
        have hz2 : (s.size : Int) ≤ 1000 := by omega
        have HM : Hid (ptrDep ds nb (.pointer (some ⟨nb j', 0, none⟩)) < ptrDep ds nb (.pointer (some ⟨nb j, 0, none⟩)) ∧ pathD ds i = pathD ds j' ++ (⟨#[47]⟩ ++ naAt ds j ++ s) ∧ ((⟨#[47]⟩ ++ naAt ds j ++ s : ByteArray).size : Int) ≤ 9 * (3 - depB ds (j' : Int))) := by
          refine ⟨?_, ?_, ?_⟩
          · rw [ptrDep_at HT.out hj uj, ptrDep_at HT.out hj' uj']; omega
          · rw [hpd, path_up h0j hp f1 f2, ByteArray.append_assoc, ByteArray.append_assoc, ByteArray.append_assoc]
          · rw [ByteArray.size_append, ByteArray.size_append]
            have : (ByteArray.mk #[47]).size = 1 := rfl
            omega
        clear hpd hsz hd3 f1 f2 hns hp e2
        go_wp2
        exact ⟨⟨j', _, hj', uj', rfl, rfl, HM.out.2.1, HM.out.2.2⟩, HM.out.1⟩
def pathM (ds : List Gr) (g : Int) : ByteArray := if treeB ds = true ∧ usedB ds g = true then (if g = 0 then ⟨#[47]⟩ else pathD ds g.toNat) else ⟨#[]⟩
end Go.Proofs.Ytollijjmmpoonaa
