/- Paths found: plain. -/
import Derived.Test.YtcngkecnddhioaaTU
namespace Go.Proofs.Ytcngkecnddhioaa
set_option linter.unusedVariables false
set_option linter.unusedSimpArgs false
open Go.ChangeShapes Go.WideShapes Go.ChangeAt Go.RowKit

def findO (ds : List Gr) (s : ByteArray) : Option Nat :=
  if (s.toList == [47]) = true then some 0 else if headB s = true then wk ds (some 0) (splitS (s.extract 1 s.size).data.toList) else none
theorem name_facts {s : ByteArray} (h : nameB s = true) : s.data.toList ≠ [] ∧ ∀ b ∈ s.data.toList, b ≠ 47 := by
  unfold nameB at h
  simp only [Bool.and_eq_true, decide_eq_true_eq] at h
  constructor
  · intro e
    have h0 : s.data.toList.length = s.size := by simp
    rw [e] at h0
    have h1 : (0 : Nat) = s.size := h0
    omega
  · intro b hb e
    have hg := h.2.2
    unfold goodFrom at hg
    rw [List.drop_zero] at hg
    have := List.all_eq_true.1 hg b hb
    subst e
    exact absurd this (by decide)
theorem segs_facts {ds : List Gr} (ht : treeB ds = true) : ∀ d i : Nat, i < 8 → usAt ds i = true → depB ds (i : Int) = d → (∀ s ∈ segs ds i, s ≠ [] ∧ ∀ b ∈ s, b ≠ 47) ∧ (i ≠ 0 → segs ds i ≠ []) := by
  intro d
  induction d with
  | zero =>
    intro i hi hu hd
    rcases tree_step ht hi hu with ⟨rfl, h1⟩ | ⟨_, j, _, _, _, h1, h2, h3⟩
    · rw [segs_root]; exact ⟨(fun s hs => by cases hs), fun h => absurd rfl h⟩
    · omega
  | succ d ih =>
    intro i hi hu hd
    rcases tree_step ht hi hu with ⟨rfl, h1⟩ | ⟨h0, j, hp, hj, uj, h1, h2, h3⟩
    · omega
    · rw [segs_up h0 hp h1 h2]
      have h4 := (ih j hj uj (by omega)).1
      have h5 := name_facts (tree_hung ht i (by omega) hi hu).2.1
      refine ⟨fun s hs => ?_, fun _ => by simp⟩
      rcases List.mem_append.1 hs with h | h
      · exact h4 s h
      · obtain rfl : s = (naAt ds i).data.toList := by simpa using h
        exact h5
theorem head_cons {s : ByteArray} : headB s = true ↔ s.data.toList = 47 :: (s.extract 1 s.size).data.toList := by
  have h1 : (s.extract 0 1).data.toList = s.data.toList.take 1 := by rw [extract_list]; rfl
  have h2 : (s.extract 1 s.size).data.toList = s.data.toList.drop 1 := by
    rw [extract_list]
    exact List.take_of_length_le (by rw [List.length_drop]; simp)
  unfold headB
  rw [ByteArray.toList_eq, h1, h2]
  cases s.data.toList with
  | nil => simp
  | cons b r => simp
theorem find_a {ds : List Gr} {s : ByteArray} (h : s.data.toList = [47]) : findO ds s = some 0 := by
  unfold findO
  rw [ByteArray.toList_eq, h]
  rfl
theorem find_b {ds : List Gr} {s : ByteArray} (h : s.data.toList ≠ [47]) (hh : headB s = true) : findO ds s = wk ds (some 0) (splitS (s.extract 1 s.size).data.toList) := by
  unfold findO
  have : (s.toList == [47]) = false := by rw [ByteArray.toList_eq]; simpa using h
  rw [this, hh]
  rfl
theorem find_c {ds : List Gr} {s : ByteArray} (h : s.data.toList ≠ [47]) (hh : headB s = false) : findO ds s = none := by
  unfold findO
  have : (s.toList == [47]) = false := by rw [ByteArray.toList_eq]; simpa using h
  rw [this, hh]
  rfl
/-- whose path a text is. -/
theorem find_path {ds : List Gr} (ht : treeB ds = true) (s : ByteArray) {g : Nat} (hg : g < 8) (hu : usAt ds g = true) : ((pathM ds (g : Int)).toList == s.toList) = decide (findO ds s = some g) := by
  have h8 := (tree_facts ht).1
  have hub := usedB_nat h8 hg hu
  have hd := (dep_nonneg ht hg hu).1
  have hsf := segs_facts ht (depB ds (g : Int)).toNat g hg hu (by omega)
  have hps := path_segs ht (depB ds (g : Int)).toNat g hg hu (by omega)
  have hpm : (pathM ds (g : Int)).toList = if g = 0 then [47] else joinS (segs ds g) := by
    unfold pathM
    rw [if_pos ⟨ht, hub⟩, Int.toNat_natCast]
    by_cases e : g = 0
    · rw [if_pos (by omega), if_pos e, ByteArray.toList_eq]
    · rw [if_neg (by omega), if_neg e, ByteArray.toList_eq, hps]
  rw [hpm, ByteArray.toList_eq]
  have key : (if g = 0 then [47] else joinS (segs ds g)) = s.data.toList ↔ findO ds s = some g := by
    by_cases h47 : s.data.toList = [47]
    · rw [find_a h47, h47]
      by_cases e : g = 0
      · rw [if_pos e, e]
        exact ⟨fun _ => rfl, fun _ => rfl⟩
      · rw [if_neg e]
        constructor
        · intro hj
          have := split_join (segs ds g) (hsf.2 e) (fun x hx => (hsf.1 x hx).2) [] hj
          have hm := (hsf.1 [] (by rw [← this]; simp [splitS])).1
          exact absurd rfl hm
        · intro hs
          exact absurd (Option.some.inj hs).symm e
    · cases hh : headB s
      · rw [find_c h47 hh]
        constructor
        · intro hj
          exfalso
          by_cases e : g = 0
          · rw [if_pos e] at hj; exact h47 hj.symm
          · rw [if_neg e] at hj
            obtain ⟨a, t, hst⟩ := List.exists_cons_of_ne_nil (hsf.2 e)
            rw [hst] at hj
            have hj2 : joinS (a :: t) = 47 :: (a ++ joinS t) := by simp [joinS]
            rw [hj2] at hj
            have h2 : (s.extract 1 s.size).data.toList = s.data.toList.drop 1 := by
              rw [extract_list]
              exact List.take_of_length_le (by rw [List.length_drop]; simp)
            have hyes := head_cons.2 (show s.data.toList = 47 :: (s.extract 1 s.size).data.toList by rw [h2, ← hj]; rfl)
            rw [hh] at hyes
            cases hyes
        · intro hw; cases hw
      · rw [find_b h47 hh]
        have hc := head_cons.1 hh
        by_cases e : g = 0
        · rw [if_pos e]
          constructor
          · intro hs; exact absurd hs.symm h47
          · intro hw
            have := (segs_wk ht _ _ g rfl hw).1
            rw [e, segs_root] at this
            obtain ⟨a, t, hst⟩ := split_ne (s.extract 1 s.size).data.toList
            rw [hst] at this
            cases this
        · rw [if_neg e]
          constructor
          · intro hj
            rw [hc] at hj
            rw [split_join (segs ds g) (hsf.2 e) (fun x hx => (hsf.1 x hx).2) _ hj]
            exact wk_segs ht (depB ds (g : Int)).toNat g hg hu (by omega)
          · intro hw
            rw [(segs_wk ht _ _ g rfl hw).1, join_split, ← hc]
  by_cases hk : findO ds s = some g
  · rw [decide_eq_true hk, key.2 hk]; simp
  · rw [decide_eq_false hk]
    have : ¬ (if g = 0 then [47] else joinS (segs ds g)) = s.data.toList := fun h => hk (key.1 h)
    simpa using this
theorem find_used {ds : List Gr} (ht : treeB ds = true) {s : ByteArray} {g : Nat} (h : findO ds s = some g) : g < 8 ∧ usAt ds g = true := by
  unfold findO at h
  split at h
  · obtain rfl : 0 = g := Option.some.inj h
    exact ⟨by omega, (tree_facts ht).2⟩
  · split at h
    · exact (segs_wk ht _ _ g rfl h).2
    · cases h
end Go.Proofs.Ytcngkecnddhioaa
