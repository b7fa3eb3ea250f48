/- Paths as lists of names: plain. -/
import Derived.Test.YtcngkecnddhioaaTK
namespace Go.Proofs.Ytcngkecnddhioaa
set_option linter.unusedVariables false
set_option linter.unusedSimpArgs false
open Go.ChangeShapes Go.WideShapes Go.ChangeAt Go.RowKit

/-- a text split at its strokes. -/
def splitS : List UInt8 → List (List UInt8)
  | [] => [[]]
  | b :: r => if b = 47 then [] :: splitS r else match splitS r with
    | [] => [[b]]
    | s :: t => (b :: s) :: t
def joinS (L : List (List UInt8)) : List UInt8 := L.flatMap fun s => 47 :: s
theorem split_ne (r : List UInt8) : ∃ s t, splitS r = s :: t := by
  cases r with
  | nil => exact ⟨_, _, rfl⟩
  | cons b r =>
    unfold splitS
    split
    · exact ⟨_, _, rfl⟩
    · split <;> exact ⟨_, _, rfl⟩
theorem join_split (r : List UInt8) : joinS (splitS r) = 47 :: r := by
  induction r with
  | nil => rfl
  | cons b r ih =>
    obtain ⟨s, t, h⟩ := split_ne r
    unfold splitS
    split
    · rename_i hb
      subst hb
      show 47 :: ([] ++ joinS (splitS r)) = _
      rw [ih]; rfl
    · rw [h]
      rw [h] at ih
      have ih' : s ++ joinS t = r := by
        have : joinS (s :: t) = 47 :: (s ++ joinS t) := by simp [joinS]
        rw [this] at ih
        exact (List.cons.inj ih).2
      show joinS ((b :: s) :: t) = _
      have : joinS ((b :: s) :: t) = 47 :: b :: (s ++ joinS t) := by simp [joinS]
      rw [this, ih']
theorem split_seg {s : List UInt8} (h : ∀ b ∈ s, b ≠ 47) (u : List UInt8) : splitS (s ++ 47 :: u) = s :: splitS u := by
  induction s with
  | nil =>
    show splitS (47 :: u) = [] :: splitS u
    conv => lhs; unfold splitS
    rw [if_pos rfl]
  | cons b s ih =>
    have hb := h b (by simp)
    show splitS (b :: (s ++ 47 :: u)) = (b :: s) :: splitS u
    conv => lhs; unfold splitS
    rw [if_neg hb, ih (fun c hc => h c (by simp [hc]))]
theorem split_one {s : List UInt8} (h : ∀ b ∈ s, b ≠ 47) : splitS s = [s] := by
  induction s with
  | nil => rfl
  | cons b s ih =>
    unfold splitS
    rw [if_neg (h b (by simp)), ih (fun c hc => h c (by simp [hc]))]
theorem split_join : ∀ L : List (List UInt8), L ≠ [] → (∀ s ∈ L, ∀ b ∈ s, b ≠ 47) → ∀ r, joinS L = 47 :: r → splitS r = L := by
  intro L
  induction L with
  | nil => intro h; exact absurd rfl h
  | cons s t ih =>
    intro _ hs r hr
    have hj : joinS (s :: t) = 47 :: (s ++ joinS t) := by simp [joinS]
    rw [hj] at hr
    obtain rfl : s ++ joinS t = r := (List.cons.inj hr).2
    by_cases ht : t = []
    · subst ht
      have : joinS ([] : List (List UInt8)) = [] := rfl
      rw [this, List.append_nil]
      exact split_one (hs s (by simp))
    · obtain ⟨s', t', rfl⟩ := List.exists_cons_of_ne_nil ht
      have hj2 : joinS (s' :: t') = 47 :: (s' ++ joinS t') := by simp [joinS]
      rw [hj2, split_seg (hs s (by simp))]
      congr 1
      exact ih (by simp) (fun x hx => hs x (by simp [hx])) _ hj2
/-- the walk by names. -/
def wk (ds : List Gr) (o : Option Nat) (L : List (List UInt8)) : Option Nat := L.foldl (fun o s => o.bind fun j => kidM ds j s) o
theorem wk_none (ds : List Gr) (L : List (List UInt8)) : wk ds none L = none := by
  induction L with
  | nil => rfl
  | cons s t ih => exact ih
/-- the names from the root down. -/
def segsF (ds : List Gr) : Nat → Nat → List (List UInt8)
  | 0, _ => []
  | f + 1, i => if i = 0 then [] else segsF ds f (paAt ds i).toNat ++ [(naAt ds i).data.toList]
def segs (ds : List Gr) (i : Nat) : List (List UInt8) := segsF ds ((depB ds (i : Int)).toNat + 1) i
theorem segs_root (ds : List Gr) : segs ds 0 = [] := by unfold segs segsF; rw [if_pos rfl]
theorem segs_up {ds : List Gr} {i j : Nat} (h0 : i ≠ 0) (hp : paAt ds i = (j : Int)) (hd : depB ds (i : Int) = depB ds (j : Int) + 1) (hd0 : 0 ≤ depB ds (j : Int)) : segs ds i = segs ds j ++ [(naAt ds i).data.toList] := by
  unfold segs
  conv => lhs; unfold segsF
  rw [if_neg h0, hp, Int.toNat_natCast, hd]
  have : (depB ds (j : Int) + 1).toNat = (depB ds (j : Int)).toNat + 1 := by omega
  rw [this]
theorem path_segs {ds : List Gr} (ht : treeB ds = true) : ∀ d i : Nat, i < 8 → usAt ds i = true → depB ds (i : Int) = d → (pathD ds i).data.toList = joinS (segs ds i) := by
  intro d
  induction d with
  | zero =>
    intro i hi hu hd
    rcases tree_step ht hi hu with ⟨rfl, h1⟩ | ⟨_, j, _, _, _, h1, h2, h3⟩
    · rw [path_root, segs_root]; rfl
    · omega
  | succ d ih =>
    intro i hi hu hd
    rcases tree_step ht hi hu with ⟨rfl, h1⟩ | ⟨h0, j, hp, hj, uj, h1, h2, h3⟩
    · omega
    · rw [path_up h0 hp h1 h2, segs_up h0 hp h1 h2]
      have := ih j hj uj (by omega)
      simp [joinS, ByteArray.data_append, this] at this ⊢
/-- nobody beside one bears its name. -/
theorem kid_self {ds : List Gr} (ht : treeB ds = true) {i j : Nat} (h1 : 1 ≤ i) (hi : i < 8) (hu : usAt ds i = true) (hp : paAt ds i = (j : Int)) : kidM ds j (naAt ds i).data.toList = some i := by
  obtain ⟨i', hk, a1, a2, a3, a4, a5⟩ := kid_some (names_of ds j h1 hu hp 8 hi)
  rw [hk]
  congr 1
  rcases Nat.lt_trichotomy i i' with h | h | h
  · have hd := (tree_hung ht i' a1 a2 a3).2.2
    rw [dup_names ds i' j a4] at hd
    have := names_of ds j h1 hu hp i' h
    rw [← a5, hd] at this
    cases this
  · exact h.symm
  · have hd := (tree_hung ht i h1 hi hu).2.2
    rw [dup_names ds i j hp] at hd
    have := names_of ds j a1 a3 a4 i h
    rw [a5, hd] at this
    cases this
theorem wk_segs {ds : List Gr} (ht : treeB ds = true) : ∀ d i : Nat, i < 8 → usAt ds i = true → depB ds (i : Int) = d → wk ds (some 0) (segs ds i) = some i := by
  intro d
  induction d with
  | zero =>
    intro i hi hu hd
    rcases tree_step ht hi hu with ⟨rfl, h1⟩ | ⟨_, j, _, _, _, h1, h2, h3⟩
    · rw [segs_root]; rfl
    · omega
  | succ d ih =>
    intro i hi hu hd
    rcases tree_step ht hi hu with ⟨rfl, h1⟩ | ⟨h0, j, hp, hj, uj, h1, h2, h3⟩
    · omega
    · rw [segs_up h0 hp h1 h2]
      unfold wk
      rw [List.foldl_append]
      have := ih j hj uj (by omega)
      unfold wk at this
      rw [this]
      exact kid_self ht (by omega) hi hu hp
theorem segs_wk {ds : List Gr} (ht : treeB ds = true) : ∀ (n : Nat) (L : List (List UInt8)) (i : Nat), L.length = n → wk ds (some 0) L = some i → segs ds i = L ∧ i < 8 ∧ usAt ds i = true := by
  intro n
  induction n with
  | zero =>
    intro L i hl hw
    obtain rfl : L = [] := List.length_eq_zero_iff.1 hl
    obtain rfl : 0 = i := Option.some.inj hw
    exact ⟨segs_root ds, by omega, (tree_facts ht).2⟩
  | succ n ih =>
    intro L i hl hw
    obtain ⟨L', s, rfl⟩ : ∃ L' s, L = L' ++ [s] := ⟨L.dropLast, L.getLast (by intro e; subst e; simp at hl), (List.dropLast_concat_getLast _).symm⟩
    unfold wk at hw
    rw [List.foldl_append] at hw
    cases hj : wk ds (some 0) L' with
    | none => unfold wk at hj; rw [hj] at hw; cases hw
    | some j =>
      obtain ⟨h1, h2, h3⟩ := ih L' j (by simpa using hl) hj
      unfold wk at hj
      rw [hj] at hw
      have hk : kidM ds j s = some i := hw
      have hn : namesTo ds j s 8 = true := by
        cases hnn : namesTo ds j s 8
        · rw [kid_none hnn] at hk; cases hk
        · rfl
      obtain ⟨i', hk', a1, a2, a3, a4, a5⟩ := kid_some hn
      rw [hk] at hk'
      obtain rfl : i = i' := Option.some.inj hk'
      rcases tree_step ht a2 a3 with ⟨e, _⟩ | ⟨h0, j2, hp, _, _, f1, f2, _⟩
      · omega
      · obtain rfl : j = j2 := by omega
        exact ⟨by rw [segs_up h0 hp f1 f2, h1, a5], a2, a3⟩
end Go.Proofs.Ytcngkecnddhioaa
