/- Rows of groups of one's own: what marks them, what asks whether they are held. -/
import Derived.Test.YtocgndefjjomjaaKFM
import Derived.Test.YtocgndefjjomjaaGS
import Derived.Test.YtocgndefjjomjaaMT
namespace Go.Proofs.Ytocgndefjjomjaa
set_option linter.unusedVariables false
set_option linter.unusedSimpArgs false
open Go.ChangeShapes Go.WideShapes Go.ChangeAt Go.RowKit

section
variable {α : Type} {c : α → List Value} {n : Nat}
/-- some cells of one element of a row, written anew. -/
theorem put_mid {W : World} {g m k s : Nat} {xs ys : List α} {e e' : α} {cs : List Value} (hth : W.there g 0 (m * n)) (hk : k < m) (hrow : RowOf c n W g 0 (xs ++ e :: ys)) (hxs : xs.length = k) (hc : ∀ y, (c y).length = n)
    (hs : s + cs.length ≤ n) (he : c e' = (c e).take s ++ cs ++ (c e).drop (s + cs.length)) :
    (W.setCells g (k * n + s) cs).there g 0 (m * n) ∧ RowOf c n (W.setCells g (k * n + s) cs) g 0 (xs ++ e' :: ys) := by
  refine ⟨World.there_setCells hth _ _ _, ?_⟩
  have hkm : (k + 1) * n ≤ m * n := Nat.mul_le_mul_right n hk
  rw [Nat.add_mul, Nat.one_mul] at hkm
  intro i y hy
  rw [Nat.zero_add]
  rcases Nat.lt_trichotomy i k with hi | hi | hi
  · have h1 := hrow i y (by rw [List.getElem?_append_left (by omega)] at hy ⊢; exact hy)
    rw [Nat.zero_add] at h1
    refine World.rangeAt_setCells_apart h1 _ _ _ (.inr (.inl ?_))
    rw [hc]
    have : (i + 1) * n ≤ k * n := Nat.mul_le_mul_right n hi
    rw [Nat.add_mul, Nat.one_mul] at this
    omega
  · subst hi
    rw [List.getElem?_append_right (by omega), hxs, Nat.sub_self] at hy
    obtain rfl : e' = y := by simpa using hy
    have h1 := hrow i e (by rw [List.getElem?_append_right (by omega), hxs, Nat.sub_self]; rfl)
    rw [Nat.zero_add] at h1
    have hce := hc e
    intro j v hv
    rcases Nat.lt_or_ge j s with hj | hj
    · have : (c e)[j]? = some v := by
        rw [he, List.append_assoc, List.getElem?_append_left (by simp; omega), List.getElem?_take_of_lt hj] at hv; exact hv
      have h2 := World.rangeAt_setCells_apart (w := W) (b' := g) (o' := i * n) (cs := (c e).take s) (fun j v hv => h1 j v (by
        rw [List.getElem?_take] at hv; split at hv; exact hv; cases hv)) g (i * n + s) cs (.inr (.inl (by simp; omega)))
      exact h2 j v (by rw [List.getElem?_take_of_lt hj]; exact this)
    · rcases Nat.lt_or_ge j (s + cs.length) with hj2 | hj2
      · have : cs[j - s]? = some v := by
          rw [he, List.append_assoc, List.getElem?_append_right (by simp; omega), List.getElem?_append_left (by simp; omega)] at hv
          rw [← hv]; congr 1; simp; omega
        have h2 := World.rangeAt_setCells_same W g (i * n + s) cs (fun j hj => by
          have := hth (i * n + s + j) (by omega)
          rwa [Nat.zero_add] at this) (j - s) v this
        rwa [show i * n + s + (j - s) = i * n + j by omega] at h2
      · have : ((c e).drop (s + cs.length))[j - (s + cs.length)]? = some v := by
          rw [he, List.append_assoc, List.getElem?_append_right (by simp; omega), List.getElem?_append_right (by simp; omega)] at hv
          rw [← hv]; congr 1; simp; omega
        have h2 := World.rangeAt_setCells_apart (w := W) (b' := g) (o' := i * n + (s + cs.length)) (cs := (c e).drop (s + cs.length)) (fun j v hv => by
          have h3 := h1 (s + cs.length + j) v (by rw [List.getElem?_drop] at hv; exact hv)
          rwa [show i * n + (s + cs.length + j) = i * n + (s + cs.length) + j by omega] at h3) g (i * n + s) cs (.inr (.inr (by omega)))
        have h3 := h2 (j - (s + cs.length)) v this
        rwa [show i * n + (s + cs.length) + (j - (s + cs.length)) = i * n + j by omega] at h3
  · have h1 := hrow i y (by
      rw [List.getElem?_append_right (by omega)] at hy ⊢
      obtain ⟨d, hd⟩ : ∃ d, i - xs.length = d + 1 := ⟨i - xs.length - 1, by omega⟩
      rw [hd] at hy ⊢
      simpa using hy)
    rw [Nat.zero_add] at h1
    refine World.rangeAt_setCells_apart h1 _ _ _ (.inr (.inr ?_))
    have : (k + 1) * n ≤ i * n := Nat.mul_le_mul_right n hi
    rw [Nat.add_mul, Nat.one_mul] at this
    omega
end
/-- how many marks a group takes. -/
def gwid (d : Gr) : Int := 11 + d.ba.lo.length + d.ba.dr.length + 5 * d.sh.length
def mGr (k : Int) (d : Gr) : Gr :=
  ⟨k % 3 == 0, k + 1, mtxt (k + 1 + 1), k + 1 + 1 + 1, k + 1 + 1 + 1 + 1, k + 1 + 1 + 1 + 1 + 1, k + 1 + 1 + 1 + 1 + 1 + 1, k + 1 + 1 + 1 + 1 + 1 + 1 + 1,
    ⟨k + 1 + 1 + 1 + 1 + 1 + 1 + 1 + 1, k + 1 + 1 + 1 + 1 + 1 + 1 + 1 + 1 + 1, k + 1 + 1 + 1 + 1 + 1 + 1 + 1 + 1 + 1 + 1, mInts (k + 1 + 1 + 1 + 1 + 1 + 1 + 1 + 1 + 1 + 1 + 1) d.ba.lo.length, mBools (k + 1 + 1 + 1 + 1 + 1 + 1 + 1 + 1 + 1 + 1 + 1 + d.ba.lo.length) d.ba.dr.length⟩,
    mSh (k + 1 + 1 + 1 + 1 + 1 + 1 + 1 + 1 + 1 + 1 + 1 + d.ba.lo.length + d.ba.dr.length) d.sh.length⟩
def mGv (k : Int) (e : Gv) : Gv := ⟨mGr k e.d, e.x, e.y, e.z⟩
def kGs : Int → List Gv → Int
  | k, [] => k
  | k, e :: es => kGs (k + gwid e.d) es
def mGs : Int → List Gv → List Gv
  | _, [] => []
  | k, e :: es => mGv k e :: mGs (k + gwid e.d) es
theorem gwid_pos (d : Gr) : 11 ≤ gwid d := by unfold gwid; omega
theorem kGs_le (k : Int) (es : List Gv) : k ≤ kGs k es := by
  induction es generalizing k with
  | nil => exact Int.le_refl _
  | cons e es ih => have := ih (k + gwid e.d); have := gwid_pos e.d; show k ≤ kGs (k + gwid e.d) es; omega
theorem kGs_append (k : Int) (xs ys : List Gv) : kGs k (xs ++ ys) = kGs (kGs k xs) ys := by
  induction xs generalizing k with
  | nil => rfl
  | cons e es ih => exact ih _
theorem mGs_append (k : Int) (xs ys : List Gv) : mGs k (xs ++ ys) = mGs k xs ++ mGs (kGs k xs) ys := by
  induction xs generalizing k with
  | nil => rfl
  | cons e es ih => exact congrArg (mGv k e :: ·) (ih _)
theorem mGs_len (k : Int) (xs : List Gv) : (mGs k xs).length = xs.length := by
  induction xs generalizing k with
  | nil => rfl
  | cons e es ih => show _ + 1 = _ + 1; rw [ih]
theorem blkGs_m (k : Int) (xs : List Gv) : blkGs (mGs k xs) = blkGs xs := by
  induction xs generalizing k with
  | nil => rfl
  | cons e es ih => show blkG _ ++ blkGs _ = blkG _ ++ blkGs _; rw [ih]; rfl
theorem blkGs_append (xs ys : List Gv) : blkGs (xs ++ ys) = blkGs xs ++ blkGs ys := by simp [blkGs]
theorem blkGs_cons (e : Gv) (ys : List Gv) : blkGs (e :: ys) = blkG e ++ blkGs ys := by simp [blkGs]
theorem mem_blkGs {g : Nat} {e : Gv} {es : List Gv} (he : e ∈ es) (hg : g ∈ blkG e) : g ∈ blkGs es := List.mem_flatMap.2 ⟨e, he, hg⟩
/-- a group's slices hold its rows in blocks of their own, not below B, or are none. -/
def HasG (B : Nat) (W : World) (e : Gv) : Prop := OwnI B W e.x e.d.ba.lo ∧ OwnB B W e.y e.d.ba.dr ∧ OwnSh B W e.z e.d.sh
theorem HasG.kept {S : Nat → Prop} {B : Nat} {W W' : World} {e : Gv} (h : HasG B W e) (hk : Kept S W W') (hn : ∀ g ∈ blkG e, ¬ S g) : HasG B W' e :=
  ⟨h.1.kept hk (fun g hg => hn g (by simp [blkG, hg])), h.2.1.kept hk (fun g hg => hn g (by simp [blkG, hg])), h.2.2.kept hk (fun g hg => hn g (by simp [blkG, hg]))⟩
theorem HasG.below {B : Nat} {W W' : World} {e : Gv} (h : HasG B W e) (hb : Below W.heap.size W W') : HasG B W' e := h.kept (Kept.ofBelow hb) (fun _ _ hf => hf)
theorem HasG.mono {B B' : Nat} {W : World} {e : Gv} (h : HasG B W e) (hB : B' ≤ B) : HasG B' W e := ⟨h.1.mono hB, h.2.1.mono hB, h.2.2.mono hB⟩
theorem HasG.ok {B : Nat} {W : World} {e : Gv} (h : HasG B W e) : GvOk W e := ⟨⟨h.1.sl, h.2.1.sl⟩, h.2.2.sl⟩
theorem HasG.at {B : Nat} {W : World} {e : Gv} (h : HasG B W e) : ∀ g ∈ blkG e, B ≤ g ∧ g < W.heap.size := by
  intro g hg
  simp only [blkG, List.mem_append, Option.mem_toList] at hg
  rcases hg with hg | hg | hg
  · exact h.1.at g hg
  · exact h.2.1.at g hg
  · exact h.2.2.at g hg
def blksOf (x : Value) (es : List Gv) : List Nat := x.ownBlock.toList ++ blkGs es
/-- groups in blocks of their own, their rows too, no two in one. -/
def OwnG (B : Nat) (W : World) (x : Value) (es : List Gv) : Prop := OwnR gvC 14 B W x es ∧ (∀ e ∈ es, HasG B W e) ∧ (blksOf x es).Nodup
theorem OwnG.kept {S : Nat → Prop} {B : Nat} {W W' : World} {x : Value} {es : List Gv} (h : OwnG B W x es) (hk : Kept S W W') (hn : ∀ g ∈ blksOf x es, ¬ S g) : OwnG B W' x es :=
  ⟨h.1.kept hk (fun g hg => hn g (by simp [blksOf, hg])), fun e he => (h.2.1 e he).kept hk (fun g hg => hn g (by simp [blksOf, mem_blkGs he hg])), h.2.2⟩
theorem OwnG.below {B : Nat} {W W' : World} {x : Value} {es : List Gv} (h : OwnG B W x es) (hb : Below W.heap.size W W') : OwnG B W' x es := h.kept (Kept.ofBelow hb) (fun _ _ hf => hf)
theorem OwnG.mono {B B' : Nat} {W : World} {x : Value} {es : List Gv} (h : OwnG B W x es) (hB : B' ≤ B) : OwnG B' W x es := ⟨h.1.mono hB, fun e he => (h.2.1 e he).mono hB, h.2.2⟩
theorem OwnG.sl {B : Nat} {W : World} {x : Value} {es : List Gv} (h : OwnG B W x es) : SlG W x es := ⟨h.1.sl, fun e he => (h.2.1 e he).ok⟩
theorem OwnG.at {B : Nat} {W : World} {x : Value} {es : List Gv} (h : OwnG B W x es) : ∀ g ∈ blksOf x es, B ≤ g ∧ g < W.heap.size := by
  intro g hg
  simp only [blksOf, List.mem_append, Option.mem_toList] at hg
  rcases hg with hg | hg
  · exact h.1.at g hg
  · obtain ⟨e, he, hg⟩ := List.mem_flatMap.1 hg
    exact (h.2.1 e he).at g hg
theorem NewG.own {B : Nat} {W : World} {x : Value} {vs : List Gv} (h : NewG B W x vs) (hf : GsFit vs) : OwnG B W x vs := by
  obtain ⟨h1, h2, h3⟩ := h
  have hx := h1.own hf.1
  refine ⟨hx, fun e he => ⟨(h2 e he).1.1.1, (h2 e he).1.1.2.1, (h2 e he).1.2.1.own (hf.2 e he).2.2.2⟩, ?_⟩
  unfold blksOf
  refine List.nodup_append.2 ⟨(by cases x.ownBlock <;> simp), h3, fun a ha b hb e => ?_⟩
  subst e
  obtain ⟨u, hu, hb⟩ := List.mem_flatMap.1 hb
  have := (((h2 u hu).2 a (by simpa using ha)).at a hb).1
  omega
theorem apart_of {g : Nat} {us vs : List Gv} {e : Gv} (h : (g :: blkGs (us ++ e :: vs)).Nodup) : g ∉ blkG e ∧ (blkG e).Nodup ∧ ∀ u ∈ us ++ vs, ∀ k ∈ blkG u, k ∉ blkG e := by
  rw [blkGs_append, blkGs_cons] at h
  obtain ⟨h1, h2⟩ := List.nodup_cons.1 h
  simp only [List.mem_append, not_or] at h1
  obtain ⟨h3, h4, h5⟩ := List.nodup_append.1 h2
  obtain ⟨h6, h7, h8⟩ := List.nodup_append.1 h4
  refine ⟨h1.2.1, h6, fun u hu k hk hke => ?_⟩
  rcases List.mem_append.1 hu with hu | hu
  · exact h5 k (mem_blkGs hu hk) k (List.mem_append.2 (.inl hke)) rfl
  · exact h8 k hke k (mem_blkGs hu hk) rfl
theorem apart_in {e : Gv} (h : (blkG e).Nodup) : (∀ g, e.x.ownBlock = some g → e.y.ownBlock ≠ some g) ∧ (∀ g, e.x.ownBlock = some g → e.z.ownBlock ≠ some g) ∧ (∀ g, e.y.ownBlock = some g → e.z.ownBlock ≠ some g) := by
  unfold blkG at h
  obtain ⟨_, h4, h5⟩ := List.nodup_append.1 h
  obtain ⟨_, _, h8⟩ := List.nodup_append.1 h4
  refine ⟨fun g h1 h2 => h5 g (by simp [h1]) g (by simp [h2]) rfl, fun g h1 h2 => h5 g (by simp [h1]) g (by simp [h2]) rfl, fun g h1 h2 => h8 g (by simp [h1]) g (by simp [h2]) rfl⟩
end Go.Proofs.Ytocgndefjjomjaa
