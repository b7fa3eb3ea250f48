/- The specification's BandDo. -/
import Derived.Test.YtljjgebkieffpaaBW
import Derived.Test.YtljjgebkieffpaaBN
namespace Go.Proofs.Ytljjgebkieffpaa
set_option linter.unusedVariables false
set_option linter.unusedSimpArgs false
open Go.ChangeShapes Go.WideShapes Go.ChangeAt Go.RowKit

def fullBa (b : Ba) : Ba := ⟨b.qu, b.qu, 0, List.replicate b.lo.length 0, List.replicate b.dr.length false⟩
def min20 (n : Int) : Int := if 20 < n then 20 else n
def takesBa (b : Ba) (c : Nat) : Ba × Int :=
  if 0 < loAt b c then (b, 0)
  else if b.po = 0 then (⟨b.qu, b.po, b.sp, b.lo, b.dr.set c true⟩, 2)
  else (⟨b.qu, b.po - min20 b.po, b.sp, b.lo.set c (min20 b.po), b.dr⟩, 0)
def spendsBa (b : Ba) (c : Nat) (n : Int) : Ba × Int :=
  if n < 1 ∨ loAt b c < n then (b, 3) else (⟨b.qu, b.po, b.sp + n, b.lo.set c (loAt b c - n), b.dr⟩, 0)
def returnsBa (b : Ba) (c : Nat) : Ba × Int :=
  (⟨b.qu, b.po + loAt b c, b.sp, b.lo.set c 0, if 0 < b.po + loAt b c then List.replicate b.dr.length false else b.dr⟩, 0)
def doBa (b : Ba) (k c n : Int) : Ba × Int :=
  if bandOk b = true then
    if k = 4 then (fullBa b, 0)
    else if hasB b c = true then
      if k = 1 then takesBa b c.toNat
      else if k = 2 then spendsBa b c.toNat n
      else if k = 3 then returnsBa b c.toNat
      else (b, 1)
    else (b, 1)
  else (ba0, 1)

theorem Kept.setDrew (w : World) (b o : Nat) (v : Value) : Kept (fun k => k = b) w (w.setCell ⟨b, o, none⟩ v).drew :=
  ((Kept.set w b o v).trans (Kept.ofBelow (Below.refl _ _).drew)).mono (fun k h => h.elim id False.elim)
theorem set_same {α : Type} {l : List α} {k : Nat} {x : α} (h : l[k]? = some x) : l.set k x = l := by
  apply List.ext_getElem?
  intro i
  by_cases e : k = i
  · subst e; rw [List.getElem?_set_self (List.getElem?_eq_some_iff.1 h).1, h]
  · rw [List.getElem?_set_ne e]
/-- who is dry has an empty pool. -/
theorem dry_not {b : Ba} (h : bandOk b = true) {k : Nat} {d : Bool} (hk : b.dr[k]? = some d) (hp : 0 < b.po) : d = false := by
  obtain ⟨hh, h2, _⟩ := ok_parts h
  obtain ⟨_, _, nd, _⟩ := head_parts hh
  have hlt : k < b.lo.length := by rw [← nd]; exact (List.getElem?_eq_some_iff.1 hk).1
  have := okTo_of h2 k hlt
  unfold oneOk drAt at this
  rw [hk] at this
  simp [hp] at this
  exact this.2
theorem bboxf {w : World} {b : Nat} {cs : Array Value} {t : TypeId} (h : w.heap[b]? = some (.cells cs t (0, 0))) :
    w.frozen? ⟨b, 0, none⟩ = false ∧ w.frozen? ⟨b, 1, none⟩ = false ∧ w.frozen? ⟨b, 2, none⟩ = false ∧ w.frozen? ⟨b, 3, none⟩ = false ∧ w.frozen? ⟨b, 4, none⟩ = false :=
  ⟨fbox h 0, fbox h 1, fbox h 2, fbox h 3, fbox h 4⟩
theorem obox {w : World} {b : Nat} {x y z : Value} {t : TypeId} (h : w.heap[b]? = some (.cells #[x, y, z] t (0, 0))) :
    w.cell? ⟨b, 0, none⟩ = some x ∧ w.cell? ⟨b, 1, none⟩ = some y ∧ w.cell? ⟨b, 2, none⟩ = some z := by
  refine ⟨?_, ?_, ?_⟩ <;> simp [World.cell?, h]
/-- rows of one's own, by their blocks. -/
structure Rows2 (B : Nat) (W : World) (gx cx gy cy : Nat) (b : Ba) : Prop where
  x1 : B ≤ gx
  x2 : gx < W.heap.size
  y1 : B ≤ gy
  y2 : gy < W.heap.size
  ne : gx ≠ gy
  xi : IntAt W gx 0 b.lo
  xt : W.there gx 0 b.lo.length
  xc : b.lo.length ≤ cx
  xm : cx ≤ 9223372036854775807
  yi : BoolAt W gy 0 b.dr
  yt : W.there gy 0 b.dr.length
  yc : b.dr.length ≤ cy
  ym : cy ≤ 9223372036854775807
theorem own_rows {B : Nat} {W : World} {x y : Value} {b : Ba} (h : OwnBa B W x y b) (h1 : 1 ≤ b.lo.length) (h2 : 1 ≤ b.dr.length) :
    ∃ gx cx gy cy, x = .slice (some ⟨gx, 0, none⟩) b.lo.length cx ∧ y = .slice (some ⟨gy, 0, none⟩) b.dr.length cy ∧ Rows2 B W gx cx gy cy b := by
  obtain ⟨hx, hy, hne⟩ := h
  rcases hx with ⟨h0, _⟩ | ⟨gx, cx, a1, a2, rfl, a3, a4, a5, a6⟩
  · rw [h0] at h1; simp at h1
  rcases hy with ⟨h0, _⟩ | ⟨gy, cy, b1, b2, rfl, b3, b4, b5, b6⟩
  · rw [h0] at h2; simp at h2
  unfold maxLen at a6 b6
  exact ⟨gx, cx, gy, cy, rfl, rfl, a1, a2, b1, b2, fun e => hne gx rfl (by simp [Value.ownBlock, e]), a3, a4, a5, by omega, b3, b4, b5, by omega⟩
theorem Rows2.own {B : Nat} {W : World} {gx cx gy cy : Nat} {b : Ba} (h : Rows2 B W gx cx gy cy b) : OwnBa B W (.slice (some ⟨gx, 0, none⟩) b.lo.length cx) (.slice (some ⟨gy, 0, none⟩) b.dr.length cy) b :=
  ⟨.inr ⟨gx, cx, h.x1, h.x2, rfl, h.xi, h.xt, h.xc, by have := h.xm; unfold maxLen; omega⟩, .inr ⟨gy, cy, h.y1, h.y2, rfl, h.yi, h.yt, h.yc, by have := h.ym; unfold maxLen; omega⟩, fun g hg hg' => by
    simp [Value.ownBlock] at hg hg'
    exact h.ne (hg.trans hg'.symm)⟩
theorem Rows2.kept {S : Nat → Prop} {B : Nat} {W W' : World} {gx cx gy cy : Nat} {b : Ba} (h : Rows2 B W gx cx gy cy b) (hk : Kept S W W') (h1 : ¬ S gx) (h2 : ¬ S gy) : Rows2 B W' gx cx gy cy b :=
  ⟨h.x1, Nat.lt_of_lt_of_le h.x2 hk.size, h.y1, Nat.lt_of_lt_of_le h.y2 hk.size, h.ne, hk.ints h.x2 h1 h.xi, hk.there h.x2 h1 h.xt, h.xc, h.xm, hk.bools h.y2 h2 h.yi, hk.there h.y2 h2 h.yt, h.yc, h.ym⟩
theorem Rows2.below {B : Nat} {W W' : World} {gx cx gy cy : Nat} {b : Ba} (h : Rows2 B W gx cx gy cy b) (hk : Below W.heap.size W W') : Rows2 B W' gx cx gy cy b :=
  h.kept (Kept.ofBelow hk) (fun h => h) (fun h => h)
theorem Rows2.mono {B B' : Nat} {W : World} {gx cx gy cy : Nat} {b : Ba} (h : Rows2 B W gx cx gy cy b) (hB : B' ≤ B) : Rows2 B' W gx cx gy cy b :=
  ⟨Nat.le_trans hB h.x1, h.x2, Nat.le_trans hB h.y1, h.y2, h.ne, h.xi, h.xt, h.xc, h.xm, h.yi, h.yt, h.yc, h.ym⟩
/-- the same rows of another pool. -/
theorem Rows2.as {B : Nat} {W : World} {gx cx gy cy : Nat} {b c : Ba} (h : Rows2 B W gx cx gy cy b) (h1 : c.lo = b.lo) (h2 : c.dr = b.dr) : Rows2 B W gx cx gy cy c :=
  ⟨h.x1, h.x2, h.y1, h.y2, h.ne, by rw [h1]; exact h.xi, by rw [h1]; exact h.xt, by rw [h1]; exact h.xc, h.xm, by rw [h2]; exact h.yi, by rw [h2]; exact h.yt, by rw [h2]; exact h.yc, h.ym⟩
theorem Rows2.setX {B : Nat} {W : World} {gx cx gy cy k : Nat} {b : Ba} (h : Rows2 B W gx cx gy cy b) (hk : k < b.lo.length) (u : Int) : Rows2 B (W.setCell ⟨gx, k, none⟩ (.int .i64 u)) gx cx gy cy ⟨b.qu, b.po, b.sp, b.lo.set k u, b.dr⟩ := by
  obtain ⟨p1, p2⟩ := set_int (u := u) h.xt h.xi hk
  have hK := Kept.set W gx k (.int .i64 u)
  exact ⟨h.x1, Nat.lt_of_lt_of_le h.x2 hK.size, h.y1, Nat.lt_of_lt_of_le h.y2 hK.size, h.ne, p2, by simpa using p1, by simpa using h.xc, h.xm, hK.bools h.y2 (Ne.symm h.ne) h.yi, hK.there h.y2 (Ne.symm h.ne) h.yt, h.yc, h.ym⟩
theorem Rows2.setY {B : Nat} {W : World} {gx cx gy cy k : Nat} {b : Ba} (h : Rows2 B W gx cx gy cy b) (hk : k < b.dr.length) (u : Bool) : Rows2 B (W.setCell ⟨gy, k, none⟩ (.bool u)) gx cx gy cy ⟨b.qu, b.po, b.sp, b.lo, b.dr.set k u⟩ := by
  obtain ⟨p1, p2⟩ := set_bool (u := u) h.yt h.yi hk
  have hK := Kept.set W gy k (.bool u)
  exact ⟨h.x1, Nat.lt_of_lt_of_le h.x2 hK.size, h.y1, Nat.lt_of_lt_of_le h.y2 hK.size, h.ne, hK.ints h.x2 h.ne h.xi, hK.there h.x2 h.ne h.xt, h.xc, h.xm, p2, by simpa using p1, by simpa using h.yc, h.ym⟩
set_option maxHeartbeats 4000000 in
theorem spec_bandDo_no (b : Ba) (x y : Value) (k c n : Int) (w : World) (hs : SlBa w x y b) (hok : bandOk b = false) :
    Calls Try.prog 12 #[baV b x y, boV k c n] w fun e w' => ∃ x' y', e = .returned (.tuple #[baV (doBa b k c n).1 x' y', .int .i64 (doBa b k c n).2]) ∧ OwnBa w.heap.size w' x' y' (doBa b k c n).1 ∧ Below w.heap.size w w' := by
  have HD : Hid (doBa b k c n = (ba0, 1)) := by show _ = _; unfold doBa; rw [hok]; simp
  have hB : ∀ A B C, Below w.heap.size w (((w.alloc A).alloc B).alloc C) := fun A B C => (((Below.refl _ _).alloc (Nat.le_refl _) _).alloc (by simp) _).alloc (by simp; omega) _
  unfold baV boV
  go_enter Try.func12, Try.ntmps12
  go_wp2_with fail
  refine (spec_bandOk b x y _ (hs.below (hB _ _ _))).mono ?_
  rintro e1 w2 ⟨rfl, b2⟩
  obtain ⟨b2, lt2, hA, hO, hR⟩ := three_box' b2
  obtain ⟨r0, r1, r2, r3, r4⟩ := bbox hR
  obtain ⟨f0, f1, f2, f3, f4⟩ := bboxf hR
  simp only []
  go_at_K
  go_wp2_with fail
  have hK := Kept.five w2 (w.heap.size + 1 + 1) (.int .i64 0) (.int .i64 0) (.int .i64 0) (.slice none 0 0) (.slice none 0 0)
  refine bodyPost_ret (results_mid2 rfl _ _ (w.heap.size + 1 + 1) 0 [.int .i64 0, .int .i64 0, .int .i64 0, .slice none 0 0, .slice none 0 0] _ rfl (range_of_block (five_set hR _ _ _ _ _)) Try.underlying26 rfl info_ba) rfl ?_
  rw [HD.out]
  exact ⟨_, _, rfl, own_ba0 _ _, b2.trans (hK.toBelow b2.size (by intro k hk; omega))⟩

end Go.Proofs.Ytljjgebkieffpaa
