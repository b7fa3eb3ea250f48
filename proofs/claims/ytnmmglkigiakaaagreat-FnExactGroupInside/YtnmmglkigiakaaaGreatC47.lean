/- Chapter 12 as plain functions: weights of tasks together, who is in line, who is within a group, shares. The program: weights of tasks, together; who is under a group. The program: whether a group is another one or in it. The program: the weights of a group's tasks that are ready on a processor. The program: a group's share on a processor. -/
import Derived.Test.YtnmmglkigiakaaaGreatC24
import Derived.Test.YtnmmglkigiakaaaGreatC11
import Derived.Test.YtnmmglkigiakaaaGreatC01
import Derived.Lib.SmallJoins
import Derived.Test.YtnmmglkigiakaaaGreatC30
namespace Go.Proofs.YtnmmglkigiakaaaGreat
set_option linter.unusedVariables false
set_option linter.unusedSimpArgs false
open Go.ChangeShapes Go.WideShapes Go.ChangeAt Go.RowKit Go.Shelf Go.Sort

/-- the places below k that p picks, in their order. -/
def pickTo (p : Nat → Bool) (k : Nat) : List Nat := (List.range k).filter p
theorem pickTo_zero (p : Nat → Bool) : pickTo p 0 = [] := rfl
theorem pickTo_succ (p : Nat → Bool) (k : Nat) : pickTo p (k + 1) = pickTo p k ++ (if p k = true then [k] else []) := by
  unfold pickTo
  rw [List.range_succ, List.filter_append]
  congr 1
  by_cases h : p k = true
  · rw [if_pos h]; simp only [List.filter_cons, h, if_true, List.filter_nil]
  · rw [if_neg h]; simp only [List.filter_cons, h, List.filter_nil]; rfl
theorem pickTo_yes {p : Nat → Bool} {k : Nat} (h : p k = true) : pickTo p (k + 1) = pickTo p k ++ [k] := by rw [pickTo_succ, if_pos h]
theorem pickTo_no {p : Nat → Bool} {k : Nat} (h : p k = false) : pickTo p (k + 1) = pickTo p k := by rw [pickTo_succ, if_neg (by rw [h]; decide), List.append_nil]
theorem pickTo_pre (p : Nat → Bool) {k n : Nat} (h : k ≤ n) : ∃ post, pickTo p n = pickTo p k ++ post := by
  obtain ⟨d, rfl⟩ := Nat.exists_eq_add_of_le h
  unfold pickTo
  rw [List.range_add, List.filter_append]
  exact ⟨_, rfl⟩
theorem pickTo_len (p : Nat → Bool) (k : Nat) : (pickTo p k).length ≤ k := by
  unfold pickTo
  exact Nat.le_trans (List.length_filter_le _ _) (by simp)
theorem pickTo_mem {p : Nat → Bool} {k i : Nat} (h : i ∈ pickTo p k) : i < k ∧ p i = true := by
  unfold pickTo at h
  rw [List.mem_filter, List.mem_range] at h
  exact h

/-- the weight of the task at a place. -/
def niK (u : Wv) (k : Nat) : Int := ((u.ts[k]?).map (fun e => wof e.ni)).getD 0
theorem niK_at {u : Wv} {k : Nat} {e : Tk} (he : u.ts[k]? = some e) : niK u k = wof e.ni := by unfold niK; rw [he]; rfl
theorem wof_range (n : Int) : 0 ≤ wof n ∧ wof n ≤ 20 := by
  unfold wof
  split <;> omega
theorem niK_range (u : Wv) (k : Nat) : 0 ≤ niK u k ∧ niK u k ≤ 20 := by
  unfold niK
  cases u.ts[k]? with
  | none => exact ⟨by decide, by decide⟩
  | some e => exact wof_range _
def sumW (u : Wv) : List Nat → Int
  | [] => 0
  | k :: l => niK u k + sumW u l
theorem sumW_app (u : Wv) (l m : List Nat) : sumW u (l ++ m) = sumW u l + sumW u m := by
  induction l with
  | nil => simp [sumW]
  | cons k l ih => simp only [List.cons_append, sumW, ih]; omega
theorem sumW_one (u : Wv) (l : List Nat) (k : Nat) : sumW u (l ++ [k]) = sumW u l + niK u k := by
  rw [sumW_app]; simp [sumW]
theorem sumW_range (u : Wv) (l : List Nat) : 0 ≤ sumW u l ∧ sumW u l ≤ 20 * (l.length : Int) := by
  induction l with
  | nil => simp [sumW]
  | cons k l ih =>
    have := niK_range u k
    simp only [sumW, List.length_cons]
    omega
theorem sumW_pick (u : Wv) (p : Nat → Bool) (k : Nat) : 0 ≤ sumW u (pickTo p k) ∧ sumW u (pickTo p k) ≤ 20 * (k : Int) := by
  have h1 := sumW_range u (pickTo p k)
  have h2 := pickTo_len p k
  exact ⟨h1.1, by omega⟩
/-- whether the task at a place is in line on a processor. -/
def lineB (u : Wv) (c i : Nat) : Bool := (u.ts[i]?).any (fun e => decide (e.cpu = (c : Int)) && inlineB (gsD u.gs) e.st e.gr.toNat c)
theorem lineB_at {u : Wv} {c i : Nat} {e : Tk} (he : u.ts[i]? = some e) : lineB u c i = (decide (e.cpu = (c : Int)) && inlineB (gsD u.gs) e.st e.gr.toNat c) := by unfold lineB; rw [he]; rfl
theorem inline_ready {ds : List Gr} {st : Int} {g c : Nat} (h : inlineB ds st g c = true) : st = 1 := by
  unfold inlineB at h
  rw [Bool.and_eq_true] at h
  exact of_decide_eq_true h.1
theorem lineB_inlT (u : Wv) (c i : Nat) : inlT u (i : Int) c = lineB u c i := by
  unfold inlT
  rw [Int.toNat_natCast]
  show (taskB u.ts (i : Int) && lineB u c i) = lineB u c i
  cases h : lineB u c i
  · rw [Bool.and_false]
  · rw [Bool.and_true]
    unfold lineB at h
    cases he : u.ts[i]? with
    | none => rw [he] at h; cases h
    | some e =>
      rw [he] at h
      have h' : (decide (e.cpu = (c : Int)) && inlineB (gsD u.gs) e.st e.gr.toNat c) = true := h
      rw [Bool.and_eq_true] at h'
      have hst := inline_ready h'.2
      have hl := (List.getElem?_eq_some_iff.1 he).1
      unfold taskB
      rw [decide_eq_true (by omega : (0 : Int) ≤ (i : Int)), decide_eq_true (by omega : (i : Int) < (u.ts.length : Int)), Int.toNat_natCast, he]
      show decide (e.st ≠ 0) = true
      exact decide_eq_true (by omega)
def lineL (u : Wv) (c : Nat) : List Nat := pickTo (lineB u c) u.ts.length
def loadN (u : Wv) (c : Nat) : Int := sumW u (lineL u c)
/-- whether the task at a place is ready on a processor, in a group or within it. -/
def inB (u : Wv) (g : Int) (c i : Nat) : Bool := (u.ts[i]?).any (fun e => decide (e.st = 1) && (decide (e.cpu = (c : Int)) && underD (gsD u.gs) g e.gr.toNat))
theorem inB_at {u : Wv} {g : Int} {c i : Nat} {e : Tk} (he : u.ts[i]? = some e) : inB u g c i = (decide (e.st = 1) && (decide (e.cpu = (c : Int)) && underD (gsD u.gs) g e.gr.toNat)) := by unfold inB; rw [he]; rfl
def insideN (u : Wv) (g : Int) (c : Nat) : Int := sumW u (pickTo (inB u g c) u.ts.length)
def allTo (u : Wv) (g : Int) : Nat → Int
  | 0 => 0
  | c + 1 => allTo u g c + insideN u g c
theorem inside_range {u : Wv} (h : u.ts.length = 12) (g : Int) (c : Nat) : 0 ≤ insideN u g c ∧ insideN u g c ≤ 240 := by
  have := sumW_pick u (inB u g c) u.ts.length
  unfold insideN
  omega
theorem load_range {u : Wv} (h : u.ts.length = 12) (c : Nat) : 0 ≤ loadN u c ∧ loadN u c ≤ 240 := by
  have := sumW_pick u (lineB u c) u.ts.length
  unfold loadN lineL
  omega
theorem allTo_range {u : Wv} (h : u.ts.length = 12) (g : Int) (k : Nat) : 0 ≤ allTo u g k ∧ allTo u g k ≤ 240 * (k : Int) := by
  induction k with
  | zero => simp [allTo]
  | succ c ih =>
    have := inside_range h g c
    simp only [allTo]
    omega
theorem inside_all {u : Wv} (h : u.ts.length = 12) (g : Int) {c k : Nat} (hc : c < k) : insideN u g c ≤ allTo u g k := by
  induction k with
  | zero => omega
  | succ j ih =>
    have h1 := inside_range h g j
    have h2 := allTo_range h g j
    simp only [allTo]
    rcases Nat.lt_succ_iff_lt_or_eq.1 hc with h | rfl
    · have := ih h; omega
    · omega
def weAt (u : Wv) (g : Nat) : Int := ((u.gs[g]?).map (fun e => e.d.we)).getD 0
/-- one at least. -/
def mx1 (n : Int) : Int := if n < 1 then 1 else n
theorem mx1_alt (n : Int) : (if n > 1 then n else 1) = mx1 n := by
  unfold mx1
  by_cases h : n < 1
  · rw [if_pos h, if_neg (by omega)]
  · rw [if_neg h]
    by_cases h1 : n > 1
    · rw [if_pos h1]
    · rw [if_neg h1]; omega
def shareN (u : Wv) (g : Nat) (c : Nat) : Int := if allTo u (g : Int) u.cs.length = 0 then weAt u g else mx1 (weAt u g * insideN u (g : Int) c / allTo u (g : Int) u.cs.length)
/-- how many of those in line are not current. -/
def waitB (u : Wv) (c : Nat) (cur : Int) (i : Nat) : Bool := lineB u c i && decide (cur ≠ (i : Int))
def curAt (u : Wv) (c : Nat) : Int := ((u.cs[c]?).map (fun e => e.cur)).getD 0
def waitN (u : Wv) (c : Nat) : Int := ((pickTo (waitB u c (curAt u c)) u.ts.length).length : Int)
theorem cpuB_at {cs : List Cp} {c : Nat} (h : c < cs.length) : cpuB cs (c : Int) = true := by
  unfold cpuB
  rw [decide_eq_true (by omega), decide_eq_true (by omega)]; rfl
theorem forms_at {W : World} {b : Nat} {u : Wv} {p1 p2 p3 : Option Addr} {c1 c2 c3 : Nat} (hA : AtW W b u) (e1 : u.x = .slice p1 u.cs.length c1) (e2 : u.y = .slice p2 u.ts.length c2) (e3 : u.z = .slice p3 u.gs.length c3) :
    W.cell? ⟨b, 0, none⟩ = some (.int .i64 u.now) ∧ W.cell? ⟨b, 1, none⟩ = some (.slice p1 u.cs.length c1) ∧ W.cell? ⟨b, 2, none⟩ = some (.slice p2 u.ts.length c2) ∧ W.cell? ⟨b, 3, none⟩ = some (.slice p3 u.gs.length c3) := by
  obtain ⟨o0, o1, o2, o3⟩ := hA.cells
  rw [e1] at o1
  rw [e2] at o2
  rw [e3] at o3
  exact ⟨o0, o1, o2, o3⟩
theorem slw_forms {W : World} {u : Wv} (hs : SlW W u) : ∃ p1 c1 p2 c2 p3 c3, u.x = .slice p1 u.cs.length c1 ∧ u.y = .slice p2 u.ts.length c2 ∧ u.z = .slice p3 u.gs.length c3 ∧ u.cs.length ≤ 9223372036854775807 ∧ u.ts.length ≤ 9223372036854775807 ∧ u.gs.length ≤ 9223372036854775807 := by
  obtain ⟨p1, c1, e1, h1⟩ := SlR.form hs.1
  obtain ⟨p2, c2, e2, h2⟩ := SlR.form hs.2.1
  obtain ⟨p3, c3, e3, h3⟩ := SlR.form hs.2.2.1
  exact ⟨p1, c1, p2, c2, p3, c3, e1, e2, e3, h1, h2, h3⟩
/-- what a walk reads of a world in a box, at any later world. -/
theorem rows_at {W1 : World} {b : Nat} {u : Wv} {p1 p2 p3 : Option Addr} {c1 c2 c3 : Nat} (hA : AtW W1 b u) (e1 : u.x = .slice p1 u.cs.length c1) (e2 : u.y = .slice p2 u.ts.length c2) (e3 : u.z = .slice p3 u.gs.length c3) :
    Hid (∀ wr, Below W1.heap.size W1 wr → wr.cell? ⟨b, 0, none⟩ = some (.int .i64 u.now) ∧ wr.cell? ⟨b, 1, none⟩ = some (.slice p1 u.cs.length c1) ∧ wr.cell? ⟨b, 2, none⟩ = some (.slice p2 u.ts.length c2) ∧ wr.cell? ⟨b, 3, none⟩ = some (.slice p3 u.gs.length c3)) ∧
    Hid (∀ wr k e, Below W1.heap.size W1 wr → u.ts[k]? = some e → ∃ tg to, p2 = some ⟨tg, to, none⟩ ∧ wr.rangeAt tg (to + k * 9) (tkC e) ∧ tg < W1.heap.size) ∧
    Hid (∀ wr k e, Below W1.heap.size W1 wr → u.cs[k]? = some e → ∃ tg to, p1 = some ⟨tg, to, none⟩ ∧ wr.rangeAt tg (to + k * 5) (cpC e) ∧ tg < W1.heap.size) ∧
    Hid (∀ wr k e, Below W1.heap.size W1 wr → u.gs[k]? = some e → ∃ tg to, p3 = some ⟨tg, to, none⟩ ∧ wr.rangeAt tg (to + k * 14) (gvC e) ∧ tg < W1.heap.size) := by
  refine ⟨fun wr hb => forms_at (hA.below hb) e1 e2 e3, fun wr k e hb he => ?_, fun wr k e hb he => ?_, fun wr k e hb he => ?_⟩
  · obtain ⟨tg, to, cap, m, hr, _, _⟩ := (hA.below hb).cellsT he
    obtain ⟨tg', to', cap', m', hr', _, _⟩ := hA.cellsT he
    rw [(forms_at (hA.below hb) e1 e2 e3).2.2.1] at m
    rw [(forms_at hA e1 e2 e3).2.2.1] at m'
    simp only [Option.some.injEq, Value.slice.injEq] at m m'
    have q := m.1.symm.trans m'.1
    simp only [Option.some.injEq, Addr.mk.injEq] at q
    exact ⟨tg, to, m.1, hr, by rw [q.1]; exact block_lt_of_cell (tk_cells hr').1⟩
  · obtain ⟨tg, to, cap, m, hr, _, _⟩ := (hA.below hb).cellsC he
    obtain ⟨tg', to', cap', m', hr', _, _⟩ := hA.cellsC he
    rw [(forms_at (hA.below hb) e1 e2 e3).2.1] at m
    rw [(forms_at hA e1 e2 e3).2.1] at m'
    simp only [Option.some.injEq, Value.slice.injEq] at m m'
    have q := m.1.symm.trans m'.1
    simp only [Option.some.injEq, Addr.mk.injEq] at q
    exact ⟨tg, to, m.1, hr, by rw [q.1]; exact block_lt_of_cell (cp_cells hr').1⟩
  · obtain ⟨tg, to, cap, m, hr, _, _⟩ := (hA.below hb).cellsG he
    obtain ⟨tg', to', cap', m', hr', _, _⟩ := hA.cellsG he
    rw [(forms_at (hA.below hb) e1 e2 e3).2.2.2] at m
    rw [(forms_at hA e1 e2 e3).2.2.2] at m'
    simp only [Option.some.injEq, Value.slice.injEq] at m m'
    have q := m.1.symm.trans m'.1
    simp only [Option.some.injEq, Addr.mk.injEq] at q
    exact ⟨tg, to, m.1, hr, by rw [q.1]; exact block_lt_of_cell (gv_cells hr').1⟩
end Go.Proofs.YtnmmglkigiakaaaGreat
namespace Go.Proofs.YtnmmglkigiakaaaGreat
set_option linter.unusedVariables false
set_option linter.unusedSimpArgs false
open Go.ChangeShapes Go.WideShapes Go.ChangeAt Go.RowKit Go.Shelf Go.Sort
attribute [local go_sem] Oper.semAt_some

/-- places in a row in memory. -/
def RowI (W : World) (v : Value) (l : List Nat) : Prop := ∃ p cap, v = .slice p l.length cap ∧ ∀ (i x : Nat), l[i]? = some x → ∃ g o, p = some ⟨g, o, none⟩ ∧ W.cell? ⟨g, o + i, none⟩ = some (.int .i64 (x : Int))
theorem RowI.below {W W' : World} {v : Value} {l : List Nat} (h : RowI W v l) (hb : Below W.heap.size W W') : RowI W' v l := by
  obtain ⟨p, cap, hv, hx⟩ := h
  refine ⟨p, cap, hv, fun i x hi => ?_⟩
  obtain ⟨g, o, hp, hc⟩ := hx i x hi
  exact ⟨g, o, hp, (hb.cell (block_lt_of_cell hc)).trans hc⟩
def cellsN (l : List Nat) : List Value := l.map fun (x : Nat) => .int .i64 (x : Int)
theorem rowI_own {B : Nat} {W : World} {v : Value} {l : List Nat} (h : W.ownsRow B 3 1 v l.length (cellsN l)) : RowI W v l := by
  rcases Go.Joins.ownsRow_forms h with ⟨rfl, h0⟩ | ⟨g, cap, rfl⟩
  · rw [List.length_eq_zero_iff] at h0
    subst h0
    exact ⟨none, 0, rfl, fun i x hi => by simp at hi⟩
  · refine ⟨_, cap, rfl, fun i x hi => ⟨g, 0, rfl, ?_⟩⟩
    have hil := (List.getElem?_eq_some_iff.1 hi).1
    rw [Nat.zero_add, h.cellAt i (by omega)]
    unfold cellsN
    rw [List.getElem?_map, hi]; rfl
theorem rowI_one {W : World} {b x : Nat} (h : W.cell? ⟨b, 0, none⟩ = some (.int .i64 (x : Int))) : RowI W (.slice (some ⟨b, 0, none⟩) 1 1) [x] := by
  refine ⟨_, 1, rfl, fun i y hi => ⟨b, 0, rfl, ?_⟩⟩
  have hil := (List.getElem?_eq_some_iff.1 hi).1
  simp only [List.length_cons, List.length_nil] at hil
  obtain rfl : i = 0 := by omega
  simp only [List.getElem?_cons_zero, Option.some.injEq] at hi
  subst hi
  exact h
theorem sumW_take {u : Wv} {l : List Nat} {k x : Nat} (h : l[k]? = some x) : sumW u (l.take (k + 1)) = sumW u (l.take k) + niK u x := by
  rw [List.take_add_one, h]
  exact sumW_one u _ x
theorem sumW_take_range (u : Wv) (l : List Nat) (k : Nat) (h : l.length ≤ 12) : 0 ≤ sumW u (l.take k) ∧ sumW u (l.take k) ≤ 240 := by
  have h1 := sumW_range u (l.take k)
  have h2 : (l.take k).length ≤ l.length := by rw [List.length_take]; omega
  exact ⟨h1.1, by omega⟩
set_option maxRecDepth 100000 in
set_option maxHeartbeats 8000000 in
theorem weightsOf_any (pw : Nat) (u : Wv) (l : List Nat) (v : Value) (w : World) (hA : AtW w pw u) (hr : RowI w v l) (hl : l.length ≤ 12) (hm : ∀ x, x ∈ l → x < u.ts.length) :
    Calls Tryz.prog 76 #[ptr pw, v] w fun e w' => e = .returned (.int .i64 (sumW u l)) ∧ w' = w := by
  obtain ⟨p, cap, rfl, hx⟩ := hr
  unfold ptr
  have HX : Hid (∀ (i x : Nat), l[i]? = some x → ∃ g o, p = some ⟨g, o, none⟩ ∧ w.cell? ⟨g, o + i, none⟩ = some (.int .i64 (x : Int))) := hx
  have HA : Hid (AtW w pw u) := hA
  have HM : Hid (∀ x, x ∈ l → x < u.ts.length) := hm
  clear hx hA hm
  go_enter Tryz.func76, Tryz.ntmps76
  go_wp2
  go_loop [5, 10] (fun n t => ∃ k : Nat, k ≤ l.length ∧ n = .int .i64 (sumW u (l.take k)) ∧ t = .int .i64 (k : Int)) (fun _ t => l.length - (intOf t).toNat)
  case atStart => exact ⟨0, Nat.zero_le _, rfl, rfl⟩
  case round =>
    obtain ⟨k, hk, rfl, rfl⟩ := hrel
    obtain ⟨n, hn⟩ : ∃ n, sumW u (l.take k) = n := ⟨_, rfl⟩
    have hnr := sumW_take_range u l k hl
    rw [hn] at hnr ⊢
    have HN : Hid (sumW u (l.take k) = n) := hn
    clear hn
    by_cases hlt : k < l.length
    · have hlt' : (k : Int) < (l.length : Int) := by omega
      obtain ⟨x, hxk⟩ : ∃ x, l[k]? = some x := ⟨_, List.getElem?_eq_getElem hlt⟩
      obtain ⟨g, o, rfl, hc⟩ := HX.out k x hxk
      have hxl := HM.out x (List.mem_of_getElem? hxk)
      have hxl' : (x : Int) < (u.ts.length : Int) := by omega
      obtain ⟨e, he⟩ := row_get hxl
      obtain ⟨tg, to, tcap, m2, hrow, _, htl⟩ := HA.out.cellsT he
      obtain ⟨x0, x1, x2, x3, x4, x5, x6, x7, x8⟩ := tk_cells hrow
      have HS : Hid (sumW u (l.take (k + 1)) = n + wof e.ni) := by unfold Hid; rw [sumW_take hxk, HN.out, niK_at he]
      have hwr := wof_range e.ni
      have HLT : Hid (k < l.length) := hlt
      clear hrow he hxk hlt x0 x1 x2 x4 x5 x6 x7 x8
      go_wp2_with (go_at_call 120; refine (impl_wof _ _).mono ?_; rintro e1 V1 ⟨rfl, rfl⟩)
      exact ⟨⟨k + 1, HLT.out, by rw [HS.out] <;> go_num, by go_num⟩, by simp [intOf]; omega⟩
    · have hlt' : ¬ (k : Int) < (l.length : Int) := by omega
      have HS : Hid (sumW u l = n) := by unfold Hid; rw [← HN.out, List.take_of_length_le (by omega)]
      clear hlt
      go_wp2
      go_ret
      exact ⟨by rw [HS.out] <;> rfl, rfl⟩

theorem under_outs {ds : List Gr} (ht : treeB ds = true) (outer : Int) : ∀ (n g : Nat), (depB ds (g : Int)).toNat = n → g < 8 → usAt ds g = true → underD ds outer g = ((outs ds g).any (fun k => (k : Int) == outer) || outer == 0) := by
  intro n
  induction n with
  | zero =>
    intro g hn hg hu
    rcases tree_step ht hg hu with ⟨rfl, _⟩ | ⟨_, _, _, _, _, h2, h3, _⟩
    · rw [outs_root ht]
      by_cases h : outer = 0
      · rw [under_hit ds outer 0 (by rw [h]; rfl), h]; rfl
      · rw [under_root (by omega)]
        have : (outer == 0) = false := by simpa using h
        rw [this]; rfl
    · omega
  | succ n ih =>
    intro g hn hg hu
    rcases tree_step ht hg hu with ⟨rfl, hd⟩ | ⟨h0, j, hp, hj, huj, hd, hz, _⟩
    · rw [hd] at hn; cases hn
    · rw [outs_step h0 hp hd hz, List.any_cons]
      by_cases h : (g : Int) = outer
      · rw [under_hit _ _ _ h]
        have : ((g : Int) == outer) = true := by simpa using h
        rw [this]; rfl
      · have : ((g : Int) == outer) = false := by simpa using h
        rw [under_up h h0 hp hd hz, this, ih j (by omega) hj huj]; rfl
theorem under_yes {ds : List Gr} (ht : treeB ds = true) {outer : Int} {g x : Nat} (hg : g < 8) (hu : usAt ds g = true) (hx : x ∈ outs ds g) (h : (x : Int) = outer) : underD ds outer g = true := by
  rw [under_outs ht outer _ g rfl hg hu, Bool.or_eq_true]
  exact .inl (List.any_eq_true.2 ⟨x, hx, by simpa using h⟩)
theorem under_no {ds : List Gr} (ht : treeB ds = true) {outer : Int} {g : Nat} (hg : g < 8) (hu : usAt ds g = true) (h : ∀ x ∈ outs ds g, (x : Int) ≠ outer) : underD ds outer g = (outer == 0) := by
  rw [under_outs ht outer _ g rfl hg hu]
  have : (outs ds g).any (fun k => (k : Int) == outer) = false := by
    rw [List.any_eq_false]
    intro x hx
    have := h x hx
    simpa using this
  rw [this, Bool.false_or]
end Go.Proofs.YtnmmglkigiakaaaGreat
namespace Go.Proofs.YtnmmglkigiakaaaGreat
set_option linter.unusedVariables false
set_option linter.unusedSimpArgs false
open Go.ChangeShapes Go.WideShapes Go.ChangeAt Go.RowKit Go.Shelf Go.Sort
attribute [local go_sem] Oper.semAt_some

theorem blocks4 {w w1 : World} {A B C D : Obj} (h : ((((w.alloc A).alloc B).alloc C).alloc D) = w1) :
    w1.heap[w.heap.size]? = some A ∧ w1.heap.size = w.heap.size + 4 ∧ w1.heap[w.heap.size + 1]? = some B ∧ w1.heap[w.heap.size + 1 + 1]? = some C ∧ w1.heap[w.heap.size + 1 + 1 + 1]? = some D ∧ Below w.heap.size w w1 := by
  have nw : ∀ (v : World) (o : Obj) (n : Nat), v.heap.size = n → (v.alloc o).heap[n]? = some o := fun v o n e => by subst e; exact heap_alloc_new v o
  have od : ∀ (v : World) (o o' : Obj) (n : Nat), n < v.heap.size → v.heap[n]? = some o → (v.alloc o').heap[n]? = some o := fun v o o' n e h => (Below.heap_alloc v o' n e).trans h
  subst h
  refine ⟨?_, by simp, ?_, ?_, ?_, ?_⟩
  · exact od _ _ _ _ (by simp <;> omega) (od _ _ _ _ (by simp <;> omega) (od _ _ _ _ (by simp <;> omega) (nw _ _ _ rfl)))
  · exact od _ _ _ _ (by simp <;> omega) (od _ _ _ _ (by simp <;> omega) (nw _ _ _ (by simp)))
  · exact od _ _ _ _ (by simp <;> omega) (nw _ _ _ (by simp))
  · exact nw _ _ _ (by simp)
  · exact (((((Below.refl _ _).alloc (Nat.le_refl _) _).alloc (by simp) _).alloc (by simp; omega) _).alloc (by simp; omega) _)
set_option maxRecDepth 100000 in
set_option maxHeartbeats 16000000 in
theorem isUnder_any (pw : Nat) (outer : Int) (g : Nat) (u : Wv) (w : World) (hA : AtW w pw u) (ht : treeB (gsD u.gs) = true) (hg : g < 8) (hu : usAt (gsD u.gs) g = true) :
    Calls Tryz.prog 94 #[ptr pw, .int .i64 outer, .int .i64 (g : Int)] w fun e w' => e = .returned (.bool (underD (gsD u.gs) outer g)) ∧ Below w.heap.size w w' := by
  have mixed : Tryz.prog.follows Departure.mixedOrders = true := by kernel_rfl
  have hfn : ∀ f, Fence.wide.fn f := fun _ => trivial
  refine (callsIn_wide (n := 9)).1 ?_
  refine callsIn_of_wp_marks Tryz.func94 rfl trivial ?_ rfl
  unfold ptr
  simp only [Tryz.ntmps94, List.size_toArray, List.length_cons, List.length_nil, Nat.reduceAdd, Nat.reduceSub, Array.replicate_succ, Array.replicate_zero, List.push_toArray, List.append_toArray, List.nil_append, List.cons_append]
  gi_wp2_with (gi_at_call 132; refine (calls_fw (mk_outward pw (g : Int) _)).mono ?_; rintro e' w' ⟨rfl, rfl⟩; simp only [ptr])
  try simp only [World.size_alloc]
  obtain ⟨w1, hw1⟩ : ∃ w1, ((((w.alloc (.cells #[.int .i64 outer] 3)).alloc (.cells #[.bool false] 4)).alloc (.cells #[.pointer (some ⟨pw, 0, none⟩)] 51)).alloc (.cells #[.int .i64 (g : Int)] 3)) = w1 := ⟨_, rfl⟩
  obtain ⟨z0, z1, z2, z3, z4, z6⟩ := blocks4 hw1
  simp only [hw1]
  clear hw1
  refine range_own (xs := outs (gsD u.gs) g) (encs := encN) (gf := 167) (lb := #[ptr (w.heap.size + 1 + 1 + 1), ptr (w.heap.size + 1 + 1)]) (W0 := w) (G := fun W' => W'.cell? ⟨w.heap.size + 1 + 1 + 1, 0, none⟩ = some (.int .i64 (g : Int)) ∧ W'.cell? ⟨w.heap.size + 1 + 1, 0, none⟩ = some (.pointer (some ⟨pw, 0, none⟩)) ∧ GroupsAt W' pw u.z (gsD u.gs))
    (outward_gives pw (w.heap.size + 1 + 1) (w.heap.size + 1 + 1 + 1) u.z (gsD u.gs) g ht hg hu _ w (fun W' h => h)) (by omega) rfl (enters_of Tryz.func167 (by kernel_rfl) rfl) (fun _ => rfl)
    (fun pre W' => (∀ k ∈ pre, (k : Int) ≠ outer) ∧ W'.heap[w.heap.size]? = some (.cells #[.int .i64 outer] 3 (0, 0)) ∧ W'.heap[w.heap.size + 1]? = some (.cells #[.bool false] 4 (0, 0)) ∧ W'.heap[w.heap.size + 1 + 1]? = some (.cells #[.pointer (some ⟨pw, 0, none⟩)] 51 (0, 0)) ∧ IBox W' (w.heap.size + 1 + 1 + 1) (g : Int) ∧ Below w.heap.size w W')
    (fun cc pre W' => cc = .ret ∧ underD (gsD u.gs) outer g = true ∧ W'.heap[w.heap.size + 1]? = some (.cells #[.bool true] 4 (0, 0)) ∧ Below w.heap.size w W')
    (fun pre x a' W' => ((∀ k ∈ pre, (k : Int) ≠ outer) ∧ W'.heap[w.heap.size]? = some (.cells #[.int .i64 outer] 3 (0, 0)) ∧ W'.heap[w.heap.size + 1]? = some (.cells #[.bool false] 4 (0, 0)) ∧ W'.heap[w.heap.size + 1 + 1]? = some (.cells #[.pointer (some ⟨pw, 0, none⟩)] 51 (0, 0)) ∧ IBox W' (w.heap.size + 1 + 1 + 1) (g : Int) ∧ Below w.heap.size w W') ∧ a' = { tmps := #[ptr pw, .int .i64 outer, .int .i64 (g : Int), undef, ptr w.heap.size, undef, ptr (w.heap.size + 1), .int .i64 (x : Int), ptr pw, .int .i64 (g : Int), .func (.func 167) #[] #[ptr (w.heap.size + 1 + 1 + 1), ptr (w.heap.size + 1 + 1)], .int .i64 (x : Int), undef, undef, undef, undef, undef], defers := [] })
    (fun pre W' hi => ⟨hi.2.2.2.2.1.cell, (Msk.cell_of_box_l hi.2.2.2.1).1, (hA.below hi.2.2.2.2.2).groups⟩)
    ?hI ?hIx ?hA ⟨fun k hk => (by cases hk), z0, z2, z3, z4, z6⟩ ?hassign ?hbody ?hdone ?hstop
  case hI => exact OwnFrom.and (ownFrom_pure _ _) (OwnFrom.and (own_block _ _ _ rfl) (OwnFrom.and (own_block _ _ _ rfl) (OwnFrom.and (own_block _ _ _ rfl) (OwnFrom.and (own_block _ _ _ rfl) (ownFrom_below (Nat.le_refl _) (by omega))))))
  case hIx => exact fun cc => OwnFrom.and (ownFrom_pure _ _) (OwnFrom.and (ownFrom_pure _ _) (OwnFrom.and (own_block _ _ _ rfl) (ownFrom_below (Nat.le_refl _) (by omega))))
  case hA => exact fun pre x a' => OwnFrom.and (OwnFrom.and (ownFrom_pure _ _) (OwnFrom.and (own_block _ _ _ rfl) (OwnFrom.and (own_block _ _ _ rfl) (OwnFrom.and (own_block _ _ _ rfl) (OwnFrom.and (own_block _ _ _ rfl) (ownFrom_below (Nat.le_refl _) (by omega))))))) (ownFrom_pure _ _)
  case hassign =>
    intro l' pre x post W' hx hi
    unfold encN
    gi_wp2
    exact ⟨KeepsUp.refl _ _, hi, rfl⟩
  case hbody =>
    rintro l' pre x post a' W' hx hl' ⟨⟨hp, h1, h2, h3, h4, h6⟩, rfl⟩
    have hin : x ∈ outs (gsD u.gs) g := by rw [hx]; simp
    have c1 := (Msk.cell_of_box_l h1).1
    have c2 := (Msk.cell_of_box_l h2).1
    have f2 := (Msk.cell_of_box_l h2).2
    have HB : Hid (W'.heap[w.heap.size]? = some (.cells #[.int .i64 outer] 3 (0, 0)) ∧ W'.heap[w.heap.size + 1]? = some (.cells #[.bool false] 4 (0, 0)) ∧ W'.heap[w.heap.size + 1 + 1]? = some (.cells #[.pointer (some ⟨pw, 0, none⟩)] 51 (0, 0)) ∧ IBox W' (w.heap.size + 1 + 1 + 1) (g : Int) ∧ Below w.heap.size w W') := ⟨h1, h2, h3, h4, h6⟩
    have HP : Hid (∀ k ∈ pre, (k : Int) ≠ outer) := hp
    clear h1 h2 h3 h4 h6 hp hx z0 z2 z3 z4 z6
    unfold ptr
    by_cases hxo : (x : Int) = outer
    · have HU : Hid (underD (gsD u.gs) outer g = true) := under_yes ht hg hu hin hxo
      have hxb : ((x : Int) == outer) = true := by simpa using hxo
      gi_wp2
      obtain ⟨h1, h2, h3, h4, h6⟩ := HB.out
      exact ⟨KeepsUp.set _ _ _ (by omega), rfl, HU.out, (show Boxed _ _ _ _ from h2).set _, h6.setCell (p := ⟨w.heap.size + 1, 0, none⟩) (by simp) _⟩
    · have hxb : ((x : Int) == outer) = false := by simpa using hxo
      gi_wp2
      obtain ⟨h1, h2, h3, h4, h6⟩ := HB.out
      refine ⟨KeepsUp.refl _ _, fun k hk => ?_, h1, h2, h3, h4, h6⟩
      rcases List.mem_append.1 hk with hk | hk
      · exact HP.out k hk
      · obtain rfl : k = x := by simpa using hk
        exact hxo
  case hdone =>
    rintro D W' hD ⟨hp, h1, h2, h3, h4, h6⟩ hK
    have c1 := (Msk.cell_of_box_l h1).1
    have c2 := (Msk.cell_of_box_l h2).1
    have f2 := (Msk.cell_of_box_l h2).2
    have HP : Hid (underD (gsD u.gs) outer g = (outer == 0)) := under_no ht hg hu hp
    have hD' : w.heap.size ≤ D := by omega
    have hne : D ≠ w.heap.size + 1 := by omega
    have hK' : (W'.setCell ⟨w.heap.size + 1, 0, none⟩ (.bool (outer == 0))).heap[D]? = some (.deferred (some [])) := by rw [Deep.blk_setCell_other _ _ _ _ hne]; exact hK
    have hb' : Boxed ((W'.setCell ⟨w.heap.size + 1, 0, none⟩ (.bool (outer == 0))).putObj D (.deferred none)) (w.heap.size + 1) 4 (.bool (outer == 0)) := (World.putObj_heap_other (Ne.symm hne)).trans ((show Boxed _ _ _ _ from h2).set _)
    have hcr := hb'.cell
    clear hp h1 h2 h3 h4 z0 z2 z3 z4 z6
    gi_wp2
    refine ⟨by simp, .inl ⟨_, _, rfl, run_takeDeferred hK', ?_⟩⟩
    refine ⟨.bool (outer == 0), ?_, by rw [HP.out], (h6.setCell (p := ⟨w.heap.size + 1, 0, none⟩) (by simp) _).trans (belowK_b (w := w) (Nat.le_refl _) _ D _ _ hD' hK' rfl rfl)⟩
    simp [results, Tryz.f94, go_sem, hcr]
  case hstop =>
    rintro D cc pre W' hD ⟨rfl, hU, h3, h6⟩ hK
    have hD' : w.heap.size ≤ D := by omega
    have hne : D ≠ w.heap.size + 1 := by omega
    have HP : Hid (underD (gsD u.gs) outer g = true) := hU
    have hb' : Boxed (W'.putObj D (.deferred none)) (w.heap.size + 1) 4 (.bool true) := (World.putObj_heap_other (Ne.symm hne)).trans h3
    have hcr := hb'.cell
    clear hU h3 z0 z2 z3 z4 z6
    gi_wp2
    refine ⟨by simp, .inl ⟨_, _, rfl, run_takeDeferred hK, ?_⟩⟩
    refine ⟨.bool true, ?_, by rw [HP.out], h6.trans (belowK_b (w := w) (Nat.le_refl _) _ D _ _ hD' hK rfl rfl)⟩
    simp [results, Tryz.f94, go_sem, hcr]
end Go.Proofs.YtnmmglkigiakaaaGreat
namespace Go.Proofs.YtnmmglkigiakaaaGreat
set_option linter.unusedVariables false
set_option linter.unusedSimpArgs false
open Go.ChangeShapes Go.WideShapes Go.ChangeAt Go.RowKit Go.Shelf Go.Sort
attribute [local go_sem] Oper.semAt_some

theorem owns_keep {W W' : World} {base : Nat} {e : TypeId} {size : Nat} {v : Value} {n : Nat} {xs : List Value} (h : W.ownsRow base e size v n xs) (hb : Below W.heap.size W W') : W'.ownsRow base e size v n xs :=
  h.kept ⟨hb.os, hb.tape, hb.output, hb.size, fun k hk _ => hb.block k hk⟩ (row := none) (by cases v.ownBlock <;> simp)
theorem cellsN_app (l : List Nat) (k : Nat) : cellsN (l ++ [k]) = cellsN l ++ [.int .i64 (k : Int)] := by unfold cellsN; rw [List.map_append]; rfl
set_option maxRecDepth 100000 in
set_option maxHeartbeats 16000000 in
theorem inside_any (pw c : Nat) (g : Int) (u : Wv) (w : World) (hA : AtW w pw u) (hF : Fit u) (hTG : TGr u) :
    Calls Tryz.prog 59 #[qV pw (c : Int), .int .i64 g] w fun e w' => e = .returned (.int .i64 (insideN u g c)) ∧ Below w.heap.size w w' := by
  obtain ⟨i0, hi, hz0, hz1, hz2⟩ := info_parts info_int
  unfold qV ptr
  obtain ⟨W1, hW1⟩ : ∃ W1, w.alloc (.cells #[.pointer (some ⟨pw, 0, none⟩), .int .i64 (c : Int)] 53) = W1 := ⟨_, rfl⟩
  obtain ⟨B1, q0, q1, l1⟩ := boxed_q hW1
  obtain ⟨p1, c1, p2, c2, p3, c3, e1, e2, e3, hl1, hl2, hl3⟩ := slw_forms hA.2
  have hA1 := hA.below B1
  obtain ⟨HC, HTT, HCC, HGG⟩ := rows_at hA1 e1 e2 e3
  obtain ⟨o0, o1, o2, o3⟩ := HC.out _ (Below.refl _ _)
  have HL : Hid (u.ts.length = 12) := hF.nt
  have HB1 : Hid (Below w.heap.size w W1) := B1
  have HQ : Hid (∀ wr, Below W1.heap.size W1 wr → wr.cell? ⟨w.heap.size, 0, none⟩ = some (.pointer (some ⟨pw, 0, none⟩)) ∧ wr.cell? ⟨w.heap.size, 1, none⟩ = some (.int .i64 (c : Int))) := fun wr hb => ⟨(hb.cell (p := ⟨w.heap.size, 0, none⟩) l1).trans q0, (hb.cell (p := ⟨w.heap.size, 1, none⟩) l1).trans q1⟩
  have HI : Hid (∀ (k : Nat) (e : Tk), u.ts[k]? = some e → ∀ W, Below W1.heap.size W1 W → Calls Tryz.prog 94 #[.pointer (some ⟨pw, 0, none⟩), .int .i64 g, .int .i64 e.gr] W fun e' w' => e' = .returned (.bool (underD (gsD u.gs) g e.gr.toNat)) ∧ Below W.heap.size W w') := by
    intro k e he W hW
    obtain ⟨j, hj, hj8, huj⟩ := hTG k e he
    have h0 := isUnder_any pw g j u W (hA1.below hW) hF.tree hj8 huj
    rw [hj, Int.toNat_natCast]; exact h0
  have HAW : Hid (∀ W, Below W1.heap.size W1 W → AtW W pw u) := fun W h => hA1.below h
  clear hA hA1 e1 e2 e3 hF hTG B1
  go_enter Tryz.func59, Tryz.ntmps59
  go_wp2
  clear o0 o1 o2 o3 q0 q1
  go_loopw [5, 14] (fun x t wr => ∃ (k : Nat) (v : Value), k ≤ u.ts.length ∧ v = x ∧ t = .int .i64 (k : Int) ∧ wr.ownsRow W1.heap.size 3 1 v (pickTo (inB u g c) k).length (cellsN (pickTo (inB u g c) k)) ∧ Below W1.heap.size W1 wr) (fun _ t _ => u.ts.length - (intOf t).toNat)
  case atStart => exact ⟨0, _, Nat.zero_le _, rfl, rfl, World.ownsRow_nil _ _ _ _, Below.refl _ _⟩
  case round =>
    obtain ⟨k, v, hk, rfl, rfl, hown, hb⟩ := hrel
    have hk12 : (k : Int) ≤ 12 := by have := HL.out; omega
    obtain ⟨o0, o1, o2, o3⟩ := HC.out _ hb
    obtain ⟨q0, q1⟩ := HQ.out _ hb
    have lw : w.heap.size < wr.heap.size := Nat.lt_of_lt_of_le l1 hb.size
    by_cases hlt : k < u.ts.length
    · have hlt' : (k : Int) < (u.ts.length : Int) := by omega
      obtain ⟨e, he⟩ := row_get hlt
      obtain ⟨tg, to, rfl, hr, ltg⟩ := HTT.out _ k e hb he
      obtain ⟨x0, x1, x2, x3, x4, x5, x6, x7, x8⟩ := tk_cells hr
      clear hr
      have HE : Hid (u.ts[k]? = some e) := he
      have HLT : Hid (k < u.ts.length) := hlt
      have HLN : Hid ((pickTo (inB u g c) k).length ≤ 12) := by have := pickTo_len (inB u g c) k; unfold Hid; omega
      have HNO : Hid (inB u g c k = false → pickTo (inB u g c) (k + 1) = pickTo (inB u g c) k) := fun h => pickTo_no h
      have HB2 : Hid (∀ A, Below W1.heap.size W1 (wr.alloc A)) := fun A => hb.alloc hb.size A
      have HOW : Hid (wr.ownsRow W1.heap.size 3 1 v (pickTo (inB u g c) k).length (cellsN (pickTo (inB u g c) k))) := hown
      have HQ0 : Hid (∀ A, (wr.alloc A).cell? ⟨w.heap.size, 0, none⟩ = some (.pointer (some ⟨pw, 0, none⟩)) ∧ (wr.alloc A).cell? ⟨w.heap.size, 1, none⟩ = some (.int .i64 (c : Int))) := fun A => HQ.out _ (hb.alloc hb.size A)
      clear he hlt hown
      by_cases s1 : e.st = 1
      · rw [s1] at x0
        by_cases s2 : e.cpu = (c : Int)
        · have hq := HI.out k e HE.out
          rw [s2] at x2
          cases hln : underD (gsD u.gs) g e.gr.toNat
          · have HX : Hid (pickTo (inB u g c) (k + 1) = pickTo (inB u g c) k) := HNO.out (by rw [inB_at HE.out, hln]; simp)
            rw [hln] at hq
            clear hln s1 s2
            go_wp2_with (go_at_call 94; refine (hq _ (HB2.out _)).mono ?_; rintro e1 V1 ⟨rfl, hb1⟩)
            exact ⟨⟨k + 1, _, HLT.out, rfl, by go_num, by rw [HX.out]; exact owns_keep (HOW.out.alloc _) hb1, (HB2.out _).trans (hb1.mono (HB2.out _).size)⟩, by simp [intOf]; omega⟩
          · have HX : Hid (pickTo (inB u g c) (k + 1) = pickTo (inB u g c) k ++ [k]) := pickTo_yes (by rw [inB_at HE.out, hln, s1, s2]; simp)
            rw [hln] at hq
            have hmx : (pickTo (inB u g c) k).length + 1 ≤ maxLen := by have := HLN.out; unfold maxLen; omega
            have hb8 : ((pickTo (inB u g c) k).length + 1) * 8 ≤ 140737488355328 := by have := HLN.out; omega
            clear hln s1 s2
            go_wp2_with (first | (go_at_call 94; refine (hq _ (HB2.out _)).mono ?_; rintro e1 V1 ⟨rfl, hb1⟩; have hbx := (HB2.out _).trans (hb1.mono (HB2.out _).size); have hownV := owns_keep (HOW.out.alloc _) hb1) | (at_builtin; (refine wpList_append_own _ rfl _ _ 78 rfl W1.heap.size 3 i0 _ 1 8 Tryz.underlying78 hi hz0 hz1 hz2 rfl (by decide) _ _ _ rfl (hownV.alloc _) ⟨V1.heap.size, 0, none⟩ 1 1 [.int .i64 (k : Int)] rfl rfl (cell_one_new _ _ _) (fun x hx => by simp at hx; subst hx; rfl) hmx hb8 (by have := hbx.size; simp; omega) ?_); intro v' w3 hown' hgrow3 hnil3))
            refine ⟨⟨k + 1, _, HLT.out, rfl, by go_num, ?_, ?_⟩, by simp [intOf]; omega⟩
            · rw [HX.out, cellsN_app, List.length_append]
              exact hown'
            · exact (hbx.alloc hbx.size _).grown hgrow3 (by have := hbx.size; simp; omega) (fun j hj => (hownV.lt j hj).1)
        · have HX : Hid (pickTo (inB u g c) (k + 1) = pickTo (inB u g c) k) := HNO.out (by rw [inB_at HE.out, decide_eq_false s2]; simp)
          clear s1
          go_wp2
          exact ⟨⟨k + 1, _, HLT.out, rfl, by go_num, by rw [HX.out]; exact HOW.out.alloc _, HB2.out _⟩, by simp [intOf]; omega⟩
      · have HX : Hid (pickTo (inB u g c) (k + 1) = pickTo (inB u g c) k) := HNO.out (by rw [inB_at HE.out, decide_eq_false s1]; rfl)
        go_wp2
        exact ⟨⟨k + 1, _, HLT.out, rfl, by go_num, by rw [HX.out]; exact HOW.out.alloc _, HB2.out _⟩, by simp [intOf]; omega⟩
    · have hlt' : ¬ (k : Int) < (u.ts.length : Int) := by omega
      have hkk : k = u.ts.length := by omega
      have HRI : Hid (RowI wr v (pickTo (inB u g c) u.ts.length)) := by rw [hkk] at hown; exact rowI_own hown
      have HLN : Hid ((pickTo (inB u g c) u.ts.length).length ≤ 12) := by have := pickTo_len (inB u g c) u.ts.length; have := HL.out; unfold Hid; omega
      have HAT : Hid (AtW wr pw u) := HAW.out wr hb
      clear hlt hkk hown
      go_wp2_with (go_at_call 76; refine (weightsOf_any pw u _ _ _ HAT.out HRI.out HLN.out (fun x hx => (pickTo_mem hx).1)).mono ?_; rintro e1 V1 ⟨rfl, rfl⟩)
      go_ret
      exact ⟨rfl, HB1.out.trans (hb.mono HB1.out.size)⟩
end Go.Proofs.YtnmmglkigiakaaaGreat
namespace Go.Proofs.YtnmmglkigiakaaaGreat
set_option linter.unusedVariables false
set_option linter.unusedSimpArgs false
open Go.ChangeShapes Go.WideShapes Go.ChangeAt Go.RowKit Go.Shelf Go.Sort
attribute [local go_sem] Oper.semAt_some
set_option maxRecDepth 100000 in
set_option maxHeartbeats 16000000 in
theorem share_any (pw c g : Nat) (u : Wv) (w : World) (hA : AtW w pw u) (hF : Fit u) (hTG : TGr u) (hg : g < u.gs.length) (hwe : 1 ≤ weAt u g ∧ weAt u g ≤ 20) (hc : c < u.cs.length) :
    Calls Tryz.prog 61 #[qV pw (c : Int), .int .i64 (g : Int)] w fun e w' => e = .returned (.int .i64 (shareN u g c)) ∧ Below w.heap.size w w' := by
  unfold qV ptr
  obtain ⟨W1, hW1⟩ : ∃ W1, w.alloc (.cells #[.pointer (some ⟨pw, 0, none⟩), .int .i64 (c : Int)] 53) = W1 := ⟨_, rfl⟩
  obtain ⟨B1, q0, q1, l1⟩ := boxed_q hW1
  obtain ⟨p1, c1, p2, c2, p3, c3, e1, e2, e3, hl1, hl2, hl3⟩ := slw_forms hA.2
  have hA1 := hA.below B1
  obtain ⟨HC, HTT, HCC, HGG⟩ := rows_at hA1 e1 e2 e3
  obtain ⟨o0, o1, o2, o3⟩ := HC.out _ (Below.refl _ _)
  have HL : Hid (u.ts.length = 12) := hF.nt
  have hn4 := hF.n4
  have HB1 : Hid (Below w.heap.size w W1) := B1
  have HQ : Hid (∀ wr, Below W1.heap.size W1 wr → wr.cell? ⟨w.heap.size, 0, none⟩ = some (.pointer (some ⟨pw, 0, none⟩)) ∧ wr.cell? ⟨w.heap.size, 1, none⟩ = some (.int .i64 (c : Int))) := fun wr hb => ⟨(hb.cell (p := ⟨w.heap.size, 0, none⟩) l1).trans q0, (hb.cell (p := ⟨w.heap.size, 1, none⟩) l1).trans q1⟩
  have HI : Hid (∀ (j : Nat) W, Below W1.heap.size W1 W → Calls Tryz.prog 59 #[.agg #[.pointer (some ⟨pw, 0, none⟩), .int .i64 (j : Int)], .int .i64 (g : Int)] W fun e' w' => e' = .returned (.int .i64 (insideN u (g : Int) j)) ∧ Below W.heap.size W w') := by
    intro j W hW
    exact inside_any pw j (g : Int) u W (hA1.below hW) hF hTG
  clear hA hA1 e1 e2 e3 hF hTG B1
  obtain ⟨eg, heg⟩ := row_get hg
  have hweg : weAt u g = eg.d.we := by unfold weAt; rw [heg]; rfl
  rw [hweg] at hwe
  have HWE : Hid (weAt u g = eg.d.we) := hweg
  have HEG : Hid (u.gs[g]? = some eg) := heg
  have hg' : (g : Int) < (u.gs.length : Int) := by omega
  clear hweg heg
  go_enter Tryz.func61, Tryz.ntmps61
  go_wp2
  clear o0 o1 o2 o3 q0 q1
  go_loopw [5, 14] (fun x t wr => ∃ (k : Nat), k ≤ u.cs.length ∧ x = .int .i64 (allTo u (g : Int) k) ∧ t = .int .i64 (k : Int) ∧ Below W1.heap.size W1 wr) (fun _ t _ => u.cs.length - (intOf t).toNat)
  case atStart => exact ⟨0, Nat.zero_le _, rfl, rfl, Below.refl _ _⟩
  case round =>
    obtain ⟨k, hk, rfl, rfl, hb⟩ := hrel
    obtain ⟨n, hn⟩ : ∃ n, allTo u (g : Int) k = n := ⟨_, rfl⟩
    have hnr := allTo_range HL.out (g : Int) k
    rw [hn] at hnr ⊢
    have hnr' : 0 ≤ n ∧ n ≤ 960 := by omega
    have HN : Hid (allTo u (g : Int) k = n) := hn
    obtain ⟨o0, o1, o2, o3⟩ := HC.out _ hb
    obtain ⟨q0, q1⟩ := HQ.out _ hb
    have lw : w.heap.size < wr.heap.size := Nat.lt_of_lt_of_le l1 hb.size
    clear hn hnr
    by_cases hlt : k < u.cs.length
    · have hlt' : (k : Int) < (u.cs.length : Int) := by omega
      obtain ⟨m, hm⟩ : ∃ m, insideN u (g : Int) k = m := ⟨_, rfl⟩
      have hmr := inside_range HL.out (g : Int) k
      rw [hm] at hmr
      have HX : Hid (allTo u (g : Int) (k + 1) = n + m) := by unfold Hid; simp only [allTo]; rw [HN.out, hm]
      have HLT : Hid (k < u.cs.length) := hlt
      have hq := HI.out k
      rw [hm] at hq
      clear hlt hm
      go_wp2_with (first | (go_at_call 58; refine (mk_queues pw (k : Int) _).mono ?_; unfold qV ptr; rintro e1 V1 ⟨rfl, hb1⟩; have hbx := hb.trans (hb1.mono hb.size)) | (go_at_call 59; refine (hq _ hbx).mono ?_; rintro e2 V2 ⟨rfl, hb2⟩))
      exact ⟨⟨k + 1, HLT.out, by rw [HX.out] <;> go_num, by go_num, hbx.trans (hb2.mono hbx.size)⟩, by simp [intOf]; omega⟩
    · have hlt' : ¬ (k : Int) < (u.cs.length : Int) := by omega
      have HA : Hid (allTo u (g : Int) u.cs.length = n) := by unfold Hid; rw [show u.cs.length = k by omega]; exact HN.out
      obtain ⟨tg, to, rfl, hr, ltg⟩ := HGG.out _ g eg hb HEG.out
      obtain ⟨y0, y1, y2, y3, y4, y5, y6, y7, y8, y9, y10, y11, y12, y13⟩ := gv_cells hr
      clear hr hlt y0 y1 y2 y4 y5 y6 y7 y8 y9 y10 y11 y12 y13
      by_cases h0 : n = 0
      · have HS : Hid (shareN u g c = eg.d.we) := by unfold Hid shareN; rw [HA.out, if_pos h0, HWE.out]
        subst h0
        go_wp2
        go_ret
        exact ⟨by rw [HS.out] <;> rfl, HB1.out.trans (hb.mono HB1.out.size)⟩
      · obtain ⟨m, hm⟩ : ∃ m, insideN u (g : Int) c = m := ⟨_, rfl⟩
        have hmr := inside_range HL.out (g : Int) c
        rw [hm] at hmr
        have HS : Hid (shareN u g c = mx1 (eg.d.we * m / n)) := by unfold Hid shareN; rw [HA.out, if_neg h0, HWE.out, hm]
        have hq := HI.out c
        rw [hm] at hq
        have hnz : (n == 0) = false := by simpa using h0
        have hn1 : 1 ≤ n := by omega
        have hmul : 0 ≤ eg.d.we * m ∧ eg.d.we * m ≤ 4800 := by
          have a := Int.mul_nonneg (by omega : 0 ≤ eg.d.we) hmr.1
          have b := Int.mul_le_mul hwe.2 hmr.2 hmr.1 (by omega)
          omega
        clear hm h0
        by_cases hx : eg.d.we * m / n > 1
        · have HS2 : Hid (shareN u g c = eg.d.we * m / n) := by unfold Hid; rw [HS.out]; unfold mx1; rw [if_neg (by omega)]
          go_wp2_with (go_at_call 59; refine (hq _ hb).mono ?_; rintro e2 V2 ⟨rfl, hb2⟩)
          go_ret
          exact ⟨by rw [HS2.out] <;> rfl, HB1.out.trans ((hb.trans (hb2.mono hb.size)).mono HB1.out.size)⟩
        · have HS2 : Hid (shareN u g c = 1) := by unfold Hid; rw [HS.out, ← mx1_alt, if_neg hx]
          go_wp2_with (go_at_call 59; refine (hq _ hb).mono ?_; rintro e2 V2 ⟨rfl, hb2⟩)
          go_ret
          exact ⟨by rw [HS2.out] <;> rfl, HB1.out.trans ((hb.trans (hb2.mono hb.size)).mono HB1.out.size)⟩
end Go.Proofs.YtnmmglkigiakaaaGreat
