/- The program's furthestBehind, and QueuePick. -/
import Derived.Test.YtbifcjfjenpmnaaQHW
import Derived.Laws.EntriesVeiled
namespace Go.Proofs.Ytbifcjfjenpmnaa
open Go.ChangeShapes Go.WideShapes Go.ChangeAt Go.RowKit

/-- who is ready with the least virtual time: what the specification's loop finds. -/
theorem leastTo_is (es : List Ent) (k : Nat) : (leastTo es k = -1 ∧ ∀ i, i < k → onAt es i = false) ∨
    (0 ≤ leastTo es k ∧ leastTo es k < k ∧ onAt es (leastTo es k).toNat = true ∧ ∀ i, i < k → onAt es i = true → vAt es (leastTo es k).toNat < vAt es i ∨ (vAt es (leastTo es k).toNat = vAt es i ∧ leastTo es k ≤ (i : Int))) := by
  induction k with
  | zero => exact .inl ⟨rfl, fun i hi => by omega⟩
  | succ k ih =>
    have e : leastTo es (k + 1) = if (onAt es k && (decide (leastTo es k < 0) || decide (vAt es k < vAt es (leastTo es k).toNat))) = true then (k : Int) else leastTo es k := rfl
    rw [e]
    by_cases hon : onAt es k = true
    · rw [hon]
      rcases ih with ⟨h1, h2⟩ | ⟨h1, h2, h3, h4⟩
      · rw [h1]
        right
        simp only [Bool.true_and, show decide ((-1 : Int) < 0) = true from rfl, Bool.true_or, if_true]
        refine ⟨by omega, by omega, by simpa using hon, ?_⟩
        intro i hi hi2
        by_cases hik : i = k
        · subst hik; right; simp
        · rw [h2 i (by omega)] at hi2; cases hi2
      · right
        by_cases hv : vAt es k < vAt es (leastTo es k).toNat
        · rw [decide_eq_true hv, Bool.or_true, Bool.true_and, if_pos rfl]
          refine ⟨by omega, by omega, by simpa using hon, ?_⟩
          intro i hi hi2
          by_cases hik : i = k
          · subst hik; right; simp
          · rcases h4 i (by omega) hi2 with h | h
            · left; simp; omega
            · left; simp; omega
        · have hlt : ¬ leastTo es k < 0 := by omega
          rw [decide_eq_false hv, decide_eq_false hlt]
          simp only [Bool.or_false, Bool.true_and, Bool.false_eq_true, if_false]
          refine ⟨h1, by omega, h3, ?_⟩
          intro i hi hi2
          by_cases hik : i = k
          · subst hik
            by_cases hq : vAt es (leastTo es i).toNat = vAt es i
            · right; omega
            · left; omega
          · exact h4 i (by omega) hi2
    · have hon' : onAt es k = false := by simpa using hon
      rw [hon']
      simp only [Bool.false_and, Bool.false_eq_true, if_false]
      rcases ih with ⟨h1, h2⟩ | ⟨h1, h2, h3, h4⟩
      · left
        refine ⟨h1, fun i hi => ?_⟩
        by_cases hik : i = k
        · subst hik; exact hon'
        · exact h2 i (by omega)
      · right
        refine ⟨h1, by omega, h3, ?_⟩
        intro i hi hi2
        by_cases hik : i = k
        · subst hik; rw [hon'] at hi2; cases hi2
        · exact h4 i (by omega) hi2
/-- the waiters among the first k entries. -/
def Waits (es : List Ent) (k : Nat) (l : List Wt) : Prop := ∀ y, y ∈ l ↔ ∃ i : Nat, i < k ∧ onAt es i = true ∧ y = ⟨vAt es i, (i : Int)⟩
theorem Waits.nil (es : List Ent) : Waits es 0 [] := by
  intro y; constructor
  · intro h; cases h
  · rintro ⟨i, hi, _⟩; omega
theorem Waits.on {es : List Ent} {k : Nat} {l l' : List Wt} (h : Waits es k l) (hon : onAt es k = true) (hl : ∀ y, y ∈ l' ↔ y ∈ l ∨ y = ⟨vAt es k, (k : Int)⟩) : Waits es (k + 1) l' := by
  intro y
  rw [hl, h]
  constructor
  · rintro (⟨i, h1, h2, h3⟩ | rfl)
    · exact ⟨i, by omega, h2, h3⟩
    · exact ⟨k, by omega, hon, rfl⟩
  · rintro ⟨i, h1, h2, h3⟩
    by_cases hik : i = k
    · subst hik; exact .inr h3
    · exact .inl ⟨i, by omega, h2, h3⟩
theorem Waits.off {es : List Ent} {k : Nat} {l : List Wt} (h : Waits es k l) (hon : onAt es k = false) : Waits es (k + 1) l := by
  intro y
  rw [h]
  constructor
  · rintro ⟨i, h1, h2, h3⟩; exact ⟨i, by omega, h2, h3⟩
  · rintro ⟨i, h1, h2, h3⟩
    by_cases hik : i = k
    · subst hik; rw [hon] at h2; cases h2
    · exact ⟨i, by omega, h2, h3⟩
theorem Waits.none {es : List Ent} {k : Nat} (h : Waits es k []) : leastTo es k = -1 := by
  rcases leastTo_is es k with ⟨h1, _⟩ | ⟨h1, h2, h3, _⟩
  · exact h1
  · exfalso
    have := (h ⟨vAt es (leastTo es k).toNat, ((leastTo es k).toNat : Int)⟩).2 ⟨(leastTo es k).toNat, by omega, h3, rfl⟩
    cases this
theorem Waits.least {es : List Ent} {k : Nat} {l : List Wt} {r : Wt} (h : Waits es k l) (hm : MinRoot l) (hr : l[0]? = some r) : 0 ≤ leastTo es k ∧ r.p = leastTo es k ∧ r.v = vAt es (leastTo es k).toNat := by
  obtain ⟨i, h1, h2, rfl⟩ := (h r).1 (List.mem_of_getElem? hr)
  rcases leastTo_is es k with ⟨_, h4⟩ | ⟨h4, h5, h6, h7⟩
  · rw [h4 i h1] at h2; cases h2
  · have hmem := (h ⟨vAt es (leastTo es k).toNat, ((leastTo es k).toNat : Int)⟩).2 ⟨(leastTo es k).toNat, by omega, h6, rfl⟩
    have hnb := hm _ hr _ hmem
    have h8 := h7 i h1 h2
    unfold Bef at hnb
    dsimp only at hnb ⊢
    refine ⟨h4, by omega, by omega⟩

/-- what furthestBehind answers. -/
def firstW (es : List Ent) : Wt := if 0 ≤ least es then ⟨vAt es (least es).toNat, least es⟩ else ⟨0, 0⟩
def someW (es : List Ent) : Bool := decide (0 ≤ least es)

set_option maxRecDepth 100000 in
set_option maxHeartbeats 4000000 in
theorem top_any (l : List Wt) (v : Value) (hb B : Nat) (w : World) (hbx : HeapBox w hb v) (hown : w.ownsRow B 94 2 v l.length (flat l)) (hlen : l.length ≤ 20) :
    Calls Try.prog 92 #[.pointer (some ⟨hb, 0, none⟩)] w fun e w' => Below w.heap.size w w' ∧
      ((l = [] ∧ e = .returned (.tuple #[wtV ⟨0, 0⟩, .bool false])) ∨ ∃ r, l[0]? = some r ∧ e = .returned (.tuple #[wtV r, .bool true])) := by
  obtain ⟨c0, c1, c2⟩ := hbx.cells
  have hlt : hb < w.heap.size := (Array.getElem?_eq_some_iff.1 hbx).1
  have n1 : hb ≠ w.heap.size := by omega
  have n2 : w.heap.size ≠ hb := by omega
  have hB1 : ∀ A, Below w.heap.size w (w.alloc A) := fun A => (Below.refl _ _).alloc (Nat.le_refl _) _
  unfold wtV
  rcases hown.2 with ⟨h1, h2⟩ | ⟨g, cap, cur, h1, h2, h3, h4, h5, h6, h7⟩
  · obtain rfl : l = [] := List.length_eq_zero_iff.1 h2
    rw [h1] at c1
    clear h1 hlen h2 hbx hown
    go_enter Try.func92, Try.ntmps92
    go_wp2
    go_returns
    exact ⟨(hB1 _).alloc (by simp) _, .inl ⟨trivial, rfl⟩⟩
  · have hg : g < w.heap.size := (Array.getElem?_eq_some_iff.1 h3).1
    have n3 : g ≠ w.heap.size := by omega
    rw [h1] at c1 hown
    cases l with
    | nil =>
      clear hbx
      go_enter Try.func92, Try.ntmps92
      go_wp2
      go_returns
      exact ⟨(hB1 _).alloc (by simp) _, .inl ⟨trivial, rfl⟩⟩
    | cons r l =>
      obtain ⟨x0, _⟩ := owns_there hown (k := 0) rfl
      obtain ⟨x1, _⟩ := owns_there hown (k := 1) rfl
      clear hbx h7
      go_enter Try.func92, Try.ntmps92
      go_wp2
      go_returns
      exact ⟨hB1 _, .inr ⟨r, rfl, rfl⟩⟩

theorem box_alloc {w : World} {A : Obj} {hb : Nat} {v : Value} (h : HeapBox w hb v) : HeapBox (w.alloc A) hb v := by
  have hlt : hb < w.heap.size := (Array.getElem?_eq_some_iff.1 h).1
  exact (((Below.refl _ w).alloc (Nat.le_refl _) A).block hb hlt).trans h
theorem wbox {w : World} {b : Nat} {x y : Value} {t : TypeId} (h : w.heap[b]? = some (.cells #[x, y] t (0, 0))) : w.cell? ⟨b, 0, none⟩ = some x ∧ w.cell? ⟨b, 1, none⟩ = some y := by
  constructor <;> simp [World.cell?, h]
theorem wboxf {w : World} {b : Nat} {x y : Value} {t : TypeId} (h : w.heap[b]? = some (.cells #[x, y] t (0, 0))) : w.frozen? ⟨b, 0, none⟩ = false ∧ w.frozen? ⟨b, 1, none⟩ = false := by
  constructor <;> simp [World.frozen?, h]
theorem results_mid2 {P : Program} {fn : Func} {p r : Tmp} {ty : TypeId} (h : fn.results = #[.cell p ty, .tmp r]) (tmps : Array Value) (w : World) (b o : Nat) (cs : List Value) (d : TypeDesc)
    (hp : tmps.getD p undef = .pointer (some ⟨b, o, none⟩)) (hc : w.rangeAt b o cs)
    (hu : P.underlying ty = some d) (hd : d.isRow = true) (hi : (P.info? ty).map (·.size) = some cs.length) :
    (results fn tmps).run P w = .ok (.tuple #[.agg cs.toArray, tmps.getD r undef]) w := by
  have hp' : tmps[p]?.getD undef = .pointer (some ⟨b, o, none⟩) := by simpa using hp
  simp [results, h, hp', asAddr, run_loadVar_mid w b o ty cs d hc hu hd hi]
theorem info_wt2 : (Try.prog.info? 94).map (·.size) = some 2 := by kernel_rfl
theorem two_there {w : World} {b : Nat} {x y : Value} {t : TypeId} (h : w.heap[b]? = some (.cells #[x, y] t (0, 0))) : w.there b 0 2 := by
  intro j hj
  obtain ⟨h0, h1⟩ := wbox h
  obtain ⟨f0, f1⟩ := wboxf h
  match j, hj with
  | 0, _ => exact ⟨by rw [h0]; rfl, f0⟩
  | 1, _ => exact ⟨by rw [h1]; rfl, f1⟩
theorem range_two {W : World} {b : Nat} {x y : Value} (h : W.there b 0 2) : ((W.setCell ⟨b, 0, none⟩ x).setCell ⟨b, 1, none⟩ y).rangeAt b 0 [x, y] := World.rangeAt_setCells_same W b 0 [x, y] h
theorem top_cases {es : List Ent} {k : Nat} {l : List Wt} {e : Ending} (hw : Waits es k l) (hm : MinRoot l) (hl : leastTo es k = least es)
    (h : (l = [] ∧ e = .returned (.tuple #[wtV ⟨0, 0⟩, .bool false])) ∨ ∃ r, l[0]? = some r ∧ e = .returned (.tuple #[wtV r, .bool true])) :
    ∃ R b, e = .returned (.tuple #[wtV R, .bool b]) ∧ R = firstW es ∧ b = someW es := by
  rcases h with ⟨h1, h2⟩ | ⟨r, h1, h2⟩
  · subst h1
    have := hw.none
    rw [hl] at this
    refine ⟨_, _, h2, ?_, ?_⟩
    · unfold firstW; rw [if_neg (by omega)]
    · unfold someW; rw [decide_eq_false (by omega)]
  · obtain ⟨h3, h4, h5⟩ := hw.least hm h1
    rw [hl] at h3 h4 h5
    refine ⟨_, _, h2, ?_, ?_⟩
    · unfold firstW; rw [if_pos h3]
      obtain ⟨rv, rp⟩ := r
      dsimp only at h4 h5
      rw [h4, h5]
    · unfold someW; rw [decide_eq_true h3]
set_option maxRecDepth 100000 in
set_option maxHeartbeats 4000000 in
theorem furthest_any (sl : Value) (es : List Ent) (w : World) (hs : SlE w sl es) (hn : es.length ≤ 20) :
    Calls Try.prog 74 #[sl] w fun e w' => e = .returned (.tuple #[wtV (firstW es), .bool (someW es)]) ∧ Below w.heap.size w w' := by
  obtain ⟨a, cap, rfl⟩ : ∃ a cap, sl = .slice a es.length cap := by
    rcases hs with ⟨h0, a, cap, rfl⟩ | ⟨g, o, cap, rfl, _⟩
    · exact ⟨a, cap, by rw [h0]; rfl⟩
    · exact ⟨_, cap, rfl⟩
  have HS : Hid (SlE w (.slice a es.length cap) es) := hs
  clear hs
  go_enter Try.func74, Try.ntmps74
  go_wp2
  go_loopw [10] (fun i wr => ∃ (k : Nat) (l : List Wt) (v : Value), k ≤ es.length ∧ i = .int .i64 k ∧ Waits es k l ∧ MinRoot l ∧ l.length ≤ k ∧ wr.ownsRow (w.heap.size + 1) 94 2 v l.length (flat l) ∧ v.ownBlock ≠ some (w.heap.size + 1) ∧ HeapBox wr (w.heap.size + 1) v ∧ Below w.heap.size w wr ∧ wr.heap[w.heap.size]? = some (.cells #[.int .i64 0, .int .i64 0] 94 (0, 0))) (fun i _ => es.length - (intOf i).toNat)
  case atStart => exact ⟨0, [], .slice none 0 0, by omega, rfl, Waits.nil es, (fun r h => by cases h), by simp, World.ownsRow_nil _ _ _ _, by simp [Value.ownBlock], heap_alloc2_new _ _ _, ((Below.refl _ _).alloc (Nat.le_refl _) _).alloc (by simp) _, heap_alloc2_old _ _ _⟩
  case round =>
    obtain ⟨k, l, v, hk, rfl, hw, hmin, hlk, hown, hne, hbx, acc, hbr⟩ := hrel
    have hsz : w.heap.size + 1 < wr.heap.size := (Array.getElem?_eq_some_iff.1 hbx).1
    by_cases hlt : k < es.length
    · have hlt' : (k : Int) < (es.length : Int) := by omega
      obtain ⟨e, he, ho, hv⟩ := ent_get hlt
      obtain ⟨g, o, rfl, hE⟩ : ∃ g o, a = some ⟨g, o, none⟩ ∧ EntAt w g o es := by
        rcases HS.out with ⟨h0, _⟩ | ⟨g, o, cap', h1, h2, _⟩
        · rw [h0] at hlt; simp at hlt
        · injection h1 with h1 _ _
          exact ⟨g, o, h1, h2⟩
      have hE' : EntAt wr g o es := by
        intro i e' he'
        obtain ⟨h1, h2, h3, h4⟩ := hE i e' he'
        exact ⟨(acc.cell (block_lt_of_cell h1)).trans h1, (acc.cell (block_lt_of_cell h2)).trans h2, (acc.cell (block_lt_of_cell h3)).trans h3, (acc.cell (block_lt_of_cell h4)).trans h4⟩
      obtain ⟨x0, x1, x2, x3⟩ := hE' k e he
      by_cases hon : e.on = true
      · rw [hon] at x0 ho
        have HW : Hid (∀ l', (∀ y, y ∈ l' ↔ y ∈ l ∨ y = ⟨e.v, (k : Int)⟩) → Waits es (k + 1) l') := fun l' hl' => hw.on ho (by rw [hv]; exact hl')
        have HBX : Hid (HeapBox wr (w.heap.size + 1) v) := hbx
        have HBR : Hid (wr.heap[w.heap.size]? = some (.cells #[.int .i64 0, .int .i64 0] 94 (0, 0))) := hbr
        clear hbx hbr
        go_wp2_with (go_at_call 91; refine (push_any l v ⟨e.v, (k : Int)⟩ (w.heap.size + 1) (w.heap.size + 1) _ (Nat.le_refl _) (by simp; omega) (box_alloc HBX.out) (hown.alloc _) hne (by omega) hmin).mono ?_; rintro e1 w5 ⟨⟨u, rfl⟩, hb5, l', v', h1, h2, h3, h4, h5, h6⟩)
        have hb6 : Below (w.heap.size + 1) wr w5 := ((Below.refl _ wr).alloc (by omega) _).trans hb5
        exact ⟨⟨k + 1, l', v', hlt, by go_num, HW.out l' h2, h3, by omega, h4, h5, h6, acc.trans (hb6.mono (by omega)), (hb6.block _ (by omega)).trans HBR.out⟩, by simp [intOf]; omega⟩
      · have hon' : e.on = false := by simpa using hon
        rw [hon'] at x0 ho
        have HW : Hid (Waits es (k + 1) l) := hw.off ho
        have HBX : Hid (HeapBox wr (w.heap.size + 1) v) := hbx
        have HBR : Hid (wr.heap[w.heap.size]? = some (.cells #[.int .i64 0, .int .i64 0] 94 (0, 0))) := hbr
        clear hbx hbr
        go_wp2
        exact ⟨⟨k + 1, l, v, hlt, by go_num, HW.out, hmin, by omega, hown.alloc _, hne, box_alloc HBX.out, acc.alloc acc.size _, (((Below.refl _ wr).alloc (Nat.le_refl _) _).block _ (by omega)).trans HBR.out⟩, by simp [intOf]; omega⟩
    · have hkk : k = es.length := by omega
      have hlt' : ¬ (k : Int) < (es.length : Int) := by omega
      have HL : Hid (leastTo es k = least es) := by rw [hkk]; rfl
      clear hkk
      have HBX : Hid (HeapBox wr (w.heap.size + 1) v) := hbx
      have HBR : Hid (wr.heap[w.heap.size]? = some (.cells #[.int .i64 0, .int .i64 0] 94 (0, 0))) := hbr
      clear hbx hbr
      go_wp2_with (go_at_call 92; refine (top_any l v (w.heap.size + 1) (w.heap.size + 1) _ HBX.out hown (by omega)).mono ?_; rintro e1 w5 ⟨hb5, hcase⟩; have hbr5 := (hb5.block _ (by omega)).trans HBR.out; obtain ⟨r0, r1⟩ := wbox hbr5; obtain ⟨r0f, r1f⟩ := wboxf hbr5; obtain ⟨R, b, rfl, hR, hb⟩ := top_cases hw hmin HL.out hcase; clear hcase; have HT : Hid (w5.there w.heap.size 0 2) := two_there hbr5; have HR : Hid (R = firstW es) := hR; have HB : Hid (b = someW es) := hb; clear hR hb hbr5; unfold wtV)
      refine bodyPost_ret (results_mid2 rfl _ _ w.heap.size 0 [.int .i64 R.v, .int .i64 R.p] _ rfl (range_two HT.out) Try.underlying94 rfl info_wt2) rfl ?_
      refine ⟨?_, ?_⟩
      · rw [← HR.out, ← HB.out]; rfl
      · exact ((acc.trans (hb5.mono acc.size)).setCell (p := ⟨w.heap.size, 0, none⟩) (Nat.le_refl _) _).setCell (p := ⟨w.heap.size, 1, none⟩) (Nat.le_refl _) _

/-- who is next in a queue that is ok. -/
def nextQ (q : Qu) : Int := if (decide (0 ≤ q.cu) && decide (q.rn < 50)) = true then q.cu else least q.es
set_option maxHeartbeats 4000000 in
theorem nextIn_any (q : Qu) (sl : Value) (w : World) (hs : SlE w sl q.es) (hn : q.es.length ≤ 20) :
    Calls Try.prog 60 #[quV q sl] w fun e w' => e = .returned (.int .i64 (nextQ q)) ∧ Below w.heap.size w w' := by
  have hB : ∀ A, Below w.heap.size w (w.alloc A) := fun A => (Below.refl _ _).alloc (Nat.le_refl _) _
  unfold quV
  by_cases c1 : 0 ≤ q.cu ∧ q.rn < 50
  · have HP : Hid (nextQ q = q.cu) := by show _ = _; unfold nextQ; rw [decide_eq_true c1.1, decide_eq_true c1.2]; rfl
    obtain ⟨a1, a2⟩ := c1
    go_enter Try.func60, Try.ntmps60
    go_wp2
    go_ret
    exact ⟨ret_int HP.out.symm, hB _⟩
  · have HP : Hid (nextQ q = least q.es) := by
      show _ = _; unfold nextQ
      rw [if_neg]
      simp only [Bool.and_eq_true, decide_eq_true_eq]; exact c1
    by_cases a1 : 0 ≤ q.cu
    · have a2 : ¬ q.rn < 50 := fun h => c1 ⟨a1, h⟩
      clear c1
      by_cases hl : 0 ≤ least q.es
      · have h1 : someW q.es = true := decide_eq_true hl
        have h2 : Hid (firstW q.es = ⟨vAt q.es (least q.es).toNat, least q.es⟩) := by show _ = _; unfold firstW; rw [if_pos hl]
        go_enter Try.func60, Try.ntmps60
        go_wp2_with (go_at_call 74; refine (furthest_any sl q.es _ (hs.below (hB _)) hn).mono ?_; rintro e1 w2 ⟨rfl, hb2⟩; rw [h2.out]; unfold wtV)
        go_ret
        exact ⟨ret_int HP.out.symm, ((box_kept hb2).1).alloc (box_kept hb2).1.size _⟩
      · have h1 : someW q.es = false := decide_eq_false hl
        have h2 : Hid (firstW q.es = ⟨0, 0⟩) := by show _ = _; unfold firstW; rw [if_neg hl]
        have h3 : Hid (least q.es = -1) := by show _ = _; have := (leastTo_bd q.es q.es.length).1; unfold least at *; omega
        go_enter Try.func60, Try.ntmps60
        go_wp2_with (go_at_call 74; refine (furthest_any sl q.es _ (hs.below (hB _)) hn).mono ?_; rintro e1 w2 ⟨rfl, hb2⟩; rw [h2.out]; unfold wtV)
        go_ret
        exact ⟨ret_int (by rw [HP.out, h3.out]), ((box_kept hb2).1).alloc (box_kept hb2).1.size _⟩
    · clear c1
      by_cases hl : 0 ≤ least q.es
      · have h1 : someW q.es = true := decide_eq_true hl
        have h2 : Hid (firstW q.es = ⟨vAt q.es (least q.es).toNat, least q.es⟩) := by show _ = _; unfold firstW; rw [if_pos hl]
        go_enter Try.func60, Try.ntmps60
        go_wp2_with (go_at_call 74; refine (furthest_any sl q.es _ (hs.below (hB _)) hn).mono ?_; rintro e1 w2 ⟨rfl, hb2⟩; rw [h2.out]; unfold wtV)
        go_ret
        exact ⟨ret_int HP.out.symm, ((box_kept hb2).1).alloc (box_kept hb2).1.size _⟩
      · have h1 : someW q.es = false := decide_eq_false hl
        have h2 : Hid (firstW q.es = ⟨0, 0⟩) := by show _ = _; unfold firstW; rw [if_neg hl]
        have h3 : Hid (least q.es = -1) := by show _ = _; have := (leastTo_bd q.es q.es.length).1; unfold least at *; omega
        go_enter Try.func60, Try.ntmps60
        go_wp2_with (go_at_call 74; refine (furthest_any sl q.es _ (hs.below (hB _)) hn).mono ?_; rintro e1 w2 ⟨rfl, hb2⟩; rw [h2.out]; unfold wtV)
        go_ret
        exact ⟨ret_int (by rw [HP.out, h3.out]), ((box_kept hb2).1).alloc (box_kept hb2).1.size _⟩

theorem pickQ_next {q : Qu} (h : quOk q = true) : pickQ q = nextQ q := by unfold pickQ nextQ; rw [if_pos h]
theorem quOk_len {q : Qu} (h : quOk q = true) : 1 ≤ q.es.length ∧ q.es.length ≤ 20 := by
  unfold quOk headOk at h; simp at h; omega
set_option maxHeartbeats 4000000 in
theorem impl_queuePick (q : Qu) (sl : Value) (w : World) (hs : SlE w sl q.es) (hn : q.es.length ≤ 1048576) :
    Calls Try.prog 28 #[quV q sl] w fun e w' => e = .returned (.int .i64 (pickQ q)) ∧ Below w.heap.size w w' := by
  have hB : ∀ A, Below w.heap.size w (w.alloc A) := fun A => (Below.refl _ _).alloc (Nat.le_refl _) _
  by_cases hok : quOk q = true
  · have HP : Hid (pickQ q = nextQ q) := pickQ_next hok
    have h20 := (quOk_len hok).2
    unfold quV
    go_enter Try.func28, Try.ntmps28
    go_wp2_with (first | (go_at_call 18; refine (impl_queueOk q sl _ (hs.below (hB _)) hn).mono ?_; rintro e1 w2 ⟨rfl, hb2⟩; obtain ⟨hb3, hbx, hlt⟩ := box_kept hb2; obtain ⟨q0, q1, q2, q3⟩ := qbox hbx; clear hbx) | (go_at_call 60; refine (nextIn_any q sl _ (hs.below hb3) h20).mono ?_; rintro e2 w3 ⟨rfl, hb4⟩))
    go_ret
    exact ⟨ret_int HP.out.symm, hb3.trans (hb4.mono hb3.size)⟩
  · have hno : quOk q = false := by simpa using hok
    have HP : Hid (pickQ q = -1) := by show _ = _; unfold pickQ; rw [if_neg hok]
    unfold quV
    go_enter Try.func28, Try.ntmps28
    go_wp2_with (go_at_call 18; refine (impl_queueOk q sl _ (hs.below (hB _)) hn).mono ?_; rintro e1 w2 ⟨rfl, hb2⟩)
    go_ret
    exact ⟨ret_int HP.out.symm, (box_kept hb2).1⟩
end Go.Proofs.Ytbifcjfjenpmnaa
