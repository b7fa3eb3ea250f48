/- The program's heap of waiters: push and top. -/
import Derived.Test.YtbifcjfjenpmnaaQH
import Derived.Test.YtbifcjfjenpmnaaJ
namespace Go.Proofs.Ytbifcjfjenpmnaa
set_option linter.unusedSimpArgs false
open Go.ChangeShapes Go.WideShapes Go.ChangeAt Go.RowKit

set_option maxHeartbeats 1000000 in
theorem isBehind_any (x y : Wt) (w : World) : Calls Try.prog 90 #[wtV x, wtV y] w fun e w' => e = .returned (.bool (bef x y)) ∧ Below w.heap.size w w' := by
  have hB : ∀ A C, Below w.heap.size w ((w.alloc A).alloc C) := fun A C => ((Below.refl _ _).alloc (Nat.le_refl _) _).alloc (by simp) _
  unfold wtV
  by_cases a : x.v < y.v
  · have HP : Hid (bef x y = true) := by show _ = _; unfold bef; rw [decide_eq_true a]; rfl
    go_enter Try.func90, Try.ntmps90
    go_wp2
    go_ret
    exact ⟨ret_bool HP.out.symm, hB _ _⟩
  · by_cases b : x.v = y.v
    · have HP : Hid (bef x y = decide (x.p < y.p)) := by show _ = _; unfold bef; rw [decide_eq_false a, decide_eq_true b]; rfl
      go_enter Try.func90, Try.ntmps90
      go_wp2
      go_ret
      exact ⟨ret_bool (by rw [HP.out]), hB _ _⟩
    · have HP : Hid (bef x y = false) := by show _ = _; unfold bef; rw [decide_eq_false a, decide_eq_false b]; rfl
      go_enter Try.func90, Try.ntmps90
      go_wp2
      go_ret
      exact ⟨ret_bool HP.out.symm, hB _ _⟩

def behV : Value := .func (.func 90) #[] #[]
theorem info_wt : (Try.prog.info? 94).map (fun i => (i.zero, i.size, i.bytes)) = some (some (.agg #[.int .i64 0, .int .i64 0]), 2, 16) := by kernel_rfl
/-- the box of a heap. -/
def HeapBox (W : World) (hb : Nat) (v : Value) : Prop := W.heap[hb]? = some (.cells #[behV, v] 105 (0, 0))
theorem HeapBox.cells {W : World} {hb : Nat} {v : Value} (h : HeapBox W hb v) : W.cell? ⟨hb, 0, none⟩ = some behV ∧ W.cell? ⟨hb, 1, none⟩ = some v ∧ W.frozen? ⟨hb, 1, none⟩ = false := by
  unfold HeapBox at h
  refine ⟨?_, ?_, ?_⟩
  · simp [World.cell?, h]
  · simp [World.cell?, h]
  · simp [World.frozen?, h]

theorem box_grown {w w1 : World} {A C : Obj} {hb : Nat} {v : Value} {row : Option Nat} (h : HeapBox w hb v) (hg : ((w.alloc A).alloc C).drew.grownBy w1 row) (hne : row ≠ some hb) : HeapBox w1 hb v := by
  have hlt : hb < w.heap.size := (Array.getElem?_eq_some_iff.1 h).1
  have h1 := hg.block hb (by simp; omega) (Ne.symm hne)
  unfold HeapBox
  rw [h1]
  have b1 : Below w.heap.size w ((w.alloc A).alloc C).drew := (((Below.refl _ _).alloc (Nat.le_refl _) _).alloc (by simp) _).drew
  exact (b1.block hb hlt).trans h
theorem item_new {x : Wt} {t : TypeId} (w : World) : (w.alloc (.cells #[.int .i64 x.v, .int .i64 x.p] t (0, 0))).drew.cell? ⟨w.heap.size, 0, none⟩ = some (.int .i64 x.v) ∧ (w.alloc (.cells #[.int .i64 x.v, .int .i64 x.p] t (0, 0))).drew.cell? ⟨w.heap.size, 1, none⟩ = some (.int .i64 x.p) := by
  have h : (w.alloc (.cells #[.int .i64 x.v, .int .i64 x.p] t (0, 0))).drew.heap[w.heap.size]? = some (.cells #[.int .i64 x.v, .int .i64 x.p] t (0, 0)) := heap_alloc_new _ _
  constructor <;> simp only [World.cell?, h] <;> rfl
theorem item_new2 {x : Wt} {t : TypeId} {C : Obj} (w : World) : ((w.alloc (.cells #[.int .i64 x.v, .int .i64 x.p] t (0, 0))).alloc C).drew.cell? ⟨w.heap.size, 0, none⟩ = some (.int .i64 x.v) ∧ ((w.alloc (.cells #[.int .i64 x.v, .int .i64 x.p] t (0, 0))).alloc C).drew.cell? ⟨w.heap.size, 1, none⟩ = some (.int .i64 x.p) := by
  have h : ((w.alloc (.cells #[.int .i64 x.v, .int .i64 x.p] t (0, 0))).alloc C).drew.heap[w.heap.size]? = some (.cells #[.int .i64 x.v, .int .i64 x.p] t (0, 0)) := heap_alloc2_old _ _ _
  constructor <;> simp only [World.cell?, h] <;> rfl
theorem box_new2 {w : World} {A C : Obj} {hb : Nat} {v : Value} (h : HeapBox w hb v) : ((w.alloc A).alloc C).drew.cell? ⟨hb, 1, none⟩ = some v := by
  have hlt : hb < w.heap.size := (Array.getElem?_eq_some_iff.1 h).1
  have b1 : Below w.heap.size w ((w.alloc A).alloc C).drew := (((Below.refl _ _).alloc (Nat.le_refl _) _).alloc (by simp) _).drew
  have h2 : HeapBox ((w.alloc A).alloc C).drew hb v := (b1.block hb hlt).trans h
  exact h2.cells.2.1
theorem item_grown {w w1 : World} {x : Wt} {t : TypeId} {C : Obj} {row : Option Nat} (hg : ((w.alloc (.cells #[.int .i64 x.v, .int .i64 x.p] t (0, 0))).alloc C).drew.grownBy w1 row) (hne : row ≠ some w.heap.size) :
    w1.cell? ⟨w.heap.size, 0, none⟩ = some (.int .i64 x.v) ∧ w1.cell? ⟨w.heap.size, 1, none⟩ = some (.int .i64 x.p) := by
  have h1 := hg.block w.heap.size (by simp; omega) (Ne.symm hne)
  have h2 : ((w.alloc (.cells #[.int .i64 x.v, .int .i64 x.p] t (0, 0))).alloc C).drew.heap[w.heap.size]? = some (.cells #[.int .i64 x.v, .int .i64 x.p] t (0, 0)) := heap_alloc2_old _ _ _
  rw [h2] at h1
  constructor <;> simp [World.cell?, h1]
theorem owns_below {W W' : World} {base : Nat} {e : TypeId} {size : Nat} {v : Value} {n : Nat} {xs : List Value} (h : W.ownsRow base e size v n xs) (hb : Below W.heap.size W W') : W'.ownsRow base e size v n xs :=
  h.kept ⟨hb.os, hb.tape, hb.output, hb.size, fun k hk _ => hb.block k hk⟩ (row := none) (by cases v.ownBlock <;> simp)
theorem box_swap {W : World} {hb gg : Nat} {v : Value} (h : HeapBox W hb v) (hne : hb ≠ gg) (a b c d : Nat) (x y z u : Value) :
    HeapBox ((((W.setCell ⟨gg, a, none⟩ x).setCell ⟨gg, b, none⟩ y).setCell ⟨gg, c, none⟩ z).setCell ⟨gg, d, none⟩ u).drew hb v := by
  show ((((W.setCell ⟨gg, a, none⟩ x).setCell ⟨gg, b, none⟩ y).setCell ⟨gg, c, none⟩ z).setCell ⟨gg, d, none⟩ u).heap[hb]? = _
  rw [heap_setCell_other _ _ _ _ hne, heap_setCell_other _ _ _ _ hne, heap_setCell_other _ _ _ _ hne, heap_setCell_other _ _ _ _ hne]
  exact h
theorem keep_set {W : World} {a b : Addr} {u v : Value} (h : W.cell? a = some v) (hne : a.block ≠ b.block) : (W.setCell b u).cell? a = some v :=
  (World.cell?_of_block (heap_setCell_other _ _ _ _ hne)).trans h
set_option maxRecDepth 100000 in
set_option maxHeartbeats 4000000 in
theorem push_any (l : List Wt) (v : Value) (x : Wt) (hb B : Nat) (w : World) (hB : B ≤ hb) (hBw : B ≤ w.heap.size) (hbx : HeapBox w hb v) (hown : w.ownsRow B 94 2 v l.length (flat l)) (hne : v.ownBlock ≠ some hb) (hlen : l.length ≤ 20) (hmin : MinRoot l) :
    Calls Try.prog 91 #[.pointer (some ⟨hb, 0, none⟩), wtV x] w fun e w' => (∃ u, e = .returned u) ∧ Below B w w' ∧
      ∃ l' v', l'.length = l.length + 1 ∧ (∀ y, y ∈ l' ↔ y ∈ l ∨ y = x) ∧ MinRoot l' ∧ w'.ownsRow B 94 2 v' l'.length (flat l') ∧ v'.ownBlock ≠ some hb ∧ HeapBox w' hb v' := by
  obtain ⟨i0, hi0, hz0, hz1, hz2⟩ := info_parts info_wt
  obtain ⟨c0, c1, c2⟩ := hbx.cells
  have hlt : hb < w.heap.size := (Array.getElem?_eq_some_iff.1 hbx).1
  have hmx : l.length + 1 ≤ maxLen := by unfold maxLen; omega
  have HBX : Hid (HeapBox w hb v) := hbx
  have hnh : w.heap.size ≠ hb := by omega
  clear hbx
  unfold wtV
  go_enter Try.func91, Try.ntmps91
  go_wp2_with fail
  --R1
  refine wp_region_noPanic ?_
  refine wp_region_J 10 (fun w' => w'.cell? ⟨w.heap.size, 0, none⟩ = some (.int .i64 x.v) ∧ w'.cell? ⟨w.heap.size, 1, none⟩ = some (.int .i64 x.p)) (fun w' => w'.cell? ⟨hb, 1, none⟩ = some v) (by kernel_rfl) (item_new w) (by go_keep) ?_
  refine JJ_take0 (i := 0) (v := ?av0) rfl (by kernel_rfl) (by kernel_rfl) (by kernel_rfl) (by decide) (fun _ _ _ h => h) (Or.inl ⟨by rfl, ?ay0⟩) ?ar0
  case ay0 => ((intro w hSw; (try dsimp only at hSw); go_simp) <;> with_reducible rfl)
  try simp only [Act.put, List.setIfInBounds_toArray, List.set_cons_zero, List.set_cons_succ]
  refine JJ_take0 (i := 1) (v := ?av1) rfl (by kernel_rfl) (by kernel_rfl) (by kernel_rfl) (by decide) (fun _ _ _ h => h) (Or.inl ⟨by rfl, ?ay1⟩) ?ar1
  case ay1 => ((intro w hSw; (try dsimp only at hSw); go_simp) <;> with_reducible rfl)
  try simp only [Act.put, List.setIfInBounds_toArray, List.set_cons_zero, List.set_cons_succ]
  refine JJ_take0 (i := 2) (v := ?av2) rfl (by kernel_rfl) (by kernel_rfl) (by kernel_rfl) (by decide) (fun _ _ _ h => h) (Or.inl ⟨by rfl, ?ay2⟩) ?ar2
  case ay2 => ((intro w hSw; (try dsimp only at hSw); go_simp) <;> with_reducible rfl)
  try simp only [Act.put, List.setIfInBounds_toArray, List.set_cons_zero, List.set_cons_succ]
  refine JJ_take0 (i := 3) (v := ?av3) rfl (by kernel_rfl) (by kernel_rfl) (by kernel_rfl) (by decide) (fun _ _ _ h => h) (Or.inl ⟨by rfl, ?ay3⟩) ?ar3
  case ay3 => ((intro w hSw; (try dsimp only at hSw); go_simp) <;> with_reducible rfl)
  try simp only [Act.put, List.setIfInBounds_toArray, List.set_cons_zero, List.set_cons_succ]
  refine JJ_take (i := 4) (v := ?av4) rfl (by kernel_rfl) (by kernel_rfl) (by kernel_rfl) (by decide) (by kernel_rfl) (fun _ _ _ h => h) (Or.inl ⟨by rfl, ?ay4⟩) ?ar4
  case ay4 => ((intro w hSw; (try dsimp only at hSw); go_simp) <;> with_reducible rfl)
  try simp only [Act.put, List.setIfInBounds_toArray, List.set_cons_zero, List.set_cons_succ]
  refine JJ_take0 (i := 5) (v := ?av5) rfl (by kernel_rfl) (by kernel_rfl) (by kernel_rfl) (by decide) (fun _ _ _ h => h) (Or.inl ⟨by rfl, ?ay5⟩) ?ar5
  case ay5 => ((intro w hSw; (try dsimp only at hSw); go_simp) <;> with_reducible rfl)
  try simp only [Act.put, List.setIfInBounds_toArray, List.set_cons_zero, List.set_cons_succ]
  refine JJ_one (i := 6) (by kernel_rfl) rfl (fun hT K hK => ?_)
  clear hT
  go_simp
  refine hK.out _ _ ⟨item_new2 w, fun _ => box_new2 HBX.out⟩ ?_
  clear hK K
  try simp only [Act.put, List.setIfInBounds_toArray, List.set_cons_zero, List.set_cons_succ]
  refine JJ_one (i := 7) (by kernel_rfl) rfl (fun hT K hK => ?_)
  clear hT
  refine step_append_lies _ (by rfl) _ _ _ (by rfl) B 94 i0 _ 2 16 Try.underlying103 hi0 hz0 hz1 hz2 rfl (by omega) v l.length (flat l) (by rfl) (((hown.alloc _).alloc _).drew)
    ⟨w.heap.size + 1, 0, none⟩ 1 1 [.int .i64 x.v, .int .i64 x.p] (by rfl) (by rfl) (World.news_of_block (cs := #[.int .i64 x.v, .int .i64 x.p]) (t := 94) (fr := (0, 0)) (heap_alloc2_new w _ _)) (by simp [Value.oneCell'])
    (by omega) hmx (by omega) (by simp; omega) (w.heap.size + 2) (by simp) ?_
  intro gg cap w1 hown1 hgrow hat hlt1
  have hbx1 := box_grown HBX.out hgrow hne
  obtain ⟨d0, d1, d2⟩ := hbx1.cells
  obtain ⟨e0, e1⟩ := item_grown hgrow (fun hh => Nat.lt_irrefl _ (hown.lt _ hh).2)
  refine hK.out _ _ ⟨⟨e0, e1⟩, fun _ => d1⟩ ?_
  clear hK K
  try simp only [Act.put, List.setIfInBounds_toArray, List.set_cons_zero, List.set_cons_succ]
  refine JJ_take0 (i := 8) (v := ?av8) rfl (by kernel_rfl) (by kernel_rfl) (by kernel_rfl) (by decide) (fun _ _ _ h => h) (Or.inl ⟨by rfl, ?ay8⟩) ?ar8
  case ay8 => ((intro w hSw; (try dsimp only at hSw); go_simp) <;> with_reducible rfl)
  try simp only [Act.put, List.setIfInBounds_toArray, List.set_cons_zero, List.set_cons_succ]
  refine JJ_take0 (i := 9) (v := ?av9) rfl (by kernel_rfl) (by kernel_rfl) (by kernel_rfl) (by decide) (fun _ _ _ h => h) (Or.inl ⟨by rfl, ?ay9⟩) ?ar9
  case ay9 => ((intro w hSw; (try dsimp only at hSw); go_simp) <;> with_reducible rfl)
  try simp only [Act.put, List.setIfInBounds_toArray, List.set_cons_zero, List.set_cons_succ]
  refine JJ_one (i := 10) (by kernel_rfl) rfl (fun hT K hK => ?_)
  clear hT
  go_simp
  refine hK.out _ _ ⟨⟨keep_set e0 hnh, keep_set e1 hnh⟩, fun h => by cases h⟩ ?_
  clear hK K
  try simp only [Act.put, List.setIfInBounds_toArray, List.set_cons_zero, List.set_cons_succ]
  refine JJ_done (by kernel_rfl) ?_ _
  refine NoPanic.normal ?_
  --R1E
  all_goals
    have hgb : gg ≠ hb := by
      rcases hat with h | h
      · intro e; rw [e] at h; exact hne h
      · omega
    have hown2 : (w1.setCell ⟨hb, 1, none⟩ (.slice (some ⟨gg, 0, none⟩) (l.length + 1) cap)).ownsRow B 94 2 (.slice (some ⟨gg, 0, none⟩) (l.length + 1) cap) (l.length + 1) (flat (l ++ [x])) := by
      rw [flat_append, flat_one]
      exact ownsRow_setCell_other hown1 (by simp [Value.ownBlock]; exact hgb) _
    have hbx2 : HeapBox (w1.setCell ⟨hb, 1, none⟩ (.slice (some ⟨gg, 0, none⟩) (l.length + 1) cap)) hb (.slice (some ⟨gg, 0, none⟩) (l.length + 1) cap) := heap_setCell_same _ _ _ _ _ _ hbx1
    have acc2 : Below B w (w1.setCell ⟨hb, 1, none⟩ (.slice (some ⟨gg, 0, none⟩) (l.length + 1) cap)) := by
      refine Below.setCell ?_ hB _
      exact Below.grown ((((Below.refl _ _).alloc hBw _).alloc (by simp; omega) _).drew) hgrow (by simp; omega) (fun j ej => (hown.lt j ej).1)
    revert hown2 hbx2 acc2
    generalize (w1.setCell ⟨hb, 1, none⟩ (.slice (some ⟨gg, 0, none⟩) (l.length + 1) cap)) = W2
    intro hown2 hbx2 acc2
    clear hbx1 d0 d1 d2 e0 e1 hown1 hgrow hat c0 c1 c2 HBX
    obtain ⟨c0, c1, c2⟩ := hbx2.cells
    go_wp2
    clear c0 c1 c2
    go_loopw [4] (fun i wr => ∃ (c : List Wt) (k : Nat), Up l x c k ∧ i = .int .i64 k ∧ k ≤ l.length ∧ wr.ownsRow B 94 2 (.slice (some ⟨gg, 0, none⟩) (l.length + 1) cap) (l.length + 1) (flat c) ∧ HeapBox wr hb (.slice (some ⟨gg, 0, none⟩) (l.length + 1) cap) ∧ Below B w wr) (fun i _ => (intOf i).toNat)
    case atStart => exact ⟨l ++ [x], l.length, Up.start x hmin, by go_num, Nat.le_refl _, hown2, hbx2, acc2⟩
    case round =>
      obtain ⟨c, k, hup, rfl, hkl, hown3, hbx3, acc3⟩ := hrel
      by_cases hk0 : k = 0
      · subst hk0
        go_wp2
        go_end0
        exact ⟨⟨_, rfl⟩, acc3, c, _, hup.len, hup.mem, hup.done, by rw [hup.len]; exact hown3, by simp [Value.ownBlock]; exact hgb, hbx3⟩
      · have hk1 : (0 : Int) < (k : Int) := by omega
        obtain ⟨j, hj⟩ : ∃ j, j = (k - 1) / 2 := ⟨_, rfl⟩
        have hjk : j < k := by omega
        have hjx : ((k : Int) - 1) / 2 = (j : Int) := by omega
        have hlen2 : c.length = l.length + 1 := hup.len
        obtain ⟨y, hy⟩ : ∃ y, c[j]? = some y := ⟨c[j], List.getElem?_eq_getElem (by omega)⟩
        obtain ⟨fx0, fx1⟩ := flat_get hup.at_
        obtain ⟨fy0, fy1⟩ := flat_get hy
        have kl : (k : Int) < (l.length : Int) + 1 := by omega
        have jl : (j : Int) < (l.length : Int) + 1 := by omega
        have k0 : (0 : Int) ≤ (k : Int) := by omega
        have j0 : (0 : Int) ≤ (j : Int) := by omega
        have HJ : Hid (j = (k - 1) / 2) := hj
        clear hj
        obtain ⟨c0, c1, c2⟩ := hbx3.cells
        unfold behV at c0
        obtain ⟨x0, x0f⟩ := owns_there hown3 fx0
        obtain ⟨x1, x1f⟩ := owns_there hown3 fx1
        obtain ⟨y0, y0f⟩ := owns_there hown3 fy0
        obtain ⟨y1, y1f⟩ := owns_there hown3 fy1
        have hBr : B ≤ wr.heap.size := by have := (Array.getElem?_eq_some_iff.1 hbx3).1; omega
        have hhr : hb < wr.heap.size := (Array.getElem?_eq_some_iff.1 hbx3).1
        go_wp2
        rw [hjx]
        by_cases hbf : bef x y = true
        · go_region_held3 (fun w' => w'.cell? ⟨hb, 0, none⟩ = some (.func (.func 90) #[] #[]) ∧ w'.cell? ⟨hb, 1, none⟩ = some (.slice (some ⟨gg, 0, none⟩) (l.length + 1) cap) ∧ w'.cell? ⟨gg, k * 2, none⟩ = some (.int .i64 x.v) ∧ w'.cell? ⟨gg, k * 2 + 1, none⟩ = some (.int .i64 x.p) ∧ w'.cell? ⟨gg, j * 2, none⟩ = some (.int .i64 y.v) ∧ w'.cell? ⟨gg, j * 2 + 1, none⟩ = some (.int .i64 y.p))
            (go_keep)
            (first | (go_at_call 90; refine (isBehind_any x y _).mono ?_; rintro e1 w5 ⟨rfl, hb5⟩; have hb6 := (Below.refl _ wr).drew.trans hb5; have hown5 := owns_below hown3 hb6; have hbx5 : HeapBox w5 hb _ := (hb6.block _ hhr).trans hbx3; obtain ⟨c0', c1', c2'⟩ := hbx5.cells; unfold behV at c0'; obtain ⟨x0', x0f'⟩ := owns_there hown5 fx0; obtain ⟨x1', x1f'⟩ := owns_there hown5 fx1; obtain ⟨y0', y0f'⟩ := owns_there hown5 fy0; obtain ⟨y1', y1f'⟩ := owns_there hown5 fy1))
          clear c0 c1 c2 x0 x0f x1 x1f y0 y0f y1 y1f
          go_wp2
          have hhb : hb ≠ gg := fun e => hgb e.symm
          have n1 : k * 2 ≠ j * 2 := by omega
          have n2 : k * 2 + 1 ≠ j * 2 := by omega
          have n3 : k * 2 ≠ j * 2 + 1 := by omega
          have n4 : j * 2 ≠ k * 2 := by omega
          have n5 : j * 2 ≠ k * 2 + 1 := by omega
          have n6 : j * 2 + 1 ≠ k * 2 := by omega
          have n7 : j ≠ k := by omega
          --R6
          refine wp_region_noPanic ?_
          refine wp_region_J 25 (fun w' => w'.cell? ⟨hb, 1, none⟩ = some (.slice (some ⟨gg, 0, none⟩) (l.length + 1) cap)) (fun w' => w'.cell? ⟨gg, k * 2, none⟩ = some (.int .i64 x.v) ∧ w'.cell? ⟨gg, k * 2 + 1, none⟩ = some (.int .i64 x.p) ∧ w'.cell? ⟨gg, j * 2, none⟩ = some (.int .i64 y.v) ∧ w'.cell? ⟨gg, j * 2 + 1, none⟩ = some (.int .i64 y.p)) (by kernel_rfl) (c1') (⟨x0', x1', y0', y1'⟩) ?_
          refine JJ_take0 (i := 0) (v := ?bv0) rfl (by kernel_rfl) (by kernel_rfl) (by kernel_rfl) (by decide) (fun _ _ _ h => h) (Or.inl ⟨by rfl, ?by0⟩) ?br0
          case by0 => ((intro w hSw; (try dsimp only at hSw); go_simp) <;> with_reducible rfl)
          try simp only [Act.put, List.setIfInBounds_toArray, List.set_cons_zero, List.set_cons_succ]
          refine JJ_take0 (i := 1) (v := ?bv1) rfl (by kernel_rfl) (by kernel_rfl) (by kernel_rfl) (by decide) (fun _ _ _ h => h) (Or.inl ⟨by rfl, ?by1⟩) ?br1
          case by1 => ((intro w hSw; (try dsimp only at hSw); go_simp) <;> with_reducible rfl)
          try simp only [Act.put, List.setIfInBounds_toArray, List.set_cons_zero, List.set_cons_succ]
          refine JJ_take0 (i := 2) (v := ?bv2) rfl (by kernel_rfl) (by kernel_rfl) (by kernel_rfl) (by decide) (fun _ _ _ h => h) (Or.inl ⟨by rfl, ?by2⟩) ?br2
          case by2 => ((intro w hSw; (try dsimp only at hSw); go_simp) <;> with_reducible rfl)
          try simp only [Act.put, List.setIfInBounds_toArray, List.set_cons_zero, List.set_cons_succ]
          refine JJ_take0 (i := 3) (v := ?bv3) rfl (by kernel_rfl) (by kernel_rfl) (by kernel_rfl) (by decide) (fun _ _ _ h => h) (Or.inl ⟨by rfl, ?by3⟩) ?br3
          case by3 => ((intro w hSw; (try dsimp only at hSw); go_simp) <;> with_reducible rfl)
          try simp only [Act.put, List.setIfInBounds_toArray, List.set_cons_zero, List.set_cons_succ]
          refine JJ_take0 (i := 4) (v := ?bv4) rfl (by kernel_rfl) (by kernel_rfl) (by kernel_rfl) (by decide) (fun _ _ _ h => h) (Or.inl ⟨by rfl, ?by4⟩) ?br4
          case by4 => ((intro w hSw; (try dsimp only at hSw); go_simp) <;> with_reducible rfl)
          try simp only [Act.put, List.setIfInBounds_toArray, List.set_cons_zero, List.set_cons_succ]
          refine JJ_take0 (i := 5) (v := ?bv5) rfl (by kernel_rfl) (by kernel_rfl) (by kernel_rfl) (by decide) (fun _ _ _ h => h) (Or.inl ⟨by rfl, ?by5⟩) ?br5
          case by5 => ((intro w hSw; (try dsimp only at hSw); go_simp) <;> with_reducible rfl)
          try simp only [Act.put, List.setIfInBounds_toArray, List.set_cons_zero, List.set_cons_succ]
          refine JJ_take0 (i := 6) (v := ?bv6) rfl (by kernel_rfl) (by kernel_rfl) (by kernel_rfl) (by decide) (fun _ _ _ h => h) (Or.inl ⟨by rfl, ?by6⟩) ?br6
          case by6 => ((intro w hSw; (try dsimp only at hSw); go_simp) <;> with_reducible rfl)
          try simp only [Act.put, List.setIfInBounds_toArray, List.set_cons_zero, List.set_cons_succ]
          refine JJ_take0 (i := 7) (v := ?bv7) rfl (by kernel_rfl) (by kernel_rfl) (by kernel_rfl) (by decide) (fun _ _ _ h => h) (Or.inl ⟨by rfl, ?by7⟩) ?br7
          case by7 => ((intro w hSw; (try dsimp only at hSw); go_simp) <;> with_reducible rfl)
          try simp only [Act.put, List.setIfInBounds_toArray, List.set_cons_zero, List.set_cons_succ]
          refine JJ_take0 (i := 8) (v := ?bv8) rfl (by kernel_rfl) (by kernel_rfl) (by kernel_rfl) (by decide) (fun _ _ _ h => h) (Or.inl ⟨by rfl, ?by8⟩) ?br8
          case by8 => ((intro w hSw; (try dsimp only at hSw); go_simp) <;> with_reducible rfl)
          try simp only [Act.put, List.setIfInBounds_toArray, List.set_cons_zero, List.set_cons_succ]
          refine JJ_take0 (i := 9) (v := ?bv9) rfl (by kernel_rfl) (by kernel_rfl) (by kernel_rfl) (by decide) (fun _ _ _ h => h) (Or.inl ⟨by rfl, ?by9⟩) ?br9
          case by9 => ((intro w hSw; (try dsimp only at hSw); go_simp) <;> with_reducible rfl)
          try simp only [Act.put, List.setIfInBounds_toArray, List.set_cons_zero, List.set_cons_succ]
          refine JJ_take0 (i := 10) (v := ?bv10) rfl (by kernel_rfl) (by kernel_rfl) (by kernel_rfl) (by decide) (fun _ _ _ h => h) (Or.inl ⟨by rfl, ?by10⟩) ?br10
          case by10 => ((intro w hSw; (try dsimp only at hSw); go_simp) <;> with_reducible rfl)
          try simp only [Act.put, List.setIfInBounds_toArray, List.set_cons_zero, List.set_cons_succ]
          refine JJ_take0 (i := 11) (v := ?bv11) rfl (by kernel_rfl) (by kernel_rfl) (by kernel_rfl) (by decide) (fun _ _ _ h => h) (Or.inl ⟨by rfl, ?by11⟩) ?br11
          case by11 => ((intro w hSw; (try dsimp only at hSw); go_simp) <;> with_reducible rfl)
          try simp only [Act.put, List.setIfInBounds_toArray, List.set_cons_zero, List.set_cons_succ]
          refine JJ_take0 (i := 12) (v := ?bv12) rfl (by kernel_rfl) (by kernel_rfl) (by kernel_rfl) (by decide) (fun _ _ _ h => h) (Or.inl ⟨by rfl, ?by12⟩) ?br12
          case by12 => ((intro w hSw; (try dsimp only at hSw); go_simp) <;> with_reducible rfl)
          try simp only [Act.put, List.setIfInBounds_toArray, List.set_cons_zero, List.set_cons_succ]
          refine JJ_take0 (i := 13) (v := ?bv13) rfl (by kernel_rfl) (by kernel_rfl) (by kernel_rfl) (by decide) (fun _ _ _ h => h) (Or.inl ⟨by rfl, ?by13⟩) ?br13
          case by13 => ((intro w hSw; (try dsimp only at hSw); go_simp) <;> with_reducible rfl)
          try simp only [Act.put, List.setIfInBounds_toArray, List.set_cons_zero, List.set_cons_succ]
          refine JJ_take0 (i := 14) (v := ?bv14) rfl (by kernel_rfl) (by kernel_rfl) (by kernel_rfl) (by decide) (fun _ _ _ h => h) (Or.inl ⟨by rfl, ?by14⟩) ?br14
          case by14 => ((intro w hSw; (try dsimp only at hSw); go_simp) <;> with_reducible rfl)
          try simp only [Act.put, List.setIfInBounds_toArray, List.set_cons_zero, List.set_cons_succ]
          refine JJ_take0 (i := 15) (v := ?bv15) rfl (by kernel_rfl) (by kernel_rfl) (by kernel_rfl) (by decide) (fun _ _ _ h => h) (Or.inl ⟨by rfl, ?by15⟩) ?br15
          case by15 => ((intro w hSw; (try dsimp only at hSw); go_simp) <;> with_reducible rfl)
          try simp only [Act.put, List.setIfInBounds_toArray, List.set_cons_zero, List.set_cons_succ]
          refine JJ_take (i := 16) (v := ?bv16) rfl (by kernel_rfl) (by kernel_rfl) (by kernel_rfl) (by decide) (by kernel_rfl) (fun _ _ _ h => h) (Or.inl ⟨by rfl, ?by16⟩) ?br16
          case by16 => ((intro w hSw; (try dsimp only at hSw); go_simp) <;> with_reducible rfl)
          try simp only [Act.put, List.setIfInBounds_toArray, List.set_cons_zero, List.set_cons_succ]
          refine JJ_take0 (i := 17) (v := ?bv17) rfl (by kernel_rfl) (by kernel_rfl) (by kernel_rfl) (by decide) (fun _ _ _ h => h) (Or.inl ⟨by rfl, ?by17⟩) ?br17
          case by17 => ((intro w hSw; (try dsimp only at hSw); go_simp) <;> with_reducible rfl)
          try simp only [Act.put, List.setIfInBounds_toArray, List.set_cons_zero, List.set_cons_succ]
          refine JJ_take0 (i := 18) (v := ?bv18) rfl (by kernel_rfl) (by kernel_rfl) (by kernel_rfl) (by decide) (fun _ _ _ h => h) (Or.inl ⟨by rfl, ?by18⟩) ?br18
          case by18 => ((intro w hSw; (try dsimp only at hSw); go_simp) <;> with_reducible rfl)
          try simp only [Act.put, List.setIfInBounds_toArray, List.set_cons_zero, List.set_cons_succ]
          refine JJ_take0 (i := 19) (v := ?bv19) rfl (by kernel_rfl) (by kernel_rfl) (by kernel_rfl) (by decide) (fun _ _ _ h => h) (Or.inl ⟨by rfl, ?by19⟩) ?br19
          case by19 => ((intro w hSw; (try dsimp only at hSw); go_simp) <;> with_reducible rfl)
          try simp only [Act.put, List.setIfInBounds_toArray, List.set_cons_zero, List.set_cons_succ]
          refine JJ_take0 (i := 20) (v := ?bv20) rfl (by kernel_rfl) (by kernel_rfl) (by kernel_rfl) (by decide) (fun _ _ _ h => h) (Or.inl ⟨by rfl, ?by20⟩) ?br20
          case by20 => ((intro w hSw; (try dsimp only at hSw); go_simp) <;> with_reducible rfl)
          try simp only [Act.put, List.setIfInBounds_toArray, List.set_cons_zero, List.set_cons_succ]
          refine JJ_take0 (i := 21) (v := ?bv21) rfl (by kernel_rfl) (by kernel_rfl) (by kernel_rfl) (by decide) (fun _ _ _ h => h) (Or.inl ⟨by rfl, ?by21⟩) ?br21
          case by21 => ((intro w hSw; (try dsimp only at hSw); go_simp) <;> with_reducible rfl)
          try simp only [Act.put, List.setIfInBounds_toArray, List.set_cons_zero, List.set_cons_succ]
          refine JJ_take0 (i := 22) (v := ?bv22) rfl (by kernel_rfl) (by kernel_rfl) (by kernel_rfl) (by decide) (fun _ _ _ h => h) (Or.inl ⟨by rfl, ?by22⟩) ?br22
          case by22 => ((intro w hSw; (try dsimp only at hSw); go_simp) <;> with_reducible rfl)
          try simp only [Act.put, List.setIfInBounds_toArray, List.set_cons_zero, List.set_cons_succ]
          refine JJ_take (i := 23) (v := ?bv23) rfl (by kernel_rfl) (by kernel_rfl) (by kernel_rfl) (by decide) (by kernel_rfl) (fun _ _ _ h => h) (Or.inl ⟨by rfl, ?by23⟩) ?br23
          case by23 => ((intro w hSw; (try dsimp only at hSw); go_simp) <;> with_reducible rfl)
          try simp only [Act.put, List.setIfInBounds_toArray, List.set_cons_zero, List.set_cons_succ]
          refine JJ_take0 (i := 24) (v := ?bv24) rfl (by kernel_rfl) (by kernel_rfl) (by kernel_rfl) (by decide) (fun _ _ _ h => h) (Or.inl ⟨by rfl, ?by24⟩) ?br24
          case by24 => ((intro w hSw; (try dsimp only at hSw); go_simp) <;> with_reducible rfl)
          try simp only [Act.put, List.setIfInBounds_toArray, List.set_cons_zero, List.set_cons_succ]
          refine JJ_one (i := 25) (by kernel_rfl) rfl (fun hT K hK => ?_)
          clear hT
          go_simp
          refine hK.out _ _ ⟨keep_set (keep_set c1' hhb) hhb, fun h => by cases h⟩ ?_
          clear hK K
          try simp only [Act.put, List.setIfInBounds_toArray, List.set_cons_zero, List.set_cons_succ]
          refine JJ_take0 (i := 26) (v := ?bv26) rfl (by kernel_rfl) (by kernel_rfl) (by kernel_rfl) (by decide) (fun _ _ _ h => h) (Or.inl ⟨by rfl, ?by26⟩) ?br26
          case by26 => ((intro w hSw; (try dsimp only at hSw); go_simp) <;> with_reducible rfl)
          try simp only [Act.put, List.setIfInBounds_toArray, List.set_cons_zero, List.set_cons_succ]
          refine JJ_one (i := 27) (by kernel_rfl) rfl (fun hT K hK => ?_)
          clear hT
          go_simp
          refine hK.out _ _ ⟨keep_set (keep_set (keep_set (keep_set c1' hhb) hhb) hhb) hhb, fun h => by cases h⟩ ?_
          clear hK K
          try simp only [Act.put, List.setIfInBounds_toArray, List.set_cons_zero, List.set_cons_succ]
          refine JJ_done (by kernel_rfl) ?_ _
          refine NoPanic.normal ?_
          --R6E
          all_goals
            have hown6 := (owns_set (owns_set (owns_set (owns_set hown5 (k := k * 2) (v := .int .i64 y.v)) (k := k * 2 + 1) (v := .int .i64 y.p)) (k := j * 2) (v := .int .i64 x.v)) (k := j * 2 + 1) (v := .int .i64 x.p)).drew
            rw [flat_set, flat_set] at hown6
            have hbx6 := box_swap hbx5 hhb (k * 2) (k * 2 + 1) (j * 2) (j * 2 + 1) (.int .i64 y.v) (.int .i64 y.p) (.int .i64 x.v) (.int .i64 x.p)
            have hgB : B ≤ gg := (hown5.lt gg rfl).1
            have acc5 : Below B w w5 := acc3.trans (hb6.mono hBr)
            have acc6 := ((((acc5.setCell (p := ⟨gg, k * 2, none⟩) hgB (.int .i64 y.v)).setCell (p := ⟨gg, k * 2 + 1, none⟩) hgB (.int .i64 y.p)).setCell (p := ⟨gg, j * 2, none⟩) hgB (.int .i64 x.v)).setCell (p := ⟨gg, j * 2 + 1, none⟩) hgB (.int .i64 x.p)).drew
            have hup6 : Up l x ((c.set k y).set j x) j := by
              have := hup.step hk0 (y := y) (by rw [← HJ.out]; exact hy) (bef_yes.1 hbf)
              rw [← HJ.out] at this
              exact this
            go_wp2
            exact ⟨⟨_, j, hup6, rfl, by omega, hown6, hbx6, acc6⟩, by simp [intOf]; omega⟩
        · have hbf' : bef x y = false := by simpa using hbf
          go_region_held3 (fun w' => w'.cell? ⟨hb, 0, none⟩ = some (.func (.func 90) #[] #[]) ∧ w'.cell? ⟨hb, 1, none⟩ = some (.slice (some ⟨gg, 0, none⟩) (l.length + 1) cap) ∧ w'.cell? ⟨gg, k * 2, none⟩ = some (.int .i64 x.v) ∧ w'.cell? ⟨gg, k * 2 + 1, none⟩ = some (.int .i64 x.p) ∧ w'.cell? ⟨gg, j * 2, none⟩ = some (.int .i64 y.v) ∧ w'.cell? ⟨gg, j * 2 + 1, none⟩ = some (.int .i64 y.p))
            (go_keep)
            (first | (go_at_call 90; refine (isBehind_any x y _).mono ?_; rintro e1 w5 ⟨rfl, hb5⟩; have hb6 := (Below.refl _ wr).drew.trans hb5; have hown5 := owns_below hown3 hb6; have hbx5 : HeapBox w5 hb _ := (hb6.block _ hhr).trans hbx3; obtain ⟨c0', c1', c2'⟩ := hbx5.cells; unfold behV at c0'; obtain ⟨x0', x0f'⟩ := owns_there hown5 fx0; obtain ⟨x1', x1f'⟩ := owns_there hown5 fx1; obtain ⟨y0', y0f'⟩ := owns_there hown5 fy0; obtain ⟨y1', y1f'⟩ := owns_there hown5 fy1))
          clear c0 c1 c2 x0 x0f x1 x1f y0 y0f y1 y1f
          go_wp2
          refine bodyPost_ret (results_none rfl _ _ _) rfl ?_
          exact ⟨⟨_, rfl⟩, acc3.trans (hb6.mono hBr), c, _, hup.len, hup.mem, hup.stop hk0 (y := y) (by rw [← HJ.out]; exact hy) (bef_no.1 hbf'), by rw [hup.len]; exact hown5, by simp [Value.ownBlock]; exact hgb, hbx5⟩
end Go.Proofs.Ytbifcjfjenpmnaa
