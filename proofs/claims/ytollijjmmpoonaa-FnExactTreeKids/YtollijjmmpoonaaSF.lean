/- Rows of Shelfs: what copies, compares, measures and marks them; such rows that came in, opened. -/
import Derived.Test.YtollijjmmpoonaaOR
namespace Go.Proofs.Ytollijjmmpoonaa
set_option linter.unusedVariables false
set_option linter.unusedSimpArgs false
open Go.ChangeShapes Go.WideShapes Go.ChangeAt Go.RowKit

structure Sh where
  fl : Int
  on : Bool
  v : Int
  w : Int
  s : Int
def sh0 : Sh := ⟨0, false, 0, 0, 0⟩
def shC (e : Sh) : List Value := [.int .i64 e.fl, .bool e.on, .int .i64 e.v, .int .i64 e.w, .int .i64 e.s]
def shV (e : Sh) : Value := .agg #[.int .i64 e.fl, .bool e.on, .int .i64 e.v, .int .i64 e.w, .int .i64 e.s]
theorem shC_len (e : Sh) : (shC e).length = 5 := rfl
theorem sh_cells {W : World} {g o : Nat} {e : Sh} (h : W.rangeAt g o (shC e)) : W.cell? ⟨g, o, none⟩ = some (.int .i64 e.fl) ∧ W.cell? ⟨g, o + 1, none⟩ = some (.bool e.on) ∧ W.cell? ⟨g, o + 2, none⟩ = some (.int .i64 e.v) ∧ W.cell? ⟨g, o + 3, none⟩ = some (.int .i64 e.w) ∧ W.cell? ⟨g, o + 4, none⟩ = some (.int .i64 e.s) :=
  ⟨h 0 _ rfl, h 1 _ rfl, h 2 _ rfl, h 3 _ rfl, h 4 _ rfl⟩
abbrev SlSh := SlR shC 5
abbrev NewSh := NewR shC 5
set_option maxHeartbeats 2000000 in
theorem toShelf_any (x : Sh) (w : World) : Calls Try.prog 65 #[shV x] w fun e w' => e = .returned (shV x) ∧ Below w.heap.size w w' := by
  obtain ⟨fl, on, v, w, s⟩ := x
  unfold shV
  go_enter Try.func65, Try.ntmps65
  go_wp2
  go_returns
  exact ⟨rfl, by go_grown⟩
theorem info_sh : (Try.prog.info? 90).map (fun i => (i.zero, i.size, i.bytes)) = some (some (.agg #[.int .i64 0, .bool false, .int .i64 0, .int .i64 0, .int .i64 0]), 5, 40) := by kernel_rfl
set_option maxHeartbeats 4000000 in
theorem toShelfS_any (sl : Value) (xs : List Sh) (w : World) (hs : SlSh w sl xs) (hn : xs.length ≤ 1048576) :
    Calls Try.prog 50 #[sl] w fun e w' => ∃ sl', e = .returned sl' ∧ NewSh w.heap.size w' sl' xs ∧ Below w.heap.size w w' := by
  obtain ⟨i0, hi, hz0, hz1, hz2⟩ := info_parts info_sh
  have hmk := run_make (P := Try.prog) w 48 90 i0 _ Try.underlying48 hi hz0 .i64 .i64 xs.length xs.length (by omega) (by omega) (by rw [hz2]; omega) (by omega)
  rw [hz1] at hmk
  rcases hs with ⟨rfl, a, cap, rfl⟩ | ⟨g, o, cap, rfl, hE, hl, hm⟩
  · rw [show (((([] : List Sh).length : Nat)) : Int) = 0 from rfl] at hmk
    go_enter Try.func50, Try.ntmps50
    go_wp2
    refine wp_loop_rounds 1 ?_
    rw [rounds_succ]
    go_wp2
    go_ret
    exact ⟨_, rfl, ⟨_, Nat.le_refl _, by simp, rfl, fun i e he => by simp at he, fun j hj => by simp at hj⟩, (Below.refl _ _).alloc (Nat.le_refl _) _⟩
  · unfold maxLen at hm
    go_enter Try.func50, Try.ntmps50
    go_wp2
    clear hmk
    go_loopw [4] (fun i wr => ∃ k : Nat, k ≤ xs.length ∧ i = .int .i64 k ∧ Below w.heap.size w wr ∧ w.heap.size < wr.heap.size ∧ wr.there w.heap.size 0 (xs.length * 5) ∧ RowOf shC 5 wr w.heap.size 0 (xs.take k)) (fun i _ => xs.length - (intOf i).toNat)
    case atStart => exact ⟨0, by omega, rfl, (Below.refl _ _).alloc (Nat.le_refl _) _, by simp, there_made _ _ _ (size_madeCells _ _), fun j e hj => by simp at hj⟩
    case round =>
      obtain ⟨k, hk, rfl, acc, hwz, hth, hrow⟩ := hrel
      by_cases hlt : k < xs.length
      · have hlt' : (k : Int) < (xs.length : Int) := by omega
        obtain ⟨e, he⟩ := row_get hlt
        obtain ⟨x0, x1, x2, x3, x4⟩ := sh_cells (hE.below acc k e he)
        have HE : Hid (xs[k]? = some e) := he
        have HR : Hid (RowOf shC 5 wr w.heap.size 0 (xs.take k)) := hrow
        have HT : Hid (wr.there w.heap.size 0 (xs.length * 5)) := hth
        clear he hrow hth
        go_wp2_with (go_at_call 65; refine (toShelf_any e _).mono ?_; rintro e1 w2 ⟨rfl, hb2⟩; have hth2 := there_below HT.out hb2 hwz; obtain ⟨c0, k0, f0⟩ := there_at hth2 hlt 0 (by omega); obtain ⟨c1, k1, f1⟩ := there_at hth2 hlt 1 (by omega); obtain ⟨c2, k2, f2⟩ := there_at hth2 hlt 2 (by omega); obtain ⟨c3, k3, f3⟩ := there_at hth2 hlt 3 (by omega); obtain ⟨c4, k4, f4⟩ := there_at hth2 hlt 4 (by omega); simp only [Nat.add_zero] at k0 f0; have HT2 : Hid (w2.there w.heap.size 0 (xs.length * 5)) := hth2; clear hth2; unfold shV)
        obtain ⟨p1, p2⟩ := put_row (c := shC) (x := e) HT2.out hlt (HR.out.below hb2) (List.length_take_of_le hk) shC_len
        have ht : xs.take (k + 1) = xs.take k ++ [e] := by rw [List.take_add_one, HE.out]; rfl
        refine ⟨⟨k + 1, hlt, by go_num, ?_, ?_, p1, ht ▸ p2⟩, by simp [intOf]; omega⟩
        · exact ((((((acc.trans (hb2.mono acc.size))).setCell (Nat.le_refl _) _).setCell (Nat.le_refl _) _).setCell (Nat.le_refl _) _).setCell (Nat.le_refl _) _).setCell (Nat.le_refl _) _
        · simp only [World.size_setCell]; exact Nat.lt_of_lt_of_le hwz hb2.size
      · have hlt' : ¬ (k : Int) < (xs.length : Int) := by omega
        have hkk : k = xs.length := by omega
        rw [hkk, List.take_length] at hrow
        clear hkk
        go_wp2
        go_ret
        exact ⟨_, rfl, ⟨_, Nat.le_refl _, hwz, rfl, hrow, hth⟩, acc⟩
set_option maxHeartbeats 2000000 in
theorem eqShelf_same (x : Sh) (w : World) : Calls Try.prog 68 #[shV x, shV x] w fun e w' => e = .returned (.bool true) ∧ Below w.heap.size w w' := by
  obtain ⟨fl, on, v, w, s⟩ := x
  unfold shV
  go_enter Try.func68, Try.ntmps68
  go_wp2
  go_ret
  exact ⟨rfl, by go_grown⟩
set_option maxHeartbeats 4000000 in
theorem eqShelfS_same (x y : Value) (xs : List Sh) (w : World) (hx : SlSh w x xs) (hy : SlSh w y xs) :
    Calls Try.prog 56 #[x, y] w fun e w' => e = .returned (.bool true) ∧ Below w.heap.size w w' := by
  rcases hx with ⟨h0, a, cap, rfl⟩ | ⟨g, o, cap, rfl, hE, hl, hm⟩
  · have : ∃ b cap', y = .slice b 0 cap' := by
      rcases hy with ⟨_, b, cap', rfl⟩ | ⟨g, o, cap', rfl, _⟩
      · exact ⟨_, _, rfl⟩
      · rw [h0]; exact ⟨_, _, rfl⟩
    obtain ⟨b, cap', rfl⟩ := this
    go_enter Try.func56, Try.ntmps56
    go_wp2
    refine wp_loop_rounds 1 ?_
    rw [rounds_succ]
    go_wp2
    go_ret
    exact ⟨rfl, Below.refl _ _⟩
  · rcases hy with ⟨h0, b, cap', rfl⟩ | ⟨g', o', cap', rfl, hE2, hl2, hm2⟩
    · rw [h0]
      go_enter Try.func56, Try.ntmps56
      go_wp2
      refine wp_loop_rounds 1 ?_
      rw [rounds_succ]
      go_wp2
      go_ret
      exact ⟨rfl, Below.refl _ _⟩
    · unfold maxLen at hm hm2
      go_enter Try.func56, Try.ntmps56
      go_wp2
      go_loopw [5] (fun i wr => ∃ k : Nat, k ≤ xs.length ∧ i = .int .i64 k ∧ Below w.heap.size w wr) (fun i _ => xs.length - (intOf i).toNat)
      case atStart => exact ⟨0, by omega, rfl, Below.refl _ _⟩
      case round =>
        obtain ⟨k, hk, rfl, acc⟩ := hrel
        by_cases hlt : k < xs.length
        · have hlt' : (k : Int) < (xs.length : Int) := by omega
          obtain ⟨e, he⟩ := row_get hlt
          obtain ⟨x0, x1, x2, x3, x4⟩ := sh_cells (hE.below acc k e he)
          obtain ⟨y0, y1, y2, y3, y4⟩ := sh_cells (hE2.below acc k e he)
          clear he
          go_wp2_with fail
          go_region_with (go_at_call 68; refine (eqShelf_same e _).mono ?_; rintro e1 w2 ⟨rfl, hb2⟩)
          all_goals
            replace hb2 := (Below.refl _ wr).drew.trans hb2
            go_wp2
            go_roundw
            case rel => exact ⟨k + 1, by omega, by go_num, acc.trans (hb2.mono acc.size)⟩
            case measure => simp [intOf]; omega
        · have hlt' : ¬ (k : Int) < (xs.length : Int) := by omega
          go_wp2
          go_ret
          exact ⟨rfl, acc⟩
set_option maxRecDepth 20000 in
theorem read_sh {H : Type} {enc : TypeId × Value → H} {w : World} {base : Nat} {spare : Nat → Bool} {held : Bool} (fuel : Nat) (cs : List Value) (y : DataW H × List MemPlace)
    (h : DataW.trod enc Try.prog w base spare held fuel 94 cs = some y) : ∃ a : Sh, cs = shC a ∧ True := by
  obtain ⟨n, hl, hf⟩ := trod_field Try.underlying94 h
  have hl : cs.length = 5 := hl.trans (by kernel_rfl)
  match cs, hl with
  | [c0, c1, c2, c3, c4], _ =>
    obtain ⟨y0, h0⟩ := hf 0 _ rfl
    have h0 : DataW.trod enc Try.prog w base spare held n 3 [c0] = some y0 := h0
    obtain ⟨b0, e0, _, w0⟩ := DataW.trod_int Try.underlying3 h0
    obtain ⟨y1, h1⟩ := hf 1 _ rfl
    have h1 : DataW.trod enc Try.prog w base spare held n 4 [c1] = some y1 := h1
    obtain ⟨b1, e1, _⟩ := DataW.trod_bool Try.underlying4 h1
    obtain ⟨y2, h2⟩ := hf 2 _ rfl
    have h2 : DataW.trod enc Try.prog w base spare held n 3 [c2] = some y2 := h2
    obtain ⟨b2, e2, _, w2⟩ := DataW.trod_int Try.underlying3 h2
    obtain ⟨y3, h3⟩ := hf 3 _ rfl
    have h3 : DataW.trod enc Try.prog w base spare held n 3 [c3] = some y3 := h3
    obtain ⟨b3, e3, _, w3⟩ := DataW.trod_int Try.underlying3 h3
    obtain ⟨y4, h4⟩ := hf 4 _ rfl
    have h4 : DataW.trod enc Try.prog w base spare held n 3 [c4] = some y4 := h4
    obtain ⟨b4, e4, _, w4⟩ := DataW.trod_int Try.underlying3 h4
    simp at e0 e1 e2 e3 e4
    subst e0 e1 e2 e3 e4
    exact ⟨⟨b0, b1, b2, b3, b4⟩, rfl, trivial⟩
theorem trod_shS {H : Type} {enc : TypeId × Value → H} {w : World} {base : Nat} {spare : Nat → Bool} {held : Bool} {fuel : Nat} {v : Value} {y : DataW H × List MemPlace}
    (h : DataW.trod enc Try.prog w base spare held fuel 44 [v] = some y) : ∃ xs, SlSh w v xs := by
  have inh : Inhabited Sh := ⟨sh0⟩
  obtain ⟨xs, h1, _⟩ := open_rows (c := shC) (R := fun _ => True) Try.underlying44 (show Try.prog.cellsOf 94 = 5 by kernel_rfl) (by omega) shC_len read_sh h
  exact ⟨xs, h1⟩
end Go.Proofs.Ytollijjmmpoonaa
