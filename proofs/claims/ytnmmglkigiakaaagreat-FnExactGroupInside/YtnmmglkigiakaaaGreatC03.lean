/- Rows of Tasks: what copies, compares, measures and marks them; such rows that came in, opened. Rows of Shelfs of one's own: what marks them, what asks whether they are held. Rows of Cpus of one's own: what marks them, what asks whether they are held. Rows of Tasks of one's own: what marks them, what asks whether they are held. -/
import Derived.Test.YtnmmglkigiakaaaGreatC02
namespace Go.Proofs.YtnmmglkigiakaaaGreat
set_option linter.unusedVariables false
set_option linter.unusedSimpArgs false
open Go.ChangeShapes Go.WideShapes Go.ChangeAt Go.RowKit

structure Tk where
  st : Int
  gr : Int
  cpu : Int
  ni : Int
  ma : Int
  v : Int
  su : Int
  us : Int
  lo : Int
def tk0 : Tk := ⟨0, 0, 0, 0, 0, 0, 0, 0, 0⟩
def tkC (e : Tk) : List Value := [.int .i64 e.st, .int .i64 e.gr, .int .i64 e.cpu, .int .i64 e.ni, .int .i64 e.ma, .int .i64 e.v, .int .i64 e.su, .int .i64 e.us, .int .i64 e.lo]
def tkV (e : Tk) : Value := .agg #[.int .i64 e.st, .int .i64 e.gr, .int .i64 e.cpu, .int .i64 e.ni, .int .i64 e.ma, .int .i64 e.v, .int .i64 e.su, .int .i64 e.us, .int .i64 e.lo]
theorem tkC_len (e : Tk) : (tkC e).length = 9 := rfl
theorem tk_cells {W : World} {g o : Nat} {e : Tk} (h : W.rangeAt g o (tkC e)) : W.cell? ⟨g, o, none⟩ = some (.int .i64 e.st) ∧ W.cell? ⟨g, o + 1, none⟩ = some (.int .i64 e.gr) ∧ W.cell? ⟨g, o + 2, none⟩ = some (.int .i64 e.cpu) ∧ W.cell? ⟨g, o + 3, none⟩ = some (.int .i64 e.ni) ∧ W.cell? ⟨g, o + 4, none⟩ = some (.int .i64 e.ma) ∧ W.cell? ⟨g, o + 5, none⟩ = some (.int .i64 e.v) ∧ W.cell? ⟨g, o + 6, none⟩ = some (.int .i64 e.su) ∧ W.cell? ⟨g, o + 7, none⟩ = some (.int .i64 e.us) ∧ W.cell? ⟨g, o + 8, none⟩ = some (.int .i64 e.lo) :=
  ⟨h 0 _ rfl, h 1 _ rfl, h 2 _ rfl, h 3 _ rfl, h 4 _ rfl, h 5 _ rfl, h 6 _ rfl, h 7 _ rfl, h 8 _ rfl⟩
abbrev SlTk := SlR tkC 9
abbrev NewTk := NewR tkC 9
set_option maxHeartbeats 2000000 in
theorem toTask_any (x : Tk) (w : World) : Calls Tryz.prog 74 #[tkV x] w fun e w' => e = .returned (tkV x) ∧ Below w.heap.size w w' := by
  obtain ⟨st, gr, cpu, ni, ma, v, su, us, lo⟩ := x
  unfold tkV
  go_enter Tryz.func74, Tryz.ntmps74
  go_wp2
  go_returns
  exact ⟨rfl, by go_grown⟩
theorem info_tk : (Tryz.prog.info? 68).map (fun i => (i.zero, i.size, i.bytes)) = some (some (.agg #[.int .i64 0, .int .i64 0, .int .i64 0, .int .i64 0, .int .i64 0, .int .i64 0, .int .i64 0, .int .i64 0, .int .i64 0]), 9, 72) := by kernel_rfl
set_option maxHeartbeats 4000000 in
theorem toTaskS_any (sl : Value) (xs : List Tk) (w : World) (hs : SlTk w sl xs) (hn : xs.length ≤ 1048576) :
    Calls Tryz.prog 36 #[sl] w fun e w' => ∃ sl', e = .returned sl' ∧ NewTk w.heap.size w' sl' xs ∧ Below w.heap.size w w' := by
  obtain ⟨i0, hi, hz0, hz1, hz2⟩ := info_parts info_tk
  have hmk := run_make (P := Tryz.prog) w 30 68 i0 _ Tryz.underlying30 hi hz0 .i64 .i64 xs.length xs.length (by omega) (by omega) (by rw [hz2]; omega) (by omega)
  rw [hz1] at hmk
  rcases hs with ⟨rfl, a, cap, rfl⟩ | ⟨g, o, cap, rfl, hE, hl, hm⟩
  · rw [show (((([] : List Tk).length : Nat)) : Int) = 0 from rfl] at hmk
    go_enter Tryz.func36, Tryz.ntmps36
    go_wp2
    refine wp_loop_rounds 1 ?_
    rw [rounds_succ]
    go_wp2
    go_ret
    exact ⟨_, rfl, ⟨_, Nat.le_refl _, by simp, rfl, fun i e he => by simp at he, fun j hj => by simp at hj⟩, (Below.refl _ _).alloc (Nat.le_refl _) _⟩
  · unfold maxLen at hm
    go_enter Tryz.func36, Tryz.ntmps36
    go_wp2
    clear hmk
    go_loopw [4] (fun i wr => ∃ k : Nat, k ≤ xs.length ∧ i = .int .i64 k ∧ Below w.heap.size w wr ∧ w.heap.size < wr.heap.size ∧ wr.there w.heap.size 0 (xs.length * 9) ∧ RowOf tkC 9 wr w.heap.size 0 (xs.take k)) (fun i _ => xs.length - (intOf i).toNat)
    case atStart => exact ⟨0, by omega, rfl, (Below.refl _ _).alloc (Nat.le_refl _) _, by simp, there_made _ _ _ (size_madeCells _ _), fun j e hj => by simp at hj⟩
    case round =>
      obtain ⟨k, hk, rfl, acc, hwz, hth, hrow⟩ := hrel
      by_cases hlt : k < xs.length
      · have hlt' : (k : Int) < (xs.length : Int) := by omega
        obtain ⟨e, he⟩ := row_get hlt
        obtain ⟨x0, x1, x2, x3, x4, x5, x6, x7, x8⟩ := tk_cells (hE.below acc k e he)
        have HE : Hid (xs[k]? = some e) := he
        have HR : Hid (RowOf tkC 9 wr w.heap.size 0 (xs.take k)) := hrow
        have HT : Hid (wr.there w.heap.size 0 (xs.length * 9)) := hth
        clear he hrow hth
        go_wp2_with (go_at_call 74; refine (toTask_any e _).mono ?_; rintro e1 w2 ⟨rfl, hb2⟩; have hth2 := there_below HT.out hb2 hwz; obtain ⟨c0, k0, f0⟩ := there_at hth2 hlt 0 (by omega); obtain ⟨c1, k1, f1⟩ := there_at hth2 hlt 1 (by omega); obtain ⟨c2, k2, f2⟩ := there_at hth2 hlt 2 (by omega); obtain ⟨c3, k3, f3⟩ := there_at hth2 hlt 3 (by omega); obtain ⟨c4, k4, f4⟩ := there_at hth2 hlt 4 (by omega); obtain ⟨c5, k5, f5⟩ := there_at hth2 hlt 5 (by omega); obtain ⟨c6, k6, f6⟩ := there_at hth2 hlt 6 (by omega); obtain ⟨c7, k7, f7⟩ := there_at hth2 hlt 7 (by omega); obtain ⟨c8, k8, f8⟩ := there_at hth2 hlt 8 (by omega); simp only [Nat.add_zero] at k0 f0; have HT2 : Hid (w2.there w.heap.size 0 (xs.length * 9)) := hth2; clear hth2; unfold tkV)
        obtain ⟨p1, p2⟩ := put_row (c := tkC) (x := e) HT2.out hlt (HR.out.below hb2) (List.length_take_of_le hk) tkC_len
        have ht : xs.take (k + 1) = xs.take k ++ [e] := by rw [List.take_add_one, HE.out]; rfl
        refine ⟨⟨k + 1, hlt, by go_num, ?_, ?_, p1, ht ▸ p2⟩, by simp [intOf]; omega⟩
        · exact ((((((((((acc.trans (hb2.mono acc.size))).setCell (Nat.le_refl _) _).setCell (Nat.le_refl _) _).setCell (Nat.le_refl _) _).setCell (Nat.le_refl _) _).setCell (Nat.le_refl _) _).setCell (Nat.le_refl _) _).setCell (Nat.le_refl _) _).setCell (Nat.le_refl _) _).setCell (Nat.le_refl _) _
        · simp only [World.size_setCell]; exact Nat.lt_of_lt_of_le hwz hb2.size
      · have hlt' : ¬ (k : Int) < (xs.length : Int) := by omega
        have hkk : k = xs.length := by omega
        rw [hkk, List.take_length] at hrow
        clear hkk
        go_wp2
        go_ret
        exact ⟨_, rfl, ⟨_, Nat.le_refl _, hwz, rfl, hrow, hth⟩, acc⟩
set_option maxHeartbeats 2000000 in
theorem eqTask_same (x : Tk) (w : World) : Calls Tryz.prog 80 #[tkV x, tkV x] w fun e w' => e = .returned (.bool true) ∧ Below w.heap.size w w' := by
  obtain ⟨st, gr, cpu, ni, ma, v, su, us, lo⟩ := x
  unfold tkV
  go_enter Tryz.func80, Tryz.ntmps80
  go_wp2
  go_ret
  exact ⟨rfl, by go_grown⟩
set_option maxHeartbeats 4000000 in
theorem eqTaskS_same (x y : Value) (xs : List Tk) (w : World) (hx : SlTk w x xs) (hy : SlTk w y xs) :
    Calls Tryz.prog 42 #[x, y] w fun e w' => e = .returned (.bool true) ∧ Below w.heap.size w w' := by
  rcases hx with ⟨h0, a, cap, rfl⟩ | ⟨g, o, cap, rfl, hE, hl, hm⟩
  · have : ∃ b cap', y = .slice b 0 cap' := by
      rcases hy with ⟨_, b, cap', rfl⟩ | ⟨g, o, cap', rfl, _⟩
      · exact ⟨_, _, rfl⟩
      · rw [h0]; exact ⟨_, _, rfl⟩
    obtain ⟨b, cap', rfl⟩ := this
    go_enter Tryz.func42, Tryz.ntmps42
    go_wp2
    refine wp_loop_rounds 1 ?_
    rw [rounds_succ]
    go_wp2
    go_ret
    exact ⟨rfl, Below.refl _ _⟩
  · rcases hy with ⟨h0, b, cap', rfl⟩ | ⟨g', o', cap', rfl, hE2, hl2, hm2⟩
    · rw [h0]
      go_enter Tryz.func42, Tryz.ntmps42
      go_wp2
      refine wp_loop_rounds 1 ?_
      rw [rounds_succ]
      go_wp2
      go_ret
      exact ⟨rfl, Below.refl _ _⟩
    · unfold maxLen at hm hm2
      go_enter Tryz.func42, Tryz.ntmps42
      go_wp2
      go_loopw [5] (fun i wr => ∃ k : Nat, k ≤ xs.length ∧ i = .int .i64 k ∧ Below w.heap.size w wr) (fun i _ => xs.length - (intOf i).toNat)
      case atStart => exact ⟨0, by omega, rfl, Below.refl _ _⟩
      case round =>
        obtain ⟨k, hk, rfl, acc⟩ := hrel
        by_cases hlt : k < xs.length
        · have hlt' : (k : Int) < (xs.length : Int) := by omega
          obtain ⟨e, he⟩ := row_get hlt
          obtain ⟨x0, x1, x2, x3, x4, x5, x6, x7, x8⟩ := tk_cells (hE.below acc k e he)
          obtain ⟨y0, y1, y2, y3, y4, y5, y6, y7, y8⟩ := tk_cells (hE2.below acc k e he)
          clear he
          go_wp2_with fail
          go_region_with (go_at_call 80; refine (eqTask_same e _).mono ?_; rintro e1 w2 ⟨rfl, hb2⟩)
          all_goals
            replace hb2 := (Below.refl _ wr).drew.trans hb2
            go_wp2
            go_roundw
            case rel => exact ⟨k + 1, by omega, by go_num, acc.trans (hb2.mono acc.size)⟩
            case measure => simp [intOf]; omega
        · have hlt' : ¬ (k : Int) < (xs.length : Int) := by omega
          go_wp2
          go_ret
          exact ⟨rfl, acc⟩
set_option maxRecDepth 20000 in
theorem read_tk {H : Type} {enc : TypeId × Value → H} {w : World} {base : Nat} {spare : Nat → Bool} {held : Bool} (fuel : Nat) (cs : List Value) (y : DataW H × List MemPlace)
    (h : DataW.trod enc Tryz.prog w base spare held fuel 98 cs = some y) : ∃ a : Tk, cs = tkC a ∧ True := by
  obtain ⟨n, hl, hf⟩ := trod_field Tryz.underlying98 h
  have hl : cs.length = 9 := hl.trans (by kernel_rfl)
  match cs, hl with
  | [c0, c1, c2, c3, c4, c5, c6, c7, c8], _ =>
    obtain ⟨y0, h0⟩ := hf 0 _ rfl
    have h0 : DataW.trod enc Tryz.prog w base spare held n 3 [c0] = some y0 := h0
    obtain ⟨b0, e0, _, w0⟩ := DataW.trod_int Tryz.underlying3 h0
    obtain ⟨y1, h1⟩ := hf 1 _ rfl
    have h1 : DataW.trod enc Tryz.prog w base spare held n 3 [c1] = some y1 := h1
    obtain ⟨b1, e1, _, w1⟩ := DataW.trod_int Tryz.underlying3 h1
    obtain ⟨y2, h2⟩ := hf 2 _ rfl
    have h2 : DataW.trod enc Tryz.prog w base spare held n 3 [c2] = some y2 := h2
    obtain ⟨b2, e2, _, w2⟩ := DataW.trod_int Tryz.underlying3 h2
    obtain ⟨y3, h3⟩ := hf 3 _ rfl
    have h3 : DataW.trod enc Tryz.prog w base spare held n 3 [c3] = some y3 := h3
    obtain ⟨b3, e3, _, w3⟩ := DataW.trod_int Tryz.underlying3 h3
    obtain ⟨y4, h4⟩ := hf 4 _ rfl
    have h4 : DataW.trod enc Tryz.prog w base spare held n 3 [c4] = some y4 := h4
    obtain ⟨b4, e4, _, w4⟩ := DataW.trod_int Tryz.underlying3 h4
    obtain ⟨y5, h5⟩ := hf 5 _ rfl
    have h5 : DataW.trod enc Tryz.prog w base spare held n 3 [c5] = some y5 := h5
    obtain ⟨b5, e5, _, w5⟩ := DataW.trod_int Tryz.underlying3 h5
    obtain ⟨y6, h6⟩ := hf 6 _ rfl
    have h6 : DataW.trod enc Tryz.prog w base spare held n 3 [c6] = some y6 := h6
    obtain ⟨b6, e6, _, w6⟩ := DataW.trod_int Tryz.underlying3 h6
    obtain ⟨y7, h7⟩ := hf 7 _ rfl
    have h7 : DataW.trod enc Tryz.prog w base spare held n 3 [c7] = some y7 := h7
    obtain ⟨b7, e7, _, w7⟩ := DataW.trod_int Tryz.underlying3 h7
    obtain ⟨y8, h8⟩ := hf 8 _ rfl
    have h8 : DataW.trod enc Tryz.prog w base spare held n 3 [c8] = some y8 := h8
    obtain ⟨b8, e8, _, w8⟩ := DataW.trod_int Tryz.underlying3 h8
    simp at e0 e1 e2 e3 e4 e5 e6 e7 e8
    subst e0 e1 e2 e3 e4 e5 e6 e7 e8
    exact ⟨⟨b0, b1, b2, b3, b4, b5, b6, b7, b8⟩, rfl, trivial⟩
theorem trod_tkS {H : Type} {enc : TypeId × Value → H} {w : World} {base : Nat} {spare : Nat → Bool} {held : Bool} {fuel : Nat} {v : Value} {y : DataW H × List MemPlace}
    (h : DataW.trod enc Tryz.prog w base spare held fuel 23 [v] = some y) : ∃ xs, SlTk w v xs := by
  have inh : Inhabited Tk := ⟨tk0⟩
  obtain ⟨xs, h1, _⟩ := open_rows (c := tkC) (R := fun _ => True) Tryz.underlying23 (show Tryz.prog.cellsOf 98 = 9 by kernel_rfl) (by omega) tkC_len read_tk h
  exact ⟨xs, h1⟩
end Go.Proofs.YtnmmglkigiakaaaGreat
namespace Go.Proofs.YtnmmglkigiakaaaGreat
set_option linter.unusedVariables false
set_option linter.unusedSimpArgs false
open Go.ChangeShapes Go.WideShapes Go.ChangeAt Go.RowKit

def mkSh (k : Int) : Sh := ⟨k, (k + 1) % 3 == 0, k + 1 + 1, k + 1 + 1 + 1, k + 1 + 1 + 1 + 1⟩
def mSh (k : Int) (n : Nat) : List Sh := (List.range n).map fun (i : Nat) => mkSh (k + 5 * (i : Int))
theorem mSh_len (k : Int) (n : Nat) : (mSh k n).length = n := by simp [mSh]
theorem mSh_get {k : Int} {n i : Nat} (h : i < n) : (mSh k n)[i]? = some (mkSh (k + 5 * (i : Int))) := by simp [mSh, h]
abbrev OwnSh := OwnR shC 5
end Go.Proofs.YtnmmglkigiakaaaGreat
namespace Go.Proofs.YtnmmglkigiakaaaGreat
set_option linter.unusedVariables false
set_option linter.unusedSimpArgs false
open Go.ChangeShapes Go.WideShapes Go.ChangeAt Go.RowKit

def mkCp (k : Int) : Cp := ⟨(k) % 3 == 0, k + 1, k + 1 + 1, k + 1 + 1 + 1, k + 1 + 1 + 1 + 1⟩
def mCp (k : Int) (n : Nat) : List Cp := (List.range n).map fun (i : Nat) => mkCp (k + 5 * (i : Int))
theorem mCp_len (k : Int) (n : Nat) : (mCp k n).length = n := by simp [mCp]
theorem mCp_get {k : Int} {n i : Nat} (h : i < n) : (mCp k n)[i]? = some (mkCp (k + 5 * (i : Int))) := by simp [mCp, h]
abbrev OwnCp := OwnR cpC 5
end Go.Proofs.YtnmmglkigiakaaaGreat
namespace Go.Proofs.YtnmmglkigiakaaaGreat
set_option linter.unusedVariables false
set_option linter.unusedSimpArgs false
open Go.ChangeShapes Go.WideShapes Go.ChangeAt Go.RowKit

def mkTk (k : Int) : Tk := ⟨k, k + 1, k + 1 + 1, k + 1 + 1 + 1, k + 1 + 1 + 1 + 1, k + 1 + 1 + 1 + 1 + 1, k + 1 + 1 + 1 + 1 + 1 + 1, k + 1 + 1 + 1 + 1 + 1 + 1 + 1, k + 1 + 1 + 1 + 1 + 1 + 1 + 1 + 1⟩
def mTk (k : Int) (n : Nat) : List Tk := (List.range n).map fun (i : Nat) => mkTk (k + 9 * (i : Int))
theorem mTk_len (k : Int) (n : Nat) : (mTk k n).length = n := by simp [mTk]
theorem mTk_get {k : Int} {n i : Nat} (h : i < n) : (mTk k n)[i]? = some (mkTk (k + 9 * (i : Int))) := by simp [mTk, h]
abbrev OwnTk := OwnR tkC 9
end Go.Proofs.YtnmmglkigiakaaaGreat
