/- Entries of one's own: what marks them and what asks whether they are held. -/
import Derived.Test.YtbifcjfjenpmnaaQN
import Derived.Test.YtbifcjfjenpmnaaQP
import Derived.Deep.AppendLies
namespace Go.Proofs.Ytbifcjfjenpmnaa
set_option linter.unusedVariables false
set_option linter.unusedSimpArgs false
open Go.ChangeShapes Go.WideShapes Go.ChangeAt Go.RowKit

/-- entries that lie in a block of their own, not below B, or none. -/
def OwnE (B : Nat) (W : World) (x : Value) (es : List Ent) : Prop :=
  (es = [] ∧ x = .slice none 0 0) ∨ ∃ g cap, B ≤ g ∧ g < W.heap.size ∧ x = .slice (some ⟨g, 0, none⟩) es.length cap ∧ EntAt W g 0 es ∧ W.there g 0 (es.length * 4) ∧ es.length ≤ cap ∧ cap ≤ maxLen
theorem OwnE.sl {B : Nat} {W : World} {x : Value} {es : List Ent} (h : OwnE B W x es) : SlE W x es := by
  rcases h with ⟨h1, h2⟩ | ⟨g, cap, _, _, h1, h2, _, h3, h4⟩
  · exact .inl ⟨h1, none, 0, h2⟩
  · exact .inr ⟨g, 0, cap, h1, h2, h3, h4⟩
theorem OwnE.below {B : Nat} {W W' : World} {x : Value} {es : List Ent} (h : OwnE B W x es) (hb : Below W.heap.size W W') : OwnE B W' x es := by
  rcases h with h | ⟨g, cap, h0, h1, h2, h3, h4, h5⟩
  · exact .inl h
  · exact .inr ⟨g, cap, h0, Nat.lt_of_lt_of_le h1 hb.size, h2, h3.below hb, there_below h4 hb h1, h5⟩
theorem OwnE.mono {B B' : Nat} {W : World} {x : Value} {es : List Ent} (h : OwnE B W x es) (hB : B' ≤ B) : OwnE B' W x es := by
  rcases h with h | ⟨g, cap, h0, h1⟩
  · exact .inl h
  · exact .inr ⟨g, cap, Nat.le_trans hB h0, h1⟩
/-- behind a write into another block. -/
theorem ent_grown {W W' : World} {g o : Nat} {r : Option Nat} {es : List Ent} (h : EntAt W g o es) (hg : W.grownBy W' r) (hne : r ≠ some g) : EntAt W' g o es := by
  intro i e he
  obtain ⟨h1, h2, h3, h4⟩ := h i e he
  have hb := hg.block g (block_lt_of_cell h1) (Ne.symm hne)
  exact ⟨(World.cell?_of_block hb).trans h1, (World.cell?_of_block hb).trans h2, (World.cell?_of_block hb).trans h3, (World.cell?_of_block hb).trans h4⟩
theorem there_grown {W W' : World} {g o n : Nat} {r : Option Nat} (h : W.there g o n) (hl : g < W.heap.size) (hg : W.grownBy W' r) (hne : r ≠ some g) : W'.there g o n := by
  have hb := hg.block g hl (Ne.symm hne)
  intro j hj
  obtain ⟨h1, h2⟩ := h j hj
  exact ⟨by rw [World.cell?_of_block hb]; exact h1, by rw [World.frozen?_of_block hb]; exact h2⟩
theorem OwnE.grown {B : Nat} {W W' : World} {x : Value} {es : List Ent} {r : Option Nat} (h : OwnE B W x es) (hg : W.grownBy W' r) (hne : ∀ g, x.ownBlock = some g → r ≠ some g) : OwnE B W' x es := by
  rcases h with h | ⟨g, cap, h0, h1, rfl, h3, h4, h5⟩
  · exact .inl h
  · have := hne g rfl
    exact .inr ⟨g, cap, h0, Nat.lt_of_lt_of_le h1 hg.size, rfl, ent_grown h3 hg this, there_grown h4 h1 hg this, h5⟩
theorem below_grown {B : Nat} {W W' : World} {g : Nat} (hg : W.grownBy W' (some g)) (hB : B ≤ g) (hBW : B ≤ W.heap.size) : Below B W W' :=
  ⟨hg.os, hg.tape, hg.output, hg.size, fun k hk => hg.block k (by omega) (fun e => by cases e; omega)⟩

/-- the entry that is marked from k on. -/
def mEnt (k : Int) : Ent := ⟨k % 3 == 0, k + 1, k + 1 + 1, k + 1 + 1 + 1⟩
def mEnts (k : Int) (n : Nat) : List Ent := (List.range n).map fun (i : Nat) => mEnt (k + 4 * (i : Int))
theorem mEnts_len (k : Int) (n : Nat) : (mEnts k n).length = n := by simp [mEnts]
theorem mEnts_get {k : Int} {n i : Nat} (h : i < n) : (mEnts k n)[i]? = some (mEnt (k + 4 * (i : Int))) := by simp [mEnts, h]

set_option maxHeartbeats 4000000 in
theorem markEntryS_any (g n cap : Nat) (k0 : Int) (w : World) (hth : w.there g 0 (n * 4)) (hg : g < w.heap.size) (hn : n ≤ 20) (hk0 : 0 ≤ k0) (hk1 : k0 ≤ 1000) :
    Calls Try.prog 57 #[.slice (some ⟨g, 0, none⟩) n cap, .int .i64 k0] w fun e w' => e = .returned (.int .i64 (k0 + 4 * n)) ∧ w.grownBy w' (some g) ∧ w'.there g 0 (n * 4) ∧ EntAt w' g 0 (mEnts k0 n) := by
  go_enter Try.func57, Try.ntmps57
  go_wp2
  go_loopw [1, 5] (fun c i wr => ∃ k : Nat, k ≤ n ∧ i = .int .i64 k ∧ c = .int .i64 (k0 + 4 * k) ∧ w.grownBy wr (some g) ∧ wr.there g 0 (n * 4) ∧ EntAt wr g 0 ((mEnts k0 n).take k)) (fun _ i _ => n - (intOf i).toNat)
  case atStart => exact ⟨0, by omega, rfl, by simp, grown_refl w _, hth, fun i e he => by simp at he⟩
  case round =>
    obtain ⟨k, hk, rfl, rfl, acc, hth, hrow⟩ := hrel
    by_cases hlt : k < n
    · have hlt' : (k : Int) < (n : Int) := by omega
      obtain ⟨⟨c0, x0, f0⟩, ⟨c1, x1, f1⟩, ⟨c2, x2, f2⟩, ⟨c3, x3, f3⟩⟩ := there_four hth hlt
      obtain ⟨p1, p2⟩ := put_ent (es := mEnts k0 n) (e := mEnt (k0 + 4 * (k : Int))) hth hlt hrow (mEnts_get hlt)
      go_wp2
      exact ⟨⟨k + 1, hlt, by go_num, by (congr 1; omega), grown_set (grown_set (grown_set (grown_set acc _ _) _ _) _ _) _ _, p1, p2⟩, by simp [intOf]; omega⟩
    · have hlt' : ¬ (k : Int) < (n : Int) := by omega
      have hkk : k = n := by omega
      subst hkk
      rw [List.take_of_length_le (by rw [mEnts_len]; exact Nat.le_refl _)] at hrow
      go_wp2
      go_ret
      exact ⟨rfl, acc, hth, hrow⟩

theorem markNone (k0 : Int) (w : World) (hk0 : 0 ≤ k0) (hk1 : k0 ≤ 1000) :
    Calls Try.prog 57 #[.slice none 0 0, .int .i64 k0] w fun e w' => e = .returned (.int .i64 k0) ∧ w' = w := by
  go_enter Try.func57, Try.ntmps57
  go_wp2
  refine wp_loop_rounds 1 ?_
  rw [rounds_succ]
  go_wp2
  go_ret
  exact ⟨rfl, rfl⟩
set_option maxHeartbeats 4000000 in
theorem heldEntryS_any (x : Value) (n : Nat) (k0 : Int) (w : World) (hs : SlE w x (mEnts k0 n)) (hn : n ≤ 20) (hk0 : 0 ≤ k0) (hk1 : k0 ≤ 1000) :
    Calls Try.prog 58 #[x, .int .i64 k0] w fun e w' => e = .returned (.int .i64 (k0 + 4 * n)) ∧ Below w.heap.size w w' := by
  rcases hs with ⟨h0, a, cap, rfl⟩ | ⟨g, o, cap, rfl, hE, hl, hm⟩
  · have hn0 : n = 0 := by have := mEnts_len k0 n; rw [h0] at this; simpa using this.symm
    subst hn0
    go_enter Try.func58, Try.ntmps58
    go_wp2
    refine wp_loop_rounds 1 ?_
    rw [rounds_succ]
    go_wp2
    go_ret
    exact ⟨by simp, Below.refl _ _⟩
  · rw [mEnts_len] at hl ⊢
    unfold maxLen at hm
    go_enter Try.func58, Try.ntmps58
    go_wp2
    go_loopw [1, 5] (fun c i wr => ∃ k : Nat, k ≤ n ∧ i = .int .i64 k ∧ c = .int .i64 (k0 + 4 * k) ∧ Below w.heap.size w wr) (fun _ i _ => n - (intOf i).toNat)
    case atStart => exact ⟨0, by omega, rfl, by simp, Below.refl _ _⟩
    case round =>
      obtain ⟨k, hk, rfl, rfl, acc⟩ := hrel
      by_cases hlt : k < n
      · have hlt' : (k : Int) < (n : Int) := by omega
        obtain ⟨x0, x1, x2, x3⟩ := hE.below acc k _ (mEnts_get hlt)
        unfold mEnt at x0 x1 x2 x3
        dsimp only at x0 x1 x2 x3
        go_wp2
        exact ⟨⟨k + 1, hlt, by go_num, by (congr 1; omega), acc⟩, by simp [intOf]; omega⟩
      · have hlt' : ¬ (k : Int) < (n : Int) := by omega
        have hkk : k = n := by omega
        subst hkk
        go_wp2
        go_ret
        exact ⟨rfl, acc⟩

set_option maxHeartbeats 4000000 in
theorem markQueue_any (q : Qu) (sl : Value) (B : Nat) (k0 : Int) (w : World) (hs : OwnE B w sl q.es) (hBw : B ≤ w.heap.size) (hn : q.es.length ≤ 20) (hk0 : 0 ≤ k0) (hk1 : k0 ≤ 1000) :
    Calls Try.prog 25 #[quV q sl, .int .i64 k0] w fun e w' => e = .returned (.int .i64 (k0 + 4 * q.es.length)) ∧ OwnE B w' sl (mEnts k0 q.es.length) ∧ w.grownBy w' sl.ownBlock := by
  have hB : ∀ A, Below w.heap.size w (w.alloc A) := fun A => (Below.refl _ _).alloc (Nat.le_refl _) _
  have hG : ∀ A r, w.grownBy (w.alloc A) r := fun A r => World.grownBy_alloc w A r
  unfold quV
  rcases hs with ⟨h0, rfl⟩ | ⟨g, cap, hg0, hg, rfl, hE, hth, hl, hm⟩
  · rw [h0]
    go_enter Try.func25, Try.ntmps25
    go_wp2_with (go_at_call 57; refine (markNone _ _ hk0 hk1).mono ?_; rintro e1 w2 ⟨rfl, rfl⟩)
    go_ret
    exact ⟨by simp, .inl ⟨rfl, rfl⟩, hG _ _⟩
  · go_enter Try.func25, Try.ntmps25
    go_wp2_with (go_at_call 57; refine (markEntryS_any g q.es.length cap k0 _ (there_below hth (hB _) hg) (by simp; omega) hn hk0 hk1).mono ?_; rintro e1 w2 ⟨rfl, hb2, hth2, hE2⟩)
    go_ret
    refine ⟨rfl, .inr ⟨g, cap, hg0, ?_, by rw [mEnts_len], hE2, by rw [mEnts_len]; exact hth2, by rw [mEnts_len]; exact hl, hm⟩, grown_trans (hG _ _) hb2⟩
    have := hb2.size
    simp at this
    omega
set_option maxHeartbeats 4000000 in
theorem heldQueue_any (q : Qu) (n : Nat) (sl : Value) (k0 : Int) (w : World) (hs : SlE w sl (mEnts k0 n)) (hn : n ≤ 20) (hk0 : 0 ≤ k0) (hk1 : k0 ≤ 1000) :
    Calls Try.prog 26 #[quV q sl, .int .i64 k0] w fun e w' => e = .returned (.int .i64 (k0 + 4 * n)) ∧ Below w.heap.size w w' := by
  have hB : ∀ A, Below w.heap.size w (w.alloc A) := fun A => (Below.refl _ _).alloc (Nat.le_refl _) _
  unfold quV
  go_enter Try.func26, Try.ntmps26
  go_wp2_with (go_at_call 58; refine (heldEntryS_any sl n k0 _ (hs.below (hB _)) hn hk0 hk1).mono ?_; rintro e1 w2 ⟨rfl, hb2⟩)
  go_ret
  exact ⟨rfl, (box_kept hb2).1⟩
end Go.Proofs.Ytbifcjfjenpmnaa
