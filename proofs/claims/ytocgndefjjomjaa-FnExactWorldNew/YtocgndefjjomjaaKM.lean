/- Rows of numbers and of bools that are one's own: what marks them, what asks whether they are held. -/
import Derived.Test.YtocgndefjjomjaaKO
namespace Go.Proofs.Ytocgndefjjomjaa
set_option linter.unusedVariables false
set_option linter.unusedSimpArgs false
open Go.ChangeShapes Go.WideShapes Go.ChangeAt Go.RowKit

/-- between two worlds only blocks in S were written, and blocks that were not there. -/
structure Kept (S : Nat → Prop) (w w' : World) : Prop where
  os : w'.os = w.os
  tape : w'.tape = w.tape
  output : w'.output = w.output
  size : w.heap.size ≤ w'.heap.size
  block : ∀ k, k < w.heap.size → ¬ S k → w'.heap[k]? = w.heap[k]?
theorem Kept.refl (S : Nat → Prop) (w : World) : Kept S w w := ⟨rfl, rfl, rfl, Nat.le_refl _, fun _ _ _ => rfl⟩
theorem Kept.trans {S T : Nat → Prop} {w w1 w2 : World} (h : Kept S w w1) (h' : Kept T w1 w2) : Kept (fun k => S k ∨ T k) w w2 :=
  ⟨h'.os.trans h.os, h'.tape.trans h.tape, h'.output.trans h.output, Nat.le_trans h.size h'.size,
   fun k hk hn => (h'.block k (Nat.lt_of_lt_of_le hk h.size) (fun x => hn (.inr x))).trans (h.block k hk (fun x => hn (.inl x)))⟩
theorem Kept.mono {S T : Nat → Prop} {w w1 : World} (h : Kept S w w1) (hs : ∀ k, S k → T k) : Kept T w w1 :=
  ⟨h.os, h.tape, h.output, h.size, fun k hk hn => h.block k hk (fun x => hn (hs k x))⟩
theorem Kept.ofGrown {w w1 : World} {r : Option Nat} (h : w.grownBy w1 r) : Kept (fun k => r = some k) w w1 :=
  ⟨h.os, h.tape, h.output, h.size, fun k hk hn => h.block k hk (fun x => hn x.symm)⟩
theorem Kept.ofBelow {w w1 : World} (h : Below w.heap.size w w1) : Kept (fun _ => False) w w1 :=
  ⟨h.os, h.tape, h.output, h.size, fun k hk _ => h.block k hk⟩
theorem Kept.toBelow {S : Nat → Prop} {w w1 : World} {B : Nat} (h : Kept S w w1) (hB : B ≤ w.heap.size) (hs : ∀ k, S k → B ≤ k) : Below B w w1 :=
  ⟨h.os, h.tape, h.output, h.size, fun k hk => h.block k (by omega) (fun x => by have := hs k x; omega)⟩
theorem Kept.there {S : Nat → Prop} {w w1 : World} {g o n : Nat} (h : Kept S w w1) (hl : g < w.heap.size) (hn : ¬ S g) (ht : w.there g o n) : w1.there g o n := by
  have hb := h.block g hl hn
  intro j hj
  obtain ⟨h1, h2⟩ := ht j hj
  exact ⟨by rw [World.cell?_of_block hb]; exact h1, by rw [World.frozen?_of_block hb]; exact h2⟩
theorem Kept.ints {S : Nat → Prop} {w w1 : World} {g o : Nat} {ws : List Int} (h : Kept S w w1) (hl : g < w.heap.size) (hn : ¬ S g) (ht : IntAt w g o ws) : IntAt w1 g o ws := by
  intro i n hi
  rw [World.cell?_of_block (h.block g hl hn)]
  exact ht i n hi
theorem Kept.bools {S : Nat → Prop} {w w1 : World} {g o : Nat} {ws : List Bool} (h : Kept S w w1) (hl : g < w.heap.size) (hn : ¬ S g) (ht : BoolAt w g o ws) : BoolAt w1 g o ws := by
  intro i n hi
  rw [World.cell?_of_block (h.block g hl hn)]
  exact ht i n hi

theorem Kept.set (w : World) (b o : Nat) (v : Value) : Kept (fun k => k = b) w (w.setCell ⟨b, o, none⟩ v) :=
  ⟨rfl, rfl, rfl, by simp [World.setCell], fun k _ hne => heap_setCell_other _ _ _ _ (fun e => hne e)⟩
/-- numbers that lie in a block of their own, not below B, or none. -/
def OwnI (B : Nat) (W : World) (x : Value) (ws : List Int) : Prop :=
  (ws = [] ∧ x = .slice none 0 0) ∨ ∃ g cap, B ≤ g ∧ g < W.heap.size ∧ x = .slice (some ⟨g, 0, none⟩) ws.length cap ∧ IntAt W g 0 ws ∧ W.there g 0 ws.length ∧ ws.length ≤ cap ∧ cap ≤ maxLen
def OwnB (B : Nat) (W : World) (x : Value) (ws : List Bool) : Prop :=
  (ws = [] ∧ x = .slice none 0 0) ∨ ∃ g cap, B ≤ g ∧ g < W.heap.size ∧ x = .slice (some ⟨g, 0, none⟩) ws.length cap ∧ BoolAt W g 0 ws ∧ W.there g 0 ws.length ∧ ws.length ≤ cap ∧ cap ≤ maxLen
theorem OwnI.sl {B : Nat} {W : World} {x : Value} {ws : List Int} (h : OwnI B W x ws) : SlI W x ws := by
  rcases h with ⟨h1, h2⟩ | ⟨g, cap, _, _, h1, h2, _, h3, h4⟩
  · exact .inl ⟨h1, none, 0, h2⟩
  · exact .inr ⟨g, 0, cap, h1, h2, h3, h4⟩
theorem OwnB.sl {B : Nat} {W : World} {x : Value} {ws : List Bool} (h : OwnB B W x ws) : SlB W x ws := by
  rcases h with ⟨h1, h2⟩ | ⟨g, cap, _, _, h1, h2, _, h3, h4⟩
  · exact .inl ⟨h1, none, 0, h2⟩
  · exact .inr ⟨g, 0, cap, h1, h2, h3, h4⟩
theorem OwnI.mono {B B' : Nat} {W : World} {x : Value} {ws : List Int} (h : OwnI B W x ws) (hB : B' ≤ B) : OwnI B' W x ws := by
  rcases h with h | ⟨g, cap, h0, h1⟩
  · exact .inl h
  · exact .inr ⟨g, cap, Nat.le_trans hB h0, h1⟩
theorem OwnB.mono {B B' : Nat} {W : World} {x : Value} {ws : List Bool} (h : OwnB B W x ws) (hB : B' ≤ B) : OwnB B' W x ws := by
  rcases h with h | ⟨g, cap, h0, h1⟩
  · exact .inl h
  · exact .inr ⟨g, cap, Nat.le_trans hB h0, h1⟩
theorem OwnI.kept {S : Nat → Prop} {B : Nat} {W W' : World} {x : Value} {ws : List Int} (h : OwnI B W x ws) (hk : Kept S W W') (hne : ∀ g, x.ownBlock = some g → ¬ S g) : OwnI B W' x ws := by
  rcases h with h | ⟨g, cap, h0, h1, rfl, h3, h4, h5⟩
  · exact .inl h
  · have := hne g rfl
    exact .inr ⟨g, cap, h0, Nat.lt_of_lt_of_le h1 hk.size, rfl, hk.ints h1 this h3, hk.there h1 this h4, h5⟩
theorem OwnB.kept {S : Nat → Prop} {B : Nat} {W W' : World} {x : Value} {ws : List Bool} (h : OwnB B W x ws) (hk : Kept S W W') (hne : ∀ g, x.ownBlock = some g → ¬ S g) : OwnB B W' x ws := by
  rcases h with h | ⟨g, cap, h0, h1, rfl, h3, h4, h5⟩
  · exact .inl h
  · have := hne g rfl
    exact .inr ⟨g, cap, h0, Nat.lt_of_lt_of_le h1 hk.size, rfl, hk.bools h1 this h3, hk.there h1 this h4, h5⟩
theorem OwnI.below {B : Nat} {W W' : World} {x : Value} {ws : List Int} (h : OwnI B W x ws) (hb : Below W.heap.size W W') : OwnI B W' x ws :=
  h.kept (Kept.ofBelow hb) (fun _ _ hf => hf)
theorem OwnB.below {B : Nat} {W W' : World} {x : Value} {ws : List Bool} (h : OwnB B W x ws) (hb : Below W.heap.size W W') : OwnB B W' x ws :=
  h.kept (Kept.ofBelow hb) (fun _ _ hf => hf)
theorem OwnI.at {B : Nat} {W : World} {x : Value} {ws : List Int} (h : OwnI B W x ws) : ∀ g, x.ownBlock = some g → B ≤ g ∧ g < W.heap.size := by
  intro g hg
  rcases h with ⟨_, rfl⟩ | ⟨g', cap, h0, h1, rfl, _⟩
  · simp [Value.ownBlock] at hg
  · have : g' = g := by simpa [Value.ownBlock] using hg
    subst this; exact ⟨h0, h1⟩
theorem OwnB.at {B : Nat} {W : World} {x : Value} {ws : List Bool} (h : OwnB B W x ws) : ∀ g, x.ownBlock = some g → B ≤ g ∧ g < W.heap.size := by
  intro g hg
  rcases h with ⟨_, rfl⟩ | ⟨g', cap, h0, h1, rfl, _⟩
  · simp [Value.ownBlock] at hg
  · have : g' = g := by simpa [Value.ownBlock] using hg
    subst this; exact ⟨h0, h1⟩
theorem OwnI.form {B : Nat} {W : World} {x : Value} {ws : List Int} (h : OwnI B W x ws) : ∃ p c, x = .slice p ws.length c := by
  rcases h with ⟨h1, h2⟩ | ⟨g, cap, _, _, h1, _⟩
  · exact ⟨none, 0, by rw [h1]; exact h2⟩
  · exact ⟨_, _, h1⟩
theorem OwnB.form {B : Nat} {W : World} {x : Value} {ws : List Bool} (h : OwnB B W x ws) : ∃ p c, x = .slice p ws.length c := by
  rcases h with ⟨h1, h2⟩ | ⟨g, cap, _, _, h1, _⟩
  · exact ⟨none, 0, by rw [h1]; exact h2⟩
  · exact ⟨_, _, h1⟩
theorem NewI.own {B : Nat} {W : World} {x : Value} {ws : List Int} (h : NewI B W x ws) (hn : ws.length ≤ 1048576) : OwnI B W x ws := by
  obtain ⟨g, h1, h2, h3, h4, h5⟩ := h
  exact .inr ⟨g, _, h1, h2, h3, h4, h5, Nat.le_refl _, by unfold maxLen; omega⟩
theorem NewB.own {B : Nat} {W : World} {x : Value} {ws : List Bool} (h : NewB B W x ws) (hn : ws.length ≤ 1048576) : OwnB B W x ws := by
  obtain ⟨g, h1, h2, h3, h4, h5⟩ := h
  exact .inr ⟨g, _, h1, h2, h3, h4, h5, Nat.le_refl _, by unfold maxLen; omega⟩

def mInts (k : Int) (n : Nat) : List Int := (List.range n).map fun (i : Nat) => k + (i : Int)
theorem mInts_len (k : Int) (n : Nat) : (mInts k n).length = n := by simp [mInts]
theorem mInts_get {k : Int} {n i : Nat} (h : i < n) : (mInts k n)[i]? = some (k + (i : Int)) := by simp [mInts, h]
def mBools (k : Int) (n : Nat) : List Bool := (List.range n).map fun (i : Nat) => (k + (i : Int)) % 3 == 0
theorem mBools_len (k : Int) (n : Nat) : (mBools k n).length = n := by simp [mBools]
theorem mBools_get {k : Int} {n i : Nat} (h : i < n) : (mBools k n)[i]? = some ((k + (i : Int)) % 3 == 0) := by simp [mBools, h]

set_option maxHeartbeats 2000000 in
theorem markIntS_own (x : Value) (ws : List Int) (B : Nat) (k0 : Int) (w : World) (hs : OwnI B w x ws) (hn : ws.length ≤ 1048576) (hk0 : 0 ≤ k0) (hk1 : k0 ≤ 400000000) :
    Calls Try.prog 26 #[x, .int .i64 k0] w fun e w' => e = .returned (.int .i64 (k0 + ws.length)) ∧ OwnI B w' x (mInts k0 ws.length) ∧ w.grownBy w' x.ownBlock := by
  rcases hs with ⟨rfl, rfl⟩ | ⟨g, cap, hB, hg, rfl, hE, hth, hc, hm⟩
  · go_enter Try.func26, Try.ntmps26
    go_wp2
    refine wp_loop_rounds 1 ?_
    rw [rounds_succ]
    go_wp2
    go_ret
    exact ⟨by simp, .inl ⟨rfl, rfl⟩, grown_refl w _⟩
  · generalize hnl : ws.length = n at *
    clear hE
    go_enter Try.func26, Try.ntmps26
    go_wp2
    go_loopw [1, 5] (fun c i wr => ∃ k : Nat, k ≤ n ∧ i = .int .i64 k ∧ c = .int .i64 (k0 + k) ∧ w.grownBy wr (some g) ∧ wr.there g 0 n ∧ IntAt wr g 0 ((mInts k0 n).take k)) (fun _ i _ => n - (intOf i).toNat)
    case atStart => exact ⟨0, by omega, rfl, by simp, grown_refl w _, hth, fun i e he => by simp at he⟩
    case round =>
      obtain ⟨k, hk, rfl, rfl, acc, hth, hrow⟩ := hrel
      by_cases hlt : k < n
      · have hlt' : (k : Int) < (n : Int) := by omega
        obtain ⟨c0, x0, f0⟩ := there_one hth hlt
        obtain ⟨p1, p2⟩ := put_int (ws := mInts k0 n) (u := k0 + (k : Int)) hth hlt hrow (mInts_get hlt)
        go_wp2
        exact ⟨⟨k + 1, hlt, by go_num, by (congr 1; omega), grown_set acc _ _, p1, p2⟩, by simp [intOf]; omega⟩
      · have hlt' : ¬ (k : Int) < (n : Int) := by omega
        have hkk : k = n := by omega
        subst hkk
        rw [List.take_of_length_le (by rw [mInts_len]; exact Nat.le_refl _)] at hrow
        go_wp2
        go_ret
        exact ⟨rfl, .inr ⟨g, cap, hB, Nat.lt_of_lt_of_le hg acc.size, by rw [mInts_len], hrow, by rw [mInts_len]; exact hth, by rw [mInts_len]; exact hc, hm⟩, acc⟩

set_option maxHeartbeats 2000000 in
theorem markBoolS_own (x : Value) (ws : List Bool) (B : Nat) (k0 : Int) (w : World) (hs : OwnB B w x ws) (hn : ws.length ≤ 1048576) (hk0 : 0 ≤ k0) (hk1 : k0 ≤ 400000000) :
    Calls Try.prog 27 #[x, .int .i64 k0] w fun e w' => e = .returned (.int .i64 (k0 + ws.length)) ∧ OwnB B w' x (mBools k0 ws.length) ∧ w.grownBy w' x.ownBlock := by
  rcases hs with ⟨rfl, rfl⟩ | ⟨g, cap, hB, hg, rfl, hE, hth, hc, hm⟩
  · go_enter Try.func27, Try.ntmps27
    go_wp2
    refine wp_loop_rounds 1 ?_
    rw [rounds_succ]
    go_wp2
    go_ret
    exact ⟨by simp, .inl ⟨rfl, rfl⟩, grown_refl w _⟩
  · generalize hnl : ws.length = n at *
    clear hE
    go_enter Try.func27, Try.ntmps27
    go_wp2
    go_loopw [1, 5] (fun c i wr => ∃ k : Nat, k ≤ n ∧ i = .int .i64 k ∧ c = .int .i64 (k0 + k) ∧ w.grownBy wr (some g) ∧ wr.there g 0 n ∧ BoolAt wr g 0 ((mBools k0 n).take k)) (fun _ i _ => n - (intOf i).toNat)
    case atStart => exact ⟨0, by omega, rfl, by simp, grown_refl w _, hth, fun i e he => by simp at he⟩
    case round =>
      obtain ⟨k, hk, rfl, rfl, acc, hth, hrow⟩ := hrel
      by_cases hlt : k < n
      · have hlt' : (k : Int) < (n : Int) := by omega
        obtain ⟨c0, x0, f0⟩ := there_one hth hlt
        obtain ⟨p1, p2⟩ := put_bool (ws := mBools k0 n) (u := (k0 + (k : Int)) % 3 == 0) hth hlt hrow (mBools_get hlt)
        go_wp2
        exact ⟨⟨k + 1, hlt, by go_num, by (congr 1; omega), grown_set acc _ _, p1, p2⟩, by simp [intOf]; omega⟩
      · have hlt' : ¬ (k : Int) < (n : Int) := by omega
        have hkk : k = n := by omega
        subst hkk
        rw [List.take_of_length_le (by rw [mBools_len]; exact Nat.le_refl _)] at hrow
        go_wp2
        go_ret
        exact ⟨rfl, .inr ⟨g, cap, hB, Nat.lt_of_lt_of_le hg acc.size, by rw [mBools_len], hrow, by rw [mBools_len]; exact hth, by rw [mBools_len]; exact hc, hm⟩, acc⟩

set_option maxHeartbeats 4000000 in
theorem heldIntS_any (x : Value) (n : Nat) (k0 : Int) (w : World) (hs : SlI w x (mInts k0 n)) (hn : n ≤ 1048576) (hk0 : 0 ≤ k0) (hk1 : k0 ≤ 400000000) :
    Calls Try.prog 29 #[x, .int .i64 k0] w fun e w' => e = .returned (.int .i64 (k0 + n)) ∧ Below w.heap.size w w' := by
  rcases hs with ⟨h0, a, cap, rfl⟩ | ⟨g, o, cap, rfl, hE, hl, hm⟩
  · have hn0 : n = 0 := by have := mInts_len k0 n; rw [h0] at this; simpa using this.symm
    subst hn0
    go_enter Try.func29, Try.ntmps29
    go_wp2
    refine wp_loop_rounds 1 ?_
    rw [rounds_succ]
    go_wp2
    go_ret
    exact ⟨by simp, Below.refl _ _⟩
  · rw [mInts_len] at hl ⊢
    unfold maxLen at hm
    go_enter Try.func29, Try.ntmps29
    go_wp2
    go_loopw [1, 5] (fun c i wr => ∃ k : Nat, k ≤ n ∧ i = .int .i64 k ∧ c = .int .i64 (k0 + k) ∧ Below w.heap.size w wr) (fun _ i _ => n - (intOf i).toNat)
    case atStart => exact ⟨0, by omega, rfl, by simp, Below.refl _ _⟩
    case round =>
      obtain ⟨k, hk, rfl, rfl, acc⟩ := hrel
      by_cases hlt : k < n
      · have hlt' : (k : Int) < (n : Int) := by omega
        have x0 := hE.below acc k _ (mInts_get hlt)
        go_wp2
        exact ⟨⟨k + 1, hlt, by go_num, by (congr 1; omega), acc⟩, by simp [intOf]; omega⟩
      · have hlt' : ¬ (k : Int) < (n : Int) := by omega
        have hkk : k = n := by omega
        subst hkk
        go_wp2
        go_ret
        exact ⟨rfl, acc⟩

set_option maxHeartbeats 4000000 in
theorem heldBoolS_any (x : Value) (n : Nat) (k0 : Int) (w : World) (hs : SlB w x (mBools k0 n)) (hn : n ≤ 1048576) (hk0 : 0 ≤ k0) (hk1 : k0 ≤ 400000000) :
    Calls Try.prog 30 #[x, .int .i64 k0] w fun e w' => e = .returned (.int .i64 (k0 + n)) ∧ Below w.heap.size w w' := by
  rcases hs with ⟨h0, a, cap, rfl⟩ | ⟨g, o, cap, rfl, hE, hl, hm⟩
  · have hn0 : n = 0 := by have := mBools_len k0 n; rw [h0] at this; simpa using this.symm
    subst hn0
    go_enter Try.func30, Try.ntmps30
    go_wp2
    refine wp_loop_rounds 1 ?_
    rw [rounds_succ]
    go_wp2
    go_ret
    exact ⟨by simp, Below.refl _ _⟩
  · rw [mBools_len] at hl ⊢
    unfold maxLen at hm
    go_enter Try.func30, Try.ntmps30
    go_wp2
    go_loopw [1, 5] (fun c i wr => ∃ k : Nat, k ≤ n ∧ i = .int .i64 k ∧ c = .int .i64 (k0 + k) ∧ Below w.heap.size w wr) (fun _ i _ => n - (intOf i).toNat)
    case atStart => exact ⟨0, by omega, rfl, by simp, Below.refl _ _⟩
    case round =>
      obtain ⟨k, hk, rfl, rfl, acc⟩ := hrel
      by_cases hlt : k < n
      · have hlt' : (k : Int) < (n : Int) := by omega
        have x0 := hE.below acc k _ (mBools_get hlt)
        go_wp2
        exact ⟨⟨k + 1, hlt, by go_num, by (congr 1; omega), acc⟩, by simp [intOf]; omega⟩
      · have hlt' : ¬ (k : Int) < (n : Int) := by omega
        have hkk : k = n := by omega
        subst hkk
        go_wp2
        go_ret
        exact ⟨rfl, acc⟩
end Go.Proofs.Ytocgndefjjomjaa
