/- The reader of drawn inputs: contracts of l20Open and of the reader's pick, over whatever bytes came in. -/
import Derived.Test.YtpnamoecoihfeaaRows
import Derived.WalkKit
import Derived.ProofKit
import Derived.OpenShut
import Derived.ShutString
import Derived.WalkLawsBesides
import Derived.LoopTactic
import Derived.Outline
import Derived.Handy
import Derived.Deep.QuietTactic
import Derived.BigQuiet
import Derived.Laws.CopyOwn
namespace Go.Proofs.Ytpnamoecoihfeaa
open Go.ChangeShapes Go.WideShapes Go.ChangeAt Go.RowKit

/-- What is told of a slice of integers that came in: it is nil; or it leads to a row of cap cells. -/
def IsRow (k : IntKind) (w : World) (a : Option Addr) (len cap : Nat) (zs : List Int) : Prop :=
  (a = none ∧ len = 0 ∧ cap = 0 ∧ zs = []) ∨
  ∃ x, a = some x ∧ len ≤ cap ∧ cap ≤ maxLen ∧ zs.length = cap ∧ (∀ i, i < zs.length → w.cell? (x.add i) = some (.int k (zs.getD i 0))) ∧ ∀ n ∈ zs, (Lit.int k n).wf = true

/-- Whatever lay below the heap's end lies as it lay, but for block b. -/
structure Keep (b : Nat) (w w' : World) : Prop where
  os : w'.os = w.os
  tape : w'.tape = w.tape
  output : w'.output = w.output
  size : w.heap.size ≤ w'.heap.size
  block : ∀ k, k < w.heap.size → k ≠ b → w'.heap[k]? = w.heap[k]?
theorem Keep.refl (b : Nat) (w : World) : Keep b w w := ⟨rfl, rfl, rfl, Nat.le_refl _, fun _ _ _ => rfl⟩
theorem Keep.trans {b : Nat} {x y z : World} (h : Keep b x y) (k : Keep b y z) : Keep b x z :=
  ⟨k.os.trans h.os, k.tape.trans h.tape, k.output.trans h.output, Nat.le_trans h.size k.size, fun j hj hb => (k.block j (Nat.lt_of_lt_of_le hj h.size) hb).trans (h.block j hj hb)⟩
theorem Keep.of_below {b : Nat} {w w' : World} (h : Below w.heap.size w w') : Keep b w w' := ⟨h.os, h.tape, h.output, h.size, fun j hj _ => h.block j hj⟩
theorem Keep.below {b B : Nat} {w w' : World} (h : Keep b w w') (hb : B ≤ b) (hB : B ≤ w.heap.size) : Below B w w' := ⟨h.os, h.tape, h.output, h.size, fun j hj => h.block j (by omega) (by omega)⟩
theorem Keep.setCell (b o : Nat) (w : World) (v : Value) : Keep b w (w.setCell ⟨b, o, none⟩ v) :=
  ⟨rfl, rfl, rfl, by simp, fun j _ hb => Below.heap_setCell w _ v j hb⟩
theorem Keep.drew {b : Nat} {w w' : World} (h : Keep b w w') : Keep b w w'.drew := ⟨h.os, h.tape, h.output, h.size, h.block⟩
theorem Keep.alloc {b : Nat} {w w' : World} (h : Keep b w w') (o : Obj) : Keep b w (w'.alloc o) :=
  h.trans (Keep.of_below ((Below.refl _ w').alloc (Nat.le_refl _) o))
theorem Keep.cell {b : Nat} {w w' : World} (h : Keep b w w') {p : Addr} {v : Value} (hp : p.block ≠ b) (hc : w.cell? p = some v) : w'.cell? p = some v :=
  (World.cell?_of_block (w := w) (h.block p.block (block_lt_of_cell hc) hp)).trans hc

/-- The bytes that a reader reads: none, or so many cells outside the reader's own block. -/
def Src (b : Nat) (a : Option Addr) (len : Nat) (w : World) : Prop :=
  len = 0 ∨ ∃ blk off, a = some ⟨blk, off, none⟩ ∧ blk ≠ b ∧ ∀ i, i < len → ∃ z : Int, 0 ≤ z ∧ z ≤ 255 ∧ w.cell? ⟨blk, off + i, none⟩ = some (.int .u8 z)
theorem Src.keep {b : Nat} {a : Option Addr} {len : Nat} {w w' : World} (h : Src b a len w) (k : Keep b w w') : Src b a len w' := by
  rcases h with h | ⟨blk, off, ha, hb, hc⟩
  · exact .inl h
  · exact .inr ⟨blk, off, ha, hb, fun i hi => by obtain ⟨z, h1, h2, h3⟩ := hc i hi; exact ⟨z, h1, h2, k.cell hb h3⟩⟩
/-- A reader at block b that has gone on at most n times. -/
def Rd (b n : Nat) (w : World) : Prop :=
  ∃ (a : Option Addr) (len cap k : Nat), k ≤ n ∧ len ≤ 2000 ∧ Src b a len w ∧ w.heap[b]? = some (.cells #[.slice a len cap, .int .i64 (k : Int)] 43 (0, 0))

theorem Keep.drewN {b : Nat} {w w' : World} (h : Keep b w w') (n : Nat) : Keep b w (w'.drewN n) := ⟨h.os, h.tape, h.output, h.size, h.block⟩
theorem xor_nat (a b : Nat) (ha : a < 9223372036854775808) (hb : b < 9223372036854775808) : bits .xor .i64 (a : Int) (b : Int) = ((a ^^^ b : Nat) : Int) := by
  have hx : a ^^^ b < 2 ^ 63 := Nat.xor_lt_two_pow (by omega) (by omega)
  have h1 : (BitVec.ofInt 64 (a : Int)).toNat = a := by
    rw [BitVec.ofInt_natCast, BitVec.toNat_ofNat]; exact Nat.mod_eq_of_lt (by omega)
  have h2 : (BitVec.ofInt 64 (b : Int)).toNat = b := by
    rw [BitVec.ofInt_natCast, BitVec.toNat_ofNat]; exact Nat.mod_eq_of_lt (by omega)
  show IntKind.i64.wrap ((BitVec.ofInt 64 (a : Int) ^^^ BitVec.ofInt 64 (b : Int)).toNat : Int) = _
  rw [BitVec.toNat_xor, h1, h2, IntWalk.i64_in _ (by omega)]
theorem xor_nonneg (X : Int) (h0 : 0 ≤ X) (h1 : X < 9223372036854775808) : 0 ≤ bits .xor .i64 X (X / 64) := by
  obtain ⟨x, rfl⟩ := Int.eq_ofNat_of_zero_le h0
  have d : ((x : Int) / 64) = ((x / 64 : Nat) : Int) := by omega
  rw [d, xor_nat _ _ (by omega) (by omega)]
  omega
theorem box_cells {w : World} {b : Nat} {x y : Value} {t : TypeId} (h : w.heap[b]? = some (.cells #[x, y] t (0, 0))) :
    w.cell? ⟨b, 0, none⟩ = some x ∧ w.cell? ⟨b, 1, none⟩ = some y ∧ w.frozen? ⟨b, 1, none⟩ = false := by
  refine ⟨?_, ?_, ?_⟩ <;> simp [World.cell?, World.frozen?, h]
theorem box_set {w : World} {b : Nat} {x y z : Value} {t : TypeId} (h : w.heap[b]? = some (.cells #[x, y] t (0, 0))) :
    (w.setCell ⟨b, 1, none⟩ z).heap[b]? = some (.cells #[x, z] t (0, 0)) := by
  rw [heap_setCell_same _ _ _ _ _ _ h]; rfl

set_option maxHeartbeats 2000000 in
theorem pick_any (b k len cap : Nat) (a : Option Addr) (n : Int) (w : World) (hk : k ≤ 1000000000000) (hl : len ≤ 2000) (hs : Src b a len w)
    (hbox : w.heap[b]? = some (.cells #[.slice a len cap, .int .i64 (k : Int)] 43 (0, 0))) :
    Calls Try.prog 21 #[.pointer (some ⟨b, 0, none⟩), .int .i64 n] w fun e w' => ∃ r : Int, e = .returned (.int .i64 r) ∧ 0 ≤ r ∧ (1 ≤ n → r < n) ∧ Keep b w w' ∧ w'.heap[b]? = some (.cells #[.slice a len cap, .int .i64 ((k + 1 : Nat) : Int)] 43 (0, 0)) := by
  obtain ⟨hc0, hc1, hf⟩ := box_cells hbox
  have hb2 := box_set (z := .int .i64 ((k : Int) + 1)) hbox
  have HB : Hid ((w.setCell ⟨b, 1, none⟩ (.int .i64 ((k : Int) + 1))).heap[b]? = some (.cells #[.slice a len cap, .int .i64 ((k : Int) + 1)] 43 (0, 0))) := hb2
  clear hb2 hbox
  have hkk : (k : Int) ≤ 1000000000000 := by omega
  by_cases a1 : n < 1
  · go_enter Try.func21, Try.ntmps21
    go_wp2
    go_ret
    exact ⟨0, rfl, by omega, by omega, Keep.setCell _ _ _ _, HB.out⟩
  · by_cases a2 : len = 0
    · subst a2
      go_enter Try.func21, Try.ntmps21
      go_wp2
      go_ret
      exact ⟨0, rfl, by omega, by omega, Keep.setCell _ _ _ _, HB.out⟩
    · rcases hs with h | ⟨blk, off, rfl, hne, hc⟩
      · exact absurd h a2
      · have hlen0 : ((len : Int) == 0) = false := by simp; omega
        by_cases a3 : k < len
        · obtain ⟨z, z1, z2, z3⟩ := hc k a3
          have z4 : (w.setCell ⟨b, 1, none⟩ (.int .i64 ((k : Int) + 1))).cell? ⟨blk, off + k, none⟩ = some (.int .u8 z) := (Keep.setCell b 1 w _).cell hne z3
          have hz : z % n < n := Int.emod_lt_of_pos _ (by omega)
          have hz0 : 0 ≤ z % n := Int.emod_nonneg _ (by omega)
          have hn0 : (n == 0) = false := by simp; omega
          go_enter Try.func21, Try.ntmps21
          go_wp2
          go_ret
          exact ⟨z % n, rfl, hz0, by first | exact fun _ => hz | exact hz, Keep.setCell _ _ _ _, HB.out⟩
        · have hkl : ¬ (k : Int) < (len : Int) := by omega
          have hlp : 0 < len := by omega
          obtain ⟨z, z1, z2, z3⟩ := hc (k % len) (Nat.mod_lt _ hlp)
          obtain ⟨y, y1, y2, y3⟩ := hc ((k * 7 + 3) % len) (Nat.mod_lt _ hlp)
          have z4 : (w.setCell ⟨b, 1, none⟩ (.int .i64 ((k : Int) + 1))).cell? ⟨blk, off + k % len, none⟩ = some (.int .u8 z) := (Keep.setCell b 1 w _).cell hne z3
          have y4 : (w.setCell ⟨b, 1, none⟩ (.int .i64 ((k : Int) + 1))).cell? ⟨blk, off + (k * 7 + 3) % len, none⟩ = some (.int .u8 y) := (Keep.setCell b 1 w _).cell hne y3
          have hn0 : (n == 0) = false := by simp; omega
          have hq1 : (0 : Int) ≤ (k : Int) % (len : Int) := by omega
          have hq2 : (k : Int) % (len : Int) < (len : Int) := Int.emod_lt_of_pos _ (by omega)
          have hq3 : (0 : Int) ≤ ((k : Int) * 7 + 3) % (len : Int) := Int.emod_nonneg _ (by omega)
          have hq4 : ((k : Int) * 7 + 3) % (len : Int) < (len : Int) := Int.emod_lt_of_pos _ (by omega)
          have hd1 : (k : Int) / (len : Int) ≤ (k : Int) := Int.ediv_le_self _ (by omega)
          have hd0 : (0 : Int) ≤ (k : Int) / (len : Int) := Int.ediv_nonneg (by omega) (by omega)
          have hx := xor_nonneg (z * 131 + y * 1117 + (k : Int) * 29 + (k : Int) / (len : Int) * 53) (by omega) (by omega)
          go_enter Try.func21, Try.ntmps21
          go_wp2
          go_quiet (fail)
          go_wp2
          go_ret
          exact ⟨_, rfl, Int.emod_nonneg _ (by omega), fun h => Int.emod_lt_of_pos _ (by omega), (Keep.setCell b 1 w _).drewN nq, HB.out⟩

theorem Rd.mono {b n n' : Nat} {w : World} (h : Rd b n w) (hn : n ≤ n') : Rd b n' w := by
  obtain ⟨a, len, cap, k, h1, h2⟩ := h; exact ⟨a, len, cap, k, by omega, h2⟩
theorem Rd.lt {b n : Nat} {w : World} (h : Rd b n w) : b < w.heap.size := by
  obtain ⟨a, len, cap, k, h1, h2, h3, h4⟩ := h; exact (Array.getElem?_eq_some_iff.1 h4).1
theorem Rd.keep {b n : Nat} {w w' : World} (h : Rd b n w) (hk : Keep b w w') (hb : w'.heap[b]? = w.heap[b]?) : Rd b n w' := by
  obtain ⟨a, len, cap, k, h1, h2, h3, h4⟩ := h; exact ⟨a, len, cap, k, h1, h2, h3.keep hk, hb.trans h4⟩
theorem Rd.below {b n : Nat} {w w' : World} (h : Rd b n w) (hk : Below w.heap.size w w') : Rd b n w' := h.keep (Keep.of_below hk) (hk.block b h.lt)
theorem Rd.alloc {b n : Nat} {w : World} (h : Rd b n w) (o : Obj) : Rd b n (w.alloc o) := h.below ((Below.refl _ w).alloc (Nat.le_refl _) o)
theorem Rd.drew {b n : Nat} {w : World} (h : Rd b n w) : Rd b n w.drew := h.below (Below.refl _ w).drew

/-- The reader's pick: a number from 0 on, below n where n is at least 1; the reader has gone on once more; nothing else that was there has turned. -/
theorem pick_rd (b m : Nat) (n : Int) (w : World) (h : Rd b m w) (hm : m ≤ 1000000000000) :
    Calls Try.prog 21 #[.pointer (some ⟨b, 0, none⟩), .int .i64 n] w fun e w' => ∃ r : Int, e = .returned (.int .i64 r) ∧ 0 ≤ r ∧ (1 ≤ n → r < n) ∧ Keep b w w' ∧ Rd b (m + 1) w' := by
  obtain ⟨a, len, cap, k, h1, h2, h3, h4⟩ := h
  refine (pick_any b k len cap a n w (by omega) h2 h3 h4).mono ?_
  rintro e w' ⟨r, e1, e2, e3, e4, e5⟩
  exact ⟨r, e1, e2, e3, e4, a, len, cap, k + 1, by omega, h2, h3.keep e4, e5⟩
end Go.Proofs.Ytpnamoecoihfeaa
