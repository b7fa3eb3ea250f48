/- The drawn inputs of the law on neighbours, and the plain facts that the law asks. -/
import Derived.Test.YtpnamoecoihfeaaDS
import Derived.Test.YtpnamoecoihfeaaR2
import Derived.Deep.RegionWith
namespace Go.Proofs.Ytpnamoecoihfeaa
open Go.ChangeShapes Go.WideShapes Go.ChangeAt Go.RowKit

set_option maxHeartbeats 1000000 in
theorem draw_near (a : Option Addr) (len cap : Nat) (zs : List Int) (w : World) (h : IsRow .u8 w a len cap zs) :
    Calls Try.prog 8 #[.slice a len cap] w fun e w' => ∃ n u v : Int, e = .returned (.tuple #[.int .i64 n, .int .i64 u, .int .i64 v]) ∧ (-1 ≤ n ∧ n ≤ 5) ∧ (-1 ≤ u ∧ u ≤ 4) ∧ (-1 ≤ v ∧ v ≤ 4) ∧ Below w.heap.size w w' := by
  go_enter Try.func8, Try.ntmps8
  go_wp2_with (first
    | (go_at_call 20; refine (open_any _ _ _ zs _ h).mono ?_; rintro e w1 ⟨rfl, cur, hB⟩; have acc := Keep.refl w.heap.size w1)
    | (go_at_call_of 21 (Value.int IntKind.i64 7); refine (pick_rd _ _ 7 _ cur (by omega)).mono ?_; rintro e y5 ⟨p, rfl, p1, p2, hk, hR1⟩; replace p2 := p2 (by omega); replace acc := acc.trans hk; replace cur := hR1; clear hk hR1)
    | (go_at_call_of 21 (Value.int IntKind.i64 6); refine (pick_rd _ _ 6 _ cur (by omega)).mono ?_; rintro e y5 ⟨q, rfl, q1, q2, hk, hR1⟩; replace q2 := q2 (by omega); replace acc := acc.trans hk; replace cur := hR1; clear hk hR1))
  go_ret3
  exact ⟨_, _, _, rfl, ⟨by omega, by omega⟩, ⟨by omega, by omega⟩, ⟨by omega, by omega⟩, hB.trans (acc.below (Nat.le_refl _) hB.size)⟩

theorem IsRow.below {k : IntKind} {w w' : World} {a : Option Addr} {len cap : Nat} {zs : List Int} (h : IsRow k w a len cap zs) (hb : Below w.heap.size w w') : IsRow k w' a len cap zs := by
  rcases h with h | ⟨x, rfl, hl, hm, hz, hc, hw⟩
  · exact .inl h
  · exact .inr ⟨x, rfl, hl, hm, hz, fun i hi => (hb.cell (block_lt_of_cell (hc i hi))).trans (hc i hi), hw⟩

theorem near_sym_fin : ∀ n : Fin 7, ∀ a b : Fin 6, nearM ((n.val : Int) - 1) ((a.val : Int) - 1) ((b.val : Int) - 1) = nearM ((n.val : Int) - 1) ((b.val : Int) - 1) ((a.val : Int) - 1) := by decide +kernel
/-- a way that the law goes: how many levels, the level found, and whether a is a processor; with what holds of the spans there. -/
def wayB (n a b : Int) : Bool :=
  (decide (levelsF n = 0) && decide (nearM n a b = -1)) ||
  (decide (levelsF n = 1) && decide (nearM n a b = -1)) ||
  (decide (levelsF n = 1) && decide (nearM n a b = 0) && decide (spanM n b 0 = spanM n a 0)) ||
  (decide (levelsF n = 2) && decide (nearM n a b = -1)) ||
  (decide (levelsF n = 2) && decide (nearM n a b = 0) && decide (spanM n b 0 = spanM n a 0) && decide (spanM n b 1 = spanM n a 1)) ||
  (decide (levelsF n = 2) && decide (nearM n a b = 1) && decide (spanM n a 0 ≠ spanM n b 0) && decide (andM (spanM n a 0) (spanM n b 0) = 0) && decide (spanM n b 1 = spanM n a 1))
def inB (n a : Int) : Bool :=
  decide (a < 0) || decide (n ≤ a) || decide (levelsF n = 0) ||
  (decide (levelsF n = 1) && hasB (spanM n a 0) a && decide (((cpusTo (spanM n a 0) 4).length : Int) = n)) ||
  (decide (levelsF n = 2) && hasB (spanM n a 0) a && hasB (spanM n a 1) a && decide (andM (spanM n a 0) (spanM n a 1) = spanM n a 0) && decide (((cpusTo (spanM n a 1) 4).length : Int) = n))
theorem way_fin : ∀ n : Fin 7, ∀ a b : Fin 6, wayB ((n.val : Int) - 1) ((a.val : Int) - 1) ((b.val : Int) - 1) = true := by decide +kernel
theorem in_fin : ∀ n : Fin 7, ∀ a : Fin 6, inB ((n.val : Int) - 1) ((a.val : Int) - 1) = true := by decide +kernel
theorem to_fin7 {n : Int} (h : -1 ≤ n ∧ n ≤ 5) : ∃ k : Fin 7, n = (k.val : Int) - 1 := by
  obtain ⟨k, hk⟩ := Int.eq_ofNat_of_zero_le (show 0 ≤ n + 1 by omega)
  exact ⟨⟨k, by omega⟩, by simp; omega⟩
theorem to_fin6 {n : Int} (h : -1 ≤ n ∧ n ≤ 4) : ∃ k : Fin 6, n = (k.val : Int) - 1 := by
  obtain ⟨k, hk⟩ := Int.eq_ofNat_of_zero_le (show 0 ≤ n + 1 by omega)
  exact ⟨⟨k, by omega⟩, by simp; omega⟩
theorem near_sym {n a b : Int} (hn : -1 ≤ n ∧ n ≤ 5) (ha : -1 ≤ a ∧ a ≤ 4) (hb : -1 ≤ b ∧ b ≤ 4) : nearM n b a = nearM n a b := by
  obtain ⟨x, rfl⟩ := to_fin7 hn; obtain ⟨y, rfl⟩ := to_fin6 ha; obtain ⟨z, rfl⟩ := to_fin6 hb
  exact near_sym_fin x z y
theorem way_all {n a b : Int} (hn : -1 ≤ n ∧ n ≤ 5) (ha : -1 ≤ a ∧ a ≤ 4) (hb : -1 ≤ b ∧ b ≤ 4) :
    (levelsF n = 0 ∧ nearM n a b = -1) ∨ (levelsF n = 1 ∧ nearM n a b = -1) ∨ (levelsF n = 1 ∧ nearM n a b = 0 ∧ spanM n b 0 = spanM n a 0) ∨ (levelsF n = 2 ∧ nearM n a b = -1) ∨
    (levelsF n = 2 ∧ nearM n a b = 0 ∧ spanM n b 0 = spanM n a 0 ∧ spanM n b 1 = spanM n a 1) ∨
    (levelsF n = 2 ∧ nearM n a b = 1 ∧ spanM n a 0 ≠ spanM n b 0 ∧ andM (spanM n a 0) (spanM n b 0) = 0 ∧ spanM n b 1 = spanM n a 1) := by
  obtain ⟨x, rfl⟩ := to_fin7 hn; obtain ⟨y, rfl⟩ := to_fin6 ha; obtain ⟨z, rfl⟩ := to_fin6 hb
  have h := way_fin x y z
  simpa only [wayB, Bool.or_eq_true, Bool.and_eq_true, decide_eq_true_eq, or_assoc, and_assoc] using h
theorem in_all {n a : Int} (hn : -1 ≤ n ∧ n ≤ 5) (ha : -1 ≤ a ∧ a ≤ 4) :
    a < 0 ∨ n ≤ a ∨ levelsF n = 0 ∨ (levelsF n = 1 ∧ hasB (spanM n a 0) a = true ∧ ((cpusTo (spanM n a 0) 4).length : Int) = n) ∨
    (levelsF n = 2 ∧ hasB (spanM n a 0) a = true ∧ hasB (spanM n a 1) a = true ∧ andM (spanM n a 0) (spanM n a 1) = spanM n a 0 ∧ ((cpusTo (spanM n a 1) 4).length : Int) = n) := by
  obtain ⟨x, rfl⟩ := to_fin7 hn; obtain ⟨y, rfl⟩ := to_fin6 ha
  have h := in_fin x y
  simpa only [inB, Bool.or_eq_true, Bool.and_eq_true, decide_eq_true_eq, or_assoc, and_assoc] using h
end Go.Proofs.Ytpnamoecoihfeaa
