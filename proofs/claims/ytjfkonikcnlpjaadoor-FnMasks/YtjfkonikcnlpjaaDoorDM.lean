/- The drawn inputs of the law on sets of processors, and the plain facts on sets that the law asks. -/
import Derived.Test.YtjfkonikcnlpjaaDoorY
import Derived.Test.YtjfkonikcnlpjaaDoorR2
import Derived.Deep.RegionWith
namespace Go.Proofs.YtjfkonikcnlpjaaDoor
open Go.ChangeShapes Go.WideShapes Go.ChangeAt Go.RowKit

set_option maxHeartbeats 1000000 in
theorem draw_and (a : Option Addr) (len cap : Nat) (zs : List Int) (w : World) (h : IsRow .u8 w a len cap zs) :
    Calls Tryd.prog 6 #[.slice a len cap] w fun e w' => ∃ n u : Int, e = .returned (.tuple #[.int .i64 n, .int .i64 u]) ∧ -2 ≤ n ∧ n ≤ 17 ∧ -2 ≤ u ∧ u ≤ 17 ∧ Below w.heap.size w w' := by
  go_enter Tryd.func6, Tryd.ntmps6
  go_wp2_with (first
    | (go_at_call 18; refine (open_any _ _ _ zs _ h).mono ?_; rintro e w1 ⟨rfl, cur, hB⟩; have acc := Keep.refl w.heap.size w1)
    | (go_at_call 19; refine (pick_rd _ _ 20 _ cur (by omega)).mono ?_; rintro e y5 ⟨p, rfl, p1, p2, hk, hR1⟩; replace p2 := p2 (by omega); replace acc := acc.trans hk; replace cur := hR1; clear hk hR1))
  go_ret2
  exact ⟨_, _, rfl, by omega, by omega, by omega, by omega, hB.trans (acc.below (Nat.le_refl _) hB.size)⟩

def sRow : Array Value := #[.string ⟨#[]⟩, .string ⟨#[48]⟩, .string ⟨#[51]⟩, .string ⟨#[52]⟩, .string ⟨#[48, 45, 51]⟩, .string ⟨#[48, 45, 49, 44, 51]⟩, .string ⟨#[48, 44, 49]⟩, .string ⟨#[49, 45, 48]⟩, .string ⟨#[48, 45, 48]⟩, .string ⟨#[32, 48]⟩, .string ⟨#[48, 44]⟩, .string ⟨#[50, 45, 51]⟩, .string ⟨#[48, 44, 50]⟩, .string ⟨#[48, 45, 49, 44, 50, 45, 51]⟩, .string ⟨#[45, 49]⟩, .string ⟨#[49, 44, 51]⟩]
theorem sRow_at (q : Int) (h0 : 0 ≤ q) (h1 : q < 16) : ∃ x : ByteArray, sRow[q.toNat]? = some (.string x) := by
  have : q = 0 ∨ q = 1 ∨ q = 2 ∨ q = 3 ∨ q = 4 ∨ q = 5 ∨ q = 6 ∨ q = 7 ∨ q = 8 ∨ q = 9 ∨ q = 10 ∨ q = 11 ∨ q = 12 ∨ q = 13 ∨ q = 14 ∨ q = 15 := by omega
  rcases this with rfl | rfl | rfl | rfl | rfl | rfl | rfl | rfl | rfl | rfl | rfl | rfl | rfl | rfl | rfl | rfl <;> exact ⟨_, rfl⟩
theorem scell {b blk : Nat} {w w' : World} {t : TypeId} (q : Int) (h0 : 0 ≤ q) (h1 : q < 16) (hb : blk ≠ b) (hw : w.heap[blk]? = some (.cells sRow t (0, 0))) (hk : Keep b w w') : ∃ x : ByteArray, w'.cell? ⟨blk, q.toNat, none⟩ = some (.string x) := by
  obtain ⟨x, x3⟩ := sRow_at q h0 h1
  exact ⟨x, hk.cell hb (by rw [cell_of_row w blk q.toNat sRow t _ hw]; exact x3)⟩
set_option maxHeartbeats 1000000 in
theorem draw_read (a : Option Addr) (len cap : Nat) (zs : List Int) (w : World) (h : IsRow .u8 w a len cap zs) :
    Calls Tryd.prog 15 #[.slice a len cap] w fun e w' => ∃ t : ByteArray, e = .returned (.string t) ∧ Below w.heap.size w w' := by
  go_enter Tryd.func15, Tryd.ntmps15
  go_wp2_with (first
    | (go_at_call 18; refine (open_any _ _ _ zs _ h).mono ?_; rintro e w1 ⟨rfl, cur, hB⟩; have acc := Keep.refl w.heap.size w1)
    | (go_at_call_of 19 (Value.int IntKind.i64 2); refine (pick_rd _ _ 2 _ cur (by omega)).mono ?_; rintro e y5 ⟨p, rfl, p1, p2, hk, hR1⟩; replace p2 := p2 (by omega); replace acc := acc.trans hk; replace cur := hR1; clear hk hR1))
  · go_wp2_with (first
      | (go_at_call 19; refine (pick_rd _ _ 16 _ cur (by omega)).mono ?_; rintro e y6 ⟨q, rfl, q1, q2, hk, hR1⟩; replace q2 := q2 (by omega); replace acc := acc.trans hk; replace cur := hR1; clear hk hR1)
      | (go_at_call 17; refine (spec_text _ _).mono ?_; rintro e y7 ⟨rfl, hb1⟩))
    go_ret
    exact ⟨_, rfl, (hB.trans (acc.below (Nat.le_refl _) hB.size)).trans (hb1.mono (Nat.le_trans hB.size acc.size))⟩
  · go_wp2_with (go_at_call 19; refine (pick_rd _ _ 16 _ (cur.alloc _) (by omega)).mono ?_; rintro e y6 ⟨q, rfl, q1, q2, hk, hR1⟩; replace q2 := q2 (by omega); obtain ⟨x, hx3⟩ := scell q q1 q2 (Nat.ne_of_gt cur.lt) (heap_alloc_new _ _) hk; replace acc := (acc.alloc _).trans hk; replace cur := hR1; clear hk hR1)
    go_ret
    exact ⟨_, rfl, hB.trans (acc.below (Nat.le_refl _) hB.size)⟩

theorem IsRow.below {k : IntKind} {w w' : World} {a : Option Addr} {len cap : Nat} {zs : List Int} (h : IsRow k w a len cap zs) (hb : Below w.heap.size w w') : IsRow k w' a len cap zs := by
  rcases h with h | ⟨x, rfl, hl, hm, hz, hc, hw⟩
  · exact .inl h
  · exact .inr ⟨x, rfl, hl, hm, hz, fun i hi => (hb.cell (block_lt_of_cell (hc i hi))).trans (hc i hi), hw⟩

theorem and_facts_fin : ∀ a b : Fin 16, andM (a.val : Int) (b.val : Int) = andM (b.val : Int) (a.val : Int) ∧ (cpusTo (andM (a.val : Int) (b.val : Int)) 4).length ≤ (cpusTo (a.val : Int) 4).length := by decide +kernel
theorem and_facts (a b : Int) : andM a b = andM b a ∧ (cpusTo (andM a b) 4).length ≤ (cpusTo a 4).length := by
  by_cases h : 0 ≤ a ∧ a ≤ 15 ∧ 0 ≤ b ∧ b ≤ 15
  · obtain ⟨h1, h2, h3, h4⟩ := h
    obtain ⟨x, rfl⟩ := Int.eq_ofNat_of_zero_le h1
    obtain ⟨y, rfl⟩ := Int.eq_ofNat_of_zero_le h3
    exact and_facts_fin ⟨x, by omega⟩ ⟨y, by omega⟩
  · have e1 : andM a b = 0 := by unfold andM; rw [if_neg h]
    have e2 : andM b a = 0 := by unfold andM; rw [if_neg (by omega)]
    rw [e1, e2]
    refine ⟨rfl, ?_⟩
    have : (cpusTo 0 4).length = 0 := by decide
    omega
theorem own_facts_fin : ∀ a : Fin 16, a.val ≠ 0 → rdM (stx (a.val : Int) 4) = ((a.val : Int), true) ∧ 0 ≤ firstF (a.val : Int) 0 ∧ hasB (a.val : Int) (firstF (a.val : Int) 0) = true := by decide +kernel
theorem own_facts {a : Int} (h1 : 0 < a) (h2 : a ≤ 15) : rdM (stx a 4) = (a, true) ∧ 0 ≤ firstF a 0 ∧ hasB a (firstF a 0) = true := by
  obtain ⟨x, rfl⟩ := Int.eq_ofNat_of_zero_le (Int.le_of_lt h1)
  exact own_facts_fin ⟨x, by omega⟩ (by simp; omega)
theorem none_facts {a : Int} (h : ¬ (0 < a ∧ a ≤ 15)) : rdM (stx a 4) = (0, false) ∧ firstF a 0 = -1 := by
  by_cases z : a = 0
  · subst z; decide +kernel
  · rw [stx_no (by omega), firstF_no (by omega)]
    exact ⟨by decide +kernel, rfl⟩
theorem rdFrom_back (s : ByteArray) : ∀ f k, (rdFrom s f k).2 = true → ((stx (rdFrom s f k).1 4).toList == s.toList) = true := by
  intro f
  induction f with
  | zero => intro k h; cases h
  | succ f ih =>
    intro k h
    by_cases c : (s.toList == (stx (k : Int) 4).toList) = true
    · have e : rdFrom s (f + 1) k = ((k : Int), true) := by show (if _ then _ else _) = _; rw [if_pos c]
      rw [e]
      show ((stx (k : Int) 4).toList == s.toList) = true
      rw [BEq.comm]; exact c
    · have e : rdFrom s (f + 1) k = rdFrom s f (k + 1) := by show (if _ then _ else _) = _; rw [if_neg c]
      rw [e] at h ⊢
      exact ih _ h
theorem rdM_back {s : ByteArray} (h : (rdM s).2 = true) : ((stx (rdM s).1 4).toList == s.toList) = true := rdFrom_back s _ _ h
end Go.Proofs.YtjfkonikcnlpjaaDoor
