/- Contracts of l20Open and of the reader's big and weight. -/
import Derived.Test.YtbkdkcgckdienaaR
import Derived.Deep.RegionWith
namespace Go.Proofs.Ytbkdkcgckdienaa
open Go.ChangeShapes Go.WideShapes Go.ChangeAt Go.RowKit

theorem add_none (b o i : Nat) : (⟨b, o, none⟩ : Addr).add i = ⟨b, o + i, none⟩ := by unfold Addr.add; split <;> simp_all
theorem src_of_row {w : World} {a : Option Addr} {len cap : Nat} {zs : List Int} (h : IsRow .u8 w a len cap zs) (b : Nat) (hb : w.heap.size ≤ b) (n : Nat) (hn : n ≤ len) : Src b a n w := by
  rcases h with ⟨rfl, rfl, rfl, rfl⟩ | ⟨x, rfl, hl, hm, hz, hc, hw⟩
  · exact .inl (by omega)
  · by_cases h0 : n = 0
    · exact .inl h0
    · obtain ⟨blk, off, spot⟩ := x
      have hc0 := hc 0 (by omega)
      have hspot : spot = none := by simpa [Addr.add] using World.cell?_spot hc0
      subst hspot
      have hlt : blk < w.heap.size := by have := block_lt_of_cell hc0; simpa [Addr.add] using this
      refine .inr ⟨blk, off, rfl, by omega, fun i hi => ?_⟩
      have hci := hc i (by omega)
      have hmem : zs.getD i 0 ∈ zs := by
        have : i < zs.length := by omega
        simp [this]
      have hwf := bounds_u8 (hw _ hmem)
      rw [add_none] at hci
      exact ⟨zs.getD i 0, hwf.1, hwf.2, hci⟩

set_option maxHeartbeats 1000000 in
theorem open_any (a : Option Addr) (len cap : Nat) (zs : List Int) (w : World) (h : IsRow .u8 w a len cap zs) :
    Calls Try.prog 35 #[.slice a len cap] w fun e w' => e = .returned (.pointer (some ⟨w.heap.size, 0, none⟩)) ∧ Rd w.heap.size 0 w' ∧ Below w.heap.size w w' := by
  have hB : ∀ o, Below w.heap.size w (w.alloc o) := fun o => (Below.refl _ w).alloc (Nat.le_refl _) o
  have hcap : len ≤ cap := by rcases h with ⟨rfl, rfl, rfl, rfl⟩ | ⟨x, rfl, hl, _⟩ <;> omega
  by_cases a1 : 2000 < len
  · have hs := src_of_row h w.heap.size (Nat.le_refl _) 2000 (by omega)
    have hcm : cap ≤ 9223372036854775807 := by
      rcases h with ⟨rfl, rfl, rfl, rfl⟩ | ⟨x, rfl, hl, hm, _⟩
      · omega
      · unfold maxLen at hm; omega
    rcases h with ⟨rfl, rfl, rfl, rfl⟩ | ⟨x, rfl, hl, hm, hz, hc, hw⟩
    · omega
    have g1 : (2000 : Int) < (len : Int) := by omega
    have g2 : (2000 : Int) ≤ (cap : Int) := by omega
    clear hc hw
    go_enter Try.func35, Try.ntmps35
    go_wp2
    go_ret
    exact ⟨rfl, ⟨some x, 2000, cap, 0, by omega, by omega, hs.keep (Keep.of_below (hB _)), heap_alloc_new _ _⟩, hB _⟩
  · have hs := src_of_row h w.heap.size (Nat.le_refl _) len (Nat.le_refl _)
    have g1 : ¬ (2000 : Int) < (len : Int) := by omega
    clear h
    go_enter Try.func35, Try.ntmps35
    go_wp2
    go_ret
    exact ⟨rfl, ⟨a, len, cap, 0, by omega, by omega, hs.keep (Keep.of_below (hB _)), heap_alloc_new _ _⟩, hB _⟩

def pw (k : Nat) : Int := 256 ^ k
set_option maxHeartbeats 1000000 in
theorem big_rd (b m : Nat) (w : World) (h : Rd b m w) (hm : m ≤ 900000000000) :
    Calls Try.prog 37 #[.pointer (some ⟨b, 0, none⟩)] w fun e w' => ∃ r : Int, e = .returned (.int .i64 r) ∧ 0 ≤ r ∧ r < 72057594037927936 ∧ Keep b w w' ∧ Rd b (m + 7) w' := by
  go_enter Try.func37, Try.ntmps37
  go_wp2
  go_loopw [3, 4] (fun x i wr => ∃ (k : Nat) (r : Int), k ≤ 7 ∧ i = .int .i64 k ∧ x = .int .i64 r ∧ 0 ≤ r ∧ r < pw k ∧ Keep b w wr ∧ Rd b (m + k) wr) (fun _ i _ => 7 - (intOf i).toNat)
  case atStart => exact ⟨0, 0, by omega, rfl, rfl, by omega, by decide, Keep.refl _ _, h⟩
  case round =>
    obtain ⟨k, r, hk, rfl, rfl, hr0, hr1, hK, hR⟩ := hrel
    by_cases hlt : k < 7
    · have hp : pw k ≤ 281474976710656 := by
        have : k = 0 ∨ k = 1 ∨ k = 2 ∨ k = 3 ∨ k = 4 ∨ k = 5 ∨ k = 6 := by omega
        rcases this with rfl | rfl | rfl | rfl | rfl | rfl | rfl <;> decide
      have hps : pw (k + 1) = pw k * 256 := by unfold pw; rw [Int.pow_succ]
      have HPS : Hid (pw (k + 1) = pw k * 256) := hps
      clear hps
      go_wp2_with (go_at_call 36; refine (pick_rd b (m + k) 256 _ hR (by omega)).mono ?_; rintro e w1 ⟨q, rfl, hq0, hq1, hK1, hR1⟩; replace hq1 := hq1 (by omega))
      go_roundw
      case rel => exact ⟨k + 1, r * 256 + q, by omega, by go_num, rfl, by omega, by rw [HPS.out]; omega, hK.trans hK1, hR1⟩
      case measure => simp [intOf]; omega
    · have : k = 7 := by omega
      subst this
      have hp7 : pw 7 = 72057594037927936 := by decide
      have hr2 : r < 72057594037927936 := by rw [← hp7]; exact hr1
      clear hp7
      go_wp2
      go_ret
      exact ⟨r, rfl, hr0, hr2, hK, hR⟩

def wRow : Array Value := #[.int .i64 1, .int .i64 2, .int .i64 3, .int .i64 5, .int .i64 7, .int .i64 10, .int .i64 10, .int .i64 13, .int .i64 19, .int .i64 20]
theorem wRow_at (q : Int) (h0 : 0 ≤ q) (h1 : q < 10) : ∃ x : Int, 1 ≤ x ∧ x ≤ 20 ∧ wRow[q.toNat]? = some (.int .i64 x) := by
  have : q = 0 ∨ q = 1 ∨ q = 2 ∨ q = 3 ∨ q = 4 ∨ q = 5 ∨ q = 6 ∨ q = 7 ∨ q = 8 ∨ q = 9 := by omega
  rcases this with rfl | rfl | rfl | rfl | rfl | rfl | rfl | rfl | rfl | rfl
  · exact ⟨1, by decide, by decide, rfl⟩
  · exact ⟨2, by decide, by decide, rfl⟩
  · exact ⟨3, by decide, by decide, rfl⟩
  · exact ⟨5, by decide, by decide, rfl⟩
  · exact ⟨7, by decide, by decide, rfl⟩
  · exact ⟨10, by decide, by decide, rfl⟩
  · exact ⟨10, by decide, by decide, rfl⟩
  · exact ⟨13, by decide, by decide, rfl⟩
  · exact ⟨19, by decide, by decide, rfl⟩
  · exact ⟨20, by decide, by decide, rfl⟩
theorem wcell {b blk : Nat} {w w' : World} {t : TypeId} (q : Int) (h0 : 0 ≤ q) (h1 : q < 10) (hb : blk ≠ b) (hw : w.heap[blk]? = some (.cells wRow t (0, 0))) (hk : Keep b w w') : ∃ x : Int, 1 ≤ x ∧ x ≤ 20 ∧ w'.cell? ⟨blk, q.toNat, none⟩ = some (.int .i64 x) := by
  obtain ⟨x, x1, x2, x3⟩ := wRow_at q h0 h1
  exact ⟨x, x1, x2, hk.cell hb (by rw [cell_of_row w blk q.toNat wRow t _ hw]; exact x3)⟩
set_option maxHeartbeats 1000000 in
theorem weight_rd (b m : Nat) (w : World) (h : Rd b m w) (hm : m ≤ 900000000000) :
    Calls Try.prog 38 #[.pointer (some ⟨b, 0, none⟩)] w fun e w' => ∃ r : Int, e = .returned (.int .i64 r) ∧ -2 ≤ r ∧ r ≤ 21 ∧ Keep b w w' ∧ Rd b (m + 2) w' := by
  have acc := Keep.refl b w
  have cur := h
  go_enter Try.func38, Try.ntmps38
  go_wp2_with (first
    | (go_at_call_of 36 (Value.int IntKind.i64 24); refine (pick_rd b _ 24 _ cur (by omega)).mono ?_; rintro e w1 ⟨q, rfl, hq0, hq1, hK1, hR1⟩; replace hq1 := hq1 (by omega); replace acc := acc.trans hK1; replace cur := hR1; clear hK1 hR1)
    | (go_at_call_of 36 (Value.int IntKind.i64 10); refine (pick_rd b _ 10 _ (cur.alloc _) (by omega)).mono ?_; rintro e w2 ⟨p, rfl, hp0, hp1, hK2, hR2⟩; replace hp1 := hp1 (by omega); obtain ⟨x, hx1, hx2, hx3⟩ := wcell p hp0 hp1 (Nat.ne_of_gt cur.lt) (heap_alloc_new _ _) hK2; replace acc := (acc.alloc _).trans hK2; replace cur := hR2; clear hK2 hR2))
  · go_ret
    exact ⟨_, rfl, by omega, by omega, acc, cur⟩
  · go_ret
    exact ⟨_, rfl, by omega, by omega, acc, cur⟩

def IsI (lo hi : Int) (v : Value) : Prop := ∃ r : Int, v = .int .i64 r ∧ lo ≤ r ∧ r ≤ hi
def IsP (b : Nat) (v : Value) : Prop := v = .pointer (some ⟨b, 0, none⟩)
/-- a new slice of n numbers, each within lo and hi. -/
def IsS (b n : Nat) (lo hi : Int) (y : World) (v : Value) : Prop := ∃ g : Nat, v = .slice (some ⟨g, 0, none⟩) n n ∧ g ≠ b ∧ ∀ i, i < n → ∃ r : Int, lo ≤ r ∧ r ≤ hi ∧ y.cell? ⟨g, i, none⟩ = some (.int .i64 r)
/-- a place that holds a number within lo and hi. -/
def IsC (b : Nat) (lo hi : Int) (y : World) (v : Value) : Prop := ∃ (g o : Nat) (r : Int), v = .pointer (some ⟨g, o, none⟩) ∧ g ≠ b ∧ lo ≤ r ∧ r ≤ hi ∧ y.cell? ⟨g, o, none⟩ = some (.int .i64 r)
theorem IsS.keep {b n : Nat} {lo hi : Int} {y y' : World} {v : Value} (h : IsS b n lo hi y v) (k : Keep b y y') : IsS b n lo hi y' v := by
  obtain ⟨g, h1, h2, h3⟩ := h
  exact ⟨g, h1, h2, fun i hi => by obtain ⟨r, r1, r2, r3⟩ := h3 i hi; exact ⟨r, r1, r2, k.cell h2 r3⟩⟩
theorem IsC.keep {b : Nat} {lo hi : Int} {y y' : World} {v : Value} (h : IsC b lo hi y v) (k : Keep b y y') : IsC b lo hi y' v := by
  obtain ⟨g, o, r, h1, h2, h3, h4, h5⟩ := h
  exact ⟨g, o, r, h1, h2, h3, h4, k.cell h2 h5⟩
theorem isS_of {b n : Nat} {lo hi : Int} {y : World} {g : Nat} {cs : Array Value} {t : TypeId} (hb : g ≠ b) (hg : y.heap[g]? = some (.cells cs t (0, 0))) (hn : cs.size = n) (hc : ∀ v ∈ cs.toList, IsI lo hi v) : IsS b n lo hi y (.slice (some ⟨g, 0, none⟩) n n) :=
  ⟨g, rfl, hb, fun i hi => by
    subst hn
    obtain ⟨r, r1, r2, r3⟩ := hc cs[i] (by simp)
    exact ⟨r, r2, r3, by rw [cell_of_row y g i cs t _ hg, Array.getElem?_eq_getElem hi, r1]⟩⟩
theorem isI_tmod {r n hi : Int} (h : 0 ≤ r) (hn : 0 < n) (hh : n - 1 ≤ hi) : IsI 0 hi (.int .i64 (r.tmod n)) := by
  refine ⟨_, rfl, Int.tmod_nonneg _ h, ?_⟩
  rw [Int.tmod_eq_emod_of_nonneg h]
  have := Int.emod_lt_of_pos r hn
  omega
theorem IsS.at {b n g : Nat} {lo hi : Int} {y : World} (h : IsS b n lo hi y (.slice (some ⟨g, 0, none⟩) n n)) (r : Int) (h0 : 0 ≤ r) (h1 : r < n) : ∃ x : Int, lo ≤ x ∧ x ≤ hi ∧ y.cell? ⟨g, r.toNat, none⟩ = some (.int .i64 x) := by
  obtain ⟨g', e, _, h3⟩ := h
  cases e
  exact h3 r.toNat (by omega)
theorem iteLe (p : Prop) [Decidable p] (n : Nat) : (if p then n else 0) ≤ n := by split <;> omega
theorem isI_mk {lo hi r : Int} (h1 : lo ≤ r) (h2 : r ≤ hi) : IsI lo hi (.int .i64 r) := ⟨r, rfl, h1, h2⟩
end Go.Proofs.Ytbkdkcgckdienaa
