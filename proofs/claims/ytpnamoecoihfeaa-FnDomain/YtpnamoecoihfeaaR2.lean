/- The contract of l20Open, and what is told of numbers and places that a drawn input makes. -/
import Derived.Test.YtpnamoecoihfeaaR
namespace Go.Proofs.Ytpnamoecoihfeaa
open Go.ChangeShapes Go.WideShapes Go.ChangeAt Go.RowKit

theorem add_none (b o i : Nat) : (⟨b, o, none⟩ : Addr).add i = ⟨b, o + i, none⟩ := by unfold Addr.add; split <;> simp_all
theorem src_of_row {w : World} {a : Option Addr} {len cap : Nat} {zs : List Int} (h : IsRow .u8 w a len cap zs) (b : Nat) (hb : w.heap.size ≤ b) (n : Nat) (hn : n ≤ len) : Src b a n w := by
  rcases h with ⟨rfl, rfl, rfl, rfl⟩ | ⟨x, rfl, hl, hm, hz, hc, hw⟩
  · exact .inl (by omega)
  · by_cases h0 : n = 0
    · exact .inl h0
    · obtain ⟨blk, off, spot⟩ := x
      have hc0 := hc 0 (by omega)
      have hspot : spot = none := by simpa [Addr.add] using World.cell?_spot hc0
      subst hspot
      have hlt : blk < w.heap.size := by have := block_lt_of_cell hc0; simpa [Addr.add] using this
      refine .inr ⟨blk, off, rfl, by omega, fun i hi => ?_⟩
      have hci := hc i (by omega)
      have hmem : zs.getD i 0 ∈ zs := by
        have : i < zs.length := by omega
        simp [this]
      have hwf := bounds_u8 (hw _ hmem)
      rw [add_none] at hci
      exact ⟨zs.getD i 0, hwf.1, hwf.2, hci⟩

set_option maxHeartbeats 1000000 in
theorem open_any (a : Option Addr) (len cap : Nat) (zs : List Int) (w : World) (h : IsRow .u8 w a len cap zs) :
    Calls Try.prog 20 #[.slice a len cap] w fun e w' => e = .returned (.pointer (some ⟨w.heap.size, 0, none⟩)) ∧ Rd w.heap.size 0 w' ∧ Below w.heap.size w w' := by
  have hB : ∀ o, Below w.heap.size w (w.alloc o) := fun o => (Below.refl _ w).alloc (Nat.le_refl _) o
  have hcap : len ≤ cap := by rcases h with ⟨rfl, rfl, rfl, rfl⟩ | ⟨x, rfl, hl, _⟩ <;> omega
  by_cases a1 : 2000 < len
  · have hs := src_of_row h w.heap.size (Nat.le_refl _) 2000 (by omega)
    have hcm : cap ≤ 9223372036854775807 := by
      rcases h with ⟨rfl, rfl, rfl, rfl⟩ | ⟨x, rfl, hl, hm, _⟩
      · omega
      · unfold maxLen at hm; omega
    rcases h with ⟨rfl, rfl, rfl, rfl⟩ | ⟨x, rfl, hl, hm, hz, hc, hw⟩
    · omega
    have g1 : (2000 : Int) < (len : Int) := by omega
    have g2 : (2000 : Int) ≤ (cap : Int) := by omega
    clear hc hw
    go_enter Try.func20, Try.ntmps20
    go_wp2
    go_ret
    exact ⟨rfl, ⟨some x, 2000, cap, 0, by omega, by omega, hs.keep (Keep.of_below (hB _)), heap_alloc_new _ _⟩, hB _⟩
  · have hs := src_of_row h w.heap.size (Nat.le_refl _) len (Nat.le_refl _)
    have g1 : ¬ (2000 : Int) < (len : Int) := by omega
    clear h
    go_enter Try.func20, Try.ntmps20
    go_wp2
    go_ret
    exact ⟨rfl, ⟨a, len, cap, 0, by omega, by omega, hs.keep (Keep.of_below (hB _)), heap_alloc_new _ _⟩, hB _⟩

def IsI (lo hi : Int) (v : Value) : Prop := ∃ r : Int, v = .int .i64 r ∧ lo ≤ r ∧ r ≤ hi
def IsP (b : Nat) (v : Value) : Prop := v = .pointer (some ⟨b, 0, none⟩)
/-- a new slice of n numbers, each within lo and hi. -/
def IsS (b n : Nat) (lo hi : Int) (y : World) (v : Value) : Prop := ∃ g : Nat, v = .slice (some ⟨g, 0, none⟩) n n ∧ g ≠ b ∧ ∀ i, i < n → ∃ r : Int, lo ≤ r ∧ r ≤ hi ∧ y.cell? ⟨g, i, none⟩ = some (.int .i64 r)
/-- a place that holds a number within lo and hi. -/
def IsC (b : Nat) (lo hi : Int) (y : World) (v : Value) : Prop := ∃ (g o : Nat) (r : Int), v = .pointer (some ⟨g, o, none⟩) ∧ g ≠ b ∧ lo ≤ r ∧ r ≤ hi ∧ y.cell? ⟨g, o, none⟩ = some (.int .i64 r)
theorem IsS.keep {b n : Nat} {lo hi : Int} {y y' : World} {v : Value} (h : IsS b n lo hi y v) (k : Keep b y y') : IsS b n lo hi y' v := by
  obtain ⟨g, h1, h2, h3⟩ := h
  exact ⟨g, h1, h2, fun i hi => by obtain ⟨r, r1, r2, r3⟩ := h3 i hi; exact ⟨r, r1, r2, k.cell h2 r3⟩⟩
theorem IsC.keep {b : Nat} {lo hi : Int} {y y' : World} {v : Value} (h : IsC b lo hi y v) (k : Keep b y y') : IsC b lo hi y' v := by
  obtain ⟨g, o, r, h1, h2, h3, h4, h5⟩ := h
  exact ⟨g, o, r, h1, h2, h3, h4, k.cell h2 h5⟩
theorem isS_of {b n : Nat} {lo hi : Int} {y : World} {g : Nat} {cs : Array Value} {t : TypeId} (hb : g ≠ b) (hg : y.heap[g]? = some (.cells cs t (0, 0))) (hn : cs.size = n) (hc : ∀ v ∈ cs.toList, IsI lo hi v) : IsS b n lo hi y (.slice (some ⟨g, 0, none⟩) n n) :=
  ⟨g, rfl, hb, fun i hi => by
    subst hn
    obtain ⟨r, r1, r2, r3⟩ := hc cs[i] (by simp)
    exact ⟨r, r2, r3, by rw [cell_of_row y g i cs t _ hg, Array.getElem?_eq_getElem hi, r1]⟩⟩
theorem isI_tmod {r n hi : Int} (h : 0 ≤ r) (hn : 0 < n) (hh : n - 1 ≤ hi) : IsI 0 hi (.int .i64 (r.tmod n)) := by
  refine ⟨_, rfl, Int.tmod_nonneg _ h, ?_⟩
  rw [Int.tmod_eq_emod_of_nonneg h]
  have := Int.emod_lt_of_pos r hn
  omega
theorem IsS.at {b n g : Nat} {lo hi : Int} {y : World} (h : IsS b n lo hi y (.slice (some ⟨g, 0, none⟩) n n)) (r : Int) (h0 : 0 ≤ r) (h1 : r < n) : ∃ x : Int, lo ≤ x ∧ x ≤ hi ∧ y.cell? ⟨g, r.toNat, none⟩ = some (.int .i64 x) := by
  obtain ⟨g', e, _, h3⟩ := h
  cases e
  exact h3 r.toNat (by omega)
theorem iteLe (p : Prop) [Decidable p] (n : Nat) : (if p then n else 0) ≤ n := by split <;> omega
theorem isI_mk {lo hi r : Int} (h1 : lo ≤ r) (h2 : r ≤ hi) : IsI lo hi (.int .i64 r) := ⟨r, rfl, h1, h2⟩
end Go.Proofs.Ytpnamoecoihfeaa
