/- TreeOk, TreeDepth: of the program and of its specification. -/
import Derived.Test.YtollijjmmpoonaaTZ
namespace Go.Proofs.Ytollijjmmpoonaa
set_option linter.unusedVariables false
set_option linter.unusedSimpArgs false
open Go.ChangeShapes Go.WideShapes Go.ChangeAt Go.RowKit

theorem tree_hasroot {ds : List Gr} (h : treeB ds = true) : rootB ds = true := by
  cases hr : rootB ds
  · rw [tree_noroot hr] at h; cases h
  · rfl
theorem treeOf_any (x : Value) (vs : List Gv) (w : World) (hs : SlG w x vs) (hf : GsFit vs) :
    Calls Try.prog 33 #[x] w fun e w' => TreeIs w w' (gsD vs) e ∧ Below w.heap.size w w' := by
  cases hr : rootB (gsD vs)
  · refine (treeOf_noroot x vs w hs hr).mono ?_
    rintro e w' ⟨rfl, hb⟩
    exact ⟨.inl ⟨tree_noroot hr, rfl⟩, hb⟩
  · exact treeOf_root x vs w hs hf hr
theorem at_none (ds : List Gr) (nb : Nat → Nat) (g : Int) : atP ds nb 0 g = .pointer none := by
  unfold atP
  split
  · exact tP_past (by omega)
  · rfl
theorem at_root {ds : List Gr} (nb : Nat → Nat) (h : usAt ds 0 = true) : atP ds nb 8 0 = .pointer (some ⟨nb 0, 0, none⟩) := by
  unfold atP
  rw [if_pos (by omega)]
  exact tP_used (i := 0) (by omega) h
set_option maxHeartbeats 2000000 in
theorem impl_treeOk (x : Value) (vs : List Gv) (w : World) (hs : SlG w x vs) (hf : GsFit vs) :
    Calls Try.prog 12 #[x] w fun e w' => e = .returned (.bool (treeB (gsD vs))) ∧ Below w.heap.size w w' := by
  go_enter Try.func12, Try.ntmps12
  go_wp2_with fail
  refine (treeOf_any x vs w hs hf).mono ?_
  rintro e w1 ⟨⟨ht, rfl⟩ | ⟨ht, nb, mb, Dm, rfl, htr, _⟩, hb1⟩
  · have HT : Hid (treeB (gsD vs) = false) := ht
    clear ht
    simp only []
    go_at_K
    go_wp2_with fail
    refine (at_any _ _ _ _ _).mono ?_
    rw [at_none]
    rintro e w2 ⟨rfl, hb2⟩
    simp only []
    go_at_K
    go_wp2_with fail
    go_ret
    exact ⟨by rw [HT.out]; rfl, hb1.trans (hb2.mono hb1.size)⟩
  · have HT : Hid (treeB (gsD vs) = true) := ht
    clear ht
    have hr := htr.root
    simp only []
    go_at_K
    go_wp2_with fail
    refine (at_any _ _ _ _ _).mono ?_
    rw [at_root nb hr]
    rintro e w2 ⟨rfl, hb2⟩
    simp only []
    go_at_K
    go_wp2_with fail
    go_ret
    exact ⟨by rw [HT.out]; rfl, hb1.trans (hb2.mono hb1.size)⟩
end Go.Proofs.Ytollijjmmpoonaa
