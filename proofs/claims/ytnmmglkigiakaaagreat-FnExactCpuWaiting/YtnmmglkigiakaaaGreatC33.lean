/- The program: whether a stay, and a processor, is ok. -/
import Derived.Test.YtnmmglkigiakaaaGreatC32
import Derived.Test.YtnmmglkigiakaaaGreatC25
namespace Go.Proofs.YtnmmglkigiakaaaGreat
set_option linter.unusedVariables false
set_option linter.unusedSimpArgs false
open Go.ChangeShapes Go.WideShapes Go.ChangeAt Go.RowKit Go.Shelf Go.Sort
attribute [local go_sem] Oper.semAt_some

theorem stayOk_any (pw c pg po : Nat) (x : Cp) (u : Wv) (w : World) (hA : AtW w pw u) (hF : Fit u) (hT : TFit u) (hc : c < u.cs.length) (hx : w.rangeAt pg po (cpC x)) :
    Calls Tryz.prog 152 #[prV pw (c : Int) pg po] w fun e w' => e = .returned (.bool (stayB u c x)) ∧ Below w.heap.size w w' := by
  by_cases hcur : x.cur = -1
  · exact stay_nobody pw c pg po x u w hA hF hT hc hx hcur
  cases hup : x.up
  · exact stay_down pw c pg po x u w hA hF hT hc hx hcur hup
  by_cases hr1 : x.ran < 1
  · exact stay_short pw c pg po x u w hA hF hT hc hx hcur hup hr1
  by_cases hr2 : 149 < x.ran
  · exact stay_long pw c pg po x u w hA hF hT hc hx hcur hup hr1 hr2
  cases hin : inlT u x.cur c
  · exact stay_off pw c pg po x u w hA hF hT hc hx hcur hup hr1 hr2 hin
  · exact stay_there pw c pg po x u w hA hF hT hc hx hcur hup hr1 hr2 hin
def cpuOkB (u : Wv) (c : Nat) (x : Cp) : Bool := timeB x.busy && (timeB x.idle && stayB u c x)
set_option maxRecDepth 100000 in
set_option maxHeartbeats 8000000 in
theorem isProcessorOk_any (pw c : Nat) (u : Wv) (x : Cp) (w : World) (hA : AtW w pw u) (hF : Fit u) (hT : TFit u) (hx : u.cs[c]? = some x) :
    Calls Tryz.prog 113 #[ptr pw, .int .i64 (c : Int)] w fun e w' => e = .returned (.bool (cpuOkB u c x)) ∧ Below w.heap.size w w' := by
  have hc : c < u.cs.length := (List.getElem?_eq_some_iff.1 hx).1
  have HA : Hid (AtW w pw u) := hA
  obtain ⟨sb, hsb⟩ : ∃ b, stayB u c x = b := ⟨_, rfl⟩
  have HS : Hid (stayB u c x = sb) := hsb
  clear hsb
  unfold ptr
  cases h0 : l1in x.busy 0 100000000000000000
  · have HRR : Hid (cpuOkB u c x = false) := by unfold Hid; simp [cpuOkB, timeB, HS.out, h0]
    go_enter Tryz.func113, Tryz.ntmps113
    go_wp2_with (first | (go_at_call 39; refine (procAt_any pw c u x _ hA hx).mono ?_; rintro e1 V ⟨g, o, rfl, hrow, hgl, hb1⟩; simp only [prV, ptr, ptrO]; obtain ⟨_, _, _, c3, c4⟩ := cp_cells hrow; have lg := block_lt_of_cell c3; have HV : Hid (∀ A, Below w.heap.size w (V.alloc A)) := (fun A => hb1.alloc hb1.size _); have HR : Hid (V.rangeAt g o (cpC x)) := hrow; have HB : Hid (Below w.heap.size w V) := hb1; clear hb1 hrow hgl) | (go_at_call 138; refine (isTime_any _ _).mono ?_; rintro e1 w1 ⟨rfl, hw1⟩; subst w1) | (go_at_call 152; refine (stayOk_any pw c g o x u _ (HA.out.below (HV.out _)) hF hT hc (range_below HR.out ((Below.refl _ _).alloc (Nat.le_refl _) _))).mono ?_; rintro e1 w1 ⟨rfl, hb2⟩; rw [HS.out]; replace HV : Hid (Below w.heap.size w w1) := (HV.out _).trans (hb2.mono (HV.out _).size); clear hb2))
    go_ret
    refine ⟨?_, by first | exact HV.out | exact HV.out _⟩
    first | exact ret_bool HRR.out.symm | (rw [HRR.out]; simp [h0]; done)
  · cases h1 : l1in x.idle 0 100000000000000000
    · have HRR : Hid (cpuOkB u c x = false) := by unfold Hid; simp [cpuOkB, timeB, HS.out, h0, h1]
      go_enter Tryz.func113, Tryz.ntmps113
      go_wp2_with (first | (go_at_call 39; refine (procAt_any pw c u x _ hA hx).mono ?_; rintro e1 V ⟨g, o, rfl, hrow, hgl, hb1⟩; simp only [prV, ptr, ptrO]; obtain ⟨_, _, _, c3, c4⟩ := cp_cells hrow; have lg := block_lt_of_cell c3; have HV : Hid (∀ A, Below w.heap.size w (V.alloc A)) := (fun A => hb1.alloc hb1.size _); have HR : Hid (V.rangeAt g o (cpC x)) := hrow; have HB : Hid (Below w.heap.size w V) := hb1; clear hb1 hrow hgl) | (go_at_call 138; refine (isTime_any _ _).mono ?_; rintro e1 w1 ⟨rfl, hw1⟩; subst w1) | (go_at_call 152; refine (stayOk_any pw c g o x u _ (HA.out.below (HV.out _)) hF hT hc (range_below HR.out ((Below.refl _ _).alloc (Nat.le_refl _) _))).mono ?_; rintro e1 w1 ⟨rfl, hb2⟩; rw [HS.out]; replace HV : Hid (Below w.heap.size w w1) := (HV.out _).trans (hb2.mono (HV.out _).size); clear hb2))
      go_ret
      refine ⟨?_, by first | exact HV.out | exact HV.out _⟩
      first | exact ret_bool HRR.out.symm | (rw [HRR.out]; simp [h0, h1]; done)
    · cases h2 : sb
      · have HRR : Hid (cpuOkB u c x = false) := by unfold Hid; simp [cpuOkB, timeB, HS.out, h0, h1, h2]
        go_enter Tryz.func113, Tryz.ntmps113
        go_wp2_with (first | (go_at_call 39; refine (procAt_any pw c u x _ hA hx).mono ?_; rintro e1 V ⟨g, o, rfl, hrow, hgl, hb1⟩; simp only [prV, ptr, ptrO]; obtain ⟨_, _, _, c3, c4⟩ := cp_cells hrow; have lg := block_lt_of_cell c3; have HV : Hid (∀ A, Below w.heap.size w (V.alloc A)) := (fun A => hb1.alloc hb1.size _); have HR : Hid (V.rangeAt g o (cpC x)) := hrow; have HB : Hid (Below w.heap.size w V) := hb1; clear hb1 hrow hgl) | (go_at_call 138; refine (isTime_any _ _).mono ?_; rintro e1 w1 ⟨rfl, hw1⟩; subst w1) | (go_at_call 152; refine (stayOk_any pw c g o x u _ (HA.out.below (HV.out _)) hF hT hc (range_below HR.out ((Below.refl _ _).alloc (Nat.le_refl _) _))).mono ?_; rintro e1 w1 ⟨rfl, hb2⟩; rw [HS.out]; replace HV : Hid (Below w.heap.size w w1) := (HV.out _).trans (hb2.mono (HV.out _).size); clear hb2))
        go_ret
        refine ⟨?_, by first | exact HV.out | exact HV.out _⟩
        first | exact ret_bool HRR.out.symm | (rw [HRR.out]; simp [h0, h1, h2]; done)
      · have HRR : Hid (cpuOkB u c x = true) := by unfold Hid; simp [cpuOkB, timeB, HS.out, h0, h1, h2]
        go_enter Tryz.func113, Tryz.ntmps113
        go_wp2_with (first | (go_at_call 39; refine (procAt_any pw c u x _ hA hx).mono ?_; rintro e1 V ⟨g, o, rfl, hrow, hgl, hb1⟩; simp only [prV, ptr, ptrO]; obtain ⟨_, _, _, c3, c4⟩ := cp_cells hrow; have lg := block_lt_of_cell c3; have HV : Hid (∀ A, Below w.heap.size w (V.alloc A)) := (fun A => hb1.alloc hb1.size _); have HR : Hid (V.rangeAt g o (cpC x)) := hrow; have HB : Hid (Below w.heap.size w V) := hb1; clear hb1 hrow hgl) | (go_at_call 138; refine (isTime_any _ _).mono ?_; rintro e1 w1 ⟨rfl, hw1⟩; subst w1) | (go_at_call 152; refine (stayOk_any pw c g o x u _ (HA.out.below (HV.out _)) hF hT hc (range_below HR.out ((Below.refl _ _).alloc (Nat.le_refl _) _))).mono ?_; rintro e1 w1 ⟨rfl, hb2⟩; rw [HS.out]; replace HV : Hid (Below w.heap.size w w1) := (HV.out _).trans (hb2.mono (HV.out _).size); clear hb2))
        go_ret
        refine ⟨?_, by first | exact HV.out | exact HV.out _⟩
        first | exact ret_bool HRR.out.symm | (rw [HRR.out]; simp [h0, h1, h2]; done)
end Go.Proofs.YtnmmglkigiakaaaGreat
