/- The program: whether a world has its places; the list of what must hold. -/
import Derived.Test.YtnmmglkigiakaaaGreatC24
import Derived.Test.YtnmmglkigiakaaaGreatC25
import Derived.Test.YtnmmglkigiakaaaGreatC11
namespace Go.Proofs.YtnmmglkigiakaaaGreat
set_option linter.unusedVariables false
set_option linter.unusedSimpArgs false
open Go.ChangeShapes Go.WideShapes Go.ChangeAt Go.RowKit Go.Shelf Go.Sort
attribute [local go_sem] Oper.semAt_some

def ruleF (n : Nat) : Value := .func (.func n) #[] #[]
def rulesC (u : Wv) : List Value := [.int .i64 1, ruleF 108, .int .i64 u.gs.length, ruleF 109, .int .i64 u.gs.length, ruleF 110, .int .i64 u.ts.length, ruleF 111, .int .i64 u.cs.length, ruleF 112, .int .i64 u.cs.length, ruleF 113]
set_option maxRecDepth 100000 in
set_option maxHeartbeats 8000000 in
theorem worldRules_any (pw : Nat) (u : Wv) (w : World) (hA : AtW w pw u) :
    Calls Tryz.prog 68 #[ptr pw] w fun e w' => ∃ b, e = .returned (.slice (some ⟨b, 0, none⟩) 6 6) ∧ w'.rangeAt b 0 (rulesC u) ∧ w.heap.size ≤ b ∧ Below w.heap.size w w' := by
  obtain ⟨p1, c1, p2, c2, p3, c3, v1, v2, v3, hl1, hl2, hl3⟩ := hA.lens
  have hpw := hA.lt
  clear hA
  unfold ptr
  go_enter Tryz.func68, Tryz.ntmps68
  go_wp2
  go_region
  go_wp2
  go_ret
  exact ⟨w.heap.size, rfl, range_of_block (World.alloc_heap_new w _), Nat.le_refl _, ((Below.refl _ _).alloc (Nat.le_refl _) _).drew⟩

set_option maxRecDepth 100000 in
set_option maxHeartbeats 16000000 in
theorem hasPlaces_any (pw : Nat) (a : Int) (u : Wv) (w : World) (hA : AtW w pw u) (hf : GsFit u.gs) :
    Calls Tryz.prog 108 #[ptr pw, .int .i64 a] w fun e w' => e = .returned (.bool (placesB u)) ∧ Below w.heap.size w w' := by
  obtain ⟨p1, c1, p2, c2, p3, c3, v1, v2, v3, hl1, hl2, hl3⟩ := hA.lens
  obtain ⟨v0, _, _, o3⟩ := hA.cells
  have e3 : u.z = .slice p3 u.gs.length c3 := by rw [o3] at v3; exact Option.some.inj v3
  have HA : Hid (AtW w pw u) := hA
  have HF : Hid (GsFit u.gs) := hf
  have HZ : Hid (SlG w (.slice p3 u.gs.length c3) u.gs) := by have := hA.2.2.2; rw [e3] at this; exact this
  have lp := hA.lt
  have acc : Below w.heap.size w w := Below.refl _ _
  have hn4 : l1in (u.cs.length : Int) 1 4 = true → u.cs.length ≤ 4 := fun h => by have := (l1in_iff.1 h).2; omega
  obtain ⟨um, hum⟩ : ∃ m, upsM u.cs = m := ⟨_, rfl⟩
  have HUM : Hid (upsM u.cs = um) := hum
  clear hA hf o3 e3 hum
  unfold ptr
  cases h0 : l1in u.now 0 100000000000000000
  · have HR : Hid (placesB u = false) := by unfold Hid; simp [placesB, timeB, HUM.out, ← Int.natCast_inj, h0]
    go_enter Tryz.func108, Tryz.ntmps108
    go_wp2_with (first | (go_at_call 138; refine (isTime_any _ _).mono ?_; rintro e1 w1 ⟨rfl, hw1⟩; subst w1) | (go_at_call 127; refine (isCpuCount_any _ _).mono ?_; rintro e1 w1 ⟨rfl, hw1⟩; subst w1) | (go_at_call 46; refine (impl_ups pw u _ (HA.out.below acc) (hn4 h1)).mono ?_; rintro e1 w1 ⟨rfl, hb1⟩; rw [HUM.out]; have v1 := (hb1.cell (p := ⟨pw, 1, none⟩) lp).trans v1; have v2 := (hb1.cell (p := ⟨pw, 2, none⟩) lp).trans v2; have v3 := (hb1.cell (p := ⟨pw, 3, none⟩) lp).trans v3; have lp := Nat.lt_of_lt_of_le lp hb1.size; replace acc := acc.trans (hb1.mono acc.size); clear hb1) | (go_at_call 139; refine (impl_treeOk _ u.gs _ ((HZ.out).below acc) HF.out).mono ?_; rintro e1 w1 ⟨rfl, hb1⟩; replace acc := acc.trans (hb1.mono acc.size); clear hb1))
    go_ret
    refine ⟨?_, acc⟩
    first | exact ret_bool HR.out.symm | (rw [HR.out]; simp [h0]; done) | (rw [HR.out]; simp [h0]; omega)
  · cases h1 : l1in (u.cs.length : Int) 1 4
    · have HR : Hid (placesB u = false) := by unfold Hid; simp [placesB, timeB, HUM.out, ← Int.natCast_inj, h0, h1]
      go_enter Tryz.func108, Tryz.ntmps108
      go_wp2_with (first | (go_at_call 138; refine (isTime_any _ _).mono ?_; rintro e1 w1 ⟨rfl, hw1⟩; subst w1) | (go_at_call 127; refine (isCpuCount_any _ _).mono ?_; rintro e1 w1 ⟨rfl, hw1⟩; subst w1) | (go_at_call 46; refine (impl_ups pw u _ (HA.out.below acc) (hn4 h1)).mono ?_; rintro e1 w1 ⟨rfl, hb1⟩; rw [HUM.out]; have v1 := (hb1.cell (p := ⟨pw, 1, none⟩) lp).trans v1; have v2 := (hb1.cell (p := ⟨pw, 2, none⟩) lp).trans v2; have v3 := (hb1.cell (p := ⟨pw, 3, none⟩) lp).trans v3; have lp := Nat.lt_of_lt_of_le lp hb1.size; replace acc := acc.trans (hb1.mono acc.size); clear hb1) | (go_at_call 139; refine (impl_treeOk _ u.gs _ ((HZ.out).below acc) HF.out).mono ?_; rintro e1 w1 ⟨rfl, hb1⟩; replace acc := acc.trans (hb1.mono acc.size); clear hb1))
      go_ret
      refine ⟨?_, acc⟩
      first | exact ret_bool HR.out.symm | (rw [HR.out]; simp [h0, h1]; done) | (rw [HR.out]; simp [h0, h1]; omega)
    · by_cases h2 : um = 0
      · subst h2
        have HR : Hid (placesB u = false) := by unfold Hid; simp [placesB, timeB, HUM.out, ← Int.natCast_inj, h0, h1]
        go_enter Tryz.func108, Tryz.ntmps108
        go_wp2_with (first | (go_at_call 138; refine (isTime_any _ _).mono ?_; rintro e1 w1 ⟨rfl, hw1⟩; subst w1) | (go_at_call 127; refine (isCpuCount_any _ _).mono ?_; rintro e1 w1 ⟨rfl, hw1⟩; subst w1) | (go_at_call 46; refine (impl_ups pw u _ (HA.out.below acc) (hn4 h1)).mono ?_; rintro e1 w1 ⟨rfl, hb1⟩; rw [HUM.out]; have v1 := (hb1.cell (p := ⟨pw, 1, none⟩) lp).trans v1; have v2 := (hb1.cell (p := ⟨pw, 2, none⟩) lp).trans v2; have v3 := (hb1.cell (p := ⟨pw, 3, none⟩) lp).trans v3; have lp := Nat.lt_of_lt_of_le lp hb1.size; replace acc := acc.trans (hb1.mono acc.size); clear hb1) | (go_at_call 139; refine (impl_treeOk _ u.gs _ ((HZ.out).below acc) HF.out).mono ?_; rintro e1 w1 ⟨rfl, hb1⟩; replace acc := acc.trans (hb1.mono acc.size); clear hb1))
        go_ret
        refine ⟨?_, acc⟩
        first | exact ret_bool HR.out.symm | (rw [HR.out]; simp [h0, h1]; done) | (rw [HR.out]; simp [h0, h1]; omega)
      · by_cases h3 : (u.ts.length : Int) = 12
        · cases h4 : treeB (gsD u.gs)
          · have HR : Hid (placesB u = false) := by unfold Hid; simp [placesB, timeB, HUM.out, ← Int.natCast_inj, h0, h1, h2, h3, h4]
            go_enter Tryz.func108, Tryz.ntmps108
            go_wp2_with (first | (go_at_call 138; refine (isTime_any _ _).mono ?_; rintro e1 w1 ⟨rfl, hw1⟩; subst w1) | (go_at_call 127; refine (isCpuCount_any _ _).mono ?_; rintro e1 w1 ⟨rfl, hw1⟩; subst w1) | (go_at_call 46; refine (impl_ups pw u _ (HA.out.below acc) (hn4 h1)).mono ?_; rintro e1 w1 ⟨rfl, hb1⟩; rw [HUM.out]; have v1 := (hb1.cell (p := ⟨pw, 1, none⟩) lp).trans v1; have v2 := (hb1.cell (p := ⟨pw, 2, none⟩) lp).trans v2; have v3 := (hb1.cell (p := ⟨pw, 3, none⟩) lp).trans v3; have lp := Nat.lt_of_lt_of_le lp hb1.size; replace acc := acc.trans (hb1.mono acc.size); clear hb1) | (go_at_call 139; refine (impl_treeOk _ u.gs _ ((HZ.out).below acc) HF.out).mono ?_; rintro e1 w1 ⟨rfl, hb1⟩; replace acc := acc.trans (hb1.mono acc.size); clear hb1))
            go_ret
            refine ⟨?_, acc⟩
            first | exact ret_bool HR.out.symm | (rw [HR.out]; simp [h0, h1, h2, h3, h4]; done) | (rw [HR.out]; simp [h0, h1, h2, h3, h4]; omega)
          · have HR : Hid (placesB u = true) := by unfold Hid; simp [placesB, timeB, HUM.out, ← Int.natCast_inj, h0, h1, h2, h3, h4]
            go_enter Tryz.func108, Tryz.ntmps108
            go_wp2_with (first | (go_at_call 138; refine (isTime_any _ _).mono ?_; rintro e1 w1 ⟨rfl, hw1⟩; subst w1) | (go_at_call 127; refine (isCpuCount_any _ _).mono ?_; rintro e1 w1 ⟨rfl, hw1⟩; subst w1) | (go_at_call 46; refine (impl_ups pw u _ (HA.out.below acc) (hn4 h1)).mono ?_; rintro e1 w1 ⟨rfl, hb1⟩; rw [HUM.out]; have v1 := (hb1.cell (p := ⟨pw, 1, none⟩) lp).trans v1; have v2 := (hb1.cell (p := ⟨pw, 2, none⟩) lp).trans v2; have v3 := (hb1.cell (p := ⟨pw, 3, none⟩) lp).trans v3; have lp := Nat.lt_of_lt_of_le lp hb1.size; replace acc := acc.trans (hb1.mono acc.size); clear hb1) | (go_at_call 139; refine (impl_treeOk _ u.gs _ ((HZ.out).below acc) HF.out).mono ?_; rintro e1 w1 ⟨rfl, hb1⟩; replace acc := acc.trans (hb1.mono acc.size); clear hb1))
            go_ret
            refine ⟨?_, acc⟩
            first | exact ret_bool HR.out.symm | (rw [HR.out]; simp [h0, h1, h2, h3, h4]; done) | (rw [HR.out]; simp [h0, h1, h2, h3, h4]; omega)
        · have HR : Hid (placesB u = false) := by unfold Hid; simp [placesB, timeB, HUM.out, ← Int.natCast_inj, h0, h1, h2, h3]
          have h3q : ((u.ts.length : Int) == 12) = false := by simpa using h3
          have h3p : ((u.ts.length : Int) != 12) = true := by simpa using h3
          go_enter Tryz.func108, Tryz.ntmps108
          go_wp2_with (first | (go_at_call 138; refine (isTime_any _ _).mono ?_; rintro e1 w1 ⟨rfl, hw1⟩; subst w1) | (go_at_call 127; refine (isCpuCount_any _ _).mono ?_; rintro e1 w1 ⟨rfl, hw1⟩; subst w1) | (go_at_call 46; refine (impl_ups pw u _ (HA.out.below acc) (hn4 h1)).mono ?_; rintro e1 w1 ⟨rfl, hb1⟩; rw [HUM.out]; have v1 := (hb1.cell (p := ⟨pw, 1, none⟩) lp).trans v1; have v2 := (hb1.cell (p := ⟨pw, 2, none⟩) lp).trans v2; have v3 := (hb1.cell (p := ⟨pw, 3, none⟩) lp).trans v3; have lp := Nat.lt_of_lt_of_le lp hb1.size; replace acc := acc.trans (hb1.mono acc.size); clear hb1) | (go_at_call 139; refine (impl_treeOk _ u.gs _ ((HZ.out).below acc) HF.out).mono ?_; rintro e1 w1 ⟨rfl, hb1⟩; replace acc := acc.trans (hb1.mono acc.size); clear hb1))
          go_ret
          refine ⟨?_, acc⟩
          first | exact ret_bool HR.out.symm | (rw [HR.out]; simp [h0, h1, h2, h3]; done) | (rw [HR.out]; simp [h0, h1, h2, h3]; omega)
end Go.Proofs.YtnmmglkigiakaaaGreat
