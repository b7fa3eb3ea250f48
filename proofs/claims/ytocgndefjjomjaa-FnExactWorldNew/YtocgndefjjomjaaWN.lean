/- The walk of FnExactWorldNew. -/
import Derived.Test.YtocgndefjjomjaaIW
namespace Go.Proofs.Ytocgndefjjomjaa
set_option linter.unusedVariables false
set_option linter.unusedSimpArgs false
open Go.ChangeShapes Go.WideShapes Go.ChangeAt Go.RowKit

/-- an answer of WorldNew: a world that tells D, in memory of its own, and whether there is one. -/
def NewAns (D : Wv) (b : Bool) (B : Nat) (e : Ending) (w' : World) : Prop :=
  ∃ u p1 l1 c1 p2 l2 c2 p3 l3 c3, e = .returned (.tuple #[.agg #[.int .i64 0, .slice p1 l1 c1, .slice p2 l2 c2, .slice p3 l3 c3], .bool b]) ∧ wvV u = .agg #[.int .i64 0, .slice p1 l1 c1, .slice p2 l2 c2, .slice p3 l3 c3] ∧ SameW D u ∧ OwnW B w' u
theorem fit_same {u v : Wv} (h : WFit u) (hs : SameW u v) : WFit v := ⟨by rw [hs.cs]; exact h.1, by rw [hs.ts]; exact h.2.1, h.2.2.of_same hs.gs⟩
theorem kW_same (k : Int) {u v : Wv} (hs : SameW u v) : kW k v = kW k u := by
  unfold kW
  rw [hs.cs, hs.ts, kGs_same _ hs.gs]
theorem new_ans (n : Nat) (x y z zg : Value) (B : Nat) (w' : World) (h : OwnW B w' (newD n x y z zg)) (D : Wv) (hD : SameW D (newD n x y z zg)) (b : Bool) : NewAns D b B (.returned (.tuple #[wvV (newD n x y z zg), .bool b])) w' := by
  obtain ⟨⟨p1, l1, c1, e1⟩, ⟨p2, l2, c2, e2⟩, ⟨p3, l3, c3, e3⟩⟩ := h.sl.form
  have e1 : x = _ := e1
  have e2 : y = _ := e2
  have e3 : z = _ := e3
  subst e1 e2 e3
  exact ⟨_, p1, l1, c1, p2, l2, c2, p3, l3, c3, rfl, rfl, hD, h⟩
set_option maxHeartbeats 40000000 in
set_option maxRecDepth 20000 in
theorem walkWN (a : Int) (D : Wv) (b : Bool) (w : World) (hf : WFit D) (hk : kW 1 D ≤ 300000000)
    (hspec : ∀ W, Calls Try.prog 4 #[.int .i64 a] W fun e w' => NewAns D b W.heap.size e w' ∧ Below W.heap.size W w')
    (himpl : ∀ W, Calls Try.prog 5 #[.int .i64 a] W fun e w' => NewAns D b W.heap.size e w' ∧ Below W.heap.size W w') :
    Calls Try.prog 3 #[.int .i64 a] w fun e w' => e = .returned (.bool true) ∧ Below w.heap.size w w' := by
  have hbb : (b != b) = false := by cases b <;> rfl
  have hk0 := kW_le 1 D
  have hkn : ¬ kW 1 D < 0 := by omega
  go_enter Try.func3, Try.ntmps3
  go_wp2_with fail
  refine (hspec w).mono ?_
  rintro e w1 ⟨⟨u0, p1, l1, c1, p2, l2, c2, p3, l3, c3, rfl, v0, s0, ow0⟩, acc⟩
  have at0 := ow0.at
  have hb1 : Below w1.heap.size w1 (w1.alloc (.cells #[.int .i64 0, .slice p1 l1 c1, .slice p2 l2 c2, .slice p3 l3 c3] 26 (0, 0))) := (Below.refl _ _).alloc (Nat.le_refl _) _
  have hX0 : (w1.alloc (.cells #[.int .i64 0, .slice p1 l1 c1, .slice p2 l2 c2, .slice p3 l3 c3] 26 (0, 0))).heap[w1.heap.size]? = some (.cells #[.int .i64 0, .slice p1 l1 c1, .slice p2 l2 c2, .slice p3 l3 c3] 26 (0, 0)) := heap_alloc_new _ _
  have z1 : w1.heap.size < (w1.alloc (.cells #[.int .i64 0, .slice p1 l1 c1, .slice p2 l2 c2, .slice p3 l3 c3] 26 (0, 0))).heap.size := by simp
  simp only []
  go_at_K
  go_wp2_with fail
  generalize hWa : (w1.alloc (.cells #[.int .i64 0, .slice p1 l1 c1, .slice p2 l2 c2, .slice p3 l3 c3] 26 (0, 0))) = wa at *
  clear hWa
  have za := acc.size
  replace acc := acc.trans (hb1.mono acc.size)
  replace ow0 := ow0.below hb1
  refine (himpl wa).mono ?_
  rintro e w2 ⟨⟨u1, q1, j1, d1, q2, j2, d2, q3, j3, d3, rfl, v1, s1, ow1⟩, hb2⟩
  have at1 := ow1.at
  have z2 := hb2.size
  replace acc := acc.trans (hb2.mono acc.size)
  replace ow0 := ow0.below hb2
  have hX0 := (Kept.ofBelow hb2).block_of hX0 (fun h => h)
  have hb3 : Below w2.heap.size w2 (w2.alloc (.cells #[.int .i64 0, .slice q1 j1 d1, .slice q2 j2 d2, .slice q3 j3 d3] 26 (0, 0))) := (Below.refl _ _).alloc (Nat.le_refl _) _
  have hX1 : (w2.alloc (.cells #[.int .i64 0, .slice q1 j1 d1, .slice q2 j2 d2, .slice q3 j3 d3] 26 (0, 0))).heap[w2.heap.size]? = some (.cells #[.int .i64 0, .slice q1 j1 d1, .slice q2 j2 d2, .slice q3 j3 d3] 26 (0, 0)) := heap_alloc_new _ _
  have hX0 := (Kept.ofBelow hb3).block_of hX0 (fun h => h)
  have z3 := hb3.size
  have hlt0 : w1.heap.size < w2.heap.size := by omega
  obtain ⟨o0, o1, o2, o3⟩ := wbox hX0
  obtain ⟨r0, r1, r2, r3⟩ := wbox hX1
  simp only []
  go_at_K
  go_wp2_with fail
  generalize hWb : (w2.alloc (.cells #[.int .i64 0, .slice q1 j1 d1, .slice q2 j2 d2, .slice q3 j3 d3] 26 (0, 0))) = wb at *
  clear hWb o0 o1 o2 o3 r0 r1 r2 r3
  replace acc := acc.trans (hb3.mono acc.size)
  replace ow0 := ow0.below hb3
  replace ow1 := ow1.below hb3
  have heq := eqWorld_same u1 u0 wb ow1.sl ow0.sl (s1.symm.trans s0)
  rw [v0, v1] at heq
  refine heq.mono ?_
  clear heq
  rintro e w4 ⟨rfl, hb4⟩
  have z4 := hb4.size
  replace acc := acc.trans (hb4.mono acc.size)
  replace ow0 := ow0.below hb4
  replace ow1 := ow1.below hb4
  have hX0 := (Kept.ofBelow hb4).block_of hX0 (fun h => h)
  have hX1 := (Kept.ofBelow hb4).block_of hX1 (fun h => h)
  obtain ⟨r0, r1, r2, r3⟩ := wbox hX1
  simp only []
  go_at_K
  go_wp2_with fail
  clear r0 r1 r2 r3
  have hmk := markWorld_own u1 _ 1 w4 ow1 (fit_same hf s1) (by decide) (by rw [kW_same 1 s1]; exact hk)
  rw [v1, kW_same 1 s1] at hmk
  refine hmk.mono ?_
  clear hmk
  rintro e w5 ⟨rfl, om, kp⟩
  have z5 := kp.size
  replace ow0 := ow0.kept kp (fun g hg hm => by have := (at0 g hg).2; have := (at1 g hm).1; omega)
  have hX0 := kp.block_of hX0 (fun hm => by have := (at1 _ hm).1; omega)
  have hX1 := kp.block_of hX1 (fun hm => by have := (at1 _ hm).2; omega)
  replace acc := acc.trans (kp.toBelow acc.size (fun g hm => by have := (at1 g hm).1; omega))
  obtain ⟨r0, r1, r2, r3⟩ := wbox hX1
  simp only []
  go_at_K
  go_wp2_with fail
  clear r0 r1 r2 r3
  have hhd := fun W h => heldWorld_any u1 1 W h (fit_same hf s1) (by decide) (by rw [kW_same 1 s1]; exact hk)
  rw [v1, kW_same 1 s1] at hhd
  refine (hhd w5 om.sl).mono ?_
  rintro e w6 ⟨rfl, hb6⟩
  have z6 := hb6.size
  replace acc := acc.trans (hb6.mono acc.size)
  replace ow0 := ow0.below hb6
  replace om := om.below hb6
  have hX0 := (Kept.ofBelow hb6).block_of hX0 (fun h => h)
  have hX1 := (Kept.ofBelow hb6).block_of hX1 (fun h => h)
  simp only []
  go_at_K
  go_wp2_with fail
  refine (himpl w6).mono ?_
  rintro e w7 ⟨⟨u2, n1, m1, f1, n2, m2, f2, n3, m3, f3, rfl, v2, s2, ow2⟩, hb7⟩
  have z7 := hb7.size
  replace acc := acc.trans (hb7.mono acc.size)
  replace ow0 := ow0.below hb7
  replace om := om.below hb7
  have hX0 := (Kept.ofBelow hb7).block_of hX0 (fun h => h)
  have hX1 := (Kept.ofBelow hb7).block_of hX1 (fun h => h)
  have hb8 : Below w7.heap.size w7 (w7.alloc (.cells #[.int .i64 0, .slice n1 m1 f1, .slice n2 m2 f2, .slice n3 m3 f3] 26 (0, 0))) := (Below.refl _ _).alloc (Nat.le_refl _) _
  have hX2 : (w7.alloc (.cells #[.int .i64 0, .slice n1 m1 f1, .slice n2 m2 f2, .slice n3 m3 f3] 26 (0, 0))).heap[w7.heap.size]? = some (.cells #[.int .i64 0, .slice n1 m1 f1, .slice n2 m2 f2, .slice n3 m3 f3] 26 (0, 0)) := heap_alloc_new _ _
  have hX0 := (Kept.ofBelow hb8).block_of hX0 (fun h => h)
  have hX1 := (Kept.ofBelow hb8).block_of hX1 (fun h => h)
  have hlt1 : w1.heap.size < w7.heap.size := by omega
  obtain ⟨o0, o1, o2, o3⟩ := wbox hX0
  obtain ⟨r0, r1, r2, r3⟩ := wbox hX2
  simp only []
  go_at_K
  go_wp2_with fail
  generalize hWc : (w7.alloc (.cells #[.int .i64 0, .slice n1 m1 f1, .slice n2 m2 f2, .slice n3 m3 f3] 26 (0, 0))) = wc at *
  clear hWc o0 o1 o2 o3 r0 r1 r2 r3
  replace acc := acc.trans (hb8.mono acc.size)
  replace ow0 := ow0.below hb8
  replace ow2 := ow2.below hb8
  replace om := om.below hb8
  have heq := eqWorld_same u2 u0 wc ow2.sl ow0.sl (s2.symm.trans s0)
  rw [v0, v2] at heq
  refine heq.mono ?_
  clear heq
  rintro e w9 ⟨rfl, hb9⟩
  replace acc := acc.trans (hb9.mono acc.size)
  replace om := om.below hb9
  have hX1 := (Kept.ofBelow hb9).block_of hX1 (fun h => h)
  obtain ⟨r0, r1, r2, r3⟩ := wbox hX1
  simp only []
  go_at_K
  go_wp2_with fail
  clear r0 r1 r2 r3
  refine (hhd w9 om.sl).mono ?_
  rintro e w10 ⟨rfl, hb10⟩
  replace acc := acc.trans (hb10.mono acc.size)
  simp only []
  go_at_K
  go_wp2_with fail
  go_ret
  exact ⟨rfl, acc⟩
set_option maxHeartbeats 4000000 in
theorem spec_worldNo (a : Int) (w : World) (h : a < 1 ∨ 4 < a) : Calls Try.prog 4 #[.int .i64 a] w fun e w' => NewAns zeroD false w.heap.size e w' ∧ Below w.heap.size w w' := by
  rcases h with h | h
  · have h' : ¬ 1 ≤ a := by omega
    go_enter Try.func4, Try.ntmps4
    go_wp2
    go_returns
    exact ⟨⟨zeroD, none, 0, 0, none, 0, 0, none, 0, 0, rfl, rfl, SameW.refl _, zero_own _ _⟩, by go_grown⟩
  · have h' : 1 ≤ a := by omega
    have h'' : ¬ a ≤ 4 := by omega
    go_enter Try.func4, Try.ntmps4
    go_wp2
    go_returns
    exact ⟨⟨zeroD, none, 0, 0, none, 0, 0, none, 0, 0, rfl, rfl, SameW.refl _, zero_own _ _⟩, by go_grown⟩
set_option maxHeartbeats 4000000 in
theorem impl_worldNo (a : Int) (w : World) (h : a < 1 ∨ 4 < a) : Calls Try.prog 5 #[.int .i64 a] w fun e w' => NewAns zeroD false w.heap.size e w' ∧ Below w.heap.size w w' := by
  rcases h with h | h
  · have h' : ¬ 1 ≤ a := by omega
    go_enter Try.func5, Try.ntmps5
    go_wp2
    go_returns
    exact ⟨⟨zeroD, none, 0, 0, none, 0, 0, none, 0, 0, rfl, rfl, SameW.refl _, zero_own _ _⟩, by go_grown⟩
  · have h' : 1 ≤ a := by omega
    have h'' : ¬ a ≤ 4 := by omega
    go_enter Try.func5, Try.ntmps5
    go_wp2
    go_returns
    exact ⟨⟨zeroD, none, 0, 0, none, 0, 0, none, 0, 0, rfl, rfl, SameW.refl _, zero_own _ _⟩, by go_grown⟩
theorem newD_same (n : Nat) (x y z g x' y' z' g' : Value) : SameW (newD n x y z g) (newD n x' y' z' g') := ⟨rfl, rfl, rfl, rfl⟩
theorem newD_fit (n : Nat) (hn : n ≤ 4) (x y z g : Value) : WFit (newD n x y z g) := by
  refine ⟨by show (List.replicate n cp1).length ≤ _; simp; omega, by show (List.replicate 12 tk0).length ≤ _; simp, by show (newGs n g).length ≤ _; simp [newGs], fun v hv => ?_⟩
  rcases mem_newGs hv with rfl | rfl
  · exact ⟨by show (⟨#[]⟩ : ByteArray).size ≤ _; decide, by show (0 : Nat) ≤ _; omega, by show (0 : Nat) ≤ _; omega, by show (List.replicate n sh1).length ≤ _; simp; omega⟩
  · exact ⟨by decide, by decide, by decide, by decide⟩
theorem newD_k (n : Nat) (hn : n ≤ 4) (x y z g : Value) : kW 1 (newD n x y z g) ≤ 300000000 := by
  have h : kW 1 (newD n x y z g) = 1 + 5 * (n : Int) + 9 * 12 + gwid (newGr n (-1) ⟨#[]⟩) + 11 * 7 := by
    show kGs (1 + 5 * ((List.replicate n cp1).length : Int) + 9 * ((List.replicate 12 tk0).length : Int)) (newGv n (-1) ⟨#[]⟩ g :: List.replicate 7 gv0) = _
    have e : ∀ k : Int, kGs k (newGv n (-1) ⟨#[]⟩ g :: List.replicate 7 gv0) = k + gwid (newGr n (-1) ⟨#[]⟩) + 11 + 11 + 11 + 11 + 11 + 11 + 11 := fun k => rfl
    rw [e, List.length_replicate, List.length_replicate]
    omega
  have h2 : gwid (newGr n (-1) ⟨#[]⟩) = 11 + 0 + 0 + 5 * ((List.replicate n sh1).length : Int) := rfl
  rw [h, h2, List.length_replicate]
  omega
theorem walkWorldNew (a : Int) (w : World) :
    Calls Try.prog 3 #[.int .i64 a] w fun e w' => e = .returned (.bool true) ∧ Below w.heap.size w w' := by
  by_cases h : 1 ≤ a ∧ a ≤ 4
  · obtain ⟨n, rfl⟩ : ∃ n : Nat, a = n := ⟨a.toNat, by omega⟩
    have hn : n ≤ 4 := by omega
    refine walkWN n (newD n (.slice none 0 0) (.slice none 0 0) (.slice none 0 0) (.slice none 0 0)) true w (newD_fit n hn _ _ _ _) (newD_k n hn _ _ _ _) (fun W => (spec_worldNew n W (by omega) hn).mono ?_) (fun W => (impl_worldNew n W (by omega) hn).mono ?_)
    · rintro e w' ⟨x, y, z, zg, rfl, ho, hb⟩
      exact ⟨new_ans n x y z zg _ _ ho _ (newD_same _ _ _ _ _ _ _ _ _) true, hb⟩
    · rintro e w' ⟨x, y, z, zg, rfl, ho, hb⟩
      exact ⟨new_ans n x y z zg _ _ ho _ (newD_same _ _ _ _ _ _ _ _ _) true, hb⟩
  · exact walkWN a zeroD false w ⟨by decide, by decide, by decide, fun v hv => by cases hv⟩ (by decide) (fun W => spec_worldNo a W (by omega)) (fun W => impl_worldNo a W (by omega))
end Go.Proofs.Ytocgndefjjomjaa
