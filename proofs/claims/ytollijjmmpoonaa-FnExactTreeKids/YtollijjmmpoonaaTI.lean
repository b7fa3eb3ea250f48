/- The program's hang: a node put into its parent, where there is one. -/
import Derived.Test.YtollijjmmpoonaaTH
namespace Go.Proofs.Ytollijjmmpoonaa
set_option linter.unusedVariables false
set_option linter.unusedSimpArgs false
open Go.ChangeShapes Go.WideShapes Go.ChangeAt Go.RowKit

def keyS (s : ByteArray) : Lit := .string s.data.toList
theorem key_of (s : ByteArray) (hs : s.size ≤ maxLen) : keyOf Try.prog 9 (.string s) = some (keyS s) := Go.WideMaps.keyOf_string_mk Try.underlying9 hs
theorem zero_int (w : World) : (zeroValue 3).run Try.prog w = .ok (.int .i64 0) w := by kernel_rfl
/-- what a map tells of a name. -/
theorem look_named {W : World} {b c : Nat} {D : DataW Unit} (h : W.ownsMap Try.prog 9 (plainElem Try.prog 3) b c D) (s : ByteArray) (hs : s.size ≤ maxLen) :
    ∃ x : Int, D.atKey (keyS s) (.lit (.int .i64 0)) = .lit (.int .i64 x) ∧ ∀ n, (Instr.lookup 64 (.map (some b)) (.string s) true).run Try.prog (W.drewN n) = .ok (.tuple #[.int .i64 x, .bool (Maps.has D (keyS s))]) (W.drewN n) := by
  have each : ∀ n, ∃ x : Int, D.atKey (keyS s) (.lit (.int .i64 0)) = .lit (.int .i64 x) ∧ (Instr.lookup 64 (.map (some b)) (.string s) true).run Try.prog (W.drewN n) = .ok (.tuple #[.int .i64 x, .bool (Maps.has D (keyS s))]) (W.drewN n) := by
    intro n
    have hn : (W.drewN n).ownsMap Try.prog 9 (plainElem Try.prog 3) b c D := h
    obtain ⟨v, ps, h1, h2⟩ := hn.look_ok strKeyed Try.underlying64 (zero_int _) (plainElem_int Try.underlying3 (by decide)) (key_of s hs)
    obtain ⟨x, rfl, h3, _⟩ := plainElem_int_inv Try.underlying3 h2
    exact ⟨x, congrArg Prod.fst h3, h1⟩
  obtain ⟨x, hx, _⟩ := each 0
  refine ⟨x, hx, fun n => ?_⟩
  obtain ⟨y, hy, hr⟩ := each n
  obtain rfl : x = y := by
    have := hx.symm.trans hy
    simpa using this
  exact hr
theorem node_cells {W : World} {ds : List Gr} {n c B : Nat} {nb mb : Nat → Nat} {par : Nat → Option Nat} {Dm : Nat → DataW Unit} (h : NS W ds n nb mb par Dm c B) {i : Nat} (hi : i < n) (hu : usAt ds i = true) :
    W.cell? ⟨nb i, 0, none⟩ = some (.int .i64 (i : Int)) ∧ W.cell? ⟨nb i, 1, none⟩ = some (.string (naAt ds i)) ∧ W.cell? ⟨nb i, 2, none⟩ = some (.pointer ((par i).map fun j => ⟨nb j, 0, none⟩)) ∧ W.cell? ⟨nb i, 3, none⟩ = some (.map (some (mb i))) ∧ W.frozen? ⟨nb i, 2, none⟩ = false := by
  obtain ⟨a, b, c, d⟩ := qbox (h.node i hi hu)
  exact ⟨a, b, c, d, fbox (h.node i hi hu) 2⟩
theorem NS.size_eq {W : World} {ds : List Gr} {n c B : Nat} {nb mb : Nat → Nat} {par : Nat → Option Nat} {Dm : Nat → DataW Unit} (h : NS W ds n nb mb par Dm c B) {c' : Nat} (hc : c ≤ c') : NS W ds n nb mb par Dm c' B :=
  ⟨h.node, fun i hi hu => (h.map i hi hu).mono hc, h.low, h.inj, h.sep⟩
/-- the names and the parent, as hang leaves them. -/
theorem NS.hang {W W6 : World} {ds : List Gr} {c B : Nat} {nb mb : Nat → Nat} {par : Nat → Option Nat} {Dm : Nat → DataW Unit} (h : NS W ds 8 nb mb par Dm c B) {k j : Nat} (hk : k < 8) (hj : j < 8) (uk : usAt ds k = true) (uj : usAt ds j = true)
    (hown : W6.ownsMap Try.prog 9 (plainElem Try.prog 3) (mb j) (c + 1) ((Dm j).put (keyS (naAt ds k)) (.lit (.int .i64 (k : Int))))) (hg : W.grownBy W6 (some (mb j))) :
    NS (W6.setCell ⟨nb k, 2, none⟩ (.pointer (some ⟨nb j, 0, none⟩))) ds 8 nb mb (upd par k (some j)) (upd Dm j ((Dm j).put (keyS (naAt ds k)) (.lit (.int .i64 (k : Int))))) (c + 1) B ∧
      Kept (fun g => g = nb k ∨ g = mb j) W (W6.setCell ⟨nb k, 2, none⟩ (.pointer (some ⟨nb j, 0, none⟩))) := by
  have hk1 := Kept.ofGrown hg
  have hk2 := Kept.set W6 (nb k) 2 (.pointer (some ⟨nb j, 0, none⟩))
  have hkk := hk1.trans hk2
  have hlt := fun i hi hu => h.lt (i := i) hi hu
  refine ⟨⟨?_, ?_, h.low, h.inj, h.sep⟩, hkk.mono ?_⟩
  · intro i hi hu
    have hsep := h.sep i j hi hj hu uj
    by_cases e : i = k
    · subst e
      have h6 : W6.heap[nb i]? = some (.cells (nodeC ds nb mb par i) 66 (0, 0)) := (hk1.block _ (hlt i hi hu).1 (by intro hh; exact hsep (Option.some.inj hh).symm)).trans (h.node i hi hu)
      rw [heap_setCell_same _ _ _ _ _ _ h6]
      unfold nodeC
      rw [upd_same]
      rfl
    · have hne := (h.inj i k hi hk hu uk e).1
      rw [hkk.block _ (hlt i hi hu).1 (by rintro (hh | hh); exact hsep (Option.some.inj hh).symm; exact hne hh), h.node i hi hu]
      unfold nodeC
      rw [upd_other _ _ e]
  · intro i hi hu
    by_cases e : i = j
    · subst e
      rw [upd_same]
      exact ownsMap_kept hown hk2 (fun hh => h.sep k i hk hi uk hu hh.symm)
    · rw [upd_other _ _ e]
      have hne := (h.inj i j hi hj hu uj e).2
      have hsep := h.sep k i hk hi uk hu
      exact (ownsMap_kept (h.map i hi hu) hkk (by rintro (hh | hh); exact hne (Option.some.inj hh).symm; exact hsep hh.symm)).mono (by omega)
  · rintro g (hh | hh)
    · exact .inr (Option.some.inj hh).symm
    · exact .inl hh
theorem small_wf {k : Nat} (h : k < 8) : (Lit.int .i64 (k : Int)).wf = true := by
  have : ∀ k : Fin 8, (Lit.int .i64 (k.val : Int)).wf = true := by decide
  exact this ⟨k, h⟩
set_option maxHeartbeats 16000000 in
theorem hang_bad (ds : List Gr) (nb mb : Nat → Nat) (par : Nat → Option Nat) (Dm : Nat → DataW Unit) (c B0 : Nat) (k j : Nat) (w : World) (hns : NS w ds 8 nb mb par Dm c B0) (hk : k < 8) (hj : j < 8) (uk : usAt ds k = true) (uj : usAt ds j = true) (hna : (naAt ds k).size ≤ 1048576) (hno : nameB (naAt ds k) = false) :
    Calls Try.prog 53 #[.agg (tRow ds nb 8), .int .i64 (k : Int), .int .i64 (j : Int)] w fun e w' => e = .returned (.bool false) ∧ Below w.heap.size w w' := by
  obtain ⟨hat0, hk1⟩ : atP ds nb 8 (j : Int) = .pointer (some ⟨nb j, 0, none⟩) ∧ (k : Int) < 8 := ⟨by unfold atP; rw [if_pos (by omega), Int.toNat_natCast, tP_used hj uj], by omega⟩
  have e8 := tRow_eight ds nb 8
  obtain ⟨k0, k1, k2, k3, k4, k5, k6, k7⟩ := cells8 (heap_alloc_new w (.cells #[tP ds nb 8 0, tP ds nb 8 1, tP ds nb 8 2, tP ds nb 8 3, tP ds nb 8 4, tP ds nb 8 5, tP ds nb 8 6, tP ds nb 8 7] 56 (0, 0)))
  have hc := cell_of_row (w.alloc (.cells (tRow ds nb 8) 56 (0, 0))) w.heap.size k _ _ _ (heap_alloc_new _ _)
  rw [tRow_get ds nb 8 k hk, tP_used hk uk, e8] at hc
  have E8 : Hid (tRow ds nb 8 = #[tP ds nb 8 0, tP ds nb 8 1, tP ds nb 8 2, tP ds nb 8 3, tP ds nb 8 4, tP ds nb 8 5, tP ds nb 8 6, tP ds nb 8 7]) := e8
  have HA : Hid (atP ds nb 8 (j : Int) = .pointer (some ⟨nb j, 0, none⟩)) := hat0
  rw [e8]
  clear e8 hat0
  have hlt : w.heap.size < (w.alloc (.cells #[tP ds nb 8 0, tP ds nb 8 1, tP ds nb 8 2, tP ds nb 8 3, tP ds nb 8 4, tP ds nb 8 5, tP ds nb 8 6, tP ds nb 8 7] 56 (0, 0))).heap.size := by simp
  have acc0 : Below w.heap.size w (w.alloc (.cells #[tP ds nb 8 0, tP ds nb 8 1, tP ds nb 8 2, tP ds nb 8 3, tP ds nb 8 4, tP ds nb 8 5, tP ds nb 8 6, tP ds nb 8 7] 56 (0, 0))) := by go_grown
  have ACC : Hid (Below w.heap.size w (w.alloc (.cells #[tP ds nb 8 0, tP ds nb 8 1, tP ds nb 8 2, tP ds nb 8 3, tP ds nb 8 4, tP ds nb 8 5, tP ds nb 8 6, tP ds nb 8 7] 56 (0, 0)))) := acc0
  have HNS : Hid (NS w ds 8 nb mb par Dm c B0) := hns
  clear acc0 hns
  go_enter Try.func53, Try.ntmps53
  go_wp2_with fail
  generalize tP ds nb 8 0 = t0 at *
  generalize tP ds nb 8 1 = t1 at *
  generalize tP ds nb 8 2 = t2 at *
  generalize tP ds nb 8 3 = t3 at *
  generalize tP ds nb 8 4 = t4 at *
  generalize tP ds nb 8 5 = t5 at *
  generalize tP ds nb 8 6 = t6 at *
  generalize tP ds nb 8 7 = t7 at *
  generalize w.alloc (.cells #[t0, t1, t2, t3, t4, t5, t6, t7] 56 (0, 0)) = W at *
  generalize hB : w.heap.size = B at k0 k1 k2 k3 k4 k5 k6 k7 hc hlt ⊢
  go_region_held3 (fun w' => w'.cell? ⟨B, 0, none⟩ = some t0 ∧ w'.cell? ⟨B, 1, none⟩ = some t1 ∧ w'.cell? ⟨B, 2, none⟩ = some t2 ∧ w'.cell? ⟨B, 3, none⟩ = some t3 ∧ w'.cell? ⟨B, 4, none⟩ = some t4 ∧ w'.cell? ⟨B, 5, none⟩ = some t5 ∧ w'.cell? ⟨B, 6, none⟩ = some t6 ∧ w'.cell? ⟨B, 7, none⟩ = some t7 ∧ w'.cell? ⟨B, k, none⟩ = some (.pointer (some ⟨nb k, 0, none⟩))) (go_keep) (first | (go_at_call 34; rw [← E8.out]; refine (at_any ds nb 8 (j : Int) _).mono ?_; rw [HA.out]; rintro e w2 ⟨rfl, hb2⟩; have hb3 := (Below.refl _ W).drew.trans hb2; have g0 := (hb3.cell hlt).trans k0; have g1 := (hb3.cell hlt).trans k1; have g2 := (hb3.cell hlt).trans k2; have g3 := (hb3.cell hlt).trans k3; have g4 := (hb3.cell hlt).trans k4; have g5 := (hb3.cell hlt).trans k5; have g6 := (hb3.cell hlt).trans k6; have g7 := (hb3.cell hlt).trans k7; have g8 := (hb3.cell hlt).trans hc))
  clear k0 k1 k2 k3 k4 k5 k6 k7 hc g0 g1 g2 g3 g4 g5 g6 g7 g8 E8 HA hb2 hlt
  subst hB
  have acc := ACC.out.trans (hb3.mono ACC.out.size)
  have ns2 := HNS.out.below acc
  clear ACC HNS hb3
  obtain ⟨a0, a1, a2, a3, a2f⟩ := node_cells ns2 hk uk
  obtain ⟨b0, b1, b2, b3, b2f⟩ := node_cells ns2 hj uj
  have HN2 : Hid (NS w2 ds 8 nb mb par Dm c B0) := ns2
  clear ns2
  simp only [Exit.then]
  go_at_K
  go_wp2_with fail
  refine (impl_name _ _).mono ?_
  rintro e w3 ⟨rfl, hb3⟩
  have acc3 := acc.trans (hb3.mono acc.size)
  have ns3 := HN2.out.below hb3
  clear HN2 hb3 acc a0 a1 a2 a3 a2f b0 b1 b2 b3 b2f
  rw [hno]
  simp only []
  go_at_K
  go_wp2_with fail
  go_ret
  exact ⟨rfl, acc3⟩

set_option maxHeartbeats 16000000 in
theorem hang_there (ds : List Gr) (nb mb : Nat → Nat) (par : Nat → Option Nat) (Dm : Nat → DataW Unit) (c B0 : Nat) (k j : Nat) (w : World) (hns : NS w ds 8 nb mb par Dm c B0) (hk : k < 8) (hj : j < 8) (uk : usAt ds k = true) (uj : usAt ds j = true) (hna : (naAt ds k).size ≤ 1048576) (hno : nameB (naAt ds k) = true) (hh : Maps.has (Dm j) (keyS (naAt ds k)) = true) :
    Calls Try.prog 53 #[.agg (tRow ds nb 8), .int .i64 (k : Int), .int .i64 (j : Int)] w fun e w' => e = .returned (.bool false) ∧ Below w.heap.size w w' := by
  obtain ⟨hat0, hk1⟩ : atP ds nb 8 (j : Int) = .pointer (some ⟨nb j, 0, none⟩) ∧ (k : Int) < 8 := ⟨by unfold atP; rw [if_pos (by omega), Int.toNat_natCast, tP_used hj uj], by omega⟩
  have e8 := tRow_eight ds nb 8
  obtain ⟨k0, k1, k2, k3, k4, k5, k6, k7⟩ := cells8 (heap_alloc_new w (.cells #[tP ds nb 8 0, tP ds nb 8 1, tP ds nb 8 2, tP ds nb 8 3, tP ds nb 8 4, tP ds nb 8 5, tP ds nb 8 6, tP ds nb 8 7] 56 (0, 0)))
  have hc := cell_of_row (w.alloc (.cells (tRow ds nb 8) 56 (0, 0))) w.heap.size k _ _ _ (heap_alloc_new _ _)
  rw [tRow_get ds nb 8 k hk, tP_used hk uk, e8] at hc
  have E8 : Hid (tRow ds nb 8 = #[tP ds nb 8 0, tP ds nb 8 1, tP ds nb 8 2, tP ds nb 8 3, tP ds nb 8 4, tP ds nb 8 5, tP ds nb 8 6, tP ds nb 8 7]) := e8
  have HA : Hid (atP ds nb 8 (j : Int) = .pointer (some ⟨nb j, 0, none⟩)) := hat0
  rw [e8]
  clear e8 hat0
  have hlt : w.heap.size < (w.alloc (.cells #[tP ds nb 8 0, tP ds nb 8 1, tP ds nb 8 2, tP ds nb 8 3, tP ds nb 8 4, tP ds nb 8 5, tP ds nb 8 6, tP ds nb 8 7] 56 (0, 0))).heap.size := by simp
  have acc0 : Below w.heap.size w (w.alloc (.cells #[tP ds nb 8 0, tP ds nb 8 1, tP ds nb 8 2, tP ds nb 8 3, tP ds nb 8 4, tP ds nb 8 5, tP ds nb 8 6, tP ds nb 8 7] 56 (0, 0))) := by go_grown
  have ACC : Hid (Below w.heap.size w (w.alloc (.cells #[tP ds nb 8 0, tP ds nb 8 1, tP ds nb 8 2, tP ds nb 8 3, tP ds nb 8 4, tP ds nb 8 5, tP ds nb 8 6, tP ds nb 8 7] 56 (0, 0)))) := acc0
  have HNS : Hid (NS w ds 8 nb mb par Dm c B0) := hns
  clear acc0 hns
  go_enter Try.func53, Try.ntmps53
  go_wp2_with fail
  generalize tP ds nb 8 0 = t0 at *
  generalize tP ds nb 8 1 = t1 at *
  generalize tP ds nb 8 2 = t2 at *
  generalize tP ds nb 8 3 = t3 at *
  generalize tP ds nb 8 4 = t4 at *
  generalize tP ds nb 8 5 = t5 at *
  generalize tP ds nb 8 6 = t6 at *
  generalize tP ds nb 8 7 = t7 at *
  generalize w.alloc (.cells #[t0, t1, t2, t3, t4, t5, t6, t7] 56 (0, 0)) = W at *
  generalize hB : w.heap.size = B at k0 k1 k2 k3 k4 k5 k6 k7 hc hlt ⊢
  go_region_held3 (fun w' => w'.cell? ⟨B, 0, none⟩ = some t0 ∧ w'.cell? ⟨B, 1, none⟩ = some t1 ∧ w'.cell? ⟨B, 2, none⟩ = some t2 ∧ w'.cell? ⟨B, 3, none⟩ = some t3 ∧ w'.cell? ⟨B, 4, none⟩ = some t4 ∧ w'.cell? ⟨B, 5, none⟩ = some t5 ∧ w'.cell? ⟨B, 6, none⟩ = some t6 ∧ w'.cell? ⟨B, 7, none⟩ = some t7 ∧ w'.cell? ⟨B, k, none⟩ = some (.pointer (some ⟨nb k, 0, none⟩))) (go_keep) (first | (go_at_call 34; rw [← E8.out]; refine (at_any ds nb 8 (j : Int) _).mono ?_; rw [HA.out]; rintro e w2 ⟨rfl, hb2⟩; have hb3 := (Below.refl _ W).drew.trans hb2; have g0 := (hb3.cell hlt).trans k0; have g1 := (hb3.cell hlt).trans k1; have g2 := (hb3.cell hlt).trans k2; have g3 := (hb3.cell hlt).trans k3; have g4 := (hb3.cell hlt).trans k4; have g5 := (hb3.cell hlt).trans k5; have g6 := (hb3.cell hlt).trans k6; have g7 := (hb3.cell hlt).trans k7; have g8 := (hb3.cell hlt).trans hc))
  clear k0 k1 k2 k3 k4 k5 k6 k7 hc g0 g1 g2 g3 g4 g5 g6 g7 g8 E8 HA hb2 hlt
  subst hB
  have acc := ACC.out.trans (hb3.mono ACC.out.size)
  have ns2 := HNS.out.below acc
  clear ACC HNS hb3
  obtain ⟨a0, a1, a2, a3, a2f⟩ := node_cells ns2 hk uk
  obtain ⟨b0, b1, b2, b3, b2f⟩ := node_cells ns2 hj uj
  have HN2 : Hid (NS w2 ds 8 nb mb par Dm c B0) := ns2
  clear ns2
  simp only [Exit.then]
  go_at_K
  go_wp2_with fail
  refine (impl_name _ _).mono ?_
  rintro e w3 ⟨rfl, hb3⟩
  have acc3 := acc.trans (hb3.mono acc.size)
  have ns3 := HN2.out.below hb3
  clear HN2 hb3 acc a0 a1 a2 a3 a2f b0 b1 b2 b3 b2f
  rw [hno]
  simp only []
  go_at_K
  go_wp2_with fail
  obtain ⟨a0, a1, a2, a3, a2f⟩ := node_cells ns3 hk uk
  obtain ⟨b0, b1, b2, b3, b2f⟩ := node_cells ns3 hj uj
  obtain ⟨xx, hx, hl⟩ := look_named (ns3.map j hj uj) (naAt ds k) (by unfold maxLen; omega)
  rw [hh] at hl
  have HN3 : Hid (NS w3 ds 8 nb mb par Dm c B0) := ns3
  clear ns3 hx
  go_quiet (fail)
  go_wp2_with fail
  go_ret
  exact ⟨rfl, below_drewN acc3 _⟩

set_option maxHeartbeats 16000000 in
theorem hang_yes (ds : List Gr) (nb mb : Nat → Nat) (par : Nat → Option Nat) (Dm : Nat → DataW Unit) (c B0 : Nat) (k j : Nat) (w : World) (hns : NS w ds 8 nb mb par Dm c B0) (hk : k < 8) (hj : j < 8) (uk : usAt ds k = true) (uj : usAt ds j = true) (hna : (naAt ds k).size ≤ 1048576) (hno : nameB (naAt ds k) = true) (hh : Maps.has (Dm j) (keyS (naAt ds k)) = false) (hcc : c ≤ 1000) :
    Calls Try.prog 53 #[.agg (tRow ds nb 8), .int .i64 (k : Int), .int .i64 (j : Int)] w fun e w' => e = .returned (.bool true) ∧ NS w' ds 8 nb mb (upd par k (some j)) (upd Dm j ((Dm j).put (keyS (naAt ds k)) (.lit (.int .i64 (k : Int))))) (c + 1) B0 ∧ Kept (fun g => g = nb k ∨ g = mb j) w w' := by
  obtain ⟨hat0, hk1⟩ : atP ds nb 8 (j : Int) = .pointer (some ⟨nb j, 0, none⟩) ∧ (k : Int) < 8 := ⟨by unfold atP; rw [if_pos (by omega), Int.toNat_natCast, tP_used hj uj], by omega⟩
  have e8 := tRow_eight ds nb 8
  obtain ⟨k0, k1, k2, k3, k4, k5, k6, k7⟩ := cells8 (heap_alloc_new w (.cells #[tP ds nb 8 0, tP ds nb 8 1, tP ds nb 8 2, tP ds nb 8 3, tP ds nb 8 4, tP ds nb 8 5, tP ds nb 8 6, tP ds nb 8 7] 56 (0, 0)))
  have hc := cell_of_row (w.alloc (.cells (tRow ds nb 8) 56 (0, 0))) w.heap.size k _ _ _ (heap_alloc_new _ _)
  rw [tRow_get ds nb 8 k hk, tP_used hk uk, e8] at hc
  have E8 : Hid (tRow ds nb 8 = #[tP ds nb 8 0, tP ds nb 8 1, tP ds nb 8 2, tP ds nb 8 3, tP ds nb 8 4, tP ds nb 8 5, tP ds nb 8 6, tP ds nb 8 7]) := e8
  have HA : Hid (atP ds nb 8 (j : Int) = .pointer (some ⟨nb j, 0, none⟩)) := hat0
  rw [e8]
  clear e8 hat0
  have hlt : w.heap.size < (w.alloc (.cells #[tP ds nb 8 0, tP ds nb 8 1, tP ds nb 8 2, tP ds nb 8 3, tP ds nb 8 4, tP ds nb 8 5, tP ds nb 8 6, tP ds nb 8 7] 56 (0, 0))).heap.size := by simp
  have acc0 : Below w.heap.size w (w.alloc (.cells #[tP ds nb 8 0, tP ds nb 8 1, tP ds nb 8 2, tP ds nb 8 3, tP ds nb 8 4, tP ds nb 8 5, tP ds nb 8 6, tP ds nb 8 7] 56 (0, 0))) := by go_grown
  have ACC : Hid (Below w.heap.size w (w.alloc (.cells #[tP ds nb 8 0, tP ds nb 8 1, tP ds nb 8 2, tP ds nb 8 3, tP ds nb 8 4, tP ds nb 8 5, tP ds nb 8 6, tP ds nb 8 7] 56 (0, 0)))) := acc0
  have HNS : Hid (NS w ds 8 nb mb par Dm c B0) := hns
  clear acc0 hns
  go_enter Try.func53, Try.ntmps53
  go_wp2_with fail
  generalize tP ds nb 8 0 = t0 at *
  generalize tP ds nb 8 1 = t1 at *
  generalize tP ds nb 8 2 = t2 at *
  generalize tP ds nb 8 3 = t3 at *
  generalize tP ds nb 8 4 = t4 at *
  generalize tP ds nb 8 5 = t5 at *
  generalize tP ds nb 8 6 = t6 at *
  generalize tP ds nb 8 7 = t7 at *
  generalize w.alloc (.cells #[t0, t1, t2, t3, t4, t5, t6, t7] 56 (0, 0)) = W at *
  generalize hBB : w.heap.size = B at k0 k1 k2 k3 k4 k5 k6 k7 hc hlt ⊢
  go_region_held3 (fun w' => w'.cell? ⟨B, 0, none⟩ = some t0 ∧ w'.cell? ⟨B, 1, none⟩ = some t1 ∧ w'.cell? ⟨B, 2, none⟩ = some t2 ∧ w'.cell? ⟨B, 3, none⟩ = some t3 ∧ w'.cell? ⟨B, 4, none⟩ = some t4 ∧ w'.cell? ⟨B, 5, none⟩ = some t5 ∧ w'.cell? ⟨B, 6, none⟩ = some t6 ∧ w'.cell? ⟨B, 7, none⟩ = some t7 ∧ w'.cell? ⟨B, k, none⟩ = some (.pointer (some ⟨nb k, 0, none⟩))) (go_keep) (first | (go_at_call 34; rw [← E8.out]; refine (at_any ds nb 8 (j : Int) _).mono ?_; rw [HA.out]; rintro e w2 ⟨rfl, hb2⟩; have hb3 := (Below.refl _ W).drew.trans hb2; have g0 := (hb3.cell hlt).trans k0; have g1 := (hb3.cell hlt).trans k1; have g2 := (hb3.cell hlt).trans k2; have g3 := (hb3.cell hlt).trans k3; have g4 := (hb3.cell hlt).trans k4; have g5 := (hb3.cell hlt).trans k5; have g6 := (hb3.cell hlt).trans k6; have g7 := (hb3.cell hlt).trans k7; have g8 := (hb3.cell hlt).trans hc))
  clear k0 k1 k2 k3 k4 k5 k6 k7 hc g0 g1 g2 g3 g4 g5 g6 g7 g8 E8 HA hb2 hlt
  subst hBB
  have acc := ACC.out.trans (hb3.mono ACC.out.size)
  have ns2 := HNS.out.below acc
  clear ACC HNS hb3
  obtain ⟨a0, a1, a2, a3, a2f⟩ := node_cells ns2 hk uk
  obtain ⟨b0, b1, b2, b3, b2f⟩ := node_cells ns2 hj uj
  have HN2 : Hid (NS w2 ds 8 nb mb par Dm c B0) := ns2
  clear ns2
  simp only [Exit.then]
  go_at_K
  go_wp2_with fail
  refine (impl_name _ _).mono ?_
  rintro e w3 ⟨rfl, hb3⟩
  have acc3 := acc.trans (hb3.mono acc.size)
  have ns3 := HN2.out.below hb3
  clear HN2 hb3 acc a0 a1 a2 a3 a2f b0 b1 b2 b3 b2f
  rw [hno]
  simp only []
  go_at_K
  go_wp2_with fail
  obtain ⟨a0, a1, a2, a3, a2f⟩ := node_cells ns3 hk uk
  obtain ⟨b0, b1, b2, b3, b2f⟩ := node_cells ns3 hj uj
  obtain ⟨xx, hx, hl⟩ := look_named (ns3.map j hj uj) (naAt ds k) (by unfold maxLen; omega)
  rw [hh] at hl
  have HN3 : Hid (NS w3 ds 8 nb mb par Dm c B0) := ns3
  clear ns3 hx
  go_quiet (fail)
  go_wp2_with fail
  clear a0 a1 a2 a3 a2f b0 b1 b2 b3 b2f hl
  generalize hw5 : w3.drewN _ = w5
  have ns5 : NS w5 ds 8 nb mb par Dm c B0 := by rw [← hw5]; exact HN3.out.below (below_drewN (Below.refl _ w3) _)
  have acc5 : Below w.heap.size w w5 := by rw [← hw5]; exact below_drewN acc3 _
  clear hw5 HN3 acc3
  obtain ⟨a0, a1, a2, a3, a2f⟩ := node_cells ns5 hk uk
  obtain ⟨b0, b1, b2, b3, b2f⟩ := node_cells ns5 hj uj
  obtain ⟨w6, hrun, hown, hgrow⟩ := (show w5.drew.ownsMap Try.prog 9 (plainElem Try.prog 3) (mb j) c (Dm j) from ns5.map j hj uj).update strKeyed Try.underlying64 (by unfold maxLen; omega) (key_of (naAt ds k) (by unfold maxLen; omega)) (plainElem_int Try.underlying3 (a := (k : Int)) (small_wf hk))
  have hkn := (Kept.ofGrown hgrow).block (nb k) (ns5.lt hk uk).1 (by intro h; exact ns5.sep k j hk hj uk uj (Option.some.inj h).symm)
  have d2 := (World.cell?_of_block (a := ⟨nb k, 2, none⟩) hkn).trans a2
  have d2f := (World.frozen?_of_block (a := ⟨nb k, 2, none⟩) hkn).trans a2f
  have HR := NS.hang (W := w5.drew) (c := c) (ns5.below ((Below.refl _ _).drew)) hk hj uk uj hown hgrow
  have HRH : Hid (NS (w6.setCell ⟨nb k, 2, none⟩ (.pointer (some ⟨nb j, 0, none⟩))) ds 8 nb mb (upd par k (some j)) (upd Dm j ((Dm j).put (keyS (naAt ds k)) (.lit (.int .i64 (k : Int))))) (c + 1) B0 ∧ Kept (fun g => g = nb k ∨ g = mb j) w5.drew (w6.setCell ⟨nb k, 2, none⟩ (.pointer (some ⟨nb j, 0, none⟩)))) := HR
  clear HR hown hgrow hkn ns5
  go_region
  all_goals
    simp only [Exit.then]
    go_at_K
    go_wp2_with fail
    go_ret
    exact ⟨rfl, HRH.out.1, ((Kept.ofBelow acc5.drew).trans HRH.out.2).mono (by intro g hg; rcases hg with h | h; exact h.elim; exact h)⟩
end Go.Proofs.Ytollijjmmpoonaa
