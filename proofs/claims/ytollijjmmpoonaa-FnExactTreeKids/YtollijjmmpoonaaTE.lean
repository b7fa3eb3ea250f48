/- TreeUnder: of the program: the drawn region. -/
import Derived.Test.YtollijjmmpoonaaTD
namespace Go.Proofs.Ytollijjmmpoonaa
set_option linter.unusedVariables false
set_option linter.unusedSimpArgs false
open Go.ChangeShapes Go.WideShapes Go.ChangeAt Go.RowKit

/-- what treeOf answers, as one kind: the pointers of a tree, or none. -/
theorem treeIs_row {w w' : World} {ds : List Gr} {e : Ending} (h : TreeIs w w' ds e) : ∃ nb n, e = .returned (.agg (tRow ds nb n)) ∧
    ∀ W, Below w'.heap.size w' W → ∀ g h : Int, Calls Try.prog 41 #[atP ds nb n h, atP ds nb n g] W fun e w'' => e = .returned (.bool (underM ds g h)) ∧ w'' = W := by
  rcases h with ⟨ht, rfl⟩ | ⟨ht, nb, mb, Dm, rfl, htr, _⟩
  · refine ⟨_, 0, rfl, fun W _ g h => ?_⟩
    have e0 : underM ds g h = false := by unfold underM; rw [ht]; rfl
    rw [at_none, at_none, e0]
    exact isUnder_nil _ _
  · exact ⟨nb, 8, rfl, fun W hb g h => isUnder_any ds nb mb Dm _ g h W (htr.below hb) ht⟩
set_option maxRecDepth 100000 in
set_option maxHeartbeats 16000000 in
theorem impl_under (x : Value) (vs : List Gv) (g h : Int) (w : World) (hs : SlG w x vs) (hf : GsFit vs) :
    Calls Try.prog 21 #[x, .int .i64 g, .int .i64 h] w fun e w' => e = .returned (.bool (underM (gsD vs) g h)) ∧ Below w.heap.size w w' := by
  go_enter Try.func21, Try.ntmps21
  go_wp2_with fail
  refine (treeOf_any x vs w hs hf).mono ?_
  rintro e w1 ⟨hti, hb1⟩
  obtain ⟨nb, n, rfl, hcon⟩ := treeIs_row hti
  have HC : Hid (∀ W, Below w1.heap.size w1 W → ∀ g h : Int, Calls Try.prog 41 #[atP (gsD vs) nb n h, atP (gsD vs) nb n g] W fun e w'' => e = .returned (.bool (underM (gsD vs) g h)) ∧ w'' = W) := hcon
  clear hcon hti
  have hT := heap_alloc_new w1 (.cells #[.pointer none, .pointer none, .pointer none, .pointer none, .pointer none, .pointer none, .pointer none, .pointer none] 56 (0, 0))
  simp only []
  go_at_K
  go_wp2_with (first
    | refine wpList_store_row rfl 56 _ _ rfl w1.heap.size (tRow (gsD vs) nb n) rfl rfl 56 #[.pointer none, .pointer none, .pointer none, .pointer none, .pointer none, .pointer none, .pointer none, .pointer none] hT (info_treeR _ _ _) (by rw [tRow_size]; rfl) (tRow_one _ _ _) ?_)
  have hrow := setRow_heap _ _ _ (tRow (gsD vs) nb n) _ _ hT
  have hbs : Below w1.heap.size w1 ((w1.alloc (.cells #[.pointer none, .pointer none, .pointer none, .pointer none, .pointer none, .pointer none, .pointer none, .pointer none] 56 (0, 0))).setRow w1.heap.size (tRow (gsD vs) nb n)) := below_setRow ((Below.refl _ _).alloc (Nat.le_refl _) _) (Nat.le_refl _) _
  have E8 := tRow_eight (gsD vs) nb n
  have hrow8 : ((w1.alloc (.cells #[.pointer none, .pointer none, .pointer none, .pointer none, .pointer none, .pointer none, .pointer none, .pointer none] 56 (0, 0))).setRow w1.heap.size (tRow (gsD vs) nb n)).heap[w1.heap.size]? = some (.cells #[tP (gsD vs) nb n 0, tP (gsD vs) nb n 1, tP (gsD vs) nb n 2, tP (gsD vs) nb n 3, tP (gsD vs) nb n 4, tP (gsD vs) nb n 5, tP (gsD vs) nb n 6, tP (gsD vs) nb n 7] 56 (0, 0)) := by
    rw [hrow, E8]
  obtain ⟨k0, k1, k2, k3, k4, k5, k6, k7⟩ := cells8 hrow8
  have hlt : w1.heap.size < ((w1.alloc (.cells #[.pointer none, .pointer none, .pointer none, .pointer none, .pointer none, .pointer none, .pointer none, .pointer none] 56 (0, 0))).setRow w1.heap.size (tRow (gsD vs) nb n)).heap.size := (Array.getElem?_eq_some_iff.1 hrow).1
  have HBS : Hid (Below w1.heap.size w1 ((w1.alloc (.cells #[.pointer none, .pointer none, .pointer none, .pointer none, .pointer none, .pointer none, .pointer none, .pointer none] 56 (0, 0))).setRow w1.heap.size (tRow (gsD vs) nb n))) := hbs
  have HE8 : Hid (tRow (gsD vs) nb n = #[tP (gsD vs) nb n 0, tP (gsD vs) nb n 1, tP (gsD vs) nb n 2, tP (gsD vs) nb n 3, tP (gsD vs) nb n 4, tP (gsD vs) nb n 5, tP (gsD vs) nb n 6, tP (gsD vs) nb n 7]) := E8
  clear hrow hrow8 hbs E8 hT
  generalize (w1.alloc (.cells #[.pointer none, .pointer none, .pointer none, .pointer none, .pointer none, .pointer none, .pointer none, .pointer none] 56 (0, 0))).setRow w1.heap.size (tRow (gsD vs) nb n) = W at *
  have HLT : Hid (Below w1.heap.size w1 W) := HBS.out
  clear HBS
  generalize tP (gsD vs) nb n 0 = t0 at *
  generalize tP (gsD vs) nb n 1 = t1 at *
  generalize tP (gsD vs) nb n 2 = t2 at *
  generalize tP (gsD vs) nb n 3 = t3 at *
  generalize tP (gsD vs) nb n 4 = t4 at *
  generalize tP (gsD vs) nb n 5 = t5 at *
  generalize tP (gsD vs) nb n 6 = t6 at *
  generalize tP (gsD vs) nb n 7 = t7 at *
  generalize hT : w1.heap.size = T at k0 k1 k2 k3 k4 k5 k6 k7 hlt ⊢
  go_region_held3 (fun w' => Below W.heap.size W w' ∧ w'.cell? ⟨T, 0, none⟩ = some t0 ∧ w'.cell? ⟨T, 1, none⟩ = some t1 ∧ w'.cell? ⟨T, 2, none⟩ = some t2 ∧ w'.cell? ⟨T, 3, none⟩ = some t3 ∧ w'.cell? ⟨T, 4, none⟩ = some t4 ∧ w'.cell? ⟨T, 5, none⟩ = some t5 ∧ w'.cell? ⟨T, 6, none⟩ = some t6 ∧ w'.cell? ⟨T, 7, none⟩ = some t7) (first | (exact ⟨(Below.refl _ W).drew, k0, k1, k2, k3, k4, k5, k6, k7⟩) | (exact ⟨hb3, g0, g1, g2, g3, g4, g5, g6, g7⟩) | go_keep) (first | (go_at_call 34; (try rw [← HE8.out]); refine (at_any (gsD vs) nb n _ _).mono ?_; rintro e w2 ⟨rfl, hb2⟩; (first | (have hb3 : Below W.heap.size W w2 := hb3.trans (hb2.mono hb3.size)) | (have hb3 : Below W.heap.size W w2 := Below.trans (And.left (by assumption)) (hb2.mono (Below.size (And.left (by assumption)))))); have g0 := (hb3.cell hlt).trans k0; have g1 := (hb3.cell hlt).trans k1; have g2 := (hb3.cell hlt).trans k2; have g3 := (hb3.cell hlt).trans k3; have g4 := (hb3.cell hlt).trans k4; have g5 := (hb3.cell hlt).trans k5; have g6 := (hb3.cell hlt).trans k6; have g7 := (hb3.cell hlt).trans k7) | (go_at_call 41; refine (HC.out _ (HLT.out.trans (hb3.mono HLT.out.size)) g h).mono ?_; rintro e w2 ⟨rfl, rfl⟩))
  simp only [Exit.then]
  go_at_K
  go_wp2_with fail
  go_ret
  have hbW := hb1.trans (HLT.out.mono hb1.size)
  exact ⟨rfl, hbW.trans (hb3.mono hbW.size)⟩
end Go.Proofs.Ytollijjmmpoonaa
