/- Rows of Shelfs of one's own: what marks them, what asks whether they are held. Rows of Cpus of one's own: what marks them, what asks whether they are held. Rows of Tasks of one's own: what marks them, what asks whether they are held. Pools as plain data; the statements' own functions on them: what copies, measures, compares, marks one, and what asks whether it is held. Pools: what marks one, what asks whether it is held; a pool that comes in as an argument, opened. Groups as plain data, with the slices that hold their rows; what copies one, compares two, measures one. Rows of groups: what copies, compares and measures them; such rows that came in, opened. Rows of groups: what compares and measures them; such rows that came in, opened. Rows of groups: what measures them; such rows that came in, opened. -/
import Derived.Test.YtnmmglkigiakaaaGreatD02
namespace Go.Proofs.YtnmmglkigiakaaaGreat
set_option maxRecDepth 100000
set_option maxHeartbeats 32000000
set_option linter.unusedVariables false
set_option linter.unusedSimpArgs false
open Go.ChangeShapes Go.WideShapes Go.ChangeAt Go.RowKit
abbrev OwnSh := OwnR shC 5
abbrev OwnCp := OwnR cpC 5
abbrev OwnTk := OwnR tkC 9
structure Ba where
  qu : Int
  po : Int
  sp : Int
  lo : List Int
  dr : List Bool
def ba0 : Ba := ⟨0, 0, 0, [], []⟩
def baV (b : Ba) (x y : Value) : Value := .agg #[.int .i64 b.qu, .int .i64 b.po, .int .i64 b.sp, x, y]
theorem bbox {w : World} {b : Nat} {x y z u v : Value} {t : TypeId} (h : w.heap[b]? = some (.cells #[x, y, z, u, v] t (0, 0))) :
    w.cell? ⟨b, 0, none⟩ = some x ∧ w.cell? ⟨b, 1, none⟩ = some y ∧ w.cell? ⟨b, 2, none⟩ = some z ∧ w.cell? ⟨b, 3, none⟩ = some u ∧ w.cell? ⟨b, 4, none⟩ = some v := by
  refine ⟨?_, ?_, ?_, ?_, ?_⟩ <;> simp [World.cell?, h]
def OwnBa (B : Nat) (W : World) (x y : Value) (b : Ba) : Prop := OwnI B W x b.lo ∧ OwnB B W y b.dr ∧ ∀ g, x.ownBlock = some g → y.ownBlock ≠ some g
theorem OwnBa.kept {S : Nat → Prop} {B : Nat} {W W' : World} {x y : Value} {b : Ba} (h : OwnBa B W x y b) (hk : Kept S W W') (h1 : ∀ g, x.ownBlock = some g → ¬ S g) (h2 : ∀ g, y.ownBlock = some g → ¬ S g) : OwnBa B W' x y b :=
  ⟨h.1.kept hk h1, h.2.1.kept hk h2, h.2.2⟩
theorem OwnBa.below {B : Nat} {W W' : World} {x y : Value} {b : Ba} (h : OwnBa B W x y b) (hb : Below W.heap.size W W') : OwnBa B W' x y b :=
  ⟨h.1.below hb, h.2.1.below hb, h.2.2⟩
theorem OwnBa.mono {B B' : Nat} {W : World} {x y : Value} {b : Ba} (h : OwnBa B W x y b) (hB : B' ≤ B) : OwnBa B' W x y b :=
  ⟨h.1.mono hB, h.2.1.mono hB, h.2.2⟩
def SlBa (W : World) (x y : Value) (b : Ba) : Prop := SlI W x b.lo ∧ SlB W y b.dr
theorem SlBa.below {W W' : World} {x y : Value} {b : Ba} (h : SlBa W x y b) (hb : Below W.heap.size W W') : SlBa W' x y b := ⟨h.1.below hb, h.2.below hb⟩
theorem SlI.form {W : World} {x : Value} {ws : List Int} (h : SlI W x ws) : ∃ p c, x = .slice p ws.length c ∧ ws.length ≤ 9223372036854775807 := by
  rcases h with ⟨h0, a, cap, rfl⟩ | ⟨g, o, cap, rfl, _, h1, h2⟩
  · exact ⟨a, cap, by rw [h0]; rfl, by rw [h0]; decide⟩
  · exact ⟨_, _, rfl, by unfold maxLen at h2; omega⟩
theorem SlB.form {W : World} {x : Value} {ws : List Bool} (h : SlB W x ws) : ∃ p c, x = .slice p ws.length c ∧ ws.length ≤ 9223372036854775807 := by
  rcases h with ⟨h0, a, cap, rfl⟩ | ⟨g, o, cap, rfl, _, h1, h2⟩
  · exact ⟨a, cap, by rw [h0]; rfl, by rw [h0]; decide⟩
  · exact ⟨_, _, rfl, by unfold maxLen at h2; omega⟩

theorem eqBand_same (b : Ba) (x y x' y' : Value) (w : World) (hx : SlBa w x y b) (hy : SlBa w x' y' b) :
    Calls Tryz.prog 124 #[baV b x y, baV b x' y'] w fun e w' => e = .returned (.bool true) ∧ Below w.heap.size w w' := by
  have hB : ∀ A B, Below w.heap.size w ((w.alloc A).alloc B) := fun A B => ((Below.refl _ _).alloc (Nat.le_refl _) _).alloc (by simp) _
  unfold baV
  go_enter Tryz.func124, Tryz.ntmps124
  go_wp2_with fail
  refine (eqIntS_same x x' b.lo _ (hx.1.below (hB _ _)) (hy.1.below (hB _ _))).mono ?_
  rintro e1 w2 ⟨rfl, hb2⟩
  obtain ⟨hbl, hlt, hX, hY⟩ := two_box hb2
  obtain ⟨q0, q1, q2, q3, q4⟩ := bbox hX
  obtain ⟨r0, r1, r2, r3, r4⟩ := bbox hY
  simp only []
  go_at_K
  go_wp2_with fail
  refine (eqBoolS_same y y' b.dr _ (hx.2.below hbl) (hy.2.below hbl)).mono ?_
  rintro e1 w3 ⟨rfl, hb3⟩
  simp only []
  go_at_K
  go_wp2_with fail
  go_ret
  exact ⟨rfl, hbl.trans (hb3.mono hbl.size)⟩

theorem range_of_block {w : World} {b : Nat} {cs : List Value} {t : TypeId} (h : w.heap[b]? = some (.cells cs.toArray t (0, 0))) : w.rangeAt b 0 cs := by
  intro j v hv
  rw [Nat.zero_add]
  simp [World.cell?, h, hv]
theorem five_set {w : World} {b : Nat} {x0 x1 x2 x3 x4 : Value} {t : TypeId} (h : w.heap[b]? = some (.cells #[x0, x1, x2, x3, x4] t (0, 0))) (v0 v1 v2 v3 v4 : Value) :
    (((((w.setCell ⟨b, 0, none⟩ v0).setCell ⟨b, 1, none⟩ v1).setCell ⟨b, 2, none⟩ v2).setCell ⟨b, 3, none⟩ v3).setCell ⟨b, 4, none⟩ v4).heap[b]? = some (.cells #[v0, v1, v2, v3, v4] t (0, 0)) := by
  rw [heap_setCell_same _ _ _ _ _ _ (heap_setCell_same _ _ _ _ _ _ (heap_setCell_same _ _ _ _ _ _ (heap_setCell_same _ _ _ _ _ _ (heap_setCell_same _ _ _ _ _ _ h))))]
  rfl
theorem Kept.five (w : World) (b : Nat) (v0 v1 v2 v3 v4 : Value) : Kept (fun k => k = b) w (((((w.setCell ⟨b, 0, none⟩ v0).setCell ⟨b, 1, none⟩ v1).setCell ⟨b, 2, none⟩ v2).setCell ⟨b, 3, none⟩ v3).setCell ⟨b, 4, none⟩ v4) :=
  (((((Kept.set w b 0 v0).trans (Kept.set _ b 1 v1)).trans (Kept.set _ b 2 v2)).trans (Kept.set _ b 3 v3)).trans (Kept.set _ b 4 v4)).mono (by intro k h; simpa using h)
theorem info_ba : (Tryz.prog.info? 81).map (·.size) = some 5 := by kernel_rfl
theorem toBand_any (b : Ba) (x y : Value) (w : World) (hs : SlBa w x y b) (hl : b.lo.length ≤ 1048576) (hd : b.dr.length ≤ 1048576) :
    Calls Tryz.prog 118 #[baV b x y] w fun e w' => ∃ x' y', e = .returned (baV b x' y') ∧ OwnBa w.heap.size w' x' y' b ∧ Below w.heap.size w w' := by
  unfold baV
  have hB : ∀ A B C, Below w.heap.size w (((w.alloc A).alloc B).alloc C) := fun A B C => (((Below.refl _ _).alloc (Nat.le_refl _) _).alloc (by simp) _).alloc (by simp; omega) _
  go_enter Tryz.func118, Tryz.ntmps118
  go_wp2_with fail
  refine (toIntS_any x b.lo _ (hs.1.below (hB _ _ _)) hl).mono ?_
  rintro e1 w2 ⟨x', rfl, hN, hb2⟩
  obtain ⟨hbl, hlt, hA, hR, hO⟩ := three_box' hb2
  obtain ⟨g, g1, g2, rfl, g4, g5⟩ := hN
  have hg : w.heap.size + 3 ≤ g := by simpa using g1
  obtain ⟨a0, a1, a2, a3, a4⟩ := bbox hA
  obtain ⟨o0, o1, o2, o3, o4⟩ := bbox hO
  have o3f := fbox hO 3
  simp only []
  go_at_K
  go_wp2_with fail
  have hK := Kept.set w2 (w.heap.size + 1 + 1) 3 (.slice (some ⟨g, 0, none⟩) b.lo.length b.lo.length)
  have hb3 : Below w.heap.size w (w2.setCell ⟨w.heap.size + 1 + 1, 3, none⟩ (.slice (some ⟨g, 0, none⟩) b.lo.length b.lo.length)) := hbl.setCell (by simp; omega) _
  refine (toBoolS_any y b.dr _ (hs.2.below hb3) hd).mono ?_
  rintro e1 w4 ⟨y', rfl, hN', hb4⟩
  obtain ⟨h, h1, h2, rfl, h4, h5⟩ := hN'
  simp only [World.size_setCell] at h1
  have hgh : g < h := by omega
  have hOs := heap_setCell_same w2 (w.heap.size + 1 + 1) 3 _ _ (.slice (some ⟨g, 0, none⟩) b.lo.length b.lo.length) hO
  have hA4 := (hb4.block (w.heap.size) (by simp; omega)).trans ((hK.block _ (by omega) (by omega)).trans hA)
  have hR4 := (hb4.block (w.heap.size + 1) (by simp; omega)).trans ((hK.block _ (by omega) (by omega)).trans hR)
  have hO4 := (hb4.block (w.heap.size + 1 + 1) (by simp; omega)).trans hOs
  have hsz4 := hb4.size
  simp only [World.size_setCell] at hsz4
  have acc4 := hb3.trans (hb4.mono hb3.size)
  have g4' := (hK.ints g2 (by omega) g4).below hb4
  have g5' := there_below (hK.there g2 (by omega) g5) hb4 (by simpa using g2)
  clear o0 o1 o2 o3 o4 a0 a1 a2 a3 a4 o3f
  simp only [List.setIfInBounds_toArray, List.set_cons_succ, List.set_cons_zero] at hO4
  obtain ⟨o0, o1, o2, o3, o4⟩ := bbox hO4
  obtain ⟨r0, r1, r2, r3, r4⟩ := bbox hR4
  have o4f := fbox hO4 4
  have r0f := fbox hR4 0
  have r1f := fbox hR4 1
  have r2f := fbox hR4 2
  have r3f := fbox hR4 3
  have r4f := fbox hR4 4
  simp only []
  go_at_K
  go_wp2_with fail
  have hK2 := Kept.set w4 (w.heap.size + 1 + 1) 4 (.slice (some ⟨h, 0, none⟩) b.dr.length b.dr.length)
  have hR5 := (hK2.block (w.heap.size + 1) (by omega) (by omega)).trans hR4
  have hK3 := hK2.trans (Kept.five _ (w.heap.size + 1) (.int .i64 b.qu) (.int .i64 b.po) (.int .i64 b.sp) (.slice (some ⟨g, 0, none⟩) b.lo.length b.lo.length) (.slice (some ⟨h, 0, none⟩) b.dr.length b.dr.length))
  refine bodyPost_ret (results_mid rfl _ _ (w.heap.size + 1) 0 [.int .i64 b.qu, .int .i64 b.po, .int .i64 b.sp, .slice (some ⟨g, 0, none⟩) b.lo.length b.lo.length, .slice (some ⟨h, 0, none⟩) b.dr.length b.dr.length] _ rfl (range_of_block (five_set hR5 _ _ _ _ _)) Tryz.underlying81 rfl info_ba) rfl ?_
  have hgl : g < w4.heap.size := by omega
  refine ⟨_, _, rfl, ⟨.inr ⟨g, _, by omega, Nat.lt_of_lt_of_le hgl hK3.size, rfl, hK3.ints hgl (by omega) g4', hK3.there hgl (by omega) g5', Nat.le_refl _, by unfold maxLen; omega⟩, .inr ⟨h, _, by omega, Nat.lt_of_lt_of_le h2 hK3.size, rfl, hK3.bools h2 (by omega) h4, hK3.there h2 (by omega) h5, Nat.le_refl _, by unfold maxLen; omega⟩, ?_⟩, acc4.trans (hK3.toBelow acc4.size (by intro k hk; omega))⟩
  intro k hk hk'
  simp [Value.ownBlock] at hk hk'
  omega
theorem open_fields {H : Type} {enc : TypeId × Value → H} {P : Program} {w : World} {base b0 : Nat} {spare : Nat → Bool} {held : Bool} {r : Reach} {t : TypeId} {fs : Array Field} {v : Value} {d : DataW H} {p : List MemPlace}
    (hs : P.underlying t = some (.struct fs)) (hone : Deep.oneCellFields P fs = true) (hC : P.cellsOf t = fs.size) (hv : Value.okWide P w r b0 t v) (h : DataW.Trod enc P w base spare held t v d p) :
    ∃ cs n, v = .agg cs ∧ cs.size = fs.size ∧ ∀ (k : Nat) (f : Field), fs[k]? = some f → ∀ c, cs[k]? = some c → ∃ y, DataW.trod enc P w base spare held n f.type [c] = some y := by
  obtain ⟨cs, rfl, hsz⟩ := okWide_struct hs hv
  obtain ⟨fuel, hf⟩ := h
  obtain ⟨xs, n, _, _, _, hlen, hg⟩ := DataW.trod_struct hs hf
  refine ⟨cs, n, rfl, hsz.trans hC, ?_⟩
  intro k f hk c hc
  obtain ⟨o0, k0⟩ := Deep.hone_of hone k f hk
  have hx : ∃ y, xs[k]? = some y := ⟨xs[k]'(by rw [hlen]; exact (Array.getElem?_eq_some_iff.1 hk).1), List.getElem?_eq_getElem _⟩
  obtain ⟨y, hy⟩ := hx
  refine ⟨y, ?_⟩
  have h1 := hg k f hk
  rw [hy, o0, k0] at h1
  rw [← h1]
  congr 1
  obtain ⟨l⟩ := cs
  show [c] = (l.drop k).take 1
  have hc' : l[k]? = some c := by simpa using hc
  obtain ⟨hlt, he⟩ := List.getElem?_eq_some_iff.1 hc'
  rw [List.drop_eq_getElem_cons hlt, he]
  rfl
theorem trod_intS {H : Type} {enc : TypeId × Value → H} {w : World} {base : Nat} {spare : Nat → Bool} {held : Bool} {fuel : Nat} {v : Value} {y : DataW H × List MemPlace}
    (hf : DataW.trod enc Tryz.prog w base spare held fuel 78 [v] = some y) : ∃ ws, SlI w v ws := by
  rcases Deep.open_slice1 Tryz.underlying78 (by kernel_rfl) hf with ⟨hcs, _⟩ | ⟨x, l, c, m, n, V, D, Pl, hcs, _, hl, hm, hmm, _, hel⟩
  · simp at hcs
    exact ⟨[], .inl ⟨rfl, _, _, hcs⟩⟩
  · simp at hcs
    subst hcs
    have hlm : l ≤ m := by rw [hmm]; split <;> omega
    by_cases h0 : l = 0
    · subst h0; exact ⟨[], .inl ⟨rfl, _, _, rfl⟩⟩
    have each : ∀ i, i < l → ∃ q : Int, w.cell? (x.add i) = some (.int .i64 q) := by
      intro i hi
      obtain ⟨h1, h2⟩ := hel i (by omega)
      obtain ⟨b1, e1, _, x1⟩ := DataW.trod_int Tryz.underlying3 h2
      simp at e1
      rw [e1] at h1
      exact ⟨b1, h1⟩
    have inh : Inhabited Int := ⟨0⟩
    obtain ⟨q, hq⟩ := Deep.choose_lt each
    obtain ⟨g, o, spot⟩ := x
    have hspot : spot = none := by
      have := hq 0 (by omega)
      simpa [Addr.add] using World.cell?_spot this
    subst hspot
    refine ⟨(List.range l).map q, .inr ⟨g, o, c, by simp, ?_, by simpa using hl, hm⟩⟩
    intro i e' he'
    rw [List.getElem?_map] at he'
    have hi : i < l := by
      rcases Nat.lt_or_ge i l with h' | h'
      · exact h'
      · rw [List.getElem?_eq_none (by simpa using h')] at he'; cases he'
    rw [List.getElem?_range hi] at he'
    obtain rfl : q i = e' := by simpa using he'
    have := hq i hi
    rwa [add_none'] at this
theorem trod_boolS {H : Type} {enc : TypeId × Value → H} {w : World} {base : Nat} {spare : Nat → Bool} {held : Bool} {fuel : Nat} {v : Value} {y : DataW H × List MemPlace}
    (hf : DataW.trod enc Tryz.prog w base spare held fuel 79 [v] = some y) : ∃ ws, SlB w v ws := by
  rcases Deep.open_slice1 Tryz.underlying79 (by kernel_rfl) hf with ⟨hcs, _⟩ | ⟨x, l, c, m, n, V, D, Pl, hcs, _, hl, hm, hmm, _, hel⟩
  · simp at hcs
    exact ⟨[], .inl ⟨rfl, _, _, hcs⟩⟩
  · simp at hcs
    subst hcs
    have hlm : l ≤ m := by rw [hmm]; split <;> omega
    by_cases h0 : l = 0
    · subst h0; exact ⟨[], .inl ⟨rfl, _, _, rfl⟩⟩
    have each : ∀ i, i < l → ∃ q : Bool, w.cell? (x.add i) = some (.bool q) := by
      intro i hi
      obtain ⟨h1, h2⟩ := hel i (by omega)
      obtain ⟨b1, e1, _⟩ := DataW.trod_bool Tryz.underlying4 h2
      simp at e1
      rw [e1] at h1
      exact ⟨b1, h1⟩
    have inh : Inhabited Bool := ⟨false⟩
    obtain ⟨q, hq⟩ := Deep.choose_lt each
    obtain ⟨g, o, spot⟩ := x
    have hspot : spot = none := by
      have := hq 0 (by omega)
      simpa [Addr.add] using World.cell?_spot this
    subst hspot
    refine ⟨(List.range l).map q, .inr ⟨g, o, c, by simp, ?_, by simpa using hl, hm⟩⟩
    intro i e' he'
    rw [List.getElem?_map] at he'
    have hi : i < l := by
      rcases Nat.lt_or_ge i l with h' | h'
      · exact h'
      · rw [List.getElem?_eq_none (by simpa using h')] at he'; cases he'
    rw [List.getElem?_range hi] at he'
    obtain rfl : q i = e' := by simpa using he'
    have := hq i hi
    rwa [add_none'] at this
structure Gr where
  us : Bool
  pa : Int
  na : ByteArray
  we : Int
  cp : Int
  pe : Int
  ne : Int
  su : Int
  ba : Ba
  sh : List Sh
structure Gv where
  d : Gr
  x : Value
  y : Value
  z : Value
def gv0 : Gv := ⟨⟨false, 0, ByteArray.empty, 0, 0, 0, 0, 0, ba0, []⟩, .slice none 0 0, .slice none 0 0, .slice none 0 0⟩
def gvC (e : Gv) : List Value := [.bool e.d.us, .int .i64 e.d.pa, .string e.d.na, .int .i64 e.d.we, .int .i64 e.d.cp, .int .i64 e.d.pe, .int .i64 e.d.ne, .int .i64 e.d.su, .int .i64 e.d.ba.qu, .int .i64 e.d.ba.po, .int .i64 e.d.ba.sp, e.x, e.y, e.z]
def gvV (e : Gv) : Value := .agg #[.bool e.d.us, .int .i64 e.d.pa, .string e.d.na, .int .i64 e.d.we, .int .i64 e.d.cp, .int .i64 e.d.pe, .int .i64 e.d.ne, .int .i64 e.d.su, .int .i64 e.d.ba.qu, .int .i64 e.d.ba.po, .int .i64 e.d.ba.sp, e.x, e.y, e.z]
theorem gvC_len (e : Gv) : (gvC e).length = 14 := rfl
theorem gv_cells {W : World} {g o : Nat} {e : Gv} (h : W.rangeAt g o (gvC e)) : W.cell? ⟨g, o, none⟩ = some (.bool e.d.us) ∧ W.cell? ⟨g, o + 1, none⟩ = some (.int .i64 e.d.pa) ∧ W.cell? ⟨g, o + 2, none⟩ = some (.string e.d.na) ∧ W.cell? ⟨g, o + 3, none⟩ = some (.int .i64 e.d.we) ∧ W.cell? ⟨g, o + 4, none⟩ = some (.int .i64 e.d.cp) ∧ W.cell? ⟨g, o + 5, none⟩ = some (.int .i64 e.d.pe) ∧ W.cell? ⟨g, o + 6, none⟩ = some (.int .i64 e.d.ne) ∧ W.cell? ⟨g, o + 7, none⟩ = some (.int .i64 e.d.su) ∧ W.cell? ⟨g, o + 8, none⟩ = some (.int .i64 e.d.ba.qu) ∧ W.cell? ⟨g, o + 9, none⟩ = some (.int .i64 e.d.ba.po) ∧ W.cell? ⟨g, o + 10, none⟩ = some (.int .i64 e.d.ba.sp) ∧ W.cell? ⟨g, o + 11, none⟩ = some (e.x) ∧ W.cell? ⟨g, o + 12, none⟩ = some (e.y) ∧ W.cell? ⟨g, o + 13, none⟩ = some (e.z) :=
  ⟨h 0 _ rfl, h 1 _ rfl, h 2 _ rfl, h 3 _ rfl, h 4 _ rfl, h 5 _ rfl, h 6 _ rfl, h 7 _ rfl, h 8 _ rfl, h 9 _ rfl, h 10 _ rfl, h 11 _ rfl, h 12 _ rfl, h 13 _ rfl⟩
theorem gbox {w : World} {b : Nat} {c0 c1 c2 c3 c4 c5 c6 c7 c8 c9 c10 c11 c12 c13 : Value} {t : TypeId} (h : w.heap[b]? = some (.cells #[c0, c1, c2, c3, c4, c5, c6, c7, c8, c9, c10, c11, c12, c13] t (0, 0))) : w.cell? ⟨b, 0, none⟩ = some (c0) ∧ w.cell? ⟨b, 1, none⟩ = some (c1) ∧ w.cell? ⟨b, 2, none⟩ = some (c2) ∧ w.cell? ⟨b, 3, none⟩ = some (c3) ∧ w.cell? ⟨b, 4, none⟩ = some (c4) ∧ w.cell? ⟨b, 5, none⟩ = some (c5) ∧ w.cell? ⟨b, 6, none⟩ = some (c6) ∧ w.cell? ⟨b, 7, none⟩ = some (c7) ∧ w.cell? ⟨b, 8, none⟩ = some (c8) ∧ w.cell? ⟨b, 9, none⟩ = some (c9) ∧ w.cell? ⟨b, 10, none⟩ = some (c10) ∧ w.cell? ⟨b, 11, none⟩ = some (c11) ∧ w.cell? ⟨b, 12, none⟩ = some (c12) ∧ w.cell? ⟨b, 13, none⟩ = some (c13) := by
  have hr := range_of_block (cs := [c0, c1, c2, c3, c4, c5, c6, c7, c8, c9, c10, c11, c12, c13]) h
  refine ⟨by simpa using hr 0 _ rfl, by simpa using hr 1 _ rfl, by simpa using hr 2 _ rfl, by simpa using hr 3 _ rfl, by simpa using hr 4 _ rfl, by simpa using hr 5 _ rfl, by simpa using hr 6 _ rfl, by simpa using hr 7 _ rfl, by simpa using hr 8 _ rfl, by simpa using hr 9 _ rfl, by simpa using hr 10 _ rfl, by simpa using hr 11 _ rfl, by simpa using hr 12 _ rfl, by simpa using hr 13 _ rfl⟩
def GvOk (W : World) (e : Gv) : Prop := SlBa W e.x e.y e.d.ba ∧ SlSh W e.z e.d.sh
def OwnGv (B : Nat) (W : World) (e : Gv) : Prop := OwnBa B W e.x e.y e.d.ba ∧ NewSh B W e.z e.d.sh ∧ ∀ g, e.z.ownBlock = some g → e.x.ownBlock ≠ some g ∧ e.y.ownBlock ≠ some g
def blkG (e : Gv) : List Nat := e.x.ownBlock.toList ++ (e.y.ownBlock.toList ++ e.z.ownBlock.toList)
def blkGs (es : List Gv) : List Nat := es.flatMap blkG
def GrFit (d : Gr) : Prop := d.na.size ≤ 1048576 ∧ d.ba.lo.length ≤ 1048576 ∧ d.ba.dr.length ≤ 1048576 ∧ d.sh.length ≤ 1048576
theorem GvOk.below {W W' : World} {e : Gv} (h : GvOk W e) (hb : Below W.heap.size W W') : GvOk W' e := ⟨h.1.below hb, h.2.below hb⟩
theorem OwnGv.below {B : Nat} {W W' : World} {e : Gv} (h : OwnGv B W e) (hb : Below W.heap.size W W') : OwnGv B W' e := ⟨h.1.below hb, h.2.1.below hb, h.2.2⟩
theorem OwnGv.mono {B B' : Nat} {W : World} {e : Gv} (h : OwnGv B W e) (hB : B' ≤ B) : OwnGv B' W e := ⟨h.1.mono hB, h.2.1.mono hB, h.2.2⟩
theorem OwnGv.kept {S : Nat → Prop} {B : Nat} {W W' : World} {e : Gv} (h : OwnGv B W e) (hk : Kept S W W') (hS : ∀ g, B ≤ g → ¬ S g) : OwnGv B W' e :=
  ⟨h.1.kept hk (fun g hg => hS g (h.1.1.at g hg).1) (fun g hg => hS g (h.1.2.1.at g hg).1), h.2.1.kept hk (fun g hg => hS g (h.2.1.at g hg).1), h.2.2⟩
theorem OwnGv.at {B : Nat} {W : World} {e : Gv} (h : OwnGv B W e) : ∀ g ∈ blkG e, B ≤ g ∧ g < W.heap.size := by
  intro g hg
  simp only [blkG, List.mem_append, Option.mem_toList] at hg
  rcases hg with hg | hg | hg
  · exact h.1.1.at g hg
  · exact h.1.2.1.at g hg
  · exact h.2.1.at g hg
theorem OwnGv.nodup {B : Nat} {W : World} {e : Gv} (h : OwnGv B W e) : (blkG e).Nodup := by
  have one : ∀ o : Option Nat, o.toList.Nodup := fun o => by cases o <;> simp
  refine List.nodup_append.2 ⟨one _, List.nodup_append.2 ⟨one _, one _, ?_⟩, ?_⟩
  · intro a ha b hb e'
    subst e'
    exact (h.2.2 a (by simpa using hb)).2 (by simpa using ha)
  · intro a ha b hb e'
    subst e'
    rcases List.mem_append.1 hb with hb | hb
    · exact h.1.2.2 a (by simpa using ha) (by simpa using hb)
    · exact (h.2.2 a (by simpa using hb)).1 (by simpa using ha)
theorem info_gr : (Tryz.prog.info? 84).map (·.size) = some 14 := by kernel_rfl
theorem five_in {w : World} {b : Nat} {c0 c1 c2 c3 c4 c5 c6 c7 c8 c9 c10 c11 c12 c13 : Value} {t : TypeId} (h : w.heap[b]? = some (.cells #[c0, c1, c2, c3, c4, c5, c6, c7, c8, c9, c10, c11, c12, c13] t (0, 0))) (v0 v1 v2 v3 v4 : Value) :
    (((((w.setCell ⟨b, 8, none⟩ v0).setCell ⟨b, 9, none⟩ v1).setCell ⟨b, 10, none⟩ v2).setCell ⟨b, 11, none⟩ v3).setCell ⟨b, 12, none⟩ v4).heap[b]? = some (.cells #[c0, c1, c2, c3, c4, c5, c6, c7, v0, v1, v2, v3, v4, c13] t (0, 0)) := by
  rw [heap_setCell_same _ _ _ _ _ _ (heap_setCell_same _ _ _ _ _ _ (heap_setCell_same _ _ _ _ _ _ (heap_setCell_same _ _ _ _ _ _ (heap_setCell_same _ _ _ _ _ _ h))))]
  rfl
theorem kept_five_in (w : World) (b : Nat) (v0 v1 v2 v3 v4 : Value) : Kept (fun k => k = b) w (((((w.setCell ⟨b, 8, none⟩ v0).setCell ⟨b, 9, none⟩ v1).setCell ⟨b, 10, none⟩ v2).setCell ⟨b, 11, none⟩ v3).setCell ⟨b, 12, none⟩ v4) :=
  (((((Kept.set w b 8 v0).trans (Kept.set _ b 9 v1)).trans (Kept.set _ b 10 v2)).trans (Kept.set _ b 11 v3)).trans (Kept.set _ b 12 v4)).mono (by intro k h; simpa using h)
theorem Kept.setCells (w : World) (b o : Nat) (vs : List Value) : Kept (fun k => k = b) w (w.setCells b o vs) := by
  induction vs generalizing w o with
  | nil => exact Kept.refl _ _
  | cons v vs ih => exact ((Kept.set w b o v).trans (ih (w.setCell ⟨b, o, none⟩ v) (o + 1))).mono (by intro k h; simpa using h)
theorem there_of_block {w : World} {b : Nat} {cs : Array Value} {t : TypeId} (h : w.heap[b]? = some (.cells cs t (0, 0))) : w.there b 0 cs.size := by
  intro j hj
  constructor
  · unfold World.cell?; rw [h]; simp [hj]
  · unfold World.frozen?; rw [h]; simp
theorem toGroup_any (v : Gv) (w : World) (hs : GvOk w v) (hf : GrFit v.d) :
    Calls Tryz.prog 75 #[gvV v] w fun e w' => ∃ v' : Gv, e = .returned (gvV v') ∧ v'.d = v.d ∧ OwnGv w.heap.size w' v' ∧ Below w.heap.size w w' := by
  obtain ⟨⟨us, pa, na, we, cp, pe, ne, su, ⟨qu, po, sp, lo, dr⟩, sh⟩, x, y, z⟩ := v
  obtain ⟨hs1, hs2⟩ := hs
  obtain ⟨_, f1, f2, f3⟩ := hf
  unfold gvV
  dsimp only at *
  have hB : ∀ A B C, Below w.heap.size w (((w.alloc A).alloc B).alloc C) := fun A B C => (((Below.refl _ _).alloc (Nat.le_refl _) _).alloc (by simp) _).alloc (by simp; omega) _
  go_enter Tryz.func75, Tryz.ntmps75
  go_wp2_with fail
  refine (toBand_any ⟨qu, po, sp, lo, dr⟩ x y _ (hs1.below (hB _ _ _)) f1 f2).mono ?_
  rintro e1 w2 ⟨x', y', rfl, hN1, hb2⟩
  obtain ⟨px, cx, rfl⟩ := hN1.1.form
  obtain ⟨py, cy, rfl⟩ := hN1.2.1.form
  dsimp only at hN1 ⊢
  obtain ⟨hbl, hlt, hA, hR, hO⟩ := three_box' hb2
  obtain ⟨a0, a1, a2, a3, a4, a5, a6, a7, a8, a9, a10, a11, a12, a13⟩ := gbox hA
  obtain ⟨o0, o1, o2, o3, o4, o5, o6, o7, o8, o9, o10, o11, o12, o13⟩ := gbox hO
  have o8f := fbox hO 8
  have o9f := fbox hO 9
  have o10f := fbox hO 10
  have o11f := fbox hO 11
  have o12f := fbox hO 12
  unfold baV
  simp only []
  go_at_K
  go_wp2_with fail
  have hK := kept_five_in w2 (w.heap.size + 1 + 1) (.int .i64 qu) (.int .i64 po) (.int .i64 sp) (.slice px lo.length cx) (.slice py dr.length cy)
  have hO3 := five_in hO (.int .i64 qu) (.int .i64 po) (.int .i64 sp) (.slice px lo.length cx) (.slice py dr.length cy)
  have hb3 := hbl.trans (hK.toBelow hbl.size (by intro k hk; omega))
  have hA3 := (hK.block w.heap.size (by omega) (by omega)).trans hA
  have hR3 := (hK.block (w.heap.size + 1) (by omega) (by omega)).trans hR
  have hN3 := hN1.kept hK (fun g hg hh => by have := (hN1.1.at g hg).1; simp at this; omega) (fun g hg hh => by have := (hN1.2.1.at g hg).1; simp at this; omega)
  clear a0 a1 a2 a3 a4 a5 a6 a7 a8 a9 a10 a11 a12 a13 o0 o1 o2 o3 o4 o5 o6 o7 o8 o9 o10 o11 o12 o13 o8f o9f o10f o11f o12f
  have hsz3 := hK.size
  generalize ((((w2.setCell ⟨w.heap.size + 1 + 1, 8, none⟩ (.int .i64 qu)).setCell ⟨w.heap.size + 1 + 1, 9, none⟩ (.int .i64 po)).setCell ⟨w.heap.size + 1 + 1, 10, none⟩ (.int .i64 sp)).setCell ⟨w.heap.size + 1 + 1, 11, none⟩ (.slice px lo.length cx)).setCell ⟨w.heap.size + 1 + 1, 12, none⟩ (.slice py dr.length cy) = w3 at hK hO3 hb3 hA3 hR3 hN3 hsz3 ⊢
  refine (toShelfS_any z sh _ (hs2.below hb3) f3).mono ?_
  rintro e1 w4 ⟨z', rfl, hN4, hb4⟩
  have hsz4 := hb4.size
  have hO4 := (hb4.block (w.heap.size + 1 + 1) (by omega)).trans hO3
  have hR4 := (hb4.block (w.heap.size + 1) (by omega)).trans hR3
  have acc4 := hb3.trans (hb4.mono hb3.size)
  obtain ⟨o0, o1, o2, o3, o4, o5, o6, o7, o8, o9, o10, o11, o12, o13⟩ := gbox hO4
  have o13f := fbox hO4 13
  obtain ⟨r0, r1, r2, r3, r4, r5, r6, r7, r8, r9, r10, r11, r12, r13⟩ := gbox hR4
  have r0f := fbox hR4 0
  have r1f := fbox hR4 1
  have r2f := fbox hR4 2
  have r3f := fbox hR4 3
  have r4f := fbox hR4 4
  have r5f := fbox hR4 5
  have r6f := fbox hR4 6
  have r7f := fbox hR4 7
  have r8f := fbox hR4 8
  have r9f := fbox hR4 9
  have r10f := fbox hR4 10
  have r11f := fbox hR4 11
  have r12f := fbox hR4 12
  have r13f := fbox hR4 13
  have z1 := hN4.at
  obtain ⟨gz, zb, zl, rfl, z4, z5⟩ := hN4
  have zx : Hid (RowOf shC 5 w4 gz 0 sh) := z4
  have zt : Hid (w4.there gz 0 (sh.length * 5)) := z5
  clear z4 z5
  simp only []
  go_at_K
  go_wp2_with fail
  have hK5 := (Kept.set w4 (w.heap.size + 1 + 1) 13 (.slice (some ⟨gz, 0, none⟩) sh.length sh.length)).trans (Kept.setCells (w4.setCell ⟨w.heap.size + 1 + 1, 13, none⟩ (.slice (some ⟨gz, 0, none⟩) sh.length sh.length)) (w.heap.size + 1) 0 [.bool us, .int .i64 pa, .string na, .int .i64 we, .int .i64 cp, .int .i64 pe, .int .i64 ne, .int .i64 su, .int .i64 qu, .int .i64 po, .int .i64 sp, .slice px lo.length cx, .slice py dr.length cy, .slice (some ⟨gz, 0, none⟩) sh.length sh.length])
  have hth : (w4.setCell ⟨w.heap.size + 1 + 1, 13, none⟩ (.slice (some ⟨gz, 0, none⟩) sh.length sh.length)).there (w.heap.size + 1) 0 14 := there_set1 (there_of_block hR4)
  have hS : ∀ g, w.heap.size + 1 + 1 + 1 ≤ g → ¬ (g = w.heap.size + 1 + 1 ∨ g = w.heap.size + 1) := by intro g hg; omega
  have hN5 := (hN3.below hb4).kept hK5 (fun g hg => hS g (by have := (hN3.1.at g hg).1; simp at this; omega)) (fun g hg => hS g (by have := (hN3.2.1.at g hg).1; simp at this; omega))
  have hgz := hS gz (by omega)
  refine bodyPost_ret (results_mid rfl _ _ (w.heap.size + 1) 0 [.bool us, .int .i64 pa, .string na, .int .i64 we, .int .i64 cp, .int .i64 pe, .int .i64 ne, .int .i64 su, .int .i64 qu, .int .i64 po, .int .i64 sp, .slice px lo.length cx, .slice py dr.length cy, .slice (some ⟨gz, 0, none⟩) sh.length sh.length] _ rfl (World.rangeAt_setCells_same _ (w.heap.size + 1) 0 [.bool us, .int .i64 pa, .string na, .int .i64 we, .int .i64 cp, .int .i64 pe, .int .i64 ne, .int .i64 su, .int .i64 qu, .int .i64 po, .int .i64 sp, .slice px lo.length cx, .slice py dr.length cy, .slice (some ⟨gz, 0, none⟩) sh.length sh.length] hth) Tryz.underlying84 rfl info_gr) rfl ?_
  refine ⟨⟨⟨us, pa, na, we, cp, pe, ne, su, ⟨qu, po, sp, lo, dr⟩, sh⟩, .slice px lo.length cx, .slice py dr.length cy, .slice (some ⟨gz, 0, none⟩) sh.length sh.length⟩, rfl, rfl, ⟨hN5.mono (by simp; omega), ⟨gz, by omega, Nat.lt_of_lt_of_le zl hK5.size, rfl, zx.out.kept hK5 hgz, hK5.there zl hgz zt.out⟩, fun g hg => ?_⟩, acc4.trans (hK5.toBelow acc4.size (by intro k hk; omega))⟩
  have e1 : g = gz := by simpa [Value.ownBlock] using hg.symm
  exact ⟨fun hh => by have := (hN3.1.at g hh).2; omega, fun hh => by have := (hN3.2.1.at g hh).2; omega⟩

def SlG (W : World) (x : Value) (vs : List Gv) : Prop := SlR gvC 14 W x vs ∧ ∀ v ∈ vs, GvOk W v
def NewG (B : Nat) (W : World) (x : Value) (vs : List Gv) : Prop := NewR gvC 14 B W x vs ∧ (∀ v ∈ vs, OwnGv B W v ∧ ∀ g, x.ownBlock = some g → OwnGv (g + 1) W v) ∧ (blkGs vs).Nodup
def GsFit (vs : List Gv) : Prop := vs.length ≤ 1048576 ∧ ∀ v ∈ vs, GrFit v.d
def gsD (vs : List Gv) : List Gr := vs.map (·.d)
theorem SlG.below {W W' : World} {x : Value} {vs : List Gv} (h : SlG W x vs) (hb : Below W.heap.size W W') : SlG W' x vs := ⟨h.1.below hb, fun v hv => (h.2 v hv).below hb⟩
theorem GsFit.of_same {vs vs' : List Gv} (h : GsFit vs) (he : gsD vs' = gsD vs) : GsFit vs' := by
  have hl : vs'.length = vs.length := by simpa [gsD] using congrArg List.length he
  refine ⟨by rw [hl]; exact h.1, fun v hv => ?_⟩
  have hm : v.d ∈ gsD vs' := List.mem_map.2 ⟨v, hv, rfl⟩
  rw [he] at hm
  obtain ⟨u, hu, e⟩ := List.mem_map.1 hm
  rw [← e]
  exact h.2 u hu
theorem info_gv : (Tryz.prog.info? 84).map (fun i => (i.zero, i.size, i.bytes)) = some (some (.agg #[.bool false, .int .i64 0, .string ⟨#[]⟩, .int .i64 0, .int .i64 0, .int .i64 0, .int .i64 0, .int .i64 0, .int .i64 0, .int .i64 0, .int .i64 0, .slice none 0 0, .slice none 0 0, .slice none 0 0]), 14, 168) := by kernel_rfl
theorem setCells_fourteen (W : World) (b k : Nat) (e : Gv) : W.setCells b (k * 14) (gvC e) = ((((((((((((((W).setCell ⟨b, k * 14, none⟩ (.bool e.d.us)).setCell ⟨b, k * 14 + 1, none⟩ (.int .i64 e.d.pa)).setCell ⟨b, k * 14 + 2, none⟩ (.string e.d.na)).setCell ⟨b, k * 14 + 3, none⟩ (.int .i64 e.d.we)).setCell ⟨b, k * 14 + 4, none⟩ (.int .i64 e.d.cp)).setCell ⟨b, k * 14 + 5, none⟩ (.int .i64 e.d.pe)).setCell ⟨b, k * 14 + 6, none⟩ (.int .i64 e.d.ne)).setCell ⟨b, k * 14 + 7, none⟩ (.int .i64 e.d.su)).setCell ⟨b, k * 14 + 8, none⟩ (.int .i64 e.d.ba.qu)).setCell ⟨b, k * 14 + 9, none⟩ (.int .i64 e.d.ba.po)).setCell ⟨b, k * 14 + 10, none⟩ (.int .i64 e.d.ba.sp)).setCell ⟨b, k * 14 + 11, none⟩ (e.x)).setCell ⟨b, k * 14 + 12, none⟩ (e.y)).setCell ⟨b, k * 14 + 13, none⟩ (e.z) := rfl
theorem OwnGv.set {B : Nat} {W : World} {e : Gv} (h : OwnGv B W e) (b o : Nat) (vs : List Value) (hb : b < B) : OwnGv B (W.setCells b o vs) e := h.kept (Kept.setCells W b o vs) (fun g hg hh => by omega)

theorem toGroupS_any (sl : Value) (vs : List Gv) (w : World) (hs : SlG w sl vs) (hf : GsFit vs) :
    Calls Tryz.prog 37 #[sl] w fun e w' => ∃ sl' vs', e = .returned sl' ∧ gsD vs' = gsD vs ∧ NewG w.heap.size w' sl' vs' ∧ Below w.heap.size w w' := by
  obtain ⟨hn, hfe⟩ := hf
  obtain ⟨hs, hok⟩ := hs
  obtain ⟨i0, hi, hz0, hz1, hz2⟩ := info_parts info_gv
  have hmk := run_make (P := Tryz.prog) w 31 84 i0 _ Tryz.underlying31 hi hz0 .i64 .i64 vs.length vs.length (by omega) (by omega) (by rw [hz2]; omega) (by omega)
  rw [hz1] at hmk
  rcases hs with ⟨rfl, a, cap, rfl⟩ | ⟨g, o, cap, rfl, hE, hl, hm⟩
  · rw [show (((([] : List Gv).length : Nat)) : Int) = 0 from rfl] at hmk
    go_enter Tryz.func37, Tryz.ntmps37
    go_wp2
    refine wp_loop_rounds 1 ?_
    rw [rounds_succ]
    go_wp2
    go_ret
    exact ⟨_, [], rfl, rfl, ⟨⟨_, Nat.le_refl _, by simp, rfl, fun i e he => by simp at he, fun j hj => by simp at hj⟩, fun v hv => (by cases hv), List.nodup_nil⟩, (Below.refl _ _).alloc (Nat.le_refl _) _⟩
  · unfold maxLen at hm
    go_enter Tryz.func37, Tryz.ntmps37
    go_wp2
    clear hmk
    go_loopw [4] (fun i wr => ∃ (k : Nat) (us : List Gv), k ≤ vs.length ∧ i = .int .i64 k ∧ Below w.heap.size w wr ∧ w.heap.size < wr.heap.size ∧ wr.there w.heap.size 0 (vs.length * 14) ∧ RowOf gvC 14 wr w.heap.size 0 us ∧ gsD us = (gsD vs).take k ∧ (blkGs us).Nodup ∧ ∀ u ∈ us, OwnGv (w.heap.size + 1) wr u) (fun i _ => vs.length - (intOf i).toNat)
    case atStart => exact ⟨0, [], by omega, rfl, (Below.refl _ _).alloc (Nat.le_refl _) _, by simp, there_made _ _ _ (size_madeCells _ _), fun j e hj => by simp at hj, rfl, List.nodup_nil, fun u hu => by cases hu⟩
    case round =>
      obtain ⟨k, us, hk, rfl, acc, hwz, hth, hrow, hus, hnd, hown⟩ := hrel
      by_cases hlt : k < vs.length
      · have hlt' : (k : Int) < (vs.length : Int) := by omega
        obtain ⟨e, he⟩ := row_get hlt
        have hmem : e ∈ vs := List.mem_of_getElem? he
        have hoke := (hok e hmem).below acc
        have hfit := hfe e hmem
        obtain ⟨x0, x1, x2, x3, x4, x5, x6, x7, x8, x9, x10, x11, x12, x13⟩ := gv_cells (hE.below acc k e he)
        have hul : us.length = k := by
          have := congrArg List.length hus
          simp [gsD] at this
          omega
        have hnx : (gsD vs).take (k + 1) = (gsD vs).take k ++ [e.d] := by rw [List.take_add_one]; simp [gsD, he]
        have HR : Hid (RowOf gvC 14 wr w.heap.size 0 us) := hrow
        have HT : Hid (wr.there w.heap.size 0 (vs.length * 14)) := hth
        have HO : Hid (∀ u ∈ us, OwnGv (w.heap.size + 1) wr u) := hown
        have HU : Hid (gsD us = (gsD vs).take k) := hus
        have HX : Hid ((gsD vs).take (k + 1) = (gsD vs).take k ++ [e.d]) := hnx
        have HL : Hid (us.length = k) := hul
        have HND : Hid ((blkGs us).Nodup) := hnd
        clear he hrow hth hown hus hnx hul hok hfe hmem hnd
        go_wp2_with fail
        refine (toGroup_any e _ hoke hfit).mono ?_
        rintro e1 w2 ⟨e', rfl, hd, hown2, hb2⟩
        have hth2 := there_below HT.out hb2 hwz
        obtain ⟨c0, k0, f0⟩ := there_at hth2 hlt 0 (by omega)
        obtain ⟨c1, k1, f1⟩ := there_at hth2 hlt 1 (by omega)
        obtain ⟨c2, k2, f2⟩ := there_at hth2 hlt 2 (by omega)
        obtain ⟨c3, k3, f3⟩ := there_at hth2 hlt 3 (by omega)
        obtain ⟨c4, k4, f4⟩ := there_at hth2 hlt 4 (by omega)
        obtain ⟨c5, k5, f5⟩ := there_at hth2 hlt 5 (by omega)
        obtain ⟨c6, k6, f6⟩ := there_at hth2 hlt 6 (by omega)
        obtain ⟨c7, k7, f7⟩ := there_at hth2 hlt 7 (by omega)
        obtain ⟨c8, k8, f8⟩ := there_at hth2 hlt 8 (by omega)
        obtain ⟨c9, k9, f9⟩ := there_at hth2 hlt 9 (by omega)
        obtain ⟨c10, k10, f10⟩ := there_at hth2 hlt 10 (by omega)
        obtain ⟨c11, k11, f11⟩ := there_at hth2 hlt 11 (by omega)
        obtain ⟨c12, k12, f12⟩ := there_at hth2 hlt 12 (by omega)
        obtain ⟨c13, k13, f13⟩ := there_at hth2 hlt 13 (by omega)
        simp only [Nat.add_zero] at k0 f0
        have HT2 : Hid (w2.there w.heap.size 0 (vs.length * 14)) := hth2
        have HO2 : Hid (OwnGv wr.heap.size w2 e') := hown2
        obtain ⟨px, cx, ex⟩ := hown2.1.1.form
        obtain ⟨py, cy, ey⟩ := hown2.1.2.1.form
        obtain ⟨pz, cz, ez, _⟩ := (hown2.2.1.sl (by rw [hd]; exact hfit.2.2.2)).form
        have e14 := setCells_fourteen w2 w.heap.size k e'
        have HE14 : Hid (w2.setCells w.heap.size (k * 14) (gvC e') = _) := e14
        have HD : Hid (e'.d = e.d) := hd
        clear hth2 hown2 e14 hd
        unfold gvV
        rw [ex, ey, ez]
        simp only []
        go_at_K
        go_wp2_with fail
        obtain ⟨p1, p2⟩ := put_row (c := gvC) (x := e') HT2.out hlt (HR.out.below hb2) HL.out gvC_len
        rw [HE14.out, ex, ey, ez] at p1 p2
        have hown3 : ∀ u ∈ us ++ [e'], OwnGv (w.heap.size + 1) (w2.setCells w.heap.size (k * 14) (gvC e')) u := by
          intro u hu
          rcases List.mem_append.1 hu with h | h
          · exact (((HO.out u h).below hb2).set _ _ _ (by omega))
          · obtain rfl : u = e' := by simpa using h
            exact (HO2.out.mono hwz).set _ _ _ (by omega)
        rw [HE14.out, ex, ey, ez] at hown3
        refine ⟨⟨k + 1, us ++ [e'], hlt, by go_num, ?_, ?_, p1, p2, ?_, ?_, hown3⟩, by simp [intOf]; omega⟩
        · exact (((((((((((((((acc.trans (hb2.mono acc.size))).setCell (Nat.le_refl _) _).setCell (Nat.le_refl _) _).setCell (Nat.le_refl _) _).setCell (Nat.le_refl _) _).setCell (Nat.le_refl _) _).setCell (Nat.le_refl _) _).setCell (Nat.le_refl _) _).setCell (Nat.le_refl _) _).setCell (Nat.le_refl _) _).setCell (Nat.le_refl _) _).setCell (Nat.le_refl _) _).setCell (Nat.le_refl _) _).setCell (Nat.le_refl _) _).setCell (Nat.le_refl _) _
        · simp only [World.size_setCell]; exact Nat.lt_of_lt_of_le hwz hb2.size
        · rw [HX.out, ← HU.out]; simp [gsD, HD.out]
        · have e1 : blkGs (us ++ [e']) = blkGs us ++ blkG e' := by simp [blkGs]
          rw [e1]
          refine List.nodup_append.2 ⟨HND.out, HO2.out.nodup, fun a ha b hb e2 => ?_⟩
          subst e2
          obtain ⟨u, hu, ha⟩ := List.mem_flatMap.1 ha
          have h1 := ((HO.out u hu).at a ha).2
          have h2 := (HO2.out.at a hb).1
          omega
      · have hlt' : ¬ (k : Int) < (vs.length : Int) := by omega
        have hkk : k = (gsD vs).length := by simp [gsD]; omega
        have hul : us.length = vs.length := by
          have := congrArg List.length hus
          simp [gsD] at this
          omega
        rw [hkk, List.take_length] at hus
        clear hkk
        go_wp2
        go_ret
        refine ⟨_, rfl, us, hus, ⟨⟨w.heap.size, Nat.le_refl _, hwz, by rw [hul]; rfl, hrow, by rw [hul]; exact hth⟩, fun v hv => ⟨(hown v hv).mono (by omega), fun g hg => ?_⟩, hnd⟩, acc⟩
        obtain rfl : w.heap.size = g := by simpa [Value.ownBlock] using hg
        exact hown v hv

theorem eqGroup_same (d : Gr) (x y z x' y' z' : Value) (w : World) (hx : GvOk w ⟨d, x, y, z⟩) (hy : GvOk w ⟨d, x', y', z'⟩) :
    Calls Tryz.prog 81 #[gvV ⟨d, x, y, z⟩, gvV ⟨d, x', y', z'⟩] w fun e w' => e = .returned (.bool true) ∧ Below w.heap.size w w' := by
  have hB : ∀ A B, Below w.heap.size w ((w.alloc A).alloc B) := fun A B => ((Below.refl _ _).alloc (Nat.le_refl _) _).alloc (by simp) _
  obtain ⟨us, pa, na, we, cp, pe, ne, su, ⟨qu, po, sp, lo, dr⟩, sh⟩ := d
  obtain ⟨hx1, hx2⟩ := hx
  obtain ⟨hy1, hy2⟩ := hy
  unfold gvV
  dsimp only at *
  go_enter Tryz.func81, Tryz.ntmps81
  go_wp2_with fail
  refine (eqBand_same ⟨qu, po, sp, lo, dr⟩ x y x' y' _ (hx1.below (hB _ _)) (hy1.below (hB _ _))).mono ?_
  rintro e1 w2 ⟨rfl, hb2⟩
  obtain ⟨hbl, hlt, hX, hY⟩ := two_box hb2
  obtain ⟨a0, a1, a2, a3, a4, a5, a6, a7, a8, a9, a10, a11, a12, a13⟩ := gbox hX
  obtain ⟨b0, b1, b2, b3, b4, b5, b6, b7, b8, b9, b10, b11, b12, b13⟩ := gbox hY
  simp only []
  go_at_K
  go_wp2_with fail
  refine (eqShelfS_same z z' sh _ (hx2.below hbl) (hy2.below hbl)).mono ?_
  rintro e1 w3 ⟨rfl, hb3⟩
  simp only []
  go_at_K
  go_wp2_with fail
  go_ret
  exact ⟨rfl, hbl.trans (hb3.mono hbl.size)⟩

theorem gsD_get {vs vs' : List Gv} (h : gsD vs' = gsD vs) {k : Nat} {e : Gv} (he : vs[k]? = some e) : ∃ e', vs'[k]? = some e' ∧ e'.d = e.d := by
  have h1 : (gsD vs')[k]? = some e.d := by rw [h]; simp [gsD, he]
  simp only [gsD, List.getElem?_map] at h1
  cases h2 : vs'[k]? with
  | none => rw [h2] at h1; cases h1
  | some e' => rw [h2] at h1; exact ⟨e', rfl, by simpa using h1⟩
theorem gsD_len {vs vs' : List Gv} (h : gsD vs' = gsD vs) : vs'.length = vs.length := by simpa [gsD] using congrArg List.length h
theorem eqGroupS_same (x y : Value) (vs vs' : List Gv) (w : World) (hx : SlG w x vs) (hy : SlG w y vs') (hd : gsD vs' = gsD vs) :
    Calls Tryz.prog 43 #[x, y] w fun e w' => e = .returned (.bool true) ∧ Below w.heap.size w w' := by
  have hlen := gsD_len hd
  obtain ⟨hx, hokx⟩ := hx
  obtain ⟨hy, hoky⟩ := hy
  rcases hx with ⟨h0, a, cap, rfl⟩ | ⟨g, o, cap, rfl, hE, hl, hm⟩
  · have : ∃ b cap', y = .slice b 0 cap' := by
      rcases hy with ⟨_, b, cap', rfl⟩ | ⟨g, o, cap', rfl, _⟩
      · exact ⟨_, _, rfl⟩
      · rw [hlen, h0]; exact ⟨_, _, rfl⟩
    obtain ⟨b, cap', rfl⟩ := this
    go_enter Tryz.func43, Tryz.ntmps43
    go_wp2
    refine wp_loop_rounds 1 ?_
    rw [rounds_succ]
    go_wp2
    go_ret
    exact ⟨rfl, Below.refl _ _⟩
  · rcases hy with ⟨h0, b, cap', rfl⟩ | ⟨g', o', cap', rfl, hE2, hl2, hm2⟩
    · rw [h0] at hlen
      rw [← hlen]
      go_enter Tryz.func43, Tryz.ntmps43
      go_wp2
      refine wp_loop_rounds 1 ?_
      rw [rounds_succ]
      go_wp2
      go_ret
      exact ⟨rfl, Below.refl _ _⟩
    · rw [hlen]
      unfold maxLen at hm hm2
      go_enter Tryz.func43, Tryz.ntmps43
      go_wp2
      go_loopw [5] (fun i wr => ∃ k : Nat, k ≤ vs.length ∧ i = .int .i64 k ∧ Below w.heap.size w wr) (fun i _ => vs.length - (intOf i).toNat)
      case atStart => exact ⟨0, by omega, rfl, Below.refl _ _⟩
      case round =>
        obtain ⟨k, hk, rfl, acc⟩ := hrel
        by_cases hlt : k < vs.length
        · have hlt' : (k : Int) < (vs.length : Int) := by omega
          obtain ⟨e, he⟩ := row_get hlt
          obtain ⟨e', he', hde⟩ := gsD_get hd he
          have o1 := (hokx e (List.mem_of_getElem? he)).below acc
          have o2 := (hoky e' (List.mem_of_getElem? he')).below acc
          obtain ⟨x0, x1, x2, x3, x4, x5, x6, x7, x8, x9, x10, x11, x12, x13⟩ := gv_cells (hE.below acc k e he)
          obtain ⟨y0, y1, y2, y3, y4, y5, y6, y7, y8, y9, y10, y11, y12, y13⟩ := gv_cells (hE2.below acc k e' he')
          obtain ⟨d, p, q, r⟩ := e
          obtain ⟨d', p', q', r'⟩ := e'
          dsimp only at *
          subst hde
          have hcon : ∀ w2, Below wr.heap.size wr w2 → Calls Tryz.prog 81 #[gvV ⟨d', p, q, r⟩, gvV ⟨d', p', q', r'⟩] w2 fun e w' => e = .returned (.bool true) ∧ Below w2.heap.size w2 w' := fun w2 hb => eqGroup_same d' p q r p' q' r' w2 (o1.below hb) (o2.below hb)
          have HC : Hid (∀ w2, Below wr.heap.size wr w2 → Calls Tryz.prog 81 #[gvV ⟨d', p, q, r⟩, gvV ⟨d', p', q', r'⟩] w2 fun e w' => e = .returned (.bool true) ∧ Below w2.heap.size w2 w') := hcon
          clear hcon o1 o2 he he' hokx hoky hd
          go_wp2_with fail
          go_region_with (go_at_call 81; refine (HC.out _ (Below.refl _ wr).drew).mono ?_; rintro e1 w2 ⟨rfl, hb2⟩)
          all_goals
            replace hb2 := (Below.refl _ wr).drew.trans hb2
            go_wp2
            go_roundw
            case rel => exact ⟨k + 1, by omega, by go_num, acc.trans (hb2.mono acc.size)⟩
            case measure => simp [intOf]; omega
        · have hlt' : ¬ (k : Int) < (vs.length : Int) := by omega
          go_wp2
          go_ret
          exact ⟨rfl, acc⟩
theorem szBand_left (b : Ba) (x y : Value) (m : Int) (w : World) (hs : SlBa w x y b) (h0 : 0 ≤ m) (h1 : m ≤ 1048576) :
    Calls Tryz.prog 116 #[baV b x y, .int .i64 m] w fun e w' => (∃ n : Int, e = .returned (.int .i64 n) ∧ ((n < 0 ∧ n = -1) ∨ (0 ≤ n ∧ b.lo.length + b.dr.length + n = m))) ∧ Below w.heap.size w w' := by
  obtain ⟨h1, h2⟩ := hs
  obtain ⟨p, c, rfl, hl⟩ := h1.form
  obtain ⟨p', c', rfl, hd⟩ := h2.form
  obtain ⟨qu, po, sp, lo, dr⟩ := b
  unfold baV
  dsimp only at *
  clear h1 h2
  generalize lo.length = n1 at *
  generalize dr.length = n2 at *
  by_cases c1 : m - n1 < 0
  · go_enter Tryz.func116, Tryz.ntmps116
    go_wp2
    go_ret
    exact ⟨⟨_, rfl, .inl ⟨by decide, rfl⟩⟩, (Below.refl _ _).alloc (Nat.le_refl _) _⟩
  · by_cases c2 : m - n1 - n2 < 0
    · go_enter Tryz.func116, Tryz.ntmps116
      go_wp2
      go_ret
      exact ⟨⟨_, rfl, .inl ⟨by decide, rfl⟩⟩, (Below.refl _ _).alloc (Nat.le_refl _) _⟩
    · go_enter Tryz.func116, Tryz.ntmps116
      go_wp2
      go_ret
      exact ⟨⟨_, rfl, .inr ⟨by omega, by omega⟩⟩, (Below.refl _ _).alloc (Nat.le_refl _) _⟩
theorem szShelfS_left (z : Value) (sh : List Sh) (m : Int) (w : World) (hs : SlSh w z sh) (h0 : 0 ≤ m) (h1 : m ≤ 1048576) :
    Calls Tryz.prog 117 #[z, .int .i64 m] w fun e w' => (∃ n : Int, e = .returned (.int .i64 n) ∧ ((n < 0 ∧ n = -1) ∨ (0 ≤ n ∧ sh.length + n = m))) ∧ w' = w := by
  obtain ⟨p, c, rfl, hl⟩ := hs.form
  clear hs
  generalize sh.length = n1 at *
  by_cases c1 : m - n1 < 0
  · go_enter Tryz.func117, Tryz.ntmps117
    go_wp2
    go_ret
    exact ⟨⟨_, rfl, .inl ⟨by decide, rfl⟩⟩, rfl⟩
  · go_enter Tryz.func117, Tryz.ntmps117
    go_wp2
    go_ret
    exact ⟨⟨_, rfl, .inr ⟨by omega, by omega⟩⟩, rfl⟩
def grW (d : Gr) : Int := d.na.size + d.ba.lo.length + d.ba.dr.length + d.sh.length
theorem grW_nonneg (d : Gr) : 0 ≤ grW d := by unfold grW; omega
def gsW : List Gr → Int
  | [] => 0
  | d :: ds => grW d + gsW ds
theorem gsW_append (a b : List Gr) : gsW (a ++ b) = gsW a + gsW b := by
  induction a with
  | nil => simp [gsW]
  | cons d ds ih => show grW d + gsW (ds ++ b) = grW d + gsW ds + gsW b; omega
theorem szGroup_any (v : Gv) (m : Int) (w : World) (hs : GvOk w v) (hna : v.d.na.size ≤ maxLen) (h0 : 0 ≤ m) (h1 : m ≤ 1048576) :
    Calls Tryz.prog 71 #[gvV v, .int .i64 m] w fun e w' => (∃ n : Int, e = .returned (.int .i64 n) ∧ ((n < 0 ∧ n = -1) ∨ (0 ≤ n ∧ (n + grW v.d = m ∧ GrFit v.d)))) ∧ Below w.heap.size w w' := by
  obtain ⟨⟨us, pa, na, we, cp, pe, ne, su, ⟨qu, po, sp, lo, dr⟩, sh⟩, x, y, z⟩ := v
  obtain ⟨hs1, hs2⟩ := hs
  have hB : ∀ A, Below w.heap.size w (w.alloc A) := fun A => (Below.refl _ _).alloc (Nat.le_refl _) _
  unfold maxLen at hna
  unfold gvV
  dsimp only at *
  by_cases c1 : m - (na.size : Int) < 0
  · go_enter Tryz.func71, Tryz.ntmps71
    go_wp2
    go_ret
    exact ⟨⟨_, rfl, .inl ⟨by decide, rfl⟩⟩, hB _⟩
  · go_enter Tryz.func71, Tryz.ntmps71
    go_wp2_with fail
    refine (szBand_left ⟨qu, po, sp, lo, dr⟩ x y _ _ (hs1.below (hB _)) (by omega) (by omega)).mono ?_
    rintro e1 w2 ⟨⟨n1, rfl, hn1⟩, hb2⟩
    obtain ⟨hbl, hX, hlt⟩ := box_kept hb2
    obtain ⟨a0, a1, a2, a3, a4, a5, a6, a7, a8, a9, a10, a11, a12, a13⟩ := gbox hX
    dsimp only at hn1
    rcases hn1 with ⟨hn1, rfl⟩ | ⟨hn1, hn2⟩
    · simp only []
      go_at_K
      go_wp2_with fail
      go_ret
      exact ⟨⟨_, rfl, .inl ⟨by decide, rfl⟩⟩, hbl⟩
    · have hn1' : ¬ n1 < 0 := by omega
      simp only []
      go_at_K
      go_wp2_with fail
      refine (szShelfS_left z sh _ _ (hs2.below hbl) (by omega) (by omega)).mono ?_
      rintro e1 w3 ⟨⟨n3, rfl, hn3⟩, rfl⟩
      rcases hn3 with ⟨hn3, rfl⟩ | ⟨hn3, hn4⟩
      · simp only []
        go_at_K
        go_wp2_with fail
        go_ret
        exact ⟨⟨_, rfl, .inl ⟨by decide, rfl⟩⟩, hbl⟩
      · have hn3' : ¬ n3 < 0 := by omega
        simp only []
        go_at_K
        go_wp2_with fail
        go_ret
        exact ⟨⟨_, rfl, .inr ⟨by omega, by dsimp only [grW]; omega, by dsimp only [GrFit]; omega⟩⟩, hbl⟩
theorem szGroupS_left (sl : Value) (vs : List Gv) (M : Int) (w : World) (hs : SlG w sl vs) (hna : ∀ v ∈ vs, v.d.na.size ≤ maxLen) (hM0 : 0 ≤ M) (hM : M ≤ 1048576) :
    Calls Tryz.prog 32 #[sl, .int .i64 M] w fun e w' => (∃ n : Int, e = .returned (.int .i64 n) ∧ ((n < 0 ∧ n = -1) ∨ (0 ≤ n ∧ n + vs.length + gsW (gsD vs) = M ∧ GsFit vs))) ∧ Below w.heap.size w w' := by
  obtain ⟨hs, hok⟩ := hs
  rcases hs with ⟨rfl, a, cap, rfl⟩ | ⟨g, o, cap, rfl, hE, hl, hm⟩
  · go_enter Tryz.func32, Tryz.ntmps32
    go_wp2
    refine wp_loop_rounds 1 ?_
    rw [rounds_succ]
    go_wp2
    go_ret
    exact ⟨⟨_, rfl, .inr ⟨hM0, by simp [gsW, gsD], by simp, fun v hv => by cases hv⟩⟩, Below.refl _ _⟩
  · unfold maxLen at hm
    by_cases c1 : M - vs.length < 0
    · go_enter Tryz.func32, Tryz.ntmps32
      go_wp2
      go_ret
      exact ⟨⟨_, rfl, .inl ⟨by decide, rfl⟩⟩, Below.refl _ _⟩
    · go_enter Tryz.func32, Tryz.ntmps32
      go_wp2
      go_loopw [1, 5] (fun c i wr => ∃ (k : Nat) (m : Int), k ≤ vs.length ∧ i = .int .i64 k ∧ c = .int .i64 m ∧ 0 ≤ m ∧ m ≤ 1048576 ∧ Below w.heap.size w wr ∧ m + vs.length + gsW (gsD (vs.take k)) = M ∧ ∀ v ∈ vs.take k, GrFit v.d) (fun _ i _ => vs.length - (intOf i).toNat)
      case atStart => exact ⟨0, _, by omega, rfl, rfl, by omega, by omega, Below.refl _ _, by simp [gsW, gsD], fun v hv => by simp at hv⟩
      case round =>
        obtain ⟨k, m, hk, rfl, rfl, m0, m1, acc, hsum, hfit⟩ := hrel
        by_cases hlt : k < vs.length
        · have hlt' : (k : Int) < (vs.length : Int) := by omega
          obtain ⟨e, he⟩ := row_get hlt
          have hmem : e ∈ vs := List.mem_of_getElem? he
          have hoke := (hok e hmem).below acc
          have hnae := hna e hmem
          obtain ⟨x0, x1, x2, x3, x4, x5, x6, x7, x8, x9, x10, x11, x12, x13⟩ := gv_cells (hE.below acc k e he)
          have HE : Hid (vs[k]? = some e) := he
          have HF : Hid (∀ v ∈ vs.take k, GrFit v.d) := hfit
          have HS : Hid (m + vs.length + gsW (gsD (vs.take k)) = M) := hsum
          clear he hfit hok hna hmem hsum
          go_wp2_with fail
          refine (szGroup_any e m _ hoke hnae m0 m1).mono ?_
          rintro e1 w2 ⟨⟨n, rfl, hn⟩, hb2⟩
          rcases hn with ⟨hn, rfl⟩ | ⟨hn1, hn2, hn3⟩
          · simp only []
            go_at_K
            go_wp2_with fail
            go_ret
            exact ⟨⟨_, rfl, .inl ⟨by decide, rfl⟩⟩, acc.trans (hb2.mono acc.size)⟩
          · have hn' : ¬ n < 0 := by omega
            have HN : Hid (GrFit e.d) := hn3
            have HW : Hid (n + grW e.d = m) := hn2
            have hnm : n ≤ m := by have := grW_nonneg e.d; omega
            clear hn3 hn2
            simp only []
            go_at_K
            go_wp2_with fail
            refine ⟨⟨k + 1, n, hlt, by go_num, rfl, hn1, by omega, acc.trans (hb2.mono acc.size), ?_, ?_⟩, by simp [intOf]; omega⟩
            · rw [List.take_add_one, HE.out]
              have := HS.out
              have := HW.out
              simp only [gsD, Option.toList, List.map_append, gsW_append, List.map_cons, List.map_nil, gsW] at this ⊢
              have h3 := HS.out
              simp only [gsD] at h3
              omega
            intro v hv
            rw [List.take_add_one, HE.out] at hv
            rcases List.mem_append.1 hv with h | h
            · exact HF.out v h
            · obtain rfl : v = e := by simpa using h
              exact HN.out
        · have hlt' : ¬ (k : Int) < (vs.length : Int) := by omega
          have hkk : k = vs.length := by omega
          rw [hkk, List.take_length] at hfit hsum
          clear hkk
          go_wp2
          go_ret
          exact ⟨⟨_, rfl, .inr ⟨m0, hsum, by omega, hfit⟩⟩, acc⟩
theorem read_gv {H : Type} {enc : TypeId × Value → H} {w : World} {base : Nat} {spare : Nat → Bool} {held : Bool} (fuel : Nat) (cs : List Value) (y : DataW H × List MemPlace)
    (h : DataW.trod enc Tryz.prog w base spare held fuel 94 cs = some y) : ∃ a : Gv, cs = gvC a ∧ GvOk w a ∧ a.d.na.size ≤ maxLen ∧ (Lit.int .i64 a.d.pa).wf = true := by
  obtain ⟨n, hl, hf⟩ := trod_field Tryz.underlying94 h
  have hl : cs.length = 14 := hl.trans (by kernel_rfl)
  match cs, hl with
  | [c0, c1, c2, c3, c4, c5, c6, c7, c8, c9, c10, c11, c12, c13], _ =>
    obtain ⟨y0, h0⟩ := hf 0 _ rfl
    have h0 : DataW.trod enc Tryz.prog w base spare held n 4 [c0] = some y0 := h0
    obtain ⟨y1, h1⟩ := hf 1 _ rfl
    have h1 : DataW.trod enc Tryz.prog w base spare held n 3 [c1] = some y1 := h1
    obtain ⟨y2, h2⟩ := hf 2 _ rfl
    have h2 : DataW.trod enc Tryz.prog w base spare held n 9 [c2] = some y2 := h2
    obtain ⟨y3, h3⟩ := hf 3 _ rfl
    have h3 : DataW.trod enc Tryz.prog w base spare held n 3 [c3] = some y3 := h3
    obtain ⟨y4, h4⟩ := hf 4 _ rfl
    have h4 : DataW.trod enc Tryz.prog w base spare held n 3 [c4] = some y4 := h4
    obtain ⟨y5, h5⟩ := hf 5 _ rfl
    have h5 : DataW.trod enc Tryz.prog w base spare held n 3 [c5] = some y5 := h5
    obtain ⟨y6, h6⟩ := hf 6 _ rfl
    have h6 : DataW.trod enc Tryz.prog w base spare held n 3 [c6] = some y6 := h6
    obtain ⟨y7, h7⟩ := hf 7 _ rfl
    have h7 : DataW.trod enc Tryz.prog w base spare held n 3 [c7] = some y7 := h7
    obtain ⟨y8, h8⟩ := hf 8 _ rfl
    have h8 : DataW.trod enc Tryz.prog w base spare held n 91 [c8, c9, c10, c11, c12] = some y8 := h8
    obtain ⟨y9, h9⟩ := hf 9 _ rfl
    have h9 : DataW.trod enc Tryz.prog w base spare held n 92 [c13] = some y9 := h9
    obtain ⟨b0, e0, _⟩ := DataW.trod_bool Tryz.underlying4 h0
    obtain ⟨b1, e1, _, w1⟩ := DataW.trod_int Tryz.underlying3 h1
    obtain ⟨b2, e2, _, w2⟩ := DataW.trod_string Tryz.underlying9 h2
    obtain ⟨b3, e3, _, _⟩ := DataW.trod_int Tryz.underlying3 h3
    obtain ⟨b4, e4, _, _⟩ := DataW.trod_int Tryz.underlying3 h4
    obtain ⟨b5, e5, _, _⟩ := DataW.trod_int Tryz.underlying3 h5
    obtain ⟨b6, e6, _, _⟩ := DataW.trod_int Tryz.underlying3 h6
    obtain ⟨b7, e7, _, _⟩ := DataW.trod_int Tryz.underlying3 h7
    obtain ⟨sh, s9⟩ := trod_shS h9
    obtain ⟨n', _, hg⟩ := trod_field Tryz.underlying91 h8
    obtain ⟨u0, g0⟩ := hg 0 _ rfl
    have g0 : DataW.trod enc Tryz.prog w base spare held n' 3 [c8] = some u0 := g0
    obtain ⟨u1, g1⟩ := hg 1 _ rfl
    have g1 : DataW.trod enc Tryz.prog w base spare held n' 3 [c9] = some u1 := g1
    obtain ⟨u2, g2⟩ := hg 2 _ rfl
    have g2 : DataW.trod enc Tryz.prog w base spare held n' 3 [c10] = some u2 := g2
    obtain ⟨u3, g3⟩ := hg 3 _ rfl
    have g3 : DataW.trod enc Tryz.prog w base spare held n' 78 [c11] = some u3 := g3
    obtain ⟨u4, g4⟩ := hg 4 _ rfl
    have g4 : DataW.trod enc Tryz.prog w base spare held n' 79 [c12] = some u4 := g4
    obtain ⟨qu, e8, _, _⟩ := DataW.trod_int Tryz.underlying3 g0
    obtain ⟨po, e9, _, _⟩ := DataW.trod_int Tryz.underlying3 g1
    obtain ⟨sp, e10, _, _⟩ := DataW.trod_int Tryz.underlying3 g2
    obtain ⟨lo, s3⟩ := trod_intS g3
    obtain ⟨dr, s4⟩ := trod_boolS g4
    simp at e0 e1 e2 e3 e4 e5 e6 e7 e8 e9 e10
    subst e0 e1 e2 e3 e4 e5 e6 e7 e8 e9 e10
    exact ⟨⟨⟨b0, b1, b2, b3, b4, b5, b6, b7, ⟨qu, po, sp, lo, dr⟩, sh⟩, c11, c12, c13⟩, rfl, ⟨⟨s3, s4⟩, s9⟩, w2, w1⟩
end Go.Proofs.YtnmmglkigiakaaaGreat
