/- Rows of groups of one's own: what marks them, what asks whether they are held. Worlds by value: what they hold; what compares and marks them, what asks whether they are held. Worlds that came in: what copies and what measures them. Worlds that came in as an argument, opened. The specification on worlds: the processors that are up. -/
import Derived.Test.YtnmmglkigiakaaaGreatD03
import Derived.Laws.BytesArg
namespace Go.Proofs.YtnmmglkigiakaaaGreat
set_option maxRecDepth 100000
set_option maxHeartbeats 32000000
set_option linter.unusedVariables false
set_option linter.unusedSimpArgs false
open Go.ChangeShapes Go.WideShapes Go.ChangeAt Go.RowKit
section
variable {α : Type} {c : α → List Value} {n : Nat}
end
theorem mem_blkGs {g : Nat} {e : Gv} {es : List Gv} (he : e ∈ es) (hg : g ∈ blkG e) : g ∈ blkGs es := List.mem_flatMap.2 ⟨e, he, hg⟩
def HasG (B : Nat) (W : World) (e : Gv) : Prop := OwnI B W e.x e.d.ba.lo ∧ OwnB B W e.y e.d.ba.dr ∧ OwnSh B W e.z e.d.sh
theorem HasG.kept {S : Nat → Prop} {B : Nat} {W W' : World} {e : Gv} (h : HasG B W e) (hk : Kept S W W') (hn : ∀ g ∈ blkG e, ¬ S g) : HasG B W' e :=
  ⟨h.1.kept hk (fun g hg => hn g (by simp [blkG, hg])), h.2.1.kept hk (fun g hg => hn g (by simp [blkG, hg])), h.2.2.kept hk (fun g hg => hn g (by simp [blkG, hg]))⟩
theorem HasG.mono {B B' : Nat} {W : World} {e : Gv} (h : HasG B W e) (hB : B' ≤ B) : HasG B' W e := ⟨h.1.mono hB, h.2.1.mono hB, h.2.2.mono hB⟩
theorem HasG.ok {B : Nat} {W : World} {e : Gv} (h : HasG B W e) : GvOk W e := ⟨⟨h.1.sl, h.2.1.sl⟩, h.2.2.sl⟩
theorem HasG.at {B : Nat} {W : World} {e : Gv} (h : HasG B W e) : ∀ g ∈ blkG e, B ≤ g ∧ g < W.heap.size := by
  intro g hg
  simp only [blkG, List.mem_append, Option.mem_toList] at hg
  rcases hg with hg | hg | hg
  · exact h.1.at g hg
  · exact h.2.1.at g hg
  · exact h.2.2.at g hg
def blksOf (x : Value) (es : List Gv) : List Nat := x.ownBlock.toList ++ blkGs es
def OwnG (B : Nat) (W : World) (x : Value) (es : List Gv) : Prop := OwnR gvC 14 B W x es ∧ (∀ e ∈ es, HasG B W e) ∧ (blksOf x es).Nodup
theorem OwnG.kept {S : Nat → Prop} {B : Nat} {W W' : World} {x : Value} {es : List Gv} (h : OwnG B W x es) (hk : Kept S W W') (hn : ∀ g ∈ blksOf x es, ¬ S g) : OwnG B W' x es :=
  ⟨h.1.kept hk (fun g hg => hn g (by simp [blksOf, hg])), fun e he => (h.2.1 e he).kept hk (fun g hg => hn g (by simp [blksOf, mem_blkGs he hg])), h.2.2⟩
theorem OwnG.mono {B B' : Nat} {W : World} {x : Value} {es : List Gv} (h : OwnG B W x es) (hB : B' ≤ B) : OwnG B' W x es := ⟨h.1.mono hB, fun e he => (h.2.1 e he).mono hB, h.2.2⟩
theorem OwnG.sl {B : Nat} {W : World} {x : Value} {es : List Gv} (h : OwnG B W x es) : SlG W x es := ⟨h.1.sl, fun e he => (h.2.1 e he).ok⟩
theorem OwnG.at {B : Nat} {W : World} {x : Value} {es : List Gv} (h : OwnG B W x es) : ∀ g ∈ blksOf x es, B ≤ g ∧ g < W.heap.size := by
  intro g hg
  simp only [blksOf, List.mem_append, Option.mem_toList] at hg
  rcases hg with hg | hg
  · exact h.1.at g hg
  · obtain ⟨e, he, hg⟩ := List.mem_flatMap.1 hg
    exact (h.2.1 e he).at g hg
theorem NewG.own {B : Nat} {W : World} {x : Value} {vs : List Gv} (h : NewG B W x vs) (hf : GsFit vs) : OwnG B W x vs := by
  obtain ⟨h1, h2, h3⟩ := h
  have hx := h1.own hf.1
  refine ⟨hx, fun e he => ⟨(h2 e he).1.1.1, (h2 e he).1.1.2.1, (h2 e he).1.2.1.own (hf.2 e he).2.2.2⟩, ?_⟩
  unfold blksOf
  refine List.nodup_append.2 ⟨(by cases x.ownBlock <;> simp), h3, fun a ha b hb e => ?_⟩
  subst e
  obtain ⟨u, hu, hb⟩ := List.mem_flatMap.1 hb
  have := (((h2 u hu).2 a (by simpa using ha)).at a hb).1
  omega
end Go.Proofs.YtnmmglkigiakaaaGreat
namespace Go.Proofs.YtnmmglkigiakaaaGreat
set_option maxRecDepth 100000
set_option maxHeartbeats 32000000
set_option linter.unusedVariables false
set_option linter.unusedSimpArgs false
open Go.ChangeShapes Go.WideShapes Go.ChangeAt Go.RowKit
structure Wv where
  now : Int
  cs : List Cp
  ts : List Tk
  gs : List Gv
  x : Value
  y : Value
  z : Value
def wvV (u : Wv) : Value := .agg #[.int .i64 u.now, u.x, u.y, u.z]
def SlW (W : World) (u : Wv) : Prop := SlCp W u.x u.cs ∧ SlTk W u.y u.ts ∧ SlG W u.z u.gs
theorem SlW.below {W W' : World} {u : Wv} (h : SlW W u) (hb : Below W.heap.size W W') : SlW W' u := ⟨h.1.below hb, h.2.1.below hb, h.2.2.below hb⟩
structure SameW (u v : Wv) : Prop where
  now : v.now = u.now
  cs : v.cs = u.cs
  ts : v.ts = u.ts
  gs : gsD v.gs = gsD u.gs
theorem SameW.symm {u v : Wv} (h : SameW u v) : SameW v u := ⟨h.now.symm, h.cs.symm, h.ts.symm, h.gs.symm⟩
theorem SameW.trans {u v t : Wv} (h : SameW u v) (k : SameW v t) : SameW u t := ⟨k.now.trans h.now, k.cs.trans h.cs, k.ts.trans h.ts, k.gs.trans h.gs⟩
def blkW (u : Wv) : List Nat := u.x.ownBlock.toList ++ (u.y.ownBlock.toList ++ blksOf u.z u.gs)
def OwnW (B : Nat) (W : World) (u : Wv) : Prop := OwnCp B W u.x u.cs ∧ OwnTk B W u.y u.ts ∧ OwnG B W u.z u.gs ∧ (blkW u).Nodup
theorem OwnW.sl {B : Nat} {W : World} {u : Wv} (h : OwnW B W u) : SlW W u := ⟨h.1.sl, h.2.1.sl, h.2.2.1.sl⟩
def WFit (u : Wv) : Prop := u.cs.length ≤ 1048576 ∧ u.ts.length ≤ 1048576 ∧ GsFit u.gs
theorem wbox {w : World} {b : Nat} {c0 c1 c2 c3 : Value} {t : TypeId} (h : w.heap[b]? = some (.cells #[c0, c1, c2, c3] t (0, 0))) : w.cell? ⟨b, 0, none⟩ = some c0 ∧ w.cell? ⟨b, 1, none⟩ = some c1 ∧ w.cell? ⟨b, 2, none⟩ = some c2 ∧ w.cell? ⟨b, 3, none⟩ = some c3 := by
  have hr := range_of_block (cs := [c0, c1, c2, c3]) h
  refine ⟨by simpa using hr 0 _ rfl, by simpa using hr 1 _ rfl, by simpa using hr 2 _ rfl, by simpa using hr 3 _ rfl⟩
theorem Kept.block_of {S : Nat → Prop} {w w' : World} {b : Nat} {o : Obj} (h : Kept S w w') (hb : w.heap[b]? = some o) (hn : ¬ S b) : w'.heap[b]? = some o :=
  (h.block b (Array.getElem?_eq_some_iff.1 hb).1 hn).trans hb
theorem SlCp.form' {W : World} {x : Value} {xs : List Cp} (h : SlCp W x xs) : ∃ p c, x = .slice p xs.length c := by
  rcases h with ⟨h0, a, cap, h1⟩ | ⟨g, o, cap, h1, _⟩
  · exact ⟨a, cap, by rw [h0]; exact h1⟩
  · exact ⟨_, _, h1⟩
theorem SlTk.form' {W : World} {x : Value} {xs : List Tk} (h : SlTk W x xs) : ∃ p c, x = .slice p xs.length c := by
  rcases h with ⟨h0, a, cap, h1⟩ | ⟨g, o, cap, h1, _⟩
  · exact ⟨a, cap, by rw [h0]; exact h1⟩
  · exact ⟨_, _, h1⟩
theorem SlG.form' {W : World} {x : Value} {xs : List Gv} (h : SlG W x xs) : ∃ p c, x = .slice p xs.length c := by
  rcases h.1 with ⟨h0, a, cap, h1⟩ | ⟨g, o, cap, h1, _⟩
  · exact ⟨a, cap, by rw [h0]; exact h1⟩
  · exact ⟨_, _, h1⟩
theorem SlW.form {W : World} {u : Wv} (h : SlW W u) : (∃ p l c, u.x = .slice p l c) ∧ (∃ p l c, u.y = .slice p l c) ∧ (∃ p l c, u.z = .slice p l c) := by
  obtain ⟨a, b, h1⟩ := h.1.form'
  obtain ⟨c, d, h2⟩ := h.2.1.form'
  obtain ⟨e, f, h3⟩ := h.2.2.form'
  exact ⟨⟨_, _, _, h1⟩, ⟨_, _, _, h2⟩, ⟨_, _, _, h3⟩⟩
theorem eqWorld_same (u v : Wv) (w : World) (hu : SlW w u) (hv : SlW w v) (hd : SameW u v) :
    Calls Tryz.prog 15 #[wvV u, wvV v] w fun e w' => e = .returned (.bool true) ∧ Below w.heap.size w w' := by
  obtain ⟨n1, cs1, ts1, gs1, x1, y1, z1⟩ := u
  obtain ⟨n2, cs2, ts2, gs2, x2, y2, z2⟩ := v
  obtain ⟨rfl, rfl, rfl, hg⟩ := hd
  obtain ⟨⟨p1, l1, c1, e1⟩, ⟨p2, l2, c2, e2⟩, ⟨p3, l3, c3, e3⟩⟩ := hu.form
  obtain ⟨⟨q1, j1, d1, f1⟩, ⟨q2, j2, d2, f2⟩, ⟨q3, j3, d3, f3⟩⟩ := hv.form
  dsimp only at e1 e2 e3 f1 f2 f3 hg
  subst e1 e2 e3 f1 f2 f3
  unfold wvV
  dsimp only
  have hB : ∀ A B, Below w.heap.size w ((w.alloc A).alloc B) := fun A B => ((Below.refl _ _).alloc (Nat.le_refl _) _).alloc (by simp) _
  have hX := heap_alloc2_old w (.cells #[.int .i64 n2, .slice p1 l1 c1, .slice p2 l2 c2, .slice p3 l3 c3] 33 (0, 0)) (.cells #[.int .i64 n2, .slice q1 j1 d1, .slice q2 j2 d2, .slice q3 j3 d3] 33 (0, 0))
  have hY := heap_alloc2_new w (.cells #[.int .i64 n2, .slice p1 l1 c1, .slice p2 l2 c2, .slice p3 l3 c3] 33 (0, 0)) (.cells #[.int .i64 n2, .slice q1 j1 d1, .slice q2 j2 d2, .slice q3 j3 d3] 33 (0, 0))
  have hb0 := hB (.cells #[.int .i64 n2, .slice p1 l1 c1, .slice p2 l2 c2, .slice p3 l3 c3] 33 (0, 0)) (.cells #[.int .i64 n2, .slice q1 j1 d1, .slice q2 j2 d2, .slice q3 j3 d3] 33 (0, 0))
  go_enter Tryz.func15, Tryz.ntmps15
  go_wp2_with fail
  generalize ((w.alloc (.cells #[.int .i64 n2, .slice p1 l1 c1, .slice p2 l2 c2, .slice p3 l3 c3] 33 (0, 0))).alloc (.cells #[.int .i64 n2, .slice q1 j1 d1, .slice q2 j2 d2, .slice q3 j3 d3] 33 (0, 0))) = w1 at *
  refine (eqCpuS_same _ _ cs2 _ (hu.below hb0).1 (hv.below hb0).1).mono ?_
  rintro e w2 ⟨rfl, hb2⟩
  have hX2 := (Kept.ofBelow hb2).block_of hX (fun h => h)
  have hY2 := (Kept.ofBelow hb2).block_of hY (fun h => h)
  have b2 := hb0.trans (hb2.mono hb0.size)
  obtain ⟨s0, s1, s2, s3⟩ := wbox hX2
  obtain ⟨t0, t1, t2, t3⟩ := wbox hY2
  simp only []
  go_at_K
  go_wp2_with fail
  refine (eqTaskS_same _ _ ts2 _ (hu.below b2).2.1 (hv.below b2).2.1).mono ?_
  clear s0 s1 s2 s3 t0 t1 t2 t3
  rintro e w3 ⟨rfl, hb3⟩
  have hX3 := (Kept.ofBelow hb3).block_of hX2 (fun h => h)
  have hY3 := (Kept.ofBelow hb3).block_of hY2 (fun h => h)
  have b3 := b2.trans (hb3.mono b2.size)
  obtain ⟨s0, s1, s2, s3⟩ := wbox hX3
  obtain ⟨t0, t1, t2, t3⟩ := wbox hY3
  simp only []
  go_at_K
  go_wp2_with fail
  refine (eqGroupS_same _ _ gs1 gs2 _ (hu.below b3).2.2 (hv.below b3).2.2 hg).mono ?_
  clear s0 s1 s2 s3 t0 t1 t2 t3
  rintro e w4 ⟨rfl, hb4⟩
  simp only []
  go_at_K
  go_wp2_with fail
  go_ret
  exact ⟨rfl, b3.trans (hb4.mono b3.size)⟩
theorem info_wrld : (Tryz.prog.info? 33).map (·.size) = some 4 := by kernel_rfl
theorem toWorld_own (u : Wv) (w : World) (hs : SlW w u) (hf : WFit u) :
    Calls Tryz.prog 13 #[wvV u] w fun e w' => ∃ u', e = .returned (wvV u') ∧ SameW u u' ∧ OwnW w.heap.size w' u' ∧ Below w.heap.size w w' := by
  obtain ⟨n1, cs1, ts1, gs1, x1, y1, z1⟩ := u
  obtain ⟨⟨p1, l1, c1, e1⟩, ⟨p2, l2, c2, e2⟩, ⟨p3, l3, c3, e3⟩⟩ := hs.form
  obtain ⟨f1, f2, f3⟩ := hf
  obtain ⟨s1, s2, s3⟩ := hs
  dsimp only at e1 e2 e3 s1 s2 s3 f1 f2 f3
  subst e1 e2 e3
  unfold wvV
  dsimp only
  have hB : ∀ A B C, Below w.heap.size w (((w.alloc A).alloc B).alloc C) := fun A B C => (((Below.refl _ _).alloc (Nat.le_refl _) _).alloc (by simp) _).alloc (by simp; omega) _
  go_enter Tryz.func13, Tryz.ntmps13
  go_wp2_with fail
  refine (toCpuS_any _ cs1 _ (s1.below (hB _ _ _)) f1).mono ?_
  rintro e w2 ⟨x', rfl, hN1, hb2⟩
  obtain ⟨hbl, hlt, hA, hR, hO⟩ := three_box' hb2
  have z2 : w.heap.size + 1 + 1 + 1 ≤ w2.heap.size := by have := hb2.size; simp at this; omega
  have ox : OwnCp (w.heap.size + 1 + 1 + 1) w2 x' cs1 := (hN1.own f1).mono (by simp)
  clear hN1 hb2
  obtain ⟨px, qx, rfl⟩ := ox.form
  have ax := ox.at
  obtain ⟨o0, o1, o2, o3⟩ := wbox hO
  have o1f := fbox hO 1
  obtain ⟨i0, i1, i2, i3⟩ := wbox hA
  have kS := Kept.set w2 (w.heap.size + 1 + 1) 1 (.slice px cs1.length qx)
  have hO2 : (w2.setCell ⟨w.heap.size + 1 + 1, 1, none⟩ (.slice px cs1.length qx)).heap[w.heap.size + 1 + 1]? = some (.cells #[.int .i64 n1, .slice px cs1.length qx, .slice none 0 0, .slice none 0 0] 33 (0, 0)) := heap_setCell_same _ _ _ _ _ _ hO
  have hA2 := kS.block_of hA (by omega)
  have hR2 := kS.block_of hR (by omega)
  have ox2 := ox.kept kS (fun g hg hh => by have := (ax g hg).1; omega)
  have acc := hbl.trans (kS.toBelow hbl.size (fun g hg => by omega))
  have z2' := kS.size
  simp only []
  go_at_K
  go_wp2_with fail
  clear o0 o1 o2 o3 o1f i0 i1 i2 i3 hA hR hO ox kS
  generalize (w2.setCell ⟨w.heap.size + 1 + 1, 1, none⟩ (.slice px cs1.length qx)) = w3 at *
  refine (toTaskS_any _ ts1 _ (s2.below acc) f2).mono ?_
  rintro e w4 ⟨y', rfl, hN2, hb4⟩
  have z4 := hb4.size
  have oy := hN2.own f2
  clear hN2
  obtain ⟨py, qy, rfl⟩ := oy.form
  have ay := oy.at
  have hO := (Kept.ofBelow hb4).block_of hO2 (fun h => h)
  have hA := (Kept.ofBelow hb4).block_of hA2 (fun h => h)
  have hR := (Kept.ofBelow hb4).block_of hR2 (fun h => h)
  have ox := ox2.below hb4
  replace acc := acc.trans (hb4.mono acc.size)
  clear hO2 hA2 hR2 ox2 hb4
  obtain ⟨o0, o1, o2, o3⟩ := wbox hO
  have o2f := fbox hO 2
  obtain ⟨i0, i1, i2, i3⟩ := wbox hA
  have kS := Kept.set w4 (w.heap.size + 1 + 1) 2 (.slice py ts1.length qy)
  have hO2 : (w4.setCell ⟨w.heap.size + 1 + 1, 2, none⟩ (.slice py ts1.length qy)).heap[w.heap.size + 1 + 1]? = some (.cells #[.int .i64 n1, .slice px cs1.length qx, .slice py ts1.length qy, .slice none 0 0] 33 (0, 0)) := heap_setCell_same _ _ _ _ _ _ hO
  have hA2 := kS.block_of hA (by omega)
  have hR2 := kS.block_of hR (by omega)
  have ox2 := ox.kept kS (fun g hg hh => by have := (ax g hg).1; omega)
  have oy2 := oy.kept kS (fun g hg hh => by have := (ay g hg).1; omega)
  replace acc := acc.trans (kS.toBelow acc.size (fun g hg => by omega))
  have z4' := kS.size
  simp only []
  go_at_K
  go_wp2_with fail
  clear o0 o1 o2 o3 o2f i0 i1 i2 i3 hA hR hO ox oy kS
  generalize (w4.setCell ⟨w.heap.size + 1 + 1, 2, none⟩ (.slice py ts1.length qy)) = w5 at *
  refine (toGroupS_any _ gs1 _ (s3.below acc) f3).mono ?_
  rintro e w6 ⟨z', gs2, rfl, d3, hN3, hb6⟩
  have z6 := hb6.size
  have oz := hN3.own (f3.of_same d3)
  clear hN3
  obtain ⟨pz, qz, hzf⟩ := oz.sl.form'
  have hzf' : ∃ lz, z' = .slice pz lz qz := ⟨_, hzf⟩
  clear hzf
  obtain ⟨lz, rfl⟩ := hzf'
  have az := oz.at
  have hO := (Kept.ofBelow hb6).block_of hO2 (fun h => h)
  have hR := (Kept.ofBelow hb6).block_of hR2 (fun h => h)
  have ox := ox2.below hb6
  have oy := oy2.below hb6
  replace acc := acc.trans (hb6.mono acc.size)
  clear hO2 hA2 hR2 ox2 oy2 hb6
  obtain ⟨o0, o1, o2, o3⟩ := wbox hO
  have o3f := fbox hO 3
  obtain ⟨r0, r1, r2, r3⟩ := wbox hR
  have r0f := fbox hR 0
  have r1f := fbox hR 1
  have r2f := fbox hR 2
  have r3f := fbox hR 3
  have kS := Kept.set w6 (w.heap.size + 1 + 1) 3 (.slice pz lz qz)
  have hth : (w6.setCell ⟨w.heap.size + 1 + 1, 3, none⟩ (.slice pz lz qz)).there (w.heap.size + 1) 0 4 := there_of_block (kS.block_of hR (by omega))
  have kT := Kept.setCells (w6.setCell ⟨w.heap.size + 1 + 1, 3, none⟩ (.slice pz lz qz)) (w.heap.size + 1) 0 [.int .i64 n1, .slice px cs1.length qx, .slice py ts1.length qy, .slice pz lz qz]
  have kU := kS.trans kT
  have HTH : Hid _ := hth
  have HOX : Hid (OwnCp (w.heap.size + 1 + 1 + 1) w6 (.slice px cs1.length qx) cs1) := ox
  have HOY : Hid (OwnTk w3.heap.size w6 (.slice py ts1.length qy) ts1) := oy
  have HOZ : Hid (OwnG w5.heap.size w6 (.slice pz lz qz) gs2) := oz
  clear hth hO hR ox oy oz
  simp only []
  go_at_K
  go_wp2_with fail
  refine bodyPost_ret (results_mid rfl _ _ (w.heap.size + 1) 0 [.int .i64 n1, .slice px cs1.length qx, .slice py ts1.length qy, .slice pz lz qz] _ rfl (World.rangeAt_setCells_same _ (w.heap.size + 1) 0 [.int .i64 n1, .slice px cs1.length qx, .slice py ts1.length qy, .slice pz lz qz] HTH.out) Tryz.underlying33 rfl info_wrld) rfl ?_
  have one : ∀ o : Option Nat, o.toList.Nodup := fun o => by cases o <;> simp
  refine ⟨⟨n1, cs1, ts1, gs2, .slice px cs1.length qx, .slice py ts1.length qy, .slice pz lz qz⟩, rfl, ⟨rfl, rfl, rfl, d3⟩, ⟨(HOX.out.kept kU (fun g hg hh => ?_)).mono (by omega), (HOY.out.kept kU (fun g hg hh => ?_)).mono (by omega), (HOZ.out.kept kU (fun g hg hh => ?_)).mono (by omega), ?_⟩, acc.trans (kU.toBelow acc.size (fun g hg => by omega))⟩
  · have := (ax g hg).1; omega
  · have := (ay g hg).1; omega
  · have := (az g hg).1; omega
  · refine List.nodup_append.2 ⟨one _, List.nodup_append.2 ⟨one _, HOZ.out.2.2, fun a ha b hb e => ?_⟩, fun a ha b hb e => ?_⟩
    · subst e
      have h1 := ay a (by simpa using ha)
      have h2 := az a hb
      omega
    · subst e
      have h1 := ax a (by simpa using ha)
      rcases List.mem_append.1 hb with hb | hb
      · have h2 := ay a (by simpa using hb)
        omega
      · have h2 := az a hb
        omega
theorem szCpuS_yes (p : Option Addr) (n c : Nat) (m : Int) (w : World) (hl : n ≤ 9223372036854775807) (h0 : 0 ≤ m) (h1 : m ≤ 1048576) (c1 : ¬ m - n < 0) :
    Calls Tryz.prog 30 #[.slice p n c, .int .i64 m] w fun e w' => e = .returned (.int .i64 (m - n)) ∧ w' = w := by
  go_enter Tryz.func30, Tryz.ntmps30
  go_wp2
  go_ret
  exact ⟨rfl, rfl⟩
theorem szTaskS_yes (p : Option Addr) (n c : Nat) (m : Int) (w : World) (hl : n ≤ 9223372036854775807) (h0 : 0 ≤ m) (h1 : m ≤ 1048576) (c1 : ¬ m - n < 0) :
    Calls Tryz.prog 31 #[.slice p n c, .int .i64 m] w fun e w' => e = .returned (.int .i64 (m - n)) ∧ w' = w := by
  go_enter Tryz.func31, Tryz.ntmps31
  go_wp2
  go_ret
  exact ⟨rfl, rfl⟩
theorem szWorld_any (u : Wv) (w : World) (hs : SlW w u) (hna : ∀ v ∈ u.gs, v.d.na.size ≤ maxLen) :
    Calls Tryz.prog 11 #[wvV u, .int .i64 1048576] w fun e w' => (∃ n : Int, e = .returned (.int .i64 n) ∧ ((n < 0 ∧ n = -1) ∨ (0 ≤ n ∧ WFit u ∧ n + u.cs.length + u.ts.length + u.gs.length + gsW (gsD u.gs) = 1048576))) ∧ Below w.heap.size w w' := by
  obtain ⟨n1, cs1, ts1, gs1, x1, y1, z1⟩ := u
  obtain ⟨s1, s2, s3⟩ := hs
  dsimp only at s1 s2 s3 hna
  obtain ⟨p1, c1, e1⟩ := s1.form'
  obtain ⟨p2, c2, e2⟩ := s2.form'
  obtain ⟨p3, c3, e3⟩ := s3.form'
  have m1 : cs1.length ≤ maxLen := by
    rcases s1 with ⟨h0, _⟩ | ⟨g, o, cap, _, _, h1, h2⟩
    · rw [h0]; exact Nat.zero_le _
    · exact Nat.le_trans h1 h2
  have m2 : ts1.length ≤ maxLen := by
    rcases s2 with ⟨h0, _⟩ | ⟨g, o, cap, _, _, h1, h2⟩
    · rw [h0]; exact Nat.zero_le _
    · exact Nat.le_trans h1 h2
  unfold maxLen at m1 m2
  subst e1 e2 e3
  unfold wvV
  dsimp only
  have hb0 : Below w.heap.size w (w.alloc (.cells #[.int .i64 n1, .slice p1 cs1.length c1, .slice p2 ts1.length c2, .slice p3 gs1.length c3] 26 (0, 0))) := (Below.refl _ _).alloc (Nat.le_refl _) _
  by_cases q1 : (1048576 : Int) - cs1.length < 0
  · go_enter Tryz.func11, Tryz.ntmps11
    go_wp2
    go_ret
    exact ⟨⟨_, rfl, .inl ⟨by decide, rfl⟩⟩, hb0⟩
  · by_cases q2 : (1048576 : Int) - cs1.length - ts1.length < 0
    · go_enter Tryz.func11, Tryz.ntmps11
      go_wp2
      go_ret
      exact ⟨⟨_, rfl, .inl ⟨by decide, rfl⟩⟩, hb0⟩
    · have hsz := fun W hs => szGroupS_left (.slice p3 gs1.length c3) gs1 ((1048576 : Int) - cs1.length - ts1.length) W hs hna (by omega) (by omega)
      go_enter Tryz.func11, Tryz.ntmps11
      go_wp2_with fail
      refine (szCpuS_yes _ _ _ _ _ (by omega) (by omega) (by omega) (by omega)).mono ?_
      rintro e w1 ⟨rfl, rfl⟩
      simp only []
      go_at_K
      go_wp2_with fail
      refine (szTaskS_yes _ _ _ _ _ (by omega) (by omega) (by omega) (by omega)).mono ?_
      rintro e w1 ⟨rfl, rfl⟩
      simp only []
      go_at_K
      go_wp2_with fail
      refine (hsz _ (s3.below hb0)).mono ?_
      rintro e w2 ⟨⟨n, rfl, hn⟩, hb2⟩
      have acc := hb0.trans (hb2.mono hb0.size)
      rcases hn with ⟨hn, rfl⟩ | ⟨hn, hn2, hn3⟩
      · simp only []
        go_at_K
        go_wp2_with fail
        go_ret
        exact ⟨⟨_, rfl, .inl ⟨by decide, rfl⟩⟩, acc⟩
      · have hn' : ¬ n < 0 := by omega
        have HF : Hid (GsFit gs1) := hn3
        clear hn3
        simp only []
        go_at_K
        go_wp2_with fail
        go_ret
        have h1 : cs1.length ≤ 1048576 := by omega
        have h2 : ts1.length ≤ 1048576 := by omega
        have h3 : n + cs1.length + ts1.length + gs1.length + gsW (gsD gs1) = 1048576 := by omega
        exact ⟨⟨_, rfl, .inr ⟨hn, ⟨h1, h2, HF.out⟩, h3⟩⟩, acc⟩
theorem open_world {H : Type} {enc : TypeId × Value → H} {w : World} {base b0 : Nat} {spare : Nat → Bool} {held : Bool} {r : Reach} {v : Value} {d : DataW H} {p : List MemPlace}
    (hv : Value.okWide Tryz.prog w r b0 26 v) (h : DataW.Trod enc Tryz.prog w base spare held 26 v d p) : ∃ u : Wv, v = wvV u ∧ SlW w u ∧ (Lit.int .i64 u.now).wf = true ∧ ∀ a ∈ u.gs, a.d.na.size ≤ maxLen ∧ (Lit.int .i64 a.d.pa).wf = true := by
  obtain ⟨cs, n, rfl, hsz, hf⟩ := open_fields Tryz.underlying26 (by kernel_rfl) (by kernel_rfl) hv h
  obtain ⟨c0, c1, c2, c3, rfl⟩ := Joins.array4 hsz
  obtain ⟨y0, h0⟩ := hf 0 _ rfl c0 rfl
  obtain ⟨y1, h1⟩ := hf 1 _ rfl c1 rfl
  obtain ⟨y2, h2⟩ := hf 2 _ rfl c2 rfl
  obtain ⟨y3, h3⟩ := hf 3 _ rfl c3 rfl
  obtain ⟨now, e0, _, w0⟩ := DataW.trod_int Tryz.underlying3 h0
  obtain ⟨xs, s1⟩ := trod_cpS h1
  obtain ⟨ts, s2⟩ := trod_tkS h2
  have inh : Inhabited Gv := ⟨gv0⟩
  obtain ⟨gs, s3, s4⟩ := open_rows (c := gvC) (R := fun a => GvOk w a ∧ a.d.na.size ≤ maxLen ∧ (Lit.int .i64 a.d.pa).wf = true) Tryz.underlying24 (show Tryz.prog.cellsOf 94 = 14 by kernel_rfl) (by omega) gvC_len read_gv h3
  simp at e0
  subst e0
  exact ⟨⟨now, xs, ts, gs, c1, c2, c3⟩, rfl, ⟨s1, s2, s3, fun v hv => (s4 v hv).1⟩, w0, fun v hv => (s4 v hv).2⟩
def upB (cs : List Cp) (k : Nat) : Bool := (cs[k]?.map (·.up)).getD false
def upsTo (cs : List Cp) : Nat → Int
  | 0 => 0
  | k + 1 => upsTo cs k + (if upB cs k = true then 2 ^ k else 0)
def upsM (cs : List Cp) : Int := upsTo cs cs.length
theorem upsTo_bound (cs : List Cp) : ∀ k, 0 ≤ upsTo cs k ∧ upsTo cs k < 2 ^ k := by
  intro k
  induction k with
  | zero => exact ⟨Int.le_refl _, by show (0 : Int) < 1; decide⟩
  | succ k ih =>
    have hp : (2 : Int) ^ (k + 1) = 2 ^ k * 2 := Int.pow_succ 2 k
    unfold upsTo
    rw [hp]
    split <;> omega
theorem spec_ups (u : Wv) (w : World) (hs : SlW w u) (hn : u.cs.length ≤ 4) :
    Calls Tryz.prog 63 #[wvV u] w fun e w' => e = .returned (.int .i64 (upsM u.cs)) ∧ Below w.heap.size w w' := by
  obtain ⟨⟨p1, l1, c1, e1⟩, ⟨p2, l2, c2, e2⟩, ⟨p3, l3, c3, e3⟩⟩ := hs.form
  obtain ⟨n1, cs1, ts1, gs1, x1, y1, z1⟩ := u
  obtain ⟨s1, _, _⟩ := hs
  dsimp only at e1 e2 e3 s1 hn
  subst e2 e3
  obtain ⟨p1', c1', e1'⟩ := s1.form'
  subst e1'
  clear e1
  unfold wvV
  dsimp only
  have hb0 : Below w.heap.size w (w.alloc (.cells #[.int .i64 n1, .slice p1' cs1.length c1', .slice p2 l2 c2, .slice p3 l3 c3] 33 (0, 0))) := (Below.refl _ _).alloc (Nat.le_refl _) _
  have hX : (w.alloc (.cells #[.int .i64 n1, .slice p1' cs1.length c1', .slice p2 l2 c2, .slice p3 l3 c3] 33 (0, 0))).heap[w.heap.size]? = some (.cells #[.int .i64 n1, .slice p1' cs1.length c1', .slice p2 l2 c2, .slice p3 l3 c3] 33 (0, 0)) := heap_alloc_new w _
  have hrow : ∀ k, k < cs1.length → ∃ g o e, p1' = some ⟨g, o, none⟩ ∧ cs1[k]? = some e ∧ w.cell? ⟨g, o + k * 5, none⟩ = some (.bool e.up) ∧ g < w.heap.size := by
    intro k hk
    rcases s1 with ⟨h0, _⟩ | ⟨g, o, cap, h1, hE, _, _⟩
    · rw [h0] at hk; exact absurd hk (by simp)
    · obtain ⟨e, he⟩ := row_get hk
      obtain ⟨x0, _⟩ := cp_cells (hE k e he)
      have hp : p1' = some ⟨g, o, none⟩ := by simpa using congrArg (fun v => match v with | Value.slice p _ _ => p | _ => none) h1
      exact ⟨g, o, e, hp, he, x0, block_lt_of_cell x0⟩
  clear s1
  go_enter Tryz.func63, Tryz.ntmps63
  go_wp2
  generalize (w.alloc (.cells #[.int .i64 n1, .slice p1' cs1.length c1', .slice p2 l2 c2, .slice p3 l3 c3] 33 (0, 0))) = wr at *
  obtain ⟨o0, o1, o2, o3⟩ := wbox hX
  go_loop [3, 4] (fun m i => ∃ k : Nat, k ≤ cs1.length ∧ i = .int .i64 k ∧ m = .int .i64 (upsTo cs1 k)) (fun _ i => cs1.length - (intOf i).toNat)
  case atStart => exact ⟨0, Nat.zero_le _, rfl, rfl⟩
  case round =>
    obtain ⟨k, hk, rfl, rfl⟩ := hrel
    obtain ⟨b1, b2⟩ := upsTo_bound cs1 k
    by_cases hlt : k < cs1.length
    · have hlt' : (k : Int) < (cs1.length : Int) := by omega
      obtain ⟨g, o, e, rfl, he, x0, hg⟩ := hrow k hlt
      have x0 := (hb0.cell (p := ⟨g, o + k * 5, none⟩) hg).trans x0
      have HU : Hid (upsTo cs1 (k + 1) = upsTo cs1 k + (if e.up = true then 2 ^ k else 0)) := by
        show upsTo cs1 k + (if upB cs1 k = true then 2 ^ k else 0) = _
        rw [show upB cs1 k = e.up by simp [upB, he]]
      have h2 : (2 : Int) ^ k ≤ 8 := by
        have : k = 0 ∨ k = 1 ∨ k = 2 ∨ k = 3 := by omega
        rcases this with rfl | rfl | rfl | rfl <;> decide
      clear hrow
      cases hup : e.up
      · rw [hup] at x0
        go_wp2
        exact ⟨⟨k + 1, hlt, by go_num, by rw [HU.out, hup]; simp⟩, by simp [intOf]; omega⟩
      · rw [hup] at x0
        go_wp2
        exact ⟨⟨k + 1, hlt, by go_num, by rw [HU.out, hup]; rfl⟩, by simp [intOf]; omega⟩
    · have hlt' : ¬ (k : Int) < (cs1.length : Int) := by omega
      obtain rfl : k = cs1.length := by omega
      go_wp2
      go_ret
      exact ⟨rfl, hb0⟩
end Go.Proofs.YtnmmglkigiakaaaGreat
