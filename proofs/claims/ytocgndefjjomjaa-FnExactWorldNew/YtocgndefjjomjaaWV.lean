/- Worlds by value: what they hold; what compares and marks them, what asks whether they are held. -/
import Derived.Test.YtocgndefjjomjaaMI
import Derived.Test.YtocgndefjjomjaaGE
namespace Go.Proofs.Ytocgndefjjomjaa
set_option linter.unusedVariables false
set_option linter.unusedSimpArgs false
open Go.ChangeShapes Go.WideShapes Go.ChangeAt Go.RowKit

/-- a world: its time, its rows, the slices that hold these. -/
structure Wv where
  now : Int
  cs : List Cp
  ts : List Tk
  gs : List Gv
  x : Value
  y : Value
  z : Value
def wvC (u : Wv) : List Value := [.int .i64 u.now, u.x, u.y, u.z]
def wvV (u : Wv) : Value := .agg #[.int .i64 u.now, u.x, u.y, u.z]
/-- what a world's slices hold. -/
def SlW (W : World) (u : Wv) : Prop := SlCp W u.x u.cs ∧ SlTk W u.y u.ts ∧ SlG W u.z u.gs
theorem SlW.below {W W' : World} {u : Wv} (h : SlW W u) (hb : Below W.heap.size W W') : SlW W' u := ⟨h.1.below hb, h.2.1.below hb, h.2.2.below hb⟩
/-- two worlds tell the same. -/
structure SameW (u v : Wv) : Prop where
  now : v.now = u.now
  cs : v.cs = u.cs
  ts : v.ts = u.ts
  gs : gsD v.gs = gsD u.gs
theorem SameW.refl (u : Wv) : SameW u u := ⟨rfl, rfl, rfl, rfl⟩
theorem SameW.symm {u v : Wv} (h : SameW u v) : SameW v u := ⟨h.now.symm, h.cs.symm, h.ts.symm, h.gs.symm⟩
theorem SameW.trans {u v t : Wv} (h : SameW u v) (k : SameW v t) : SameW u t := ⟨k.now.trans h.now, k.cs.trans h.cs, k.ts.trans h.ts, k.gs.trans h.gs⟩
def blkW (u : Wv) : List Nat := u.x.ownBlock.toList ++ (u.y.ownBlock.toList ++ blksOf u.z u.gs)
/-- a world's rows lie in blocks of their own, not below B, no two in one. -/
def OwnW (B : Nat) (W : World) (u : Wv) : Prop := OwnCp B W u.x u.cs ∧ OwnTk B W u.y u.ts ∧ OwnG B W u.z u.gs ∧ (blkW u).Nodup
theorem OwnW.sl {B : Nat} {W : World} {u : Wv} (h : OwnW B W u) : SlW W u := ⟨h.1.sl, h.2.1.sl, h.2.2.1.sl⟩
theorem OwnW.kept {S : Nat → Prop} {B : Nat} {W W' : World} {u : Wv} (h : OwnW B W u) (hk : Kept S W W') (hn : ∀ g ∈ blkW u, ¬ S g) : OwnW B W' u :=
  ⟨h.1.kept hk (fun g hg => hn g (by simp [blkW, hg])), h.2.1.kept hk (fun g hg => hn g (by simp [blkW, hg])), h.2.2.1.kept hk (fun g hg => hn g (by simp [blkW, hg])), h.2.2.2⟩
theorem OwnW.below {B : Nat} {W W' : World} {u : Wv} (h : OwnW B W u) (hb : Below W.heap.size W W') : OwnW B W' u := h.kept (Kept.ofBelow hb) (fun _ _ hf => hf)
theorem OwnW.mono {B B' : Nat} {W : World} {u : Wv} (h : OwnW B W u) (hB : B' ≤ B) : OwnW B' W u := ⟨h.1.mono hB, h.2.1.mono hB, h.2.2.1.mono hB, h.2.2.2⟩
theorem OwnW.at {B : Nat} {W : World} {u : Wv} (h : OwnW B W u) : ∀ g ∈ blkW u, B ≤ g ∧ g < W.heap.size := by
  intro g hg
  simp only [blkW, List.mem_append, Option.mem_toList] at hg
  rcases hg with hg | hg | hg
  · exact h.1.at g hg
  · exact h.2.1.at g hg
  · exact h.2.2.1.at g hg
theorem apart_w {u : Wv} (h : (blkW u).Nodup) : (∀ g, u.x.ownBlock = some g → u.y.ownBlock ≠ some g) ∧ (∀ g, u.x.ownBlock = some g → g ∉ blksOf u.z u.gs) ∧ (∀ g, u.y.ownBlock = some g → g ∉ blksOf u.z u.gs) := by
  unfold blkW at h
  obtain ⟨_, h4, h5⟩ := List.nodup_append.1 h
  obtain ⟨_, _, h8⟩ := List.nodup_append.1 h4
  refine ⟨fun g h1 h2 => h5 g (by simp [h1]) g (by simp [h2]) rfl, fun g h1 h2 => h5 g (by simp [h1]) g (List.mem_append.2 (.inr h2)) rfl, fun g h1 h2 => h8 g (by simp [h1]) g h2 rfl⟩
/-- a world's rows are not too long. -/
def WFit (u : Wv) : Prop := u.cs.length ≤ 1048576 ∧ u.ts.length ≤ 1048576 ∧ GsFit u.gs
/-- the marks that a world takes. -/
def kW (k : Int) (u : Wv) : Int := kGs (k + 5 * u.cs.length + 9 * u.ts.length) u.gs
def mW (k : Int) (u : Wv) : Wv := ⟨u.now, mCp k u.cs.length, mTk (k + 5 * u.cs.length) u.ts.length, mGs (k + 5 * u.cs.length + 9 * u.ts.length) u.gs, u.x, u.y, u.z⟩
theorem kW_le (k : Int) (u : Wv) : k ≤ kW k u := by have := kGs_le (k + 5 * u.cs.length + 9 * u.ts.length) u.gs; unfold kW; omega
theorem kGs_same (k : Int) : ∀ {es es' : List Gv}, gsD es' = gsD es → kGs k es' = kGs k es := by
  intro es
  induction es generalizing k with
  | nil => intro es' h; cases es' with
    | nil => rfl
    | cons a b => simp [gsD] at h
  | cons e es ih => intro es' h; cases es' with
    | nil => simp [gsD] at h
    | cons a b =>
      simp only [gsD, List.map_cons, List.cons.injEq] at h
      show kGs (k + gwid a.d) b = kGs (k + gwid e.d) es
      rw [h.1]; exact ih _ h.2
theorem blkW_m (k : Int) (u : Wv) : blkW (mW k u) = blkW u := by
  show u.x.ownBlock.toList ++ (u.y.ownBlock.toList ++ (u.z.ownBlock.toList ++ blkGs (mGs _ u.gs))) = _
  rw [blkGs_m]; rfl
theorem wbox {w : World} {b : Nat} {c0 c1 c2 c3 : Value} {t : TypeId} (h : w.heap[b]? = some (.cells #[c0, c1, c2, c3] t (0, 0))) : w.cell? ⟨b, 0, none⟩ = some c0 ∧ w.cell? ⟨b, 1, none⟩ = some c1 ∧ w.cell? ⟨b, 2, none⟩ = some c2 ∧ w.cell? ⟨b, 3, none⟩ = some c3 := by
  have hr := range_of_block (cs := [c0, c1, c2, c3]) h
  refine ⟨by simpa using hr 0 _ rfl, by simpa using hr 1 _ rfl, by simpa using hr 2 _ rfl, by simpa using hr 3 _ rfl⟩
theorem Kept.block_of {S : Nat → Prop} {w w' : World} {b : Nat} {o : Obj} (h : Kept S w w') (hb : w.heap[b]? = some o) (hn : ¬ S b) : w'.heap[b]? = some o :=
  (h.block b (Array.getElem?_eq_some_iff.1 hb).1 hn).trans hb
theorem SlCp.form' {W : World} {x : Value} {xs : List Cp} (h : SlCp W x xs) : ∃ p c, x = .slice p xs.length c := by
  rcases h with ⟨h0, a, cap, h1⟩ | ⟨g, o, cap, h1, _⟩
  · exact ⟨a, cap, by rw [h0]; exact h1⟩
  · exact ⟨_, _, h1⟩
theorem SlTk.form' {W : World} {x : Value} {xs : List Tk} (h : SlTk W x xs) : ∃ p c, x = .slice p xs.length c := by
  rcases h with ⟨h0, a, cap, h1⟩ | ⟨g, o, cap, h1, _⟩
  · exact ⟨a, cap, by rw [h0]; exact h1⟩
  · exact ⟨_, _, h1⟩
theorem SlG.form' {W : World} {x : Value} {xs : List Gv} (h : SlG W x xs) : ∃ p c, x = .slice p xs.length c := by
  rcases h.1 with ⟨h0, a, cap, h1⟩ | ⟨g, o, cap, h1, _⟩
  · exact ⟨a, cap, by rw [h0]; exact h1⟩
  · exact ⟨_, _, h1⟩
theorem SlW.form {W : World} {u : Wv} (h : SlW W u) : (∃ p l c, u.x = .slice p l c) ∧ (∃ p l c, u.y = .slice p l c) ∧ (∃ p l c, u.z = .slice p l c) := by
  obtain ⟨a, b, h1⟩ := h.1.form'
  obtain ⟨c, d, h2⟩ := h.2.1.form'
  obtain ⟨e, f, h3⟩ := h.2.2.form'
  exact ⟨⟨_, _, _, h1⟩, ⟨_, _, _, h2⟩, ⟨_, _, _, h3⟩⟩
set_option maxHeartbeats 4000000 in
set_option maxRecDepth 20000 in
theorem eqWorld_same (u v : Wv) (w : World) (hu : SlW w u) (hv : SlW w v) (hd : SameW u v) :
    Calls Try.prog 6 #[wvV u, wvV v] w fun e w' => e = .returned (.bool true) ∧ Below w.heap.size w w' := by
  obtain ⟨n1, cs1, ts1, gs1, x1, y1, z1⟩ := u
  obtain ⟨n2, cs2, ts2, gs2, x2, y2, z2⟩ := v
  obtain ⟨rfl, rfl, rfl, hg⟩ := hd
  obtain ⟨⟨p1, l1, c1, e1⟩, ⟨p2, l2, c2, e2⟩, ⟨p3, l3, c3, e3⟩⟩ := hu.form
  obtain ⟨⟨q1, j1, d1, f1⟩, ⟨q2, j2, d2, f2⟩, ⟨q3, j3, d3, f3⟩⟩ := hv.form
  dsimp only at e1 e2 e3 f1 f2 f3 hg
  subst e1 e2 e3 f1 f2 f3
  unfold wvV
  dsimp only
  have hB : ∀ A B, Below w.heap.size w ((w.alloc A).alloc B) := fun A B => ((Below.refl _ _).alloc (Nat.le_refl _) _).alloc (by simp) _
  have hX := heap_alloc2_old w (.cells #[.int .i64 n2, .slice p1 l1 c1, .slice p2 l2 c2, .slice p3 l3 c3] 26 (0, 0)) (.cells #[.int .i64 n2, .slice q1 j1 d1, .slice q2 j2 d2, .slice q3 j3 d3] 26 (0, 0))
  have hY := heap_alloc2_new w (.cells #[.int .i64 n2, .slice p1 l1 c1, .slice p2 l2 c2, .slice p3 l3 c3] 26 (0, 0)) (.cells #[.int .i64 n2, .slice q1 j1 d1, .slice q2 j2 d2, .slice q3 j3 d3] 26 (0, 0))
  have hb0 := hB (.cells #[.int .i64 n2, .slice p1 l1 c1, .slice p2 l2 c2, .slice p3 l3 c3] 26 (0, 0)) (.cells #[.int .i64 n2, .slice q1 j1 d1, .slice q2 j2 d2, .slice q3 j3 d3] 26 (0, 0))
  go_enter Try.func6, Try.ntmps6
  go_wp2_with fail
  generalize ((w.alloc (.cells #[.int .i64 n2, .slice p1 l1 c1, .slice p2 l2 c2, .slice p3 l3 c3] 26 (0, 0))).alloc (.cells #[.int .i64 n2, .slice q1 j1 d1, .slice q2 j2 d2, .slice q3 j3 d3] 26 (0, 0))) = w1 at *
  refine (eqCpuS_same _ _ cs2 _ (hu.below hb0).1 (hv.below hb0).1).mono ?_
  rintro e w2 ⟨rfl, hb2⟩
  have hX2 := (Kept.ofBelow hb2).block_of hX (fun h => h)
  have hY2 := (Kept.ofBelow hb2).block_of hY (fun h => h)
  have b2 := hb0.trans (hb2.mono hb0.size)
  obtain ⟨s0, s1, s2, s3⟩ := wbox hX2
  obtain ⟨t0, t1, t2, t3⟩ := wbox hY2
  simp only []
  go_at_K
  go_wp2_with fail
  refine (eqTaskS_same _ _ ts2 _ (hu.below b2).2.1 (hv.below b2).2.1).mono ?_
  clear s0 s1 s2 s3 t0 t1 t2 t3
  rintro e w3 ⟨rfl, hb3⟩
  have hX3 := (Kept.ofBelow hb3).block_of hX2 (fun h => h)
  have hY3 := (Kept.ofBelow hb3).block_of hY2 (fun h => h)
  have b3 := b2.trans (hb3.mono b2.size)
  obtain ⟨s0, s1, s2, s3⟩ := wbox hX3
  obtain ⟨t0, t1, t2, t3⟩ := wbox hY3
  simp only []
  go_at_K
  go_wp2_with fail
  refine (eqGroupS_same _ _ gs1 gs2 _ (hu.below b3).2.2 (hv.below b3).2.2 hg).mono ?_
  clear s0 s1 s2 s3 t0 t1 t2 t3
  rintro e w4 ⟨rfl, hb4⟩
  simp only []
  go_at_K
  go_wp2_with fail
  go_ret
  exact ⟨rfl, b3.trans (hb4.mono b3.size)⟩
set_option maxHeartbeats 4000000 in
set_option maxRecDepth 20000 in
theorem markWorld_own (u : Wv) (B : Nat) (k0 : Int) (w : World) (hs : OwnW B w u) (hf : WFit u) (hk0 : 0 ≤ k0) (hk1 : kW k0 u ≤ 300000000) :
    Calls Try.prog 7 #[wvV u, .int .i64 k0] w fun e w' => e = .returned (.int .i64 (kW k0 u)) ∧ OwnW B w' (mW k0 u) ∧ Kept (fun g => g ∈ blkW u) w w' := by
  obtain ⟨n1, cs1, ts1, gs1, x1, y1, z1⟩ := u
  have hnd := hs.2.2.2
  obtain ⟨⟨p1, l1, c1, e1⟩, ⟨p2, l2, c2, e2⟩, ⟨p3, l3, c3, e3⟩⟩ := hs.sl.form
  obtain ⟨a1, a2, a3⟩ := apart_w hnd
  obtain ⟨f1, f2, f3⟩ := hf
  obtain ⟨o1, o2, o3, _⟩ := hs
  have HB : Hid (∀ k, blkW (mW k ⟨n1, cs1, ts1, gs1, x1, y1, z1⟩) = blkW ⟨n1, cs1, ts1, gs1, x1, y1, z1⟩) := fun k => blkW_m k _
  have HM : Hid (∀ g, g ∈ blkW ⟨n1, cs1, ts1, gs1, x1, y1, z1⟩ ↔ x1.ownBlock = some g ∨ y1.ownBlock = some g ∨ g ∈ blksOf z1 gs1) := by
    intro g; simp [blkW, List.mem_append]
  have HKD : Hid (kW k0 ⟨n1, cs1, ts1, gs1, x1, y1, z1⟩ = kGs (k0 + 5 * cs1.length + 9 * ts1.length) gs1) := rfl
  have hkl := kGs_le (k0 + 5 * cs1.length + 9 * ts1.length) gs1
  have hk2 : kGs (k0 + 5 * cs1.length + 9 * ts1.length) gs1 ≤ 300000000 := hk1
  clear hk1
  dsimp only at e1 e2 e3 a1 a2 a3 f1 f2 f3 o1 o2 o3
  have hb0 : Below w.heap.size w (w.alloc (.cells #[.int .i64 n1, x1, y1, z1] 26 (0, 0))) := (Below.refl _ _).alloc (Nat.le_refl _) _
  have hX : (w.alloc (.cells #[.int .i64 n1, x1, y1, z1] 26 (0, 0))).heap[w.heap.size]? = some (.cells #[.int .i64 n1, x1, y1, z1] 26 (0, 0)) := heap_alloc_new w _
  have r1 := o1.at
  have r2 := o2.at
  have r3 := o3.at
  replace o1 := o1.below hb0
  replace o2 := o2.below hb0
  replace o3 := o3.below hb0
  unfold wvV
  dsimp only
  subst e1 e2 e3
  go_enter Try.func7, Try.ntmps7
  go_wp2_with fail
  generalize (w.alloc (.cells #[.int .i64 n1, .slice p1 l1 c1, .slice p2 l2 c2, .slice p3 l3 c3] 26 (0, 0))) = w1 at *
  refine (markCpuS_own _ cs1 B k0 _ o1 f1 hk0 (by omega)).mono ?_
  rintro e w2 ⟨rfl, o1, gr⟩
  have k2 := Kept.ofGrown gr
  clear gr
  replace o2 := o2.kept k2 (fun g hg hh => a1 g hh hg)
  replace o3 := o3.kept k2 (fun g hg hh => a2 g hh hg)
  have hX2 := k2.block_of hX (fun hh => by have := (r1 _ hh).2; omega)
  obtain ⟨s0, s1, s2, s3⟩ := wbox hX2
  simp only []
  go_at_K
  go_wp2_with fail
  refine (markTaskS_own _ ts1 B (k0 + 5 * cs1.length) _ o2 f2 (by omega) (by omega)).mono ?_
  clear s0 s1 s2 s3
  rintro e w3 ⟨rfl, o2, gr⟩
  have k3 := Kept.ofGrown gr
  clear gr
  replace o1 := o1.kept k3 (fun g hg hh => a1 g hg hh)
  replace o3 := o3.kept k3 (fun g hg hh => a3 g hh hg)
  have hX3 := k3.block_of hX2 (fun hh => by have := (r2 _ hh).2; omega)
  obtain ⟨s0, s1, s2, s3⟩ := wbox hX3
  simp only []
  go_at_K
  go_wp2_with fail
  refine (markGroupS_own _ gs1 B (k0 + 5 * cs1.length + 9 * ts1.length) _ o3 f3 (by omega) hk2).mono ?_
  clear s0 s1 s2 s3
  rintro e w4 ⟨rfl, o3, k4⟩
  replace o1 := o1.kept k4 (fun g hg hh => a2 g hg hh)
  replace o2 := o2.kept k4 (fun g hg hh => a3 g hg hh)
  simp only []
  go_at_K
  go_wp2_with fail
  go_ret
  refine ⟨by rw [HKD.out]; rfl, ⟨o1, o2, o3, by rw [HB.out]; exact hnd⟩, ?_⟩
  have kk := (((Kept.ofBelow hb0).trans k2).trans k3).trans k4
  refine kk.mono ?_
  intro g hg
  rw [HM.out]
  rcases hg with ((hg | hg) | hg) | hg
  · exact hg.elim
  · exact .inl hg
  · exact .inr (.inl hg)
  · exact .inr (.inr hg)
set_option maxHeartbeats 4000000 in
set_option maxRecDepth 20000 in
theorem heldWorld_any (u : Wv) (k0 : Int) (w : World) (hs : SlW w (mW k0 u)) (hf : WFit u) (hk0 : 0 ≤ k0) (hk1 : kW k0 u ≤ 300000000) :
    Calls Try.prog 8 #[wvV u, .int .i64 k0] w fun e w' => e = .returned (.int .i64 (kW k0 u)) ∧ Below w.heap.size w w' := by
  obtain ⟨⟨p1, l1, c1, e1⟩, ⟨p2, l2, c2, e2⟩, ⟨p3, l3, c3, e3⟩⟩ := hs.form
  obtain ⟨n1, cs1, ts1, gs1, x1, y1, z1⟩ := u
  obtain ⟨f1, f2, f3⟩ := hf
  have HKD : Hid (kW k0 ⟨n1, cs1, ts1, gs1, x1, y1, z1⟩ = kGs (k0 + 5 * cs1.length + 9 * ts1.length) gs1) := rfl
  have hkl := kGs_le (k0 + 5 * cs1.length + 9 * ts1.length) gs1
  have hk2 : kGs (k0 + 5 * cs1.length + 9 * ts1.length) gs1 ≤ 300000000 := hk1
  obtain ⟨o1, o2, o3⟩ := hs
  clear hk1
  unfold mW at e1 e2 e3 o1 o2 o3
  dsimp only at e1 e2 e3 f1 f2 f3 o1 o2 o3
  subst e1 e2 e3
  have hb0 : Below w.heap.size w (w.alloc (.cells #[.int .i64 n1, .slice p1 l1 c1, .slice p2 l2 c2, .slice p3 l3 c3] 26 (0, 0))) := (Below.refl _ _).alloc (Nat.le_refl _) _
  have hX : (w.alloc (.cells #[.int .i64 n1, .slice p1 l1 c1, .slice p2 l2 c2, .slice p3 l3 c3] 26 (0, 0))).heap[w.heap.size]? = some (.cells #[.int .i64 n1, .slice p1 l1 c1, .slice p2 l2 c2, .slice p3 l3 c3] 26 (0, 0)) := heap_alloc_new w _
  have q1 : ¬ (k0 + 5 * (cs1.length : Int)) < 0 := by omega
  have q2 : ¬ (k0 + 5 * (cs1.length : Int) + 9 * (ts1.length : Int)) < 0 := by omega
  have q3 : ¬ kGs (k0 + 5 * cs1.length + 9 * ts1.length) gs1 < 0 := by omega
  unfold wvV
  dsimp only
  go_enter Try.func8, Try.ntmps8
  go_wp2_with fail
  generalize (w.alloc (.cells #[.int .i64 n1, .slice p1 l1 c1, .slice p2 l2 c2, .slice p3 l3 c3] 26 (0, 0))) = w1 at *
  refine (heldCpuS_any _ cs1.length k0 _ (o1.below hb0) f1 hk0 (by omega)).mono ?_
  rintro e w2 ⟨rfl, hb2⟩
  have hX2 := (Kept.ofBelow hb2).block_of hX (fun h => h)
  have b2 := hb0.trans (hb2.mono hb0.size)
  obtain ⟨s0, s1, s2, s3⟩ := wbox hX2
  simp only []
  go_at_K
  go_wp2_with fail
  refine (heldTaskS_any _ ts1.length (k0 + 5 * cs1.length) _ (o2.below b2) f2 (by omega) (by omega)).mono ?_
  clear s0 s1 s2 s3
  rintro e w3 ⟨rfl, hb3⟩
  have hX3 := (Kept.ofBelow hb3).block_of hX2 (fun h => h)
  have b3 := b2.trans (hb3.mono b2.size)
  obtain ⟨s0, s1, s2, s3⟩ := wbox hX3
  simp only []
  go_at_K
  go_wp2_with fail
  refine (heldGroupS_any _ gs1 (k0 + 5 * cs1.length + 9 * ts1.length) _ (o3.below b3) f3 (by omega) hk2).mono ?_
  clear s0 s1 s2 s3
  rintro e w4 ⟨rfl, hb4⟩
  simp only []
  go_at_K
  go_wp2_with fail
  go_ret
  exact ⟨by rw [HKD.out]; rfl, b3.trans (hb4.mono b3.size)⟩
end Go.Proofs.Ytocgndefjjomjaa
