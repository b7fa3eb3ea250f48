/- The specification: whether the current one is no further ahead than its stay. The specification: processors. What must hold of a world, as the specification asks it: plain functions, and what the first questions show. -/
import Derived.Test.YtnmmglkigiakaaaGreatC27
import Derived.Test.YtnmmglkigiakaaaGreatC24
import Derived.Test.YtnmmglkigiakaaaGreatC26
import Derived.Test.YtnmmglkigiakaaaGreatC29
namespace Go.Proofs.YtnmmglkigiakaaaGreat
set_option linter.unusedVariables false
set_option linter.unusedSimpArgs false
open Go.ChangeShapes Go.WideShapes Go.ChangeAt Go.RowKit Go.Shelf Go.Sort
attribute [local go_sem] Oper.semAt_some

/-- a group and its shelf, by the slice of all groups. -/
theorem AtW.at {V : World} {b : Nat} {u : Wv} (hA : AtW V b u) (h8 : u.gs.length = 8) {gr go n cap : Nat} (h3 : V.cell? ⟨b, 3, none⟩ = some (.slice (some ⟨gr, go, none⟩) n cap)) {j c : Nat} (hj : j < 8) (uj : usAt (gsD u.gs) j = true) (hok : ShOk (gsD u.gs) c) :
    ∃ yg yo l cp, V.cell? ⟨gr, go + j * 14 + 13, none⟩ = some (.slice (some ⟨yg, yo, none⟩) l cp) ∧ c < l ∧ l ≤ 9223372036854775807 ∧ V.rangeAt yg (yo + c * 5) (shC (shAt (gsD u.gs) j c)) ∧ V.cell? ⟨gr, go + j * 14 + 1, none⟩ = some (.int .i64 (paAt (gsD u.gs) j)) := by
  obtain ⟨eb, yg, yo, yc, heb, hpa, hy, hsb, hrb⟩ := hA.group (k := j) (by rw [h8]; exact hj) uj hok
  obtain ⟨gr2, go2, cap3, w4, hr2, hk2, _⟩ := hA.cellsG heb
  rw [h3] at w4
  simp only [Option.some.injEq, Value.slice.injEq, Addr.mk.injEq, and_true, true_and] at w4
  obtain ⟨⟨rfl, rfl⟩, rfl, rfl⟩ := w4
  obtain ⟨_, z1, _, _, _, _, _, _, _, _, _, _, _, z13⟩ := gv_cells hr2
  rw [hy] at z13
  exact ⟨yg, yo, _, yc, z13, (List.getElem?_eq_some_iff.1 hsb).1, (SlR.form (hA.sh heb)).choose_spec.choose_spec.2, hrb, by rw [← hpa]; exact z1⟩
def lowB (v f m : Int) : Bool := decide (wrap64 (v - f) ≤ m)
def lowG (ds : List Gr) (ran : Int) (c k : Nat) : Bool := lowB (shAt ds k c).v (shAt ds (paAt ds k).toNat c).fl (vstep ran (shAt ds k c).w)
def stayS (ds : List Gr) (c : Nat) (ran : Int) (t : Tk) (g : Nat) : Bool := lowB t.v (shAt ds g c).fl (vstep ran (wof t.ni)) && (outs ds g).all (lowG ds ran c)
set_option maxRecDepth 100000 in
set_option maxHeartbeats 32000000 in
theorem l8Stayed_any (c k g : Nat) (u : Wv) (x : Cp) (t : Tk) (w : World) (hs : SlW w u) (hF : Fit u) (hx : u.cs[c]? = some x) (hcur : x.cur = (k : Int)) (ht : u.ts[k]? = some t) (hg : t.gr = (g : Int)) (hg8 : g < 8) (hug : usAt (gsD u.gs) g = true) :
    Calls Tryz.prog 107 #[wvV u, .int .i64 (c : Int)] w fun e' w' => e' = .returned (.bool (stayS (gsD u.gs) c x.ran t g)) ∧ Below w.heap.size w w' := by
  have hc : c < u.cs.length := (List.getElem?_eq_some_iff.1 hx).1
  have H8 : Hid (u.gs.length = 8) := hF.g8
  have HO : Hid (ShOk (gsD u.gs) c) := hF.ok hc
  have htree := hF.tree
  obtain ⟨p1, l1, c1, p2, l2, c2, p3, l3, c3, e1, e2, e3, hv⟩ := wv_form hs
  rw [hv]
  obtain ⟨W1, hW1⟩ : ∃ W1, w.alloc (.cells #[.int .i64 u.now, .slice p1 l1 c1, .slice p2 l2 c2, .slice p3 l3 c3] 33) = W1 := ⟨_, rfl⟩
  obtain ⟨hA, acc0, hlt⟩ := boxed_w hs e1 e2 e3 hW1
  obtain ⟨o0, o1, o2, o3⟩ := hA.cells
  rw [e1] at o1
  rw [e2] at o2
  rw [e3] at o3
  obtain ⟨cg, co, ccap, w1, hcr, hck, hcl⟩ := hA.cellsC hx
  rw [o1] at w1
  simp only [Option.some.injEq, Value.slice.injEq] at w1
  obtain ⟨q1, q2, q3⟩ := w1
  subst q1 q2 q3
  obtain ⟨a0, a1, a2, a3, a4⟩ := cp_cells hcr
  obtain ⟨tg, to, tcap, w2, htr, htk, htl⟩ := hA.cellsT ht
  rw [o2] at w2
  simp only [Option.some.injEq, Value.slice.injEq] at w2
  obtain ⟨q1, q2, q3⟩ := w2
  subst q1 q2 q3
  obtain ⟨b0, b1, b2, b3, b4, b5, b6, b7, b8⟩ := tk_cells htr
  obtain ⟨gr, go, hq3⟩ : ∃ gr go, p3 = some ⟨gr, go, none⟩ := by
    obtain ⟨e0, he0, _⟩ := gs_get (vs := u.gs) (k := 0) (by rw [H8.out]; decide)
    obtain ⟨gr, go, cap, w3, _⟩ := hA.cellsG he0
    rw [o3] at w3
    simp only [Option.some.injEq, Value.slice.injEq] at w3
    exact ⟨gr, go, w3.1⟩
  have hn3 : l3 = 8 := by
    obtain ⟨e0, he0, _⟩ := gs_get (vs := u.gs) (k := 0) (by rw [H8.out]; decide)
    obtain ⟨gr, go, cap, w3, _⟩ := hA.cellsG he0
    rw [o3] at w3
    simp only [Option.some.injEq, Value.slice.injEq] at w3
    rw [w3.2.1, H8.out]
  subst hq3 hn3
  obtain ⟨up, cur, ran, bu, idl⟩ := x
  obtain ⟨st, grp, cpu, ni, ma, v, su, us, lo⟩ := t
  dsimp only at hcur hg a0 a1 a2 a3 a4 b0 b1 b2 b3 b4 b5 b6 b7 b8 ⊢
  subst hcur hg
  have lcg := block_lt_of_cell a0
  have ltg := block_lt_of_cell b0
  dsimp only at lcg ltg
  obtain ⟨W2, hW2⟩ : ∃ W2, W1.alloc (.cells #[.bool up, .int .i64 (k : Int), .int .i64 ran, .int .i64 bu, .int .i64 idl] 70) = W2 := ⟨_, rfl⟩
  have B2 : Below W1.heap.size W1 W2 := by rw [← hW2]; exact (Below.refl _ _).alloc (Nat.le_refl _) _
  have cb : W2.rangeAt W1.heap.size 0 [.bool up, .int .i64 (k : Int), .int .i64 ran, .int .i64 bu, .int .i64 idl] := range_of_block (by rw [← hW2]; exact World.alloc_heap_new W1 _)
  have lc2 : W1.heap.size < W2.heap.size := by rw [← hW2]; simp
  have m1 : W2.cell? ⟨W1.heap.size, 1, none⟩ = some (.int .i64 (k : Int)) := cb 1 _ rfl
  have m2 : W2.cell? ⟨W1.heap.size, 2, none⟩ = some (.int .i64 ran) := cb 2 _ rfl
  have lw2 : w.heap.size < W2.heap.size := Nat.lt_of_lt_of_le hlt B2.size
  have u2 := (B2.cell (p := ⟨w.heap.size, 2, none⟩) hlt).trans o2
  have u3 := (B2.cell (p := ⟨w.heap.size, 3, none⟩) hlt).trans o3
  replace b0 := (B2.cell (p := ⟨tg, to + k * 9, none⟩) ltg).trans b0
  replace b1 := (B2.cell (p := ⟨tg, to + k * 9 + 1, none⟩) ltg).trans b1
  replace b2 := (B2.cell (p := ⟨tg, to + k * 9 + 2, none⟩) ltg).trans b2
  replace b3 := (B2.cell (p := ⟨tg, to + k * 9 + 3, none⟩) ltg).trans b3
  replace b4 := (B2.cell (p := ⟨tg, to + k * 9 + 4, none⟩) ltg).trans b4
  replace b5 := (B2.cell (p := ⟨tg, to + k * 9 + 5, none⟩) ltg).trans b5
  replace b6 := (B2.cell (p := ⟨tg, to + k * 9 + 6, none⟩) ltg).trans b6
  replace b7 := (B2.cell (p := ⟨tg, to + k * 9 + 7, none⟩) ltg).trans b7
  replace b8 := (B2.cell (p := ⟨tg, to + k * 9 + 8, none⟩) ltg).trans b8
  obtain ⟨W3, hW3⟩ : ∃ W3, W2.alloc (.cells #[.int .i64 st, .int .i64 (g : Int), .int .i64 cpu, .int .i64 ni, .int .i64 ma, .int .i64 v, .int .i64 su, .int .i64 us, .int .i64 lo] 68) = W3 := ⟨_, rfl⟩
  obtain ⟨B3, l3, htb⟩ := boxed_task hW3
  have n1 : W3.cell? ⟨W2.heap.size, 1, none⟩ = some (.int .i64 (g : Int)) := htb 1 _ rfl
  have n3 : W3.cell? ⟨W2.heap.size, 3, none⟩ = some (.int .i64 ni) := htb 3 _ rfl
  have n5 : W3.cell? ⟨W2.heap.size, 5, none⟩ = some (.int .i64 v) := htb 5 _ rfl
  have m1' := (B3.cell (p := ⟨W1.heap.size, 1, none⟩) lc2).trans m1
  have m2' := (B3.cell (p := ⟨W1.heap.size, 2, none⟩) lc2).trans m2
  have t3 := (B3.cell (p := ⟨w.heap.size, 3, none⟩) lw2).trans u3
  have HA : Hid (AtW W3 w.heap.size u) := (hA.below B2).below B3
  have accA : Below w.heap.size w W2 := acc0.trans (B2.mono acc0.size)
  have acc : Below w.heap.size w W3 := accA.trans (B3.mono accA.size)
  obtain ⟨yg, yo, yl, yc, z13, hcy, hyl, hrb, _⟩ := HA.out.at H8.out t3 hg8 hug HO.out
  obtain ⟨f0, _⟩ := sh_cells hrb
  have lwW : w.heap.size < W3.heap.size := Nat.lt_of_lt_of_le lw2 B3.size
  have lcW : W1.heap.size < W3.heap.size := Nat.lt_of_lt_of_le lc2 B3.size
  have cE : ∀ d os, Calls Tryz.prog 72 #[.int .i64 ni] (grow (redrawn W3 d) os) fun e' w'' => e' = .returned (.int .i64 (wof ni)) ∧ ∃ p : Regrown, w'' = grow (redrawn W3 p.d) p.os := fun d os => Calls.regrown_of ((spec_wof ni _).mono fun e' w' h => ⟨h.1, h.2 ▸ Below.refl _ _⟩)
  have cV : ∀ d os, Calls Tryz.prog 137 #[.int .i64 ran, .int .i64 (wof ni)] (grow (redrawn W3 d) os) fun e' w'' => e' = .returned (.int .i64 (vstep ran (wof ni))) ∧ ∃ p : Regrown, w'' = grow (redrawn W3 p.d) p.os := fun d os => Calls.regrown_of ((spec_vstep ran (wof ni) _).mono fun e' w' h => ⟨h.1, h.2 ▸ Below.refl _ _⟩)
  have HR0 : Hid (stayS (gsD u.gs) c ran ⟨st, (g : Int), cpu, ni, ma, v, su, us, lo⟩ g = (lowB v (shAt (gsD u.gs) g c).fl (vstep ran (wof ni)) && (outs (gsD u.gs) g).all (lowG (gsD u.gs) ran c))) := rfl
  have kz := cell_regrown z13
  have kf := cell_regrown f0
  have k1 := cell_regrown n1
  have k3 := cell_regrown n3
  have k5 := cell_regrown n5
  have km := cell_regrown m2'
  have kt := cell_regrown t3
  clear hA hs hcr htr e1 e2 e3 hv cb htb hrb z13 f0 o0
  go_enter Tryz.func107, Tryz.ntmps107
  go_wp2
  refine wp_region_quiet_below (by kernel_rfl) (by kernel_rfl) ?_
  clear hW1 hW2 hW3
  by_cases hlow : wrap64 (v - (shAt (gsD u.gs) g c).fl) ≤ vstep ran (wof ni)
  · have hd : decide (vstep ran (wof ni) < wrap64 (v - (shAt (gsD u.gs) g c).fl)) = false := decide_eq_false (by omega)
    repeat (go_big_quiet_step (first | exact cE _ _ | exact cV _ _))
    refine wpQuiet_nil ?_
    rintro _ ⟨⟨dq, osq⟩, rfl⟩
    obtain ⟨V, hV⟩ : ∃ V, grow (redrawn W3 dq) osq = V := ⟨_, rfl⟩
    have hb1 : Below W3.heap.size W3 V := by rw [← hV]; exact below_regrown _ _ _
    rw [hV]
    clear hV cE cV kz kf k1 k3 k5 km kt
    have HR : Hid (stayS (gsD u.gs) c ran ⟨st, (g : Int), cpu, ni, ma, v, su, us, lo⟩ g = (outs (gsD u.gs) g).all (lowG (gsD u.gs) ran c)) := by
      unfold Hid; rw [HR0.out]; unfold lowB; rw [decide_eq_true hlow, Bool.true_and]
    replace n1 := (hb1.cell (p := ⟨W2.heap.size, 1, none⟩) l3).trans n1
    replace m2 := (hb1.cell (p := ⟨W1.heap.size, 2, none⟩) lcW).trans m2'
    replace t3 := (hb1.cell (p := ⟨w.heap.size, 3, none⟩) lwW).trans t3
    replace acc := acc.trans (hb1.mono acc.size)
    have HV : Hid (AtW V w.heap.size u) := HA.out.below hb1
    have lw : w.heap.size < V.heap.size := Nat.lt_of_lt_of_le lwW hb1.size
    have lc : W1.heap.size < V.heap.size := Nat.lt_of_lt_of_le lcW hb1.size
    clear hlow hd m1 m1' m2' b0 b1 b2 b3 b4 b5 b6 b7 b8 a0 a1 a2 a3 u2 u3 o1 o2 o3
    go_wp2
    go_loopw [7] (fun tt wr => ∃ j : Nat, j < 8 ∧ usAt (gsD u.gs) j = true ∧ tt = .int .i64 (j : Int) ∧ Below V.heap.size V wr ∧ (outs (gsD u.gs) g).all (lowG (gsD u.gs) ran c) = (outs (gsD u.gs) j).all (lowG (gsD u.gs) ran c)) (fun tt _ => (depB (gsD u.gs) (intOf tt)).toNat)
    case atStart => exact ⟨g, hg8, hug, rfl, Below.refl _ _, rfl⟩
    case round =>
      obtain ⟨j, hj, uj, rfl, hb, hx⟩ := hrel
      have b3 := (hb.cell (p := ⟨w.heap.size, 3, none⟩) lw).trans t3
      have bm := (hb.cell (p := ⟨W1.heap.size, 2, none⟩) lc).trans m2
      rcases tree_step htree hj uj with ⟨rfl, hd⟩ | ⟨hj0, j', hp, hj', uj', hd, hd', _⟩
      · have HX : Hid (stayS (gsD u.gs) c ran ⟨st, (g : Int), cpu, ni, ma, v, su, us, lo⟩ g = true) := by
          unfold Hid; rw [HR.out, hx, outs_root htree]; rfl
        clear hx hd
        go_wp2
        go_ret
        exact ⟨by rw [HX.out]; rfl, acc.trans (hb.mono acc.size)⟩
      · have hj0' : ¬ (j : Int) = 0 := by omega
        have HX : Hid (stayS (gsD u.gs) c ran ⟨st, (g : Int), cpu, ni, ma, v, su, us, lo⟩ g = (lowG (gsD u.gs) ran c j && (outs (gsD u.gs) j').all (lowG (gsD u.gs) ran c))) := by
          unfold Hid; rw [HR.out, hx, outs_step hj0 hp hd hd']; rfl
        have HY : Hid ((outs (gsD u.gs) g).all (lowG (gsD u.gs) ran c) = (lowG (gsD u.gs) ran c j && (outs (gsD u.gs) j').all (lowG (gsD u.gs) ran c))) := by rw [← HX.out]; exact HR.out.symm
        have HD : Hid (depB (gsD u.gs) (j : Int) = depB (gsD u.gs) (j' : Int) + 1 ∧ 0 ≤ depB (gsD u.gs) (j' : Int)) := ⟨hd, hd'⟩
        have HW : Hid (AtW wr w.heap.size u) := HV.out.below hb
        obtain ⟨sg, so, sl, sc, y13, hcs, hsl, hsr, y1⟩ := HW.out.at H8.out b3 hj uj HO.out
        obtain ⟨s0, s1, s2, s3, s4⟩ := sh_cells hsr
        rw [hp] at y1
        obtain ⟨s, hsE⟩ : ∃ s, shAt (gsD u.gs) j c = s := ⟨_, rfl⟩
        rw [hsE] at s0 s1 s2 s3 s4
        obtain ⟨sfl, son, sv, sw, ss⟩ := s
        dsimp only at s0 s1 s2 s3 s4
        obtain ⟨wr2, hwr2⟩ : ∃ X, wr.alloc (.cells #[.int .i64 sfl, .bool son, .int .i64 sv, .int .i64 sw, .int .i64 ss] 121) = X := ⟨_, rfl⟩
        have Bs : Below wr.heap.size wr wr2 := by rw [← hwr2]; exact (Below.refl _ _).alloc (Nat.le_refl _) _
        have hsb : wr2.rangeAt wr.heap.size 0 [.int .i64 sfl, .bool son, .int .i64 sv, .int .i64 sw, .int .i64 ss] := range_of_block (by rw [← hwr2]; exact World.alloc_heap_new wr _)
        have q2 : wr2.cell? ⟨wr.heap.size, 2, none⟩ = some (.int .i64 sv) := hsb 2 _ rfl
        have q3 : wr2.cell? ⟨wr.heap.size, 3, none⟩ = some (.int .i64 sw) := hsb 3 _ rfl
        have lwr : w.heap.size < wr.heap.size := Nat.lt_of_lt_of_le lw hb.size
        have lcr : W1.heap.size < wr.heap.size := Nat.lt_of_lt_of_le lc hb.size
        have r3 := (Bs.cell (p := ⟨w.heap.size, 3, none⟩) lwr).trans b3
        have rm := (Bs.cell (p := ⟨W1.heap.size, 2, none⟩) lcr).trans bm
        have lgr := block_lt_of_cell y1
        dsimp only at lgr
        have r1 := (Bs.cell (p := ⟨gr, go + j * 14 + 1, none⟩) lgr).trans y1
        have HW2 : Hid (AtW wr2 w.heap.size u) := HW.out.below Bs
        obtain ⟨pg, po, pl, pc, w13, hcp, hpl, hpr, _⟩ := HW2.out.at H8.out r3 hj' uj' HO.out
        obtain ⟨f0, _⟩ := sh_cells hpr
        have hb2 : Below V.heap.size V wr2 := hb.trans (Bs.mono hb.size)
        have HL : Hid (lowG (gsD u.gs) ran c j = lowB sv (shAt (gsD u.gs) j' c).fl (vstep ran sw)) := by unfold Hid lowG; rw [hp, Int.toNat_natCast, hsE]
        have cV : ∀ d os, Calls Tryz.prog 137 #[.int .i64 ran, .int .i64 sw] (grow (redrawn wr2 d) os) fun e' w'' => e' = .returned (.int .i64 (vstep ran sw)) ∧ ∃ p : Regrown, w'' = grow (redrawn wr2 p.d) p.os := fun d os => Calls.regrown_of ((spec_vstep ran sw _).mono fun e' w' h => ⟨h.1, h.2 ▸ Below.refl _ _⟩)
        have k1 := cell_regrown q2
        have k2 := cell_regrown q3
        have k3 := cell_regrown r3
        have k4 := cell_regrown rm
        have k5 := cell_regrown r1
        have k6 := cell_regrown w13
        have k7 := cell_regrown f0
        clear hx hd hd' hp hsE hsr hsb hpr q2 q3 rm f0 w13
        go_wp2
        refine wp_region_quiet_below (by kernel_rfl) (by kernel_rfl) ?_
        clear hwr2
        by_cases hlow : wrap64 (sv - (shAt (gsD u.gs) j' c).fl) ≤ vstep ran sw
        · have hdd : decide (vstep ran sw < wrap64 (sv - (shAt (gsD u.gs) j' c).fl)) = false := decide_eq_false (by omega)
          have HL2 : Hid (lowG (gsD u.gs) ran c j = true) := by unfold Hid; rw [HL.out]; unfold lowB; exact decide_eq_true hlow
          repeat (go_big_quiet_step (exact cV _ _))
          refine wpQuiet_nil ?_
          rintro _ ⟨⟨dq2, osq2⟩, rfl⟩
          have hb3 := hb2.trans ((below_regrown wr2 dq2 osq2).mono hb2.size)
          clear cV k1 k2 k4 k6 k7
          go_wp2
          refine ⟨⟨j', hj', uj', rfl, hb3, by rw [HY.out, HL2.out, Bool.true_and]⟩, ?_⟩
          have := HD.out
          simp only [intOf]; omega
        · have hdd : decide (vstep ran sw < wrap64 (sv - (shAt (gsD u.gs) j' c).fl)) = true := decide_eq_true (by omega)
          have HL2 : Hid (lowG (gsD u.gs) ran c j = false) := by unfold Hid; rw [HL.out]; unfold lowB; exact decide_eq_false hlow
          repeat (go_big_quiet_step (exact cV _ _))
          refine wpQuiet_nil ?_
          rintro _ ⟨⟨dq2, osq2⟩, rfl⟩
          have hb3 := hb2.trans ((below_regrown wr2 dq2 osq2).mono hb2.size)
          clear cV k1 k2 k3 k4 k5 k6 k7
          go_wp2
          go_ret
          exact ⟨by rw [HX.out, HL2.out]; rfl, acc.trans (hb3.mono acc.size)⟩
  · have hd : decide (vstep ran (wof ni) < wrap64 (v - (shAt (gsD u.gs) g c).fl)) = true := decide_eq_true (by omega)
    have HR : Hid (stayS (gsD u.gs) c ran ⟨st, (g : Int), cpu, ni, ma, v, su, us, lo⟩ g = false) := by
      unfold Hid; rw [HR0.out]; unfold lowB; rw [decide_eq_false hlow, Bool.false_and]
    repeat (go_big_quiet_step (first | exact cE _ _ | exact cV _ _))
    refine wpQuiet_nil ?_
    rintro _ ⟨⟨dq, osq⟩, rfl⟩
    clear cE cV kz kf k1 k3 k5 km kt
    go_wp2
    go_ret
    exact ⟨by rw [HR.out]; rfl, acc.trans ((below_regrown W3 dq osq).mono acc.size)⟩
end Go.Proofs.YtnmmglkigiakaaaGreat
namespace Go.Proofs.YtnmmglkigiakaaaGreat
set_option linter.unusedVariables false
set_option linter.unusedSimpArgs false
open Go.ChangeShapes Go.WideShapes Go.ChangeAt Go.RowKit Go.Shelf Go.Sort
attribute [local go_sem] Oper.semAt_some

/-- the group of every task is one that there is. -/
def TGr (u : Wv) : Prop := ∀ (k : Nat) (t : Tk), u.ts[k]? = some t → ∃ g : Nat, t.gr = (g : Int) ∧ g < 8 ∧ usAt (gsD u.gs) g = true
def cpuSB (u : Wv) (c : Nat) (x : Cp) : Bool :=
  timeB x.busy && (timeB x.idle && (l1in x.cur (-1) 11 && (if x.cur = -1 then decide (x.ran = 0) else x.up && (l1in x.ran 1 149 && (u.ts[x.cur.toNat]?).any (fun t => decide (t.cpu = (c : Int)) && (inlineB (gsD u.gs) t.st t.gr.toNat c && stayS (gsD u.gs) c x.ran t t.gr.toNat))))))
set_option maxRecDepth 100000 in
set_option maxHeartbeats 32000000 in
theorem specCpu_out (c : Nat) (u : Wv) (x : Cp) (w : World) (hs : SlW w u) (hF : Fit u) (hx : u.cs[c]? = some x) (hcur : l1in x.cur (-1) 11 = false) :
    Calls Tryz.prog 67 #[wvV u, .int .i64 (c : Int)] w fun e' w' => e' = .returned (.bool (cpuSB u c x)) ∧ Below w.heap.size w w' := by
  have hc : c < u.cs.length := (List.getElem?_eq_some_iff.1 hx).1
  have HX : Hid (u.cs[c]? = some x) := hx
  have hnt := hF.nt
  obtain ⟨p1, l1, c1, p2, l2, c2, p3, l3, c3, e1, e2, e3, hv⟩ := wv_form hs
  have HV : Hid (wvV u = .agg #[.int .i64 u.now, .slice p1 l1 c1, .slice p2 l2 c2, .slice p3 l3 c3]) := hv
  rw [hv]
  obtain ⟨W1, hW1⟩ : ∃ W1, w.alloc (.cells #[.int .i64 u.now, .slice p1 l1 c1, .slice p2 l2 c2, .slice p3 l3 c3] 33) = W1 := ⟨_, rfl⟩
  obtain ⟨hA, acc0, hlt⟩ := boxed_w hs e1 e2 e3 hW1
  obtain ⟨o0, o1, o2, o3⟩ := hA.cells
  rw [e1] at o1
  rw [e2] at o2
  rw [e3] at o3
  obtain ⟨cg, co, ccap, w1, hcr, hck, hcl⟩ := hA.cellsC hx
  rw [o1] at w1
  simp only [Option.some.injEq, Value.slice.injEq] at w1
  obtain ⟨q1, q2, q3⟩ := w1
  subst q1 q2 q3
  obtain ⟨a0, a1, a2, a3, a4⟩ := cp_cells hcr
  obtain ⟨k2, m2, f2, hlt2⟩ := SlR.form hs.2.1
  rw [e2] at f2
  simp only [Value.slice.injEq] at f2
  obtain ⟨r1, r2, r3⟩ := f2
  rw [hnt] at r2
  subst r1 r2 r3
  have HS : Hid (SlW w u) := hs
  have HA : Hid (AtW W1 w.heap.size u) := hA
  obtain ⟨up, cur, ran, bu, idl⟩ := x
  dsimp only at hcur a0 a1 a2 a3 a4 ⊢
  obtain ⟨W2, hW2⟩ : ∃ W2, W1.alloc (.cells #[.bool up, .int .i64 cur, .int .i64 ran, .int .i64 bu, .int .i64 idl] 70) = W2 := ⟨_, rfl⟩
  have B2 : Below W1.heap.size W1 W2 := by rw [← hW2]; exact (Below.refl _ _).alloc (Nat.le_refl _) _
  have cb : W2.rangeAt W1.heap.size 0 [.bool up, .int .i64 cur, .int .i64 ran, .int .i64 bu, .int .i64 idl] := range_of_block (by rw [← hW2]; exact World.alloc_heap_new W1 _)
  have lc : W1.heap.size < W2.heap.size := by rw [← hW2]; simp
  have m0 : W2.cell? ⟨W1.heap.size, 0, none⟩ = some (.bool up) := cb 0 _ rfl
  have m1 : W2.cell? ⟨W1.heap.size, 1, none⟩ = some (.int .i64 cur) := cb 1 _ rfl
  have m2 : W2.cell? ⟨W1.heap.size, 2, none⟩ = some (.int .i64 ran) := cb 2 _ rfl
  have m3 : W2.cell? ⟨W1.heap.size, 3, none⟩ = some (.int .i64 bu) := cb 3 _ rfl
  have m4 : W2.cell? ⟨W1.heap.size, 4, none⟩ = some (.int .i64 idl) := cb 4 _ rfl
  have lw : w.heap.size < W2.heap.size := Nat.lt_of_lt_of_le hlt B2.size
  have t0 := (B2.cell (p := ⟨w.heap.size, 0, none⟩) hlt).trans o0
  have t1 := (B2.cell (p := ⟨w.heap.size, 1, none⟩) hlt).trans o1
  have t2 := (B2.cell (p := ⟨w.heap.size, 2, none⟩) hlt).trans o2
  have t3 := (B2.cell (p := ⟨w.heap.size, 3, none⟩) hlt).trans o3
  have acc : Below w.heap.size w W2 := acc0.trans (B2.mono acc0.size)
  clear hA hs hcr e1 e2 e3 hv cb
  cases h0 : l1in bu 0 100000000000000000
  · have HR : Hid (cpuSB u c ⟨up, cur, ran, bu, idl⟩ = false) := by unfold Hid; simp [cpuSB, timeB, hcur, h0]
    go_enter Tryz.func67, Tryz.ntmps67
    go_wp2_with (first | (go_at_call 101; refine (l4Time_any _ _).mono ?_; rintro e1 w1 ⟨rfl, hw1⟩; subst w1) | (go_at_call 33; refine (l1In_any _ _ _ _).mono ?_; rintro e1 w1 ⟨rfl, hw1⟩; subst w1))
    go_ret
    refine ⟨?_, acc⟩
    first | exact ret_bool HR.out.symm | (rw [HR.out]; simp [h0]; done) | (rw [HR.out]; simp [h0]; omega)
  · cases h1 : l1in idl 0 100000000000000000
    · have HR : Hid (cpuSB u c ⟨up, cur, ran, bu, idl⟩ = false) := by unfold Hid; simp [cpuSB, timeB, hcur, h0, h1]
      go_enter Tryz.func67, Tryz.ntmps67
      go_wp2_with (first | (go_at_call 101; refine (l4Time_any _ _).mono ?_; rintro e1 w1 ⟨rfl, hw1⟩; subst w1) | (go_at_call 33; refine (l1In_any _ _ _ _).mono ?_; rintro e1 w1 ⟨rfl, hw1⟩; subst w1))
      go_ret
      refine ⟨?_, acc⟩
      first | exact ret_bool HR.out.symm | (rw [HR.out]; simp [h0, h1]; done) | (rw [HR.out]; simp [h0, h1]; omega)
    · have HR : Hid (cpuSB u c ⟨up, cur, ran, bu, idl⟩ = false) := by unfold Hid; simp [cpuSB, timeB, hcur, h0, h1]
      go_enter Tryz.func67, Tryz.ntmps67
      go_wp2_with (first | (go_at_call 101; refine (l4Time_any _ _).mono ?_; rintro e1 w1 ⟨rfl, hw1⟩; subst w1) | (go_at_call 33; refine (l1In_any _ _ _ _).mono ?_; rintro e1 w1 ⟨rfl, hw1⟩; subst w1))
      go_ret
      refine ⟨?_, acc⟩
      first | exact ret_bool HR.out.symm | (rw [HR.out]; simp [h0, h1]; done) | (rw [HR.out]; simp [h0, h1]; omega)
set_option maxRecDepth 100000 in
set_option maxHeartbeats 32000000 in
theorem specCpu_none (c : Nat) (u : Wv) (x : Cp) (w : World) (hs : SlW w u) (hF : Fit u) (hx : u.cs[c]? = some x) (hcur : x.cur = -1) :
    Calls Tryz.prog 67 #[wvV u, .int .i64 (c : Int)] w fun e' w' => e' = .returned (.bool (cpuSB u c x)) ∧ Below w.heap.size w w' := by
  have hc : c < u.cs.length := (List.getElem?_eq_some_iff.1 hx).1
  have HX : Hid (u.cs[c]? = some x) := hx
  have hnt := hF.nt
  obtain ⟨p1, l1, c1, p2, l2, c2, p3, l3, c3, e1, e2, e3, hv⟩ := wv_form hs
  have HV : Hid (wvV u = .agg #[.int .i64 u.now, .slice p1 l1 c1, .slice p2 l2 c2, .slice p3 l3 c3]) := hv
  rw [hv]
  obtain ⟨W1, hW1⟩ : ∃ W1, w.alloc (.cells #[.int .i64 u.now, .slice p1 l1 c1, .slice p2 l2 c2, .slice p3 l3 c3] 33) = W1 := ⟨_, rfl⟩
  obtain ⟨hA, acc0, hlt⟩ := boxed_w hs e1 e2 e3 hW1
  obtain ⟨o0, o1, o2, o3⟩ := hA.cells
  rw [e1] at o1
  rw [e2] at o2
  rw [e3] at o3
  obtain ⟨cg, co, ccap, w1, hcr, hck, hcl⟩ := hA.cellsC hx
  rw [o1] at w1
  simp only [Option.some.injEq, Value.slice.injEq] at w1
  obtain ⟨q1, q2, q3⟩ := w1
  subst q1 q2 q3
  obtain ⟨a0, a1, a2, a3, a4⟩ := cp_cells hcr
  obtain ⟨k2, m2, f2, hlt2⟩ := SlR.form hs.2.1
  rw [e2] at f2
  simp only [Value.slice.injEq] at f2
  obtain ⟨r1, r2, r3⟩ := f2
  rw [hnt] at r2
  subst r1 r2 r3
  have HS : Hid (SlW w u) := hs
  have HA : Hid (AtW W1 w.heap.size u) := hA
  obtain ⟨up, cur, ran, bu, idl⟩ := x
  dsimp only at hcur a0 a1 a2 a3 a4 ⊢
  subst hcur
  have hr : l1in (-1) (-1) 11 = true := rfl
  obtain ⟨W2, hW2⟩ : ∃ W2, W1.alloc (.cells #[.bool up, .int .i64 (-1), .int .i64 ran, .int .i64 bu, .int .i64 idl] 70) = W2 := ⟨_, rfl⟩
  have B2 : Below W1.heap.size W1 W2 := by rw [← hW2]; exact (Below.refl _ _).alloc (Nat.le_refl _) _
  have cb : W2.rangeAt W1.heap.size 0 [.bool up, .int .i64 (-1), .int .i64 ran, .int .i64 bu, .int .i64 idl] := range_of_block (by rw [← hW2]; exact World.alloc_heap_new W1 _)
  have lc : W1.heap.size < W2.heap.size := by rw [← hW2]; simp
  have m0 : W2.cell? ⟨W1.heap.size, 0, none⟩ = some (.bool up) := cb 0 _ rfl
  have m1 : W2.cell? ⟨W1.heap.size, 1, none⟩ = some (.int .i64 (-1)) := cb 1 _ rfl
  have m2 : W2.cell? ⟨W1.heap.size, 2, none⟩ = some (.int .i64 ran) := cb 2 _ rfl
  have m3 : W2.cell? ⟨W1.heap.size, 3, none⟩ = some (.int .i64 bu) := cb 3 _ rfl
  have m4 : W2.cell? ⟨W1.heap.size, 4, none⟩ = some (.int .i64 idl) := cb 4 _ rfl
  have lw : w.heap.size < W2.heap.size := Nat.lt_of_lt_of_le hlt B2.size
  have t0 := (B2.cell (p := ⟨w.heap.size, 0, none⟩) hlt).trans o0
  have t1 := (B2.cell (p := ⟨w.heap.size, 1, none⟩) hlt).trans o1
  have t2 := (B2.cell (p := ⟨w.heap.size, 2, none⟩) hlt).trans o2
  have t3 := (B2.cell (p := ⟨w.heap.size, 3, none⟩) hlt).trans o3
  have acc : Below w.heap.size w W2 := acc0.trans (B2.mono acc0.size)
  clear hA hs hcr e1 e2 e3 hv cb
  cases h0 : l1in bu 0 100000000000000000
  · have HR : Hid (cpuSB u c ⟨up, -1, ran, bu, idl⟩ = false) := by unfold Hid; simp [cpuSB, timeB, hr, h0]
    go_enter Tryz.func67, Tryz.ntmps67
    go_wp2_with (first | (go_at_call 101; refine (l4Time_any _ _).mono ?_; rintro e1 w1 ⟨rfl, hw1⟩; subst w1) | (go_at_call 33; refine (l1In_any _ _ _ _).mono ?_; rintro e1 w1 ⟨rfl, hw1⟩; subst w1))
    go_ret
    refine ⟨?_, acc⟩
    first | exact ret_bool HR.out.symm | (rw [HR.out]; simp [h0]; done) | (rw [HR.out]; simp [h0]; omega)
  · cases h1 : l1in idl 0 100000000000000000
    · have HR : Hid (cpuSB u c ⟨up, -1, ran, bu, idl⟩ = false) := by unfold Hid; simp [cpuSB, timeB, hr, h0, h1]
      go_enter Tryz.func67, Tryz.ntmps67
      go_wp2_with (first | (go_at_call 101; refine (l4Time_any _ _).mono ?_; rintro e1 w1 ⟨rfl, hw1⟩; subst w1) | (go_at_call 33; refine (l1In_any _ _ _ _).mono ?_; rintro e1 w1 ⟨rfl, hw1⟩; subst w1))
      go_ret
      refine ⟨?_, acc⟩
      first | exact ret_bool HR.out.symm | (rw [HR.out]; simp [h0, h1]; done) | (rw [HR.out]; simp [h0, h1]; omega)
    · by_cases h2 : ran = 0
      · subst h2
        have HR : Hid (cpuSB u c ⟨up, -1, 0, bu, idl⟩ = true) := by unfold Hid; simp [cpuSB, timeB, hr, h0, h1]
        go_enter Tryz.func67, Tryz.ntmps67
        go_wp2_with (first | (go_at_call 101; refine (l4Time_any _ _).mono ?_; rintro e1 w1 ⟨rfl, hw1⟩; subst w1) | (go_at_call 33; refine (l1In_any _ _ _ _).mono ?_; rintro e1 w1 ⟨rfl, hw1⟩; subst w1))
        go_ret
        refine ⟨?_, acc⟩
        first | exact ret_bool HR.out.symm | (rw [HR.out]; simp [h0, h1]; done) | (rw [HR.out]; simp [h0, h1]; omega)
      · have HR : Hid (cpuSB u c ⟨up, -1, ran, bu, idl⟩ = false) := by unfold Hid; simp [cpuSB, timeB, hr, h0, h1, h2]
        go_enter Tryz.func67, Tryz.ntmps67
        go_wp2_with (first | (go_at_call 101; refine (l4Time_any _ _).mono ?_; rintro e1 w1 ⟨rfl, hw1⟩; subst w1) | (go_at_call 33; refine (l1In_any _ _ _ _).mono ?_; rintro e1 w1 ⟨rfl, hw1⟩; subst w1))
        go_ret
        refine ⟨?_, acc⟩
        first | exact ret_bool HR.out.symm | (rw [HR.out]; simp [h0, h1, h2]; done) | (rw [HR.out]; simp [h0, h1, h2]; omega)
set_option maxRecDepth 100000 in
set_option maxHeartbeats 32000000 in
theorem specCpu_else (c : Nat) (u : Wv) (x : Cp) (w : World) (hs : SlW w u) (hF : Fit u) (hx : u.cs[c]? = some x) (k : Nat) (t : Tk) (hcur : x.cur = (k : Int)) (hk : k < 12) (ht : u.ts[k]? = some t) (hT : TGr u) (hcp : ¬ t.cpu = (c : Int)) :
    Calls Tryz.prog 67 #[wvV u, .int .i64 (c : Int)] w fun e' w' => e' = .returned (.bool (cpuSB u c x)) ∧ Below w.heap.size w w' := by
  have hc : c < u.cs.length := (List.getElem?_eq_some_iff.1 hx).1
  have HX : Hid (u.cs[c]? = some x) := hx
  have hnt := hF.nt
  obtain ⟨p1, l1, c1, p2, l2, c2, p3, l3, c3, e1, e2, e3, hv⟩ := wv_form hs
  have HV : Hid (wvV u = .agg #[.int .i64 u.now, .slice p1 l1 c1, .slice p2 l2 c2, .slice p3 l3 c3]) := hv
  rw [hv]
  obtain ⟨W1, hW1⟩ : ∃ W1, w.alloc (.cells #[.int .i64 u.now, .slice p1 l1 c1, .slice p2 l2 c2, .slice p3 l3 c3] 33) = W1 := ⟨_, rfl⟩
  obtain ⟨hA, acc0, hlt⟩ := boxed_w hs e1 e2 e3 hW1
  obtain ⟨o0, o1, o2, o3⟩ := hA.cells
  rw [e1] at o1
  rw [e2] at o2
  rw [e3] at o3
  obtain ⟨cg, co, ccap, w1, hcr, hck, hcl⟩ := hA.cellsC hx
  rw [o1] at w1
  simp only [Option.some.injEq, Value.slice.injEq] at w1
  obtain ⟨q1, q2, q3⟩ := w1
  subst q1 q2 q3
  obtain ⟨a0, a1, a2, a3, a4⟩ := cp_cells hcr
  obtain ⟨k2, m2, f2, hlt2⟩ := SlR.form hs.2.1
  rw [e2] at f2
  simp only [Value.slice.injEq] at f2
  obtain ⟨r1, r2, r3⟩ := f2
  rw [hnt] at r2
  subst r1 r2 r3
  have HS : Hid (SlW w u) := hs
  have HA : Hid (AtW W1 w.heap.size u) := hA
  obtain ⟨up, cur, ran, bu, idl⟩ := x
  dsimp only at hcur a0 a1 a2 a3 a4 ⊢
  subst hcur
  have hr : l1in (k : Int) (-1) 11 = true := l1in_iff.2 ⟨by omega, by omega⟩
  have hr2 : ¬ (k : Int) = -1 := by omega
  have hr3 : ¬ (k : Int) < 0 := by omega
  obtain ⟨tg, to, tcap, w2, htr, htk, htl⟩ := HA.out.cellsT ht
  rw [o2] at w2
  simp only [Option.some.injEq, Value.slice.injEq] at w2
  obtain ⟨q1, q2, q3⟩ := w2
  clear q2
  subst q1 q3
  obtain ⟨_, _, b2, _⟩ := tk_cells htr
  have lbt := block_lt_of_cell b2
  obtain ⟨g, hg, hg8, hug⟩ := hT k t ht
  obtain ⟨il, hil⟩ : ∃ b, inlineB (gsD u.gs) t.st g c = b := ⟨_, rfl⟩
  obtain ⟨sy, hsy⟩ : ∃ b, stayS (gsD u.gs) c ran t g = b := ⟨_, rfl⟩
  have HR1 : Hid (cpuSB u c ⟨up, (k : Int), ran, bu, idl⟩ = (l1in bu 0 100000000000000000 && (l1in idl 0 100000000000000000 && (up && (l1in ran 1 149 && (decide (t.cpu = (c : Int)) && (il && sy))))))) := by
    unfold Hid cpuSB timeB; dsimp only; rw [hr, if_neg hr2, Int.toNat_natCast, ht]; simp only [Option.any_some, Bool.true_and]; rw [hg, Int.toNat_natCast, hil, hsy]
  have hSt : ∀ W, SlW W u → Calls Tryz.prog 107 #[wvV u, .int .i64 (c : Int)] W fun e' w' => e' = .returned (.bool sy) ∧ Below W.heap.size W w' := fun W h => by
    have h0 := l8Stayed_any c k g u _ t W h hF HX.out rfl ht hg hg8 hug
    rw [hsy] at h0
    exact h0
  rw [HV.out] at hSt
  obtain ⟨W2, hW2⟩ : ∃ W2, W1.alloc (.cells #[.bool up, .int .i64 (k : Int), .int .i64 ran, .int .i64 bu, .int .i64 idl] 70) = W2 := ⟨_, rfl⟩
  have B2 : Below W1.heap.size W1 W2 := by rw [← hW2]; exact (Below.refl _ _).alloc (Nat.le_refl _) _
  have cb : W2.rangeAt W1.heap.size 0 [.bool up, .int .i64 (k : Int), .int .i64 ran, .int .i64 bu, .int .i64 idl] := range_of_block (by rw [← hW2]; exact World.alloc_heap_new W1 _)
  have lc : W1.heap.size < W2.heap.size := by rw [← hW2]; simp
  have m0 : W2.cell? ⟨W1.heap.size, 0, none⟩ = some (.bool up) := cb 0 _ rfl
  have m1 : W2.cell? ⟨W1.heap.size, 1, none⟩ = some (.int .i64 (k : Int)) := cb 1 _ rfl
  have m2 : W2.cell? ⟨W1.heap.size, 2, none⟩ = some (.int .i64 ran) := cb 2 _ rfl
  have m3 : W2.cell? ⟨W1.heap.size, 3, none⟩ = some (.int .i64 bu) := cb 3 _ rfl
  have m4 : W2.cell? ⟨W1.heap.size, 4, none⟩ = some (.int .i64 idl) := cb 4 _ rfl
  have lw : w.heap.size < W2.heap.size := Nat.lt_of_lt_of_le hlt B2.size
  have t0 := (B2.cell (p := ⟨w.heap.size, 0, none⟩) hlt).trans o0
  have t1 := (B2.cell (p := ⟨w.heap.size, 1, none⟩) hlt).trans o1
  have t2 := (B2.cell (p := ⟨w.heap.size, 2, none⟩) hlt).trans o2
  have t3 := (B2.cell (p := ⟨w.heap.size, 3, none⟩) hlt).trans o3
  have acc : Below w.heap.size w W2 := acc0.trans (B2.mono acc0.size)
  clear hA hs hcr e1 e2 e3 hv cb
  replace b2 := (B2.cell (p := ⟨tg, to + k * 9 + 2, none⟩) lbt).trans b2
  clear htr
  have hcq : (t.cpu == (c : Int)) = false := by simpa using hcp
  have HRq : Hid (cpuSB u c ⟨up, (k : Int), ran, bu, idl⟩ = false) := by unfold Hid; rw [HR1.out, decide_eq_false hcp]; simp
  clear ht hil hsy hSt
  cases h0 : l1in bu 0 100000000000000000
  · have HR : Hid (cpuSB u c ⟨up, (k : Int), ran, bu, idl⟩ = false) := by unfold Hid; simp [HRq.out, h0]
    go_enter Tryz.func67, Tryz.ntmps67
    go_wp2_with (first | (go_at_call 101; refine (l4Time_any _ _).mono ?_; rintro e1 w1 ⟨rfl, hw1⟩; subst w1) | (go_at_call 33; refine (l1In_any _ _ _ _).mono ?_; rintro e1 w1 ⟨rfl, hw1⟩; subst w1))
    go_ret
    refine ⟨?_, acc⟩
    first | exact ret_bool HR.out.symm | (rw [HR.out]; simp [h0]; done) | (rw [HR.out]; simp [h0]; omega)
  · cases h1 : l1in idl 0 100000000000000000
    · have HR : Hid (cpuSB u c ⟨up, (k : Int), ran, bu, idl⟩ = false) := by unfold Hid; simp [HRq.out, h0, h1]
      go_enter Tryz.func67, Tryz.ntmps67
      go_wp2_with (first | (go_at_call 101; refine (l4Time_any _ _).mono ?_; rintro e1 w1 ⟨rfl, hw1⟩; subst w1) | (go_at_call 33; refine (l1In_any _ _ _ _).mono ?_; rintro e1 w1 ⟨rfl, hw1⟩; subst w1))
      go_ret
      refine ⟨?_, acc⟩
      first | exact ret_bool HR.out.symm | (rw [HR.out]; simp [h0, h1]; done) | (rw [HR.out]; simp [h0, h1]; omega)
    · cases up
      · have HR : Hid (cpuSB u c ⟨false, (k : Int), ran, bu, idl⟩ = false) := by unfold Hid; simp [HRq.out, h0, h1]
        go_enter Tryz.func67, Tryz.ntmps67
        go_wp2_with (first | (go_at_call 101; refine (l4Time_any _ _).mono ?_; rintro e1 w1 ⟨rfl, hw1⟩; subst w1) | (go_at_call 33; refine (l1In_any _ _ _ _).mono ?_; rintro e1 w1 ⟨rfl, hw1⟩; subst w1))
        go_ret
        refine ⟨?_, acc⟩
        first | exact ret_bool HR.out.symm | (rw [HR.out]; simp [h0, h1]; done) | (rw [HR.out]; simp [h0, h1]; omega)
      · cases h3 : l1in ran 1 149
        · have HR : Hid (cpuSB u c ⟨true, (k : Int), ran, bu, idl⟩ = false) := by unfold Hid; simp [HRq.out, h0, h1, h3]
          go_enter Tryz.func67, Tryz.ntmps67
          go_wp2_with (first | (go_at_call 101; refine (l4Time_any _ _).mono ?_; rintro e1 w1 ⟨rfl, hw1⟩; subst w1) | (go_at_call 33; refine (l1In_any _ _ _ _).mono ?_; rintro e1 w1 ⟨rfl, hw1⟩; subst w1))
          go_ret
          refine ⟨?_, acc⟩
          first | exact ret_bool HR.out.symm | (rw [HR.out]; simp [h0, h1, h3]; done) | (rw [HR.out]; simp [h0, h1, h3]; omega)
        · have HR : Hid (cpuSB u c ⟨true, (k : Int), ran, bu, idl⟩ = false) := by unfold Hid; simp [HRq.out, h0, h1, h3]
          go_enter Tryz.func67, Tryz.ntmps67
          go_wp2_with (first | (go_at_call 101; refine (l4Time_any _ _).mono ?_; rintro e1 w1 ⟨rfl, hw1⟩; subst w1) | (go_at_call 33; refine (l1In_any _ _ _ _).mono ?_; rintro e1 w1 ⟨rfl, hw1⟩; subst w1))
          go_ret
          refine ⟨?_, acc⟩
          first | exact ret_bool HR.out.symm | (rw [HR.out]; simp [h0, h1, h3]; done) | (rw [HR.out]; simp [h0, h1, h3]; omega)
set_option maxRecDepth 100000 in
set_option maxHeartbeats 32000000 in
theorem specCpu_some (c : Nat) (u : Wv) (x : Cp) (w : World) (hs : SlW w u) (hF : Fit u) (hx : u.cs[c]? = some x) (k : Nat) (t : Tk) (hcur : x.cur = (k : Int)) (hk : k < 12) (ht : u.ts[k]? = some t) (hT : TGr u) (hcp : t.cpu = (c : Int)) :
    Calls Tryz.prog 67 #[wvV u, .int .i64 (c : Int)] w fun e' w' => e' = .returned (.bool (cpuSB u c x)) ∧ Below w.heap.size w w' := by
  have hc : c < u.cs.length := (List.getElem?_eq_some_iff.1 hx).1
  have HX : Hid (u.cs[c]? = some x) := hx
  have hnt := hF.nt
  obtain ⟨p1, l1, c1, p2, l2, c2, p3, l3, c3, e1, e2, e3, hv⟩ := wv_form hs
  have HV : Hid (wvV u = .agg #[.int .i64 u.now, .slice p1 l1 c1, .slice p2 l2 c2, .slice p3 l3 c3]) := hv
  rw [hv]
  obtain ⟨W1, hW1⟩ : ∃ W1, w.alloc (.cells #[.int .i64 u.now, .slice p1 l1 c1, .slice p2 l2 c2, .slice p3 l3 c3] 33) = W1 := ⟨_, rfl⟩
  obtain ⟨hA, acc0, hlt⟩ := boxed_w hs e1 e2 e3 hW1
  obtain ⟨o0, o1, o2, o3⟩ := hA.cells
  rw [e1] at o1
  rw [e2] at o2
  rw [e3] at o3
  obtain ⟨cg, co, ccap, w1, hcr, hck, hcl⟩ := hA.cellsC hx
  rw [o1] at w1
  simp only [Option.some.injEq, Value.slice.injEq] at w1
  obtain ⟨q1, q2, q3⟩ := w1
  subst q1 q2 q3
  obtain ⟨a0, a1, a2, a3, a4⟩ := cp_cells hcr
  obtain ⟨k2, m2, f2, hlt2⟩ := SlR.form hs.2.1
  rw [e2] at f2
  simp only [Value.slice.injEq] at f2
  obtain ⟨r1, r2, r3⟩ := f2
  rw [hnt] at r2
  subst r1 r2 r3
  have HS : Hid (SlW w u) := hs
  have HA : Hid (AtW W1 w.heap.size u) := hA
  obtain ⟨up, cur, ran, bu, idl⟩ := x
  dsimp only at hcur a0 a1 a2 a3 a4 ⊢
  subst hcur
  have hr : l1in (k : Int) (-1) 11 = true := l1in_iff.2 ⟨by omega, by omega⟩
  have hr2 : ¬ (k : Int) = -1 := by omega
  have hr3 : ¬ (k : Int) < 0 := by omega
  obtain ⟨tg, to, tcap, w2, htr, htk, htl⟩ := HA.out.cellsT ht
  rw [o2] at w2
  simp only [Option.some.injEq, Value.slice.injEq] at w2
  obtain ⟨q1, q2, q3⟩ := w2
  clear q2
  subst q1 q3
  obtain ⟨_, _, b2, _⟩ := tk_cells htr
  have lbt := block_lt_of_cell b2
  obtain ⟨g, hg, hg8, hug⟩ := hT k t ht
  obtain ⟨il, hil⟩ : ∃ b, inlineB (gsD u.gs) t.st g c = b := ⟨_, rfl⟩
  obtain ⟨sy, hsy⟩ : ∃ b, stayS (gsD u.gs) c ran t g = b := ⟨_, rfl⟩
  have HR1 : Hid (cpuSB u c ⟨up, (k : Int), ran, bu, idl⟩ = (l1in bu 0 100000000000000000 && (l1in idl 0 100000000000000000 && (up && (l1in ran 1 149 && (decide (t.cpu = (c : Int)) && (il && sy))))))) := by
    unfold Hid cpuSB timeB; dsimp only; rw [hr, if_neg hr2, Int.toNat_natCast, ht]; simp only [Option.any_some, Bool.true_and]; rw [hg, Int.toNat_natCast, hil, hsy]
  have hSt : ∀ W, SlW W u → Calls Tryz.prog 107 #[wvV u, .int .i64 (c : Int)] W fun e' w' => e' = .returned (.bool sy) ∧ Below W.heap.size W w' := fun W h => by
    have h0 := l8Stayed_any c k g u _ t W h hF HX.out rfl ht hg hg8 hug
    rw [hsy] at h0
    exact h0
  rw [HV.out] at hSt
  obtain ⟨W2, hW2⟩ : ∃ W2, W1.alloc (.cells #[.bool up, .int .i64 (k : Int), .int .i64 ran, .int .i64 bu, .int .i64 idl] 70) = W2 := ⟨_, rfl⟩
  have B2 : Below W1.heap.size W1 W2 := by rw [← hW2]; exact (Below.refl _ _).alloc (Nat.le_refl _) _
  have cb : W2.rangeAt W1.heap.size 0 [.bool up, .int .i64 (k : Int), .int .i64 ran, .int .i64 bu, .int .i64 idl] := range_of_block (by rw [← hW2]; exact World.alloc_heap_new W1 _)
  have lc : W1.heap.size < W2.heap.size := by rw [← hW2]; simp
  have m0 : W2.cell? ⟨W1.heap.size, 0, none⟩ = some (.bool up) := cb 0 _ rfl
  have m1 : W2.cell? ⟨W1.heap.size, 1, none⟩ = some (.int .i64 (k : Int)) := cb 1 _ rfl
  have m2 : W2.cell? ⟨W1.heap.size, 2, none⟩ = some (.int .i64 ran) := cb 2 _ rfl
  have m3 : W2.cell? ⟨W1.heap.size, 3, none⟩ = some (.int .i64 bu) := cb 3 _ rfl
  have m4 : W2.cell? ⟨W1.heap.size, 4, none⟩ = some (.int .i64 idl) := cb 4 _ rfl
  have lw : w.heap.size < W2.heap.size := Nat.lt_of_lt_of_le hlt B2.size
  have t0 := (B2.cell (p := ⟨w.heap.size, 0, none⟩) hlt).trans o0
  have t1 := (B2.cell (p := ⟨w.heap.size, 1, none⟩) hlt).trans o1
  have t2 := (B2.cell (p := ⟨w.heap.size, 2, none⟩) hlt).trans o2
  have t3 := (B2.cell (p := ⟨w.heap.size, 3, none⟩) hlt).trans o3
  have acc : Below w.heap.size w W2 := acc0.trans (B2.mono acc0.size)
  clear hA hs hcr e1 e2 e3 hv cb
  replace b2 := (B2.cell (p := ⟨tg, to + k * 9 + 2, none⟩) lbt).trans b2
  clear htr
  have hI : ∀ W, SlW W u → Calls Tryz.prog 49 #[wvV u, .int .i64 (k : Int)] W fun e' w' => e' = .returned (.bool il) ∧ Below W.heap.size W w' := fun W h => by
    have h0 := l8InLine_any k g c u t W h hF.tree ht hg8 hug (hF.ok hc) hg hcp
    rw [hil] at h0
    exact h0
  rw [HV.out] at hI
  rw [hcp] at b2
  have HR2 : Hid (cpuSB u c ⟨up, (k : Int), ran, bu, idl⟩ = (l1in bu 0 100000000000000000 && (l1in idl 0 100000000000000000 && (up && (l1in ran 1 149 && (il && sy)))))) := by unfold Hid; rw [HR1.out, decide_eq_true hcp, Bool.true_and]
  clear ht hil hsy
  cases h0 : l1in bu 0 100000000000000000
  · have HR : Hid (cpuSB u c ⟨up, (k : Int), ran, bu, idl⟩ = false) := by unfold Hid; simp [HR2.out, h0]
    go_enter Tryz.func67, Tryz.ntmps67
    go_wp2_with (first | (go_at_call 101; refine (l4Time_any _ _).mono ?_; rintro e1 w1 ⟨rfl, hw1⟩; subst w1) | (go_at_call 33; refine (l1In_any _ _ _ _).mono ?_; rintro e1 w1 ⟨rfl, hw1⟩; subst w1) | (go_at_call 49; refine (hI _ (HS.out.below acc)).mono ?_; rintro e1 w1 ⟨rfl, hb1⟩; have t0 := (hb1.cell (p := ⟨w.heap.size, 0, none⟩) lw).trans t0; have t1 := (hb1.cell (p := ⟨w.heap.size, 1, none⟩) lw).trans t1; have t2 := (hb1.cell (p := ⟨w.heap.size, 2, none⟩) lw).trans t2; have t3 := (hb1.cell (p := ⟨w.heap.size, 3, none⟩) lw).trans t3; have lw := Nat.lt_of_lt_of_le lw hb1.size; replace acc := acc.trans (hb1.mono acc.size); clear hb1) | (go_at_call 107; refine (hSt _ (HS.out.below acc)).mono ?_; rintro e1 w1 ⟨rfl, hb1⟩; have t0 := (hb1.cell (p := ⟨w.heap.size, 0, none⟩) lw).trans t0; have t1 := (hb1.cell (p := ⟨w.heap.size, 1, none⟩) lw).trans t1; have t2 := (hb1.cell (p := ⟨w.heap.size, 2, none⟩) lw).trans t2; have t3 := (hb1.cell (p := ⟨w.heap.size, 3, none⟩) lw).trans t3; have lw := Nat.lt_of_lt_of_le lw hb1.size; replace acc := acc.trans (hb1.mono acc.size); clear hb1))
    go_ret
    refine ⟨?_, acc⟩
    first | exact ret_bool HR.out.symm | (rw [HR.out]; simp [h0]; done) | (rw [HR.out]; simp [h0]; omega)
  · cases h1 : l1in idl 0 100000000000000000
    · have HR : Hid (cpuSB u c ⟨up, (k : Int), ran, bu, idl⟩ = false) := by unfold Hid; simp [HR2.out, h0, h1]
      go_enter Tryz.func67, Tryz.ntmps67
      go_wp2_with (first | (go_at_call 101; refine (l4Time_any _ _).mono ?_; rintro e1 w1 ⟨rfl, hw1⟩; subst w1) | (go_at_call 33; refine (l1In_any _ _ _ _).mono ?_; rintro e1 w1 ⟨rfl, hw1⟩; subst w1) | (go_at_call 49; refine (hI _ (HS.out.below acc)).mono ?_; rintro e1 w1 ⟨rfl, hb1⟩; have t0 := (hb1.cell (p := ⟨w.heap.size, 0, none⟩) lw).trans t0; have t1 := (hb1.cell (p := ⟨w.heap.size, 1, none⟩) lw).trans t1; have t2 := (hb1.cell (p := ⟨w.heap.size, 2, none⟩) lw).trans t2; have t3 := (hb1.cell (p := ⟨w.heap.size, 3, none⟩) lw).trans t3; have lw := Nat.lt_of_lt_of_le lw hb1.size; replace acc := acc.trans (hb1.mono acc.size); clear hb1) | (go_at_call 107; refine (hSt _ (HS.out.below acc)).mono ?_; rintro e1 w1 ⟨rfl, hb1⟩; have t0 := (hb1.cell (p := ⟨w.heap.size, 0, none⟩) lw).trans t0; have t1 := (hb1.cell (p := ⟨w.heap.size, 1, none⟩) lw).trans t1; have t2 := (hb1.cell (p := ⟨w.heap.size, 2, none⟩) lw).trans t2; have t3 := (hb1.cell (p := ⟨w.heap.size, 3, none⟩) lw).trans t3; have lw := Nat.lt_of_lt_of_le lw hb1.size; replace acc := acc.trans (hb1.mono acc.size); clear hb1))
      go_ret
      refine ⟨?_, acc⟩
      first | exact ret_bool HR.out.symm | (rw [HR.out]; simp [h0, h1]; done) | (rw [HR.out]; simp [h0, h1]; omega)
    · cases up
      · have HR : Hid (cpuSB u c ⟨false, (k : Int), ran, bu, idl⟩ = false) := by unfold Hid; simp [HR2.out, h0, h1]
        go_enter Tryz.func67, Tryz.ntmps67
        go_wp2_with (first | (go_at_call 101; refine (l4Time_any _ _).mono ?_; rintro e1 w1 ⟨rfl, hw1⟩; subst w1) | (go_at_call 33; refine (l1In_any _ _ _ _).mono ?_; rintro e1 w1 ⟨rfl, hw1⟩; subst w1) | (go_at_call 49; refine (hI _ (HS.out.below acc)).mono ?_; rintro e1 w1 ⟨rfl, hb1⟩; have t0 := (hb1.cell (p := ⟨w.heap.size, 0, none⟩) lw).trans t0; have t1 := (hb1.cell (p := ⟨w.heap.size, 1, none⟩) lw).trans t1; have t2 := (hb1.cell (p := ⟨w.heap.size, 2, none⟩) lw).trans t2; have t3 := (hb1.cell (p := ⟨w.heap.size, 3, none⟩) lw).trans t3; have lw := Nat.lt_of_lt_of_le lw hb1.size; replace acc := acc.trans (hb1.mono acc.size); clear hb1) | (go_at_call 107; refine (hSt _ (HS.out.below acc)).mono ?_; rintro e1 w1 ⟨rfl, hb1⟩; have t0 := (hb1.cell (p := ⟨w.heap.size, 0, none⟩) lw).trans t0; have t1 := (hb1.cell (p := ⟨w.heap.size, 1, none⟩) lw).trans t1; have t2 := (hb1.cell (p := ⟨w.heap.size, 2, none⟩) lw).trans t2; have t3 := (hb1.cell (p := ⟨w.heap.size, 3, none⟩) lw).trans t3; have lw := Nat.lt_of_lt_of_le lw hb1.size; replace acc := acc.trans (hb1.mono acc.size); clear hb1))
        go_ret
        refine ⟨?_, acc⟩
        first | exact ret_bool HR.out.symm | (rw [HR.out]; simp [h0, h1]; done) | (rw [HR.out]; simp [h0, h1]; omega)
      · cases h3 : l1in ran 1 149
        · have HR : Hid (cpuSB u c ⟨true, (k : Int), ran, bu, idl⟩ = false) := by unfold Hid; simp [HR2.out, h0, h1, h3]
          go_enter Tryz.func67, Tryz.ntmps67
          go_wp2_with (first | (go_at_call 101; refine (l4Time_any _ _).mono ?_; rintro e1 w1 ⟨rfl, hw1⟩; subst w1) | (go_at_call 33; refine (l1In_any _ _ _ _).mono ?_; rintro e1 w1 ⟨rfl, hw1⟩; subst w1) | (go_at_call 49; refine (hI _ (HS.out.below acc)).mono ?_; rintro e1 w1 ⟨rfl, hb1⟩; have t0 := (hb1.cell (p := ⟨w.heap.size, 0, none⟩) lw).trans t0; have t1 := (hb1.cell (p := ⟨w.heap.size, 1, none⟩) lw).trans t1; have t2 := (hb1.cell (p := ⟨w.heap.size, 2, none⟩) lw).trans t2; have t3 := (hb1.cell (p := ⟨w.heap.size, 3, none⟩) lw).trans t3; have lw := Nat.lt_of_lt_of_le lw hb1.size; replace acc := acc.trans (hb1.mono acc.size); clear hb1) | (go_at_call 107; refine (hSt _ (HS.out.below acc)).mono ?_; rintro e1 w1 ⟨rfl, hb1⟩; have t0 := (hb1.cell (p := ⟨w.heap.size, 0, none⟩) lw).trans t0; have t1 := (hb1.cell (p := ⟨w.heap.size, 1, none⟩) lw).trans t1; have t2 := (hb1.cell (p := ⟨w.heap.size, 2, none⟩) lw).trans t2; have t3 := (hb1.cell (p := ⟨w.heap.size, 3, none⟩) lw).trans t3; have lw := Nat.lt_of_lt_of_le lw hb1.size; replace acc := acc.trans (hb1.mono acc.size); clear hb1))
          go_ret
          refine ⟨?_, acc⟩
          first | exact ret_bool HR.out.symm | (rw [HR.out]; simp [h0, h1, h3]; done) | (rw [HR.out]; simp [h0, h1, h3]; omega)
        · cases h4 : il
          · have HR : Hid (cpuSB u c ⟨true, (k : Int), ran, bu, idl⟩ = false) := by unfold Hid; simp [HR2.out, h0, h1, h3, h4]
            go_enter Tryz.func67, Tryz.ntmps67
            go_wp2_with (first | (go_at_call 101; refine (l4Time_any _ _).mono ?_; rintro e1 w1 ⟨rfl, hw1⟩; subst w1) | (go_at_call 33; refine (l1In_any _ _ _ _).mono ?_; rintro e1 w1 ⟨rfl, hw1⟩; subst w1) | (go_at_call 49; refine (hI _ (HS.out.below acc)).mono ?_; rintro e1 w1 ⟨rfl, hb1⟩; have t0 := (hb1.cell (p := ⟨w.heap.size, 0, none⟩) lw).trans t0; have t1 := (hb1.cell (p := ⟨w.heap.size, 1, none⟩) lw).trans t1; have t2 := (hb1.cell (p := ⟨w.heap.size, 2, none⟩) lw).trans t2; have t3 := (hb1.cell (p := ⟨w.heap.size, 3, none⟩) lw).trans t3; have lw := Nat.lt_of_lt_of_le lw hb1.size; replace acc := acc.trans (hb1.mono acc.size); clear hb1) | (go_at_call 107; refine (hSt _ (HS.out.below acc)).mono ?_; rintro e1 w1 ⟨rfl, hb1⟩; have t0 := (hb1.cell (p := ⟨w.heap.size, 0, none⟩) lw).trans t0; have t1 := (hb1.cell (p := ⟨w.heap.size, 1, none⟩) lw).trans t1; have t2 := (hb1.cell (p := ⟨w.heap.size, 2, none⟩) lw).trans t2; have t3 := (hb1.cell (p := ⟨w.heap.size, 3, none⟩) lw).trans t3; have lw := Nat.lt_of_lt_of_le lw hb1.size; replace acc := acc.trans (hb1.mono acc.size); clear hb1))
            go_ret
            refine ⟨?_, acc⟩
            first | exact ret_bool HR.out.symm | (rw [HR.out]; simp [h0, h1, h3, h4]; done) | (rw [HR.out]; simp [h0, h1, h3, h4]; omega)
          · cases h5 : sy
            · have HR : Hid (cpuSB u c ⟨true, (k : Int), ran, bu, idl⟩ = false) := by unfold Hid; simp [HR2.out, h0, h1, h3, h4, h5]
              go_enter Tryz.func67, Tryz.ntmps67
              go_wp2_with (first | (go_at_call 101; refine (l4Time_any _ _).mono ?_; rintro e1 w1 ⟨rfl, hw1⟩; subst w1) | (go_at_call 33; refine (l1In_any _ _ _ _).mono ?_; rintro e1 w1 ⟨rfl, hw1⟩; subst w1) | (go_at_call 49; refine (hI _ (HS.out.below acc)).mono ?_; rintro e1 w1 ⟨rfl, hb1⟩; have t0 := (hb1.cell (p := ⟨w.heap.size, 0, none⟩) lw).trans t0; have t1 := (hb1.cell (p := ⟨w.heap.size, 1, none⟩) lw).trans t1; have t2 := (hb1.cell (p := ⟨w.heap.size, 2, none⟩) lw).trans t2; have t3 := (hb1.cell (p := ⟨w.heap.size, 3, none⟩) lw).trans t3; have lw := Nat.lt_of_lt_of_le lw hb1.size; replace acc := acc.trans (hb1.mono acc.size); clear hb1) | (go_at_call 107; refine (hSt _ (HS.out.below acc)).mono ?_; rintro e1 w1 ⟨rfl, hb1⟩; have t0 := (hb1.cell (p := ⟨w.heap.size, 0, none⟩) lw).trans t0; have t1 := (hb1.cell (p := ⟨w.heap.size, 1, none⟩) lw).trans t1; have t2 := (hb1.cell (p := ⟨w.heap.size, 2, none⟩) lw).trans t2; have t3 := (hb1.cell (p := ⟨w.heap.size, 3, none⟩) lw).trans t3; have lw := Nat.lt_of_lt_of_le lw hb1.size; replace acc := acc.trans (hb1.mono acc.size); clear hb1))
              go_ret
              refine ⟨?_, acc⟩
              first | exact ret_bool HR.out.symm | (rw [HR.out]; simp [h0, h1, h3, h4, h5]; done) | (rw [HR.out]; simp [h0, h1, h3, h4, h5]; omega)
            · have HR : Hid (cpuSB u c ⟨true, (k : Int), ran, bu, idl⟩ = true) := by unfold Hid; simp [HR2.out, h0, h1, h3, h4, h5]
              go_enter Tryz.func67, Tryz.ntmps67
              go_wp2_with (first | (go_at_call 101; refine (l4Time_any _ _).mono ?_; rintro e1 w1 ⟨rfl, hw1⟩; subst w1) | (go_at_call 33; refine (l1In_any _ _ _ _).mono ?_; rintro e1 w1 ⟨rfl, hw1⟩; subst w1) | (go_at_call 49; refine (hI _ (HS.out.below acc)).mono ?_; rintro e1 w1 ⟨rfl, hb1⟩; have t0 := (hb1.cell (p := ⟨w.heap.size, 0, none⟩) lw).trans t0; have t1 := (hb1.cell (p := ⟨w.heap.size, 1, none⟩) lw).trans t1; have t2 := (hb1.cell (p := ⟨w.heap.size, 2, none⟩) lw).trans t2; have t3 := (hb1.cell (p := ⟨w.heap.size, 3, none⟩) lw).trans t3; have lw := Nat.lt_of_lt_of_le lw hb1.size; replace acc := acc.trans (hb1.mono acc.size); clear hb1) | (go_at_call 107; refine (hSt _ (HS.out.below acc)).mono ?_; rintro e1 w1 ⟨rfl, hb1⟩; have t0 := (hb1.cell (p := ⟨w.heap.size, 0, none⟩) lw).trans t0; have t1 := (hb1.cell (p := ⟨w.heap.size, 1, none⟩) lw).trans t1; have t2 := (hb1.cell (p := ⟨w.heap.size, 2, none⟩) lw).trans t2; have t3 := (hb1.cell (p := ⟨w.heap.size, 3, none⟩) lw).trans t3; have lw := Nat.lt_of_lt_of_le lw hb1.size; replace acc := acc.trans (hb1.mono acc.size); clear hb1))
              go_ret
              refine ⟨?_, acc⟩
              first | exact ret_bool HR.out.symm | (rw [HR.out]; simp [h0, h1, h3, h4, h5]; done) | (rw [HR.out]; simp [h0, h1, h3, h4, h5]; omega)
theorem l8CpuOk_any (c : Nat) (u : Wv) (x : Cp) (w : World) (hs : SlW w u) (hF : Fit u) (hx : u.cs[c]? = some x) (hT : TGr u) :
    Calls Tryz.prog 67 #[wvV u, .int .i64 (c : Int)] w fun e' w' => e' = .returned (.bool (cpuSB u c x)) ∧ Below w.heap.size w w' := by
  cases hr : l1in x.cur (-1) 11
  · exact specCpu_out c u x w hs hF hx hr
  · obtain ⟨h1, h2⟩ := l1in_iff.1 hr
    by_cases h0 : x.cur = -1
    · exact specCpu_none c u x w hs hF hx h0
    · obtain ⟨k, hk⟩ := Int.eq_ofNat_of_zero_le (show 0 ≤ x.cur by omega)
      have hk12 : k < 12 := by omega
      obtain ⟨t, ht⟩ : ∃ t, u.ts[k]? = some t := ⟨_, List.getElem?_eq_getElem (by rw [hF.nt]; exact hk12)⟩
      by_cases hcp : t.cpu = (c : Int)
      · exact specCpu_some c u x w hs hF hx k t hk hk12 ht hT hcp
      · exact specCpu_else c u x w hs hF hx k t hk hk12 ht hT hcp
end Go.Proofs.YtnmmglkigiakaaaGreat
namespace Go.Proofs.YtnmmglkigiakaaaGreat
set_option linter.unusedVariables false
set_option linter.unusedSimpArgs false
open Go.ChangeShapes Go.WideShapes Go.ChangeAt Go.RowKit Go.Shelf Go.Sort

def groupAt (u : Wv) (k : Nat) : Bool := (u.gs[k]?).any (fun e => groupB u.now u.cs.length k e.d)
def taskAt (u : Wv) (k : Nat) : Bool := (u.ts[k]?).any (taskOkB u)
def shelfAt (u : Wv) (k c : Nat) : Bool := (u.gs[k]?).any (fun e => (e.d.sh[c]?).any (shelfB u k c))
def shelvesAt (u : Wv) (k : Nat) : Bool := (u.gs[k]?).any (fun e => (List.range e.d.sh.length).all (shelfAt u k))
def cpuAt (u : Wv) (c : Nat) : Bool := (u.cs[c]?).any (cpuSB u c)
def groupsB (u : Wv) : Bool := (List.range u.gs.length).all (groupAt u)
def tasksB (u : Wv) : Bool := (List.range u.ts.length).all (taskAt u)
def shelvesB (u : Wv) : Bool := (List.range u.gs.length).all (shelvesAt u)
def cpusB (u : Wv) : Bool := (List.range u.cs.length).all (cpuAt u)
def okS (u : Wv) : Bool := placesB u && (groupsB u && (tasksB u && (shelvesB u && cpusB u)))
theorem all_range {n : Nat} {p : Nat → Bool} : (List.range n).all p = true ↔ ∀ k, k < n → p k = true := by rw [List.all_eq_true]; exact ⟨fun h k hk => h k (List.mem_range.2 hk), fun h k hk => h k (List.mem_range.1 hk)⟩
theorem all_range_no {n k : Nat} {p : Nat → Bool} (hk : k < n) (h : p k = false) : (List.range n).all p = false := by
  rw [← Bool.not_eq_true, all_range]
  intro hal; rw [hal k hk] at h; cases h
theorem places_parts {u : Wv} (h : placesB u = true) : (0 ≤ u.now ∧ u.now ≤ 100000000000000000) ∧ (1 ≤ u.cs.length ∧ u.cs.length ≤ 4) ∧ upsM u.cs ≠ 0 ∧ u.ts.length = 12 ∧ treeB (gsD u.gs) = true := by
  unfold placesB timeB at h
  simp only [Bool.and_eq_true, decide_eq_true_eq] at h
  obtain ⟨h1, h2, h3, h4, h5⟩ := h
  have := l1in_iff.1 h2
  exact ⟨l1in_iff.1 h1, ⟨by omega, by omega⟩, h3, h4, h5⟩
theorem group_used {now : Int} {n k : Nat} {d : Gr} (h : groupB now n k d = true) (hu : d.us = true) : d.sh.length = n ∧ SetIn d.cp ∧ (0 < d.ba.qu → d.ba.dr.length = n) := by
  unfold groupB at h
  rw [hu] at h
  simp only [Bool.true_eq_false, if_false, Bool.and_eq_true] at h
  obtain ⟨_, _, h2, _, h4, h5⟩ := h
  have h4' := of_decide_eq_true h4
  unfold setB at h2
  rw [Bool.and_eq_true] at h2
  refine ⟨h4', l1in_iff.1 h2.2, fun hq => ?_⟩
  unfold quotaB at h5
  rw [if_neg (by omega)] at h5
  simp only [Bool.and_eq_true] at h5
  obtain ⟨q1, q2, _⟩ := h5
  unfold bandOk at q1
  rw [Bool.and_eq_true] at q1
  have := (head_parts q1.1).2.2.1
  rw [this]; exact of_decide_eq_true q2
theorem group_free {now : Int} {n k : Nat} {d : Gr} (h : groupB now n k d = true) (hu : d.us = false) : d.ba.qu = 0 ∧ d.sh.length = 0 := by
  unfold groupB at h
  rw [if_pos hu] at h
  unfold noGroupB noBandB at h
  simp only [Bool.and_eq_true, decide_eq_true_eq] at h
  exact ⟨h.2.2.2.2.2.2.2.2.2.1, h.2.2.2.2.2.1⟩
theorem groups_at {u : Wv} (h : groupsB u = true) {k : Nat} {e : Gv} (he : u.gs[k]? = some e) : groupB u.now u.cs.length k e.d = true := by
  have := all_range.1 h k (List.getElem?_eq_some_iff.1 he).1
  unfold groupAt at this; rw [he] at this; exact this
theorem fit_of {u : Wv} (hp : placesB u = true) (hg : groupsB u = true) : Fit u ∧ CpIn (gsD u.gs) := by
  obtain ⟨_, ⟨h1, h2⟩, _, h4, h5⟩ := places_parts hp
  refine ⟨⟨h1, h2, h4, h5, fun k e he hu => (group_used (groups_at hg he) hu).1, fun k e he hq => ?_⟩, fun k hu => ?_⟩
  · cases hus : e.d.us
    · have := (group_free (groups_at hg he) hus).1; omega
    · exact (group_used (groups_at hg he) hus).2.2 hq
  · have hk : k < u.gs.length := by
      rcases Nat.lt_or_ge k u.gs.length with h | h
      · exact h
      · unfold usAt gsD at hu
        rw [List.getElem?_map, List.getElem?_eq_none h] at hu
        cases hu
    obtain ⟨e, he, q0, _⟩ := gs_get hk
    rw [cpAt_eq he]
    exact (group_used (groups_at hg he) (by rw [← q0]; exact hu)).2.1
theorem tasks_at {u : Wv} (h : tasksB u = true) {k : Nat} {t : Tk} (ht : u.ts[k]? = some t) : taskOkB u t = true := by
  have := all_range.1 h k (List.getElem?_eq_some_iff.1 ht).1
  unfold taskAt at this; rw [ht] at this; exact this
theorem task_there {u : Wv} {t : Tk} (h : taskOkB u t = true) (hs : t.st ≠ 0) : usedB (gsD u.gs) t.gr = true ∧ numB t = true ∧ whereB u t = true ∧ (t.st = 1 → taskWellB (gsD u.gs) t = true) := by
  unfold taskOkB at h
  rw [if_neg hs] at h
  simp only [Bool.and_eq_true, Bool.or_eq_true, decide_eq_true_eq] at h
  obtain ⟨_, h1, h2, h3, h4⟩ := h
  exact ⟨h1, h2, h3, fun h => h4.elim (fun h2 => by omega) id⟩
theorem task_none {u : Wv} {t : Tk} (h : taskOkB u t = true) (hs : t.st = 0) : t.gr = 0 := by
  unfold taskOkB at h
  rw [if_pos hs] at h
  unfold zeroTB at h
  simp only [Bool.and_eq_true, decide_eq_true_eq] at h
  exact h.1
theorem used_nat {u : Wv} (hF : Fit u) {g : Int} (h : usedB (gsD u.gs) g = true) : ∃ k : Nat, g = (k : Int) ∧ k < 8 ∧ usAt (gsD u.gs) k = true := by
  obtain ⟨k, rfl, hk, hu⟩ := usedB_yes h
  exact ⟨k, rfl, by rw [gsD_length, hF.g8] at hk; exact hk, hu⟩
theorem tgr_of {u : Wv} (hF : Fit u) (ht : tasksB u = true) : TGr u := by
  intro k t hk
  have h := tasks_at ht hk
  by_cases hs : t.st = 0
  · exact ⟨0, by rw [task_none h hs]; rfl, by decide, root_used hF.tree⟩
  · exact used_nat hF (task_there h hs).1
theorem tfit_of {u : Wv} (hF : Fit u) (hC : CpIn (gsD u.gs)) (ht : tasksB u = true) : TFit u := by
  intro k t hk hs
  obtain ⟨h1, h2, h3, _⟩ := task_there (tasks_at ht hk) hs
  obtain ⟨g, hg, hg8, hug⟩ := used_nat hF h1
  unfold whereB at h3
  rw [hg, Int.toNat_natCast] at h3
  obtain ⟨c, hc, hcc⟩ := where_at hF.n4 hF.tree hC hg8 hug (num_set h2) h3
  exact ⟨g, c, hg, hg8, hug, hcc, hc⟩
end Go.Proofs.YtnmmglkigiakaaaGreat
