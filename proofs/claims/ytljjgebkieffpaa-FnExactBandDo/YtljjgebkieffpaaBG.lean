/- The program's pool behind a pointer: what is done with it. -/
import Derived.Test.YtljjgebkieffpaaBC
import Derived.Lib.SliceRun
namespace Go.Proofs.Ytljjgebkieffpaa
set_option linter.unusedVariables false
set_option linter.unusedSimpArgs false
open Go.ChangeShapes Go.WideShapes Go.ChangeAt Go.RowKit

/-- a pool in a box beside its lock. -/
structure Pool (B : Nat) (W : World) (G gx cx gy cy : Nat) (l s : Int) (b : Ba) : Prop where
  box : W.heap[G]? = some (.cells #[.int .i32 l, .int .u32 s, .int .i64 b.qu, .int .i64 b.po, .int .i64 b.sp, .slice (some ⟨gx, 0, none⟩) b.lo.length cx, .slice (some ⟨gy, 0, none⟩) b.lo.length cy] 73 (0, 0))
  rows : Rows2 B W gx cx gy cy b
  ngx : G ≠ gx
  ngy : G ≠ gy
  nd : b.dr.length = b.lo.length
theorem gbox {w : World} {b : Nat} {x0 x1 x2 x3 x4 x5 x6 : Value} {t : TypeId} (h : w.heap[b]? = some (.cells #[x0, x1, x2, x3, x4, x5, x6] t (0, 0))) :
    w.cell? ⟨b, 0, none⟩ = some x0 ∧ w.cell? ⟨b, 1, none⟩ = some x1 ∧ w.cell? ⟨b, 2, none⟩ = some x2 ∧ w.cell? ⟨b, 3, none⟩ = some x3 ∧ w.cell? ⟨b, 4, none⟩ = some x4 ∧ w.cell? ⟨b, 5, none⟩ = some x5 ∧ w.cell? ⟨b, 6, none⟩ = some x6 := by
  refine ⟨?_, ?_, ?_, ?_, ?_, ?_, ?_⟩ <;> simp [World.cell?, h]
/-- the blocks of a pool. -/
def Mine (G gx gy : Nat) (k : Nat) : Prop := k = G ∨ k = gx ∨ k = gy
theorem Pool.lt {B : Nat} {W : World} {G gx cx gy cy : Nat} {l s : Int} {b : Ba} (h : Pool B W G gx cx gy cy l s b) : G < W.heap.size := (Array.getElem?_eq_some_iff.1 h.box).1
/-- a number of the pool's own written: quota, pool, spent stand at 2, 3, 4. -/
theorem Pool.setP {B : Nat} {W : World} {G gx cx gy cy : Nat} {l s : Int} {b : Ba} (h : Pool B W G gx cx gy cy l s b) (u : Int) : Pool B (W.setCell ⟨G, 3, none⟩ (.int .i64 u)) G gx cx gy cy l s ⟨b.qu, u, b.sp, b.lo, b.dr⟩ :=
  ⟨heap_setCell_same _ _ 3 _ _ (.int .i64 u) h.box, (h.rows.kept (Kept.set W G 3 (.int .i64 u)) (Ne.symm h.ngx) (Ne.symm h.ngy)).as rfl rfl, h.ngx, h.ngy, h.nd⟩
theorem Pool.setS {B : Nat} {W : World} {G gx cx gy cy : Nat} {l s : Int} {b : Ba} (h : Pool B W G gx cx gy cy l s b) (u : Int) : Pool B (W.setCell ⟨G, 4, none⟩ (.int .i64 u)) G gx cx gy cy l s ⟨b.qu, b.po, u, b.lo, b.dr⟩ :=
  ⟨heap_setCell_same _ _ 4 _ _ (.int .i64 u) h.box, (h.rows.kept (Kept.set W G 4 (.int .i64 u)) (Ne.symm h.ngx) (Ne.symm h.ngy)).as rfl rfl, h.ngx, h.ngy, h.nd⟩
theorem Pool.setX {B : Nat} {W : World} {G gx cx gy cy k : Nat} {l s : Int} {b : Ba} (h : Pool B W G gx cx gy cy l s b) (hk : k < b.lo.length) (u : Int) : Pool B (W.setCell ⟨gx, k, none⟩ (.int .i64 u)) G gx cx gy cy l s ⟨b.qu, b.po, b.sp, b.lo.set k u, b.dr⟩ :=
  ⟨by simpa using ((Kept.set W gx k (.int .i64 u)).block G h.lt h.ngx).trans h.box, h.rows.setX hk u, h.ngx, h.ngy, by simpa using h.nd⟩
theorem Pool.setY {B : Nat} {W : World} {G gx cx gy cy k : Nat} {l s : Int} {b : Ba} (h : Pool B W G gx cx gy cy l s b) (hk : k < b.dr.length) (u : Bool) : Pool B (W.setCell ⟨gy, k, none⟩ (.bool u)) G gx cx gy cy l s ⟨b.qu, b.po, b.sp, b.lo, b.dr.set k u⟩ :=
  ⟨((Kept.set W gy k (.bool u)).block G h.lt h.ngy).trans h.box, h.rows.setY hk u, h.ngx, h.ngy, by simpa using h.nd⟩
theorem Pool.kept {S : Nat → Prop} {B : Nat} {W W' : World} {G gx cx gy cy : Nat} {l s : Int} {b : Ba} (h : Pool B W G gx cx gy cy l s b) (hk : Kept S W W') (h0 : ¬ S G) (h1 : ¬ S gx) (h2 : ¬ S gy) : Pool B W' G gx cx gy cy l s b :=
  ⟨(hk.block G h.lt h0).trans h.box, h.rows.kept hk h1 h2, h.ngx, h.ngy, h.nd⟩
theorem Pool.drewN {B : Nat} {W : World} {G gx cx gy cy : Nat} {l s : Int} {b : Ba} (h : Pool B W G gx cx gy cy l s b) (n : Nat) : Pool B (W.drewN n) G gx cx gy cy l s b :=
  h.kept (Kept.ofBelow (below_drewN (Below.refl _ W) n)) (fun h => h) (fun h => h) (fun h => h)
theorem Pool.drew {B : Nat} {W : World} {G gx cx gy cy : Nat} {l s : Int} {b : Ba} (h : Pool B W G gx cx gy cy l s b) : Pool B W.drew G gx cx gy cy l s b :=
  h.kept (Kept.ofBelow (Below.refl _ W).drew) (fun h => h) (fun h => h) (fun h => h)
theorem Kept.sets (b : Nat) : ∀ (vs : List Value) (o : Nat) (w : World), Kept (fun k => k = b) w (w.setCells b o vs)
  | [], _, w => Kept.refl _ w
  | v :: r, o, w => ((Kept.set w b o v).trans (Kept.sets b r (o + 1) _)).mono (fun k h => h.elim id id)
theorem mine_set {G gx gy : Nat} (w : World) {g : Nat} (o : Nat) (v : Value) (h : Mine G gx gy g) : Kept (Mine G gx gy) w (w.setCell ⟨g, o, none⟩ v) := (Kept.set w g o v).mono (fun k hk => by rw [hk]; exact h)
theorem mine_below {G gx gy : Nat} {w w' : World} (h : Below w.heap.size w w') : Kept (Mine G gx gy) w w' := (Kept.ofBelow h).mono (fun k h => h.elim)
theorem mine_trans {G gx gy : Nat} {w w1 w2 : World} (h : Kept (Mine G gx gy) w w1) (h' : Kept (Mine G gx gy) w1 w2) : Kept (Mine G gx gy) w w2 := (h.trans h').mono (fun k h => h.elim id id)
theorem mineG {G gx gy : Nat} : Mine G gx gy G := .inl rfl
theorem mineX {G gx gy : Nat} : Mine G gx gy gx := .inr (.inl rfl)
theorem mineY {G gx gy : Nat} : Mine G gx gy gy := .inr (.inr rfl)

set_option maxHeartbeats 4000000 in
theorem bandTakes_any (b : Ba) (B G gx cx gy cy cn : Nat) (l s : Int) (w : World) (h : Pool B w G gx cx gy cy l s b) (hok : bandOk b = true) (hc : cn < b.lo.length) :
    Calls Try.prog 71 #[.pointer (some ⟨G, 2, none⟩), .int .i64 cn] w fun e w' => e = .returned (.int .i64 (takesBa b cn).2) ∧ Pool B w' G gx cx gy cy l s (takesBa b cn).1 ∧ Kept (Mine G gx gy) w w' := by
  obtain ⟨g0, g1, g2, g3, g4, g5, g6⟩ := gbox h.box
  obtain ⟨⟨a1, a2⟩, ⟨n1, n4⟩, _, ⟨a6, a7⟩, ⟨a8, a9⟩⟩ := head_parts (ok_parts hok).1
  obtain ⟨m, he⟩ := int_get hc
  obtain ⟨hm0, hm1⟩ := ok_lo hok he
  have x5 := h.rows.xi cn m he
  obtain ⟨_, xf⟩ := h.rows.xt cn hc
  have hcd : cn < b.dr.length := by rw [h.nd]; exact hc
  obtain ⟨d, he'⟩ : ∃ d, b.dr[cn]? = some d := ⟨b.dr[cn], List.getElem?_eq_getElem _⟩
  have y5 := h.rows.yi cn d he'
  obtain ⟨_, yf⟩ := h.rows.yt cn hcd
  rw [Nat.zero_add] at x5 xf y5 yf
  have f3 := fbox h.box 3
  have HL : Hid (loAt b cn = m) := by show _ = _; unfold loAt; rw [he]; rfl
  have u1 : G ≠ gx := h.ngx
  have u1' : gx ≠ G := Ne.symm u1
  have u2 : G ≠ gy := h.ngy
  have u2' : gy ≠ G := Ne.symm u2
  have hc' : (cn : Int) < (b.lo.length : Int) := by omega
  have xc := h.rows.xc
  have xm := h.rows.xm
  have yc := h.rows.yc
  have ym := h.rows.ym
  rw [h.nd] at yc
  by_cases m0 : 0 < m
  · have HD : Hid (takesBa b cn = (b, 0)) := by show _ = _; unfold takesBa; rw [HL.out, if_pos m0]
    go_enter Try.func71, Try.ntmps71
    go_wp2
    go_ret
    rw [HD.out]
    exact ⟨rfl, h, Kept.refl _ _⟩
  · by_cases p0 : b.po = 0
    · have HD : Hid (takesBa b cn = (⟨b.qu, b.po, b.sp, b.lo, b.dr.set cn true⟩, 2)) := by show _ = _; unfold takesBa; rw [HL.out, if_neg m0, if_pos p0]
      go_enter Try.func71, Try.ntmps71
      go_wp2
      go_ret
      rw [HD.out]
      exact ⟨rfl, h.setY hcd true, mine_set _ _ _ mineY⟩
    · by_cases p1 : 20 < b.po
      · have HD : Hid (takesBa b cn = (⟨b.qu, b.po - 20, b.sp, b.lo.set cn 20, b.dr⟩, 0)) := by show _ = _; unfold takesBa; rw [HL.out, if_neg m0, if_neg p0]; unfold min20; rw [if_pos p1]
        have hwr : IntKind.i64.wrap (b.po - 20) = b.po - 20 := wrapI (by omega) (by omega)
        go_enter Try.func71, Try.ntmps71
        go_wp2
        go_ret
        rw [HD.out]
        exact ⟨rfl, (h.setP (b.po - 20)).setX hc 20, mine_trans (mine_set _ _ _ mineG) (mine_set _ _ _ mineX)⟩
      · by_cases p2 : b.po < 20
        · have HD : Hid (takesBa b cn = (⟨b.qu, 0, b.sp, b.lo.set cn b.po, b.dr⟩, 0)) := by show _ = _; unfold takesBa; rw [HL.out, if_neg m0, if_neg p0]; unfold min20; rw [if_neg p1, Int.sub_self]
          have H : Hid (Pool B w G gx cx gy cy l s b) := h
          clear h
          go_enter Try.func71, Try.ntmps71
          go_wp2
          go_ret
          rw [HD.out]
          exact ⟨rfl, (H.out.setP 0).setX hc b.po, mine_trans (mine_set _ _ _ mineG) (mine_set _ _ _ mineX)⟩
        · have p3 : b.po = 20 := by omega
          have HD : Hid (takesBa b cn = (⟨b.qu, 0, b.sp, b.lo.set cn 20, b.dr⟩, 0)) := by show _ = _; unfold takesBa; rw [HL.out, if_neg m0, if_neg p0]; unfold min20; rw [if_neg p1, Int.sub_self, p3]
          have H : Hid (Pool B w G gx cx gy cy l s b) := h
          clear h
          go_enter Try.func71, Try.ntmps71
          go_wp2
          go_ret
          rw [HD.out]
          exact ⟨rfl, (H.out.setP 0).setX hc 20, mine_trans (mine_set _ _ _ mineG) (mine_set _ _ _ mineX)⟩

/-- a row cleared. -/
theorem Pool.clearY {B : Nat} {W : World} {G gx cx gy cy : Nat} {l s : Int} {b : Ba} (h : Pool B W G gx cx gy cy l s b) : Pool B (W.setCells gy 0 (List.replicate b.lo.length (.bool false))) G gx cx gy cy l s ⟨b.qu, b.po, b.sp, b.lo, List.replicate b.dr.length false⟩ ∧ Kept (Mine G gx gy) W (W.setCells gy 0 (List.replicate b.lo.length (.bool false))) := by
  have hk : Kept (fun k => k = gy) W (W.setCells gy 0 (List.replicate b.lo.length (.bool false))) := Kept.sets gy _ 0 W
  refine ⟨⟨(hk.block G h.lt h.ngy).trans h.box, ?_, h.ngx, h.ngy, by simpa using h.nd⟩, hk.mono (fun k hk => hk ▸ mineY)⟩
  have hr := h.rows
  have hrange : (W.setCells gy 0 (List.replicate b.lo.length (.bool false))).rangeAt gy 0 (List.replicate b.lo.length (.bool false)) := World.rangeAt_setCells_same _ _ _ _ (by
    intro j hj
    have := hr.yt j (by rw [h.nd]; simpa using hj)
    exact this)
  refine ⟨hr.x1, Nat.lt_of_lt_of_le hr.x2 hk.size, hr.y1, Nat.lt_of_lt_of_le hr.y2 hk.size, hr.ne, hk.ints hr.x2 hr.ne hr.xi, hk.there hr.x2 hr.ne hr.xt, hr.xc, hr.xm, ?_, by simpa using World.there_setCells hr.yt gy 0 _, by simpa using hr.yc, hr.ym⟩
  intro i u hu
  have hlt : i < b.dr.length := by simpa using (List.getElem?_eq_some_iff.1 hu).1
  have hu' : u = false := by
    have := List.getElem?_eq_some_iff.1 hu
    simpa using this.2.symm
  rw [hu']
  exact hrange i _ (by rw [h.nd] at hlt; simp [hlt])

theorem Pool.clearX {B : Nat} {W : World} {G gx cx gy cy : Nat} {l s : Int} {b : Ba} (h : Pool B W G gx cx gy cy l s b) : Pool B (W.setCells gx 0 (List.replicate b.lo.length (.int .i64 0))) G gx cx gy cy l s ⟨b.qu, b.po, b.sp, List.replicate b.lo.length 0, b.dr⟩ ∧ Kept (Mine G gx gy) W (W.setCells gx 0 (List.replicate b.lo.length (.int .i64 0))) := by
  have hk : Kept (fun k => k = gx) W (W.setCells gx 0 (List.replicate b.lo.length (.int .i64 0))) := Kept.sets gx _ 0 W
  refine ⟨⟨by simpa using (hk.block G h.lt h.ngx).trans h.box, ?_, h.ngx, h.ngy, by simpa using h.nd⟩, hk.mono (fun k hk => hk ▸ mineX)⟩
  have hr := h.rows
  have hrange : (W.setCells gx 0 (List.replicate b.lo.length (.int .i64 0))).rangeAt gx 0 (List.replicate b.lo.length (.int .i64 0)) := World.rangeAt_setCells_same _ _ _ _ (by
    intro j hj
    have := hr.xt j (by simpa using hj)
    exact this)
  refine ⟨hr.x1, Nat.lt_of_lt_of_le hr.x2 hk.size, hr.y1, Nat.lt_of_lt_of_le hr.y2 hk.size, hr.ne, ?_, by simpa using World.there_setCells hr.xt gx 0 _, by simpa using hr.xc, hr.xm, hk.bools hr.y2 (Ne.symm hr.ne) hr.yi, hk.there hr.y2 (Ne.symm hr.ne) hr.yt, hr.yc, hr.ym⟩
  intro i u hu
  have hlt : i < b.lo.length := by simpa using (List.getElem?_eq_some_iff.1 hu).1
  have hu' : u = 0 := by
    have := List.getElem?_eq_some_iff.1 hu
    simpa using this.2.symm
  rw [hu']
  exact hrange i _ (by simp [hlt])
theorem clearY_run {B : Nat} {W : World} {G gx cx gy cy : Nat} {l s : Int} {b : Ba} (h : Pool B W G gx cx gy cy l s b) (hn : 0 < b.lo.length) (ty : TypeId) :
    (Builtin.clear_ #[24] ty #[.slice (some ⟨gy, 0, none⟩) b.lo.length cy]).run Try.prog W = .ok (.tuple #[]) (W.setCells gy 0 (List.replicate b.lo.length (.bool false))) :=
  Lib.run_clear_slice W 24 4 ty (.bool false) Try.underlying24 Try.zeroValue4 rfl rfl gy 0 b.lo.length cy hn (fun j hj => (h.rows.yt j (by rw [h.nd]; exact hj)).1) (fun j hj => (h.rows.yt j (by rw [h.nd]; exact hj)).2)
theorem clearX_run {B : Nat} {W : World} {G gx cx gy cy : Nat} {l s : Int} {b : Ba} (h : Pool B W G gx cx gy cy l s b) (hn : 0 < b.lo.length) (ty : TypeId) :
    (Builtin.clear_ #[23] ty #[.slice (some ⟨gx, 0, none⟩) b.lo.length cx]).run Try.prog W = .ok (.tuple #[]) (W.setCells gx 0 (List.replicate b.lo.length (.int .i64 0))) :=
  Lib.run_clear_slice W 23 3 ty (.int .i64 0) Try.underlying23 Try.zeroValue3 rfl rfl gx 0 b.lo.length cx hn (fun j hj => (h.rows.xt j hj).1) (fun j hj => (h.rows.xt j hj).2)

set_option maxRecDepth 20000 in
set_option maxHeartbeats 4000000 in
theorem bandReturns_any (b : Ba) (B G gx cx gy cy cn : Nat) (l s : Int) (w : World) (h : Pool B w G gx cx gy cy l s b) (hok : bandOk b = true) (hc : cn < b.lo.length) :
    Calls Try.prog 73 #[.pointer (some ⟨G, 2, none⟩), .int .i64 cn] w fun e w' => e = .returned (.int .i64 (returnsBa b cn).2) ∧ Pool B w' G gx cx gy cy l s (returnsBa b cn).1 ∧ Kept (Mine G gx gy) w w' := by
  obtain ⟨g0, g1, g2, g3, g4, g5, g6⟩ := gbox h.box
  obtain ⟨⟨a1, a2⟩, ⟨n1, n4⟩, _, ⟨a6, a7⟩, ⟨a8, a9⟩⟩ := head_parts (ok_parts hok).1
  obtain ⟨m, he⟩ := int_get hc
  obtain ⟨hm0, hm1⟩ := ok_lo hok he
  have x5 := h.rows.xi cn m he
  obtain ⟨_, xf⟩ := h.rows.xt cn hc
  rw [Nat.zero_add] at x5 xf
  have f3 := fbox h.box 3
  have HL : Hid (loAt b cn = m) := by show _ = _; unfold loAt; rw [he]; rfl
  have u1 : G ≠ gx := h.ngx
  have u1' : gx ≠ G := Ne.symm u1
  have hc' : (cn : Int) < (b.lo.length : Int) := by omega
  have xc := h.rows.xc
  have xm := h.rows.xm
  have hwr : IntKind.i64.wrap (b.po + m) = b.po + m := wrapI (by omega) (by omega)
  by_cases pp : 0 < b.po + m
  · have HD : Hid (returnsBa b cn = (⟨b.qu, b.po + m, b.sp, b.lo.set cn 0, List.replicate b.dr.length false⟩, 0)) := by show _ = _; unfold returnsBa; rw [HL.out, if_pos pp]
    go_enter Try.func73, Try.ntmps73
    go_wp2
    refine wp_region_noPanic ?_
    refine wp_region_J 14 (fun w' => w'.cell? ⟨G, 5, none⟩ = some (.slice (some ⟨gx, 0, none⟩) b.lo.length cx) ∧ w'.cell? ⟨gx, cn, none⟩ = some (.int .i64 m)) (fun w' => w'.cell? ⟨G, 3, none⟩ = some (.int .i64 b.po)) (by kernel_rfl) (⟨g5, x5⟩) (g3) ?_
    refine JJ_take0 (i := 0) (v := ?bv0) rfl (by kernel_rfl) (by kernel_rfl) (by kernel_rfl) (by decide) (fun _ _ _ h => h) (Or.inl ⟨by rfl, ?by0⟩) ?br0
    case by0 => ((intro w hSw; (try dsimp only at hSw); go_simp) <;> with_reducible rfl)
    try simp only [Act.put, List.setIfInBounds_toArray, List.set_cons_zero, List.set_cons_succ]
    refine JJ_take0 (i := 1) (v := ?bv1) rfl (by kernel_rfl) (by kernel_rfl) (by kernel_rfl) (by decide) (fun _ _ _ h => h) (Or.inl ⟨by rfl, ?by1⟩) ?br1
    case by1 => ((intro w hSw; (try dsimp only at hSw); go_simp) <;> with_reducible rfl)
    try simp only [Act.put, List.setIfInBounds_toArray, List.set_cons_zero, List.set_cons_succ]
    refine JJ_take0 (i := 2) (v := ?bv2) rfl (by kernel_rfl) (by kernel_rfl) (by kernel_rfl) (by decide) (fun _ _ _ h => h) (Or.inl ⟨by rfl, ?by2⟩) ?br2
    case by2 => ((intro w hSw; (try dsimp only at hSw); go_simp) <;> with_reducible rfl)
    try simp only [Act.put, List.setIfInBounds_toArray, List.set_cons_zero, List.set_cons_succ]
    refine JJ_take (i := 3) (v := ?bv3) rfl (by kernel_rfl) (by kernel_rfl) (by kernel_rfl) (by decide) (by kernel_rfl) (fun _ _ _ h => h) (Or.inl ⟨by rfl, ?by3⟩) ?br3
    case by3 => ((intro w hSw; (try dsimp only at hSw); go_simp) <;> with_reducible rfl)
    try simp only [Act.put, List.setIfInBounds_toArray, List.set_cons_zero, List.set_cons_succ]
    refine JJ_take0 (i := 4) (v := ?bv4) rfl (by kernel_rfl) (by kernel_rfl) (by kernel_rfl) (by decide) (fun _ _ _ h => h) (Or.inl ⟨by rfl, ?by4⟩) ?br4
    case by4 => ((intro w hSw; (try dsimp only at hSw); go_simp) <;> with_reducible rfl)
    try simp only [Act.put, List.setIfInBounds_toArray, List.set_cons_zero, List.set_cons_succ]
    refine JJ_take0 (i := 5) (v := ?bv5) rfl (by kernel_rfl) (by kernel_rfl) (by kernel_rfl) (by decide) (fun _ _ _ h => h) (Or.inl ⟨by rfl, ?by5⟩) ?br5
    case by5 => ((intro w hSw; (try dsimp only at hSw); go_simp) <;> with_reducible rfl)
    try simp only [Act.put, List.setIfInBounds_toArray, List.set_cons_zero, List.set_cons_succ]
    refine JJ_take0 (i := 6) (v := ?bv6) rfl (by kernel_rfl) (by kernel_rfl) (by kernel_rfl) (by decide) (fun _ _ _ h => h) (Or.inl ⟨by rfl, ?by6⟩) ?br6
    case by6 => ((intro w hSw; (try dsimp only at hSw); go_simp) <;> with_reducible rfl)
    try simp only [Act.put, List.setIfInBounds_toArray, List.set_cons_zero, List.set_cons_succ]
    refine JJ_take0 (i := 7) (v := ?bv7) rfl (by kernel_rfl) (by kernel_rfl) (by kernel_rfl) (by decide) (fun _ _ _ h => h) (Or.inl ⟨by rfl, ?by7⟩) ?br7
    case by7 => ((intro w hSw; (try dsimp only at hSw); go_simp) <;> with_reducible rfl)
    try simp only [Act.put, List.setIfInBounds_toArray, List.set_cons_zero, List.set_cons_succ]
    refine JJ_take0 (i := 8) (v := ?bv8) rfl (by kernel_rfl) (by kernel_rfl) (by kernel_rfl) (by decide) (fun _ _ _ h => h) (Or.inl ⟨by rfl, ?by8⟩) ?br8
    case by8 => ((intro w hSw; (try dsimp only at hSw); go_simp) <;> with_reducible rfl)
    try simp only [Act.put, List.setIfInBounds_toArray, List.set_cons_zero, List.set_cons_succ]
    refine JJ_take0 (i := 9) (v := ?bv9) rfl (by kernel_rfl) (by kernel_rfl) (by kernel_rfl) (by decide) (fun _ _ _ h => h) (Or.inl ⟨by rfl, ?by9⟩) ?br9
    case by9 => ((intro w hSw; (try dsimp only at hSw); go_simp) <;> with_reducible rfl)
    try simp only [Act.put, List.setIfInBounds_toArray, List.set_cons_zero, List.set_cons_succ]
    refine JJ_take0 (i := 10) (v := ?bv10) rfl (by kernel_rfl) (by kernel_rfl) (by kernel_rfl) (by decide) (fun _ _ _ h => h) (Or.inl ⟨by rfl, ?by10⟩) ?br10
    case by10 => ((intro w hSw; (try dsimp only at hSw); go_simp) <;> with_reducible rfl)
    try simp only [Act.put, List.setIfInBounds_toArray, List.set_cons_zero, List.set_cons_succ]
    refine JJ_take0 (i := 11) (v := ?bv11) rfl (by kernel_rfl) (by kernel_rfl) (by kernel_rfl) (by decide) (fun _ _ _ h => h) (Or.inl ⟨by rfl, ?by11⟩) ?br11
    case by11 => ((intro w hSw; (try dsimp only at hSw); go_simp) <;> with_reducible rfl)
    try simp only [Act.put, List.setIfInBounds_toArray, List.set_cons_zero, List.set_cons_succ]
    refine JJ_take0 (i := 12) (v := ?bv12) rfl (by kernel_rfl) (by kernel_rfl) (by kernel_rfl) (by decide) (fun _ _ _ h => h) (Or.inl ⟨by rfl, ?by12⟩) ?br12
    case by12 => ((intro w hSw; (try dsimp only at hSw); go_simp) <;> with_reducible rfl)
    try simp only [Act.put, List.setIfInBounds_toArray, List.set_cons_zero, List.set_cons_succ]
    refine JJ_take0 (i := 13) (v := ?bv13) rfl (by kernel_rfl) (by kernel_rfl) (by kernel_rfl) (by decide) (fun _ _ _ h => h) (Or.inl ⟨by rfl, ?by13⟩) ?br13
    case by13 => ((intro w hSw; (try dsimp only at hSw); go_simp) <;> with_reducible rfl)
    try simp only [Act.put, List.setIfInBounds_toArray, List.set_cons_zero, List.set_cons_succ]
    refine JJ_one (i := 14) (by kernel_rfl) rfl (fun hT K hK => ?_)
    clear hT
    go_simp
    refine hK.out _ _ ⟨⟨(World.cell?_setCell_other _ _ _ _ (by simp)).trans g5, keep1 x5 u1'⟩, fun h => by cases h⟩ ?_
    clear hK K
    try simp only [Act.put, List.setIfInBounds_toArray, List.set_cons_zero, List.set_cons_succ]
    refine JJ_done (by kernel_rfl) ?_ _
    refine NoPanic.normal ?_
    go_wp2
    have P2 := ((h.setP (b.po + m)).setX hc 0).drew
    have hr := clearY_run P2 (by simp; omega) 0
    have P3 := P2.clearY
    simp only [List.length_set] at hr P3
    rw [hr]
    go_simp
    go_at_K
    go_wp2
    go_ret
    rw [HD.out]
    exact ⟨rfl, P3.1, mine_trans (mine_trans (mine_trans (mine_set _ _ _ mineG) (mine_set _ _ _ mineX)) (mine_below (Below.refl _ _).drew)) P3.2⟩
  · have HD : Hid (returnsBa b cn = (⟨b.qu, b.po + m, b.sp, b.lo.set cn 0, b.dr⟩, 0)) := by show _ = _; unfold returnsBa; rw [HL.out, if_neg pp]
    go_enter Try.func73, Try.ntmps73
    go_wp2
    refine wp_region_noPanic ?_
    refine wp_region_J 14 (fun w' => w'.cell? ⟨G, 5, none⟩ = some (.slice (some ⟨gx, 0, none⟩) b.lo.length cx) ∧ w'.cell? ⟨gx, cn, none⟩ = some (.int .i64 m)) (fun w' => w'.cell? ⟨G, 3, none⟩ = some (.int .i64 b.po)) (by kernel_rfl) (⟨g5, x5⟩) (g3) ?_
    refine JJ_take0 (i := 0) (v := ?cv0) rfl (by kernel_rfl) (by kernel_rfl) (by kernel_rfl) (by decide) (fun _ _ _ h => h) (Or.inl ⟨by rfl, ?cy0⟩) ?cr0
    case cy0 => ((intro w hSw; (try dsimp only at hSw); go_simp) <;> with_reducible rfl)
    try simp only [Act.put, List.setIfInBounds_toArray, List.set_cons_zero, List.set_cons_succ]
    refine JJ_take0 (i := 1) (v := ?cv1) rfl (by kernel_rfl) (by kernel_rfl) (by kernel_rfl) (by decide) (fun _ _ _ h => h) (Or.inl ⟨by rfl, ?cy1⟩) ?cr1
    case cy1 => ((intro w hSw; (try dsimp only at hSw); go_simp) <;> with_reducible rfl)
    try simp only [Act.put, List.setIfInBounds_toArray, List.set_cons_zero, List.set_cons_succ]
    refine JJ_take0 (i := 2) (v := ?cv2) rfl (by kernel_rfl) (by kernel_rfl) (by kernel_rfl) (by decide) (fun _ _ _ h => h) (Or.inl ⟨by rfl, ?cy2⟩) ?cr2
    case cy2 => ((intro w hSw; (try dsimp only at hSw); go_simp) <;> with_reducible rfl)
    try simp only [Act.put, List.setIfInBounds_toArray, List.set_cons_zero, List.set_cons_succ]
    refine JJ_take (i := 3) (v := ?cv3) rfl (by kernel_rfl) (by kernel_rfl) (by kernel_rfl) (by decide) (by kernel_rfl) (fun _ _ _ h => h) (Or.inl ⟨by rfl, ?cy3⟩) ?cr3
    case cy3 => ((intro w hSw; (try dsimp only at hSw); go_simp) <;> with_reducible rfl)
    try simp only [Act.put, List.setIfInBounds_toArray, List.set_cons_zero, List.set_cons_succ]
    refine JJ_take0 (i := 4) (v := ?cv4) rfl (by kernel_rfl) (by kernel_rfl) (by kernel_rfl) (by decide) (fun _ _ _ h => h) (Or.inl ⟨by rfl, ?cy4⟩) ?cr4
    case cy4 => ((intro w hSw; (try dsimp only at hSw); go_simp) <;> with_reducible rfl)
    try simp only [Act.put, List.setIfInBounds_toArray, List.set_cons_zero, List.set_cons_succ]
    refine JJ_take0 (i := 5) (v := ?cv5) rfl (by kernel_rfl) (by kernel_rfl) (by kernel_rfl) (by decide) (fun _ _ _ h => h) (Or.inl ⟨by rfl, ?cy5⟩) ?cr5
    case cy5 => ((intro w hSw; (try dsimp only at hSw); go_simp) <;> with_reducible rfl)
    try simp only [Act.put, List.setIfInBounds_toArray, List.set_cons_zero, List.set_cons_succ]
    refine JJ_take0 (i := 6) (v := ?cv6) rfl (by kernel_rfl) (by kernel_rfl) (by kernel_rfl) (by decide) (fun _ _ _ h => h) (Or.inl ⟨by rfl, ?cy6⟩) ?cr6
    case cy6 => ((intro w hSw; (try dsimp only at hSw); go_simp) <;> with_reducible rfl)
    try simp only [Act.put, List.setIfInBounds_toArray, List.set_cons_zero, List.set_cons_succ]
    refine JJ_take0 (i := 7) (v := ?cv7) rfl (by kernel_rfl) (by kernel_rfl) (by kernel_rfl) (by decide) (fun _ _ _ h => h) (Or.inl ⟨by rfl, ?cy7⟩) ?cr7
    case cy7 => ((intro w hSw; (try dsimp only at hSw); go_simp) <;> with_reducible rfl)
    try simp only [Act.put, List.setIfInBounds_toArray, List.set_cons_zero, List.set_cons_succ]
    refine JJ_take0 (i := 8) (v := ?cv8) rfl (by kernel_rfl) (by kernel_rfl) (by kernel_rfl) (by decide) (fun _ _ _ h => h) (Or.inl ⟨by rfl, ?cy8⟩) ?cr8
    case cy8 => ((intro w hSw; (try dsimp only at hSw); go_simp) <;> with_reducible rfl)
    try simp only [Act.put, List.setIfInBounds_toArray, List.set_cons_zero, List.set_cons_succ]
    refine JJ_take0 (i := 9) (v := ?cv9) rfl (by kernel_rfl) (by kernel_rfl) (by kernel_rfl) (by decide) (fun _ _ _ h => h) (Or.inl ⟨by rfl, ?cy9⟩) ?cr9
    case cy9 => ((intro w hSw; (try dsimp only at hSw); go_simp) <;> with_reducible rfl)
    try simp only [Act.put, List.setIfInBounds_toArray, List.set_cons_zero, List.set_cons_succ]
    refine JJ_take0 (i := 10) (v := ?cv10) rfl (by kernel_rfl) (by kernel_rfl) (by kernel_rfl) (by decide) (fun _ _ _ h => h) (Or.inl ⟨by rfl, ?cy10⟩) ?cr10
    case cy10 => ((intro w hSw; (try dsimp only at hSw); go_simp) <;> with_reducible rfl)
    try simp only [Act.put, List.setIfInBounds_toArray, List.set_cons_zero, List.set_cons_succ]
    refine JJ_take0 (i := 11) (v := ?cv11) rfl (by kernel_rfl) (by kernel_rfl) (by kernel_rfl) (by decide) (fun _ _ _ h => h) (Or.inl ⟨by rfl, ?cy11⟩) ?cr11
    case cy11 => ((intro w hSw; (try dsimp only at hSw); go_simp) <;> with_reducible rfl)
    try simp only [Act.put, List.setIfInBounds_toArray, List.set_cons_zero, List.set_cons_succ]
    refine JJ_take0 (i := 12) (v := ?cv12) rfl (by kernel_rfl) (by kernel_rfl) (by kernel_rfl) (by decide) (fun _ _ _ h => h) (Or.inl ⟨by rfl, ?cy12⟩) ?cr12
    case cy12 => ((intro w hSw; (try dsimp only at hSw); go_simp) <;> with_reducible rfl)
    try simp only [Act.put, List.setIfInBounds_toArray, List.set_cons_zero, List.set_cons_succ]
    refine JJ_take0 (i := 13) (v := ?cv13) rfl (by kernel_rfl) (by kernel_rfl) (by kernel_rfl) (by decide) (fun _ _ _ h => h) (Or.inl ⟨by rfl, ?cy13⟩) ?cr13
    case cy13 => ((intro w hSw; (try dsimp only at hSw); go_simp) <;> with_reducible rfl)
    try simp only [Act.put, List.setIfInBounds_toArray, List.set_cons_zero, List.set_cons_succ]
    refine JJ_one (i := 14) (by kernel_rfl) rfl (fun hT K hK => ?_)
    clear hT
    go_simp
    refine hK.out _ _ ⟨⟨(World.cell?_setCell_other _ _ _ _ (by simp)).trans g5, keep1 x5 u1'⟩, fun h => by cases h⟩ ?_
    clear hK K
    try simp only [Act.put, List.setIfInBounds_toArray, List.set_cons_zero, List.set_cons_succ]
    refine JJ_done (by kernel_rfl) ?_ _
    refine NoPanic.normal ?_
    go_wp2
    go_ret
    rw [HD.out]
    exact ⟨rfl, ((h.setP (b.po + m)).setX hc 0).drew, mine_trans (mine_trans (mine_set _ _ _ mineG) (mine_set _ _ _ mineX)) (mine_below (Below.refl _ _).drew)⟩

set_option maxHeartbeats 4000000 in
theorem bandSpends_any (b : Ba) (B G gx cx gy cy cn : Nat) (n l s : Int) (w : World) (h : Pool B w G gx cx gy cy l s b) (hok : bandOk b = true) (hc : cn < b.lo.length) :
    Calls Try.prog 72 #[.pointer (some ⟨G, 2, none⟩), .int .i64 cn, .int .i64 n] w fun e w' => e = .returned (.int .i64 (spendsBa b cn n).2) ∧ Pool B w' G gx cx gy cy l s (spendsBa b cn n).1 ∧ Kept (Mine G gx gy) w w' := by
  obtain ⟨g0, g1, g2, g3, g4, g5, g6⟩ := gbox h.box
  obtain ⟨⟨a1, a2⟩, ⟨n1, n4⟩, _, ⟨a6, a7⟩, ⟨a8, a9⟩⟩ := head_parts (ok_parts hok).1
  obtain ⟨m, he⟩ := int_get hc
  obtain ⟨hm0, hm1⟩ := ok_lo hok he
  have x5 := h.rows.xi cn m he
  obtain ⟨_, xf⟩ := h.rows.xt cn hc
  rw [Nat.zero_add] at x5 xf
  have f4 := fbox h.box 4
  have HL : Hid (loAt b cn = m) := by show _ = _; unfold loAt; rw [he]; rfl
  have u1 : G ≠ gx := h.ngx
  have u1' : gx ≠ G := Ne.symm u1
  have hc' : (cn : Int) < (b.lo.length : Int) := by omega
  have xc := h.rows.xc
  have xm := h.rows.xm
  by_cases n1' : n < 1
  · have HD : Hid (spendsBa b cn n = (b, 3)) := by show _ = _; unfold spendsBa; rw [if_pos (.inl n1')]
    go_enter Try.func72, Try.ntmps72
    go_wp2
    go_ret
    rw [HD.out]
    exact ⟨rfl, h, Kept.refl _ _⟩
  · by_cases n2' : m < n
    · have HD : Hid (spendsBa b cn n = (b, 3)) := by show _ = _; unfold spendsBa; rw [HL.out, if_pos (.inr n2')]
      go_enter Try.func72, Try.ntmps72
      go_wp2
      go_ret
      rw [HD.out]
      exact ⟨rfl, h, Kept.refl _ _⟩
    · have HD : Hid (spendsBa b cn n = (⟨b.qu, b.po, b.sp + n, b.lo.set cn (m - n), b.dr⟩, 0)) := by show _ = _; unfold spendsBa; rw [HL.out, if_neg (fun h => h.elim n1' n2')]
      have hwr : IntKind.i64.wrap (m - n) = m - n := wrapI (by omega) (by omega)
      go_enter Try.func72, Try.ntmps72
      go_wp2
      go_ret
      rw [HD.out]
      exact ⟨rfl, (h.setX hc (m - n)).setS (b.sp + n), mine_trans (mine_set _ _ _ mineX) (mine_set _ _ _ mineG)⟩

set_option maxRecDepth 20000 in
set_option maxHeartbeats 4000000 in
theorem bandRefills_any (b : Ba) (B G gx cx gy cy : Nat) (l s : Int) (w : World) (h : Pool B w G gx cx gy cy l s b) (hok : bandOk b = true) :
    Calls Try.prog 70 #[.pointer (some ⟨G, 2, none⟩)] w fun e w' => e = .returned (.int .i64 0) ∧ Pool B w' G gx cx gy cy l s (fullBa b) ∧ Kept (Mine G gx gy) w w' := by
  obtain ⟨g0, g1, g2, g3, g4, g5, g6⟩ := gbox h.box
  obtain ⟨⟨a1, a2⟩, ⟨n1, n4⟩, _, ⟨a6, a7⟩, ⟨a8, a9⟩⟩ := head_parts (ok_parts hok).1
  have f3 := fbox h.box 3
  have f4 := fbox h.box 4
  go_enter Try.func70, Try.ntmps70
  go_wp2
  have P2 := (h.setP b.qu).setS 0
  have hr := clearX_run P2 (by simp; omega) 0
  have P3 := P2.clearX
  have hlen : (List.replicate b.lo.length (0 : Int)).length = b.lo.length := by simp
  have hr4 := clearY_run P3.1 (by simp; omega) 0
  have P4 := P3.1.clearY
  simp only [hlen] at hr hr4 P4
  have b3 := P3.1.box
  simp only [hlen] at b3
  clear g0 g1 g2 g3 g4 g5 g6 f3 f4
  obtain ⟨g0, g1, g2, g3, g4, g5, g6⟩ := gbox b3
  rw [hr]
  go_simp
  go_at_K
  have hm2 : Kept (Mine G gx gy) w _ := mine_trans (mine_trans (mine_set w 3 (.int .i64 b.qu) mineG) (mine_set _ 4 (.int .i64 0) mineG)) P3.2
  have HM2 : Hid (Kept (Mine G gx gy) w _) := hm2
  have HP4 : Hid (_ ∧ _) := P4
  clear hm2 P4 P3 P2 hr b3
  revert hr4 HM2 HP4 g0 g1 g2 g3 g4 g5 g6
  generalize World.setCells ((w.setCell ⟨G, 3, none⟩ (.int .i64 b.qu)).setCell ⟨G, 4, none⟩ (.int .i64 0)) gx 0 (List.replicate b.lo.length (.int .i64 0)) = W3
  intro hr4 g0 g1 g2 g3 g4 g5 g6 HM2 HP4
  go_wp2
  go_ret
  have P4 := HP4.out
  exact ⟨rfl, P4.1, mine_trans HM2.out P4.2⟩

set_option maxHeartbeats 4000000 in
theorem doInBand_any (b : Ba) (B G gx cx gy cy : Nat) (k c n l s : Int) (w : World) (h : Pool B w G gx cx gy cy l s b) (hok : bandOk b = true) (hB : B ≤ w.heap.size) :
    Calls Try.prog 63 #[.pointer (some ⟨G, 2, none⟩), boV k c n] w fun e w' => e = .returned (.int .i64 (doBa b k c n).2) ∧ Pool B w' G gx cx gy cy l s (doBa b k c n).1 ∧ Kept (Mine G gx gy) w w' := by
  obtain ⟨⟨a1, a2⟩, ⟨n1, n4⟩, _, ⟨a6, a7⟩, ⟨a8, a9⟩⟩ := head_parts (ok_parts hok).1
  have hA : ∀ A, Below w.heap.size w (w.alloc A) := fun A => (Below.refl _ _).alloc (Nat.le_refl _) _
  have hP : ∀ A, Pool B (w.alloc A) G gx cx gy cy l s b := fun A => h.kept (Kept.ofBelow (hA A)) (fun h => h) (fun h => h) (fun h => h)
  obtain ⟨g0, g1, g2, g3, g4, g5, g6⟩ := gbox h.box
  have hGl := h.lt
  have hG : G ≠ w.heap.size := by omega
  have hG' : w.heap.size ≠ G := by omega
  unfold boV
  by_cases c4 : k = 4
  · have HD : Hid (doBa b k c n = (fullBa b, 0)) := by show _ = _; unfold doBa; rw [hok, if_pos rfl, if_pos c4]
    subst c4
    go_enter Try.func63, Try.ntmps63
    go_wp2_with fail
    refine (bandRefills_any b B G gx cx gy cy l s _ (hP _) hok).mono ?_
    rintro e1 w2 ⟨rfl, P2, K2⟩
    simp only []
    go_at_K
    go_wp2_with fail
    go_ret
    rw [HD.out]
    exact ⟨rfl, P2, mine_trans (mine_below (hA _)) K2⟩
  · have hkind : ∀ (wx : World) (bx : Below w.heap.size w wx), Pool B wx G gx cx gy cy l s b := fun wx bx => h.kept (Kept.ofBelow bx) (fun h => h) (fun h => h) (fun h => h)
    cases hc : hasB b c
    · have HD : Hid (doBa b k c n = (b, 1)) := by show _ = _; unfold doBa; rw [hok, if_pos rfl, if_neg c4, hc]; simp
      go_enter Try.func63, Try.ntmps63
      go_wp2_with fail
      go_region_with ((go_at_call 49; refine (hasLocal_any b _ _ _ _ c _ (by omega) _).mono ?_; rintro e1 w2 ⟨rfl, b2⟩; replace b2 := (Below.refl _ (w.alloc _)).drew.trans b2))
      all_goals
        obtain ⟨b2, hO, lt2⟩ := box_kept b2
        go_wp2_with fail
        go_ret
        rw [HD.out]
        exact ⟨rfl, hkind _ b2, mine_below b2⟩
    · have hc' : l1in c 0 ((b.lo.length : Int) - 1) = true := hc
      obtain ⟨c0, c1⟩ := l1in_iff.1 hc'
      obtain ⟨cn, rfl⟩ : ∃ cn : Nat, c = cn := ⟨c.toNat, by omega⟩
      have c1n : cn < b.lo.length := by omega
      clear hc'
      by_cases k1 : k = 1
      · have HD : Hid (doBa b k cn n = takesBa b cn) := by show _ = _; unfold doBa; rw [hok, if_pos rfl, if_neg c4, hc, if_pos rfl, if_pos k1, Int.toNat_natCast]
        subst k1
        go_enter Try.func63, Try.ntmps63
        go_wp2_with fail
        go_region_with ((go_at_call 49; refine (hasLocal_any b _ _ _ _ cn _ (by omega) _).mono ?_; rintro e1 w2 ⟨rfl, b2⟩; replace b2 := (Below.refl _ (w.alloc _)).drew.trans b2))
        all_goals
          obtain ⟨b2, hO, lt2⟩ := box_kept b2
          obtain ⟨q0, q1, q2⟩ := obox hO
          go_wp2_with fail
          refine (bandTakes_any b B G gx cx gy cy cn l s _ (hkind _ b2) hok c1n).mono ?_
          rintro e1 w3 ⟨rfl, P3, K3⟩
          simp only []
          go_at_K
          go_wp2_with fail
          go_ret
          rw [HD.out]
          exact ⟨rfl, P3, mine_trans (mine_below b2) K3⟩
      · by_cases k2 : k = 2
        · have HD : Hid (doBa b k cn n = spendsBa b cn n) := by show _ = _; unfold doBa; rw [hok, if_pos rfl, if_neg c4, hc, if_pos rfl, if_neg k1, if_pos k2, Int.toNat_natCast]
          subst k2
          go_enter Try.func63, Try.ntmps63
          go_wp2_with fail
          go_region_with ((go_at_call 49; refine (hasLocal_any b _ _ _ _ cn _ (by omega) _).mono ?_; rintro e1 w2 ⟨rfl, b2⟩; replace b2 := (Below.refl _ (w.alloc _)).drew.trans b2))
          all_goals
            obtain ⟨b2, hO, lt2⟩ := box_kept b2
            obtain ⟨q0, q1, q2⟩ := obox hO
            go_wp2_with fail
            refine (bandSpends_any b B G gx cx gy cy cn n l s _ (hkind _ b2) hok c1n).mono ?_
            rintro e1 w3 ⟨rfl, P3, K3⟩
            simp only []
            go_at_K
            go_wp2_with fail
            go_ret
            rw [HD.out]
            exact ⟨rfl, P3, mine_trans (mine_below b2) K3⟩
        · by_cases k3 : k = 3
          · have HD : Hid (doBa b k cn n = returnsBa b cn) := by show _ = _; unfold doBa; rw [hok, if_pos rfl, if_neg c4, hc, if_pos rfl, if_neg k1, if_neg k2, if_pos k3, Int.toNat_natCast]
            subst k3
            go_enter Try.func63, Try.ntmps63
            go_wp2_with fail
            go_region_with ((go_at_call 49; refine (hasLocal_any b _ _ _ _ cn _ (by omega) _).mono ?_; rintro e1 w2 ⟨rfl, b2⟩; replace b2 := (Below.refl _ (w.alloc _)).drew.trans b2))
            all_goals
              obtain ⟨b2, hO, lt2⟩ := box_kept b2
              obtain ⟨q0, q1, q2⟩ := obox hO
              go_wp2_with fail
              refine (bandReturns_any b B G gx cx gy cy cn l s _ (hkind _ b2) hok c1n).mono ?_
              rintro e1 w3 ⟨rfl, P3, K3⟩
              simp only []
              go_at_K
              go_wp2_with fail
              go_ret
              rw [HD.out]
              exact ⟨rfl, P3, mine_trans (mine_below b2) K3⟩
          · have HD : Hid (doBa b k cn n = (b, 1)) := by show _ = _; unfold doBa; rw [hok, if_pos rfl, if_neg c4, hc, if_pos rfl, if_neg k1, if_neg k2, if_neg k3]
            go_enter Try.func63, Try.ntmps63
            go_wp2_with fail
            go_region_with ((go_at_call 49; refine (hasLocal_any b _ _ _ _ cn _ (by omega) _).mono ?_; rintro e1 w2 ⟨rfl, b2⟩; replace b2 := (Below.refl _ (w.alloc _)).drew.trans b2))
            all_goals
              obtain ⟨b2, hO, lt2⟩ := box_kept b2
              obtain ⟨q0, q1, q2⟩ := obox hO
              go_wp2_with fail
              go_ret
              rw [HD.out]
              exact ⟨rfl, hkind _ b2, mine_below b2⟩
end Go.Proofs.Ytljjgebkieffpaa
