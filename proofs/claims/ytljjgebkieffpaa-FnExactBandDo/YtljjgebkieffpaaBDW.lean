/- The walk of FnExactBandDo. -/
import Derived.Test.YtljjgebkieffpaaBDz
import Derived.Test.YtljjgebkieffpaaBI
import Derived.Test.YtljjgebkieffpaaJ2
namespace Go.Proofs.Ytljjgebkieffpaa
set_option linter.unusedVariables false
set_option linter.unusedSimpArgs false
open Go.ChangeShapes Go.WideShapes Go.ChangeAt Go.RowKit

theorem do_len (b : Ba) (k c n : Int) : (doBa b k c n).1.lo.length ≤ 4 ∧ (doBa b k c n).1.dr.length ≤ 4 := by
  unfold doBa
  split
  · rename_i hok
    obtain ⟨_, ⟨_, n4⟩, nd, _⟩ := head_parts (ok_parts hok).1
    have hd4 : b.dr.length ≤ 4 := by omega
    split
    · simp [fullBa]; omega
    · split
      · split
        · unfold takesBa; split
          · exact ⟨n4, by omega⟩
          · split
            · exact ⟨n4, by simpa using hd4⟩
            · exact ⟨by simpa using n4, hd4⟩
        · split
          · unfold spendsBa; split
            · exact ⟨n4, hd4⟩
            · exact ⟨by simpa using n4, hd4⟩
          · split
            · unfold returnsBa
              refine ⟨by simpa using n4, ?_⟩
              show (if _ then _ else _ : List Bool).length ≤ 4
              split
              · simpa using hd4
              · exact hd4
            · exact ⟨n4, by omega⟩
      · exact ⟨n4, by omega⟩
  · exact ⟨by decide, by decide⟩
set_option maxHeartbeats 2000000 in
theorem toBandOp_any (k c n : Int) (w : World) :
    Calls Try.prog 26 #[boV k c n] w fun e w' => e = .returned (boV k c n) ∧ Below w.heap.size w w' := by
  unfold boV
  go_enter Try.func26, Try.ntmps26
  go_wp2
  go_returns
  exact ⟨rfl, (((Below.refl _ _).alloc (Nat.le_refl _) _).alloc (by simp) _).alloc (by simp; omega) _⟩

/-- a pool that was answered, put into a box of its own. -/
structure Answ (B : Nat) (W : World) (gw : Nat) (x y : Value) (r : Ba) : Prop where
  lo : B ≤ gw
  box : W.heap[gw]? = some (.cells #[.int .i64 r.qu, .int .i64 r.po, .int .i64 r.sp, x, y] 26 (0, 0))
  own : OwnBa B W x y r
  nx : ∀ g, x.ownBlock = some g → g ≠ gw
  ny : ∀ g, y.ownBlock = some g → g ≠ gw
theorem Answ.lt {B : Nat} {W : World} {gw : Nat} {x y : Value} {r : Ba} (h : Answ B W gw x y r) : gw < W.heap.size := (Array.getElem?_eq_some_iff.1 h.box).1
theorem Answ.kept {S : Nat → Prop} {B : Nat} {W W' : World} {gw : Nat} {x y : Value} {r : Ba} (h : Answ B W gw x y r) (hk : Kept S W W') (h0 : ¬ S gw) (h1 : ∀ g, x.ownBlock = some g → ¬ S g) (h2 : ∀ g, y.ownBlock = some g → ¬ S g) : Answ B W' gw x y r :=
  ⟨h.lo, (hk.block gw h.lt h0).trans h.box, h.own.kept hk h1 h2, h.nx, h.ny⟩
theorem Answ.below {B : Nat} {W W' : World} {gw : Nat} {x y : Value} {r : Ba} (h : Answ B W gw x y r) (hb : Below W.heap.size W W') : Answ B W' gw x y r :=
  h.kept (Kept.ofBelow hb) (fun h => h) (fun _ _ h => h) (fun _ _ h => h)
theorem ans_before {w5 : World} {B C gw : Nat} {x y : Value} {r : Ba} {z0 z1 z2 z3 z4 : Value} (hz : w5.heap[gw]? = some (.cells #[z0, z1, z2, z3, z4] 26 (0, 0))) (o : OwnBa C w5 x y r) (hg : gw < C) (hB : B ≤ gw) :
    Answ B (((((w5.setCell ⟨gw, 0, none⟩ (.int .i64 r.qu)).setCell ⟨gw, 1, none⟩ (.int .i64 r.po)).setCell ⟨gw, 2, none⟩ (.int .i64 r.sp)).setCell ⟨gw, 3, none⟩ x).setCell ⟨gw, 4, none⟩ y) gw x y r := by
  have hx : ∀ g, x.ownBlock = some g → g ≠ gw := fun g hg' e => by have := (o.1.at g hg').1; omega
  have hy : ∀ g, y.ownBlock = some g → g ≠ gw := fun g hg' e => by have := (o.2.1.at g hg').1; omega
  exact ⟨hB, five_set hz _ _ _ _ _, (o.kept (Kept.five w5 gw _ _ _ x y) hx hy).mono (by omega), hx, hy⟩
theorem ans_after {w5 : World} {B C : Nat} {x y : Value} {r : Ba} (o : OwnBa C w5 x y r) (hB : B ≤ C) (hC : B ≤ w5.heap.size) : Answ B (w5.alloc (.cells #[.int .i64 r.qu, .int .i64 r.po, .int .i64 r.sp, x, y] 26 (0, 0))) w5.heap.size x y r :=
  ⟨hC, heap_alloc_new _ _, (o.below ((Below.refl _ _).alloc (Nat.le_refl _) _)).mono hB, fun g hg' e => by have := (o.1.at g hg').2; omega, fun g hg' e => by have := (o.2.1.at g hg').2; omega⟩

set_option maxRecDepth 20000 in
set_option maxHeartbeats 8000000 in
theorem walkBandDo (b : Ba) (x y : Value) (k c n : Int) (w : World) (hs : SlBa w x y b) :
    Calls Try.prog 7 #[baV b x y, boV k c n] w fun e w' => e = .returned (.bool true) ∧ Below w.heap.size w w' := by
  have hB : ∀ A B, Below w.heap.size w ((w.alloc A).alloc B) := fun A B => ((Below.refl _ _).alloc (Nat.le_refl _) _).alloc (by simp) _
  obtain ⟨rl, rd⟩ := do_len b k c n
  have hspec := fun x y w hs => spec_bandDo b x y k c n w hs
  have himpl := fun x y w hs => impl_bandDo b x y k c n w hs
  have hop := fun w => toBandOp_any k c n w
  revert rl rd hspec himpl
  generalize doBa b k c n = rr
  obtain ⟨r, code⟩ := rr
  dsimp only
  intro rl rd hspec himpl
  unfold baV boV
  unfold boV at hspec himpl hop
  go_enter Try.func7, Try.ntmps7
  go_wp2_with fail
  refine (szBand_any b x y _ (hs.below (hB _ _))).mono ?_
  rintro e1 w2 ⟨⟨sz, rfl, hsz⟩, b2⟩
  obtain ⟨b2, lt2, hA2, hO2⟩ := two_box b2
  simp only []
  go_at_K
  rcases hsz with ⟨hsz, _⟩ | ⟨hsz, hn2, hn3⟩
  · go_wp2_with fail
    go_ret
    exact ⟨rfl, b2⟩
  have hl : b.lo.length ≤ 1048576 := by omega
  have hd : b.dr.length ≤ 1048576 := by omega
  clear hn2 hn3
  obtain ⟨q0, q1, q2, q3, q4⟩ := bbox hA2
  obtain ⟨p0, p1, p2⟩ := obox hO2
  go_wp2_with fail
  have lt2' : w.heap.size < w2.heap.size := by omega
  rename_i K0 hK0
  have hS : ∀ w', Below w2.heap.size w2 w' → (w'.cell? ⟨w.heap.size, 0, none⟩ = some (.int .i64 b.qu) ∧ w'.cell? ⟨w.heap.size, 1, none⟩ = some (.int .i64 b.po) ∧ w'.cell? ⟨w.heap.size, 2, none⟩ = some (.int .i64 b.sp) ∧ w'.cell? ⟨w.heap.size, 3, none⟩ = some x ∧ w'.cell? ⟨w.heap.size, 4, none⟩ = some y) ∧ (w'.cell? ⟨w.heap.size + 1, 0, none⟩ = some (.int .i64 k) ∧ w'.cell? ⟨w.heap.size + 1, 1, none⟩ = some (.int .i64 c) ∧ w'.cell? ⟨w.heap.size + 1, 2, none⟩ = some (.int .i64 n)) := by
    intro w' hb
    have ha := (hb.block w.heap.size lt2').trans hA2
    have ho := (hb.block (w.heap.size + 1) lt2).trans hO2
    obtain ⟨j0, j1, j2, j3, j4⟩ := bbox ha
    obtain ⟨i0, i1, i2⟩ := obox ho
    exact ⟨⟨j0, j1, j2, j3, j4⟩, ⟨i0, i1, i2⟩⟩
  have cont1 : ∀ (gw : Nat) (W : World) (xw yw t0 t1 t4 t5 t8 t9 t10 t11 t12 t13 t14 t15 t16 t17 t18 t19 t20 t21 t22 t23 t24 t25 t26 t27 t28 t29 t30 t31 t32 t33 t34 t35 t36 t37 t38 t39 t40 t41 t42 t43 t44 t45 t46 t47 t48 t49 t50 t51 t52 t53 t54 t55 t56 t57 t58 t59 t60 t61 t62 t63 t64 t65 t66 t67 t68 t69 t70 t71 t72 t73 t74 t75 t76 t77 t78 t79 t80 t81 t82 t83 t84 t85 t86 t87 t88 t89 t90 t91 t92 t93 t94 t95 t96 t97 t98 t99 t100 t101 t102 t103 : Value), Answ w2.heap.size W gw xw yw r → Below w2.heap.size w2 W → K0 ⟨#[t0, t1, .pointer (some ⟨w.heap.size, 0, none⟩), .pointer (some ⟨w.heap.size + 1, 0, none⟩), t4, t5, .pointer (some ⟨gw, 0, none⟩), .int .i64 code, t8, t9, t10, t11, t12, t13, t14, t15, t16, t17, t18, t19, t20, t21, t22, t23, t24, t25, t26, t27, t28, t29, t30, t31, t32, t33, t34, t35, t36, t37, t38, t39, t40, t41, t42, t43, t44, t45, t46, t47, t48, t49, t50, t51, t52, t53, t54, t55, t56, t57, t58, t59, t60, t61, t62, t63, t64, t65, t66, t67, t68, t69, t70, t71, t72, t73, t74, t75, t76, t77, t78, t79, t80, t81, t82, t83, t84, t85, t86, t87, t88, t89, t90, t91, t92, t93, t94, t95, t96, t97, t98, t99, t100, t101, t102, t103], []⟩ W := by
    intro gw W xw yw t0 t1 t4 t5 t8 t9 t10 t11 t12 t13 t14 t15 t16 t17 t18 t19 t20 t21 t22 t23 t24 t25 t26 t27 t28 t29 t30 t31 t32 t33 t34 t35 t36 t37 t38 t39 t40 t41 t42 t43 t44 t45 t46 t47 t48 t49 t50 t51 t52 t53 t54 t55 t56 t57 t58 t59 t60 t61 t62 t63 t64 t65 t66 t67 t68 t69 t70 t71 t72 t73 t74 t75 t76 t77 t78 t79 t80 t81 t82 t83 t84 t85 t86 t87 t88 t89 t90 t91 t92 t93 t94 t95 t96 t97 t98 t99 t100 t101 t102 t103 ha hbW
    refine hK0 _ _ ?_
    obtain ⟨⟨j0, j1, j2, j3, j4⟩, ⟨i0, i1, i2⟩⟩ := hS W hbW
    have aW := b2.trans (hbW.mono b2.size)
    clear q0 q1 q2 q3 q4 p0 p1 p2
    go_wp2_with fail
    refine (toBand_any b x y _ (hs.below aW) hl hd).mono ?_
    rintro e1 w3 ⟨x3, y3, rfl, o3, b3⟩
    obtain ⟨p3, c3, rfl⟩ := o3.1.form
    obtain ⟨p3', c3', rfl⟩ := o3.2.1.form
    unfold baV
    simp only []
    go_at_K
    go_wp2_with fail
    have e3 := (Below.refl _ w3).alloc (Nat.le_refl _) (.cells #[.int .i64 b.qu, .int .i64 b.po, .int .i64 b.sp, .slice p3 b.lo.length c3, .slice p3' b.dr.length c3'] 26 (0, 0))
    have hx0 : Answ W.heap.size _ w3.heap.size (.slice p3 b.lo.length c3) (.slice p3' b.dr.length c3') b := ans_after o3 (Nat.le_refl _) b3.size
    have ha0 := (ha.below b3).below e3
    have hb0 := (hbW.trans (b3.mono hbW.size)).trans (e3.mono (Nat.le_trans hbW.size b3.size))
    have hlx : w2.heap.size ≤ w3.heap.size := Nat.le_trans hbW.size b3.size
    have hgw := (ha.below b3).lt
    have hgWlo := ha.lt
    have atw := ha.own.1.at
    have atw' := ha.own.2.1.at
    clear j0 j1 j2 j3 j4 i0 i1 i2 ha o3 e3
    revert hx0 ha0 hb0
    generalize w3.alloc (.cells #[.int .i64 b.qu, .int .i64 b.po, .int .i64 b.sp, .slice p3 b.lo.length c3, .slice p3' b.dr.length c3'] 26 (0, 0)) = W3
    intro hx0 ha0 hb0
    generalize hgx : w3.heap.size = gx at *
    obtain ⟨⟨j0, j1, j2, j3, j4⟩, ⟨i0, i1, i2⟩⟩ := hS W3 hb0
    obtain ⟨k0, k1, k2, k3, k4⟩ := bbox hx0.box
    rename_i K1 hK1
    have hS2 : ∀ w', Below W3.heap.size W3 w' → (w'.cell? ⟨gx, 0, none⟩ = some (.int .i64 b.qu) ∧ w'.cell? ⟨gx, 1, none⟩ = some (.int .i64 b.po) ∧ w'.cell? ⟨gx, 2, none⟩ = some (.int .i64 b.sp) ∧ w'.cell? ⟨gx, 3, none⟩ = some (.slice p3 b.lo.length c3) ∧ w'.cell? ⟨gx, 4, none⟩ = some (.slice p3' b.dr.length c3')) ∧ (w'.cell? ⟨w.heap.size + 1, 0, none⟩ = some (.int .i64 k) ∧ w'.cell? ⟨w.heap.size + 1, 1, none⟩ = some (.int .i64 c) ∧ w'.cell? ⟨w.heap.size + 1, 2, none⟩ = some (.int .i64 n)) := by
      intro w' hb
      obtain ⟨m0, m1, m2, m3, m4⟩ := bbox ((hb.block gx hx0.lt).trans hx0.box)
      exact ⟨⟨m0, m1, m2, m3, m4⟩, (hS w' (hb0.trans (hb.mono hb0.size))).2⟩
    have cont2 : ∀ (gg : Nat) (W5 : World) (xg yg t0 t1 t4 t5 t11 t12 t13 t14 t15 t16 t17 t18 t19 t20 t21 t22 t23 t24 t25 t26 t27 t28 t29 t30 t31 t32 t33 t34 t35 t36 t37 t38 t39 t40 t41 t42 t43 t44 t45 t46 t47 t48 t49 t50 t51 t52 t53 t54 t55 t56 t57 t58 t59 t60 t61 t62 t63 t64 t65 t66 t67 t68 t69 t70 t71 t72 t73 t74 t75 t76 t77 t78 t79 t80 t81 t82 t83 t84 t85 t86 t87 t88 t89 t90 t91 t92 t93 t94 t95 t96 t97 t98 t99 t100 t101 t102 t103 : Value), Answ W3.heap.size W5 gg xg yg r → Below W3.heap.size W3 W5 → K1 ⟨#[t0, t1, .pointer (some ⟨w.heap.size, 0, none⟩), .pointer (some ⟨w.heap.size + 1, 0, none⟩), t4, t5, .pointer (some ⟨gw, 0, none⟩), .int .i64 code, .pointer (some ⟨gx, 0, none⟩), .pointer (some ⟨gg, 0, none⟩), .int .i64 code, t11, t12, t13, t14, t15, t16, t17, t18, t19, t20, t21, t22, t23, t24, t25, t26, t27, t28, t29, t30, t31, t32, t33, t34, t35, t36, t37, t38, t39, t40, t41, t42, t43, t44, t45, t46, t47, t48, t49, t50, t51, t52, t53, t54, t55, t56, t57, t58, t59, t60, t61, t62, t63, t64, t65, t66, t67, t68, t69, t70, t71, t72, t73, t74, t75, t76, t77, t78, t79, t80, t81, t82, t83, t84, t85, t86, t87, t88, t89, t90, t91, t92, t93, t94, t95, t96, t97, t98, t99, t100, t101, t102, t103], []⟩ W5 := by
      intro gg W5 xg yg t0 t1 t4 t5 t11 t12 t13 t14 t15 t16 t17 t18 t19 t20 t21 t22 t23 t24 t25 t26 t27 t28 t29 t30 t31 t32 t33 t34 t35 t36 t37 t38 t39 t40 t41 t42 t43 t44 t45 t46 t47 t48 t49 t50 t51 t52 t53 t54 t55 t56 t57 t58 t59 t60 t61 t62 t63 t64 t65 t66 t67 t68 t69 t70 t71 t72 t73 t74 t75 t76 t77 t78 t79 t80 t81 t82 t83 t84 t85 t86 t87 t88 t89 t90 t91 t92 t93 t94 t95 t96 t97 t98 t99 t100 t101 t102 t103 hg hb5
      refine hK1 _ _ ?_
      have ha5 := ha0.below hb5
      have hx5 := hx0.below hb5
      have c5 := hb0.trans (hb5.mono hb0.size)
      have hx5W : W.heap.size ≤ W5.heap.size := by have := hx0.lo; have := hx0.lt; have := hb5.size; omega
      obtain ⟨⟨j0, j1, j2, j3, j4⟩, ⟨i0, i1, i2⟩⟩ := hS W5 c5
      obtain ⟨l0, l1, l2, l3, l4⟩ := bbox ha5.box
      obtain ⟨m0, m1, m2, m3, m4⟩ := bbox hg.box
      obtain ⟨pw, cw, rfl⟩ := ha5.own.1.form
      obtain ⟨pw', cw', rfl⟩ := ha5.own.2.1.form
      obtain ⟨pg, cg, rfl⟩ := hg.own.1.form
      obtain ⟨pg', cg', rfl⟩ := hg.own.2.1.form
      go_wp2_with fail
      refine (eqBand_same r _ _ _ _ _ hg.own.sl ha5.own.sl).mono ?_
      rintro e1 w6 ⟨rfl, b6⟩
      have ha6 := ha5.below b6
      have hx6 := hx5.below b6
      have hg6 := hg.below b6
      have c6 := c5.trans (b6.mono c5.size)
      clear j0 j1 j2 j3 j4 i0 i1 i2 l0 l1 l2 l3 l4 m0 m1 m2 m3 m4 k0 k1 k2 k3 k4
      simp only []
      go_at_K
      obtain ⟨⟨j0, j1, j2, j3, j4⟩, ⟨i0, i1, i2⟩⟩ := hS w6 c6
      obtain ⟨k0, k1, k2, k3, k4⟩ := bbox hx6.box
      go_wp2_with fail
      have hS3 : ∀ w', Below w6.heap.size w6 w' → (w'.cell? ⟨gx, 0, none⟩ = some (.int .i64 b.qu) ∧ w'.cell? ⟨gx, 1, none⟩ = some (.int .i64 b.po) ∧ w'.cell? ⟨gx, 2, none⟩ = some (.int .i64 b.sp) ∧ w'.cell? ⟨gx, 3, none⟩ = some (.slice p3 b.lo.length c3) ∧ w'.cell? ⟨gx, 4, none⟩ = some (.slice p3' b.dr.length c3')) ∧ (w'.cell? ⟨w.heap.size, 0, none⟩ = some (.int .i64 b.qu) ∧ w'.cell? ⟨w.heap.size, 1, none⟩ = some (.int .i64 b.po) ∧ w'.cell? ⟨w.heap.size, 2, none⟩ = some (.int .i64 b.sp) ∧ w'.cell? ⟨w.heap.size, 3, none⟩ = some x ∧ w'.cell? ⟨w.heap.size, 4, none⟩ = some y) := by
        intro w' hb
        obtain ⟨m0, m1, m2, m3, m4⟩ := bbox ((hb.block gx hx6.lt).trans hx6.box)
        exact ⟨⟨m0, m1, m2, m3, m4⟩, (hS w' (c6.trans (hb.mono c6.size))).1⟩
      refine wp_region_noPanic ?_
      have Cc0 : Below w6.heap.size w6 w6.drew := (Below.refl _ w6).drew
      refine wp_region_J 4 (fun w' => (w'.cell? ⟨gx, 0, none⟩ = some (.int .i64 b.qu) ∧ w'.cell? ⟨gx, 1, none⟩ = some (.int .i64 b.po) ∧ w'.cell? ⟨gx, 2, none⟩ = some (.int .i64 b.sp) ∧ w'.cell? ⟨gx, 3, none⟩ = some (.slice p3 b.lo.length c3) ∧ w'.cell? ⟨gx, 4, none⟩ = some (.slice p3' b.dr.length c3')) ∧ (w'.cell? ⟨w.heap.size, 0, none⟩ = some (.int .i64 b.qu) ∧ w'.cell? ⟨w.heap.size, 1, none⟩ = some (.int .i64 b.po) ∧ w'.cell? ⟨w.heap.size, 2, none⟩ = some (.int .i64 b.sp) ∧ w'.cell? ⟨w.heap.size, 3, none⟩ = some x ∧ w'.cell? ⟨w.heap.size, 4, none⟩ = some y)) (fun _ => True) (by kernel_rfl) (hS3 _ Cc0) trivial ?_
      refine JJ_take0 (i := 0) (v := ?vC1) rfl (by kernel_rfl) (by kernel_rfl) (by kernel_rfl) (by decide) (fun _ _ _ h => h) (Or.inl ⟨by rfl, ?yC1⟩) ?rC1
      case yC1 => ((intro w hSw; (try dsimp only at hSw); go_simp) <;> with_reducible rfl)
      try simp only [Act.put, List.setIfInBounds_toArray, List.set_cons_zero, List.set_cons_succ]
      refine JJ_take0 (i := 1) (v := ?vC2) rfl (by kernel_rfl) (by kernel_rfl) (by kernel_rfl) (by decide) (fun _ _ _ h => h) (Or.inl ⟨by rfl, ?yC2⟩) ?rC2
      case yC2 => ((intro w hSw; (try dsimp only at hSw); go_simp) <;> with_reducible rfl)
      try simp only [Act.put, List.setIfInBounds_toArray, List.set_cons_zero, List.set_cons_succ]
      refine JJ_one (i := 2) (by kernel_rfl) rfl (fun hT K hK => ?_)
      clear hT
      go_simp
      go_at_call 20
      refine (toBand_any b x y _ (hs.below (b2.trans ((c6.trans (Cc0.mono c6.size)).mono b2.size))) hl hd).mono ?_
      rintro e1 Cw1 ⟨x7, y7, rfl, Cq1, Cb1⟩
      replace Cb1 := Cc0.trans (Cb1.mono Cc0.size)
      have Cc1 := Cb1
      obtain ⟨p7, c7, rfl⟩ := Cq1.1.form
      obtain ⟨p7', c7', rfl⟩ := Cq1.2.1.form
      unfold baV
      simp only []
      refine hK.out _ _ ⟨hS3 _ Cc1, fun _ => trivial⟩ ?_
      clear hK K
      try simp only [Act.put, List.setIfInBounds_toArray, List.set_cons_zero, List.set_cons_succ]
      refine JJ_one (i := 3) (by kernel_rfl) rfl (fun hT K hK => ?_)
      clear hT
      go_simp
      go_at_call 21
      refine (eqBand_same b _ _ _ _ _ (hx6.own.below Cb1).sl Cq1.sl).mono ?_
      rintro e1 Cw2 ⟨rfl, Cb2⟩
      have Cc2 := Cc1.trans (Cb2.mono Cc1.size)
      simp only []
      refine hK.out _ _ ⟨hS3 _ Cc2, fun _ => trivial⟩ ?_
      clear hK K
      try simp only [Act.put, List.setIfInBounds_toArray, List.set_cons_zero, List.set_cons_succ]
      refine JJ_one (i := 4) (by kernel_rfl) rfl (fun hT K hK => ?_)
      clear hT
      go_simp
      refine hK.out _ _ ⟨hS3 _ Cc2, fun _ => trivial⟩ ?_
      clear hK K
      try simp only [Act.put, List.setIfInBounds_toArray, List.set_cons_zero, List.set_cons_succ]
      refine JJ_done (by kernel_rfl) ?_ _
      refine NoPanic.normal ?_
      have ha8 := (ha6.below Cb1).below Cb2
      have hx8 := (hx6.below Cb1).below Cb2
      have hg8 := (hg6.below Cb1).below Cb2
      have c8 := (c6.trans (Cb1.mono c6.size)).trans (Cb2.mono (Nat.le_trans c6.size Cb1.size))
      have s8 : W.heap.size ≤ Cw2.heap.size := Nat.le_trans hx5W (Nat.le_trans b6.size (Nat.le_trans Cb1.size Cb2.size))
      clear j0 j1 j2 j3 j4 i0 i1 i2 k0 k1 k2 k3 k4
      obtain ⟨k0, k1, k2, k3, k4⟩ := bbox hx8.box
      go_wp2_with fail
      refine (markBand_any b _ _ W.heap.size Cw2 hx8.own s8 hl hd 1 (by decide) (by decide)).mono ?_
      rintro e1 w9 ⟨rfl, ox9, K9⟩
      have atx := hx0.own.1.at
      have atx' := hx0.own.2.1.at
      have atg := hg.own.1.at
      have atg' := hg.own.2.1.at
      have s3W : W.heap.size ≤ W3.heap.size := by have := hx0.lo; have := hx0.lt; omega
      have hgglo := hg.lo
      have ha9 := ha8.kept K9 (by rintro (h | h); (have := atx _ h; omega); (have := atx' _ h; omega)) (by rintro g hg (h | h); (have := atx _ h; have := atw _ hg; omega); (have := atx' _ h; have := atw _ hg; omega)) (by rintro g hg (h | h); (have := atx _ h; have := atw' _ hg; omega); (have := atx' _ h; have := atw' _ hg; omega))
      have hg9 := hg8.kept K9 (by rintro (h | h); (have := atx _ h; omega); (have := atx' _ h; omega)) (by rintro g hg (h | h); (have := atx _ h; have := atg _ hg; omega); (have := atx' _ h; have := atg _ hg; omega)) (by rintro g hg (h | h); (have := atx _ h; have := atg' _ hg; omega); (have := atx' _ h; have := atg' _ hg; omega))
      have c9 := c8.trans (K9.toBelow c8.size (by have := hbW.size; rintro k (h | h); (have := atx _ h; omega); (have := atx' _ h; omega)))
      have pk : ¬ (1 : Int) + (b.lo.length : Int) + (b.dr.length : Int) < 0 := by omega
      clear k0 k1 k2 k3 k4
      obtain ⟨l0, l1, l2, l3, l4⟩ := bbox ha9.box
      obtain ⟨m0, m1, m2, m3, m4⟩ := bbox hg9.box
      simp only []
      go_at_K
      go_wp2_with fail
      refine (eqBand_same r _ _ _ _ _ hg9.own.sl ha9.own.sl).mono ?_
      rintro e1 w10 ⟨rfl, b10⟩
      have ha10 := ha9.below b10
      have hg10 := hg9.below b10
      have c10 := c9.trans (b10.mono c9.size)
      have s10 : W3.heap.size ≤ w10.heap.size := Nat.le_trans hb5.size (Nat.le_trans b6.size (Nat.le_trans Cb1.size (Nat.le_trans Cb2.size (Nat.le_trans K9.size b10.size))))
      clear l0 l1 l2 l3 l4 m0 m1 m2 m3 m4 pk
      obtain ⟨m0, m1, m2, m3, m4⟩ := bbox hg10.box
      simp only []
      go_at_K
      go_wp2_with fail
      refine (markBand_any r _ _ W3.heap.size w10 hg10.own s10 (by omega) (by omega) 1 (by decide) (by decide)).mono ?_
      rintro e1 w11 ⟨rfl, og11, K11⟩
      have gwlt : gw < W3.heap.size := by omega
      have ha11 := ha10.kept K11 (by rintro (h | h); (have := atg _ h; omega); (have := atg' _ h; omega)) (by rintro g hg (h | h); (have := atg _ h; have := atw _ hg; omega); (have := atg' _ h; have := atw _ hg; omega)) (by rintro g hg (h | h); (have := atg _ h; have := atw' _ hg; omega); (have := atg' _ h; have := atw' _ hg; omega))
      have hG11 := (K11.block gg hg10.lt (by rintro (h | h); (exact hg10.nx _ h rfl); (exact hg10.ny _ h rfl))).trans hg10.box
      have c11 := c10.trans (K11.toBelow c10.size (by have := hb0.size; rintro k (h | h); (have := atg _ h; omega); (have := atg' _ h; omega)))
      have hGl11 := (Array.getElem?_eq_some_iff.1 hG11).1
      clear m0 m1 m2 m3 m4
      obtain ⟨m0, m1, m2, m3, m4⟩ := bbox hG11
      simp only []
      go_at_K
      go_wp2_with fail
      refine (heldBand_any r _ _ w11 1 og11.sl (by omega) (by omega) (by decide) (by decide)).mono ?_
      rintro e1 w12 ⟨rfl, b12⟩
      have ha12 := ha11.below b12
      have og12 := og11.below b12
      have hG12 := (b12.block gg hGl11).trans hG11
      have c12 := c11.trans (b12.mono c11.size)
      have pq : ¬ (1 : Int) + (r.lo.length : Int) + (r.dr.length : Int) < 0 := by omega
      clear m0 m1 m2 m3 m4
      obtain ⟨⟨j0, j1, j2, j3, j4⟩, ⟨i0, i1, i2⟩⟩ := hS w12 c12
      simp only []
      go_at_K
      go_wp2_with fail
      rename_i K3 hK3
      have hS4 : ∀ w', Below w12.heap.size w12 w' → (w'.cell? ⟨w.heap.size, 0, none⟩ = some (.int .i64 b.qu) ∧ w'.cell? ⟨w.heap.size, 1, none⟩ = some (.int .i64 b.po) ∧ w'.cell? ⟨w.heap.size, 2, none⟩ = some (.int .i64 b.sp) ∧ w'.cell? ⟨w.heap.size, 3, none⟩ = some x ∧ w'.cell? ⟨w.heap.size, 4, none⟩ = some y) ∧ (w'.cell? ⟨w.heap.size + 1, 0, none⟩ = some (.int .i64 k) ∧ w'.cell? ⟨w.heap.size + 1, 1, none⟩ = some (.int .i64 c) ∧ w'.cell? ⟨w.heap.size + 1, 2, none⟩ = some (.int .i64 n)) := fun w' hb => hS w' (c12.trans (hb.mono c12.size))
      have cont3 : ∀ (gh : Nat) (W13 : World) (xh yh t0 t1 t4 t5 t11 t13 t16 t17 t18 t19 t20 t21 t22 t23 t24 t25 t26 t27 t28 t29 t30 t31 t32 t33 t34 t35 t36 t37 t38 t39 t40 t41 t42 t43 t44 t45 t46 t47 t48 t49 t50 t51 t52 t53 t54 t55 t56 t57 t58 t59 t60 t61 t62 t63 t64 t65 t66 t67 t68 t69 t70 t71 t72 t73 t74 t75 t76 t77 t78 t79 t80 t81 t82 t83 t84 t85 t86 t87 t88 t89 t90 t91 t92 t93 t94 t95 t96 t97 t98 t99 t100 t101 t102 t103 : Value), Answ w12.heap.size W13 gh xh yh r → Below w12.heap.size w12 W13 → K3 ⟨#[t0, t1, .pointer (some ⟨w.heap.size, 0, none⟩), .pointer (some ⟨w.heap.size + 1, 0, none⟩), t4, t5, .pointer (some ⟨gw, 0, none⟩), .int .i64 code, .pointer (some ⟨gx, 0, none⟩), .pointer (some ⟨gg, 0, none⟩), .int .i64 code, t11, .int .i64 (1 + (r.lo.length : Int) + (r.dr.length : Int)), t13, .pointer (some ⟨gh, 0, none⟩), .int .i64 code, t16, t17, t18, t19, t20, t21, t22, t23, t24, t25, t26, t27, t28, t29, t30, t31, t32, t33, t34, t35, t36, t37, t38, t39, t40, t41, t42, t43, t44, t45, t46, t47, t48, t49, t50, t51, t52, t53, t54, t55, t56, t57, t58, t59, t60, t61, t62, t63, t64, t65, t66, t67, t68, t69, t70, t71, t72, t73, t74, t75, t76, t77, t78, t79, t80, t81, t82, t83, t84, t85, t86, t87, t88, t89, t90, t91, t92, t93, t94, t95, t96, t97, t98, t99, t100, t101, t102, t103], []⟩ W13 := by
        intro gh W13 xh yh t0 t1 t4 t5 t11 t13 t16 t17 t18 t19 t20 t21 t22 t23 t24 t25 t26 t27 t28 t29 t30 t31 t32 t33 t34 t35 t36 t37 t38 t39 t40 t41 t42 t43 t44 t45 t46 t47 t48 t49 t50 t51 t52 t53 t54 t55 t56 t57 t58 t59 t60 t61 t62 t63 t64 t65 t66 t67 t68 t69 t70 t71 t72 t73 t74 t75 t76 t77 t78 t79 t80 t81 t82 t83 t84 t85 t86 t87 t88 t89 t90 t91 t92 t93 t94 t95 t96 t97 t98 t99 t100 t101 t102 t103 hh13 hb13
        refine hK3 _ _ ?_
        have ha13 := ha12.below hb13
        have og13 := og12.below hb13
        have hG13 := (hb13.block gg (Array.getElem?_eq_some_iff.1 hG12).1).trans hG12
        have c13 := c12.trans (hb13.mono c12.size)
        obtain ⟨ph, ch, rfl⟩ := hh13.own.1.form
        obtain ⟨ph', ch', rfl⟩ := hh13.own.2.1.form
        obtain ⟨l0, l1, l2, l3, l4⟩ := bbox ha13.box
        obtain ⟨m0, m1, m2, m3, m4⟩ := bbox hh13.box
        go_wp2_with fail
        refine (eqBand_same r _ _ _ _ _ hh13.own.sl ha13.own.sl).mono ?_
        rintro e1 w14 ⟨rfl, b14⟩
        have og14 := og13.below b14
        have hG14 := (b14.block gg (Array.getElem?_eq_some_iff.1 hG13).1).trans hG13
        have c14 := c13.trans (b14.mono c13.size)
        clear l0 l1 l2 l3 l4 m0 m1 m2 m3 m4
        obtain ⟨m0, m1, m2, m3, m4⟩ := bbox hG14
        simp only []
        go_at_K
        go_wp2_with fail
        refine (heldBand_any r _ _ w14 1 og14.sl (by omega) (by omega) (by decide) (by decide)).mono ?_
        rintro e1 w15 ⟨rfl, b15⟩
        simp only []
        go_at_K
        go_wp2_with fail
        go_ret
        exact ⟨rfl, b2.trans ((c14.trans (b15.mono c14.size)).mono b2.size)⟩
      refine wp_region_noPanic ?_
      have Dc0 : Below w12.heap.size w12 w12.drew := (Below.refl _ w12).drew
      refine wp_region_J 10 (fun w' => (w'.cell? ⟨w.heap.size, 0, none⟩ = some (.int .i64 b.qu) ∧ w'.cell? ⟨w.heap.size, 1, none⟩ = some (.int .i64 b.po) ∧ w'.cell? ⟨w.heap.size, 2, none⟩ = some (.int .i64 b.sp) ∧ w'.cell? ⟨w.heap.size, 3, none⟩ = some x ∧ w'.cell? ⟨w.heap.size, 4, none⟩ = some y) ∧ (w'.cell? ⟨w.heap.size + 1, 0, none⟩ = some (.int .i64 k) ∧ w'.cell? ⟨w.heap.size + 1, 1, none⟩ = some (.int .i64 c) ∧ w'.cell? ⟨w.heap.size + 1, 2, none⟩ = some (.int .i64 n))) (fun _ => True) (by kernel_rfl) (hS4 _ Dc0) trivial ?_
      refine JJ_take0 (i := 0) (v := ?vD1) rfl (by kernel_rfl) (by kernel_rfl) (by kernel_rfl) (by decide) (fun _ _ _ h => h) (Or.inl ⟨by rfl, ?yD1⟩) ?rD1
      case yD1 => ((intro w hSw; (try dsimp only at hSw); go_simp) <;> with_reducible rfl)
      try simp only [Act.put, List.setIfInBounds_toArray, List.set_cons_zero, List.set_cons_succ]
      refine JJ_take0 (i := 2) (v := ?vD2) rfl (by kernel_rfl) (by kernel_rfl) (by kernel_rfl) (by decide) (fun _ _ _ h => h) (Or.inl ⟨by rfl, ?yD2⟩) ?rD2
      case yD2 => ((intro w hSw; (try dsimp only at hSw); go_simp) <;> with_reducible rfl)
      try simp only [Act.put, List.setIfInBounds_toArray, List.set_cons_zero, List.set_cons_succ]
      refine JJ_two (i := 1) (j := 8) (by kernel_rfl) rfl rfl (fun hT K hK => ?_) (fun hT K hK => ?_)
      · clear hT
        go_simp
        go_at_call 20
        refine (toBand_any b x y _ (hs.below (b2.trans ((c12.trans (Dc0.mono c12.size)).mono b2.size))) hl hd).mono ?_
        rintro e1 Dw1 ⟨x8, y8, rfl, Dq1, Db1⟩
        have Dc1 := Dc0.trans (Db1.mono Dc0.size)
        unfold baV
        simp only []
        refine hK.out _ _ ⟨hS4 _ Dc1, fun _ => trivial⟩ ?_
        clear hK K
        try simp only [Act.put, List.setIfInBounds_toArray, List.set_cons_zero, List.set_cons_succ]
        refine JJ_two (i := 3) (j := 8) (by kernel_rfl) rfl rfl (fun hT K hK => ?_) (fun hT K hK => ?_)
        · clear hT
          go_simp
          go_at_call 26
          refine (hop _).mono ?_
          rintro e1 Dw2 ⟨rfl, Db2⟩
          have Dc2 := Dc1.trans (Db2.mono Dc1.size)
          have Dq2 := Dq1.below Db2
          simp only []
          refine hK.out _ _ ⟨hS4 _ Dc2, fun _ => trivial⟩ ?_
          clear hK K
          try simp only [Act.put, List.setIfInBounds_toArray, List.set_cons_zero, List.set_cons_succ]
          refine JJ_two (i := 4) (j := 8) (by kernel_rfl) rfl rfl (fun hT K hK => ?_) (fun hT K hK => ?_)
          · clear hT
            go_simp
            go_at_call 11
            refine (himpl _ _ _ Dq2.sl).mono ?_
            rintro e1 Dw3 ⟨x2, y2, rfl, Do3, Db3⟩
            have Dc3 := Dc2.trans (Db3.mono Dc2.size)
            have Dq3 := Dq2.below Db3
            have Dlow3 : w12.heap.size ≤ _ := Dc2.size
            obtain ⟨u2, v2, rfl⟩ := Do3.1.form
            obtain ⟨u2', v2', rfl⟩ := Do3.2.1.form
            unfold baV
            simp only []
            refine hK.out _ _ ⟨hS4 _ Dc3, fun _ => trivial⟩ ?_
            clear hK K
            try simp only [Act.put, List.setIfInBounds_toArray, List.set_cons_zero, List.set_cons_succ]
            refine JJ_take0 (i := 5) (v := ?vD3) rfl (by kernel_rfl) (by kernel_rfl) (by kernel_rfl) (by decide) (fun _ _ _ h => h) (Or.inl ⟨by rfl, ?yD3⟩) ?rD3
            case yD3 => ((intro w hSw; (try dsimp only at hSw); go_simp) <;> with_reducible rfl)
            try simp only [Act.put, List.setIfInBounds_toArray, List.set_cons_zero, List.set_cons_succ]
            refine JJ_take0 (i := 6) (v := ?vD4) rfl (by kernel_rfl) (by kernel_rfl) (by kernel_rfl) (by decide) (fun _ _ _ h => h) (Or.inl ⟨by rfl, ?yD4⟩) ?rD4
            case yD4 => ((intro w hSw; (try dsimp only at hSw); go_simp) <;> with_reducible rfl)
            try simp only [Act.put, List.setIfInBounds_toArray, List.set_cons_zero, List.set_cons_succ]
            refine JJ_take0 (i := 7) (v := ?vD5) rfl (by kernel_rfl) (by kernel_rfl) (by kernel_rfl) (by decide) (fun _ _ _ h => h) (Or.inl ⟨by rfl, ?yD5⟩) ?rD5
            case yD5 => ((intro w hSw; (try dsimp only at hSw); go_simp) <;> with_reducible rfl)
            try simp only [Act.put, List.setIfInBounds_toArray, List.set_cons_zero, List.set_cons_succ]
            refine JJ_one (i := 8) (by kernel_rfl) rfl (fun hT K hK => ?_)
            clear hT
            go_simp
            have Dc4 := Dc3.alloc Dc3.size (.cells #[.int .i64 0, .int .i64 0, .int .i64 0, .slice none 0 0, .slice none 0 0] 26 (0, 0))
            have Dz4 := heap_alloc_new Dw3 (.cells #[.int .i64 0, .int .i64 0, .int .i64 0, .slice none 0 0, .slice none 0 0] 26 (0, 0))
            have De4 : Below Dw3.heap.size Dw3 (Dw3.alloc (.cells #[.int .i64 0, .int .i64 0, .int .i64 0, .slice none 0 0, .slice none 0 0] 26 (0, 0))) := (Below.refl _ _).alloc (Nat.le_refl _) _
            have Dg := Dc3.size
            refine hK.out _ _ ⟨hS4 _ Dc4, fun _ => trivial⟩ ?_
            clear hK K
            try simp only [Act.put, List.setIfInBounds_toArray, List.set_cons_zero, List.set_cons_succ]
            refine JJ_one (i := 9) (by kernel_rfl) rfl (fun hT K hK => ?_)
            clear hT
            go_simp
            refine hK.out _ _ ⟨hS4 _ (Dc3.alloc Dc3.size _), fun _ => trivial⟩ ?_
            clear hK K
            try simp only [Act.put, List.setIfInBounds_toArray, List.set_cons_zero, List.set_cons_succ]
            refine JJ_one (i := 10) (by kernel_rfl) rfl (fun hT K hK => ?_)
            clear hT
            go_simp
            refine hK.out _ _ ⟨hS4 _ (Dc3.alloc Dc3.size _), fun h => trivial⟩ ?_
            clear hK K
            try simp only [Act.put, List.setIfInBounds_toArray, List.set_cons_zero, List.set_cons_succ]
            refine JJ_done (by kernel_rfl) ?_ _
            refine NoPanic.normal ?_
            exact cont3 _ _ _ _ _ _ _ _ _ _ _ _ _ _ _ _ _ _ _ _ _ _ _ _ _ _ _ _ _ _ _ _ _ _ _ _ _ _ _ _ _ _ _ _ _ _ _ _ _ _ _ _ _ _ _ _ _ _ _ _ _ _ _ _ _ _ _ _ _ _ _ _ _ _ _ _ _ _ _ _ _ _ _ _ _ _ _ _ _ _ _ _ _ _ _ _ _ _ (ans_after Do3 Dlow3 Dc3.size) (Dc3.alloc Dc3.size _)
          · clear hT
            go_simp
            have Dc3 := Dc2.alloc Dc2.size (.cells #[.int .i64 0, .int .i64 0, .int .i64 0, .slice none 0 0, .slice none 0 0] 26 (0, 0))
            have Dz3 := heap_alloc_new Dw2 (.cells #[.int .i64 0, .int .i64 0, .int .i64 0, .slice none 0 0, .slice none 0 0] 26 (0, 0))
            have De3 : Below Dw2.heap.size Dw2 (Dw2.alloc (.cells #[.int .i64 0, .int .i64 0, .int .i64 0, .slice none 0 0, .slice none 0 0] 26 (0, 0))) := (Below.refl _ _).alloc (Nat.le_refl _) _
            have Dg := Dc2.size
            have Dq3 := Dq2.below De3
            refine hK.out _ _ ⟨hS4 _ Dc3, fun _ => trivial⟩ ?_
            clear hK K
            try simp only [Act.put, List.setIfInBounds_toArray, List.set_cons_zero, List.set_cons_succ]
            refine JJ_one (i := 4) (by kernel_rfl) rfl (fun hT K hK => ?_)
            clear hT
            go_simp
            go_at_call 11
            refine (himpl _ _ _ Dq3.sl).mono ?_
            rintro e1 Dw4 ⟨x2, y2, rfl, Do4, Db4⟩
            have Dc4 := Dc3.trans (Db4.mono Dc3.size)
            have Dz4 := (Db4.block _ (Array.getElem?_eq_some_iff.1 Dz3).1).trans Dz3
            have Dq4 := Dq3.below Db4
            have Dgt4 := (Array.getElem?_eq_some_iff.1 Dz3).1
            have Dlow4 : w12.heap.size ≤ _ := Dc3.size
            obtain ⟨u2, v2, rfl⟩ := Do4.1.form
            obtain ⟨u2', v2', rfl⟩ := Do4.2.1.form
            unfold baV
            simp only []
            refine hK.out _ _ ⟨hS4 _ Dc4, fun _ => trivial⟩ ?_
            clear hK K
            try simp only [Act.put, List.setIfInBounds_toArray, List.set_cons_zero, List.set_cons_succ]
            refine JJ_take0 (i := 5) (v := ?vD6) rfl (by kernel_rfl) (by kernel_rfl) (by kernel_rfl) (by decide) (fun _ _ _ h => h) (Or.inl ⟨by rfl, ?yD6⟩) ?rD6
            case yD6 => ((intro w hSw; (try dsimp only at hSw); go_simp) <;> with_reducible rfl)
            try simp only [Act.put, List.setIfInBounds_toArray, List.set_cons_zero, List.set_cons_succ]
            refine JJ_take0 (i := 6) (v := ?vD7) rfl (by kernel_rfl) (by kernel_rfl) (by kernel_rfl) (by decide) (fun _ _ _ h => h) (Or.inl ⟨by rfl, ?yD7⟩) ?rD7
            case yD7 => ((intro w hSw; (try dsimp only at hSw); go_simp) <;> with_reducible rfl)
            try simp only [Act.put, List.setIfInBounds_toArray, List.set_cons_zero, List.set_cons_succ]
            refine JJ_take0 (i := 7) (v := ?vD8) rfl (by kernel_rfl) (by kernel_rfl) (by kernel_rfl) (by decide) (fun _ _ _ h => h) (Or.inl ⟨by rfl, ?yD8⟩) ?rD8
            case yD8 => ((intro w hSw; (try dsimp only at hSw); go_simp) <;> with_reducible rfl)
            try simp only [Act.put, List.setIfInBounds_toArray, List.set_cons_zero, List.set_cons_succ]
            obtain ⟨z0, z1, z2, z3, z4⟩ := bbox Dz4
            obtain ⟨zf0, zf1, zf2, zf3, zf4⟩ := bboxf Dz4
            refine JJ_one (i := 9) (by kernel_rfl) rfl (fun hT K hK => ?_)
            clear hT
            go_simp
            have Dcc := Dc4.trans ((Kept.five Dw4 _ (.int .i64 r.qu) (.int .i64 r.po) (.int .i64 r.sp) (.slice u2 r.lo.length v2) (.slice u2' r.dr.length v2')).toBelow Dc4.size (by intro k hk; rw [hk]; exact Dg))
            refine hK.out _ _ ⟨hS4 _ Dcc, fun _ => trivial⟩ ?_
            clear hK K
            try simp only [Act.put, List.setIfInBounds_toArray, List.set_cons_zero, List.set_cons_succ]
            refine JJ_one (i := 10) (by kernel_rfl) rfl (fun hT K hK => ?_)
            clear hT
            go_simp
            refine hK.out _ _ ⟨hS4 _ Dcc, fun h => trivial⟩ ?_
            clear hK K
            try simp only [Act.put, List.setIfInBounds_toArray, List.set_cons_zero, List.set_cons_succ]
            refine JJ_done (by kernel_rfl) ?_ _
            refine NoPanic.normal ?_
            exact cont3 _ _ _ _ _ _ _ _ _ _ _ _ _ _ _ _ _ _ _ _ _ _ _ _ _ _ _ _ _ _ _ _ _ _ _ _ _ _ _ _ _ _ _ _ _ _ _ _ _ _ _ _ _ _ _ _ _ _ _ _ _ _ _ _ _ _ _ _ _ _ _ _ _ _ _ _ _ _ _ _ _ _ _ _ _ _ _ _ _ _ _ _ _ _ _ _ _ _ (ans_before Dz4 Do4 Dgt4 Dg) Dcc
        · clear hT
          go_simp
          have Dc2 := Dc1.alloc Dc1.size (.cells #[.int .i64 0, .int .i64 0, .int .i64 0, .slice none 0 0, .slice none 0 0] 26 (0, 0))
          have Dz2 := heap_alloc_new Dw1 (.cells #[.int .i64 0, .int .i64 0, .int .i64 0, .slice none 0 0, .slice none 0 0] 26 (0, 0))
          have De2 : Below Dw1.heap.size Dw1 (Dw1.alloc (.cells #[.int .i64 0, .int .i64 0, .int .i64 0, .slice none 0 0, .slice none 0 0] 26 (0, 0))) := (Below.refl _ _).alloc (Nat.le_refl _) _
          have Dg := Dc1.size
          have Dq2 := Dq1.below De2
          refine hK.out _ _ ⟨hS4 _ Dc2, fun _ => trivial⟩ ?_
          clear hK K
          try simp only [Act.put, List.setIfInBounds_toArray, List.set_cons_zero, List.set_cons_succ]
          refine JJ_one (i := 3) (by kernel_rfl) rfl (fun hT K hK => ?_)
          clear hT
          go_simp
          go_at_call 26
          refine (hop _).mono ?_
          rintro e1 Dw3 ⟨rfl, Db3⟩
          have Dc3 := Dc2.trans (Db3.mono Dc2.size)
          have Dz3 := (Db3.block _ (Array.getElem?_eq_some_iff.1 Dz2).1).trans Dz2
          have Dq3 := Dq2.below Db3
          have Dgt3 := (Array.getElem?_eq_some_iff.1 Dz2).1
          simp only []
          refine hK.out _ _ ⟨hS4 _ Dc3, fun _ => trivial⟩ ?_
          clear hK K
          try simp only [Act.put, List.setIfInBounds_toArray, List.set_cons_zero, List.set_cons_succ]
          refine JJ_one (i := 4) (by kernel_rfl) rfl (fun hT K hK => ?_)
          clear hT
          go_simp
          go_at_call 11
          refine (himpl _ _ _ Dq3.sl).mono ?_
          rintro e1 Dw4 ⟨x2, y2, rfl, Do4, Db4⟩
          have Dc4 := Dc3.trans (Db4.mono Dc3.size)
          have Dz4 := (Db4.block _ (Array.getElem?_eq_some_iff.1 Dz3).1).trans Dz3
          have Dq4 := Dq3.below Db4
          have Dgt4 := (Array.getElem?_eq_some_iff.1 Dz3).1
          have Dlow4 : w12.heap.size ≤ _ := Dc3.size
          obtain ⟨u2, v2, rfl⟩ := Do4.1.form
          obtain ⟨u2', v2', rfl⟩ := Do4.2.1.form
          unfold baV
          simp only []
          refine hK.out _ _ ⟨hS4 _ Dc4, fun _ => trivial⟩ ?_
          clear hK K
          try simp only [Act.put, List.setIfInBounds_toArray, List.set_cons_zero, List.set_cons_succ]
          refine JJ_take0 (i := 5) (v := ?vD9) rfl (by kernel_rfl) (by kernel_rfl) (by kernel_rfl) (by decide) (fun _ _ _ h => h) (Or.inl ⟨by rfl, ?yD9⟩) ?rD9
          case yD9 => ((intro w hSw; (try dsimp only at hSw); go_simp) <;> with_reducible rfl)
          try simp only [Act.put, List.setIfInBounds_toArray, List.set_cons_zero, List.set_cons_succ]
          refine JJ_take0 (i := 6) (v := ?vD10) rfl (by kernel_rfl) (by kernel_rfl) (by kernel_rfl) (by decide) (fun _ _ _ h => h) (Or.inl ⟨by rfl, ?yD10⟩) ?rD10
          case yD10 => ((intro w hSw; (try dsimp only at hSw); go_simp) <;> with_reducible rfl)
          try simp only [Act.put, List.setIfInBounds_toArray, List.set_cons_zero, List.set_cons_succ]
          refine JJ_take0 (i := 7) (v := ?vD11) rfl (by kernel_rfl) (by kernel_rfl) (by kernel_rfl) (by decide) (fun _ _ _ h => h) (Or.inl ⟨by rfl, ?yD11⟩) ?rD11
          case yD11 => ((intro w hSw; (try dsimp only at hSw); go_simp) <;> with_reducible rfl)
          try simp only [Act.put, List.setIfInBounds_toArray, List.set_cons_zero, List.set_cons_succ]
          obtain ⟨z0, z1, z2, z3, z4⟩ := bbox Dz4
          obtain ⟨zf0, zf1, zf2, zf3, zf4⟩ := bboxf Dz4
          refine JJ_one (i := 9) (by kernel_rfl) rfl (fun hT K hK => ?_)
          clear hT
          go_simp
          have Dcc := Dc4.trans ((Kept.five Dw4 _ (.int .i64 r.qu) (.int .i64 r.po) (.int .i64 r.sp) (.slice u2 r.lo.length v2) (.slice u2' r.dr.length v2')).toBelow Dc4.size (by intro k hk; rw [hk]; exact Dg))
          refine hK.out _ _ ⟨hS4 _ Dcc, fun _ => trivial⟩ ?_
          clear hK K
          try simp only [Act.put, List.setIfInBounds_toArray, List.set_cons_zero, List.set_cons_succ]
          refine JJ_one (i := 10) (by kernel_rfl) rfl (fun hT K hK => ?_)
          clear hT
          go_simp
          refine hK.out _ _ ⟨hS4 _ Dcc, fun h => trivial⟩ ?_
          clear hK K
          try simp only [Act.put, List.setIfInBounds_toArray, List.set_cons_zero, List.set_cons_succ]
          refine JJ_done (by kernel_rfl) ?_ _
          refine NoPanic.normal ?_
          exact cont3 _ _ _ _ _ _ _ _ _ _ _ _ _ _ _ _ _ _ _ _ _ _ _ _ _ _ _ _ _ _ _ _ _ _ _ _ _ _ _ _ _ _ _ _ _ _ _ _ _ _ _ _ _ _ _ _ _ _ _ _ _ _ _ _ _ _ _ _ _ _ _ _ _ _ _ _ _ _ _ _ _ _ _ _ _ _ _ _ _ _ _ _ _ _ _ _ _ _ (ans_before Dz4 Do4 Dgt4 Dg) Dcc
      · clear hT
        go_simp
        have Dc1 : Below w12.heap.size w12 (w12.alloc (.cells #[.int .i64 0, .int .i64 0, .int .i64 0, .slice none 0 0, .slice none 0 0] 26 (0, 0))).drew := ((Below.refl _ w12).alloc (Nat.le_refl _) _).drew
        have Dz1 : (w12.alloc (.cells #[.int .i64 0, .int .i64 0, .int .i64 0, .slice none 0 0, .slice none 0 0] 26 (0, 0))).drew.heap[w12.heap.size]? = some (.cells #[.int .i64 0, .int .i64 0, .int .i64 0, .slice none 0 0, .slice none 0 0] 26 (0, 0)) := heap_alloc_new _ _
        have Dg := Dc0.size
        refine hK.out _ _ ⟨hS4 _ Dc1, fun _ => trivial⟩ ?_
        clear hK K
        try simp only [Act.put, List.setIfInBounds_toArray, List.set_cons_zero, List.set_cons_succ]
        refine JJ_one (i := 1) (by kernel_rfl) rfl (fun hT K hK => ?_)
        clear hT
        go_simp
        go_at_call 20
        refine (toBand_any b x y _ (hs.below (b2.trans ((c12.trans (Dc1.mono c12.size)).mono b2.size))) hl hd).mono ?_
        rintro e1 Dw2 ⟨x8, y8, rfl, Dq2, Db2⟩
        have Dc2 := Dc1.trans (Db2.mono Dc1.size)
        have Dz2 := (Db2.block _ (Array.getElem?_eq_some_iff.1 Dz1).1).trans Dz1
        have Dgt2 := (Array.getElem?_eq_some_iff.1 Dz1).1
        unfold baV
        simp only []
        refine hK.out _ _ ⟨hS4 _ Dc2, fun _ => trivial⟩ ?_
        clear hK K
        try simp only [Act.put, List.setIfInBounds_toArray, List.set_cons_zero, List.set_cons_succ]
        refine JJ_one (i := 3) (by kernel_rfl) rfl (fun hT K hK => ?_)
        clear hT
        go_simp
        go_at_call 26
        refine (hop _).mono ?_
        rintro e1 Dw3 ⟨rfl, Db3⟩
        have Dc3 := Dc2.trans (Db3.mono Dc2.size)
        have Dz3 := (Db3.block _ (Array.getElem?_eq_some_iff.1 Dz2).1).trans Dz2
        have Dq3 := Dq2.below Db3
        have Dgt3 := (Array.getElem?_eq_some_iff.1 Dz2).1
        simp only []
        refine hK.out _ _ ⟨hS4 _ Dc3, fun _ => trivial⟩ ?_
        clear hK K
        try simp only [Act.put, List.setIfInBounds_toArray, List.set_cons_zero, List.set_cons_succ]
        refine JJ_one (i := 4) (by kernel_rfl) rfl (fun hT K hK => ?_)
        clear hT
        go_simp
        go_at_call 11
        refine (himpl _ _ _ Dq3.sl).mono ?_
        rintro e1 Dw4 ⟨x2, y2, rfl, Do4, Db4⟩
        have Dc4 := Dc3.trans (Db4.mono Dc3.size)
        have Dz4 := (Db4.block _ (Array.getElem?_eq_some_iff.1 Dz3).1).trans Dz3
        have Dq4 := Dq3.below Db4
        have Dgt4 := (Array.getElem?_eq_some_iff.1 Dz3).1
        have Dlow4 : w12.heap.size ≤ _ := Dc3.size
        obtain ⟨u2, v2, rfl⟩ := Do4.1.form
        obtain ⟨u2', v2', rfl⟩ := Do4.2.1.form
        unfold baV
        simp only []
        refine hK.out _ _ ⟨hS4 _ Dc4, fun _ => trivial⟩ ?_
        clear hK K
        try simp only [Act.put, List.setIfInBounds_toArray, List.set_cons_zero, List.set_cons_succ]
        refine JJ_take0 (i := 5) (v := ?vD12) rfl (by kernel_rfl) (by kernel_rfl) (by kernel_rfl) (by decide) (fun _ _ _ h => h) (Or.inl ⟨by rfl, ?yD12⟩) ?rD12
        case yD12 => ((intro w hSw; (try dsimp only at hSw); go_simp) <;> with_reducible rfl)
        try simp only [Act.put, List.setIfInBounds_toArray, List.set_cons_zero, List.set_cons_succ]
        refine JJ_take0 (i := 6) (v := ?vD13) rfl (by kernel_rfl) (by kernel_rfl) (by kernel_rfl) (by decide) (fun _ _ _ h => h) (Or.inl ⟨by rfl, ?yD13⟩) ?rD13
        case yD13 => ((intro w hSw; (try dsimp only at hSw); go_simp) <;> with_reducible rfl)
        try simp only [Act.put, List.setIfInBounds_toArray, List.set_cons_zero, List.set_cons_succ]
        refine JJ_take0 (i := 7) (v := ?vD14) rfl (by kernel_rfl) (by kernel_rfl) (by kernel_rfl) (by decide) (fun _ _ _ h => h) (Or.inl ⟨by rfl, ?yD14⟩) ?rD14
        case yD14 => ((intro w hSw; (try dsimp only at hSw); go_simp) <;> with_reducible rfl)
        try simp only [Act.put, List.setIfInBounds_toArray, List.set_cons_zero, List.set_cons_succ]
        obtain ⟨z0, z1, z2, z3, z4⟩ := bbox Dz4
        obtain ⟨zf0, zf1, zf2, zf3, zf4⟩ := bboxf Dz4
        refine JJ_one (i := 9) (by kernel_rfl) rfl (fun hT K hK => ?_)
        clear hT
        go_simp
        have Dcc := Dc4.trans ((Kept.five Dw4 _ (.int .i64 r.qu) (.int .i64 r.po) (.int .i64 r.sp) (.slice u2 r.lo.length v2) (.slice u2' r.dr.length v2')).toBelow Dc4.size (by intro k hk; rw [hk]; exact Dg))
        refine hK.out _ _ ⟨hS4 _ Dcc, fun _ => trivial⟩ ?_
        clear hK K
        try simp only [Act.put, List.setIfInBounds_toArray, List.set_cons_zero, List.set_cons_succ]
        refine JJ_one (i := 10) (by kernel_rfl) rfl (fun hT K hK => ?_)
        clear hT
        go_simp
        refine hK.out _ _ ⟨hS4 _ Dcc, fun h => trivial⟩ ?_
        clear hK K
        try simp only [Act.put, List.setIfInBounds_toArray, List.set_cons_zero, List.set_cons_succ]
        refine JJ_done (by kernel_rfl) ?_ _
        refine NoPanic.normal ?_
        exact cont3 _ _ _ _ _ _ _ _ _ _ _ _ _ _ _ _ _ _ _ _ _ _ _ _ _ _ _ _ _ _ _ _ _ _ _ _ _ _ _ _ _ _ _ _ _ _ _ _ _ _ _ _ _ _ _ _ _ _ _ _ _ _ _ _ _ _ _ _ _ _ _ _ _ _ _ _ _ _ _ _ _ _ _ _ _ _ _ _ _ _ _ _ _ _ _ _ _ _ (ans_before Dz4 Do4 Dgt4 Dg) Dcc
    refine wp_region_noPanic ?_
    have Bc0 : Below W3.heap.size W3 W3.drew := (Below.refl _ W3).drew
    refine wp_region_J 9 (fun w' => (w'.cell? ⟨gx, 0, none⟩ = some (.int .i64 b.qu) ∧ w'.cell? ⟨gx, 1, none⟩ = some (.int .i64 b.po) ∧ w'.cell? ⟨gx, 2, none⟩ = some (.int .i64 b.sp) ∧ w'.cell? ⟨gx, 3, none⟩ = some (.slice p3 b.lo.length c3) ∧ w'.cell? ⟨gx, 4, none⟩ = some (.slice p3' b.dr.length c3')) ∧ (w'.cell? ⟨w.heap.size + 1, 0, none⟩ = some (.int .i64 k) ∧ w'.cell? ⟨w.heap.size + 1, 1, none⟩ = some (.int .i64 c) ∧ w'.cell? ⟨w.heap.size + 1, 2, none⟩ = some (.int .i64 n))) (fun _ => True) (by kernel_rfl) (hS2 _ Bc0) trivial ?_
    refine JJ_take0 (i := 0) (v := ?vB1) rfl (by kernel_rfl) (by kernel_rfl) (by kernel_rfl) (by decide) (fun _ _ _ h => h) (Or.inl ⟨by rfl, ?yB1⟩) ?rB1
    case yB1 => ((intro w hSw; (try dsimp only at hSw); go_simp) <;> with_reducible rfl)
    try simp only [Act.put, List.setIfInBounds_toArray, List.set_cons_zero, List.set_cons_succ]
    refine JJ_take0 (i := 1) (v := ?vB2) rfl (by kernel_rfl) (by kernel_rfl) (by kernel_rfl) (by decide) (fun _ _ _ h => h) (Or.inl ⟨by rfl, ?yB2⟩) ?rB2
    case yB2 => ((intro w hSw; (try dsimp only at hSw); go_simp) <;> with_reducible rfl)
    try simp only [Act.put, List.setIfInBounds_toArray, List.set_cons_zero, List.set_cons_succ]
    refine JJ_two (i := 2) (j := 7) (by kernel_rfl) rfl rfl (fun hT K hK => ?_) (fun hT K hK => ?_)
    · clear hT
      go_simp
      go_at_call 26
      refine (hop _).mono ?_
      rintro e1 Bw1 ⟨rfl, Bb1⟩
      have Bc1 := Bc0.trans (Bb1.mono Bc0.size)
      simp only []
      refine hK.out _ _ ⟨hS2 _ Bc1, fun _ => trivial⟩ ?_
      clear hK K
      try simp only [Act.put, List.setIfInBounds_toArray, List.set_cons_zero, List.set_cons_succ]
      refine JJ_two (i := 3) (j := 7) (by kernel_rfl) rfl rfl (fun hT K hK => ?_) (fun hT K hK => ?_)
      · clear hT
        go_simp
        go_at_call 11
        refine (himpl _ _ _ ((hx0.own.sl).below Bc1)).mono ?_
        rintro e1 Bw2 ⟨x2, y2, rfl, Bo2, Bb2⟩
        have Bc2 := Bc1.trans (Bb2.mono Bc1.size)
        have Blow2 : W3.heap.size ≤ _ := Bc1.size
        obtain ⟨u2, v2, rfl⟩ := Bo2.1.form
        obtain ⟨u2', v2', rfl⟩ := Bo2.2.1.form
        unfold baV
        simp only []
        refine hK.out _ _ ⟨hS2 _ Bc2, fun _ => trivial⟩ ?_
        clear hK K
        try simp only [Act.put, List.setIfInBounds_toArray, List.set_cons_zero, List.set_cons_succ]
        refine JJ_take0 (i := 4) (v := ?vB3) rfl (by kernel_rfl) (by kernel_rfl) (by kernel_rfl) (by decide) (fun _ _ _ h => h) (Or.inl ⟨by rfl, ?yB3⟩) ?rB3
        case yB3 => ((intro w hSw; (try dsimp only at hSw); go_simp) <;> with_reducible rfl)
        try simp only [Act.put, List.setIfInBounds_toArray, List.set_cons_zero, List.set_cons_succ]
        refine JJ_take0 (i := 5) (v := ?vB4) rfl (by kernel_rfl) (by kernel_rfl) (by kernel_rfl) (by decide) (fun _ _ _ h => h) (Or.inl ⟨by rfl, ?yB4⟩) ?rB4
        case yB4 => ((intro w hSw; (try dsimp only at hSw); go_simp) <;> with_reducible rfl)
        try simp only [Act.put, List.setIfInBounds_toArray, List.set_cons_zero, List.set_cons_succ]
        refine JJ_take0 (i := 6) (v := ?vB5) rfl (by kernel_rfl) (by kernel_rfl) (by kernel_rfl) (by decide) (fun _ _ _ h => h) (Or.inl ⟨by rfl, ?yB5⟩) ?rB5
        case yB5 => ((intro w hSw; (try dsimp only at hSw); go_simp) <;> with_reducible rfl)
        try simp only [Act.put, List.setIfInBounds_toArray, List.set_cons_zero, List.set_cons_succ]
        refine JJ_one (i := 7) (by kernel_rfl) rfl (fun hT K hK => ?_)
        clear hT
        go_simp
        have Bc3 := Bc2.alloc Bc2.size (.cells #[.int .i64 0, .int .i64 0, .int .i64 0, .slice none 0 0, .slice none 0 0] 26 (0, 0))
        have Bz3 := heap_alloc_new Bw2 (.cells #[.int .i64 0, .int .i64 0, .int .i64 0, .slice none 0 0, .slice none 0 0] 26 (0, 0))
        have Be3 : Below Bw2.heap.size Bw2 (Bw2.alloc (.cells #[.int .i64 0, .int .i64 0, .int .i64 0, .slice none 0 0, .slice none 0 0] 26 (0, 0))) := (Below.refl _ _).alloc (Nat.le_refl _) _
        have Bg := Bc2.size
        refine hK.out _ _ ⟨hS2 _ Bc3, fun _ => trivial⟩ ?_
        clear hK K
        try simp only [Act.put, List.setIfInBounds_toArray, List.set_cons_zero, List.set_cons_succ]
        refine JJ_one (i := 8) (by kernel_rfl) rfl (fun hT K hK => ?_)
        clear hT
        go_simp
        refine hK.out _ _ ⟨hS2 _ (Bc2.alloc Bc2.size _), fun _ => trivial⟩ ?_
        clear hK K
        try simp only [Act.put, List.setIfInBounds_toArray, List.set_cons_zero, List.set_cons_succ]
        refine JJ_one (i := 9) (by kernel_rfl) rfl (fun hT K hK => ?_)
        clear hT
        go_simp
        refine hK.out _ _ ⟨hS2 _ (Bc2.alloc Bc2.size _), fun h => trivial⟩ ?_
        clear hK K
        try simp only [Act.put, List.setIfInBounds_toArray, List.set_cons_zero, List.set_cons_succ]
        refine JJ_done (by kernel_rfl) ?_ _
        refine NoPanic.normal ?_
        exact cont2 _ _ _ _ _ _ _ _ _ _ _ _ _ _ _ _ _ _ _ _ _ _ _ _ _ _ _ _ _ _ _ _ _ _ _ _ _ _ _ _ _ _ _ _ _ _ _ _ _ _ _ _ _ _ _ _ _ _ _ _ _ _ _ _ _ _ _ _ _ _ _ _ _ _ _ _ _ _ _ _ _ _ _ _ _ _ _ _ _ _ _ _ _ _ _ _ _ _ _ _ _ (ans_after Bo2 Blow2 Bc2.size) (Bc2.alloc Bc2.size _)
      · clear hT
        go_simp
        have Bc2 := Bc1.alloc Bc1.size (.cells #[.int .i64 0, .int .i64 0, .int .i64 0, .slice none 0 0, .slice none 0 0] 26 (0, 0))
        have Bz2 := heap_alloc_new Bw1 (.cells #[.int .i64 0, .int .i64 0, .int .i64 0, .slice none 0 0, .slice none 0 0] 26 (0, 0))
        have Be2 : Below Bw1.heap.size Bw1 (Bw1.alloc (.cells #[.int .i64 0, .int .i64 0, .int .i64 0, .slice none 0 0, .slice none 0 0] 26 (0, 0))) := (Below.refl _ _).alloc (Nat.le_refl _) _
        have Bg := Bc1.size
        refine hK.out _ _ ⟨hS2 _ Bc2, fun _ => trivial⟩ ?_
        clear hK K
        try simp only [Act.put, List.setIfInBounds_toArray, List.set_cons_zero, List.set_cons_succ]
        refine JJ_one (i := 3) (by kernel_rfl) rfl (fun hT K hK => ?_)
        clear hT
        go_simp
        go_at_call 11
        refine (himpl _ _ _ ((hx0.own.sl).below Bc2)).mono ?_
        rintro e1 Bw3 ⟨x2, y2, rfl, Bo3, Bb3⟩
        have Bc3 := Bc2.trans (Bb3.mono Bc2.size)
        have Bz3 := (Bb3.block _ (Array.getElem?_eq_some_iff.1 Bz2).1).trans Bz2
        have Bgt3 := (Array.getElem?_eq_some_iff.1 Bz2).1
        have Blow3 : W3.heap.size ≤ _ := Bc2.size
        obtain ⟨u2, v2, rfl⟩ := Bo3.1.form
        obtain ⟨u2', v2', rfl⟩ := Bo3.2.1.form
        unfold baV
        simp only []
        refine hK.out _ _ ⟨hS2 _ Bc3, fun _ => trivial⟩ ?_
        clear hK K
        try simp only [Act.put, List.setIfInBounds_toArray, List.set_cons_zero, List.set_cons_succ]
        refine JJ_take0 (i := 4) (v := ?vB6) rfl (by kernel_rfl) (by kernel_rfl) (by kernel_rfl) (by decide) (fun _ _ _ h => h) (Or.inl ⟨by rfl, ?yB6⟩) ?rB6
        case yB6 => ((intro w hSw; (try dsimp only at hSw); go_simp) <;> with_reducible rfl)
        try simp only [Act.put, List.setIfInBounds_toArray, List.set_cons_zero, List.set_cons_succ]
        refine JJ_take0 (i := 5) (v := ?vB7) rfl (by kernel_rfl) (by kernel_rfl) (by kernel_rfl) (by decide) (fun _ _ _ h => h) (Or.inl ⟨by rfl, ?yB7⟩) ?rB7
        case yB7 => ((intro w hSw; (try dsimp only at hSw); go_simp) <;> with_reducible rfl)
        try simp only [Act.put, List.setIfInBounds_toArray, List.set_cons_zero, List.set_cons_succ]
        refine JJ_take0 (i := 6) (v := ?vB8) rfl (by kernel_rfl) (by kernel_rfl) (by kernel_rfl) (by decide) (fun _ _ _ h => h) (Or.inl ⟨by rfl, ?yB8⟩) ?rB8
        case yB8 => ((intro w hSw; (try dsimp only at hSw); go_simp) <;> with_reducible rfl)
        try simp only [Act.put, List.setIfInBounds_toArray, List.set_cons_zero, List.set_cons_succ]
        obtain ⟨z0, z1, z2, z3, z4⟩ := bbox Bz3
        obtain ⟨zf0, zf1, zf2, zf3, zf4⟩ := bboxf Bz3
        refine JJ_one (i := 8) (by kernel_rfl) rfl (fun hT K hK => ?_)
        clear hT
        go_simp
        have Bcc := Bc3.trans ((Kept.five Bw3 _ (.int .i64 r.qu) (.int .i64 r.po) (.int .i64 r.sp) (.slice u2 r.lo.length v2) (.slice u2' r.dr.length v2')).toBelow Bc3.size (by intro k hk; rw [hk]; exact Bg))
        refine hK.out _ _ ⟨hS2 _ Bcc, fun _ => trivial⟩ ?_
        clear hK K
        try simp only [Act.put, List.setIfInBounds_toArray, List.set_cons_zero, List.set_cons_succ]
        refine JJ_one (i := 9) (by kernel_rfl) rfl (fun hT K hK => ?_)
        clear hT
        go_simp
        refine hK.out _ _ ⟨hS2 _ Bcc, fun h => trivial⟩ ?_
        clear hK K
        try simp only [Act.put, List.setIfInBounds_toArray, List.set_cons_zero, List.set_cons_succ]
        refine JJ_done (by kernel_rfl) ?_ _
        refine NoPanic.normal ?_
        exact cont2 _ _ _ _ _ _ _ _ _ _ _ _ _ _ _ _ _ _ _ _ _ _ _ _ _ _ _ _ _ _ _ _ _ _ _ _ _ _ _ _ _ _ _ _ _ _ _ _ _ _ _ _ _ _ _ _ _ _ _ _ _ _ _ _ _ _ _ _ _ _ _ _ _ _ _ _ _ _ _ _ _ _ _ _ _ _ _ _ _ _ _ _ _ _ _ _ _ _ _ _ _ (ans_before Bz3 Bo3 Bgt3 Bg) Bcc
    · clear hT
      go_simp
      have Bc1 : Below W3.heap.size W3 (W3.alloc (.cells #[.int .i64 0, .int .i64 0, .int .i64 0, .slice none 0 0, .slice none 0 0] 26 (0, 0))).drew := ((Below.refl _ W3).alloc (Nat.le_refl _) _).drew
      have Bz1 : (W3.alloc (.cells #[.int .i64 0, .int .i64 0, .int .i64 0, .slice none 0 0, .slice none 0 0] 26 (0, 0))).drew.heap[W3.heap.size]? = some (.cells #[.int .i64 0, .int .i64 0, .int .i64 0, .slice none 0 0, .slice none 0 0] 26 (0, 0)) := heap_alloc_new _ _
      have Bg := Bc0.size
      refine hK.out _ _ ⟨hS2 _ Bc1, fun _ => trivial⟩ ?_
      clear hK K
      try simp only [Act.put, List.setIfInBounds_toArray, List.set_cons_zero, List.set_cons_succ]
      refine JJ_one (i := 2) (by kernel_rfl) rfl (fun hT K hK => ?_)
      clear hT
      go_simp
      go_at_call 26
      refine (hop _).mono ?_
      rintro e1 Bw2 ⟨rfl, Bb2⟩
      have Bc2 := Bc1.trans (Bb2.mono Bc1.size)
      have Bz2 := (Bb2.block _ (Array.getElem?_eq_some_iff.1 Bz1).1).trans Bz1
      have Bgt2 := (Array.getElem?_eq_some_iff.1 Bz1).1
      simp only []
      refine hK.out _ _ ⟨hS2 _ Bc2, fun _ => trivial⟩ ?_
      clear hK K
      try simp only [Act.put, List.setIfInBounds_toArray, List.set_cons_zero, List.set_cons_succ]
      refine JJ_one (i := 3) (by kernel_rfl) rfl (fun hT K hK => ?_)
      clear hT
      go_simp
      go_at_call 11
      refine (himpl _ _ _ ((hx0.own.sl).below Bc2)).mono ?_
      rintro e1 Bw3 ⟨x2, y2, rfl, Bo3, Bb3⟩
      have Bc3 := Bc2.trans (Bb3.mono Bc2.size)
      have Bz3 := (Bb3.block _ (Array.getElem?_eq_some_iff.1 Bz2).1).trans Bz2
      have Bgt3 := (Array.getElem?_eq_some_iff.1 Bz2).1
      have Blow3 : W3.heap.size ≤ _ := Bc2.size
      obtain ⟨u2, v2, rfl⟩ := Bo3.1.form
      obtain ⟨u2', v2', rfl⟩ := Bo3.2.1.form
      unfold baV
      simp only []
      refine hK.out _ _ ⟨hS2 _ Bc3, fun _ => trivial⟩ ?_
      clear hK K
      try simp only [Act.put, List.setIfInBounds_toArray, List.set_cons_zero, List.set_cons_succ]
      refine JJ_take0 (i := 4) (v := ?vB9) rfl (by kernel_rfl) (by kernel_rfl) (by kernel_rfl) (by decide) (fun _ _ _ h => h) (Or.inl ⟨by rfl, ?yB9⟩) ?rB9
      case yB9 => ((intro w hSw; (try dsimp only at hSw); go_simp) <;> with_reducible rfl)
      try simp only [Act.put, List.setIfInBounds_toArray, List.set_cons_zero, List.set_cons_succ]
      refine JJ_take0 (i := 5) (v := ?vB10) rfl (by kernel_rfl) (by kernel_rfl) (by kernel_rfl) (by decide) (fun _ _ _ h => h) (Or.inl ⟨by rfl, ?yB10⟩) ?rB10
      case yB10 => ((intro w hSw; (try dsimp only at hSw); go_simp) <;> with_reducible rfl)
      try simp only [Act.put, List.setIfInBounds_toArray, List.set_cons_zero, List.set_cons_succ]
      refine JJ_take0 (i := 6) (v := ?vB11) rfl (by kernel_rfl) (by kernel_rfl) (by kernel_rfl) (by decide) (fun _ _ _ h => h) (Or.inl ⟨by rfl, ?yB11⟩) ?rB11
      case yB11 => ((intro w hSw; (try dsimp only at hSw); go_simp) <;> with_reducible rfl)
      try simp only [Act.put, List.setIfInBounds_toArray, List.set_cons_zero, List.set_cons_succ]
      obtain ⟨z0, z1, z2, z3, z4⟩ := bbox Bz3
      obtain ⟨zf0, zf1, zf2, zf3, zf4⟩ := bboxf Bz3
      refine JJ_one (i := 8) (by kernel_rfl) rfl (fun hT K hK => ?_)
      clear hT
      go_simp
      have Bcc := Bc3.trans ((Kept.five Bw3 _ (.int .i64 r.qu) (.int .i64 r.po) (.int .i64 r.sp) (.slice u2 r.lo.length v2) (.slice u2' r.dr.length v2')).toBelow Bc3.size (by intro k hk; rw [hk]; exact Bg))
      refine hK.out _ _ ⟨hS2 _ Bcc, fun _ => trivial⟩ ?_
      clear hK K
      try simp only [Act.put, List.setIfInBounds_toArray, List.set_cons_zero, List.set_cons_succ]
      refine JJ_one (i := 9) (by kernel_rfl) rfl (fun hT K hK => ?_)
      clear hT
      go_simp
      refine hK.out _ _ ⟨hS2 _ Bcc, fun h => trivial⟩ ?_
      clear hK K
      try simp only [Act.put, List.setIfInBounds_toArray, List.set_cons_zero, List.set_cons_succ]
      refine JJ_done (by kernel_rfl) ?_ _
      refine NoPanic.normal ?_
      exact cont2 _ _ _ _ _ _ _ _ _ _ _ _ _ _ _ _ _ _ _ _ _ _ _ _ _ _ _ _ _ _ _ _ _ _ _ _ _ _ _ _ _ _ _ _ _ _ _ _ _ _ _ _ _ _ _ _ _ _ _ _ _ _ _ _ _ _ _ _ _ _ _ _ _ _ _ _ _ _ _ _ _ _ _ _ _ _ _ _ _ _ _ _ _ _ _ _ _ _ _ _ _ (ans_before Bz3 Bo3 Bgt3 Bg) Bcc
  refine wp_region_noPanic ?_
  have Ac0 : Below w2.heap.size w2 w2.drew := (Below.refl _ w2).drew
  refine wp_region_J 10 (fun w' => (w'.cell? ⟨w.heap.size, 0, none⟩ = some (.int .i64 b.qu) ∧ w'.cell? ⟨w.heap.size, 1, none⟩ = some (.int .i64 b.po) ∧ w'.cell? ⟨w.heap.size, 2, none⟩ = some (.int .i64 b.sp) ∧ w'.cell? ⟨w.heap.size, 3, none⟩ = some x ∧ w'.cell? ⟨w.heap.size, 4, none⟩ = some y) ∧ (w'.cell? ⟨w.heap.size + 1, 0, none⟩ = some (.int .i64 k) ∧ w'.cell? ⟨w.heap.size + 1, 1, none⟩ = some (.int .i64 c) ∧ w'.cell? ⟨w.heap.size + 1, 2, none⟩ = some (.int .i64 n))) (fun _ => True) (by kernel_rfl) (hS _ Ac0) trivial ?_
  refine JJ_take0 (i := 0) (v := ?vA1) rfl (by kernel_rfl) (by kernel_rfl) (by kernel_rfl) (by decide) (fun _ _ _ h => h) (Or.inl ⟨by rfl, ?yA1⟩) ?rA1
  case yA1 => ((intro w hSw; (try dsimp only at hSw); go_simp) <;> with_reducible rfl)
  try simp only [Act.put, List.setIfInBounds_toArray, List.set_cons_zero, List.set_cons_succ]
  refine JJ_take0 (i := 2) (v := ?vA2) rfl (by kernel_rfl) (by kernel_rfl) (by kernel_rfl) (by decide) (fun _ _ _ h => h) (Or.inl ⟨by rfl, ?yA2⟩) ?rA2
  case yA2 => ((intro w hSw; (try dsimp only at hSw); go_simp) <;> with_reducible rfl)
  try simp only [Act.put, List.setIfInBounds_toArray, List.set_cons_zero, List.set_cons_succ]
  refine JJ_two (i := 1) (j := 8) (by kernel_rfl) rfl rfl (fun hT K hK => ?_) (fun hT K hK => ?_)
  · clear hT
    go_simp
    go_at_call 20
    refine (toBand_any b x y _ (hs.below (b2.trans (Ac0.mono b2.size))) hl hd).mono ?_
    rintro e1 Aw1 ⟨x1, y1, rfl, Aq1, Ab1⟩
    have Ac1 := Ac0.trans (Ab1.mono Ac0.size)
    unfold baV
    simp only []
    refine hK.out _ _ ⟨hS _ Ac1, fun _ => trivial⟩ ?_
    clear hK K
    try simp only [Act.put, List.setIfInBounds_toArray, List.set_cons_zero, List.set_cons_succ]
    refine JJ_two (i := 3) (j := 8) (by kernel_rfl) rfl rfl (fun hT K hK => ?_) (fun hT K hK => ?_)
    · clear hT
      go_simp
      go_at_call 26
      refine (hop _).mono ?_
      rintro e1 Aw2 ⟨rfl, Ab2⟩
      have Ac2 := Ac1.trans (Ab2.mono Ac1.size)
      have Aq2 := Aq1.below Ab2
      simp only []
      refine hK.out _ _ ⟨hS _ Ac2, fun _ => trivial⟩ ?_
      clear hK K
      try simp only [Act.put, List.setIfInBounds_toArray, List.set_cons_zero, List.set_cons_succ]
      refine JJ_two (i := 4) (j := 8) (by kernel_rfl) rfl rfl (fun hT K hK => ?_) (fun hT K hK => ?_)
      · clear hT
        go_simp
        go_at_call 12
        refine (hspec _ _ _ Aq2.sl).mono ?_
        rintro e1 Aw3 ⟨x2, y2, rfl, Ao3, Ab3⟩
        have Ac3 := Ac2.trans (Ab3.mono Ac2.size)
        have Aq3 := Aq2.below Ab3
        have Alow3 : w2.heap.size ≤ _ := Ac2.size
        obtain ⟨u2, v2, rfl⟩ := Ao3.1.form
        obtain ⟨u2', v2', rfl⟩ := Ao3.2.1.form
        unfold baV
        simp only []
        refine hK.out _ _ ⟨hS _ Ac3, fun _ => trivial⟩ ?_
        clear hK K
        try simp only [Act.put, List.setIfInBounds_toArray, List.set_cons_zero, List.set_cons_succ]
        refine JJ_take0 (i := 5) (v := ?vA3) rfl (by kernel_rfl) (by kernel_rfl) (by kernel_rfl) (by decide) (fun _ _ _ h => h) (Or.inl ⟨by rfl, ?yA3⟩) ?rA3
        case yA3 => ((intro w hSw; (try dsimp only at hSw); go_simp) <;> with_reducible rfl)
        try simp only [Act.put, List.setIfInBounds_toArray, List.set_cons_zero, List.set_cons_succ]
        refine JJ_take0 (i := 6) (v := ?vA4) rfl (by kernel_rfl) (by kernel_rfl) (by kernel_rfl) (by decide) (fun _ _ _ h => h) (Or.inl ⟨by rfl, ?yA4⟩) ?rA4
        case yA4 => ((intro w hSw; (try dsimp only at hSw); go_simp) <;> with_reducible rfl)
        try simp only [Act.put, List.setIfInBounds_toArray, List.set_cons_zero, List.set_cons_succ]
        refine JJ_take0 (i := 7) (v := ?vA5) rfl (by kernel_rfl) (by kernel_rfl) (by kernel_rfl) (by decide) (fun _ _ _ h => h) (Or.inl ⟨by rfl, ?yA5⟩) ?rA5
        case yA5 => ((intro w hSw; (try dsimp only at hSw); go_simp) <;> with_reducible rfl)
        try simp only [Act.put, List.setIfInBounds_toArray, List.set_cons_zero, List.set_cons_succ]
        refine JJ_one (i := 8) (by kernel_rfl) rfl (fun hT K hK => ?_)
        clear hT
        go_simp
        have Ac4 := Ac3.alloc Ac3.size (.cells #[.int .i64 0, .int .i64 0, .int .i64 0, .slice none 0 0, .slice none 0 0] 26 (0, 0))
        have Az4 := heap_alloc_new Aw3 (.cells #[.int .i64 0, .int .i64 0, .int .i64 0, .slice none 0 0, .slice none 0 0] 26 (0, 0))
        have Ae4 : Below Aw3.heap.size Aw3 (Aw3.alloc (.cells #[.int .i64 0, .int .i64 0, .int .i64 0, .slice none 0 0, .slice none 0 0] 26 (0, 0))) := (Below.refl _ _).alloc (Nat.le_refl _) _
        have Ag := Ac3.size
        refine hK.out _ _ ⟨hS _ Ac4, fun _ => trivial⟩ ?_
        clear hK K
        try simp only [Act.put, List.setIfInBounds_toArray, List.set_cons_zero, List.set_cons_succ]
        refine JJ_one (i := 9) (by kernel_rfl) rfl (fun hT K hK => ?_)
        clear hT
        go_simp
        refine hK.out _ _ ⟨hS _ (Ac3.alloc Ac3.size _), fun _ => trivial⟩ ?_
        clear hK K
        try simp only [Act.put, List.setIfInBounds_toArray, List.set_cons_zero, List.set_cons_succ]
        refine JJ_one (i := 10) (by kernel_rfl) rfl (fun hT K hK => ?_)
        clear hT
        go_simp
        refine hK.out _ _ ⟨hS _ (Ac3.alloc Ac3.size _), fun h => trivial⟩ ?_
        clear hK K
        try simp only [Act.put, List.setIfInBounds_toArray, List.set_cons_zero, List.set_cons_succ]
        refine JJ_done (by kernel_rfl) ?_ _
        refine NoPanic.normal ?_
        exact cont1 _ _ _ _ _ _ _ _ _ _ _ _ _ _ _ _ _ _ _ _ _ _ _ _ _ _ _ _ _ _ _ _ _ _ _ _ _ _ _ _ _ _ _ _ _ _ _ _ _ _ _ _ _ _ _ _ _ _ _ _ _ _ _ _ _ _ _ _ _ _ _ _ _ _ _ _ _ _ _ _ _ _ _ _ _ _ _ _ _ _ _ _ _ _ _ _ _ _ _ _ _ _ _ _ (ans_after Ao3 Alow3 Ac3.size) (Ac3.alloc Ac3.size _)
      · clear hT
        go_simp
        have Ac3 := Ac2.alloc Ac2.size (.cells #[.int .i64 0, .int .i64 0, .int .i64 0, .slice none 0 0, .slice none 0 0] 26 (0, 0))
        have Az3 := heap_alloc_new Aw2 (.cells #[.int .i64 0, .int .i64 0, .int .i64 0, .slice none 0 0, .slice none 0 0] 26 (0, 0))
        have Ae3 : Below Aw2.heap.size Aw2 (Aw2.alloc (.cells #[.int .i64 0, .int .i64 0, .int .i64 0, .slice none 0 0, .slice none 0 0] 26 (0, 0))) := (Below.refl _ _).alloc (Nat.le_refl _) _
        have Ag := Ac2.size
        have Aq3 := Aq2.below Ae3
        refine hK.out _ _ ⟨hS _ Ac3, fun _ => trivial⟩ ?_
        clear hK K
        try simp only [Act.put, List.setIfInBounds_toArray, List.set_cons_zero, List.set_cons_succ]
        refine JJ_one (i := 4) (by kernel_rfl) rfl (fun hT K hK => ?_)
        clear hT
        go_simp
        go_at_call 12
        refine (hspec _ _ _ Aq3.sl).mono ?_
        rintro e1 Aw4 ⟨x2, y2, rfl, Ao4, Ab4⟩
        have Ac4 := Ac3.trans (Ab4.mono Ac3.size)
        have Az4 := (Ab4.block _ (Array.getElem?_eq_some_iff.1 Az3).1).trans Az3
        have Aq4 := Aq3.below Ab4
        have Agt4 := (Array.getElem?_eq_some_iff.1 Az3).1
        have Alow4 : w2.heap.size ≤ _ := Ac3.size
        obtain ⟨u2, v2, rfl⟩ := Ao4.1.form
        obtain ⟨u2', v2', rfl⟩ := Ao4.2.1.form
        unfold baV
        simp only []
        refine hK.out _ _ ⟨hS _ Ac4, fun _ => trivial⟩ ?_
        clear hK K
        try simp only [Act.put, List.setIfInBounds_toArray, List.set_cons_zero, List.set_cons_succ]
        refine JJ_take0 (i := 5) (v := ?vA6) rfl (by kernel_rfl) (by kernel_rfl) (by kernel_rfl) (by decide) (fun _ _ _ h => h) (Or.inl ⟨by rfl, ?yA6⟩) ?rA6
        case yA6 => ((intro w hSw; (try dsimp only at hSw); go_simp) <;> with_reducible rfl)
        try simp only [Act.put, List.setIfInBounds_toArray, List.set_cons_zero, List.set_cons_succ]
        refine JJ_take0 (i := 6) (v := ?vA7) rfl (by kernel_rfl) (by kernel_rfl) (by kernel_rfl) (by decide) (fun _ _ _ h => h) (Or.inl ⟨by rfl, ?yA7⟩) ?rA7
        case yA7 => ((intro w hSw; (try dsimp only at hSw); go_simp) <;> with_reducible rfl)
        try simp only [Act.put, List.setIfInBounds_toArray, List.set_cons_zero, List.set_cons_succ]
        refine JJ_take0 (i := 7) (v := ?vA8) rfl (by kernel_rfl) (by kernel_rfl) (by kernel_rfl) (by decide) (fun _ _ _ h => h) (Or.inl ⟨by rfl, ?yA8⟩) ?rA8
        case yA8 => ((intro w hSw; (try dsimp only at hSw); go_simp) <;> with_reducible rfl)
        try simp only [Act.put, List.setIfInBounds_toArray, List.set_cons_zero, List.set_cons_succ]
        obtain ⟨z0, z1, z2, z3, z4⟩ := bbox Az4
        obtain ⟨zf0, zf1, zf2, zf3, zf4⟩ := bboxf Az4
        refine JJ_one (i := 9) (by kernel_rfl) rfl (fun hT K hK => ?_)
        clear hT
        go_simp
        have Acc := Ac4.trans ((Kept.five Aw4 _ (.int .i64 r.qu) (.int .i64 r.po) (.int .i64 r.sp) (.slice u2 r.lo.length v2) (.slice u2' r.dr.length v2')).toBelow Ac4.size (by intro k hk; rw [hk]; exact Ag))
        refine hK.out _ _ ⟨hS _ Acc, fun _ => trivial⟩ ?_
        clear hK K
        try simp only [Act.put, List.setIfInBounds_toArray, List.set_cons_zero, List.set_cons_succ]
        refine JJ_one (i := 10) (by kernel_rfl) rfl (fun hT K hK => ?_)
        clear hT
        go_simp
        refine hK.out _ _ ⟨hS _ Acc, fun h => trivial⟩ ?_
        clear hK K
        try simp only [Act.put, List.setIfInBounds_toArray, List.set_cons_zero, List.set_cons_succ]
        refine JJ_done (by kernel_rfl) ?_ _
        refine NoPanic.normal ?_
        exact cont1 _ _ _ _ _ _ _ _ _ _ _ _ _ _ _ _ _ _ _ _ _ _ _ _ _ _ _ _ _ _ _ _ _ _ _ _ _ _ _ _ _ _ _ _ _ _ _ _ _ _ _ _ _ _ _ _ _ _ _ _ _ _ _ _ _ _ _ _ _ _ _ _ _ _ _ _ _ _ _ _ _ _ _ _ _ _ _ _ _ _ _ _ _ _ _ _ _ _ _ _ _ _ _ _ (ans_before Az4 Ao4 Agt4 Ag) Acc
    · clear hT
      go_simp
      have Ac2 := Ac1.alloc Ac1.size (.cells #[.int .i64 0, .int .i64 0, .int .i64 0, .slice none 0 0, .slice none 0 0] 26 (0, 0))
      have Az2 := heap_alloc_new Aw1 (.cells #[.int .i64 0, .int .i64 0, .int .i64 0, .slice none 0 0, .slice none 0 0] 26 (0, 0))
      have Ae2 : Below Aw1.heap.size Aw1 (Aw1.alloc (.cells #[.int .i64 0, .int .i64 0, .int .i64 0, .slice none 0 0, .slice none 0 0] 26 (0, 0))) := (Below.refl _ _).alloc (Nat.le_refl _) _
      have Ag := Ac1.size
      have Aq2 := Aq1.below Ae2
      refine hK.out _ _ ⟨hS _ Ac2, fun _ => trivial⟩ ?_
      clear hK K
      try simp only [Act.put, List.setIfInBounds_toArray, List.set_cons_zero, List.set_cons_succ]
      refine JJ_one (i := 3) (by kernel_rfl) rfl (fun hT K hK => ?_)
      clear hT
      go_simp
      go_at_call 26
      refine (hop _).mono ?_
      rintro e1 Aw3 ⟨rfl, Ab3⟩
      have Ac3 := Ac2.trans (Ab3.mono Ac2.size)
      have Az3 := (Ab3.block _ (Array.getElem?_eq_some_iff.1 Az2).1).trans Az2
      have Aq3 := Aq2.below Ab3
      have Agt3 := (Array.getElem?_eq_some_iff.1 Az2).1
      simp only []
      refine hK.out _ _ ⟨hS _ Ac3, fun _ => trivial⟩ ?_
      clear hK K
      try simp only [Act.put, List.setIfInBounds_toArray, List.set_cons_zero, List.set_cons_succ]
      refine JJ_one (i := 4) (by kernel_rfl) rfl (fun hT K hK => ?_)
      clear hT
      go_simp
      go_at_call 12
      refine (hspec _ _ _ Aq3.sl).mono ?_
      rintro e1 Aw4 ⟨x2, y2, rfl, Ao4, Ab4⟩
      have Ac4 := Ac3.trans (Ab4.mono Ac3.size)
      have Az4 := (Ab4.block _ (Array.getElem?_eq_some_iff.1 Az3).1).trans Az3
      have Aq4 := Aq3.below Ab4
      have Agt4 := (Array.getElem?_eq_some_iff.1 Az3).1
      have Alow4 : w2.heap.size ≤ _ := Ac3.size
      obtain ⟨u2, v2, rfl⟩ := Ao4.1.form
      obtain ⟨u2', v2', rfl⟩ := Ao4.2.1.form
      unfold baV
      simp only []
      refine hK.out _ _ ⟨hS _ Ac4, fun _ => trivial⟩ ?_
      clear hK K
      try simp only [Act.put, List.setIfInBounds_toArray, List.set_cons_zero, List.set_cons_succ]
      refine JJ_take0 (i := 5) (v := ?vA9) rfl (by kernel_rfl) (by kernel_rfl) (by kernel_rfl) (by decide) (fun _ _ _ h => h) (Or.inl ⟨by rfl, ?yA9⟩) ?rA9
      case yA9 => ((intro w hSw; (try dsimp only at hSw); go_simp) <;> with_reducible rfl)
      try simp only [Act.put, List.setIfInBounds_toArray, List.set_cons_zero, List.set_cons_succ]
      refine JJ_take0 (i := 6) (v := ?vA10) rfl (by kernel_rfl) (by kernel_rfl) (by kernel_rfl) (by decide) (fun _ _ _ h => h) (Or.inl ⟨by rfl, ?yA10⟩) ?rA10
      case yA10 => ((intro w hSw; (try dsimp only at hSw); go_simp) <;> with_reducible rfl)
      try simp only [Act.put, List.setIfInBounds_toArray, List.set_cons_zero, List.set_cons_succ]
      refine JJ_take0 (i := 7) (v := ?vA11) rfl (by kernel_rfl) (by kernel_rfl) (by kernel_rfl) (by decide) (fun _ _ _ h => h) (Or.inl ⟨by rfl, ?yA11⟩) ?rA11
      case yA11 => ((intro w hSw; (try dsimp only at hSw); go_simp) <;> with_reducible rfl)
      try simp only [Act.put, List.setIfInBounds_toArray, List.set_cons_zero, List.set_cons_succ]
      obtain ⟨z0, z1, z2, z3, z4⟩ := bbox Az4
      obtain ⟨zf0, zf1, zf2, zf3, zf4⟩ := bboxf Az4
      refine JJ_one (i := 9) (by kernel_rfl) rfl (fun hT K hK => ?_)
      clear hT
      go_simp
      have Acc := Ac4.trans ((Kept.five Aw4 _ (.int .i64 r.qu) (.int .i64 r.po) (.int .i64 r.sp) (.slice u2 r.lo.length v2) (.slice u2' r.dr.length v2')).toBelow Ac4.size (by intro k hk; rw [hk]; exact Ag))
      refine hK.out _ _ ⟨hS _ Acc, fun _ => trivial⟩ ?_
      clear hK K
      try simp only [Act.put, List.setIfInBounds_toArray, List.set_cons_zero, List.set_cons_succ]
      refine JJ_one (i := 10) (by kernel_rfl) rfl (fun hT K hK => ?_)
      clear hT
      go_simp
      refine hK.out _ _ ⟨hS _ Acc, fun h => trivial⟩ ?_
      clear hK K
      try simp only [Act.put, List.setIfInBounds_toArray, List.set_cons_zero, List.set_cons_succ]
      refine JJ_done (by kernel_rfl) ?_ _
      refine NoPanic.normal ?_
      exact cont1 _ _ _ _ _ _ _ _ _ _ _ _ _ _ _ _ _ _ _ _ _ _ _ _ _ _ _ _ _ _ _ _ _ _ _ _ _ _ _ _ _ _ _ _ _ _ _ _ _ _ _ _ _ _ _ _ _ _ _ _ _ _ _ _ _ _ _ _ _ _ _ _ _ _ _ _ _ _ _ _ _ _ _ _ _ _ _ _ _ _ _ _ _ _ _ _ _ _ _ _ _ _ _ _ (ans_before Az4 Ao4 Agt4 Ag) Acc
  · clear hT
    go_simp
    have Ac1 : Below w2.heap.size w2 (w2.alloc (.cells #[.int .i64 0, .int .i64 0, .int .i64 0, .slice none 0 0, .slice none 0 0] 26 (0, 0))).drew := ((Below.refl _ w2).alloc (Nat.le_refl _) _).drew
    have Az1 : (w2.alloc (.cells #[.int .i64 0, .int .i64 0, .int .i64 0, .slice none 0 0, .slice none 0 0] 26 (0, 0))).drew.heap[w2.heap.size]? = some (.cells #[.int .i64 0, .int .i64 0, .int .i64 0, .slice none 0 0, .slice none 0 0] 26 (0, 0)) := heap_alloc_new _ _
    have Ag := Ac0.size
    refine hK.out _ _ ⟨hS _ Ac1, fun _ => trivial⟩ ?_
    clear hK K
    try simp only [Act.put, List.setIfInBounds_toArray, List.set_cons_zero, List.set_cons_succ]
    refine JJ_one (i := 1) (by kernel_rfl) rfl (fun hT K hK => ?_)
    clear hT
    go_simp
    go_at_call 20
    refine (toBand_any b x y _ (hs.below (b2.trans (Ac1.mono b2.size))) hl hd).mono ?_
    rintro e1 Aw2 ⟨x1, y1, rfl, Aq2, Ab2⟩
    have Ac2 := Ac1.trans (Ab2.mono Ac1.size)
    have Az2 := (Ab2.block _ (Array.getElem?_eq_some_iff.1 Az1).1).trans Az1
    have Agt2 := (Array.getElem?_eq_some_iff.1 Az1).1
    unfold baV
    simp only []
    refine hK.out _ _ ⟨hS _ Ac2, fun _ => trivial⟩ ?_
    clear hK K
    try simp only [Act.put, List.setIfInBounds_toArray, List.set_cons_zero, List.set_cons_succ]
    refine JJ_one (i := 3) (by kernel_rfl) rfl (fun hT K hK => ?_)
    clear hT
    go_simp
    go_at_call 26
    refine (hop _).mono ?_
    rintro e1 Aw3 ⟨rfl, Ab3⟩
    have Ac3 := Ac2.trans (Ab3.mono Ac2.size)
    have Az3 := (Ab3.block _ (Array.getElem?_eq_some_iff.1 Az2).1).trans Az2
    have Aq3 := Aq2.below Ab3
    have Agt3 := (Array.getElem?_eq_some_iff.1 Az2).1
    simp only []
    refine hK.out _ _ ⟨hS _ Ac3, fun _ => trivial⟩ ?_
    clear hK K
    try simp only [Act.put, List.setIfInBounds_toArray, List.set_cons_zero, List.set_cons_succ]
    refine JJ_one (i := 4) (by kernel_rfl) rfl (fun hT K hK => ?_)
    clear hT
    go_simp
    go_at_call 12
    refine (hspec _ _ _ Aq3.sl).mono ?_
    rintro e1 Aw4 ⟨x2, y2, rfl, Ao4, Ab4⟩
    have Ac4 := Ac3.trans (Ab4.mono Ac3.size)
    have Az4 := (Ab4.block _ (Array.getElem?_eq_some_iff.1 Az3).1).trans Az3
    have Aq4 := Aq3.below Ab4
    have Agt4 := (Array.getElem?_eq_some_iff.1 Az3).1
    have Alow4 : w2.heap.size ≤ _ := Ac3.size
    obtain ⟨u2, v2, rfl⟩ := Ao4.1.form
    obtain ⟨u2', v2', rfl⟩ := Ao4.2.1.form
    unfold baV
    simp only []
    refine hK.out _ _ ⟨hS _ Ac4, fun _ => trivial⟩ ?_
    clear hK K
    try simp only [Act.put, List.setIfInBounds_toArray, List.set_cons_zero, List.set_cons_succ]
    refine JJ_take0 (i := 5) (v := ?vA12) rfl (by kernel_rfl) (by kernel_rfl) (by kernel_rfl) (by decide) (fun _ _ _ h => h) (Or.inl ⟨by rfl, ?yA12⟩) ?rA12
    case yA12 => ((intro w hSw; (try dsimp only at hSw); go_simp) <;> with_reducible rfl)
    try simp only [Act.put, List.setIfInBounds_toArray, List.set_cons_zero, List.set_cons_succ]
    refine JJ_take0 (i := 6) (v := ?vA13) rfl (by kernel_rfl) (by kernel_rfl) (by kernel_rfl) (by decide) (fun _ _ _ h => h) (Or.inl ⟨by rfl, ?yA13⟩) ?rA13
    case yA13 => ((intro w hSw; (try dsimp only at hSw); go_simp) <;> with_reducible rfl)
    try simp only [Act.put, List.setIfInBounds_toArray, List.set_cons_zero, List.set_cons_succ]
    refine JJ_take0 (i := 7) (v := ?vA14) rfl (by kernel_rfl) (by kernel_rfl) (by kernel_rfl) (by decide) (fun _ _ _ h => h) (Or.inl ⟨by rfl, ?yA14⟩) ?rA14
    case yA14 => ((intro w hSw; (try dsimp only at hSw); go_simp) <;> with_reducible rfl)
    try simp only [Act.put, List.setIfInBounds_toArray, List.set_cons_zero, List.set_cons_succ]
    obtain ⟨z0, z1, z2, z3, z4⟩ := bbox Az4
    obtain ⟨zf0, zf1, zf2, zf3, zf4⟩ := bboxf Az4
    refine JJ_one (i := 9) (by kernel_rfl) rfl (fun hT K hK => ?_)
    clear hT
    go_simp
    have Acc := Ac4.trans ((Kept.five Aw4 _ (.int .i64 r.qu) (.int .i64 r.po) (.int .i64 r.sp) (.slice u2 r.lo.length v2) (.slice u2' r.dr.length v2')).toBelow Ac4.size (by intro k hk; rw [hk]; exact Ag))
    refine hK.out _ _ ⟨hS _ Acc, fun _ => trivial⟩ ?_
    clear hK K
    try simp only [Act.put, List.setIfInBounds_toArray, List.set_cons_zero, List.set_cons_succ]
    refine JJ_one (i := 10) (by kernel_rfl) rfl (fun hT K hK => ?_)
    clear hT
    go_simp
    refine hK.out _ _ ⟨hS _ Acc, fun h => trivial⟩ ?_
    clear hK K
    try simp only [Act.put, List.setIfInBounds_toArray, List.set_cons_zero, List.set_cons_succ]
    refine JJ_done (by kernel_rfl) ?_ _
    refine NoPanic.normal ?_
    exact cont1 _ _ _ _ _ _ _ _ _ _ _ _ _ _ _ _ _ _ _ _ _ _ _ _ _ _ _ _ _ _ _ _ _ _ _ _ _ _ _ _ _ _ _ _ _ _ _ _ _ _ _ _ _ _ _ _ _ _ _ _ _ _ _ _ _ _ _ _ _ _ _ _ _ _ _ _ _ _ _ _ _ _ _ _ _ _ _ _ _ _ _ _ _ _ _ _ _ _ _ _ _ _ _ _ (ans_before Az4 Ao4 Agt4 Ag) Acc
end Go.Proofs.Ytljjgebkieffpaa
