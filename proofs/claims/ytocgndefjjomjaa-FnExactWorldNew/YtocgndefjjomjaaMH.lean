/- What marks rows of groups. -/
import Derived.Test.YtocgndefjjomjaaMG
namespace Go.Proofs.Ytocgndefjjomjaa
set_option linter.unusedVariables false
set_option linter.unusedSimpArgs false
open Go.ChangeShapes Go.WideShapes Go.ChangeAt Go.RowKit

def e2' (e : Gv) (b : Bool) (k : Int) : Gv := ⟨⟨b, k, e.d.na, e.d.we, e.d.cp, e.d.pe, e.d.ne, e.d.su, e.d.ba, e.d.sh⟩, e.x, e.y, e.z⟩
theorem grown_none {w w' : World} {k : Option Nat} (h : w.grownBy w' k) : Kept (fun g => k = some g) w w' := Kept.ofGrown h
set_option maxHeartbeats 16000000 in
set_option maxRecDepth 20000 in
theorem markGroupS_own (x : Value) (es : List Gv) (B : Nat) (k0 : Int) (w : World) (hs : OwnG B w x es) (hf : GsFit es) (hk0 : 0 ≤ k0) (hk1 : kGs k0 es ≤ 300000000) :
    Calls Try.prog 18 #[x, .int .i64 k0] w fun e w' => e = .returned (.int .i64 (kGs k0 es)) ∧ OwnG B w' x (mGs k0 es) ∧ Kept (fun g => g ∈ blksOf x es) w w' := by
  obtain ⟨hs, hall, hnd⟩ := hs
  rcases hs with ⟨rfl, rfl⟩ | ⟨g, cap, hB, hg, rfl, hE, hth, hc, hm⟩
  · go_enter Try.func18, Try.ntmps18
    go_wp2
    refine wp_loop_rounds 1 ?_
    rw [rounds_succ]
    go_wp2
    go_ret
    exact ⟨rfl, ⟨.inl ⟨rfl, rfl⟩, fun e he => (by cases he), hnd⟩, Kept.refl _ _⟩
  · have hnd' : (g :: blkGs es).Nodup := hnd
    unfold maxLen at hm
    obtain ⟨hlen, hfit⟩ := hf
    go_enter Try.func18, Try.ntmps18
    go_wp2
    go_loopw [1, 5] (fun c i wr => ∃ pre post : List Gv, es = pre ++ post ∧ i = .int .i64 pre.length ∧ c = .int .i64 (kGs k0 pre) ∧ Kept (fun k => k = g ∨ k ∈ blkGs es) w wr ∧ wr.there g 0 (es.length * 14) ∧ RowOf gvC 14 wr g 0 (mGs k0 pre ++ post) ∧ ∀ e ∈ mGs k0 pre ++ post, HasG B wr e) (fun _ i _ => es.length - (intOf i).toNat)
    case atStart => exact ⟨[], es, rfl, rfl, rfl, Kept.refl _ _, hth, hE, hall⟩
    case round =>
      obtain ⟨pre, post, hes, rfl, rfl, acc, hth, hrow, hown⟩ := hrel
      cases post with
      | nil =>
        rw [List.append_nil] at hes hrow hown
        subst hes
        have hlt' : ¬ (es.length : Int) < (es.length : Int) := by omega
        have HR : Hid (RowOf gvC 14 wr g 0 (mGs k0 es)) := hrow
        have HT : Hid (wr.there g 0 (es.length * 14)) := hth
        clear hrow hth
        go_wp2
        go_ret
        refine ⟨rfl, ⟨.inr ⟨g, cap, hB, Nat.lt_of_lt_of_le hg acc.size, by rw [mGs_len], HR.out, by rw [mGs_len]; exact HT.out, by rw [mGs_len]; exact hc, hm⟩, hown, ?_⟩, acc.mono (by intro k hk; rcases hk with rfl | hk; exact List.mem_cons_self; exact List.mem_cons_of_mem _ hk)⟩
        show (g :: blkGs (mGs k0 es)).Nodup
        rw [blkGs_m]; exact hnd'
      | cons e post =>
        have hkl : pre.length < es.length := by rw [hes]; simp
        have hlt' : (pre.length : Int) < (es.length : Int) := by omega
        have hee : e ∈ es := by rw [hes]; simp
        have hsub : ∀ k ∈ blkG e, k ∈ blkGs es := fun k hk => mem_blkGs hee hk
        obtain ⟨_, l1, l2, l3⟩ := hfit e hee
        have hKle := kGs_le k0 pre
        have hK1 : kGs k0 pre + gwid e.d ≤ 300000000 := by
          have := kGs_le (kGs k0 pre + gwid e.d) post
          have h2 : kGs k0 es = kGs (kGs k0 pre + gwid e.d) post := by rw [hes, kGs_append]; rfl
          omega
        have hml : (mGs k0 pre).length = pre.length := mGs_len _ _
        have hnd2 : (g :: blkGs (mGs k0 pre ++ e :: post)).Nodup := by rw [blkGs_append, blkGs_m, ← blkGs_append, ← hes]; exact hnd'
        obtain ⟨n1, n2, n3⟩ := apart_of hnd2
        obtain ⟨n4, n5, n6⟩ := apart_in n2
        have hgw : g < wr.heap.size := Nat.lt_of_lt_of_le hg acc.size
        have hme : HasG B wr e := hown e (by simp)
        have HN : Hid (mGs k0 (pre ++ [e]) = mGs k0 pre ++ [mGv (kGs k0 pre) e] ∧ kGs k0 (pre ++ [e]) = kGs k0 pre + gwid e.d) := ⟨by rw [mGs_append]; rfl, by rw [kGs_append]; rfl⟩
        generalize hKK : kGs k0 pre = K at *
        have hw := gwid_pos e.d
        have hgwd : gwid e.d = 11 + e.d.ba.lo.length + e.d.ba.dr.length + 5 * e.d.sh.length := rfl
        -- the first two cells
        obtain ⟨x0, x1, x2, x3, x4, x5, x6, x7, x8, x9, x10, x11, x12, x13⟩ := gv_cells (hrow pre.length e (by rw [List.getElem?_append_right (by omega), hml, Nat.sub_self]; rfl))
        simp only [Nat.zero_add] at x0 x1
        obtain ⟨_, _, f0⟩ := there_at hth hkl 0 (by omega); obtain ⟨_, _, f1⟩ := there_at hth hkl 1 (by omega)
        simp only [Nat.add_zero] at f0
        obtain ⟨p1, p2⟩ := put_mid (c := gvC) (n := 14) (s := 0) (e' := e2' e (K % 3 == 0) (K + 1)) (cs := [.bool (K % 3 == 0), .int .i64 (K + 1)]) hth hkl hrow hml gvC_len (by simp) rfl
        have hk1' := Kept.setCells wr g (pre.length * 14 + 0) [.bool (K % 3 == 0), .int .i64 (K + 1)]
        have HP1 : Hid (((wr.setCell ⟨g, pre.length * 14, none⟩ (.bool (K % 3 == 0))).setCell ⟨g, pre.length * 14 + 1, none⟩ (.int .i64 (K + 1))).there g 0 (es.length * 14)) := p1
        have HP2 : Hid (RowOf gvC 14 ((wr.setCell ⟨g, pre.length * 14, none⟩ (.bool (K % 3 == 0))).setCell ⟨g, pre.length * 14 + 1, none⟩ (.int .i64 (K + 1))) g 0 (mGs k0 pre ++ e2' e (K % 3 == 0) (K + 1) :: post)) := p2
        have HK1 : Hid (Kept (fun k => k = g) wr ((wr.setCell ⟨g, pre.length * 14, none⟩ (.bool (K % 3 == 0))).setCell ⟨g, pre.length * 14 + 1, none⟩ (.int .i64 (K + 1)))) := hk1'
        clear p1 p2 hk1' x2 x3 x4 x5 x6 x7 x8 x9 x10 x11 x12 x13 hrow hth
        go_wp2_with fail
        generalize ((wr.setCell ⟨g, pre.length * 14, none⟩ (.bool (K % 3 == 0))).setCell ⟨g, pre.length * 14 + 1, none⟩ (.int .i64 (K + 1))) = w1 at *
        have hth := HP1.out
        have hrow := HP2.out
        have hk1' := HK1.out
        clear HP1 HP2 HK1 x0 x1 f0 f1
        refine (markText_any (K + 1 + 1) w1 (by omega) (by omega)).mono ?_
        rintro e1 w2 ⟨rfl, hb2⟩
        have hgw1 : g < w1.heap.size := Nat.lt_of_lt_of_le hgw hk1'.size
        have hgw2 : g < w2.heap.size := Nat.lt_of_lt_of_le hgw1 hb2.size
        have hth := (Kept.ofBelow hb2).there hgw1 (fun hf => hf) hth
        have hrow := hrow.below hb2
        have hk2 := hk1'.trans (Kept.ofBelow hb2)
        clear hk1'
        obtain ⟨x0, x1, x2, x3, x4, x5, x6, x7, x8, x9, x10, x11, x12, x13⟩ := gv_cells (hrow pre.length _ (by rw [List.getElem?_append_right (by omega), hml, Nat.sub_self]; rfl))
        simp only [Nat.zero_add] at x2 x3 x4 x5 x6 x7 x8 x9 x10 x11
        obtain ⟨_, _, f2⟩ := there_at hth hkl 2 (by omega); obtain ⟨_, _, f3⟩ := there_at hth hkl 3 (by omega); obtain ⟨_, _, f4⟩ := there_at hth hkl 4 (by omega); obtain ⟨_, _, f5⟩ := there_at hth hkl 5 (by omega); obtain ⟨_, _, f6⟩ := there_at hth hkl 6 (by omega); obtain ⟨_, _, f7⟩ := there_at hth hkl 7 (by omega); obtain ⟨_, _, f8⟩ := there_at hth hkl 8 (by omega); obtain ⟨_, _, f9⟩ := there_at hth hkl 9 (by omega); obtain ⟨_, _, f10⟩ := there_at hth hkl 10 (by omega)
        obtain ⟨p1, p2⟩ := put_mid (c := gvC) (n := 14) (s := 2) (e' := mGv K e) (cs := [.string (mtxt (K + 1 + 1)), .int .i64 (K + 1 + 1 + 1), .int .i64 (K + 1 + 1 + 1 + 1), .int .i64 (K + 1 + 1 + 1 + 1 + 1), .int .i64 (K + 1 + 1 + 1 + 1 + 1 + 1), .int .i64 (K + 1 + 1 + 1 + 1 + 1 + 1 + 1), .int .i64 (K + 1 + 1 + 1 + 1 + 1 + 1 + 1 + 1), .int .i64 (K + 1 + 1 + 1 + 1 + 1 + 1 + 1 + 1 + 1), .int .i64 (K + 1 + 1 + 1 + 1 + 1 + 1 + 1 + 1 + 1 + 1)]) hth hkl hrow hml gvC_len (by simp) rfl
        have hk3 := Kept.setCells w2 g (pre.length * 14 + 2) [.string (mtxt (K + 1 + 1)), .int .i64 (K + 1 + 1 + 1), .int .i64 (K + 1 + 1 + 1 + 1), .int .i64 (K + 1 + 1 + 1 + 1 + 1), .int .i64 (K + 1 + 1 + 1 + 1 + 1 + 1), .int .i64 (K + 1 + 1 + 1 + 1 + 1 + 1 + 1), .int .i64 (K + 1 + 1 + 1 + 1 + 1 + 1 + 1 + 1), .int .i64 (K + 1 + 1 + 1 + 1 + 1 + 1 + 1 + 1 + 1), .int .i64 (K + 1 + 1 + 1 + 1 + 1 + 1 + 1 + 1 + 1 + 1)]
        have HP1 : Hid ((((((((((w2.setCell ⟨g, pre.length * 14 + 2, none⟩ (.string (mtxt (K + 1 + 1)))).setCell ⟨g, pre.length * 14 + 3, none⟩ (.int .i64 (K + 1 + 1 + 1))).setCell ⟨g, pre.length * 14 + 4, none⟩ (.int .i64 (K + 1 + 1 + 1 + 1))).setCell ⟨g, pre.length * 14 + 5, none⟩ (.int .i64 (K + 1 + 1 + 1 + 1 + 1))).setCell ⟨g, pre.length * 14 + 6, none⟩ (.int .i64 (K + 1 + 1 + 1 + 1 + 1 + 1))).setCell ⟨g, pre.length * 14 + 7, none⟩ (.int .i64 (K + 1 + 1 + 1 + 1 + 1 + 1 + 1))).setCell ⟨g, pre.length * 14 + 8, none⟩ (.int .i64 (K + 1 + 1 + 1 + 1 + 1 + 1 + 1 + 1))).setCell ⟨g, pre.length * 14 + 9, none⟩ (.int .i64 (K + 1 + 1 + 1 + 1 + 1 + 1 + 1 + 1 + 1))).setCell ⟨g, pre.length * 14 + 10, none⟩ (.int .i64 (K + 1 + 1 + 1 + 1 + 1 + 1 + 1 + 1 + 1 + 1))).there g 0 (es.length * 14)) := p1
        have HP2 : Hid (RowOf gvC 14 (((((((((w2.setCell ⟨g, pre.length * 14 + 2, none⟩ (.string (mtxt (K + 1 + 1)))).setCell ⟨g, pre.length * 14 + 3, none⟩ (.int .i64 (K + 1 + 1 + 1))).setCell ⟨g, pre.length * 14 + 4, none⟩ (.int .i64 (K + 1 + 1 + 1 + 1))).setCell ⟨g, pre.length * 14 + 5, none⟩ (.int .i64 (K + 1 + 1 + 1 + 1 + 1))).setCell ⟨g, pre.length * 14 + 6, none⟩ (.int .i64 (K + 1 + 1 + 1 + 1 + 1 + 1))).setCell ⟨g, pre.length * 14 + 7, none⟩ (.int .i64 (K + 1 + 1 + 1 + 1 + 1 + 1 + 1))).setCell ⟨g, pre.length * 14 + 8, none⟩ (.int .i64 (K + 1 + 1 + 1 + 1 + 1 + 1 + 1 + 1))).setCell ⟨g, pre.length * 14 + 9, none⟩ (.int .i64 (K + 1 + 1 + 1 + 1 + 1 + 1 + 1 + 1 + 1))).setCell ⟨g, pre.length * 14 + 10, none⟩ (.int .i64 (K + 1 + 1 + 1 + 1 + 1 + 1 + 1 + 1 + 1 + 1))) g 0 (mGs k0 pre ++ mGv K e :: post)) := p2
        have HK1 : Hid (Kept (fun k => k = g) w2 (((((((((w2.setCell ⟨g, pre.length * 14 + 2, none⟩ (.string (mtxt (K + 1 + 1)))).setCell ⟨g, pre.length * 14 + 3, none⟩ (.int .i64 (K + 1 + 1 + 1))).setCell ⟨g, pre.length * 14 + 4, none⟩ (.int .i64 (K + 1 + 1 + 1 + 1))).setCell ⟨g, pre.length * 14 + 5, none⟩ (.int .i64 (K + 1 + 1 + 1 + 1 + 1))).setCell ⟨g, pre.length * 14 + 6, none⟩ (.int .i64 (K + 1 + 1 + 1 + 1 + 1 + 1))).setCell ⟨g, pre.length * 14 + 7, none⟩ (.int .i64 (K + 1 + 1 + 1 + 1 + 1 + 1 + 1))).setCell ⟨g, pre.length * 14 + 8, none⟩ (.int .i64 (K + 1 + 1 + 1 + 1 + 1 + 1 + 1 + 1))).setCell ⟨g, pre.length * 14 + 9, none⟩ (.int .i64 (K + 1 + 1 + 1 + 1 + 1 + 1 + 1 + 1 + 1))).setCell ⟨g, pre.length * 14 + 10, none⟩ (.int .i64 (K + 1 + 1 + 1 + 1 + 1 + 1 + 1 + 1 + 1 + 1)))) := hk3
        clear p1 p2 hk3 x0 x1 x12 x13 hrow hth
        unfold e2' at x2 x3 x4 x5 x6 x7 x8 x9 x10 x11
        dsimp only at x2 x3 x4 x5 x6 x7 x8 x9 x10 x11
        simp only []
        go_at_K
        go_wp2_with fail
        generalize (((((((((w2.setCell ⟨g, pre.length * 14 + 2, none⟩ (.string (mtxt (K + 1 + 1)))).setCell ⟨g, pre.length * 14 + 3, none⟩ (.int .i64 (K + 1 + 1 + 1))).setCell ⟨g, pre.length * 14 + 4, none⟩ (.int .i64 (K + 1 + 1 + 1 + 1))).setCell ⟨g, pre.length * 14 + 5, none⟩ (.int .i64 (K + 1 + 1 + 1 + 1 + 1))).setCell ⟨g, pre.length * 14 + 6, none⟩ (.int .i64 (K + 1 + 1 + 1 + 1 + 1 + 1))).setCell ⟨g, pre.length * 14 + 7, none⟩ (.int .i64 (K + 1 + 1 + 1 + 1 + 1 + 1 + 1))).setCell ⟨g, pre.length * 14 + 8, none⟩ (.int .i64 (K + 1 + 1 + 1 + 1 + 1 + 1 + 1 + 1))).setCell ⟨g, pre.length * 14 + 9, none⟩ (.int .i64 (K + 1 + 1 + 1 + 1 + 1 + 1 + 1 + 1 + 1))).setCell ⟨g, pre.length * 14 + 10, none⟩ (.int .i64 (K + 1 + 1 + 1 + 1 + 1 + 1 + 1 + 1 + 1 + 1))) = w3 at *
        have hth := HP1.out
        have hrow := HP2.out
        have hk3 := hk2.trans HK1.out
        clear HP1 HP2 HK1 hk2 x2 x3 x4 x5 x6 x7 x8 x9 x10 x11 f2 f3 f4 f5 f6 f7 f8 f9 f10
        have hgw3 : g < w3.heap.size := Nat.lt_of_lt_of_le hgw hk3.size
        have hme := hme.kept hk3 (fun k hk hh => n1 (by rcases hh with (rfl | hh) | rfl; exact hk; exact hh.elim; exact hk))
        obtain ⟨m1, m2, m3⟩ := hme
        have g1 : e.x.ownBlock ≠ some g := fun h => n1 (by simp [blkG, h])
        have g2 : e.y.ownBlock ≠ some g := fun h => n1 (by simp [blkG, h])
        have g3 : e.z.ownBlock ≠ some g := fun h => n1 (by simp [blkG, h])
        refine (markIntS_own e.x e.d.ba.lo B (K + 1 + 1 + 1 + 1 + 1 + 1 + 1 + 1 + 1 + 1 + 1) w3 m1 l1 (by omega) (by omega)).mono ?_
        rintro e1 w4 ⟨rfl, o1, gr⟩
        have hk4 := Kept.ofGrown gr
        clear gr
        have hth := hk4.there hgw3 g1 hth
        have hrow := hrow.kept hk4 g1
        have m2 := m2.kept hk4 (fun k hk hh => n4 k hh hk)
        have m3 := m3.kept hk4 (fun k hk hh => n5 k hh hk)
        have hgw4 : g < w4.heap.size := Nat.lt_of_lt_of_le hgw3 hk4.size
        have hk4 := hk3.trans hk4
        clear hk3
        obtain ⟨x0, x1, x2, x3, x4, x5, x6, x7, x8, x9, x10, x11, x12, x13⟩ := gv_cells (hrow pre.length _ (by rw [List.getElem?_append_right (by omega), hml, Nat.sub_self]; rfl))
        simp only [Nat.zero_add] at x12
        unfold mGv at x12
        dsimp only at x12
        clear x0 x1 x2 x3 x4 x5 x6 x7 x8 x9 x10 x11 x13
        have HT : Hid (w4.there g 0 (es.length * 14)) := hth
        have HR : Hid (RowOf gvC 14 w4 g 0 (mGs k0 pre ++ mGv K e :: post)) := hrow
        clear hth hrow
        simp only []
        go_at_K
        go_wp2_with fail
        refine (markBoolS_own e.y e.d.ba.dr B (K + 1 + 1 + 1 + 1 + 1 + 1 + 1 + 1 + 1 + 1 + 1 + e.d.ba.lo.length) w4 m2 l2 (by omega) (by omega)).mono ?_
        rintro e1 w5 ⟨rfl, o2, gr⟩
        have hk5 := Kept.ofGrown gr
        clear gr
        have hth := hk5.there hgw4 g2 HT.out
        have hrow := HR.out.kept hk5 g2
        clear HT HR x12
        have m1 := o1.kept hk5 (fun k hk hh => n4 k hk hh)
        have m3 := m3.kept hk5 (fun k hk hh => n6 k hh hk)
        have hgw5 : g < w5.heap.size := Nat.lt_of_lt_of_le hgw4 hk5.size
        have hk5 := hk4.trans hk5
        clear hk4 o1
        obtain ⟨x0, x1, x2, x3, x4, x5, x6, x7, x8, x9, x10, x11, x12, x13⟩ := gv_cells (hrow pre.length _ (by rw [List.getElem?_append_right (by omega), hml, Nat.sub_self]; rfl))
        simp only [Nat.zero_add] at x13
        unfold mGv at x13
        dsimp only at x13
        clear x0 x1 x2 x3 x4 x5 x6 x7 x8 x9 x10 x11 x12
        have HT : Hid (w5.there g 0 (es.length * 14)) := hth
        have HR : Hid (RowOf gvC 14 w5 g 0 (mGs k0 pre ++ mGv K e :: post)) := hrow
        clear hth hrow
        simp only []
        go_at_K
        go_wp2_with fail
        refine (markShelfS_own e.z e.d.sh B (K + 1 + 1 + 1 + 1 + 1 + 1 + 1 + 1 + 1 + 1 + 1 + e.d.ba.lo.length + e.d.ba.dr.length) w5 m3 l3 (by omega) (by omega)).mono ?_
        rintro e1 w6 ⟨rfl, o3, gr⟩
        have hk6 := Kept.ofGrown gr
        clear gr
        have hth := hk6.there hgw5 g3 HT.out
        have hrow := HR.out.kept hk6 g3
        clear HT HR x13
        have m1 := m1.kept hk6 (fun k hk hh => n5 k hk hh)
        have m2 := o2.kept hk6 (fun k hk hh => n6 k hk hh)
        have hk6 := hk5.trans hk6
        have hS : ∀ k, ((((((k = g ∨ False) ∨ k = g) ∨ e.x.ownBlock = some k) ∨ e.y.ownBlock = some k) ∨ e.z.ownBlock = some k)) → k = g ∨ k ∈ blkG e := by
          intro k hk
          rcases hk with ((((hk | hk) | hk) | hk) | hk) | hk
          · exact .inl hk
          · exact hk.elim
          · exact .inl hk
          · exact .inr (by simp [blkG, hk])
          · exact .inr (by simp [blkG, hk])
          · exact .inr (by simp [blkG, hk])
        have hk6 := hk6.mono hS
        clear hk5 o2 hS
        have HI : Hid (Kept (fun k => k = g ∨ k ∈ blkGs es) w w6 ∧ w6.there g 0 (es.length * 14) ∧ RowOf gvC 14 w6 g 0 (mGs k0 (pre ++ [e]) ++ post) ∧ ∀ u ∈ mGs k0 (pre ++ [e]) ++ post, HasG B w6 u) := by
          refine ⟨(acc.trans hk6).mono (by intro k hk; rcases hk with hk | hk | hk; exact hk; exact .inl hk; exact .inr (hsub k hk)), hth, ?_, ?_⟩
          · rw [HN.out.1, List.append_assoc]; exact hrow
          · rw [HN.out.1, List.append_assoc]
            intro u hu
            rcases List.mem_append.1 hu with hu | hu
            · have h0 : g ∉ blkG u := fun h => (List.nodup_cons.1 hnd2).1 (mem_blkGs (List.mem_append.2 (.inl hu)) h)
              exact (hown u (List.mem_append.2 (.inl hu))).kept hk6 (fun k hk hh => by rcases hh with rfl | hh; exact h0 hk; exact n3 u (List.mem_append.2 (.inl hu)) k hk hh)
            · rcases List.mem_cons.1 hu with rfl | hu
              · exact ⟨m1, m2, o3⟩
              · have h0 : g ∉ blkG u := fun h => (List.nodup_cons.1 hnd2).1 (mem_blkGs (List.mem_append.2 (.inr (List.mem_cons_of_mem _ hu))) h)
                exact (hown u (List.mem_append.2 (.inr (List.mem_cons_of_mem _ hu)))).kept hk6 (fun k hk hh => by rcases hh with rfl | hh; exact h0 hk; exact n3 u (List.mem_append.2 (.inr hu)) k hk hh)
        clear hrow hth
        simp only []
        go_at_K
        go_wp2_with fail
        refine ⟨⟨pre ++ [e], post, by rw [hes]; simp, by rw [List.length_append]; go_num, ?_, HI.out⟩, by simp [intOf]; omega⟩
        rw [HN.out.2, hgwd]
        congr 1
        omega
end Go.Proofs.Ytocgndefjjomjaa
