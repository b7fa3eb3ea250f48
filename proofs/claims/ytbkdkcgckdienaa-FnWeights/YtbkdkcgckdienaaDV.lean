/- The drawn inputs of the laws on weights: contracts of DrawVirtualStep and DrawLagCut. -/
import Derived.Test.YtbkdkcgckdienaaR2
import Derived.Test.YtbkdkcgckdienaaG
import Derived.Test.YtbkdkcgckdienaaW
namespace Go.Proofs.Ytbkdkcgckdienaa
open Go.ChangeShapes Go.WideShapes Go.ChangeAt Go.RowKit

def cvs (L : Nat → Bool) : Nat := (if L 1 = true then 1 else 0) + (if L 3 = true then 7 else 0) + (if L 7 = true then 1 else 0) + (if L 11 = true then 2 else 0)
theorem cvs_le (L : Nat → Bool) : cvs L ≤ 11 := by unfold cvs; have := iteLe (L 1 = true) 1; have := iteLe (L 3 = true) 7; have := iteLe (L 7 = true) 1; have := iteLe (L 11 = true) 2; omega

set_option maxHeartbeats 4000000 in
theorem draw_vstep (a : Option Addr) (len cap : Nat) (zs : List Int) (w : World) (h : IsRow .u8 w a len cap zs) :
    Calls Try.prog 14 #[.slice a len cap] w fun e w' => ∃ n u : Int, e = .returned (.tuple #[.int .i64 n, .int .i64 u]) ∧ -1 ≤ n ∧ n ≤ 200000000 ∧ -2 ≤ u ∧ u ≤ 21 ∧ Below w.heap.size w w' := by
  go_enter Try.func14, Try.ntmps14
  go_wp2_with (go_at_call 35; refine (open_any _ _ _ zs _ h).mono ?_; rintro e w1 ⟨rfl, cur, hB⟩)
  refine region_inv (by kernel_rfl) (by kernel_rfl) (fun L x y => ∃ s2 s3 s7 s8 s9 s10 s11 s12 s13 s14 s15 s16 s17 s18 : Value,
    x = { tmps := #[.slice a len cap, undef, s2, s3, .pointer (some ⟨w.heap.size, 0, none⟩), .slice a len cap, .pointer (some ⟨w.heap.size, 0, none⟩), s7, s8, s9, s10, s11, s12, s13, s14, s15, s16, s17, s18], defers := [] } ∧ Keep w.heap.size w1 y ∧ Rd w.heap.size (cvs L) y ∧
    (L 0 = true → IsP w.heap.size s7) ∧ (L 1 = true → IsI (0) (199) s8) ∧ (L 2 = true → IsP w.heap.size s9) ∧ (L 3 = true → IsI (0) (72057594037927935) s10) ∧ (L 4 = true → IsI (0) (199999999) s11) ∧ (L 5 = true → IsS w.heap.size 5 (-1) (200000000) y s12) ∧ (L 6 = true → IsP w.heap.size s13) ∧ (L 7 = true → IsI (0) (4) s14) ∧ (L 8 = true → IsC w.heap.size (-1) (200000000) y s15) ∧ (L 9 = true → IsI (-1) (200000000) s16) ∧ (L 10 = true → IsP w.heap.size s17) ∧ (L 11 = true → IsI (-2) (21) s18) ∧ (L 12 = true → IsI (-1) (200000000) s2) ∧ (L 13 = true → IsI (-2) (21) s3)) ?h0 ?step ?done
  case h0 => exact ⟨_, _, _, _, _, _, _, _, _, _, _, _, _, _, rfl, (Keep.refl _ _).drew, cur.drew, (fun h => by cases h), (fun h => by cases h), (fun h => by cases h), (fun h => by cases h), (fun h => by cases h), (fun h => by cases h), (fun h => by cases h), (fun h => by cases h), (fun h => by cases h), (fun h => by cases h), (fun h => by cases h), (fun h => by cases h), (fun h => by cases h), (fun h => by cases h)⟩
  case step =>
    clear cur
    rintro i o ho L x y ⟨s2, s3, s7, s8, s9, s10, s11, s12, s13, s14, s15, s16, s17, s18, rfl, hK0, hR0, f0, f1, f2, f3, f4, f5, f6, f7, f8, f9, f10, f11, f12, f13⟩ hL hpre K hK
    have hi : i = 0 ∨ i = 1 ∨ i = 2 ∨ i = 3 ∨ i = 4 ∨ i = 5 ∨ i = 6 ∨ i = 7 ∨ i = 8 ∨ i = 9 ∨ i = 10 ∨ i = 11 ∨ i = 12 ∨ i = 13 := by
      have : i < 14 := by
        rcases Nat.lt_or_ge i 14 with h' | h'
        · exact h'
        · rw [Array.getElem?_eq_none (by simpa using h')] at ho; cases ho
      omega
    rcases hi with rfl | rfl | rfl | rfl | rfl | rfl | rfl | rfl | rfl | rfl | rfl | rfl | rfl | rfl
    · obtain rfl := Option.some.inj ho
      clear ho
      simp [Region.binds] at hpre
      clear hpre
      go_simp
      exact hK _ _ ⟨_, _, _, _, _, _, _, _, _, _, _, _, _, _, rfl, hK0, hR0.mono (by simp [cvs, setL]), (fun _ => rfl), (fun h => f1 h), (fun h => f2 h), (fun h => f3 h), (fun h => f4 h), (fun h => f5 h), (fun h => f6 h), (fun h => f7 h), (fun h => f8 h), (fun h => f9 h), (fun h => f10 h), (fun h => f11 h), (fun h => f12 h), (fun h => f13 h)⟩
    · obtain rfl := Option.some.inj ho
      clear ho
      simp [Region.binds] at hpre
      have d0 : L 0 = true := by first | exact hpre | exact hpre.1 | exact hpre.2 | (simp_all; done)
      obtain rfl : s7 = _ := f0 d0
      have hc := cvs_le L
      go_simp
      refine (pick_rd w.heap.size _ 200 _ hR0 (by omega)).mono ?_
      rintro e y' ⟨r, rfl, r0, r1, hk, hR1⟩
      replace r1 := r1 (by omega)
      dsimp only
      exact hK _ _ ⟨_, _, _, _, _, _, _, _, _, _, _, _, _, _, rfl, hK0.trans hk, hR1.mono (by simp [cvs, setL, hL]; try omega), (fun h => f0 h), (fun _ => ⟨r, rfl, by omega, by omega⟩), (fun h => f2 h), (fun h => f3 h), (fun h => f4 h), (fun h => (f5 h).keep hk), (fun h => f6 h), (fun h => f7 h), (fun h => (f8 h).keep hk), (fun h => f9 h), (fun h => f10 h), (fun h => f11 h), (fun h => f12 h), (fun h => f13 h)⟩
    · obtain rfl := Option.some.inj ho
      clear ho
      simp [Region.binds] at hpre
      clear hpre
      go_simp
      exact hK _ _ ⟨_, _, _, _, _, _, _, _, _, _, _, _, _, _, rfl, hK0, hR0.mono (by simp [cvs, setL]), (fun h => f0 h), (fun h => f1 h), (fun _ => rfl), (fun h => f3 h), (fun h => f4 h), (fun h => f5 h), (fun h => f6 h), (fun h => f7 h), (fun h => f8 h), (fun h => f9 h), (fun h => f10 h), (fun h => f11 h), (fun h => f12 h), (fun h => f13 h)⟩
    · obtain rfl := Option.some.inj ho
      clear ho
      simp [Region.binds] at hpre
      have d2 : L 2 = true := by first | exact hpre | exact hpre.1 | exact hpre.2 | (simp_all; done)
      obtain rfl : s9 = _ := f2 d2
      have hc := cvs_le L
      go_simp
      refine (big_rd w.heap.size _ _ hR0 (by omega)).mono ?_
      rintro e y' ⟨r, rfl, r0, r1, hk, hR1⟩
      dsimp only
      exact hK _ _ ⟨_, _, _, _, _, _, _, _, _, _, _, _, _, _, rfl, hK0.trans hk, hR1.mono (by simp [cvs, setL, hL]; try omega), (fun h => f0 h), (fun h => f1 h), (fun h => f2 h), (fun _ => ⟨r, rfl, by omega, by omega⟩), (fun h => f4 h), (fun h => (f5 h).keep hk), (fun h => f6 h), (fun h => f7 h), (fun h => (f8 h).keep hk), (fun h => f9 h), (fun h => f10 h), (fun h => f11 h), (fun h => f12 h), (fun h => f13 h)⟩
    · obtain rfl := Option.some.inj ho
      clear ho
      simp [Region.binds] at hpre
      have d3 : L 3 = true := by first | exact hpre | exact hpre.1 | exact hpre.2 | (simp_all; done)
      obtain ⟨r, rfl, rl, rh⟩ := f3 d3
      go_simp
      exact hK _ _ ⟨_, _, _, _, _, _, _, _, _, _, _, _, _, _, rfl, hK0, hR0.mono (by simp [cvs, setL]), (fun h => f0 h), (fun h => f1 h), (fun h => f2 h), (fun h => f3 h), (fun _ => isI_tmod rl (by omega) (by omega)), (fun h => f5 h), (fun h => f6 h), (fun h => f7 h), (fun h => f8 h), (fun h => f9 h), (fun h => f10 h), (fun h => f11 h), (fun h => f12 h), (fun h => f13 h)⟩
    · obtain rfl := Option.some.inj ho
      clear ho
      simp [Region.binds] at hpre
      have d1 : L 1 = true := by first | exact hpre | exact hpre.1 | exact hpre.2 | (simp_all; done)
      obtain ⟨p, rfl, pl, ph⟩ := f1 d1
      have d4 : L 4 = true := by first | exact hpre | exact hpre.1 | exact hpre.2 | (simp_all; done)
      obtain ⟨q, rfl, ql, qh⟩ := f4 d4
      go_simp
      exact hK _ _ ⟨_, _, _, _, _, _, _, _, _, _, _, _, _, _, rfl, hK0.trans ((Keep.refl _ _).alloc _), (hR0.alloc _).mono (by simp [cvs, setL]), (fun h => f0 h), (fun h => f1 h), (fun h => f2 h), (fun h => f3 h), (fun h => f4 h), (fun _ => isS_of (Nat.ne_of_gt hR0.lt) (heap_alloc_new _ _) (by rfl) (by intro v hv; simp at hv; rcases hv with rfl | rfl | rfl | rfl | rfl <;> exact isI_mk (by omega) (by omega))), (fun h => f6 h), (fun h => f7 h), (fun h => (f8 h).keep ((Keep.refl _ _).alloc _)), (fun h => f9 h), (fun h => f10 h), (fun h => f11 h), (fun h => f12 h), (fun h => f13 h)⟩
    · obtain rfl := Option.some.inj ho
      clear ho
      simp [Region.binds] at hpre
      clear hpre
      go_simp
      exact hK _ _ ⟨_, _, _, _, _, _, _, _, _, _, _, _, _, _, rfl, hK0, hR0.mono (by simp [cvs, setL]), (fun h => f0 h), (fun h => f1 h), (fun h => f2 h), (fun h => f3 h), (fun h => f4 h), (fun h => f5 h), (fun _ => rfl), (fun h => f7 h), (fun h => f8 h), (fun h => f9 h), (fun h => f10 h), (fun h => f11 h), (fun h => f12 h), (fun h => f13 h)⟩
    · obtain rfl := Option.some.inj ho
      clear ho
      simp [Region.binds] at hpre
      have d6 : L 6 = true := by first | exact hpre | exact hpre.1 | exact hpre.2 | (simp_all; done)
      obtain rfl : s13 = _ := f6 d6
      have hc := cvs_le L
      go_simp
      refine (pick_rd w.heap.size _ 5 _ hR0 (by omega)).mono ?_
      rintro e y' ⟨r, rfl, r0, r1, hk, hR1⟩
      replace r1 := r1 (by omega)
      dsimp only
      exact hK _ _ ⟨_, _, _, _, _, _, _, _, _, _, _, _, _, _, rfl, hK0.trans hk, hR1.mono (by simp [cvs, setL, hL]; try omega), (fun h => f0 h), (fun h => f1 h), (fun h => f2 h), (fun h => f3 h), (fun h => f4 h), (fun h => (f5 h).keep hk), (fun h => f6 h), (fun _ => ⟨r, rfl, by omega, by omega⟩), (fun h => (f8 h).keep hk), (fun h => f9 h), (fun h => f10 h), (fun h => f11 h), (fun h => f12 h), (fun h => f13 h)⟩
    · obtain rfl := Option.some.inj ho
      clear ho
      simp [Region.binds] at hpre
      have d5 : L 5 = true := by first | exact hpre | exact hpre.1 | exact hpre.2 | (simp_all; done)
      obtain ⟨g, rfl, g1, g2⟩ := f5 d5
      have d7 : L 7 = true := by first | exact hpre | exact hpre.1 | exact hpre.2 | (simp_all; done)
      obtain ⟨r, rfl, rl, rh⟩ := f7 d7
      have rl2 : r < 5 := by omega
      obtain ⟨x, x1, x2, x3⟩ := g2 r.toNat (by omega)
      clear g2
      go_simp
      exact hK _ _ ⟨_, _, _, _, _, _, _, _, _, _, _, _, _, _, rfl, hK0, hR0.mono (by simp [cvs, setL]), (fun h => f0 h), (fun h => f1 h), (fun h => f2 h), (fun h => f3 h), (fun h => f4 h), (fun h => f5 h), (fun h => f6 h), (fun h => f7 h), (fun _ => ⟨g, r.toNat, x, rfl, g1, x1, x2, x3⟩), (fun h => f9 h), (fun h => f10 h), (fun h => f11 h), (fun h => f12 h), (fun h => f13 h)⟩
    · obtain rfl := Option.some.inj ho
      clear ho
      simp [Region.binds] at hpre
      have d8 : L 8 = true := by first | exact hpre | exact hpre.1 | exact hpre.2 | (simp_all; done)
      obtain ⟨g, o, x, rfl, g1, x1, x2, x3⟩ := f8 d8
      go_simp
      exact hK _ _ ⟨_, _, _, _, _, _, _, _, _, _, _, _, _, _, rfl, hK0, hR0.mono (by simp [cvs, setL]), (fun h => f0 h), (fun h => f1 h), (fun h => f2 h), (fun h => f3 h), (fun h => f4 h), (fun h => f5 h), (fun h => f6 h), (fun h => f7 h), (fun h => f8 h), (fun _ => ⟨x, rfl, x1, x2⟩), (fun h => f10 h), (fun h => f11 h), (fun h => f12 h), (fun h => f13 h)⟩
    · obtain rfl := Option.some.inj ho
      clear ho
      simp [Region.binds] at hpre
      clear hpre
      go_simp
      exact hK _ _ ⟨_, _, _, _, _, _, _, _, _, _, _, _, _, _, rfl, hK0, hR0.mono (by simp [cvs, setL]), (fun h => f0 h), (fun h => f1 h), (fun h => f2 h), (fun h => f3 h), (fun h => f4 h), (fun h => f5 h), (fun h => f6 h), (fun h => f7 h), (fun h => f8 h), (fun h => f9 h), (fun _ => rfl), (fun h => f11 h), (fun h => f12 h), (fun h => f13 h)⟩
    · obtain rfl := Option.some.inj ho
      clear ho
      simp [Region.binds] at hpre
      have d10 : L 10 = true := by first | exact hpre | exact hpre.1 | exact hpre.2 | (simp_all; done)
      obtain rfl : s17 = _ := f10 d10
      have hc := cvs_le L
      go_simp
      refine (weight_rd w.heap.size _ _ hR0 (by omega)).mono ?_
      rintro e y' ⟨r, rfl, r0, r1, hk, hR1⟩
      dsimp only
      exact hK _ _ ⟨_, _, _, _, _, _, _, _, _, _, _, _, _, _, rfl, hK0.trans hk, hR1.mono (by simp [cvs, setL, hL]; try omega), (fun h => f0 h), (fun h => f1 h), (fun h => f2 h), (fun h => f3 h), (fun h => f4 h), (fun h => (f5 h).keep hk), (fun h => f6 h), (fun h => f7 h), (fun h => (f8 h).keep hk), (fun h => f9 h), (fun h => f10 h), (fun _ => ⟨r, rfl, by omega, by omega⟩), (fun h => f12 h), (fun h => f13 h)⟩
    · obtain rfl := Option.some.inj ho
      clear ho
      simp [Region.binds] at hpre
      have d9 : L 9 = true := by first | exact hpre | exact hpre.1 | exact hpre.2 | (simp_all; done)
      go_simp
      exact hK _ _ ⟨_, _, _, _, _, _, _, _, _, _, _, _, _, _, rfl, hK0, hR0.mono (by simp [cvs, setL]), (fun h => f0 h), (fun h => f1 h), (fun h => f2 h), (fun h => f3 h), (fun h => f4 h), (fun h => f5 h), (fun h => f6 h), (fun h => f7 h), (fun h => f8 h), (fun h => f9 h), (fun h => f10 h), (fun h => f11 h), (fun _ => f9 d9), (fun h => f13 h)⟩
    · obtain rfl := Option.some.inj ho
      clear ho
      simp [Region.binds] at hpre
      have d11 : L 11 = true := by first | exact hpre | exact hpre.1 | exact hpre.2 | (simp_all; done)
      go_simp
      exact hK _ _ ⟨_, _, _, _, _, _, _, _, _, _, _, _, _, _, rfl, hK0, hR0.mono (by simp [cvs, setL]), (fun h => f0 h), (fun h => f1 h), (fun h => f2 h), (fun h => f3 h), (fun h => f4 h), (fun h => f5 h), (fun h => f6 h), (fun h => f7 h), (fun h => f8 h), (fun h => f9 h), (fun h => f10 h), (fun h => f11 h), (fun h => f12 h), (fun _ => f11 d11)⟩
  case done =>
    rintro L x y hall ⟨s2, s3, s7, s8, s9, s10, s11, s12, s13, s14, s15, s16, s17, s18, rfl, hK0, hR0, f0, f1, f2, f3, f4, f5, f6, f7, f8, f9, f10, f11, f12, f13⟩
    have t2 := f12 (hall 12 (by decide))
    have t3 := f13 (hall 13 (by decide))
    obtain ⟨n, rfl, n1, n2⟩ := t2
    obtain ⟨u, rfl, u1, u2⟩ := t3
    clear f0 f1 f2 f3 f4 f5 f6 f7 f8 f9 f10 f11 f12 f13
    go_wp2
    go_ret2
    exact ⟨n, u, rfl, n1, n2, u1, u2, hB.trans (hK0.below (Nat.le_refl _) hB.size)⟩

set_option maxHeartbeats 4000000 in
theorem draw_lagcut (a : Option Addr) (len cap : Nat) (zs : List Int) (w : World) (h : IsRow .u8 w a len cap zs) :
    Calls Try.prog 18 #[.slice a len cap] w fun e w' => ∃ n u : Int, e = .returned (.tuple #[.int .i64 n, .int .i64 u]) ∧ -72057594037927936 ≤ n ∧ n ≤ 72057594037927936 ∧ -2 ≤ u ∧ u ≤ 21 ∧ Below w.heap.size w w' := by
  go_enter Try.func18, Try.ntmps18
  go_wp2_with (first
    | (go_at_call 35; refine (open_any _ _ _ zs _ h).mono ?_; rintro e w1 ⟨rfl, cur, hB⟩; have acc := Keep.refl w.heap.size w1)
    | (go_at_call 38; refine (weight_rd _ _ _ cur (by omega)).mono ?_; rintro e y1 ⟨u, rfl, u1, u2, hk, hR1⟩; replace acc := acc.trans hk; replace cur := hR1; clear hk hR1; have hv := vstep_bd 149 u)
    | (go_at_call 37; refine (big_rd _ _ _ cur (by omega)).mono ?_; rintro e y2 ⟨q, rfl, q1, q2, hk, hR1⟩; replace acc := acc.trans hk; replace cur := hR1; clear hk hR1)
    | (go_at_call 33; refine (spec_lagmost _ _).mono ?_; rintro e y3 ⟨rfl, rfl⟩)
    | (go_at_call 16; refine (spec_vstep _ _ _).mono ?_; rintro e y4 ⟨rfl, rfl⟩)
    | (go_at_call_of 36 (Value.int IntKind.i64 200); refine (pick_rd _ _ 200 _ cur (by omega)).mono ?_; rintro e y5 ⟨p, rfl, p1, p2, hk, hR1⟩; replace p2 := p2 (by omega); replace acc := acc.trans hk; replace cur := hR1; clear hk hR1; have hv2 := vstep_bd p u)
    | (go_at_call_of 36 (Value.int IntKind.i64 6); refine (pick_rd _ _ 6 _ (cur.alloc _) (by omega)).mono ?_; rintro e y6 ⟨r, rfl, r1, r2, hk, hR1⟩; replace r2 := r2 (by omega);
        obtain ⟨x, x1, x2, x3⟩ := ((isS_of (n := 6) (lo := -72057594037927936) (hi := 72057594037927936) (Nat.ne_of_gt cur.lt) (heap_alloc_new _ _) (by rfl) (by intro v hv; simp at hv; rcases hv with rfl | rfl | rfl | rfl | rfl | rfl <;> exact isI_mk (by omega) (by omega))).keep hk).at r r1 r2;
        replace acc := (acc.alloc _).trans hk; replace cur := hR1; clear hk hR1))
  go_ret2
  exact ⟨x, u, rfl, x1, x2, u1, u2, hB.trans (acc.below (Nat.le_refl _) hB.size)⟩
theorem IsRow.below {k : IntKind} {w w' : World} {a : Option Addr} {len cap : Nat} {zs : List Int} (h : IsRow k w a len cap zs) (hb : Below w.heap.size w w') : IsRow k w' a len cap zs := by
  rcases h with h | ⟨x, rfl, hl, hm, hz, hc, hw⟩
  · exact .inl h
  · exact .inr ⟨x, rfl, hl, hm, hz, fun i hi => (hb.cell (block_lt_of_cell (hc i hi))).trans (hc i hi), hw⟩
theorem div_at (n d r : Int) (hd : 0 < d) (h0 : 0 ≤ r) (h1 : r < d) : (n * d + r) / d = n := by
  rw [Int.add_comm, Int.add_mul_ediv_right _ _ (by omega), Int.ediv_eq_zero_of_lt h0 h1, Int.zero_add]
theorem vunits_step {n u : Int} (h : 0 < vstep n u) : vunits (vstep n u) u = n ∧ vunits (vstep n u - 1) u = n ∧ vunits (vstep n u + 1) u = n + 1 ∧ 1 < vstep n u ∧ 1 ≤ n ∧ n ≤ 100000000 := by
  by_cases c : 0 ≤ n ∧ n ≤ 100000000 ∧ 1 ≤ u ∧ u ≤ 20
  · have e : vstep n u = n * (232792560 / u) := by unfold vstep; rw [if_pos c]
    rw [e] at h ⊢
    obtain ⟨c1, c2, c3, c4⟩ := c
    have hd := div_bd u c3 c4
    obtain ⟨d, hdd⟩ : ∃ d, 232792560 / u = d := ⟨_, rfl⟩
    rw [hdd] at h hd ⊢
    have hb := mul_bd n d c1 c2 hd.1 hd.2
    have hn : 1 ≤ n := by
      rcases Int.lt_or_le 0 n with h' | h'
      · omega
      · have : n = 0 := by omega
        subst this; simp at h
    have h1 : d ≤ n * d := by have := Int.mul_le_mul_of_nonneg_right hn (show 0 ≤ d by omega); omega
    unfold vunits
    rw [if_pos (by omega), if_pos (by omega), if_pos (by omega), hdd]
    refine ⟨?_, ?_, ?_, by omega, hn, c2⟩
    · rw [show n * d + d - 1 = n * d + (d - 1) by omega]; exact div_at n d (d - 1) (by omega) (by omega) (by omega)
    · rw [show n * d - 1 + d - 1 = n * d + (d - 2) by omega]; exact div_at n d (d - 2) (by omega) (by omega) (by omega)
    · rw [show n * d + 1 + d - 1 = (n + 1) * d + 0 by rw [Int.add_mul]; omega]; exact div_at (n + 1) d 0 (by omega) (by omega) (by omega)
  · exfalso
    unfold vstep at h; rw [if_neg c] at h; omega
theorem vstep_add {m n u : Int} (hm : 0 ≤ m) (hn : 0 ≤ n) (h : m + n ≤ 100000000) : vstep m u + vstep n u = vstep (m + n) u := by
  unfold vstep
  by_cases c : 1 ≤ u ∧ u ≤ 20
  · rw [if_pos (by omega), if_pos (by omega), if_pos (by omega), Int.add_mul]
  · rw [if_neg (by omega), if_neg (by omega), if_neg (by omega)]; rfl
theorem lagcut_facts (l u : Int) : lagcut (lagcut l u) u = lagcut l u ∧ 0 ≤ lagcut l u ∧ lagcut l u ≤ vstep 149 u := by
  have hb := vstep_bd 149 u
  have h1 : 0 ≤ lagcut l u ∧ lagcut l u ≤ vstep 149 u := by
    unfold lagcut
    split
    · omega
    · split <;> omega
  refine ⟨?_, h1⟩
  obtain ⟨q, hq⟩ : ∃ q, lagcut l u = q := ⟨_, rfl⟩
  rw [hq] at h1 ⊢
  unfold lagcut
  rw [if_neg (by omega), if_neg (by omega)]
end Go.Proofs.Ytbkdkcgckdienaa
