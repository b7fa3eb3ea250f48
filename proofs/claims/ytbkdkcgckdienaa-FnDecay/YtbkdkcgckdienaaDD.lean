/- The drawn inputs of the law on loads: the contract of DrawDecayBeats. -/
import Derived.Test.YtbkdkcgckdienaaR2
import Derived.Test.YtbkdkcgckdienaaG
import Derived.Test.YtbkdkcgckdienaaD
namespace Go.Proofs.Ytbkdkcgckdienaa
open Go.ChangeShapes Go.WideShapes Go.ChangeAt Go.RowKit

def cdb (L : Nat → Bool) : Nat := (if L 1 = true then 1 else 0) + (if L 3 = true then 7 else 0) + (if L 7 = true then 1 else 0) + (if L 11 = true then 1 else 0) + (if L 13 = true then 7 else 0) + (if L 17 = true then 1 else 0) + (if L 21 = true then 1 else 0)
theorem cdb_le (L : Nat → Bool) : cdb L ≤ 19 := by unfold cdb; have := iteLe (L 1 = true) 1; have := iteLe (L 3 = true) 7; have := iteLe (L 7 = true) 1; have := iteLe (L 11 = true) 1; have := iteLe (L 13 = true) 7; have := iteLe (L 17 = true) 1; have := iteLe (L 21 = true) 1; omega

set_option maxRecDepth 100000 in
set_option maxHeartbeats 8000000 in
theorem draw_beats (a : Option Addr) (len cap : Nat) (zs : List Int) (w : World) (h : IsRow .u8 w a len cap zs) :
    Calls Try.prog 24 #[.slice a len cap] w fun e w' => ∃ l u n : Int, e = .returned (.tuple #[.int .i64 l, .int .i64 u, .int .i64 n]) ∧ 0 ≤ l ∧ l ≤ 8000001 ∧ 0 ≤ u ∧ u ≤ 1000000 ∧ -1 ≤ n ∧ n ≤ 22 ∧ Below w.heap.size w w' := by
  go_enter Try.func24, Try.ntmps24
  go_wp2_with (go_at_call 35; refine (open_any _ _ _ zs _ h).mono ?_; rintro e w1 ⟨rfl, cur, hB⟩)
  refine region_inv (by kernel_rfl) (by kernel_rfl) (fun L x y => ∃ s2 s3 s4 s8 s9 s10 s11 s12 s13 s14 s15 s16 s17 s18 s19 s20 s21 s22 s23 s24 s25 s26 s27 s28 s29 s30 : Value,
    x = { tmps := #[.slice a len cap, undef, s2, s3, s4, .pointer (some ⟨w.heap.size, 0, none⟩), .slice a len cap, .pointer (some ⟨w.heap.size, 0, none⟩), s8, s9, s10, s11, s12, s13, s14, s15, s16, s17, s18, s19, s20, s21, s22, s23, s24, s25, s26, s27, s28, s29, s30], defers := [] } ∧ Keep w.heap.size w1 y ∧ Rd w.heap.size (cdb L) y ∧
    (L 0 = true → IsP w.heap.size s8) ∧ (L 1 = true → IsI (0) (99) s9) ∧ (L 2 = true → IsP w.heap.size s10) ∧ (L 3 = true → IsI (0) (72057594037927935) s11) ∧ (L 4 = true → IsI (0) (7999999) s12) ∧ (L 5 = true → IsS w.heap.size 4 (0) (8000001) y s13) ∧ (L 6 = true → IsP w.heap.size s14) ∧ (L 7 = true → IsI (0) (3) s15) ∧ (L 8 = true → IsC w.heap.size (0) (8000001) y s16) ∧ (L 9 = true → IsI (0) (8000001) s17) ∧ (L 10 = true → IsP w.heap.size s18) ∧ (L 11 = true → IsI (0) (199) s19) ∧ (L 12 = true → IsP w.heap.size s20) ∧ (L 13 = true → IsI (0) (72057594037927935) s21) ∧ (L 14 = true → IsI (0) (999999) s22) ∧ (L 15 = true → IsS w.heap.size 4 (0) (1000000) y s23) ∧ (L 16 = true → IsP w.heap.size s24) ∧ (L 17 = true → IsI (0) (3) s25) ∧ (L 18 = true → IsC w.heap.size (0) (1000000) y s26) ∧ (L 19 = true → IsI (0) (1000000) s27) ∧ (L 20 = true → IsP w.heap.size s28) ∧ (L 21 = true → IsI (0) (23) s29) ∧ (L 22 = true → IsI (-1) (22) s30) ∧ (L 23 = true → IsI (0) (8000001) s2) ∧ (L 24 = true → IsI (0) (1000000) s3) ∧ (L 25 = true → IsI (-1) (22) s4)) ?h0 ?step ?done
  case h0 => exact ⟨_, _, _, _, _, _, _, _, _, _, _, _, _, _, _, _, _, _, _, _, _, _, _, _, _, _, rfl, (Keep.refl _ _).drew, cur.drew, (fun h => by cases h), (fun h => by cases h), (fun h => by cases h), (fun h => by cases h), (fun h => by cases h), (fun h => by cases h), (fun h => by cases h), (fun h => by cases h), (fun h => by cases h), (fun h => by cases h), (fun h => by cases h), (fun h => by cases h), (fun h => by cases h), (fun h => by cases h), (fun h => by cases h), (fun h => by cases h), (fun h => by cases h), (fun h => by cases h), (fun h => by cases h), (fun h => by cases h), (fun h => by cases h), (fun h => by cases h), (fun h => by cases h), (fun h => by cases h), (fun h => by cases h), (fun h => by cases h)⟩
  case step =>
    clear cur
    rintro i o ho L x y ⟨s2, s3, s4, s8, s9, s10, s11, s12, s13, s14, s15, s16, s17, s18, s19, s20, s21, s22, s23, s24, s25, s26, s27, s28, s29, s30, rfl, hK0, hR0, f0, f1, f2, f3, f4, f5, f6, f7, f8, f9, f10, f11, f12, f13, f14, f15, f16, f17, f18, f19, f20, f21, f22, f23, f24, f25⟩ hL hpre K hK
    have hi : i = 0 ∨ i = 1 ∨ i = 2 ∨ i = 3 ∨ i = 4 ∨ i = 5 ∨ i = 6 ∨ i = 7 ∨ i = 8 ∨ i = 9 ∨ i = 10 ∨ i = 11 ∨ i = 12 ∨ i = 13 ∨ i = 14 ∨ i = 15 ∨ i = 16 ∨ i = 17 ∨ i = 18 ∨ i = 19 ∨ i = 20 ∨ i = 21 ∨ i = 22 ∨ i = 23 ∨ i = 24 ∨ i = 25 := by
      have : i < 26 := by
        rcases Nat.lt_or_ge i 26 with h' | h'
        · exact h'
        · rw [Array.getElem?_eq_none (by simpa using h')] at ho; cases ho
      omega
    rcases hi with rfl | rfl | rfl | rfl | rfl | rfl | rfl | rfl | rfl | rfl | rfl | rfl | rfl | rfl | rfl | rfl | rfl | rfl | rfl | rfl | rfl | rfl | rfl | rfl | rfl | rfl
    · obtain rfl := Option.some.inj ho
      clear ho
      simp [Region.binds] at hpre
      clear hpre
      go_simp
      exact hK _ _ ⟨_, _, _, _, _, _, _, _, _, _, _, _, _, _, _, _, _, _, _, _, _, _, _, _, _, _, rfl, hK0, hR0.mono (by simp [cdb, setL]), (fun _ => rfl), (fun h => f1 h), (fun h => f2 h), (fun h => f3 h), (fun h => f4 h), (fun h => f5 h), (fun h => f6 h), (fun h => f7 h), (fun h => f8 h), (fun h => f9 h), (fun h => f10 h), (fun h => f11 h), (fun h => f12 h), (fun h => f13 h), (fun h => f14 h), (fun h => f15 h), (fun h => f16 h), (fun h => f17 h), (fun h => f18 h), (fun h => f19 h), (fun h => f20 h), (fun h => f21 h), (fun h => f22 h), (fun h => f23 h), (fun h => f24 h), (fun h => f25 h)⟩
    · obtain rfl := Option.some.inj ho
      clear ho
      simp [Region.binds] at hpre
      have d0 : L 0 = true := by first | exact hpre | exact hpre.1 | exact hpre.2 | (simp_all; done)
      obtain rfl : s8 = _ := f0 d0
      have hc := cdb_le L
      go_simp
      refine (pick_rd w.heap.size _ 100 _ hR0 (by omega)).mono ?_
      rintro e y' ⟨r, rfl, r0, r1, hk, hR1⟩
      replace r1 := r1 (by omega)
      dsimp only
      exact hK _ _ ⟨_, _, _, _, _, _, _, _, _, _, _, _, _, _, _, _, _, _, _, _, _, _, _, _, _, _, rfl, hK0.trans hk, hR1.mono (by simp [cdb, setL, hL]; try omega), (fun h => f0 h), (fun _ => ⟨r, rfl, by omega, by omega⟩), (fun h => f2 h), (fun h => f3 h), (fun h => f4 h), (fun h => (f5 h).keep hk), (fun h => f6 h), (fun h => f7 h), (fun h => (f8 h).keep hk), (fun h => f9 h), (fun h => f10 h), (fun h => f11 h), (fun h => f12 h), (fun h => f13 h), (fun h => f14 h), (fun h => (f15 h).keep hk), (fun h => f16 h), (fun h => f17 h), (fun h => (f18 h).keep hk), (fun h => f19 h), (fun h => f20 h), (fun h => f21 h), (fun h => f22 h), (fun h => f23 h), (fun h => f24 h), (fun h => f25 h)⟩
    · obtain rfl := Option.some.inj ho
      clear ho
      simp [Region.binds] at hpre
      clear hpre
      go_simp
      exact hK _ _ ⟨_, _, _, _, _, _, _, _, _, _, _, _, _, _, _, _, _, _, _, _, _, _, _, _, _, _, rfl, hK0, hR0.mono (by simp [cdb, setL]), (fun h => f0 h), (fun h => f1 h), (fun _ => rfl), (fun h => f3 h), (fun h => f4 h), (fun h => f5 h), (fun h => f6 h), (fun h => f7 h), (fun h => f8 h), (fun h => f9 h), (fun h => f10 h), (fun h => f11 h), (fun h => f12 h), (fun h => f13 h), (fun h => f14 h), (fun h => f15 h), (fun h => f16 h), (fun h => f17 h), (fun h => f18 h), (fun h => f19 h), (fun h => f20 h), (fun h => f21 h), (fun h => f22 h), (fun h => f23 h), (fun h => f24 h), (fun h => f25 h)⟩
    · obtain rfl := Option.some.inj ho
      clear ho
      simp [Region.binds] at hpre
      have d2 : L 2 = true := by first | exact hpre | exact hpre.1 | exact hpre.2 | (simp_all; done)
      obtain rfl : s10 = _ := f2 d2
      have hc := cdb_le L
      go_simp
      refine (big_rd w.heap.size _ _ hR0 (by omega)).mono ?_
      rintro e y' ⟨r, rfl, r0, r1, hk, hR1⟩
      dsimp only
      exact hK _ _ ⟨_, _, _, _, _, _, _, _, _, _, _, _, _, _, _, _, _, _, _, _, _, _, _, _, _, _, rfl, hK0.trans hk, hR1.mono (by simp [cdb, setL, hL]; try omega), (fun h => f0 h), (fun h => f1 h), (fun h => f2 h), (fun _ => ⟨r, rfl, by omega, by omega⟩), (fun h => f4 h), (fun h => (f5 h).keep hk), (fun h => f6 h), (fun h => f7 h), (fun h => (f8 h).keep hk), (fun h => f9 h), (fun h => f10 h), (fun h => f11 h), (fun h => f12 h), (fun h => f13 h), (fun h => f14 h), (fun h => (f15 h).keep hk), (fun h => f16 h), (fun h => f17 h), (fun h => (f18 h).keep hk), (fun h => f19 h), (fun h => f20 h), (fun h => f21 h), (fun h => f22 h), (fun h => f23 h), (fun h => f24 h), (fun h => f25 h)⟩
    · obtain rfl := Option.some.inj ho
      clear ho
      simp [Region.binds] at hpre
      have d3 : L 3 = true := by first | exact hpre | exact hpre.1 | exact hpre.2 | (simp_all; done)
      obtain ⟨r, rfl, rl, rh⟩ := f3 d3
      go_simp
      exact hK _ _ ⟨_, _, _, _, _, _, _, _, _, _, _, _, _, _, _, _, _, _, _, _, _, _, _, _, _, _, rfl, hK0, hR0.mono (by simp [cdb, setL]), (fun h => f0 h), (fun h => f1 h), (fun h => f2 h), (fun h => f3 h), (fun _ => isI_tmod rl (by omega) (by omega)), (fun h => f5 h), (fun h => f6 h), (fun h => f7 h), (fun h => f8 h), (fun h => f9 h), (fun h => f10 h), (fun h => f11 h), (fun h => f12 h), (fun h => f13 h), (fun h => f14 h), (fun h => f15 h), (fun h => f16 h), (fun h => f17 h), (fun h => f18 h), (fun h => f19 h), (fun h => f20 h), (fun h => f21 h), (fun h => f22 h), (fun h => f23 h), (fun h => f24 h), (fun h => f25 h)⟩
    · obtain rfl := Option.some.inj ho
      clear ho
      simp [Region.binds] at hpre
      have d1 : L 1 = true := by first | exact hpre | exact hpre.1 | exact hpre.2 | (simp_all; done)
      obtain ⟨p, rfl, pl, ph⟩ := f1 d1
      have d4 : L 4 = true := by first | exact hpre | exact hpre.1 | exact hpre.2 | (simp_all; done)
      obtain ⟨q, rfl, ql, qh⟩ := f4 d4
      go_simp
      exact hK _ _ ⟨_, _, _, _, _, _, _, _, _, _, _, _, _, _, _, _, _, _, _, _, _, _, _, _, _, _, rfl, hK0.trans ((Keep.refl _ _).alloc _), (hR0.alloc _).mono (by simp [cdb, setL]), (fun h => f0 h), (fun h => f1 h), (fun h => f2 h), (fun h => f3 h), (fun h => f4 h), (fun _ => isS_of (Nat.ne_of_gt hR0.lt) (heap_alloc_new _ _) (by rfl) (by intro v hv; simp at hv; rcases hv with rfl | rfl | rfl | rfl <;> exact isI_mk (by omega) (by omega))), (fun h => f6 h), (fun h => f7 h), (fun h => (f8 h).keep ((Keep.refl _ _).alloc _)), (fun h => f9 h), (fun h => f10 h), (fun h => f11 h), (fun h => f12 h), (fun h => f13 h), (fun h => f14 h), (fun h => (f15 h).keep ((Keep.refl _ _).alloc _)), (fun h => f16 h), (fun h => f17 h), (fun h => (f18 h).keep ((Keep.refl _ _).alloc _)), (fun h => f19 h), (fun h => f20 h), (fun h => f21 h), (fun h => f22 h), (fun h => f23 h), (fun h => f24 h), (fun h => f25 h)⟩
    · obtain rfl := Option.some.inj ho
      clear ho
      simp [Region.binds] at hpre
      clear hpre
      go_simp
      exact hK _ _ ⟨_, _, _, _, _, _, _, _, _, _, _, _, _, _, _, _, _, _, _, _, _, _, _, _, _, _, rfl, hK0, hR0.mono (by simp [cdb, setL]), (fun h => f0 h), (fun h => f1 h), (fun h => f2 h), (fun h => f3 h), (fun h => f4 h), (fun h => f5 h), (fun _ => rfl), (fun h => f7 h), (fun h => f8 h), (fun h => f9 h), (fun h => f10 h), (fun h => f11 h), (fun h => f12 h), (fun h => f13 h), (fun h => f14 h), (fun h => f15 h), (fun h => f16 h), (fun h => f17 h), (fun h => f18 h), (fun h => f19 h), (fun h => f20 h), (fun h => f21 h), (fun h => f22 h), (fun h => f23 h), (fun h => f24 h), (fun h => f25 h)⟩
    · obtain rfl := Option.some.inj ho
      clear ho
      simp [Region.binds] at hpre
      have d6 : L 6 = true := by first | exact hpre | exact hpre.1 | exact hpre.2 | (simp_all; done)
      obtain rfl : s14 = _ := f6 d6
      have hc := cdb_le L
      go_simp
      refine (pick_rd w.heap.size _ 4 _ hR0 (by omega)).mono ?_
      rintro e y' ⟨r, rfl, r0, r1, hk, hR1⟩
      replace r1 := r1 (by omega)
      dsimp only
      exact hK _ _ ⟨_, _, _, _, _, _, _, _, _, _, _, _, _, _, _, _, _, _, _, _, _, _, _, _, _, _, rfl, hK0.trans hk, hR1.mono (by simp [cdb, setL, hL]; try omega), (fun h => f0 h), (fun h => f1 h), (fun h => f2 h), (fun h => f3 h), (fun h => f4 h), (fun h => (f5 h).keep hk), (fun h => f6 h), (fun _ => ⟨r, rfl, by omega, by omega⟩), (fun h => (f8 h).keep hk), (fun h => f9 h), (fun h => f10 h), (fun h => f11 h), (fun h => f12 h), (fun h => f13 h), (fun h => f14 h), (fun h => (f15 h).keep hk), (fun h => f16 h), (fun h => f17 h), (fun h => (f18 h).keep hk), (fun h => f19 h), (fun h => f20 h), (fun h => f21 h), (fun h => f22 h), (fun h => f23 h), (fun h => f24 h), (fun h => f25 h)⟩
    · obtain rfl := Option.some.inj ho
      clear ho
      simp [Region.binds] at hpre
      have d5 : L 5 = true := by first | exact hpre | exact hpre.1 | exact hpre.2 | (simp_all; done)
      obtain ⟨g, rfl, g1, g2⟩ := f5 d5
      have d7 : L 7 = true := by first | exact hpre | exact hpre.1 | exact hpre.2 | (simp_all; done)
      obtain ⟨r, rfl, rl, rh⟩ := f7 d7
      have rl2 : r < 4 := by omega
      obtain ⟨x, x1, x2, x3⟩ := g2 r.toNat (by omega)
      clear g2
      go_simp
      exact hK _ _ ⟨_, _, _, _, _, _, _, _, _, _, _, _, _, _, _, _, _, _, _, _, _, _, _, _, _, _, rfl, hK0, hR0.mono (by simp [cdb, setL]), (fun h => f0 h), (fun h => f1 h), (fun h => f2 h), (fun h => f3 h), (fun h => f4 h), (fun h => f5 h), (fun h => f6 h), (fun h => f7 h), (fun _ => ⟨g, r.toNat, x, rfl, g1, x1, x2, x3⟩), (fun h => f9 h), (fun h => f10 h), (fun h => f11 h), (fun h => f12 h), (fun h => f13 h), (fun h => f14 h), (fun h => f15 h), (fun h => f16 h), (fun h => f17 h), (fun h => f18 h), (fun h => f19 h), (fun h => f20 h), (fun h => f21 h), (fun h => f22 h), (fun h => f23 h), (fun h => f24 h), (fun h => f25 h)⟩
    · obtain rfl := Option.some.inj ho
      clear ho
      simp [Region.binds] at hpre
      have d8 : L 8 = true := by first | exact hpre | exact hpre.1 | exact hpre.2 | (simp_all; done)
      obtain ⟨g, o, x, rfl, g1, x1, x2, x3⟩ := f8 d8
      go_simp
      exact hK _ _ ⟨_, _, _, _, _, _, _, _, _, _, _, _, _, _, _, _, _, _, _, _, _, _, _, _, _, _, rfl, hK0, hR0.mono (by simp [cdb, setL]), (fun h => f0 h), (fun h => f1 h), (fun h => f2 h), (fun h => f3 h), (fun h => f4 h), (fun h => f5 h), (fun h => f6 h), (fun h => f7 h), (fun h => f8 h), (fun _ => ⟨x, rfl, x1, x2⟩), (fun h => f10 h), (fun h => f11 h), (fun h => f12 h), (fun h => f13 h), (fun h => f14 h), (fun h => f15 h), (fun h => f16 h), (fun h => f17 h), (fun h => f18 h), (fun h => f19 h), (fun h => f20 h), (fun h => f21 h), (fun h => f22 h), (fun h => f23 h), (fun h => f24 h), (fun h => f25 h)⟩
    · obtain rfl := Option.some.inj ho
      clear ho
      simp [Region.binds] at hpre
      clear hpre
      go_simp
      exact hK _ _ ⟨_, _, _, _, _, _, _, _, _, _, _, _, _, _, _, _, _, _, _, _, _, _, _, _, _, _, rfl, hK0, hR0.mono (by simp [cdb, setL]), (fun h => f0 h), (fun h => f1 h), (fun h => f2 h), (fun h => f3 h), (fun h => f4 h), (fun h => f5 h), (fun h => f6 h), (fun h => f7 h), (fun h => f8 h), (fun h => f9 h), (fun _ => rfl), (fun h => f11 h), (fun h => f12 h), (fun h => f13 h), (fun h => f14 h), (fun h => f15 h), (fun h => f16 h), (fun h => f17 h), (fun h => f18 h), (fun h => f19 h), (fun h => f20 h), (fun h => f21 h), (fun h => f22 h), (fun h => f23 h), (fun h => f24 h), (fun h => f25 h)⟩
    · obtain rfl := Option.some.inj ho
      clear ho
      simp [Region.binds] at hpre
      have d10 : L 10 = true := by first | exact hpre | exact hpre.1 | exact hpre.2 | (simp_all; done)
      obtain rfl : s18 = _ := f10 d10
      have hc := cdb_le L
      go_simp
      refine (pick_rd w.heap.size _ 200 _ hR0 (by omega)).mono ?_
      rintro e y' ⟨r, rfl, r0, r1, hk, hR1⟩
      replace r1 := r1 (by omega)
      dsimp only
      exact hK _ _ ⟨_, _, _, _, _, _, _, _, _, _, _, _, _, _, _, _, _, _, _, _, _, _, _, _, _, _, rfl, hK0.trans hk, hR1.mono (by simp [cdb, setL, hL]; try omega), (fun h => f0 h), (fun h => f1 h), (fun h => f2 h), (fun h => f3 h), (fun h => f4 h), (fun h => (f5 h).keep hk), (fun h => f6 h), (fun h => f7 h), (fun h => (f8 h).keep hk), (fun h => f9 h), (fun h => f10 h), (fun _ => ⟨r, rfl, by omega, by omega⟩), (fun h => f12 h), (fun h => f13 h), (fun h => f14 h), (fun h => (f15 h).keep hk), (fun h => f16 h), (fun h => f17 h), (fun h => (f18 h).keep hk), (fun h => f19 h), (fun h => f20 h), (fun h => f21 h), (fun h => f22 h), (fun h => f23 h), (fun h => f24 h), (fun h => f25 h)⟩
    · obtain rfl := Option.some.inj ho
      clear ho
      simp [Region.binds] at hpre
      clear hpre
      go_simp
      exact hK _ _ ⟨_, _, _, _, _, _, _, _, _, _, _, _, _, _, _, _, _, _, _, _, _, _, _, _, _, _, rfl, hK0, hR0.mono (by simp [cdb, setL]), (fun h => f0 h), (fun h => f1 h), (fun h => f2 h), (fun h => f3 h), (fun h => f4 h), (fun h => f5 h), (fun h => f6 h), (fun h => f7 h), (fun h => f8 h), (fun h => f9 h), (fun h => f10 h), (fun h => f11 h), (fun _ => rfl), (fun h => f13 h), (fun h => f14 h), (fun h => f15 h), (fun h => f16 h), (fun h => f17 h), (fun h => f18 h), (fun h => f19 h), (fun h => f20 h), (fun h => f21 h), (fun h => f22 h), (fun h => f23 h), (fun h => f24 h), (fun h => f25 h)⟩
    · obtain rfl := Option.some.inj ho
      clear ho
      simp [Region.binds] at hpre
      have d12 : L 12 = true := by first | exact hpre | exact hpre.1 | exact hpre.2 | (simp_all; done)
      obtain rfl : s20 = _ := f12 d12
      have hc := cdb_le L
      go_simp
      refine (big_rd w.heap.size _ _ hR0 (by omega)).mono ?_
      rintro e y' ⟨r, rfl, r0, r1, hk, hR1⟩
      dsimp only
      exact hK _ _ ⟨_, _, _, _, _, _, _, _, _, _, _, _, _, _, _, _, _, _, _, _, _, _, _, _, _, _, rfl, hK0.trans hk, hR1.mono (by simp [cdb, setL, hL]; try omega), (fun h => f0 h), (fun h => f1 h), (fun h => f2 h), (fun h => f3 h), (fun h => f4 h), (fun h => (f5 h).keep hk), (fun h => f6 h), (fun h => f7 h), (fun h => (f8 h).keep hk), (fun h => f9 h), (fun h => f10 h), (fun h => f11 h), (fun h => f12 h), (fun _ => ⟨r, rfl, by omega, by omega⟩), (fun h => f14 h), (fun h => (f15 h).keep hk), (fun h => f16 h), (fun h => f17 h), (fun h => (f18 h).keep hk), (fun h => f19 h), (fun h => f20 h), (fun h => f21 h), (fun h => f22 h), (fun h => f23 h), (fun h => f24 h), (fun h => f25 h)⟩
    · obtain rfl := Option.some.inj ho
      clear ho
      simp [Region.binds] at hpre
      have d13 : L 13 = true := by first | exact hpre | exact hpre.1 | exact hpre.2 | (simp_all; done)
      obtain ⟨r, rfl, rl, rh⟩ := f13 d13
      go_simp
      exact hK _ _ ⟨_, _, _, _, _, _, _, _, _, _, _, _, _, _, _, _, _, _, _, _, _, _, _, _, _, _, rfl, hK0, hR0.mono (by simp [cdb, setL]), (fun h => f0 h), (fun h => f1 h), (fun h => f2 h), (fun h => f3 h), (fun h => f4 h), (fun h => f5 h), (fun h => f6 h), (fun h => f7 h), (fun h => f8 h), (fun h => f9 h), (fun h => f10 h), (fun h => f11 h), (fun h => f12 h), (fun h => f13 h), (fun _ => isI_tmod rl (by omega) (by omega)), (fun h => f15 h), (fun h => f16 h), (fun h => f17 h), (fun h => f18 h), (fun h => f19 h), (fun h => f20 h), (fun h => f21 h), (fun h => f22 h), (fun h => f23 h), (fun h => f24 h), (fun h => f25 h)⟩
    · obtain rfl := Option.some.inj ho
      clear ho
      simp [Region.binds] at hpre
      have d11 : L 11 = true := by first | exact hpre | exact hpre.1 | exact hpre.2 | (simp_all; done)
      obtain ⟨p, rfl, pl, ph⟩ := f11 d11
      have d14 : L 14 = true := by first | exact hpre | exact hpre.1 | exact hpre.2 | (simp_all; done)
      obtain ⟨q, rfl, ql, qh⟩ := f14 d14
      go_simp
      exact hK _ _ ⟨_, _, _, _, _, _, _, _, _, _, _, _, _, _, _, _, _, _, _, _, _, _, _, _, _, _, rfl, hK0.trans ((Keep.refl _ _).alloc _), (hR0.alloc _).mono (by simp [cdb, setL]), (fun h => f0 h), (fun h => f1 h), (fun h => f2 h), (fun h => f3 h), (fun h => f4 h), (fun h => (f5 h).keep ((Keep.refl _ _).alloc _)), (fun h => f6 h), (fun h => f7 h), (fun h => (f8 h).keep ((Keep.refl _ _).alloc _)), (fun h => f9 h), (fun h => f10 h), (fun h => f11 h), (fun h => f12 h), (fun h => f13 h), (fun h => f14 h), (fun _ => isS_of (Nat.ne_of_gt hR0.lt) (heap_alloc_new _ _) (by rfl) (by intro v hv; simp at hv; rcases hv with rfl | rfl | rfl | rfl <;> exact isI_mk (by omega) (by omega))), (fun h => f16 h), (fun h => f17 h), (fun h => (f18 h).keep ((Keep.refl _ _).alloc _)), (fun h => f19 h), (fun h => f20 h), (fun h => f21 h), (fun h => f22 h), (fun h => f23 h), (fun h => f24 h), (fun h => f25 h)⟩
    · obtain rfl := Option.some.inj ho
      clear ho
      simp [Region.binds] at hpre
      clear hpre
      go_simp
      exact hK _ _ ⟨_, _, _, _, _, _, _, _, _, _, _, _, _, _, _, _, _, _, _, _, _, _, _, _, _, _, rfl, hK0, hR0.mono (by simp [cdb, setL]), (fun h => f0 h), (fun h => f1 h), (fun h => f2 h), (fun h => f3 h), (fun h => f4 h), (fun h => f5 h), (fun h => f6 h), (fun h => f7 h), (fun h => f8 h), (fun h => f9 h), (fun h => f10 h), (fun h => f11 h), (fun h => f12 h), (fun h => f13 h), (fun h => f14 h), (fun h => f15 h), (fun _ => rfl), (fun h => f17 h), (fun h => f18 h), (fun h => f19 h), (fun h => f20 h), (fun h => f21 h), (fun h => f22 h), (fun h => f23 h), (fun h => f24 h), (fun h => f25 h)⟩
    · obtain rfl := Option.some.inj ho
      clear ho
      simp [Region.binds] at hpre
      have d16 : L 16 = true := by first | exact hpre | exact hpre.1 | exact hpre.2 | (simp_all; done)
      obtain rfl : s24 = _ := f16 d16
      have hc := cdb_le L
      go_simp
      refine (pick_rd w.heap.size _ 4 _ hR0 (by omega)).mono ?_
      rintro e y' ⟨r, rfl, r0, r1, hk, hR1⟩
      replace r1 := r1 (by omega)
      dsimp only
      exact hK _ _ ⟨_, _, _, _, _, _, _, _, _, _, _, _, _, _, _, _, _, _, _, _, _, _, _, _, _, _, rfl, hK0.trans hk, hR1.mono (by simp [cdb, setL, hL]; try omega), (fun h => f0 h), (fun h => f1 h), (fun h => f2 h), (fun h => f3 h), (fun h => f4 h), (fun h => (f5 h).keep hk), (fun h => f6 h), (fun h => f7 h), (fun h => (f8 h).keep hk), (fun h => f9 h), (fun h => f10 h), (fun h => f11 h), (fun h => f12 h), (fun h => f13 h), (fun h => f14 h), (fun h => (f15 h).keep hk), (fun h => f16 h), (fun _ => ⟨r, rfl, by omega, by omega⟩), (fun h => (f18 h).keep hk), (fun h => f19 h), (fun h => f20 h), (fun h => f21 h), (fun h => f22 h), (fun h => f23 h), (fun h => f24 h), (fun h => f25 h)⟩
    · obtain rfl := Option.some.inj ho
      clear ho
      simp [Region.binds] at hpre
      have d15 : L 15 = true := by first | exact hpre | exact hpre.1 | exact hpre.2 | (simp_all; done)
      obtain ⟨g, rfl, g1, g2⟩ := f15 d15
      have d17 : L 17 = true := by first | exact hpre | exact hpre.1 | exact hpre.2 | (simp_all; done)
      obtain ⟨r, rfl, rl, rh⟩ := f17 d17
      have rl2 : r < 4 := by omega
      obtain ⟨x, x1, x2, x3⟩ := g2 r.toNat (by omega)
      clear g2
      go_simp
      exact hK _ _ ⟨_, _, _, _, _, _, _, _, _, _, _, _, _, _, _, _, _, _, _, _, _, _, _, _, _, _, rfl, hK0, hR0.mono (by simp [cdb, setL]), (fun h => f0 h), (fun h => f1 h), (fun h => f2 h), (fun h => f3 h), (fun h => f4 h), (fun h => f5 h), (fun h => f6 h), (fun h => f7 h), (fun h => f8 h), (fun h => f9 h), (fun h => f10 h), (fun h => f11 h), (fun h => f12 h), (fun h => f13 h), (fun h => f14 h), (fun h => f15 h), (fun h => f16 h), (fun h => f17 h), (fun _ => ⟨g, r.toNat, x, rfl, g1, x1, x2, x3⟩), (fun h => f19 h), (fun h => f20 h), (fun h => f21 h), (fun h => f22 h), (fun h => f23 h), (fun h => f24 h), (fun h => f25 h)⟩
    · obtain rfl := Option.some.inj ho
      clear ho
      simp [Region.binds] at hpre
      have d18 : L 18 = true := by first | exact hpre | exact hpre.1 | exact hpre.2 | (simp_all; done)
      obtain ⟨g, o, x, rfl, g1, x1, x2, x3⟩ := f18 d18
      go_simp
      exact hK _ _ ⟨_, _, _, _, _, _, _, _, _, _, _, _, _, _, _, _, _, _, _, _, _, _, _, _, _, _, rfl, hK0, hR0.mono (by simp [cdb, setL]), (fun h => f0 h), (fun h => f1 h), (fun h => f2 h), (fun h => f3 h), (fun h => f4 h), (fun h => f5 h), (fun h => f6 h), (fun h => f7 h), (fun h => f8 h), (fun h => f9 h), (fun h => f10 h), (fun h => f11 h), (fun h => f12 h), (fun h => f13 h), (fun h => f14 h), (fun h => f15 h), (fun h => f16 h), (fun h => f17 h), (fun h => f18 h), (fun _ => ⟨x, rfl, x1, x2⟩), (fun h => f20 h), (fun h => f21 h), (fun h => f22 h), (fun h => f23 h), (fun h => f24 h), (fun h => f25 h)⟩
    · obtain rfl := Option.some.inj ho
      clear ho
      simp [Region.binds] at hpre
      clear hpre
      go_simp
      exact hK _ _ ⟨_, _, _, _, _, _, _, _, _, _, _, _, _, _, _, _, _, _, _, _, _, _, _, _, _, _, rfl, hK0, hR0.mono (by simp [cdb, setL]), (fun h => f0 h), (fun h => f1 h), (fun h => f2 h), (fun h => f3 h), (fun h => f4 h), (fun h => f5 h), (fun h => f6 h), (fun h => f7 h), (fun h => f8 h), (fun h => f9 h), (fun h => f10 h), (fun h => f11 h), (fun h => f12 h), (fun h => f13 h), (fun h => f14 h), (fun h => f15 h), (fun h => f16 h), (fun h => f17 h), (fun h => f18 h), (fun h => f19 h), (fun _ => rfl), (fun h => f21 h), (fun h => f22 h), (fun h => f23 h), (fun h => f24 h), (fun h => f25 h)⟩
    · obtain rfl := Option.some.inj ho
      clear ho
      simp [Region.binds] at hpre
      have d20 : L 20 = true := by first | exact hpre | exact hpre.1 | exact hpre.2 | (simp_all; done)
      obtain rfl : s28 = _ := f20 d20
      have hc := cdb_le L
      go_simp
      refine (pick_rd w.heap.size _ 24 _ hR0 (by omega)).mono ?_
      rintro e y' ⟨r, rfl, r0, r1, hk, hR1⟩
      replace r1 := r1 (by omega)
      dsimp only
      exact hK _ _ ⟨_, _, _, _, _, _, _, _, _, _, _, _, _, _, _, _, _, _, _, _, _, _, _, _, _, _, rfl, hK0.trans hk, hR1.mono (by simp [cdb, setL, hL]; try omega), (fun h => f0 h), (fun h => f1 h), (fun h => f2 h), (fun h => f3 h), (fun h => f4 h), (fun h => (f5 h).keep hk), (fun h => f6 h), (fun h => f7 h), (fun h => (f8 h).keep hk), (fun h => f9 h), (fun h => f10 h), (fun h => f11 h), (fun h => f12 h), (fun h => f13 h), (fun h => f14 h), (fun h => (f15 h).keep hk), (fun h => f16 h), (fun h => f17 h), (fun h => (f18 h).keep hk), (fun h => f19 h), (fun h => f20 h), (fun _ => ⟨r, rfl, by omega, by omega⟩), (fun h => f22 h), (fun h => f23 h), (fun h => f24 h), (fun h => f25 h)⟩
    · obtain rfl := Option.some.inj ho
      clear ho
      simp [Region.binds] at hpre
      have d21 : L 21 = true := by first | exact hpre | exact hpre.1 | exact hpre.2 | (simp_all; done)
      obtain ⟨r, rfl, rl, rh⟩ := f21 d21
      go_simp
      rw [IntWalk.i64_in _ (by omega)]
      exact hK _ _ ⟨_, _, _, _, _, _, _, _, _, _, _, _, _, _, _, _, _, _, _, _, _, _, _, _, _, _, rfl, hK0, hR0.mono (by simp [cdb, setL]), (fun h => f0 h), (fun h => f1 h), (fun h => f2 h), (fun h => f3 h), (fun h => f4 h), (fun h => f5 h), (fun h => f6 h), (fun h => f7 h), (fun h => f8 h), (fun h => f9 h), (fun h => f10 h), (fun h => f11 h), (fun h => f12 h), (fun h => f13 h), (fun h => f14 h), (fun h => f15 h), (fun h => f16 h), (fun h => f17 h), (fun h => f18 h), (fun h => f19 h), (fun h => f20 h), (fun h => f21 h), (fun _ => ⟨_, rfl, by omega, by omega⟩), (fun h => f23 h), (fun h => f24 h), (fun h => f25 h)⟩
    · obtain rfl := Option.some.inj ho
      clear ho
      simp [Region.binds] at hpre
      have d9 : L 9 = true := by first | exact hpre | exact hpre.1 | exact hpre.2 | (simp_all; done)
      go_simp
      exact hK _ _ ⟨_, _, _, _, _, _, _, _, _, _, _, _, _, _, _, _, _, _, _, _, _, _, _, _, _, _, rfl, hK0, hR0.mono (by simp [cdb, setL]), (fun h => f0 h), (fun h => f1 h), (fun h => f2 h), (fun h => f3 h), (fun h => f4 h), (fun h => f5 h), (fun h => f6 h), (fun h => f7 h), (fun h => f8 h), (fun h => f9 h), (fun h => f10 h), (fun h => f11 h), (fun h => f12 h), (fun h => f13 h), (fun h => f14 h), (fun h => f15 h), (fun h => f16 h), (fun h => f17 h), (fun h => f18 h), (fun h => f19 h), (fun h => f20 h), (fun h => f21 h), (fun h => f22 h), (fun _ => f9 d9), (fun h => f24 h), (fun h => f25 h)⟩
    · obtain rfl := Option.some.inj ho
      clear ho
      simp [Region.binds] at hpre
      have d19 : L 19 = true := by first | exact hpre | exact hpre.1 | exact hpre.2 | (simp_all; done)
      go_simp
      exact hK _ _ ⟨_, _, _, _, _, _, _, _, _, _, _, _, _, _, _, _, _, _, _, _, _, _, _, _, _, _, rfl, hK0, hR0.mono (by simp [cdb, setL]), (fun h => f0 h), (fun h => f1 h), (fun h => f2 h), (fun h => f3 h), (fun h => f4 h), (fun h => f5 h), (fun h => f6 h), (fun h => f7 h), (fun h => f8 h), (fun h => f9 h), (fun h => f10 h), (fun h => f11 h), (fun h => f12 h), (fun h => f13 h), (fun h => f14 h), (fun h => f15 h), (fun h => f16 h), (fun h => f17 h), (fun h => f18 h), (fun h => f19 h), (fun h => f20 h), (fun h => f21 h), (fun h => f22 h), (fun h => f23 h), (fun _ => f19 d19), (fun h => f25 h)⟩
    · obtain rfl := Option.some.inj ho
      clear ho
      simp [Region.binds] at hpre
      have d22 : L 22 = true := by first | exact hpre | exact hpre.1 | exact hpre.2 | (simp_all; done)
      go_simp
      exact hK _ _ ⟨_, _, _, _, _, _, _, _, _, _, _, _, _, _, _, _, _, _, _, _, _, _, _, _, _, _, rfl, hK0, hR0.mono (by simp [cdb, setL]), (fun h => f0 h), (fun h => f1 h), (fun h => f2 h), (fun h => f3 h), (fun h => f4 h), (fun h => f5 h), (fun h => f6 h), (fun h => f7 h), (fun h => f8 h), (fun h => f9 h), (fun h => f10 h), (fun h => f11 h), (fun h => f12 h), (fun h => f13 h), (fun h => f14 h), (fun h => f15 h), (fun h => f16 h), (fun h => f17 h), (fun h => f18 h), (fun h => f19 h), (fun h => f20 h), (fun h => f21 h), (fun h => f22 h), (fun h => f23 h), (fun h => f24 h), (fun _ => f22 d22)⟩
  case done =>
    rintro L x y hall ⟨s2, s3, s4, s8, s9, s10, s11, s12, s13, s14, s15, s16, s17, s18, s19, s20, s21, s22, s23, s24, s25, s26, s27, s28, s29, s30, rfl, hK0, hR0, f0, f1, f2, f3, f4, f5, f6, f7, f8, f9, f10, f11, f12, f13, f14, f15, f16, f17, f18, f19, f20, f21, f22, f23, f24, f25⟩
    have t2 := f23 (hall 23 (by decide))
    have t3 := f24 (hall 24 (by decide))
    have t4 := f25 (hall 25 (by decide))
    obtain ⟨l, rfl, l1, l2⟩ := t2
    obtain ⟨u, rfl, u1, u2⟩ := t3
    obtain ⟨n, rfl, n1, n2⟩ := t4
    clear f0 f1 f2 f3 f4 f5 f6 f7 f8 f9 f10 f11 f12 f13 f14 f15 f16 f17 f18 f19 f20 f21 f22 f23 f24 f25
    go_wp2
    go_ret3
    exact ⟨l, u, n, rfl, l1, l2, u1, u2, n1, n2, hB.trans (hK0.below (Nat.le_refl _) hB.size)⟩
end Go.Proofs.Ytbkdkcgckdienaa
