/- The contract of the program's DomainNear. -/
import Derived.Test.YtpnamoecoihfeaaDQ
import Derived.Deep.RegionHeld3
namespace Go.Proofs.Ytpnamoecoihfeaa
open Go.ChangeShapes Go.WideShapes Go.ChangeAt Go.RowKit Go.Shelf

def bools4 (x0 x1 x2 x3 : Bool) : Value := .agg #[.bool x0, .bool x1, .bool x2, .bool x3]
def same4 (x0 x1 x2 x3 y0 y1 y2 y3 : Bool) : Bool := (x0 == y0) && (x1 == y1) && (x2 == y2) && (x3 == y3)
theorem equal4 (x0 x1 x2 x3 y0 y1 y2 y3 : Bool) (w : World) : Sem.run Try.prog (Op.equalIn 10000 36 (.agg #[.bool x0, .bool x1, .bool x2, .bool x3]) (.agg #[.bool y0, .bool y1, .bool y2, .bool y3])) w = .ok (same4 x0 x1 x2 x3 y0 y1 y2 y3) w := by
  cases x0 <;> cases x1 <;> cases x2 <;> cases x3 <;> cases y0 <;> cases y1 <;> cases y2 <;> cases y3 <;> kernel_rfl

def zR (n a l : Int) : Bool := same4 (inSp n a l 0) (inSp n a l 1) (inSp n a l 2) (inSp n a l 3) false false false false
def eR (n a b l : Int) : Bool := same4 (inSp n a l 0) (inSp n a l 1) (inSp n a l 2) (inSp n a l 3) (inSp n b l 0) (inSp n b l 1) (inSp n b l 2) (inSp n b l 3)
theorem eR_fin : ∀ n : Fin 5, ∀ a b : Fin 4, ∀ l : Fin 2, okSp n.val a.val l.val = true → hasB (spanM n.val a.val l.val) b.val = (!zR n.val a.val l.val && eR n.val a.val b.val l.val) := by decide +kernel
theorem zR_fin : ∀ n : Fin 5, ∀ a : Fin 4, ∀ l : Fin 2, okSp n.val a.val l.val = true → zR n.val a.val l.val = false := by decide +kernel
theorem okSp_fin {n a l : Int} (h : okSp n a l = true) : ∃ (n' : Fin 5) (a' : Fin 4) (l' : Fin 2), n = (n'.val : Int) ∧ a = (a'.val : Int) ∧ l = (l'.val : Int) := by
  rcases okSp_all h with ⟨rfl, rfl, rfl | rfl⟩ | ⟨rfl, rfl | rfl, rfl | rfl | rfl⟩ | ⟨rfl, rfl | rfl, rfl | rfl | rfl | rfl⟩
  · exact ⟨2, 0, 0, rfl, rfl, rfl⟩
  · exact ⟨2, 1, 0, rfl, rfl, rfl⟩
  · exact ⟨3, 0, 0, rfl, rfl, rfl⟩
  · exact ⟨3, 1, 0, rfl, rfl, rfl⟩
  · exact ⟨3, 2, 0, rfl, rfl, rfl⟩
  · exact ⟨3, 0, 1, rfl, rfl, rfl⟩
  · exact ⟨3, 1, 1, rfl, rfl, rfl⟩
  · exact ⟨3, 2, 1, rfl, rfl, rfl⟩
  · exact ⟨4, 0, 0, rfl, rfl, rfl⟩
  · exact ⟨4, 1, 0, rfl, rfl, rfl⟩
  · exact ⟨4, 2, 0, rfl, rfl, rfl⟩
  · exact ⟨4, 3, 0, rfl, rfl, rfl⟩
  · exact ⟨4, 0, 1, rfl, rfl, rfl⟩
  · exact ⟨4, 1, 1, rfl, rfl, rfl⟩
  · exact ⟨4, 2, 1, rfl, rfl, rfl⟩
  · exact ⟨4, 3, 1, rfl, rfl, rfl⟩
theorem inSp_no {n a l : Int} (h : okSp n a l = false) (o : Nat) : inSp n a l o = false := by unfold inSp; rw [h]; rfl
theorem near_cmp (n a b l : Int) : hasB (spanM n a l) b = (!zR n a l && eR n a b l) := by
  by_cases h : okSp n a l = true
  · obtain ⟨n', a', l', rfl, rfl, rfl⟩ := okSp_fin h
    by_cases hb : 0 ≤ b ∧ b ≤ 3
    · obtain ⟨b', rfl⟩ := Int.eq_ofNat_of_zero_le hb.1
      exact eR_fin n' a' ⟨b', by omega⟩ l' h
    · rw [hasB_c (by omega)]
      have hz := zR_fin n' a' l' h
      have h2 : okSp n'.val b l'.val = false := by
        refine okSp_c ?_
        have := n'.isLt
        omega
      rw [hz]
      unfold eR
      rw [inSp_no h2, inSp_no h2, inSp_no h2, inSp_no h2]
      show false = (!false && zR _ _ _)
      rw [hz]
      rfl
  · have h : okSp n a l = false := by simpa using h
    rw [spanM_no h]
    have : zR n a l = true := by unfold zR; rw [inSp_no h, inSp_no h, inSp_no h, inSp_no h]; rfl
    rw [this]
    by_cases hb : 0 ≤ b ∧ b ≤ 3
    · obtain ⟨b', rfl⟩ := Int.eq_ofNat_of_zero_le hb.1
      have : ∀ b : Fin 4, hasB 0 (b.val : Int) = false := by decide +kernel
      exact this ⟨b', by omega⟩
    · exact hasB_c (by omega)
theorem cmp_yes {n a b l : Int} (h : hasB (spanM n a l) b = true) : zR n a l = false ∧ eR n a b l = true := by
  rw [near_cmp] at h
  cases h1 : zR n a l <;> cases h2 : eR n a b l <;> simp_all
theorem cmp_no {n a b l : Int} (h : hasB (spanM n a l) b = false) : zR n a l = true ∨ (zR n a l = false ∧ eR n a b l = false) := by
  rw [near_cmp] at h
  cases h1 : zR n a l <;> cases h2 : eR n a b l <;> simp_all
theorem cells4 {w : World} {b : Nat} {x y z v : Value} {t : TypeId} (h : w.heap[b]? = some (.cells #[x, y, z, v] t (0, 0))) :
    w.cell? ⟨b, 0, none⟩ = some x ∧ w.cell? ⟨b, 1, none⟩ = some y ∧ w.cell? ⟨b, 2, none⟩ = some z ∧ w.cell? ⟨b, 3, none⟩ = some v := by
  refine ⟨?_, ?_, ?_, ?_⟩ <;> simp [World.cell?, h]
theorem eq_z (n a l : Int) : ∀ w : World, Sem.run Try.prog (Op.equalIn 10000 36 (.agg #[.bool (inSp n a l 0), .bool (inSp n a l 1), .bool (inSp n a l 2), .bool (inSp n a l 3)]) (.agg #[.bool false, .bool false, .bool false, .bool false])) w = .ok (zR n a l) w := fun w => equal4 _ _ _ _ _ _ _ _ w
theorem eq_e (n a b l : Int) : ∀ w : World, Sem.run Try.prog (Op.equalIn 10000 36 (.agg #[.bool (inSp n a l 0), .bool (inSp n a l 1), .bool (inSp n a l 2), .bool (inSp n a l 3)]) (.agg #[.bool (inSp n b l 0), .bool (inSp n b l 1), .bool (inSp n b l 2), .bool (inSp n b l 3)])) w = .ok (eR n a b l) w := fun w => equal4 _ _ _ _ _ _ _ _ w

set_option maxHeartbeats 40000000 in
theorem impl_near (n a b : Int) (w : World) : Calls Try.prog 9 #[.int .i64 n, .int .i64 a, .int .i64 b] w fun e w' => e = .returned (.int .i64 (nearM n a b)) ∧ Below w.heap.size w w' := by
  have acc := Below.refl w.heap.size w
  rcases near_ways n a b with ⟨h, e⟩ | ⟨h, c, e⟩ | ⟨h, c, e⟩ | ⟨h, c, e⟩ | ⟨h, c, d, e⟩ | ⟨h, c, d, e⟩
  · rw [e]
    clear e
    go_enter Try.func9, Try.ntmps9
    go_wp2_with (go_at_call 11; refine (impl_levels _ _).mono ?_; rintro e w1 ⟨rfl, rfl⟩)
    refine wp_loop_rounds 3 ?_
    rw [rounds_succ]
    go_wp2
    go_ret
    exact ⟨rfl, acc⟩
  · rw [e]
    clear e
    obtain ⟨z, q⟩ := cmp_yes c
    clear c
    go_enter Try.func9, Try.ntmps9
    go_wp2_with (go_at_call 11; refine (impl_levels _ _).mono ?_; rintro e w1 ⟨rfl, rfl⟩)
    refine wp_loop_rounds 3 ?_
    rw [rounds_succ]
    go_wp2_with fail
    refine (spanOf_any _ _ _ _).mono ?_
    rintro e w1 ⟨rfl, hb1⟩
    rw [spRow_four]
    go_wp2_with fail
    obtain ⟨k0, k1, k2, k3⟩ := cells4 (heap_alloc_new w1 (.cells #[.bool (inSp n a 0 0), .bool (inSp n a 0 1), .bool (inSp n a 0 2), .bool (inSp n a 0 3)] 36))
    replace acc := (acc.trans (hb1.mono acc.size)).alloc (Nat.le_trans acc.size hb1.size) (.cells #[.bool (inSp n a 0 0), .bool (inSp n a 0 1), .bool (inSp n a 0 2), .bool (inSp n a 0 3)] 36)
    have hlt : w1.heap.size < (w1.alloc (.cells #[.bool (inSp n a 0 0), .bool (inSp n a 0 1), .bool (inSp n a 0 2), .bool (inSp n a 0 3)] 36)).heap.size := by simp
    generalize w1.alloc (.cells #[.bool (inSp n a 0 0), .bool (inSp n a 0 1), .bool (inSp n a 0 2), .bool (inSp n a 0 3)] 36) = W at k0 k1 k2 k3 acc hlt ⊢
    generalize w1.heap.size = B at k0 k1 k2 k3 hlt ⊢
    clear hb1
    have ez := eq_z n a 0
    rw [z] at ez
    have ee := eq_e n a b 0
    rw [q] at ee
    go_region_held3 (fun w' => w'.cell? ⟨B, 0, none⟩ = some (.bool (inSp n a 0 0)) ∧ w'.cell? ⟨B, 1, none⟩ = some (.bool (inSp n a 0 1)) ∧ w'.cell? ⟨B, 2, none⟩ = some (.bool (inSp n a 0 2)) ∧ w'.cell? ⟨B, 3, none⟩ = some (.bool (inSp n a 0 3))) (go_keep) (first | (go_at_call 22; refine (spanOf_any _ _ _ _).mono ?_; rintro e w2 ⟨rfl, hb2⟩; have hb3 := (Below.refl _ W).drew.trans hb2; have g0 := (hb3.cell hlt).trans k0; have g1 := (hb3.cell hlt).trans k1; have g2 := (hb3.cell hlt).trans k2; have g3 := (hb3.cell hlt).trans k3; rw [spRow_four]))
    replace acc := acc.trans (hb3.mono acc.size)
    clear hb2 hb3 g0 g1 g2 g3
    clear ez ee k0 k1 k2 k3 hlt
    try clear B
    simp only [Exit.then]
    go_at_K
    go_wp2_with fail
    go_ret
    exact ⟨rfl, acc⟩
  · rcases cmp_no c with z | ⟨z, q⟩
    · clear c
      rw [e]
      clear e
      go_enter Try.func9, Try.ntmps9
      go_wp2_with (go_at_call 11; refine (impl_levels _ _).mono ?_; rintro e w1 ⟨rfl, rfl⟩)
      refine wp_loop_rounds 3 ?_
      rw [rounds_succ]
      go_wp2_with fail
      refine (spanOf_any _ _ _ _).mono ?_
      rintro e w1 ⟨rfl, hb1⟩
      rw [spRow_four]
      go_wp2_with fail
      obtain ⟨k0, k1, k2, k3⟩ := cells4 (heap_alloc_new w1 (.cells #[.bool (inSp n a 0 0), .bool (inSp n a 0 1), .bool (inSp n a 0 2), .bool (inSp n a 0 3)] 36))
      replace acc := (acc.trans (hb1.mono acc.size)).alloc (Nat.le_trans acc.size hb1.size) (.cells #[.bool (inSp n a 0 0), .bool (inSp n a 0 1), .bool (inSp n a 0 2), .bool (inSp n a 0 3)] 36)
      have hlt : w1.heap.size < (w1.alloc (.cells #[.bool (inSp n a 0 0), .bool (inSp n a 0 1), .bool (inSp n a 0 2), .bool (inSp n a 0 3)] 36)).heap.size := by simp
      generalize w1.alloc (.cells #[.bool (inSp n a 0 0), .bool (inSp n a 0 1), .bool (inSp n a 0 2), .bool (inSp n a 0 3)] 36) = W at k0 k1 k2 k3 acc hlt ⊢
      generalize w1.heap.size = B at k0 k1 k2 k3 hlt ⊢
      clear hb1
      have ez := eq_z n a 0
      rw [z] at ez
      have ee := eq_e n a b 0
      go_region
      replace acc := acc.drew
      clear ez ee k0 k1 k2 k3 hlt
      try clear B
      simp only [Exit.then]
      go_at_K
      go_wp2_with fail
      rw [rounds_succ]
      go_wp2
      go_ret
      exact ⟨rfl, acc⟩
    · clear c
      rw [e]
      clear e
      go_enter Try.func9, Try.ntmps9
      go_wp2_with (go_at_call 11; refine (impl_levels _ _).mono ?_; rintro e w1 ⟨rfl, rfl⟩)
      refine wp_loop_rounds 3 ?_
      rw [rounds_succ]
      go_wp2_with fail
      refine (spanOf_any _ _ _ _).mono ?_
      rintro e w1 ⟨rfl, hb1⟩
      rw [spRow_four]
      go_wp2_with fail
      obtain ⟨k0, k1, k2, k3⟩ := cells4 (heap_alloc_new w1 (.cells #[.bool (inSp n a 0 0), .bool (inSp n a 0 1), .bool (inSp n a 0 2), .bool (inSp n a 0 3)] 36))
      replace acc := (acc.trans (hb1.mono acc.size)).alloc (Nat.le_trans acc.size hb1.size) (.cells #[.bool (inSp n a 0 0), .bool (inSp n a 0 1), .bool (inSp n a 0 2), .bool (inSp n a 0 3)] 36)
      have hlt : w1.heap.size < (w1.alloc (.cells #[.bool (inSp n a 0 0), .bool (inSp n a 0 1), .bool (inSp n a 0 2), .bool (inSp n a 0 3)] 36)).heap.size := by simp
      generalize w1.alloc (.cells #[.bool (inSp n a 0 0), .bool (inSp n a 0 1), .bool (inSp n a 0 2), .bool (inSp n a 0 3)] 36) = W at k0 k1 k2 k3 acc hlt ⊢
      generalize w1.heap.size = B at k0 k1 k2 k3 hlt ⊢
      clear hb1
      have ez := eq_z n a 0
      rw [z] at ez
      have ee := eq_e n a b 0
      rw [q] at ee
      go_region_held3 (fun w' => w'.cell? ⟨B, 0, none⟩ = some (.bool (inSp n a 0 0)) ∧ w'.cell? ⟨B, 1, none⟩ = some (.bool (inSp n a 0 1)) ∧ w'.cell? ⟨B, 2, none⟩ = some (.bool (inSp n a 0 2)) ∧ w'.cell? ⟨B, 3, none⟩ = some (.bool (inSp n a 0 3))) (go_keep) (first | (go_at_call 22; refine (spanOf_any _ _ _ _).mono ?_; rintro e w2 ⟨rfl, hb2⟩; have hb3 := (Below.refl _ W).drew.trans hb2; have g0 := (hb3.cell hlt).trans k0; have g1 := (hb3.cell hlt).trans k1; have g2 := (hb3.cell hlt).trans k2; have g3 := (hb3.cell hlt).trans k3; rw [spRow_four]))
      replace acc := acc.trans (hb3.mono acc.size)
      clear hb2 hb3 g0 g1 g2 g3
      clear ez ee k0 k1 k2 k3 hlt
      try clear B
      simp only [Exit.then]
      go_at_K
      go_wp2_with fail
      rw [rounds_succ]
      go_wp2
      go_ret
      exact ⟨rfl, acc⟩
  · rw [e]
    clear e
    obtain ⟨z, q⟩ := cmp_yes c
    clear c
    go_enter Try.func9, Try.ntmps9
    go_wp2_with (go_at_call 11; refine (impl_levels _ _).mono ?_; rintro e w1 ⟨rfl, rfl⟩)
    refine wp_loop_rounds 3 ?_
    rw [rounds_succ]
    go_wp2_with fail
    refine (spanOf_any _ _ _ _).mono ?_
    rintro e w1 ⟨rfl, hb1⟩
    rw [spRow_four]
    go_wp2_with fail
    obtain ⟨k0, k1, k2, k3⟩ := cells4 (heap_alloc_new w1 (.cells #[.bool (inSp n a 0 0), .bool (inSp n a 0 1), .bool (inSp n a 0 2), .bool (inSp n a 0 3)] 36))
    replace acc := (acc.trans (hb1.mono acc.size)).alloc (Nat.le_trans acc.size hb1.size) (.cells #[.bool (inSp n a 0 0), .bool (inSp n a 0 1), .bool (inSp n a 0 2), .bool (inSp n a 0 3)] 36)
    have hlt : w1.heap.size < (w1.alloc (.cells #[.bool (inSp n a 0 0), .bool (inSp n a 0 1), .bool (inSp n a 0 2), .bool (inSp n a 0 3)] 36)).heap.size := by simp
    generalize w1.alloc (.cells #[.bool (inSp n a 0 0), .bool (inSp n a 0 1), .bool (inSp n a 0 2), .bool (inSp n a 0 3)] 36) = W at k0 k1 k2 k3 acc hlt ⊢
    generalize w1.heap.size = B at k0 k1 k2 k3 hlt ⊢
    clear hb1
    have ez := eq_z n a 0
    rw [z] at ez
    have ee := eq_e n a b 0
    rw [q] at ee
    go_region_held3 (fun w' => w'.cell? ⟨B, 0, none⟩ = some (.bool (inSp n a 0 0)) ∧ w'.cell? ⟨B, 1, none⟩ = some (.bool (inSp n a 0 1)) ∧ w'.cell? ⟨B, 2, none⟩ = some (.bool (inSp n a 0 2)) ∧ w'.cell? ⟨B, 3, none⟩ = some (.bool (inSp n a 0 3))) (go_keep) (first | (go_at_call 22; refine (spanOf_any _ _ _ _).mono ?_; rintro e w2 ⟨rfl, hb2⟩; have hb3 := (Below.refl _ W).drew.trans hb2; have g0 := (hb3.cell hlt).trans k0; have g1 := (hb3.cell hlt).trans k1; have g2 := (hb3.cell hlt).trans k2; have g3 := (hb3.cell hlt).trans k3; rw [spRow_four]))
    replace acc := acc.trans (hb3.mono acc.size)
    clear hb2 hb3 g0 g1 g2 g3
    clear ez ee k0 k1 k2 k3 hlt
    try clear B
    simp only [Exit.then]
    go_at_K
    go_wp2_with fail
    go_ret
    exact ⟨rfl, acc⟩
  · obtain ⟨z2, q2⟩ := cmp_yes d
    rcases cmp_no c with z | ⟨z, q⟩
    · clear c d
      rw [e]
      clear e
      go_enter Try.func9, Try.ntmps9
      go_wp2_with (go_at_call 11; refine (impl_levels _ _).mono ?_; rintro e w1 ⟨rfl, rfl⟩)
      refine wp_loop_rounds 3 ?_
      rw [rounds_succ]
      go_wp2_with fail
      refine (spanOf_any _ _ _ _).mono ?_
      rintro e w1 ⟨rfl, hb1⟩
      rw [spRow_four]
      go_wp2_with fail
      obtain ⟨k0, k1, k2, k3⟩ := cells4 (heap_alloc_new w1 (.cells #[.bool (inSp n a 0 0), .bool (inSp n a 0 1), .bool (inSp n a 0 2), .bool (inSp n a 0 3)] 36))
      replace acc := (acc.trans (hb1.mono acc.size)).alloc (Nat.le_trans acc.size hb1.size) (.cells #[.bool (inSp n a 0 0), .bool (inSp n a 0 1), .bool (inSp n a 0 2), .bool (inSp n a 0 3)] 36)
      have hlt : w1.heap.size < (w1.alloc (.cells #[.bool (inSp n a 0 0), .bool (inSp n a 0 1), .bool (inSp n a 0 2), .bool (inSp n a 0 3)] 36)).heap.size := by simp
      generalize w1.alloc (.cells #[.bool (inSp n a 0 0), .bool (inSp n a 0 1), .bool (inSp n a 0 2), .bool (inSp n a 0 3)] 36) = W at k0 k1 k2 k3 acc hlt ⊢
      generalize w1.heap.size = B at k0 k1 k2 k3 hlt ⊢
      clear hb1
      have ez := eq_z n a 0
      rw [z] at ez
      have ee := eq_e n a b 0
      go_region
      replace acc := acc.drew
      clear ez ee k0 k1 k2 k3 hlt
      try clear B
      simp only [Exit.then]
      go_at_K
      go_wp2_with fail
      rw [rounds_succ]
      go_wp2_with fail
      refine (spanOf_any _ _ _ _).mono ?_
      rintro e w1 ⟨rfl, hb1⟩
      rw [spRow_four]
      go_wp2_with fail
      obtain ⟨k0, k1, k2, k3⟩ := cells4 (heap_alloc_new w1 (.cells #[.bool (inSp n a 1 0), .bool (inSp n a 1 1), .bool (inSp n a 1 2), .bool (inSp n a 1 3)] 36))
      replace acc := (acc.trans (hb1.mono acc.size)).alloc (Nat.le_trans acc.size hb1.size) (.cells #[.bool (inSp n a 1 0), .bool (inSp n a 1 1), .bool (inSp n a 1 2), .bool (inSp n a 1 3)] 36)
      have hlt : w1.heap.size < (w1.alloc (.cells #[.bool (inSp n a 1 0), .bool (inSp n a 1 1), .bool (inSp n a 1 2), .bool (inSp n a 1 3)] 36)).heap.size := by simp
      generalize w1.alloc (.cells #[.bool (inSp n a 1 0), .bool (inSp n a 1 1), .bool (inSp n a 1 2), .bool (inSp n a 1 3)] 36) = W at k0 k1 k2 k3 acc hlt ⊢
      generalize w1.heap.size = B at k0 k1 k2 k3 hlt ⊢
      clear hb1
      have ez := eq_z n a 1
      rw [z2] at ez
      have ee := eq_e n a b 1
      rw [q2] at ee
      go_region_held3 (fun w' => w'.cell? ⟨B, 0, none⟩ = some (.bool (inSp n a 1 0)) ∧ w'.cell? ⟨B, 1, none⟩ = some (.bool (inSp n a 1 1)) ∧ w'.cell? ⟨B, 2, none⟩ = some (.bool (inSp n a 1 2)) ∧ w'.cell? ⟨B, 3, none⟩ = some (.bool (inSp n a 1 3))) (go_keep) (first | (go_at_call 22; refine (spanOf_any _ _ _ _).mono ?_; rintro e w2 ⟨rfl, hb2⟩; have hb3 := (Below.refl _ W).drew.trans hb2; have g0 := (hb3.cell hlt).trans k0; have g1 := (hb3.cell hlt).trans k1; have g2 := (hb3.cell hlt).trans k2; have g3 := (hb3.cell hlt).trans k3; rw [spRow_four]))
      replace acc := acc.trans (hb3.mono acc.size)
      clear hb2 hb3 g0 g1 g2 g3
      clear ez ee k0 k1 k2 k3 hlt
      try clear B
      simp only [Exit.then]
      go_at_K
      go_wp2_with fail
      go_ret
      exact ⟨rfl, acc⟩
    · clear c d
      rw [e]
      clear e
      go_enter Try.func9, Try.ntmps9
      go_wp2_with (go_at_call 11; refine (impl_levels _ _).mono ?_; rintro e w1 ⟨rfl, rfl⟩)
      refine wp_loop_rounds 3 ?_
      rw [rounds_succ]
      go_wp2_with fail
      refine (spanOf_any _ _ _ _).mono ?_
      rintro e w1 ⟨rfl, hb1⟩
      rw [spRow_four]
      go_wp2_with fail
      obtain ⟨k0, k1, k2, k3⟩ := cells4 (heap_alloc_new w1 (.cells #[.bool (inSp n a 0 0), .bool (inSp n a 0 1), .bool (inSp n a 0 2), .bool (inSp n a 0 3)] 36))
      replace acc := (acc.trans (hb1.mono acc.size)).alloc (Nat.le_trans acc.size hb1.size) (.cells #[.bool (inSp n a 0 0), .bool (inSp n a 0 1), .bool (inSp n a 0 2), .bool (inSp n a 0 3)] 36)
      have hlt : w1.heap.size < (w1.alloc (.cells #[.bool (inSp n a 0 0), .bool (inSp n a 0 1), .bool (inSp n a 0 2), .bool (inSp n a 0 3)] 36)).heap.size := by simp
      generalize w1.alloc (.cells #[.bool (inSp n a 0 0), .bool (inSp n a 0 1), .bool (inSp n a 0 2), .bool (inSp n a 0 3)] 36) = W at k0 k1 k2 k3 acc hlt ⊢
      generalize w1.heap.size = B at k0 k1 k2 k3 hlt ⊢
      clear hb1
      have ez := eq_z n a 0
      rw [z] at ez
      have ee := eq_e n a b 0
      rw [q] at ee
      go_region_held3 (fun w' => w'.cell? ⟨B, 0, none⟩ = some (.bool (inSp n a 0 0)) ∧ w'.cell? ⟨B, 1, none⟩ = some (.bool (inSp n a 0 1)) ∧ w'.cell? ⟨B, 2, none⟩ = some (.bool (inSp n a 0 2)) ∧ w'.cell? ⟨B, 3, none⟩ = some (.bool (inSp n a 0 3))) (go_keep) (first | (go_at_call 22; refine (spanOf_any _ _ _ _).mono ?_; rintro e w2 ⟨rfl, hb2⟩; have hb3 := (Below.refl _ W).drew.trans hb2; have g0 := (hb3.cell hlt).trans k0; have g1 := (hb3.cell hlt).trans k1; have g2 := (hb3.cell hlt).trans k2; have g3 := (hb3.cell hlt).trans k3; rw [spRow_four]))
      replace acc := acc.trans (hb3.mono acc.size)
      clear hb2 hb3 g0 g1 g2 g3
      clear ez ee k0 k1 k2 k3 hlt
      try clear B
      simp only [Exit.then]
      go_at_K
      go_wp2_with fail
      rw [rounds_succ]
      go_wp2_with fail
      refine (spanOf_any _ _ _ _).mono ?_
      rintro e w1 ⟨rfl, hb1⟩
      rw [spRow_four]
      go_wp2_with fail
      obtain ⟨k0, k1, k2, k3⟩ := cells4 (heap_alloc_new w1 (.cells #[.bool (inSp n a 1 0), .bool (inSp n a 1 1), .bool (inSp n a 1 2), .bool (inSp n a 1 3)] 36))
      replace acc := (acc.trans (hb1.mono acc.size)).alloc (Nat.le_trans acc.size hb1.size) (.cells #[.bool (inSp n a 1 0), .bool (inSp n a 1 1), .bool (inSp n a 1 2), .bool (inSp n a 1 3)] 36)
      have hlt : w1.heap.size < (w1.alloc (.cells #[.bool (inSp n a 1 0), .bool (inSp n a 1 1), .bool (inSp n a 1 2), .bool (inSp n a 1 3)] 36)).heap.size := by simp
      generalize w1.alloc (.cells #[.bool (inSp n a 1 0), .bool (inSp n a 1 1), .bool (inSp n a 1 2), .bool (inSp n a 1 3)] 36) = W at k0 k1 k2 k3 acc hlt ⊢
      generalize w1.heap.size = B at k0 k1 k2 k3 hlt ⊢
      clear hb1
      have ez := eq_z n a 1
      rw [z2] at ez
      have ee := eq_e n a b 1
      rw [q2] at ee
      go_region_held3 (fun w' => w'.cell? ⟨B, 0, none⟩ = some (.bool (inSp n a 1 0)) ∧ w'.cell? ⟨B, 1, none⟩ = some (.bool (inSp n a 1 1)) ∧ w'.cell? ⟨B, 2, none⟩ = some (.bool (inSp n a 1 2)) ∧ w'.cell? ⟨B, 3, none⟩ = some (.bool (inSp n a 1 3))) (go_keep) (first | (go_at_call 22; refine (spanOf_any _ _ _ _).mono ?_; rintro e w2 ⟨rfl, hb2⟩; have hb3 := (Below.refl _ W).drew.trans hb2; have g0 := (hb3.cell hlt).trans k0; have g1 := (hb3.cell hlt).trans k1; have g2 := (hb3.cell hlt).trans k2; have g3 := (hb3.cell hlt).trans k3; rw [spRow_four]))
      replace acc := acc.trans (hb3.mono acc.size)
      clear hb2 hb3 g0 g1 g2 g3
      clear ez ee k0 k1 k2 k3 hlt
      try clear B
      simp only [Exit.then]
      go_at_K
      go_wp2_with fail
      go_ret
      exact ⟨rfl, acc⟩
  · rcases cmp_no c with z | ⟨z, q⟩
    · rcases cmp_no d with z2 | ⟨z2, q2⟩
      · clear c d
        rw [e]
        clear e
        go_enter Try.func9, Try.ntmps9
        go_wp2_with (go_at_call 11; refine (impl_levels _ _).mono ?_; rintro e w1 ⟨rfl, rfl⟩)
        refine wp_loop_rounds 3 ?_
        rw [rounds_succ]
        go_wp2_with fail
        refine (spanOf_any _ _ _ _).mono ?_
        rintro e w1 ⟨rfl, hb1⟩
        rw [spRow_four]
        go_wp2_with fail
        obtain ⟨k0, k1, k2, k3⟩ := cells4 (heap_alloc_new w1 (.cells #[.bool (inSp n a 0 0), .bool (inSp n a 0 1), .bool (inSp n a 0 2), .bool (inSp n a 0 3)] 36))
        replace acc := (acc.trans (hb1.mono acc.size)).alloc (Nat.le_trans acc.size hb1.size) (.cells #[.bool (inSp n a 0 0), .bool (inSp n a 0 1), .bool (inSp n a 0 2), .bool (inSp n a 0 3)] 36)
        have hlt : w1.heap.size < (w1.alloc (.cells #[.bool (inSp n a 0 0), .bool (inSp n a 0 1), .bool (inSp n a 0 2), .bool (inSp n a 0 3)] 36)).heap.size := by simp
        generalize w1.alloc (.cells #[.bool (inSp n a 0 0), .bool (inSp n a 0 1), .bool (inSp n a 0 2), .bool (inSp n a 0 3)] 36) = W at k0 k1 k2 k3 acc hlt ⊢
        generalize w1.heap.size = B at k0 k1 k2 k3 hlt ⊢
        clear hb1
        have ez := eq_z n a 0
        rw [z] at ez
        have ee := eq_e n a b 0
        go_region
        replace acc := acc.drew
        clear ez ee k0 k1 k2 k3 hlt
        try clear B
        simp only [Exit.then]
        go_at_K
        go_wp2_with fail
        rw [rounds_succ]
        go_wp2_with fail
        refine (spanOf_any _ _ _ _).mono ?_
        rintro e w1 ⟨rfl, hb1⟩
        rw [spRow_four]
        go_wp2_with fail
        obtain ⟨k0, k1, k2, k3⟩ := cells4 (heap_alloc_new w1 (.cells #[.bool (inSp n a 1 0), .bool (inSp n a 1 1), .bool (inSp n a 1 2), .bool (inSp n a 1 3)] 36))
        replace acc := (acc.trans (hb1.mono acc.size)).alloc (Nat.le_trans acc.size hb1.size) (.cells #[.bool (inSp n a 1 0), .bool (inSp n a 1 1), .bool (inSp n a 1 2), .bool (inSp n a 1 3)] 36)
        have hlt : w1.heap.size < (w1.alloc (.cells #[.bool (inSp n a 1 0), .bool (inSp n a 1 1), .bool (inSp n a 1 2), .bool (inSp n a 1 3)] 36)).heap.size := by simp
        generalize w1.alloc (.cells #[.bool (inSp n a 1 0), .bool (inSp n a 1 1), .bool (inSp n a 1 2), .bool (inSp n a 1 3)] 36) = W at k0 k1 k2 k3 acc hlt ⊢
        generalize w1.heap.size = B at k0 k1 k2 k3 hlt ⊢
        clear hb1
        have ez := eq_z n a 1
        rw [z2] at ez
        have ee := eq_e n a b 1
        go_region
        replace acc := acc.drew
        clear ez ee k0 k1 k2 k3 hlt
        try clear B
        simp only [Exit.then]
        go_at_K
        go_wp2_with fail
        rw [rounds_succ]
        go_wp2
        go_ret
        exact ⟨rfl, acc⟩
      · clear c d
        rw [e]
        clear e
        go_enter Try.func9, Try.ntmps9
        go_wp2_with (go_at_call 11; refine (impl_levels _ _).mono ?_; rintro e w1 ⟨rfl, rfl⟩)
        refine wp_loop_rounds 3 ?_
        rw [rounds_succ]
        go_wp2_with fail
        refine (spanOf_any _ _ _ _).mono ?_
        rintro e w1 ⟨rfl, hb1⟩
        rw [spRow_four]
        go_wp2_with fail
        obtain ⟨k0, k1, k2, k3⟩ := cells4 (heap_alloc_new w1 (.cells #[.bool (inSp n a 0 0), .bool (inSp n a 0 1), .bool (inSp n a 0 2), .bool (inSp n a 0 3)] 36))
        replace acc := (acc.trans (hb1.mono acc.size)).alloc (Nat.le_trans acc.size hb1.size) (.cells #[.bool (inSp n a 0 0), .bool (inSp n a 0 1), .bool (inSp n a 0 2), .bool (inSp n a 0 3)] 36)
        have hlt : w1.heap.size < (w1.alloc (.cells #[.bool (inSp n a 0 0), .bool (inSp n a 0 1), .bool (inSp n a 0 2), .bool (inSp n a 0 3)] 36)).heap.size := by simp
        generalize w1.alloc (.cells #[.bool (inSp n a 0 0), .bool (inSp n a 0 1), .bool (inSp n a 0 2), .bool (inSp n a 0 3)] 36) = W at k0 k1 k2 k3 acc hlt ⊢
        generalize w1.heap.size = B at k0 k1 k2 k3 hlt ⊢
        clear hb1
        have ez := eq_z n a 0
        rw [z] at ez
        have ee := eq_e n a b 0
        go_region
        replace acc := acc.drew
        clear ez ee k0 k1 k2 k3 hlt
        try clear B
        simp only [Exit.then]
        go_at_K
        go_wp2_with fail
        rw [rounds_succ]
        go_wp2_with fail
        refine (spanOf_any _ _ _ _).mono ?_
        rintro e w1 ⟨rfl, hb1⟩
        rw [spRow_four]
        go_wp2_with fail
        obtain ⟨k0, k1, k2, k3⟩ := cells4 (heap_alloc_new w1 (.cells #[.bool (inSp n a 1 0), .bool (inSp n a 1 1), .bool (inSp n a 1 2), .bool (inSp n a 1 3)] 36))
        replace acc := (acc.trans (hb1.mono acc.size)).alloc (Nat.le_trans acc.size hb1.size) (.cells #[.bool (inSp n a 1 0), .bool (inSp n a 1 1), .bool (inSp n a 1 2), .bool (inSp n a 1 3)] 36)
        have hlt : w1.heap.size < (w1.alloc (.cells #[.bool (inSp n a 1 0), .bool (inSp n a 1 1), .bool (inSp n a 1 2), .bool (inSp n a 1 3)] 36)).heap.size := by simp
        generalize w1.alloc (.cells #[.bool (inSp n a 1 0), .bool (inSp n a 1 1), .bool (inSp n a 1 2), .bool (inSp n a 1 3)] 36) = W at k0 k1 k2 k3 acc hlt ⊢
        generalize w1.heap.size = B at k0 k1 k2 k3 hlt ⊢
        clear hb1
        have ez := eq_z n a 1
        rw [z2] at ez
        have ee := eq_e n a b 1
        rw [q2] at ee
        go_region_held3 (fun w' => w'.cell? ⟨B, 0, none⟩ = some (.bool (inSp n a 1 0)) ∧ w'.cell? ⟨B, 1, none⟩ = some (.bool (inSp n a 1 1)) ∧ w'.cell? ⟨B, 2, none⟩ = some (.bool (inSp n a 1 2)) ∧ w'.cell? ⟨B, 3, none⟩ = some (.bool (inSp n a 1 3))) (go_keep) (first | (go_at_call 22; refine (spanOf_any _ _ _ _).mono ?_; rintro e w2 ⟨rfl, hb2⟩; have hb3 := (Below.refl _ W).drew.trans hb2; have g0 := (hb3.cell hlt).trans k0; have g1 := (hb3.cell hlt).trans k1; have g2 := (hb3.cell hlt).trans k2; have g3 := (hb3.cell hlt).trans k3; rw [spRow_four]))
        replace acc := acc.trans (hb3.mono acc.size)
        clear hb2 hb3 g0 g1 g2 g3
        clear ez ee k0 k1 k2 k3 hlt
        try clear B
        simp only [Exit.then]
        go_at_K
        go_wp2_with fail
        rw [rounds_succ]
        go_wp2
        go_ret
        exact ⟨rfl, acc⟩
    · rcases cmp_no d with z2 | ⟨z2, q2⟩
      · clear c d
        rw [e]
        clear e
        go_enter Try.func9, Try.ntmps9
        go_wp2_with (go_at_call 11; refine (impl_levels _ _).mono ?_; rintro e w1 ⟨rfl, rfl⟩)
        refine wp_loop_rounds 3 ?_
        rw [rounds_succ]
        go_wp2_with fail
        refine (spanOf_any _ _ _ _).mono ?_
        rintro e w1 ⟨rfl, hb1⟩
        rw [spRow_four]
        go_wp2_with fail
        obtain ⟨k0, k1, k2, k3⟩ := cells4 (heap_alloc_new w1 (.cells #[.bool (inSp n a 0 0), .bool (inSp n a 0 1), .bool (inSp n a 0 2), .bool (inSp n a 0 3)] 36))
        replace acc := (acc.trans (hb1.mono acc.size)).alloc (Nat.le_trans acc.size hb1.size) (.cells #[.bool (inSp n a 0 0), .bool (inSp n a 0 1), .bool (inSp n a 0 2), .bool (inSp n a 0 3)] 36)
        have hlt : w1.heap.size < (w1.alloc (.cells #[.bool (inSp n a 0 0), .bool (inSp n a 0 1), .bool (inSp n a 0 2), .bool (inSp n a 0 3)] 36)).heap.size := by simp
        generalize w1.alloc (.cells #[.bool (inSp n a 0 0), .bool (inSp n a 0 1), .bool (inSp n a 0 2), .bool (inSp n a 0 3)] 36) = W at k0 k1 k2 k3 acc hlt ⊢
        generalize w1.heap.size = B at k0 k1 k2 k3 hlt ⊢
        clear hb1
        have ez := eq_z n a 0
        rw [z] at ez
        have ee := eq_e n a b 0
        rw [q] at ee
        go_region_held3 (fun w' => w'.cell? ⟨B, 0, none⟩ = some (.bool (inSp n a 0 0)) ∧ w'.cell? ⟨B, 1, none⟩ = some (.bool (inSp n a 0 1)) ∧ w'.cell? ⟨B, 2, none⟩ = some (.bool (inSp n a 0 2)) ∧ w'.cell? ⟨B, 3, none⟩ = some (.bool (inSp n a 0 3))) (go_keep) (first | (go_at_call 22; refine (spanOf_any _ _ _ _).mono ?_; rintro e w2 ⟨rfl, hb2⟩; have hb3 := (Below.refl _ W).drew.trans hb2; have g0 := (hb3.cell hlt).trans k0; have g1 := (hb3.cell hlt).trans k1; have g2 := (hb3.cell hlt).trans k2; have g3 := (hb3.cell hlt).trans k3; rw [spRow_four]))
        replace acc := acc.trans (hb3.mono acc.size)
        clear hb2 hb3 g0 g1 g2 g3
        clear ez ee k0 k1 k2 k3 hlt
        try clear B
        simp only [Exit.then]
        go_at_K
        go_wp2_with fail
        rw [rounds_succ]
        go_wp2_with fail
        refine (spanOf_any _ _ _ _).mono ?_
        rintro e w1 ⟨rfl, hb1⟩
        rw [spRow_four]
        go_wp2_with fail
        obtain ⟨k0, k1, k2, k3⟩ := cells4 (heap_alloc_new w1 (.cells #[.bool (inSp n a 1 0), .bool (inSp n a 1 1), .bool (inSp n a 1 2), .bool (inSp n a 1 3)] 36))
        replace acc := (acc.trans (hb1.mono acc.size)).alloc (Nat.le_trans acc.size hb1.size) (.cells #[.bool (inSp n a 1 0), .bool (inSp n a 1 1), .bool (inSp n a 1 2), .bool (inSp n a 1 3)] 36)
        have hlt : w1.heap.size < (w1.alloc (.cells #[.bool (inSp n a 1 0), .bool (inSp n a 1 1), .bool (inSp n a 1 2), .bool (inSp n a 1 3)] 36)).heap.size := by simp
        generalize w1.alloc (.cells #[.bool (inSp n a 1 0), .bool (inSp n a 1 1), .bool (inSp n a 1 2), .bool (inSp n a 1 3)] 36) = W at k0 k1 k2 k3 acc hlt ⊢
        generalize w1.heap.size = B at k0 k1 k2 k3 hlt ⊢
        clear hb1
        have ez := eq_z n a 1
        rw [z2] at ez
        have ee := eq_e n a b 1
        go_region
        replace acc := acc.drew
        clear ez ee k0 k1 k2 k3 hlt
        try clear B
        simp only [Exit.then]
        go_at_K
        go_wp2_with fail
        rw [rounds_succ]
        go_wp2
        go_ret
        exact ⟨rfl, acc⟩
      · clear c d
        rw [e]
        clear e
        go_enter Try.func9, Try.ntmps9
        go_wp2_with (go_at_call 11; refine (impl_levels _ _).mono ?_; rintro e w1 ⟨rfl, rfl⟩)
        refine wp_loop_rounds 3 ?_
        rw [rounds_succ]
        go_wp2_with fail
        refine (spanOf_any _ _ _ _).mono ?_
        rintro e w1 ⟨rfl, hb1⟩
        rw [spRow_four]
        go_wp2_with fail
        obtain ⟨k0, k1, k2, k3⟩ := cells4 (heap_alloc_new w1 (.cells #[.bool (inSp n a 0 0), .bool (inSp n a 0 1), .bool (inSp n a 0 2), .bool (inSp n a 0 3)] 36))
        replace acc := (acc.trans (hb1.mono acc.size)).alloc (Nat.le_trans acc.size hb1.size) (.cells #[.bool (inSp n a 0 0), .bool (inSp n a 0 1), .bool (inSp n a 0 2), .bool (inSp n a 0 3)] 36)
        have hlt : w1.heap.size < (w1.alloc (.cells #[.bool (inSp n a 0 0), .bool (inSp n a 0 1), .bool (inSp n a 0 2), .bool (inSp n a 0 3)] 36)).heap.size := by simp
        generalize w1.alloc (.cells #[.bool (inSp n a 0 0), .bool (inSp n a 0 1), .bool (inSp n a 0 2), .bool (inSp n a 0 3)] 36) = W at k0 k1 k2 k3 acc hlt ⊢
        generalize w1.heap.size = B at k0 k1 k2 k3 hlt ⊢
        clear hb1
        have ez := eq_z n a 0
        rw [z] at ez
        have ee := eq_e n a b 0
        rw [q] at ee
        go_region_held3 (fun w' => w'.cell? ⟨B, 0, none⟩ = some (.bool (inSp n a 0 0)) ∧ w'.cell? ⟨B, 1, none⟩ = some (.bool (inSp n a 0 1)) ∧ w'.cell? ⟨B, 2, none⟩ = some (.bool (inSp n a 0 2)) ∧ w'.cell? ⟨B, 3, none⟩ = some (.bool (inSp n a 0 3))) (go_keep) (first | (go_at_call 22; refine (spanOf_any _ _ _ _).mono ?_; rintro e w2 ⟨rfl, hb2⟩; have hb3 := (Below.refl _ W).drew.trans hb2; have g0 := (hb3.cell hlt).trans k0; have g1 := (hb3.cell hlt).trans k1; have g2 := (hb3.cell hlt).trans k2; have g3 := (hb3.cell hlt).trans k3; rw [spRow_four]))
        replace acc := acc.trans (hb3.mono acc.size)
        clear hb2 hb3 g0 g1 g2 g3
        clear ez ee k0 k1 k2 k3 hlt
        try clear B
        simp only [Exit.then]
        go_at_K
        go_wp2_with fail
        rw [rounds_succ]
        go_wp2_with fail
        refine (spanOf_any _ _ _ _).mono ?_
        rintro e w1 ⟨rfl, hb1⟩
        rw [spRow_four]
        go_wp2_with fail
        obtain ⟨k0, k1, k2, k3⟩ := cells4 (heap_alloc_new w1 (.cells #[.bool (inSp n a 1 0), .bool (inSp n a 1 1), .bool (inSp n a 1 2), .bool (inSp n a 1 3)] 36))
        replace acc := (acc.trans (hb1.mono acc.size)).alloc (Nat.le_trans acc.size hb1.size) (.cells #[.bool (inSp n a 1 0), .bool (inSp n a 1 1), .bool (inSp n a 1 2), .bool (inSp n a 1 3)] 36)
        have hlt : w1.heap.size < (w1.alloc (.cells #[.bool (inSp n a 1 0), .bool (inSp n a 1 1), .bool (inSp n a 1 2), .bool (inSp n a 1 3)] 36)).heap.size := by simp
        generalize w1.alloc (.cells #[.bool (inSp n a 1 0), .bool (inSp n a 1 1), .bool (inSp n a 1 2), .bool (inSp n a 1 3)] 36) = W at k0 k1 k2 k3 acc hlt ⊢
        generalize w1.heap.size = B at k0 k1 k2 k3 hlt ⊢
        clear hb1
        have ez := eq_z n a 1
        rw [z2] at ez
        have ee := eq_e n a b 1
        rw [q2] at ee
        go_region_held3 (fun w' => w'.cell? ⟨B, 0, none⟩ = some (.bool (inSp n a 1 0)) ∧ w'.cell? ⟨B, 1, none⟩ = some (.bool (inSp n a 1 1)) ∧ w'.cell? ⟨B, 2, none⟩ = some (.bool (inSp n a 1 2)) ∧ w'.cell? ⟨B, 3, none⟩ = some (.bool (inSp n a 1 3))) (go_keep) (first | (go_at_call 22; refine (spanOf_any _ _ _ _).mono ?_; rintro e w2 ⟨rfl, hb2⟩; have hb3 := (Below.refl _ W).drew.trans hb2; have g0 := (hb3.cell hlt).trans k0; have g1 := (hb3.cell hlt).trans k1; have g2 := (hb3.cell hlt).trans k2; have g3 := (hb3.cell hlt).trans k3; rw [spRow_four]))
        replace acc := acc.trans (hb3.mono acc.size)
        clear hb2 hb3 g0 g1 g2 g3
        clear ez ee k0 k1 k2 k3 hlt
        try clear B
        simp only [Exit.then]
        go_at_K
        go_wp2_with fail
        rw [rounds_succ]
        go_wp2
        go_ret
        exact ⟨rfl, acc⟩
end Go.Proofs.Ytpnamoecoihfeaa
