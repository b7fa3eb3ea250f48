/- The specification: shelves. -/
import Derived.Test.YtnmmglkigiakaaaGreatC27
import Derived.Test.YtnmmglkigiakaaaGreatC28
namespace Go.Proofs.YtnmmglkigiakaaaGreat
set_option linter.unusedVariables false
set_option linter.unusedSimpArgs false
open Go.ChangeShapes Go.WideShapes Go.ChangeAt Go.RowKit Go.Shelf Go.Sort
attribute [local go_sem] Oper.semAt_some

def shelfB (u : Wv) (k c : Nat) (s : Sh) : Bool := shelfNB k s && (decide (k = 0) || queueB u.ts (gsD u.gs) c k s (baAt (gsD u.gs) k))
set_option maxRecDepth 100000 in
set_option maxHeartbeats 32000000 in
theorem specShelf_root (c : Nat) (u : Wv) (e : Gv) (s : Sh) (w : World) (hs : SlW w u) (he : u.gs[0]? = some e) (hsh : e.d.sh[c]? = some s) :
    Calls Tryz.prog 66 #[wvV u, .int .i64 ((0 : Nat) : Int), .int .i64 (c : Int)] w fun e' w' => e' = .returned (.bool (shelfB u 0 c s)) ∧ Below w.heap.size w w' := by
  obtain ⟨p1, l1, c1, p2, l2, c2, p3, l3, c3, e1, e2, e3, hv⟩ := wv_form hs
  have HV : Hid (wvV u = .agg #[.int .i64 u.now, .slice p1 l1 c1, .slice p2 l2 c2, .slice p3 l3 c3]) := hv
  rw [hv]
  obtain ⟨W1, hW1⟩ : ∃ W1, w.alloc (.cells #[.int .i64 u.now, .slice p1 l1 c1, .slice p2 l2 c2, .slice p3 l3 c3] 33) = W1 := ⟨_, rfl⟩
  obtain ⟨hA, acc0, hlt⟩ := boxed_w hs e1 e2 e3 hW1
  obtain ⟨o0, o1, o2, o3⟩ := hA.cells
  rw [e1] at o1
  rw [e2] at o2
  rw [e3] at o3
  obtain ⟨gr, go, cap, w3, hr, hk, hl⟩ := hA.cellsG he
  rw [o3] at w3
  simp only [Option.some.injEq, Value.slice.injEq] at w3
  obtain ⟨hp3, hl3, hc3⟩ := w3
  subst hp3 hl3 hc3
  rw [Nat.zero_mul, Nat.add_zero] at hr
  obtain ⟨y0, y1, y2, y3, y4, y5, y6, y7, y8, y9, y10, y11, y12, y13⟩ := gv_cells hr
  have hok0 := hA.2.2.2.2 e (List.mem_of_getElem? he)
  obtain ⟨q1, d1, f1, _⟩ := hok0.1.1.form
  obtain ⟨q2, d2, f2, _⟩ := hok0.1.2.form
  rw [f1] at y11
  rw [f2] at y12
  obtain ⟨zg, zo, zc, hz, hsr⟩ := hA.shelf he hsh
  obtain ⟨x0, x1, x2, x3, x4⟩ := sh_cells hsr
  have hsl : e.d.sh.length ≤ 9223372036854775807 := (SlR.form (hA.sh he)).choose_spec.choose_spec.2
  have hcs : c < e.d.sh.length := (List.getElem?_eq_some_iff.1 hsh).1
  rw [hz] at y13
  obtain ⟨n, hn⟩ : ∃ n, e.d.sh.length = n := ⟨_, rfl⟩
  rw [hn] at y13 hsl hcs
  have lgr := block_lt_of_cell y0
  have lzg := block_lt_of_cell x0
  dsimp only at lgr lzg
  obtain ⟨fl, on, v, wt, sm⟩ := s
  dsimp only at x0 x1 x2 x3 x4
  have HS : Hid (SlW w u) := hs
  have HA : Hid (AtW W1 w.heap.size u) := hA
  have HE : Hid (u.gs[0]? = some e) := he
  obtain ⟨W2, hW2⟩ : ∃ W2, W1.alloc (.cells #[.bool e.d.us, .int .i64 e.d.pa, .string e.d.na, .int .i64 e.d.we, .int .i64 e.d.cp, .int .i64 e.d.pe, .int .i64 e.d.ne, .int .i64 e.d.su, .int .i64 e.d.ba.qu, .int .i64 e.d.ba.po, .int .i64 e.d.ba.sp, .slice q1 e.d.ba.lo.length d1, .slice q2 e.d.ba.dr.length d2, .slice (some ⟨zg, zo, none⟩) n zc] 84) = W2 := ⟨_, rfl⟩
  have B2 : Below W1.heap.size W1 W2 := by rw [← hW2]; exact (Below.refl _ _).alloc (Nat.le_refl _) _
  have gb : W2.heap[W1.heap.size]? = some (.cells #[.bool e.d.us, .int .i64 e.d.pa, .string e.d.na, .int .i64 e.d.we, .int .i64 e.d.cp, .int .i64 e.d.pe, .int .i64 e.d.ne, .int .i64 e.d.su, .int .i64 e.d.ba.qu, .int .i64 e.d.ba.po, .int .i64 e.d.ba.sp, .slice q1 e.d.ba.lo.length d1, .slice q2 e.d.ba.dr.length d2, .slice (some ⟨zg, zo, none⟩) n zc] 84 (0, 0)) := by rw [← hW2]; exact World.alloc_heap_new W1 _
  have lg2 : W1.heap.size < W2.heap.size := by rw [← hW2]; simp
  obtain ⟨_, g1, _, _, _, _, _, _, _, _, _, _, _, g13⟩ := gbox gb
  replace x0 := (B2.cell (p := ⟨zg, zo + c * 5, none⟩) lzg).trans x0
  replace x1 := (B2.cell (p := ⟨zg, zo + c * 5 + 1, none⟩) lzg).trans x1
  replace x2 := (B2.cell (p := ⟨zg, zo + c * 5 + 2, none⟩) lzg).trans x2
  replace x3 := (B2.cell (p := ⟨zg, zo + c * 5 + 3, none⟩) lzg).trans x3
  replace x4 := (B2.cell (p := ⟨zg, zo + c * 5 + 4, none⟩) lzg).trans x4
  obtain ⟨W3, hW3⟩ : ∃ W3, W2.alloc (.cells #[.int .i64 fl, .bool on, .int .i64 v, .int .i64 wt, .int .i64 sm] 121) = W3 := ⟨_, rfl⟩
  have B3 : Below W2.heap.size W2 W3 := by rw [← hW3]; exact (Below.refl _ _).alloc (Nat.le_refl _) _
  have sb : W3.heap[W2.heap.size]? = some (.cells #[.int .i64 fl, .bool on, .int .i64 v, .int .i64 wt, .int .i64 sm] 121 (0, 0)) := by rw [← hW3]; exact World.alloc_heap_new W2 _
  have hsb : W3.rangeAt W2.heap.size 0 [.int .i64 fl, .bool on, .int .i64 v, .int .i64 wt, .int .i64 sm] := range_of_block sb
  have s0 : W3.cell? ⟨W2.heap.size, 0, none⟩ = some (.int .i64 fl) := hsb 0 _ rfl
  have s1 : W3.cell? ⟨W2.heap.size, 1, none⟩ = some (.bool on) := hsb 1 _ rfl
  have s2 : W3.cell? ⟨W2.heap.size, 2, none⟩ = some (.int .i64 v) := hsb 2 _ rfl
  have s3 : W3.cell? ⟨W2.heap.size, 3, none⟩ = some (.int .i64 wt) := hsb 3 _ rfl
  have s4 : W3.cell? ⟨W2.heap.size, 4, none⟩ = some (.int .i64 sm) := hsb 4 _ rfl
  have lw2 : w.heap.size < W2.heap.size := Nat.lt_of_lt_of_le hlt B2.size
  have ls : W2.heap.size < W3.heap.size := block_lt_of_cell s0
  have t0 := (B3.cell (p := ⟨w.heap.size, 0, none⟩) lw2).trans ((B2.cell (p := ⟨w.heap.size, 0, none⟩) hlt).trans o0)
  have t1 := (B3.cell (p := ⟨w.heap.size, 1, none⟩) lw2).trans ((B2.cell (p := ⟨w.heap.size, 1, none⟩) hlt).trans o1)
  have t2 := (B3.cell (p := ⟨w.heap.size, 2, none⟩) lw2).trans ((B2.cell (p := ⟨w.heap.size, 2, none⟩) hlt).trans o2)
  have t3 := (B3.cell (p := ⟨w.heap.size, 3, none⟩) lw2).trans ((B2.cell (p := ⟨w.heap.size, 3, none⟩) hlt).trans o3)
  have r1 := (B3.cell (p := ⟨W1.heap.size, 1, none⟩) lg2).trans g1
  have accA : Below w.heap.size w W2 := acc0.trans (B2.mono acc0.size)
  have acc : Below w.heap.size w W3 := accA.trans (B3.mono accA.size)
  clear hA hs hr e1 e2 e3 hv gb sb hsb hsr hn he hsh
  cases h0 : l1in fl 0 100000000000000000
  · have HR : Hid (shelfB u 0 c ⟨fl, on, v, wt, sm⟩ = false) := by unfold Hid; simp [shelfB, shelfNB, timeB, h0]
    go_enter Tryz.func66, Tryz.ntmps66
    go_wp2_with (first | (go_at_call 101; refine (l4Time_any _ _).mono ?_; rintro e1 w1 ⟨rfl, hw1⟩; subst w1) | (go_at_call 99; refine (l1Weight_any _ _).mono ?_; rintro e1 w1 ⟨rfl, hw1⟩; subst w1))
    go_ret
    refine ⟨?_, acc⟩
    first | exact ret_bool HR.out.symm | (rw [HR.out]; simp [h0]; done) | (rw [HR.out]; simp [h0]; omega)
  · cases h1 : l1in v 0 100000000000000000
    · have HR : Hid (shelfB u 0 c ⟨fl, on, v, wt, sm⟩ = false) := by unfold Hid; simp [shelfB, shelfNB, timeB, h0, h1]
      go_enter Tryz.func66, Tryz.ntmps66
      go_wp2_with (first | (go_at_call 101; refine (l4Time_any _ _).mono ?_; rintro e1 w1 ⟨rfl, hw1⟩; subst w1) | (go_at_call 99; refine (l1Weight_any _ _).mono ?_; rintro e1 w1 ⟨rfl, hw1⟩; subst w1))
      go_ret
      refine ⟨?_, acc⟩
      first | exact ret_bool HR.out.symm | (rw [HR.out]; simp [h0, h1]; done) | (rw [HR.out]; simp [h0, h1]; omega)
    · cases h2 : l1in sm 0 100000000000000000
      · have HR : Hid (shelfB u 0 c ⟨fl, on, v, wt, sm⟩ = false) := by unfold Hid; simp [shelfB, shelfNB, timeB, h0, h1, h2]
        go_enter Tryz.func66, Tryz.ntmps66
        go_wp2_with (first | (go_at_call 101; refine (l4Time_any _ _).mono ?_; rintro e1 w1 ⟨rfl, hw1⟩; subst w1) | (go_at_call 99; refine (l1Weight_any _ _).mono ?_; rintro e1 w1 ⟨rfl, hw1⟩; subst w1))
        go_ret
        refine ⟨?_, acc⟩
        first | exact ret_bool HR.out.symm | (rw [HR.out]; simp [h0, h1, h2]; done) | (rw [HR.out]; simp [h0, h1, h2]; omega)
      · cases h3 : l1in wt 1 20
        · have HR : Hid (shelfB u 0 c ⟨fl, on, v, wt, sm⟩ = false) := by unfold Hid; simp [shelfB, shelfNB, timeB, h0, h1, h2, h3]
          go_enter Tryz.func66, Tryz.ntmps66
          go_wp2_with (first | (go_at_call 101; refine (l4Time_any _ _).mono ?_; rintro e1 w1 ⟨rfl, hw1⟩; subst w1) | (go_at_call 99; refine (l1Weight_any _ _).mono ?_; rintro e1 w1 ⟨rfl, hw1⟩; subst w1))
          go_ret
          refine ⟨?_, acc⟩
          first | exact ret_bool HR.out.symm | (rw [HR.out]; simp [h0, h1, h2, h3]; done) | (rw [HR.out]; simp [h0, h1, h2, h3]; omega)
        · cases on
          · by_cases h5 : v = 0
            · subst h5
              by_cases h6 : wt = 10
              · subst h6
                have HR : Hid (shelfB u 0 c ⟨fl, false, 0, 10, sm⟩ = true) := by unfold Hid; simp [shelfB, shelfNB, timeB, h0, h1, h2, h3]
                go_enter Tryz.func66, Tryz.ntmps66
                go_wp2_with (first | (go_at_call 101; refine (l4Time_any _ _).mono ?_; rintro e1 w1 ⟨rfl, hw1⟩; subst w1) | (go_at_call 99; refine (l1Weight_any _ _).mono ?_; rintro e1 w1 ⟨rfl, hw1⟩; subst w1))
                go_ret
                refine ⟨?_, acc⟩
                first | exact ret_bool HR.out.symm | (rw [HR.out]; simp [h0, h1, h2, h3]; done) | (rw [HR.out]; simp [h0, h1, h2, h3]; omega)
              · have HR : Hid (shelfB u 0 c ⟨fl, false, 0, wt, sm⟩ = false) := by unfold Hid; simp [shelfB, shelfNB, timeB, h0, h1, h2, h3, h6]
                go_enter Tryz.func66, Tryz.ntmps66
                go_wp2_with (first | (go_at_call 101; refine (l4Time_any _ _).mono ?_; rintro e1 w1 ⟨rfl, hw1⟩; subst w1) | (go_at_call 99; refine (l1Weight_any _ _).mono ?_; rintro e1 w1 ⟨rfl, hw1⟩; subst w1))
                go_ret
                refine ⟨?_, acc⟩
                first | exact ret_bool HR.out.symm | (rw [HR.out]; simp [h0, h1, h2, h3, h6]; done) | (rw [HR.out]; simp [h0, h1, h2, h3, h6]; omega)
            · have HR : Hid (shelfB u 0 c ⟨fl, false, v, wt, sm⟩ = false) := by unfold Hid; simp [shelfB, shelfNB, timeB, h0, h1, h2, h3, h5]
              go_enter Tryz.func66, Tryz.ntmps66
              go_wp2_with (first | (go_at_call 101; refine (l4Time_any _ _).mono ?_; rintro e1 w1 ⟨rfl, hw1⟩; subst w1) | (go_at_call 99; refine (l1Weight_any _ _).mono ?_; rintro e1 w1 ⟨rfl, hw1⟩; subst w1))
              go_ret
              refine ⟨?_, acc⟩
              first | exact ret_bool HR.out.symm | (rw [HR.out]; simp [h0, h1, h2, h3, h5]; done) | (rw [HR.out]; simp [h0, h1, h2, h3, h5]; omega)
          · have HR : Hid (shelfB u 0 c ⟨fl, true, v, wt, sm⟩ = false) := by unfold Hid; simp [shelfB, shelfNB, timeB, h0, h1, h2, h3]
            go_enter Tryz.func66, Tryz.ntmps66
            go_wp2_with (first | (go_at_call 101; refine (l4Time_any _ _).mono ?_; rintro e1 w1 ⟨rfl, hw1⟩; subst w1) | (go_at_call 99; refine (l1Weight_any _ _).mono ?_; rintro e1 w1 ⟨rfl, hw1⟩; subst w1))
            go_ret
            refine ⟨?_, acc⟩
            first | exact ret_bool HR.out.symm | (rw [HR.out]; simp [h0, h1, h2, h3]; done) | (rw [HR.out]; simp [h0, h1, h2, h3]; omega)
set_option maxRecDepth 100000 in
set_option maxHeartbeats 32000000 in
theorem specShelf_inner (k c : Nat) (u : Wv) (e : Gv) (s : Sh) (w : World) (hs : SlW w u) (he : u.gs[k]? = some e) (hsh : e.d.sh[c]? = some s) (hk0 : k ≠ 0) (hF : Fit u) (hc : c < u.cs.length) (hu : e.d.us = true) :
    Calls Tryz.prog 66 #[wvV u, .int .i64 ((k : Nat) : Int), .int .i64 (c : Int)] w fun e' w' => e' = .returned (.bool (shelfB u k c s)) ∧ Below w.heap.size w w' := by
  obtain ⟨p1, l1, c1, p2, l2, c2, p3, l3, c3, e1, e2, e3, hv⟩ := wv_form hs
  have HV : Hid (wvV u = .agg #[.int .i64 u.now, .slice p1 l1 c1, .slice p2 l2 c2, .slice p3 l3 c3]) := hv
  rw [hv]
  obtain ⟨W1, hW1⟩ : ∃ W1, w.alloc (.cells #[.int .i64 u.now, .slice p1 l1 c1, .slice p2 l2 c2, .slice p3 l3 c3] 33) = W1 := ⟨_, rfl⟩
  obtain ⟨hA, acc0, hlt⟩ := boxed_w hs e1 e2 e3 hW1
  obtain ⟨o0, o1, o2, o3⟩ := hA.cells
  rw [e1] at o1
  rw [e2] at o2
  rw [e3] at o3
  obtain ⟨gr, go, cap, w3, hr, hk, hl⟩ := hA.cellsG he
  rw [o3] at w3
  simp only [Option.some.injEq, Value.slice.injEq] at w3
  obtain ⟨hp3, hl3, hc3⟩ := w3
  subst hp3 hl3 hc3
  obtain ⟨y0, y1, y2, y3, y4, y5, y6, y7, y8, y9, y10, y11, y12, y13⟩ := gv_cells hr
  have hok0 := hA.2.2.2.2 e (List.mem_of_getElem? he)
  obtain ⟨q1, d1, f1, _⟩ := hok0.1.1.form
  obtain ⟨q2, d2, f2, _⟩ := hok0.1.2.form
  rw [f1] at y11
  rw [f2] at y12
  obtain ⟨zg, zo, zc, hz, hsr⟩ := hA.shelf he hsh
  obtain ⟨x0, x1, x2, x3, x4⟩ := sh_cells hsr
  have hsl : e.d.sh.length ≤ 9223372036854775807 := (SlR.form (hA.sh he)).choose_spec.choose_spec.2
  have hcs : c < e.d.sh.length := (List.getElem?_eq_some_iff.1 hsh).1
  rw [hz] at y13
  obtain ⟨n, hn⟩ : ∃ n, e.d.sh.length = n := ⟨_, rfl⟩
  rw [hn] at y13 hsl hcs
  have lgr := block_lt_of_cell y0
  have lzg := block_lt_of_cell x0
  dsimp only at lgr lzg
  obtain ⟨fl, on, v, wt, sm⟩ := s
  dsimp only at x0 x1 x2 x3 x4
  have HS : Hid (SlW w u) := hs
  have HA : Hid (AtW W1 w.heap.size u) := hA
  have HE : Hid (u.gs[k]? = some e) := he
  obtain ⟨W2, hW2⟩ : ∃ W2, W1.alloc (.cells #[.bool e.d.us, .int .i64 e.d.pa, .string e.d.na, .int .i64 e.d.we, .int .i64 e.d.cp, .int .i64 e.d.pe, .int .i64 e.d.ne, .int .i64 e.d.su, .int .i64 e.d.ba.qu, .int .i64 e.d.ba.po, .int .i64 e.d.ba.sp, .slice q1 e.d.ba.lo.length d1, .slice q2 e.d.ba.dr.length d2, .slice (some ⟨zg, zo, none⟩) n zc] 84) = W2 := ⟨_, rfl⟩
  have B2 : Below W1.heap.size W1 W2 := by rw [← hW2]; exact (Below.refl _ _).alloc (Nat.le_refl _) _
  have gb : W2.heap[W1.heap.size]? = some (.cells #[.bool e.d.us, .int .i64 e.d.pa, .string e.d.na, .int .i64 e.d.we, .int .i64 e.d.cp, .int .i64 e.d.pe, .int .i64 e.d.ne, .int .i64 e.d.su, .int .i64 e.d.ba.qu, .int .i64 e.d.ba.po, .int .i64 e.d.ba.sp, .slice q1 e.d.ba.lo.length d1, .slice q2 e.d.ba.dr.length d2, .slice (some ⟨zg, zo, none⟩) n zc] 84 (0, 0)) := by rw [← hW2]; exact World.alloc_heap_new W1 _
  have lg2 : W1.heap.size < W2.heap.size := by rw [← hW2]; simp
  obtain ⟨_, g1, _, _, _, _, _, _, _, _, _, _, _, g13⟩ := gbox gb
  replace x0 := (B2.cell (p := ⟨zg, zo + c * 5, none⟩) lzg).trans x0
  replace x1 := (B2.cell (p := ⟨zg, zo + c * 5 + 1, none⟩) lzg).trans x1
  replace x2 := (B2.cell (p := ⟨zg, zo + c * 5 + 2, none⟩) lzg).trans x2
  replace x3 := (B2.cell (p := ⟨zg, zo + c * 5 + 3, none⟩) lzg).trans x3
  replace x4 := (B2.cell (p := ⟨zg, zo + c * 5 + 4, none⟩) lzg).trans x4
  obtain ⟨W3, hW3⟩ : ∃ W3, W2.alloc (.cells #[.int .i64 fl, .bool on, .int .i64 v, .int .i64 wt, .int .i64 sm] 121) = W3 := ⟨_, rfl⟩
  have B3 : Below W2.heap.size W2 W3 := by rw [← hW3]; exact (Below.refl _ _).alloc (Nat.le_refl _) _
  have sb : W3.heap[W2.heap.size]? = some (.cells #[.int .i64 fl, .bool on, .int .i64 v, .int .i64 wt, .int .i64 sm] 121 (0, 0)) := by rw [← hW3]; exact World.alloc_heap_new W2 _
  have hsb : W3.rangeAt W2.heap.size 0 [.int .i64 fl, .bool on, .int .i64 v, .int .i64 wt, .int .i64 sm] := range_of_block sb
  have s0 : W3.cell? ⟨W2.heap.size, 0, none⟩ = some (.int .i64 fl) := hsb 0 _ rfl
  have s1 : W3.cell? ⟨W2.heap.size, 1, none⟩ = some (.bool on) := hsb 1 _ rfl
  have s2 : W3.cell? ⟨W2.heap.size, 2, none⟩ = some (.int .i64 v) := hsb 2 _ rfl
  have s3 : W3.cell? ⟨W2.heap.size, 3, none⟩ = some (.int .i64 wt) := hsb 3 _ rfl
  have s4 : W3.cell? ⟨W2.heap.size, 4, none⟩ = some (.int .i64 sm) := hsb 4 _ rfl
  have lw2 : w.heap.size < W2.heap.size := Nat.lt_of_lt_of_le hlt B2.size
  have ls : W2.heap.size < W3.heap.size := block_lt_of_cell s0
  have t0 := (B3.cell (p := ⟨w.heap.size, 0, none⟩) lw2).trans ((B2.cell (p := ⟨w.heap.size, 0, none⟩) hlt).trans o0)
  have t1 := (B3.cell (p := ⟨w.heap.size, 1, none⟩) lw2).trans ((B2.cell (p := ⟨w.heap.size, 1, none⟩) hlt).trans o1)
  have t2 := (B3.cell (p := ⟨w.heap.size, 2, none⟩) lw2).trans ((B2.cell (p := ⟨w.heap.size, 2, none⟩) hlt).trans o2)
  have t3 := (B3.cell (p := ⟨w.heap.size, 3, none⟩) lw2).trans ((B2.cell (p := ⟨w.heap.size, 3, none⟩) hlt).trans o3)
  have r1 := (B3.cell (p := ⟨W1.heap.size, 1, none⟩) lg2).trans g1
  have accA : Below w.heap.size w W2 := acc0.trans (B2.mono acc0.size)
  have acc : Below w.heap.size w W3 := accA.trans (B3.mono accA.size)
  clear hA hs hr e1 e2 e3 hv gb sb hsb hsr hn he hsh
  have hkk : ¬ k = 0 := hk0
  have hk0 : ¬ (k : Int) = 0 := by omega
  have hk8 : k < 8 := by have := hF.g8; omega
  have huk : usAt (gsD u.gs) k = true := by obtain ⟨e', he', q0, _⟩ := gs_get (vs := u.gs) (k := k) (by omega); rw [HE.out] at he'; cases he'; rw [q0]; exact hu
  obtain ⟨ac, hac⟩ : ∃ b, actB u.ts (gsD u.gs) (k : Int) c = b := ⟨_, rfl⟩
  obtain ⟨dr, hdr⟩ : ∃ b, dryB e.d.ba c = b := ⟨_, rfl⟩
  obtain ⟨j, hpj, hj8, huj⟩ : ∃ j : Nat, paAt (gsD u.gs) k = (j : Int) ∧ j < 8 ∧ usAt (gsD u.gs) j = true := by
    rcases tree_step hF.tree hk8 huk with ⟨h0, _⟩ | ⟨_, j, hp, hj, uj, _⟩
    · exact absurd h0 hkk
    · exact ⟨j, hp, hj, uj⟩
  have hpe : e.d.pa = (j : Int) := by obtain ⟨e', he', _, q1, _⟩ := gs_get (vs := u.gs) (k := k) (by omega); rw [HE.out] at he'; cases he'; rw [← q1]; exact hpj
  rw [hpe] at r1 hW2
  obtain ⟨wb, hwb⟩ : ∃ b, withinB v (shAt (gsD u.gs) j c).fl (vstep 149 wt) = b := ⟨_, rfl⟩
  have HQ : Hid (queueB u.ts (gsD u.gs) c k ⟨fl, on, v, wt, sm⟩ (baAt (gsD u.gs) k) = ((on == (ac && !dr)) && (!on || wb))) := by
    unfold Hid queueB; rw [baAt_eq HE.out, hac, hdr, hpj, Int.toNat_natCast]; dsimp only; rw [hwb]
  have HF8 : Hid (u.gs.length = 8) := hF.g8
  have hok := hF.ok hc
  have HD : Hid (0 < e.d.ba.qu → c < e.d.ba.dr.length) := fun h => by rw [hF.dr k e HE.out h]; exact hc
  have cA : ∀ d os, Calls Tryz.prog 105 #[wvV u, .int .i64 (k : Int), .int .i64 (c : Int)] (grow (redrawn W3 d) os) fun e' w'' => e' = .returned (.bool ac) ∧ ∃ p : Regrown, w'' = grow (redrawn W3 p.d) p.os := fun d os => by
    have h0 := l8Active_any (k : Int) c u _ (HS.out.below (acc.trans ((below_regrown W3 d os).mono acc.size))) HF8.out hok
    rw [hac] at h0
    exact Calls.regrown_of h0
  have cD : ∀ d os, Calls Tryz.prog 106 #[wvV u, .int .i64 (k : Int), .int .i64 (c : Int)] (grow (redrawn W3 d) os) fun e' w'' => e' = .returned (.bool dr) ∧ ∃ p : Regrown, w'' = grow (redrawn W3 p.d) p.os := fun d os => by
    have h0 := l8Dry_any k c u e _ (HS.out.below (acc.trans ((below_regrown W3 d os).mono acc.size))) HE.out HD.out
    rw [hdr] at h0
    exact Calls.regrown_of h0
  rw [HV.out] at cA cD
  have HWB : Hid (withinB v (shAt (gsD u.gs) j c).fl (vstep 149 wt) = wb) := hwb
  clear hac hdr hwb hu huk hpj
  cases h0 : l1in fl 0 100000000000000000
  · have HR : Hid (shelfB u k c ⟨fl, on, v, wt, sm⟩ = false) := by unfold Hid; simp [shelfB, shelfNB, timeB, hkk, h0]
    go_enter Tryz.func66, Tryz.ntmps66
    go_wp2_with (first | (go_at_call 101; refine (l4Time_any _ _).mono ?_; rintro e1 w1 ⟨rfl, hw1⟩; subst w1) | (go_at_call 99; refine (l1Weight_any _ _).mono ?_; rintro e1 w1 ⟨rfl, hw1⟩; subst w1))
    go_ret
    refine ⟨?_, acc⟩
    first | exact ret_bool HR.out.symm | (rw [HR.out]; simp [h0]; done) | (rw [HR.out]; simp [h0]; omega)
  · cases h1 : l1in v 0 100000000000000000
    · have HR : Hid (shelfB u k c ⟨fl, on, v, wt, sm⟩ = false) := by unfold Hid; simp [shelfB, shelfNB, timeB, hkk, h0, h1]
      go_enter Tryz.func66, Tryz.ntmps66
      go_wp2_with (first | (go_at_call 101; refine (l4Time_any _ _).mono ?_; rintro e1 w1 ⟨rfl, hw1⟩; subst w1) | (go_at_call 99; refine (l1Weight_any _ _).mono ?_; rintro e1 w1 ⟨rfl, hw1⟩; subst w1))
      go_ret
      refine ⟨?_, acc⟩
      first | exact ret_bool HR.out.symm | (rw [HR.out]; simp [h0, h1]; done) | (rw [HR.out]; simp [h0, h1]; omega)
    · cases h2 : l1in sm 0 100000000000000000
      · have HR : Hid (shelfB u k c ⟨fl, on, v, wt, sm⟩ = false) := by unfold Hid; simp [shelfB, shelfNB, timeB, hkk, h0, h1, h2]
        go_enter Tryz.func66, Tryz.ntmps66
        go_wp2_with (first | (go_at_call 101; refine (l4Time_any _ _).mono ?_; rintro e1 w1 ⟨rfl, hw1⟩; subst w1) | (go_at_call 99; refine (l1Weight_any _ _).mono ?_; rintro e1 w1 ⟨rfl, hw1⟩; subst w1))
        go_ret
        refine ⟨?_, acc⟩
        first | exact ret_bool HR.out.symm | (rw [HR.out]; simp [h0, h1, h2]; done) | (rw [HR.out]; simp [h0, h1, h2]; omega)
      · cases h3 : l1in wt 1 20
        · have HR : Hid (shelfB u k c ⟨fl, on, v, wt, sm⟩ = false) := by unfold Hid; simp [shelfB, shelfNB, timeB, hkk, h0, h1, h2, h3]
          go_enter Tryz.func66, Tryz.ntmps66
          go_wp2_with (first | (go_at_call 101; refine (l4Time_any _ _).mono ?_; rintro e1 w1 ⟨rfl, hw1⟩; subst w1) | (go_at_call 99; refine (l1Weight_any _ _).mono ?_; rintro e1 w1 ⟨rfl, hw1⟩; subst w1))
          go_ret
          refine ⟨?_, acc⟩
          first | exact ret_bool HR.out.symm | (rw [HR.out]; simp [h0, h1, h2, h3]; done) | (rw [HR.out]; simp [h0, h1, h2, h3]; omega)
        · have HR0 : Hid (shelfB u k c ⟨fl, on, v, wt, sm⟩ = ((on == (ac && !dr)) && (!on || wb))) := by unfold Hid; rw [← HQ.out]; unfold shelfB shelfNB timeB; simp [h0, h1, h2, h3, hkk]
          go_enter Tryz.func66, Tryz.ntmps66
          go_wp2_with (first | (go_at_call 101; refine (l4Time_any _ _).mono ?_; rintro e1 w1 ⟨rfl, hw1⟩; subst w1) | (go_at_call 99; refine (l1Weight_any _ _).mono ?_; rintro e1 w1 ⟨rfl, hw1⟩; subst w1))
          cases on
          · cases ac
            · have k0 := cell_regrown s0
              have k1 := cell_regrown s1
              have k2 := cell_regrown s2
              have k3 := cell_regrown s3
              have k4 := cell_regrown s4
              have j0 := cell_regrown t0
              have j1 := cell_regrown t1
              have j2 := cell_regrown t2
              have j3 := cell_regrown t3
              refine wp_region_quiet_below (by kernel_rfl) (by kernel_rfl) ?_
              clear hW1 hW2 hW3
              repeat (go_big_quiet_step (first | exact cA _ _ | exact cD _ _))
              refine wpQuiet_nil ?_
              rintro _ ⟨⟨dq, osq⟩, rfl⟩
              clear cA cD k0 k1 k2 k3 k4 j0 j1 j2 j3
              obtain ⟨V2, hV2⟩ : ∃ V2, grow (redrawn W3 dq) osq = V2 := ⟨_, rfl⟩
              have hb1 : Below W3.heap.size W3 V2 := by rw [← hV2]; exact below_regrown _ _ _
              rw [hV2]
              clear hV2
              replace s1 := (hb1.cell (p := ⟨W2.heap.size, 1, none⟩) ls).trans s1
              replace s2 := (hb1.cell (p := ⟨W2.heap.size, 2, none⟩) ls).trans s2
              replace s3 := (hb1.cell (p := ⟨W2.heap.size, 3, none⟩) ls).trans s3
              replace t3 := (hb1.cell (p := ⟨w.heap.size, 3, none⟩) (Nat.lt_of_lt_of_le lw2 B3.size)).trans t3
              replace r1 := (hb1.cell (p := ⟨W1.heap.size, 1, none⟩) (Nat.lt_of_lt_of_le lg2 B3.size)).trans r1
              have acc2 := acc.trans (hb1.mono acc.size)
              have k1 := cell_regrown s1
              have k2 := cell_regrown s2
              have k3 := cell_regrown s3
              have j3 := cell_regrown t3
              have jr := cell_regrown r1
              go_wp2
              refine wp_region_quiet_below (by kernel_rfl) (by kernel_rfl) ?_
              repeat (go_big_quiet_step (fail))
              refine wpQuiet_nil ?_
              rintro _ ⟨⟨dq2, osq2⟩, rfl⟩
              go_wp2
              go_ret
              exact ⟨by rw [HR0.out]; first | rfl | simp, acc2.trans ((below_regrown V2 dq2 osq2).mono acc2.size)⟩
            · cases dr
              · have k0 := cell_regrown s0
                have k1 := cell_regrown s1
                have k2 := cell_regrown s2
                have k3 := cell_regrown s3
                have k4 := cell_regrown s4
                have j0 := cell_regrown t0
                have j1 := cell_regrown t1
                have j2 := cell_regrown t2
                have j3 := cell_regrown t3
                refine wp_region_quiet_below (by kernel_rfl) (by kernel_rfl) ?_
                clear hW1 hW2 hW3
                repeat (go_big_quiet_step (first | exact cA _ _ | exact cD _ _))
                refine wpQuiet_nil ?_
                rintro _ ⟨⟨dq, osq⟩, rfl⟩
                go_wp2
                go_ret
                exact ⟨by rw [HR0.out]; rfl, acc.trans ((below_regrown W3 dq osq).mono acc.size)⟩
              · have k0 := cell_regrown s0
                have k1 := cell_regrown s1
                have k2 := cell_regrown s2
                have k3 := cell_regrown s3
                have k4 := cell_regrown s4
                have j0 := cell_regrown t0
                have j1 := cell_regrown t1
                have j2 := cell_regrown t2
                have j3 := cell_regrown t3
                refine wp_region_quiet_below (by kernel_rfl) (by kernel_rfl) ?_
                clear hW1 hW2 hW3
                repeat (go_big_quiet_step (first | exact cA _ _ | exact cD _ _))
                refine wpQuiet_nil ?_
                rintro _ ⟨⟨dq, osq⟩, rfl⟩
                clear cA cD k0 k1 k2 k3 k4 j0 j1 j2 j3
                obtain ⟨V2, hV2⟩ : ∃ V2, grow (redrawn W3 dq) osq = V2 := ⟨_, rfl⟩
                have hb1 : Below W3.heap.size W3 V2 := by rw [← hV2]; exact below_regrown _ _ _
                rw [hV2]
                clear hV2
                replace s1 := (hb1.cell (p := ⟨W2.heap.size, 1, none⟩) ls).trans s1
                replace s2 := (hb1.cell (p := ⟨W2.heap.size, 2, none⟩) ls).trans s2
                replace s3 := (hb1.cell (p := ⟨W2.heap.size, 3, none⟩) ls).trans s3
                replace t3 := (hb1.cell (p := ⟨w.heap.size, 3, none⟩) (Nat.lt_of_lt_of_le lw2 B3.size)).trans t3
                replace r1 := (hb1.cell (p := ⟨W1.heap.size, 1, none⟩) (Nat.lt_of_lt_of_le lg2 B3.size)).trans r1
                have acc2 := acc.trans (hb1.mono acc.size)
                have k1 := cell_regrown s1
                have k2 := cell_regrown s2
                have k3 := cell_regrown s3
                have j3 := cell_regrown t3
                have jr := cell_regrown r1
                go_wp2
                refine wp_region_quiet_below (by kernel_rfl) (by kernel_rfl) ?_
                repeat (go_big_quiet_step (fail))
                refine wpQuiet_nil ?_
                rintro _ ⟨⟨dq2, osq2⟩, rfl⟩
                go_wp2
                go_ret
                exact ⟨by rw [HR0.out]; first | rfl | simp, acc2.trans ((below_regrown V2 dq2 osq2).mono acc2.size)⟩
          · cases ac
            · have k0 := cell_regrown s0
              have k1 := cell_regrown s1
              have k2 := cell_regrown s2
              have k3 := cell_regrown s3
              have k4 := cell_regrown s4
              have j0 := cell_regrown t0
              have j1 := cell_regrown t1
              have j2 := cell_regrown t2
              have j3 := cell_regrown t3
              refine wp_region_quiet_below (by kernel_rfl) (by kernel_rfl) ?_
              clear hW1 hW2 hW3
              repeat (go_big_quiet_step (first | exact cA _ _ | exact cD _ _))
              refine wpQuiet_nil ?_
              rintro _ ⟨⟨dq, osq⟩, rfl⟩
              go_wp2
              go_ret
              exact ⟨by rw [HR0.out]; rfl, acc.trans ((below_regrown W3 dq osq).mono acc.size)⟩
            · cases dr
              · have k0 := cell_regrown s0
                have k1 := cell_regrown s1
                have k2 := cell_regrown s2
                have k3 := cell_regrown s3
                have k4 := cell_regrown s4
                have j0 := cell_regrown t0
                have j1 := cell_regrown t1
                have j2 := cell_regrown t2
                have j3 := cell_regrown t3
                refine wp_region_quiet_below (by kernel_rfl) (by kernel_rfl) ?_
                clear hW1 hW2 hW3
                repeat (go_big_quiet_step (first | exact cA _ _ | exact cD _ _))
                refine wpQuiet_nil ?_
                rintro _ ⟨⟨dq, osq⟩, rfl⟩
                clear cA cD k0 k1 k2 k3 k4 j0 j1 j2 j3
                obtain ⟨V2, hV2⟩ : ∃ V2, grow (redrawn W3 dq) osq = V2 := ⟨_, rfl⟩
                have hb1 : Below W3.heap.size W3 V2 := by rw [← hV2]; exact below_regrown _ _ _
                rw [hV2]
                clear hV2
                replace s1 := (hb1.cell (p := ⟨W2.heap.size, 1, none⟩) ls).trans s1
                replace s2 := (hb1.cell (p := ⟨W2.heap.size, 2, none⟩) ls).trans s2
                replace s3 := (hb1.cell (p := ⟨W2.heap.size, 3, none⟩) ls).trans s3
                replace t3 := (hb1.cell (p := ⟨w.heap.size, 3, none⟩) (Nat.lt_of_lt_of_le lw2 B3.size)).trans t3
                replace r1 := (hb1.cell (p := ⟨W1.heap.size, 1, none⟩) (Nat.lt_of_lt_of_le lg2 B3.size)).trans r1
                have acc2 := acc.trans (hb1.mono acc.size)
                have AV : AtW V2 w.heap.size u := ((HA.out.below B2).below B3).below hb1
                obtain ⟨eb, yg, yo, yc, heb, _, hy, hsb2, hrb⟩ := AV.group (k := j) (by rw [HF8.out]; exact hj8) huj hok
                obtain ⟨q0, _⟩ := sh_cells hrb
                obtain ⟨gr2, go2, cap3, w4, hr2, hk2, _⟩ := AV.cellsG heb
                rw [t3] at w4
                simp only [Option.some.injEq, Value.slice.injEq, Addr.mk.injEq, and_true, true_and] at w4
                obtain ⟨⟨rfl, rfl⟩, rfl⟩ := w4
                obtain ⟨_, _, _, _, _, _, _, _, _, _, _, _, _, z13⟩ := gv_cells hr2
                rw [hy] at z13
                have hcs2 : c < eb.d.sh.length := (List.getElem?_eq_some_iff.1 hsb2).1
                have hsl2 : eb.d.sh.length ≤ 9223372036854775807 := (SlR.form (AV.sh heb)).choose_spec.choose_spec.2
                have cS : ∀ d os, Calls Tryz.prog 104 #[.int .i64 v, .int .i64 (shAt (gsD u.gs) j c).fl, .int .i64 wt] (grow (redrawn V2 d) os) fun e' w'' => e' = .returned (.bool wb) ∧ ∃ p : Regrown, w'' = grow (redrawn V2 p.d) p.os := fun d os => by
                  have h0 := l8Stand_any v (shAt (gsD u.gs) j c).fl wt (grow (redrawn V2 d) os)
                  rw [HWB.out] at h0
                  exact Calls.regrown_of (h0.mono fun e' w' h => ⟨h.1, h.2 ▸ Below.refl _ _⟩)
                have ky := cell_regrown z13
                have ks := cell_regrown q0
                clear AV heb hy hsb2 hrb hr2
                have k1 := cell_regrown s1
                have k2 := cell_regrown s2
                have k3 := cell_regrown s3
                have j3 := cell_regrown t3
                have jr := cell_regrown r1
                go_wp2
                refine wp_region_quiet_below (by kernel_rfl) (by kernel_rfl) ?_
                repeat (go_big_quiet_step (exact cS _ _))
                refine wpQuiet_nil ?_
                rintro _ ⟨⟨dq2, osq2⟩, rfl⟩
                go_wp2
                go_ret
                exact ⟨by rw [HR0.out]; first | rfl | simp, acc2.trans ((below_regrown V2 dq2 osq2).mono acc2.size)⟩
              · have k0 := cell_regrown s0
                have k1 := cell_regrown s1
                have k2 := cell_regrown s2
                have k3 := cell_regrown s3
                have k4 := cell_regrown s4
                have j0 := cell_regrown t0
                have j1 := cell_regrown t1
                have j2 := cell_regrown t2
                have j3 := cell_regrown t3
                refine wp_region_quiet_below (by kernel_rfl) (by kernel_rfl) ?_
                clear hW1 hW2 hW3
                repeat (go_big_quiet_step (first | exact cA _ _ | exact cD _ _))
                refine wpQuiet_nil ?_
                rintro _ ⟨⟨dq, osq⟩, rfl⟩
                go_wp2
                go_ret
                exact ⟨by rw [HR0.out]; rfl, acc.trans ((below_regrown W3 dq osq).mono acc.size)⟩
theorem l8ShelfOk_any (k c : Nat) (u : Wv) (e : Gv) (s : Sh) (w : World) (hs : SlW w u) (he : u.gs[k]? = some e) (hsh : e.d.sh[c]? = some s) (hF : Fit u) (hc : c < u.cs.length) (hu : e.d.us = true) :
    Calls Tryz.prog 66 #[wvV u, .int .i64 (k : Int), .int .i64 (c : Int)] w fun e' w' => e' = .returned (.bool (shelfB u k c s)) ∧ Below w.heap.size w w' := by
  by_cases h0 : k = 0
  · subst h0; exact specShelf_root c u e s w hs he hsh
  · exact specShelf_inner k c u e s w hs he hsh h0 hF hc hu
end Go.Proofs.YtnmmglkigiakaaaGreat
