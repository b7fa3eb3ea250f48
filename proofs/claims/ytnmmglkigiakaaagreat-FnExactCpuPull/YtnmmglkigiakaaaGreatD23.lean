/- The specification: shelves. What must hold of a world, as the specification asks it: plain functions, and what the first questions show. The program: whether a world has its places; the list of what must hold. The program: whether a place of groups is nothing; whether a group's numbers and its quota are ok. The program: whether a quota is ok. The program: whether the numbers of a group's shelves are ok. -/
import Derived.Test.YtnmmglkigiakaaaGreatD21
namespace Go.Proofs.YtnmmglkigiakaaaGreat
set_option maxRecDepth 100000
set_option maxHeartbeats 32000000
set_option linter.unusedVariables false
set_option linter.unusedSimpArgs false
open Go.ChangeShapes Go.WideShapes Go.ChangeAt Go.RowKit Go.Shelf Go.Sort
attribute [local go_sem] Oper.semAt_some
def shelfB (u : Wv) (k c : Nat) (s : Sh) : Bool := shelfNB k s && (decide (k = 0) || queueB u.ts (gsD u.gs) c k s (baAt (gsD u.gs) k))
theorem specShelf_root (c : Nat) (u : Wv) (e : Gv) (s : Sh) (w : World) (hs : SlW w u) (he : u.gs[0]? = some e) (hsh : e.d.sh[c]? = some s) :
    Calls Tryz.prog 66 #[wvV u, .int .i64 ((0 : Nat) : Int), .int .i64 (c : Int)] w fun e' w' => e' = .returned (.bool (shelfB u 0 c s)) ∧ Below w.heap.size w w' := by
  obtain ⟨p1, l1, c1, p2, l2, c2, p3, l3, c3, e1, e2, e3, hv⟩ := wv_form hs
  have HV : Hid (wvV u = .agg #[.int .i64 u.now, .slice p1 l1 c1, .slice p2 l2 c2, .slice p3 l3 c3]) := hv
  rw [hv]
  obtain ⟨W1, hW1⟩ : ∃ W1, w.alloc (.cells #[.int .i64 u.now, .slice p1 l1 c1, .slice p2 l2 c2, .slice p3 l3 c3] 33) = W1 := ⟨_, rfl⟩
  obtain ⟨hA, acc0, hlt⟩ := boxed_w hs e1 e2 e3 hW1
  obtain ⟨o0, o1, o2, o3⟩ := hA.cells
  rw [e1] at o1
  rw [e2] at o2
  rw [e3] at o3
  obtain ⟨gr, go, cap, w3, hr, hk, hl⟩ := hA.cellsG he
  rw [o3] at w3
  simp only [Option.some.injEq, Value.slice.injEq] at w3
  obtain ⟨hp3, hl3, hc3⟩ := w3
  subst hp3 hl3 hc3
  rw [Nat.zero_mul, Nat.add_zero] at hr
  obtain ⟨y0, y1, y2, y3, y4, y5, y6, y7, y8, y9, y10, y11, y12, y13⟩ := gv_cells hr
  have hok0 := hA.2.2.2.2 e (List.mem_of_getElem? he)
  obtain ⟨q1, d1, f1, _⟩ := hok0.1.1.form
  obtain ⟨q2, d2, f2, _⟩ := hok0.1.2.form
  rw [f1] at y11
  rw [f2] at y12
  obtain ⟨zg, zo, zc, hz, hsr⟩ := hA.shelf he hsh
  obtain ⟨x0, x1, x2, x3, x4⟩ := sh_cells hsr
  have hsl : e.d.sh.length ≤ 9223372036854775807 := (SlR.form (hA.sh he)).choose_spec.choose_spec.2
  have hcs : c < e.d.sh.length := (List.getElem?_eq_some_iff.1 hsh).1
  rw [hz] at y13
  obtain ⟨n, hn⟩ : ∃ n, e.d.sh.length = n := ⟨_, rfl⟩
  rw [hn] at y13 hsl hcs
  have lgr := block_lt_of_cell y0
  have lzg := block_lt_of_cell x0
  dsimp only at lgr lzg
  obtain ⟨fl, on, v, wt, sm⟩ := s
  dsimp only at x0 x1 x2 x3 x4
  have HS : Hid (SlW w u) := hs
  have HA : Hid (AtW W1 w.heap.size u) := hA
  have HE : Hid (u.gs[0]? = some e) := he
  obtain ⟨W2, hW2⟩ : ∃ W2, W1.alloc (.cells #[.bool e.d.us, .int .i64 e.d.pa, .string e.d.na, .int .i64 e.d.we, .int .i64 e.d.cp, .int .i64 e.d.pe, .int .i64 e.d.ne, .int .i64 e.d.su, .int .i64 e.d.ba.qu, .int .i64 e.d.ba.po, .int .i64 e.d.ba.sp, .slice q1 e.d.ba.lo.length d1, .slice q2 e.d.ba.dr.length d2, .slice (some ⟨zg, zo, none⟩) n zc] 84) = W2 := ⟨_, rfl⟩
  have B2 : Below W1.heap.size W1 W2 := by rw [← hW2]; exact (Below.refl _ _).alloc (Nat.le_refl _) _
  have gb : W2.heap[W1.heap.size]? = some (.cells #[.bool e.d.us, .int .i64 e.d.pa, .string e.d.na, .int .i64 e.d.we, .int .i64 e.d.cp, .int .i64 e.d.pe, .int .i64 e.d.ne, .int .i64 e.d.su, .int .i64 e.d.ba.qu, .int .i64 e.d.ba.po, .int .i64 e.d.ba.sp, .slice q1 e.d.ba.lo.length d1, .slice q2 e.d.ba.dr.length d2, .slice (some ⟨zg, zo, none⟩) n zc] 84 (0, 0)) := by rw [← hW2]; exact World.alloc_heap_new W1 _
  have lg2 : W1.heap.size < W2.heap.size := by rw [← hW2]; simp
  obtain ⟨_, g1, _, _, _, _, _, _, _, _, _, _, _, g13⟩ := gbox gb
  replace x0 := (B2.cell (p := ⟨zg, zo + c * 5, none⟩) lzg).trans x0
  replace x1 := (B2.cell (p := ⟨zg, zo + c * 5 + 1, none⟩) lzg).trans x1
  replace x2 := (B2.cell (p := ⟨zg, zo + c * 5 + 2, none⟩) lzg).trans x2
  replace x3 := (B2.cell (p := ⟨zg, zo + c * 5 + 3, none⟩) lzg).trans x3
  replace x4 := (B2.cell (p := ⟨zg, zo + c * 5 + 4, none⟩) lzg).trans x4
  obtain ⟨W3, hW3⟩ : ∃ W3, W2.alloc (.cells #[.int .i64 fl, .bool on, .int .i64 v, .int .i64 wt, .int .i64 sm] 121) = W3 := ⟨_, rfl⟩
  have B3 : Below W2.heap.size W2 W3 := by rw [← hW3]; exact (Below.refl _ _).alloc (Nat.le_refl _) _
  have sb : W3.heap[W2.heap.size]? = some (.cells #[.int .i64 fl, .bool on, .int .i64 v, .int .i64 wt, .int .i64 sm] 121 (0, 0)) := by rw [← hW3]; exact World.alloc_heap_new W2 _
  have hsb : W3.rangeAt W2.heap.size 0 [.int .i64 fl, .bool on, .int .i64 v, .int .i64 wt, .int .i64 sm] := range_of_block sb
  have s0 : W3.cell? ⟨W2.heap.size, 0, none⟩ = some (.int .i64 fl) := hsb 0 _ rfl
  have s1 : W3.cell? ⟨W2.heap.size, 1, none⟩ = some (.bool on) := hsb 1 _ rfl
  have s2 : W3.cell? ⟨W2.heap.size, 2, none⟩ = some (.int .i64 v) := hsb 2 _ rfl
  have s3 : W3.cell? ⟨W2.heap.size, 3, none⟩ = some (.int .i64 wt) := hsb 3 _ rfl
  have s4 : W3.cell? ⟨W2.heap.size, 4, none⟩ = some (.int .i64 sm) := hsb 4 _ rfl
  have lw2 : w.heap.size < W2.heap.size := Nat.lt_of_lt_of_le hlt B2.size
  have ls : W2.heap.size < W3.heap.size := block_lt_of_cell s0
  have t0 := (B3.cell (p := ⟨w.heap.size, 0, none⟩) lw2).trans ((B2.cell (p := ⟨w.heap.size, 0, none⟩) hlt).trans o0)
  have t1 := (B3.cell (p := ⟨w.heap.size, 1, none⟩) lw2).trans ((B2.cell (p := ⟨w.heap.size, 1, none⟩) hlt).trans o1)
  have t2 := (B3.cell (p := ⟨w.heap.size, 2, none⟩) lw2).trans ((B2.cell (p := ⟨w.heap.size, 2, none⟩) hlt).trans o2)
  have t3 := (B3.cell (p := ⟨w.heap.size, 3, none⟩) lw2).trans ((B2.cell (p := ⟨w.heap.size, 3, none⟩) hlt).trans o3)
  have r1 := (B3.cell (p := ⟨W1.heap.size, 1, none⟩) lg2).trans g1
  have accA : Below w.heap.size w W2 := acc0.trans (B2.mono acc0.size)
  have acc : Below w.heap.size w W3 := accA.trans (B3.mono accA.size)
  clear hA hs hr e1 e2 e3 hv gb sb hsb hsr hn he hsh
  cases h0 : l1in fl 0 100000000000000000
  · have HR : Hid (shelfB u 0 c ⟨fl, on, v, wt, sm⟩ = false) := by unfold Hid; simp [shelfB, shelfNB, timeB, h0]
    go_enter Tryz.func66, Tryz.ntmps66
    go_wp2_with (first | (go_at_call 101; refine (l4Time_any _ _).mono ?_; rintro e1 w1 ⟨rfl, hw1⟩; subst w1) | (go_at_call 99; refine (l1Weight_any _ _).mono ?_; rintro e1 w1 ⟨rfl, hw1⟩; subst w1))
    go_ret
    refine ⟨?_, acc⟩
    first | exact ret_bool HR.out.symm | (rw [HR.out]; simp [h0]; done) | (rw [HR.out]; simp [h0]; omega)
  · cases h1 : l1in v 0 100000000000000000
    · have HR : Hid (shelfB u 0 c ⟨fl, on, v, wt, sm⟩ = false) := by unfold Hid; simp [shelfB, shelfNB, timeB, h0, h1]
      go_enter Tryz.func66, Tryz.ntmps66
      go_wp2_with (first | (go_at_call 101; refine (l4Time_any _ _).mono ?_; rintro e1 w1 ⟨rfl, hw1⟩; subst w1) | (go_at_call 99; refine (l1Weight_any _ _).mono ?_; rintro e1 w1 ⟨rfl, hw1⟩; subst w1))
      go_ret
      refine ⟨?_, acc⟩
      first | exact ret_bool HR.out.symm | (rw [HR.out]; simp [h0, h1]; done) | (rw [HR.out]; simp [h0, h1]; omega)
    · cases h2 : l1in sm 0 100000000000000000
      · have HR : Hid (shelfB u 0 c ⟨fl, on, v, wt, sm⟩ = false) := by unfold Hid; simp [shelfB, shelfNB, timeB, h0, h1, h2]
        go_enter Tryz.func66, Tryz.ntmps66
        go_wp2_with (first | (go_at_call 101; refine (l4Time_any _ _).mono ?_; rintro e1 w1 ⟨rfl, hw1⟩; subst w1) | (go_at_call 99; refine (l1Weight_any _ _).mono ?_; rintro e1 w1 ⟨rfl, hw1⟩; subst w1))
        go_ret
        refine ⟨?_, acc⟩
        first | exact ret_bool HR.out.symm | (rw [HR.out]; simp [h0, h1, h2]; done) | (rw [HR.out]; simp [h0, h1, h2]; omega)
      · cases h3 : l1in wt 1 20
        · have HR : Hid (shelfB u 0 c ⟨fl, on, v, wt, sm⟩ = false) := by unfold Hid; simp [shelfB, shelfNB, timeB, h0, h1, h2, h3]
          go_enter Tryz.func66, Tryz.ntmps66
          go_wp2_with (first | (go_at_call 101; refine (l4Time_any _ _).mono ?_; rintro e1 w1 ⟨rfl, hw1⟩; subst w1) | (go_at_call 99; refine (l1Weight_any _ _).mono ?_; rintro e1 w1 ⟨rfl, hw1⟩; subst w1))
          go_ret
          refine ⟨?_, acc⟩
          first | exact ret_bool HR.out.symm | (rw [HR.out]; simp [h0, h1, h2, h3]; done) | (rw [HR.out]; simp [h0, h1, h2, h3]; omega)
        · cases on
          · by_cases h5 : v = 0
            · subst h5
              by_cases h6 : wt = 10
              · subst h6
                have HR : Hid (shelfB u 0 c ⟨fl, false, 0, 10, sm⟩ = true) := by unfold Hid; simp [shelfB, shelfNB, timeB, h0, h1, h2, h3]
                go_enter Tryz.func66, Tryz.ntmps66
                go_wp2_with (first | (go_at_call 101; refine (l4Time_any _ _).mono ?_; rintro e1 w1 ⟨rfl, hw1⟩; subst w1) | (go_at_call 99; refine (l1Weight_any _ _).mono ?_; rintro e1 w1 ⟨rfl, hw1⟩; subst w1))
                go_ret
                refine ⟨?_, acc⟩
                first | exact ret_bool HR.out.symm | (rw [HR.out]; simp [h0, h1, h2, h3]; done) | (rw [HR.out]; simp [h0, h1, h2, h3]; omega)
              · have HR : Hid (shelfB u 0 c ⟨fl, false, 0, wt, sm⟩ = false) := by unfold Hid; simp [shelfB, shelfNB, timeB, h0, h1, h2, h3, h6]
                go_enter Tryz.func66, Tryz.ntmps66
                go_wp2_with (first | (go_at_call 101; refine (l4Time_any _ _).mono ?_; rintro e1 w1 ⟨rfl, hw1⟩; subst w1) | (go_at_call 99; refine (l1Weight_any _ _).mono ?_; rintro e1 w1 ⟨rfl, hw1⟩; subst w1))
                go_ret
                refine ⟨?_, acc⟩
                first | exact ret_bool HR.out.symm | (rw [HR.out]; simp [h0, h1, h2, h3, h6]; done) | (rw [HR.out]; simp [h0, h1, h2, h3, h6]; omega)
            · have HR : Hid (shelfB u 0 c ⟨fl, false, v, wt, sm⟩ = false) := by unfold Hid; simp [shelfB, shelfNB, timeB, h0, h1, h2, h3, h5]
              go_enter Tryz.func66, Tryz.ntmps66
              go_wp2_with (first | (go_at_call 101; refine (l4Time_any _ _).mono ?_; rintro e1 w1 ⟨rfl, hw1⟩; subst w1) | (go_at_call 99; refine (l1Weight_any _ _).mono ?_; rintro e1 w1 ⟨rfl, hw1⟩; subst w1))
              go_ret
              refine ⟨?_, acc⟩
              first | exact ret_bool HR.out.symm | (rw [HR.out]; simp [h0, h1, h2, h3, h5]; done) | (rw [HR.out]; simp [h0, h1, h2, h3, h5]; omega)
          · have HR : Hid (shelfB u 0 c ⟨fl, true, v, wt, sm⟩ = false) := by unfold Hid; simp [shelfB, shelfNB, timeB, h0, h1, h2, h3]
            go_enter Tryz.func66, Tryz.ntmps66
            go_wp2_with (first | (go_at_call 101; refine (l4Time_any _ _).mono ?_; rintro e1 w1 ⟨rfl, hw1⟩; subst w1) | (go_at_call 99; refine (l1Weight_any _ _).mono ?_; rintro e1 w1 ⟨rfl, hw1⟩; subst w1))
            go_ret
            refine ⟨?_, acc⟩
            first | exact ret_bool HR.out.symm | (rw [HR.out]; simp [h0, h1, h2, h3]; done) | (rw [HR.out]; simp [h0, h1, h2, h3]; omega)
theorem specShelf_inner (k c : Nat) (u : Wv) (e : Gv) (s : Sh) (w : World) (hs : SlW w u) (he : u.gs[k]? = some e) (hsh : e.d.sh[c]? = some s) (hk0 : k ≠ 0) (hF : Fit u) (hc : c < u.cs.length) (hu : e.d.us = true) :
    Calls Tryz.prog 66 #[wvV u, .int .i64 ((k : Nat) : Int), .int .i64 (c : Int)] w fun e' w' => e' = .returned (.bool (shelfB u k c s)) ∧ Below w.heap.size w w' := by
  obtain ⟨p1, l1, c1, p2, l2, c2, p3, l3, c3, e1, e2, e3, hv⟩ := wv_form hs
  have HV : Hid (wvV u = .agg #[.int .i64 u.now, .slice p1 l1 c1, .slice p2 l2 c2, .slice p3 l3 c3]) := hv
  rw [hv]
  obtain ⟨W1, hW1⟩ : ∃ W1, w.alloc (.cells #[.int .i64 u.now, .slice p1 l1 c1, .slice p2 l2 c2, .slice p3 l3 c3] 33) = W1 := ⟨_, rfl⟩
  obtain ⟨hA, acc0, hlt⟩ := boxed_w hs e1 e2 e3 hW1
  obtain ⟨o0, o1, o2, o3⟩ := hA.cells
  rw [e1] at o1
  rw [e2] at o2
  rw [e3] at o3
  obtain ⟨gr, go, cap, w3, hr, hk, hl⟩ := hA.cellsG he
  rw [o3] at w3
  simp only [Option.some.injEq, Value.slice.injEq] at w3
  obtain ⟨hp3, hl3, hc3⟩ := w3
  subst hp3 hl3 hc3
  obtain ⟨y0, y1, y2, y3, y4, y5, y6, y7, y8, y9, y10, y11, y12, y13⟩ := gv_cells hr
  have hok0 := hA.2.2.2.2 e (List.mem_of_getElem? he)
  obtain ⟨q1, d1, f1, _⟩ := hok0.1.1.form
  obtain ⟨q2, d2, f2, _⟩ := hok0.1.2.form
  rw [f1] at y11
  rw [f2] at y12
  obtain ⟨zg, zo, zc, hz, hsr⟩ := hA.shelf he hsh
  obtain ⟨x0, x1, x2, x3, x4⟩ := sh_cells hsr
  have hsl : e.d.sh.length ≤ 9223372036854775807 := (SlR.form (hA.sh he)).choose_spec.choose_spec.2
  have hcs : c < e.d.sh.length := (List.getElem?_eq_some_iff.1 hsh).1
  rw [hz] at y13
  obtain ⟨n, hn⟩ : ∃ n, e.d.sh.length = n := ⟨_, rfl⟩
  rw [hn] at y13 hsl hcs
  have lgr := block_lt_of_cell y0
  have lzg := block_lt_of_cell x0
  dsimp only at lgr lzg
  obtain ⟨fl, on, v, wt, sm⟩ := s
  dsimp only at x0 x1 x2 x3 x4
  have HS : Hid (SlW w u) := hs
  have HA : Hid (AtW W1 w.heap.size u) := hA
  have HE : Hid (u.gs[k]? = some e) := he
  obtain ⟨W2, hW2⟩ : ∃ W2, W1.alloc (.cells #[.bool e.d.us, .int .i64 e.d.pa, .string e.d.na, .int .i64 e.d.we, .int .i64 e.d.cp, .int .i64 e.d.pe, .int .i64 e.d.ne, .int .i64 e.d.su, .int .i64 e.d.ba.qu, .int .i64 e.d.ba.po, .int .i64 e.d.ba.sp, .slice q1 e.d.ba.lo.length d1, .slice q2 e.d.ba.dr.length d2, .slice (some ⟨zg, zo, none⟩) n zc] 84) = W2 := ⟨_, rfl⟩
  have B2 : Below W1.heap.size W1 W2 := by rw [← hW2]; exact (Below.refl _ _).alloc (Nat.le_refl _) _
  have gb : W2.heap[W1.heap.size]? = some (.cells #[.bool e.d.us, .int .i64 e.d.pa, .string e.d.na, .int .i64 e.d.we, .int .i64 e.d.cp, .int .i64 e.d.pe, .int .i64 e.d.ne, .int .i64 e.d.su, .int .i64 e.d.ba.qu, .int .i64 e.d.ba.po, .int .i64 e.d.ba.sp, .slice q1 e.d.ba.lo.length d1, .slice q2 e.d.ba.dr.length d2, .slice (some ⟨zg, zo, none⟩) n zc] 84 (0, 0)) := by rw [← hW2]; exact World.alloc_heap_new W1 _
  have lg2 : W1.heap.size < W2.heap.size := by rw [← hW2]; simp
  obtain ⟨_, g1, _, _, _, _, _, _, _, _, _, _, _, g13⟩ := gbox gb
  replace x0 := (B2.cell (p := ⟨zg, zo + c * 5, none⟩) lzg).trans x0
  replace x1 := (B2.cell (p := ⟨zg, zo + c * 5 + 1, none⟩) lzg).trans x1
  replace x2 := (B2.cell (p := ⟨zg, zo + c * 5 + 2, none⟩) lzg).trans x2
  replace x3 := (B2.cell (p := ⟨zg, zo + c * 5 + 3, none⟩) lzg).trans x3
  replace x4 := (B2.cell (p := ⟨zg, zo + c * 5 + 4, none⟩) lzg).trans x4
  obtain ⟨W3, hW3⟩ : ∃ W3, W2.alloc (.cells #[.int .i64 fl, .bool on, .int .i64 v, .int .i64 wt, .int .i64 sm] 121) = W3 := ⟨_, rfl⟩
  have B3 : Below W2.heap.size W2 W3 := by rw [← hW3]; exact (Below.refl _ _).alloc (Nat.le_refl _) _
  have sb : W3.heap[W2.heap.size]? = some (.cells #[.int .i64 fl, .bool on, .int .i64 v, .int .i64 wt, .int .i64 sm] 121 (0, 0)) := by rw [← hW3]; exact World.alloc_heap_new W2 _
  have hsb : W3.rangeAt W2.heap.size 0 [.int .i64 fl, .bool on, .int .i64 v, .int .i64 wt, .int .i64 sm] := range_of_block sb
  have s0 : W3.cell? ⟨W2.heap.size, 0, none⟩ = some (.int .i64 fl) := hsb 0 _ rfl
  have s1 : W3.cell? ⟨W2.heap.size, 1, none⟩ = some (.bool on) := hsb 1 _ rfl
  have s2 : W3.cell? ⟨W2.heap.size, 2, none⟩ = some (.int .i64 v) := hsb 2 _ rfl
  have s3 : W3.cell? ⟨W2.heap.size, 3, none⟩ = some (.int .i64 wt) := hsb 3 _ rfl
  have s4 : W3.cell? ⟨W2.heap.size, 4, none⟩ = some (.int .i64 sm) := hsb 4 _ rfl
  have lw2 : w.heap.size < W2.heap.size := Nat.lt_of_lt_of_le hlt B2.size
  have ls : W2.heap.size < W3.heap.size := block_lt_of_cell s0
  have t0 := (B3.cell (p := ⟨w.heap.size, 0, none⟩) lw2).trans ((B2.cell (p := ⟨w.heap.size, 0, none⟩) hlt).trans o0)
  have t1 := (B3.cell (p := ⟨w.heap.size, 1, none⟩) lw2).trans ((B2.cell (p := ⟨w.heap.size, 1, none⟩) hlt).trans o1)
  have t2 := (B3.cell (p := ⟨w.heap.size, 2, none⟩) lw2).trans ((B2.cell (p := ⟨w.heap.size, 2, none⟩) hlt).trans o2)
  have t3 := (B3.cell (p := ⟨w.heap.size, 3, none⟩) lw2).trans ((B2.cell (p := ⟨w.heap.size, 3, none⟩) hlt).trans o3)
  have r1 := (B3.cell (p := ⟨W1.heap.size, 1, none⟩) lg2).trans g1
  have accA : Below w.heap.size w W2 := acc0.trans (B2.mono acc0.size)
  have acc : Below w.heap.size w W3 := accA.trans (B3.mono accA.size)
  clear hA hs hr e1 e2 e3 hv gb sb hsb hsr hn he hsh
  have hkk : ¬ k = 0 := hk0
  have hk0 : ¬ (k : Int) = 0 := by omega
  have hk8 : k < 8 := by have := hF.g8; omega
  have huk : usAt (gsD u.gs) k = true := by obtain ⟨e', he', q0, _⟩ := gs_get (vs := u.gs) (k := k) (by omega); rw [HE.out] at he'; cases he'; rw [q0]; exact hu
  obtain ⟨ac, hac⟩ : ∃ b, actB u.ts (gsD u.gs) (k : Int) c = b := ⟨_, rfl⟩
  obtain ⟨dr, hdr⟩ : ∃ b, dryB e.d.ba c = b := ⟨_, rfl⟩
  obtain ⟨j, hpj, hj8, huj⟩ : ∃ j : Nat, paAt (gsD u.gs) k = (j : Int) ∧ j < 8 ∧ usAt (gsD u.gs) j = true := by
    rcases tree_step hF.tree hk8 huk with ⟨h0, _⟩ | ⟨_, j, hp, hj, uj, _⟩
    · exact absurd h0 hkk
    · exact ⟨j, hp, hj, uj⟩
  have hpe : e.d.pa = (j : Int) := by obtain ⟨e', he', _, q1, _⟩ := gs_get (vs := u.gs) (k := k) (by omega); rw [HE.out] at he'; cases he'; rw [← q1]; exact hpj
  rw [hpe] at r1 hW2
  obtain ⟨wb, hwb⟩ : ∃ b, withinB v (shAt (gsD u.gs) j c).fl (vstep 149 wt) = b := ⟨_, rfl⟩
  have HQ : Hid (queueB u.ts (gsD u.gs) c k ⟨fl, on, v, wt, sm⟩ (baAt (gsD u.gs) k) = ((on == (ac && !dr)) && (!on || wb))) := by
    unfold Hid queueB; rw [baAt_eq HE.out, hac, hdr, hpj, Int.toNat_natCast]; dsimp only; rw [hwb]
  have HF8 : Hid (u.gs.length = 8) := hF.g8
  have hok := hF.ok hc
  have HD : Hid (0 < e.d.ba.qu → c < e.d.ba.dr.length) := fun h => by rw [hF.dr k e HE.out h]; exact hc
  have cA : ∀ d os, Calls Tryz.prog 105 #[wvV u, .int .i64 (k : Int), .int .i64 (c : Int)] (grow (redrawn W3 d) os) fun e' w'' => e' = .returned (.bool ac) ∧ ∃ p : Regrown, w'' = grow (redrawn W3 p.d) p.os := fun d os => by
    have h0 := l8Active_any (k : Int) c u _ (HS.out.below (acc.trans ((below_regrown W3 d os).mono acc.size))) HF8.out hok
    rw [hac] at h0
    exact Calls.regrown_of h0
  have cD : ∀ d os, Calls Tryz.prog 106 #[wvV u, .int .i64 (k : Int), .int .i64 (c : Int)] (grow (redrawn W3 d) os) fun e' w'' => e' = .returned (.bool dr) ∧ ∃ p : Regrown, w'' = grow (redrawn W3 p.d) p.os := fun d os => by
    have h0 := l8Dry_any k c u e _ (HS.out.below (acc.trans ((below_regrown W3 d os).mono acc.size))) HE.out HD.out
    rw [hdr] at h0
    exact Calls.regrown_of h0
  rw [HV.out] at cA cD
  have HWB : Hid (withinB v (shAt (gsD u.gs) j c).fl (vstep 149 wt) = wb) := hwb
  clear hac hdr hwb hu huk hpj
  cases h0 : l1in fl 0 100000000000000000
  · have HR : Hid (shelfB u k c ⟨fl, on, v, wt, sm⟩ = false) := by unfold Hid; simp [shelfB, shelfNB, timeB, hkk, h0]
    go_enter Tryz.func66, Tryz.ntmps66
    go_wp2_with (first | (go_at_call 101; refine (l4Time_any _ _).mono ?_; rintro e1 w1 ⟨rfl, hw1⟩; subst w1) | (go_at_call 99; refine (l1Weight_any _ _).mono ?_; rintro e1 w1 ⟨rfl, hw1⟩; subst w1))
    go_ret
    refine ⟨?_, acc⟩
    first | exact ret_bool HR.out.symm | (rw [HR.out]; simp [h0]; done) | (rw [HR.out]; simp [h0]; omega)
  · cases h1 : l1in v 0 100000000000000000
    · have HR : Hid (shelfB u k c ⟨fl, on, v, wt, sm⟩ = false) := by unfold Hid; simp [shelfB, shelfNB, timeB, hkk, h0, h1]
      go_enter Tryz.func66, Tryz.ntmps66
      go_wp2_with (first | (go_at_call 101; refine (l4Time_any _ _).mono ?_; rintro e1 w1 ⟨rfl, hw1⟩; subst w1) | (go_at_call 99; refine (l1Weight_any _ _).mono ?_; rintro e1 w1 ⟨rfl, hw1⟩; subst w1))
      go_ret
      refine ⟨?_, acc⟩
      first | exact ret_bool HR.out.symm | (rw [HR.out]; simp [h0, h1]; done) | (rw [HR.out]; simp [h0, h1]; omega)
    · cases h2 : l1in sm 0 100000000000000000
      · have HR : Hid (shelfB u k c ⟨fl, on, v, wt, sm⟩ = false) := by unfold Hid; simp [shelfB, shelfNB, timeB, hkk, h0, h1, h2]
        go_enter Tryz.func66, Tryz.ntmps66
        go_wp2_with (first | (go_at_call 101; refine (l4Time_any _ _).mono ?_; rintro e1 w1 ⟨rfl, hw1⟩; subst w1) | (go_at_call 99; refine (l1Weight_any _ _).mono ?_; rintro e1 w1 ⟨rfl, hw1⟩; subst w1))
        go_ret
        refine ⟨?_, acc⟩
        first | exact ret_bool HR.out.symm | (rw [HR.out]; simp [h0, h1, h2]; done) | (rw [HR.out]; simp [h0, h1, h2]; omega)
      · cases h3 : l1in wt 1 20
        · have HR : Hid (shelfB u k c ⟨fl, on, v, wt, sm⟩ = false) := by unfold Hid; simp [shelfB, shelfNB, timeB, hkk, h0, h1, h2, h3]
          go_enter Tryz.func66, Tryz.ntmps66
          go_wp2_with (first | (go_at_call 101; refine (l4Time_any _ _).mono ?_; rintro e1 w1 ⟨rfl, hw1⟩; subst w1) | (go_at_call 99; refine (l1Weight_any _ _).mono ?_; rintro e1 w1 ⟨rfl, hw1⟩; subst w1))
          go_ret
          refine ⟨?_, acc⟩
          first | exact ret_bool HR.out.symm | (rw [HR.out]; simp [h0, h1, h2, h3]; done) | (rw [HR.out]; simp [h0, h1, h2, h3]; omega)
        · have HR0 : Hid (shelfB u k c ⟨fl, on, v, wt, sm⟩ = ((on == (ac && !dr)) && (!on || wb))) := by unfold Hid; rw [← HQ.out]; unfold shelfB shelfNB timeB; simp [h0, h1, h2, h3, hkk]
          go_enter Tryz.func66, Tryz.ntmps66
          go_wp2_with (first | (go_at_call 101; refine (l4Time_any _ _).mono ?_; rintro e1 w1 ⟨rfl, hw1⟩; subst w1) | (go_at_call 99; refine (l1Weight_any _ _).mono ?_; rintro e1 w1 ⟨rfl, hw1⟩; subst w1))
          cases on
          · cases ac
            · have k0 := cell_regrown s0
              have k1 := cell_regrown s1
              have k2 := cell_regrown s2
              have k3 := cell_regrown s3
              have k4 := cell_regrown s4
              have j0 := cell_regrown t0
              have j1 := cell_regrown t1
              have j2 := cell_regrown t2
              have j3 := cell_regrown t3
              refine wp_region_quiet_below (by kernel_rfl) (by kernel_rfl) ?_
              clear hW1 hW2 hW3
              repeat (go_big_quiet_step (first | exact cA _ _ | exact cD _ _))
              refine wpQuiet_nil ?_
              rintro _ ⟨⟨dq, osq⟩, rfl⟩
              clear cA cD k0 k1 k2 k3 k4 j0 j1 j2 j3
              obtain ⟨V2, hV2⟩ : ∃ V2, grow (redrawn W3 dq) osq = V2 := ⟨_, rfl⟩
              have hb1 : Below W3.heap.size W3 V2 := by rw [← hV2]; exact below_regrown _ _ _
              rw [hV2]
              clear hV2
              replace s1 := (hb1.cell (p := ⟨W2.heap.size, 1, none⟩) ls).trans s1
              replace s2 := (hb1.cell (p := ⟨W2.heap.size, 2, none⟩) ls).trans s2
              replace s3 := (hb1.cell (p := ⟨W2.heap.size, 3, none⟩) ls).trans s3
              replace t3 := (hb1.cell (p := ⟨w.heap.size, 3, none⟩) (Nat.lt_of_lt_of_le lw2 B3.size)).trans t3
              replace r1 := (hb1.cell (p := ⟨W1.heap.size, 1, none⟩) (Nat.lt_of_lt_of_le lg2 B3.size)).trans r1
              have acc2 := acc.trans (hb1.mono acc.size)
              have k1 := cell_regrown s1
              have k2 := cell_regrown s2
              have k3 := cell_regrown s3
              have j3 := cell_regrown t3
              have jr := cell_regrown r1
              go_wp2
              refine wp_region_quiet_below (by kernel_rfl) (by kernel_rfl) ?_
              repeat (go_big_quiet_step (fail))
              refine wpQuiet_nil ?_
              rintro _ ⟨⟨dq2, osq2⟩, rfl⟩
              go_wp2
              go_ret
              exact ⟨by rw [HR0.out]; first | rfl | simp, acc2.trans ((below_regrown V2 dq2 osq2).mono acc2.size)⟩
            · cases dr
              · have k0 := cell_regrown s0
                have k1 := cell_regrown s1
                have k2 := cell_regrown s2
                have k3 := cell_regrown s3
                have k4 := cell_regrown s4
                have j0 := cell_regrown t0
                have j1 := cell_regrown t1
                have j2 := cell_regrown t2
                have j3 := cell_regrown t3
                refine wp_region_quiet_below (by kernel_rfl) (by kernel_rfl) ?_
                clear hW1 hW2 hW3
                repeat (go_big_quiet_step (first | exact cA _ _ | exact cD _ _))
                refine wpQuiet_nil ?_
                rintro _ ⟨⟨dq, osq⟩, rfl⟩
                go_wp2
                go_ret
                exact ⟨by rw [HR0.out]; rfl, acc.trans ((below_regrown W3 dq osq).mono acc.size)⟩
              · have k0 := cell_regrown s0
                have k1 := cell_regrown s1
                have k2 := cell_regrown s2
                have k3 := cell_regrown s3
                have k4 := cell_regrown s4
                have j0 := cell_regrown t0
                have j1 := cell_regrown t1
                have j2 := cell_regrown t2
                have j3 := cell_regrown t3
                refine wp_region_quiet_below (by kernel_rfl) (by kernel_rfl) ?_
                clear hW1 hW2 hW3
                repeat (go_big_quiet_step (first | exact cA _ _ | exact cD _ _))
                refine wpQuiet_nil ?_
                rintro _ ⟨⟨dq, osq⟩, rfl⟩
                clear cA cD k0 k1 k2 k3 k4 j0 j1 j2 j3
                obtain ⟨V2, hV2⟩ : ∃ V2, grow (redrawn W3 dq) osq = V2 := ⟨_, rfl⟩
                have hb1 : Below W3.heap.size W3 V2 := by rw [← hV2]; exact below_regrown _ _ _
                rw [hV2]
                clear hV2
                replace s1 := (hb1.cell (p := ⟨W2.heap.size, 1, none⟩) ls).trans s1
                replace s2 := (hb1.cell (p := ⟨W2.heap.size, 2, none⟩) ls).trans s2
                replace s3 := (hb1.cell (p := ⟨W2.heap.size, 3, none⟩) ls).trans s3
                replace t3 := (hb1.cell (p := ⟨w.heap.size, 3, none⟩) (Nat.lt_of_lt_of_le lw2 B3.size)).trans t3
                replace r1 := (hb1.cell (p := ⟨W1.heap.size, 1, none⟩) (Nat.lt_of_lt_of_le lg2 B3.size)).trans r1
                have acc2 := acc.trans (hb1.mono acc.size)
                have k1 := cell_regrown s1
                have k2 := cell_regrown s2
                have k3 := cell_regrown s3
                have j3 := cell_regrown t3
                have jr := cell_regrown r1
                go_wp2
                refine wp_region_quiet_below (by kernel_rfl) (by kernel_rfl) ?_
                repeat (go_big_quiet_step (fail))
                refine wpQuiet_nil ?_
                rintro _ ⟨⟨dq2, osq2⟩, rfl⟩
                go_wp2
                go_ret
                exact ⟨by rw [HR0.out]; first | rfl | simp, acc2.trans ((below_regrown V2 dq2 osq2).mono acc2.size)⟩
          · cases ac
            · have k0 := cell_regrown s0
              have k1 := cell_regrown s1
              have k2 := cell_regrown s2
              have k3 := cell_regrown s3
              have k4 := cell_regrown s4
              have j0 := cell_regrown t0
              have j1 := cell_regrown t1
              have j2 := cell_regrown t2
              have j3 := cell_regrown t3
              refine wp_region_quiet_below (by kernel_rfl) (by kernel_rfl) ?_
              clear hW1 hW2 hW3
              repeat (go_big_quiet_step (first | exact cA _ _ | exact cD _ _))
              refine wpQuiet_nil ?_
              rintro _ ⟨⟨dq, osq⟩, rfl⟩
              go_wp2
              go_ret
              exact ⟨by rw [HR0.out]; rfl, acc.trans ((below_regrown W3 dq osq).mono acc.size)⟩
            · cases dr
              · have k0 := cell_regrown s0
                have k1 := cell_regrown s1
                have k2 := cell_regrown s2
                have k3 := cell_regrown s3
                have k4 := cell_regrown s4
                have j0 := cell_regrown t0
                have j1 := cell_regrown t1
                have j2 := cell_regrown t2
                have j3 := cell_regrown t3
                refine wp_region_quiet_below (by kernel_rfl) (by kernel_rfl) ?_
                clear hW1 hW2 hW3
                repeat (go_big_quiet_step (first | exact cA _ _ | exact cD _ _))
                refine wpQuiet_nil ?_
                rintro _ ⟨⟨dq, osq⟩, rfl⟩
                clear cA cD k0 k1 k2 k3 k4 j0 j1 j2 j3
                obtain ⟨V2, hV2⟩ : ∃ V2, grow (redrawn W3 dq) osq = V2 := ⟨_, rfl⟩
                have hb1 : Below W3.heap.size W3 V2 := by rw [← hV2]; exact below_regrown _ _ _
                rw [hV2]
                clear hV2
                replace s1 := (hb1.cell (p := ⟨W2.heap.size, 1, none⟩) ls).trans s1
                replace s2 := (hb1.cell (p := ⟨W2.heap.size, 2, none⟩) ls).trans s2
                replace s3 := (hb1.cell (p := ⟨W2.heap.size, 3, none⟩) ls).trans s3
                replace t3 := (hb1.cell (p := ⟨w.heap.size, 3, none⟩) (Nat.lt_of_lt_of_le lw2 B3.size)).trans t3
                replace r1 := (hb1.cell (p := ⟨W1.heap.size, 1, none⟩) (Nat.lt_of_lt_of_le lg2 B3.size)).trans r1
                have acc2 := acc.trans (hb1.mono acc.size)
                have AV : AtW V2 w.heap.size u := ((HA.out.below B2).below B3).below hb1
                obtain ⟨eb, yg, yo, yc, heb, _, hy, hsb2, hrb⟩ := AV.group (k := j) (by rw [HF8.out]; exact hj8) huj hok
                obtain ⟨q0, _⟩ := sh_cells hrb
                obtain ⟨gr2, go2, cap3, w4, hr2, hk2, _⟩ := AV.cellsG heb
                rw [t3] at w4
                simp only [Option.some.injEq, Value.slice.injEq, Addr.mk.injEq, and_true, true_and] at w4
                obtain ⟨⟨rfl, rfl⟩, rfl⟩ := w4
                obtain ⟨_, _, _, _, _, _, _, _, _, _, _, _, _, z13⟩ := gv_cells hr2
                rw [hy] at z13
                have hcs2 : c < eb.d.sh.length := (List.getElem?_eq_some_iff.1 hsb2).1
                have hsl2 : eb.d.sh.length ≤ 9223372036854775807 := (SlR.form (AV.sh heb)).choose_spec.choose_spec.2
                have cS : ∀ d os, Calls Tryz.prog 104 #[.int .i64 v, .int .i64 (shAt (gsD u.gs) j c).fl, .int .i64 wt] (grow (redrawn V2 d) os) fun e' w'' => e' = .returned (.bool wb) ∧ ∃ p : Regrown, w'' = grow (redrawn V2 p.d) p.os := fun d os => by
                  have h0 := l8Stand_any v (shAt (gsD u.gs) j c).fl wt (grow (redrawn V2 d) os)
                  rw [HWB.out] at h0
                  exact Calls.regrown_of (h0.mono fun e' w' h => ⟨h.1, h.2 ▸ Below.refl _ _⟩)
                have ky := cell_regrown z13
                have ks := cell_regrown q0
                clear AV heb hy hsb2 hrb hr2
                have k1 := cell_regrown s1
                have k2 := cell_regrown s2
                have k3 := cell_regrown s3
                have j3 := cell_regrown t3
                have jr := cell_regrown r1
                go_wp2
                refine wp_region_quiet_below (by kernel_rfl) (by kernel_rfl) ?_
                repeat (go_big_quiet_step (exact cS _ _))
                refine wpQuiet_nil ?_
                rintro _ ⟨⟨dq2, osq2⟩, rfl⟩
                go_wp2
                go_ret
                exact ⟨by rw [HR0.out]; first | rfl | simp, acc2.trans ((below_regrown V2 dq2 osq2).mono acc2.size)⟩
              · have k0 := cell_regrown s0
                have k1 := cell_regrown s1
                have k2 := cell_regrown s2
                have k3 := cell_regrown s3
                have k4 := cell_regrown s4
                have j0 := cell_regrown t0
                have j1 := cell_regrown t1
                have j2 := cell_regrown t2
                have j3 := cell_regrown t3
                refine wp_region_quiet_below (by kernel_rfl) (by kernel_rfl) ?_
                clear hW1 hW2 hW3
                repeat (go_big_quiet_step (first | exact cA _ _ | exact cD _ _))
                refine wpQuiet_nil ?_
                rintro _ ⟨⟨dq, osq⟩, rfl⟩
                go_wp2
                go_ret
                exact ⟨by rw [HR0.out]; rfl, acc.trans ((below_regrown W3 dq osq).mono acc.size)⟩
theorem l8ShelfOk_any (k c : Nat) (u : Wv) (e : Gv) (s : Sh) (w : World) (hs : SlW w u) (he : u.gs[k]? = some e) (hsh : e.d.sh[c]? = some s) (hF : Fit u) (hc : c < u.cs.length) (hu : e.d.us = true) :
    Calls Tryz.prog 66 #[wvV u, .int .i64 (k : Int), .int .i64 (c : Int)] w fun e' w' => e' = .returned (.bool (shelfB u k c s)) ∧ Below w.heap.size w w' := by
  by_cases h0 : k = 0
  · subst h0; exact specShelf_root c u e s w hs he hsh
  · exact specShelf_inner k c u e s w hs he hsh h0 hF hc hu
end Go.Proofs.YtnmmglkigiakaaaGreat
namespace Go.Proofs.YtnmmglkigiakaaaGreat
set_option maxRecDepth 100000
set_option maxHeartbeats 32000000
set_option linter.unusedVariables false
set_option linter.unusedSimpArgs false
open Go.ChangeShapes Go.WideShapes Go.ChangeAt Go.RowKit Go.Shelf Go.Sort
def groupAt (u : Wv) (k : Nat) : Bool := (u.gs[k]?).any (fun e => groupB u.now u.cs.length k e.d)
def taskAt (u : Wv) (k : Nat) : Bool := (u.ts[k]?).any (taskOkB u)
def shelfAt (u : Wv) (k c : Nat) : Bool := (u.gs[k]?).any (fun e => (e.d.sh[c]?).any (shelfB u k c))
def shelvesAt (u : Wv) (k : Nat) : Bool := (u.gs[k]?).any (fun e => (List.range e.d.sh.length).all (shelfAt u k))
def cpuAt (u : Wv) (c : Nat) : Bool := (u.cs[c]?).any (cpuSB u c)
def groupsB (u : Wv) : Bool := (List.range u.gs.length).all (groupAt u)
def tasksB (u : Wv) : Bool := (List.range u.ts.length).all (taskAt u)
def shelvesB (u : Wv) : Bool := (List.range u.gs.length).all (shelvesAt u)
def cpusB (u : Wv) : Bool := (List.range u.cs.length).all (cpuAt u)
def okS (u : Wv) : Bool := placesB u && (groupsB u && (tasksB u && (shelvesB u && cpusB u)))
theorem all_range {n : Nat} {p : Nat → Bool} : (List.range n).all p = true ↔ ∀ k, k < n → p k = true := by rw [List.all_eq_true]; exact ⟨fun h k hk => h k (List.mem_range.2 hk), fun h k hk => h k (List.mem_range.1 hk)⟩
theorem all_range_no {n k : Nat} {p : Nat → Bool} (hk : k < n) (h : p k = false) : (List.range n).all p = false := by
  rw [← Bool.not_eq_true, all_range]
  intro hal; rw [hal k hk] at h; cases h
theorem places_parts {u : Wv} (h : placesB u = true) : (0 ≤ u.now ∧ u.now ≤ 100000000000000000) ∧ (1 ≤ u.cs.length ∧ u.cs.length ≤ 4) ∧ upsM u.cs ≠ 0 ∧ u.ts.length = 12 ∧ treeB (gsD u.gs) = true := by
  unfold placesB timeB at h
  simp only [Bool.and_eq_true, decide_eq_true_eq] at h
  obtain ⟨h1, h2, h3, h4, h5⟩ := h
  have := l1in_iff.1 h2
  exact ⟨l1in_iff.1 h1, ⟨by omega, by omega⟩, h3, h4, h5⟩
theorem group_used {now : Int} {n k : Nat} {d : Gr} (h : groupB now n k d = true) (hu : d.us = true) : d.sh.length = n ∧ SetIn d.cp ∧ (0 < d.ba.qu → d.ba.dr.length = n) := by
  unfold groupB at h
  rw [hu] at h
  simp only [Bool.true_eq_false, if_false, Bool.and_eq_true] at h
  obtain ⟨_, _, h2, _, h4, h5⟩ := h
  have h4' := of_decide_eq_true h4
  unfold setB at h2
  rw [Bool.and_eq_true] at h2
  refine ⟨h4', l1in_iff.1 h2.2, fun hq => ?_⟩
  unfold quotaB at h5
  rw [if_neg (by omega)] at h5
  simp only [Bool.and_eq_true] at h5
  obtain ⟨q1, q2, _⟩ := h5
  unfold bandOk at q1
  rw [Bool.and_eq_true] at q1
  have := (head_parts q1.1).2.2.1
  rw [this]; exact of_decide_eq_true q2
theorem group_free {now : Int} {n k : Nat} {d : Gr} (h : groupB now n k d = true) (hu : d.us = false) : d.ba.qu = 0 ∧ d.sh.length = 0 := by
  unfold groupB at h
  rw [if_pos hu] at h
  unfold noGroupB noBandB at h
  simp only [Bool.and_eq_true, decide_eq_true_eq] at h
  exact ⟨h.2.2.2.2.2.2.2.2.2.1, h.2.2.2.2.2.1⟩
theorem groups_at {u : Wv} (h : groupsB u = true) {k : Nat} {e : Gv} (he : u.gs[k]? = some e) : groupB u.now u.cs.length k e.d = true := by
  have := all_range.1 h k (List.getElem?_eq_some_iff.1 he).1
  unfold groupAt at this; rw [he] at this; exact this
theorem fit_of {u : Wv} (hp : placesB u = true) (hg : groupsB u = true) : Fit u ∧ CpIn (gsD u.gs) := by
  obtain ⟨_, ⟨h1, h2⟩, _, h4, h5⟩ := places_parts hp
  refine ⟨⟨h1, h2, h4, h5, fun k e he hu => (group_used (groups_at hg he) hu).1, fun k e he hq => ?_⟩, fun k hu => ?_⟩
  · cases hus : e.d.us
    · have := (group_free (groups_at hg he) hus).1; omega
    · exact (group_used (groups_at hg he) hus).2.2 hq
  · have hk : k < u.gs.length := by
      rcases Nat.lt_or_ge k u.gs.length with h | h
      · exact h
      · unfold usAt gsD at hu
        rw [List.getElem?_map, List.getElem?_eq_none h] at hu
        cases hu
    obtain ⟨e, he, q0, _⟩ := gs_get hk
    rw [cpAt_eq he]
    exact (group_used (groups_at hg he) (by rw [← q0]; exact hu)).2.1
theorem tasks_at {u : Wv} (h : tasksB u = true) {k : Nat} {t : Tk} (ht : u.ts[k]? = some t) : taskOkB u t = true := by
  have := all_range.1 h k (List.getElem?_eq_some_iff.1 ht).1
  unfold taskAt at this; rw [ht] at this; exact this
theorem task_there {u : Wv} {t : Tk} (h : taskOkB u t = true) (hs : t.st ≠ 0) : usedB (gsD u.gs) t.gr = true ∧ numB t = true ∧ whereB u t = true ∧ (t.st = 1 → taskWellB (gsD u.gs) t = true) := by
  unfold taskOkB at h
  rw [if_neg hs] at h
  simp only [Bool.and_eq_true, Bool.or_eq_true, decide_eq_true_eq] at h
  obtain ⟨_, h1, h2, h3, h4⟩ := h
  exact ⟨h1, h2, h3, fun h => h4.elim (fun h2 => by omega) id⟩
theorem task_none {u : Wv} {t : Tk} (h : taskOkB u t = true) (hs : t.st = 0) : t.gr = 0 := by
  unfold taskOkB at h
  rw [if_pos hs] at h
  unfold zeroTB at h
  simp only [Bool.and_eq_true, decide_eq_true_eq] at h
  exact h.1
theorem used_nat {u : Wv} (hF : Fit u) {g : Int} (h : usedB (gsD u.gs) g = true) : ∃ k : Nat, g = (k : Int) ∧ k < 8 ∧ usAt (gsD u.gs) k = true := by
  obtain ⟨k, rfl, hk, hu⟩ := usedB_yes h
  exact ⟨k, rfl, by rw [gsD_length, hF.g8] at hk; exact hk, hu⟩
theorem tgr_of {u : Wv} (hF : Fit u) (ht : tasksB u = true) : TGr u := by
  intro k t hk
  have h := tasks_at ht hk
  by_cases hs : t.st = 0
  · exact ⟨0, by rw [task_none h hs]; rfl, by decide, root_used hF.tree⟩
  · exact used_nat hF (task_there h hs).1
theorem tfit_of {u : Wv} (hF : Fit u) (hC : CpIn (gsD u.gs)) (ht : tasksB u = true) : TFit u := by
  intro k t hk hs
  obtain ⟨h1, h2, h3, _⟩ := task_there (tasks_at ht hk) hs
  obtain ⟨g, hg, hg8, hug⟩ := used_nat hF h1
  unfold whereB at h3
  rw [hg, Int.toNat_natCast] at h3
  obtain ⟨c, hc, hcc⟩ := where_at hF.n4 hF.tree hC hg8 hug (num_set h2) h3
  exact ⟨g, c, hg, hg8, hug, hcc, hc⟩
end Go.Proofs.YtnmmglkigiakaaaGreat
namespace Go.Proofs.YtnmmglkigiakaaaGreat
set_option maxRecDepth 100000
set_option maxHeartbeats 32000000
set_option linter.unusedVariables false
set_option linter.unusedSimpArgs false
open Go.ChangeShapes Go.WideShapes Go.ChangeAt Go.RowKit Go.Shelf Go.Sort
attribute [local go_sem] Oper.semAt_some
def ruleF (n : Nat) : Value := .func (.func n) #[] #[]
def rulesC (u : Wv) : List Value := [.int .i64 1, ruleF 108, .int .i64 u.gs.length, ruleF 109, .int .i64 u.gs.length, ruleF 110, .int .i64 u.ts.length, ruleF 111, .int .i64 u.cs.length, ruleF 112, .int .i64 u.cs.length, ruleF 113]
theorem worldRules_any (pw : Nat) (u : Wv) (w : World) (hA : AtW w pw u) :
    Calls Tryz.prog 68 #[ptr pw] w fun e w' => ∃ b, e = .returned (.slice (some ⟨b, 0, none⟩) 6 6) ∧ w'.rangeAt b 0 (rulesC u) ∧ w.heap.size ≤ b ∧ Below w.heap.size w w' := by
  obtain ⟨p1, c1, p2, c2, p3, c3, v1, v2, v3, hl1, hl2, hl3⟩ := hA.lens
  have hpw := hA.lt
  clear hA
  unfold ptr
  go_enter Tryz.func68, Tryz.ntmps68
  go_wp2
  go_region
  go_wp2
  go_ret
  exact ⟨w.heap.size, rfl, range_of_block (World.alloc_heap_new w _), Nat.le_refl _, ((Below.refl _ _).alloc (Nat.le_refl _) _).drew⟩

theorem hasPlaces_any (pw : Nat) (a : Int) (u : Wv) (w : World) (hA : AtW w pw u) (hf : GsFit u.gs) :
    Calls Tryz.prog 108 #[ptr pw, .int .i64 a] w fun e w' => e = .returned (.bool (placesB u)) ∧ Below w.heap.size w w' := by
  obtain ⟨p1, c1, p2, c2, p3, c3, v1, v2, v3, hl1, hl2, hl3⟩ := hA.lens
  obtain ⟨v0, _, _, o3⟩ := hA.cells
  have e3 : u.z = .slice p3 u.gs.length c3 := by rw [o3] at v3; exact Option.some.inj v3
  have HA : Hid (AtW w pw u) := hA
  have HF : Hid (GsFit u.gs) := hf
  have HZ : Hid (SlG w (.slice p3 u.gs.length c3) u.gs) := by have := hA.2.2.2; rw [e3] at this; exact this
  have lp := hA.lt
  have acc : Below w.heap.size w w := Below.refl _ _
  have hn4 : l1in (u.cs.length : Int) 1 4 = true → u.cs.length ≤ 4 := fun h => by have := (l1in_iff.1 h).2; omega
  obtain ⟨um, hum⟩ : ∃ m, upsM u.cs = m := ⟨_, rfl⟩
  have HUM : Hid (upsM u.cs = um) := hum
  clear hA hf o3 e3 hum
  unfold ptr
  cases h0 : l1in u.now 0 100000000000000000
  · have HR : Hid (placesB u = false) := by unfold Hid; simp [placesB, timeB, HUM.out, ← Int.natCast_inj, h0]
    go_enter Tryz.func108, Tryz.ntmps108
    go_wp2_with (first | (go_at_call 138; refine (isTime_any _ _).mono ?_; rintro e1 w1 ⟨rfl, hw1⟩; subst w1) | (go_at_call 127; refine (isCpuCount_any _ _).mono ?_; rintro e1 w1 ⟨rfl, hw1⟩; subst w1) | (go_at_call 46; refine (impl_ups pw u _ (HA.out.below acc) (hn4 h1)).mono ?_; rintro e1 w1 ⟨rfl, hb1⟩; rw [HUM.out]; obtain ⟨v1, v2, v3⟩ := cells_3 hb1 lp v1 v2 v3; have lp := Nat.lt_of_lt_of_le lp hb1.size; replace acc := acc.trans (hb1.mono acc.size); clear hb1) | (go_at_call 139; refine (impl_treeOk _ u.gs _ ((HZ.out).below acc) HF.out).mono ?_; rintro e1 w1 ⟨rfl, hb1⟩; replace acc := acc.trans (hb1.mono acc.size); clear hb1))
    go_ret
    refine ⟨?_, acc⟩
    first | exact ret_bool HR.out.symm | (rw [HR.out]; simp [h0]; done) | (rw [HR.out]; simp [h0]; omega)
  · cases h1 : l1in (u.cs.length : Int) 1 4
    · have HR : Hid (placesB u = false) := by unfold Hid; simp [placesB, timeB, HUM.out, ← Int.natCast_inj, h0, h1]
      go_enter Tryz.func108, Tryz.ntmps108
      go_wp2_with (first | (go_at_call 138; refine (isTime_any _ _).mono ?_; rintro e1 w1 ⟨rfl, hw1⟩; subst w1) | (go_at_call 127; refine (isCpuCount_any _ _).mono ?_; rintro e1 w1 ⟨rfl, hw1⟩; subst w1) | (go_at_call 46; refine (impl_ups pw u _ (HA.out.below acc) (hn4 h1)).mono ?_; rintro e1 w1 ⟨rfl, hb1⟩; rw [HUM.out]; obtain ⟨v1, v2, v3⟩ := cells_3 hb1 lp v1 v2 v3; have lp := Nat.lt_of_lt_of_le lp hb1.size; replace acc := acc.trans (hb1.mono acc.size); clear hb1) | (go_at_call 139; refine (impl_treeOk _ u.gs _ ((HZ.out).below acc) HF.out).mono ?_; rintro e1 w1 ⟨rfl, hb1⟩; replace acc := acc.trans (hb1.mono acc.size); clear hb1))
      go_ret
      refine ⟨?_, acc⟩
      first | exact ret_bool HR.out.symm | (rw [HR.out]; simp [h0, h1]; done) | (rw [HR.out]; simp [h0, h1]; omega)
    · by_cases h2 : um = 0
      · subst h2
        have HR : Hid (placesB u = false) := by unfold Hid; simp [placesB, timeB, HUM.out, ← Int.natCast_inj, h0, h1]
        go_enter Tryz.func108, Tryz.ntmps108
        go_wp2_with (first | (go_at_call 138; refine (isTime_any _ _).mono ?_; rintro e1 w1 ⟨rfl, hw1⟩; subst w1) | (go_at_call 127; refine (isCpuCount_any _ _).mono ?_; rintro e1 w1 ⟨rfl, hw1⟩; subst w1) | (go_at_call 46; refine (impl_ups pw u _ (HA.out.below acc) (hn4 h1)).mono ?_; rintro e1 w1 ⟨rfl, hb1⟩; rw [HUM.out]; obtain ⟨v1, v2, v3⟩ := cells_3 hb1 lp v1 v2 v3; have lp := Nat.lt_of_lt_of_le lp hb1.size; replace acc := acc.trans (hb1.mono acc.size); clear hb1) | (go_at_call 139; refine (impl_treeOk _ u.gs _ ((HZ.out).below acc) HF.out).mono ?_; rintro e1 w1 ⟨rfl, hb1⟩; replace acc := acc.trans (hb1.mono acc.size); clear hb1))
        go_ret
        refine ⟨?_, acc⟩
        first | exact ret_bool HR.out.symm | (rw [HR.out]; simp [h0, h1]; done) | (rw [HR.out]; simp [h0, h1]; omega)
      · by_cases h3 : (u.ts.length : Int) = 12
        · cases h4 : treeB (gsD u.gs)
          · have HR : Hid (placesB u = false) := by unfold Hid; simp [placesB, timeB, HUM.out, ← Int.natCast_inj, h0, h1, h2, h3, h4]
            go_enter Tryz.func108, Tryz.ntmps108
            go_wp2_with (first | (go_at_call 138; refine (isTime_any _ _).mono ?_; rintro e1 w1 ⟨rfl, hw1⟩; subst w1) | (go_at_call 127; refine (isCpuCount_any _ _).mono ?_; rintro e1 w1 ⟨rfl, hw1⟩; subst w1) | (go_at_call 46; refine (impl_ups pw u _ (HA.out.below acc) (hn4 h1)).mono ?_; rintro e1 w1 ⟨rfl, hb1⟩; rw [HUM.out]; obtain ⟨v1, v2, v3⟩ := cells_3 hb1 lp v1 v2 v3; have lp := Nat.lt_of_lt_of_le lp hb1.size; replace acc := acc.trans (hb1.mono acc.size); clear hb1) | (go_at_call 139; refine (impl_treeOk _ u.gs _ ((HZ.out).below acc) HF.out).mono ?_; rintro e1 w1 ⟨rfl, hb1⟩; replace acc := acc.trans (hb1.mono acc.size); clear hb1))
            go_ret
            refine ⟨?_, acc⟩
            first | exact ret_bool HR.out.symm | (rw [HR.out]; simp [h0, h1, h2, h3, h4]; done) | (rw [HR.out]; simp [h0, h1, h2, h3, h4]; omega)
          · have HR : Hid (placesB u = true) := by unfold Hid; simp [placesB, timeB, HUM.out, ← Int.natCast_inj, h0, h1, h2, h3, h4]
            go_enter Tryz.func108, Tryz.ntmps108
            go_wp2_with (first | (go_at_call 138; refine (isTime_any _ _).mono ?_; rintro e1 w1 ⟨rfl, hw1⟩; subst w1) | (go_at_call 127; refine (isCpuCount_any _ _).mono ?_; rintro e1 w1 ⟨rfl, hw1⟩; subst w1) | (go_at_call 46; refine (impl_ups pw u _ (HA.out.below acc) (hn4 h1)).mono ?_; rintro e1 w1 ⟨rfl, hb1⟩; rw [HUM.out]; obtain ⟨v1, v2, v3⟩ := cells_3 hb1 lp v1 v2 v3; have lp := Nat.lt_of_lt_of_le lp hb1.size; replace acc := acc.trans (hb1.mono acc.size); clear hb1) | (go_at_call 139; refine (impl_treeOk _ u.gs _ ((HZ.out).below acc) HF.out).mono ?_; rintro e1 w1 ⟨rfl, hb1⟩; replace acc := acc.trans (hb1.mono acc.size); clear hb1))
            go_ret
            refine ⟨?_, acc⟩
            first | exact ret_bool HR.out.symm | (rw [HR.out]; simp [h0, h1, h2, h3, h4]; done) | (rw [HR.out]; simp [h0, h1, h2, h3, h4]; omega)
        · have HR : Hid (placesB u = false) := by unfold Hid; simp [placesB, timeB, HUM.out, ← Int.natCast_inj, h0, h1, h2, h3]
          have h3q : ((u.ts.length : Int) == 12) = false := by simpa using h3
          have h3p : ((u.ts.length : Int) != 12) = true := by simpa using h3
          go_enter Tryz.func108, Tryz.ntmps108
          go_wp2_with (first | (go_at_call 138; refine (isTime_any _ _).mono ?_; rintro e1 w1 ⟨rfl, hw1⟩; subst w1) | (go_at_call 127; refine (isCpuCount_any _ _).mono ?_; rintro e1 w1 ⟨rfl, hw1⟩; subst w1) | (go_at_call 46; refine (impl_ups pw u _ (HA.out.below acc) (hn4 h1)).mono ?_; rintro e1 w1 ⟨rfl, hb1⟩; rw [HUM.out]; obtain ⟨v1, v2, v3⟩ := cells_3 hb1 lp v1 v2 v3; have lp := Nat.lt_of_lt_of_le lp hb1.size; replace acc := acc.trans (hb1.mono acc.size); clear hb1) | (go_at_call 139; refine (impl_treeOk _ u.gs _ ((HZ.out).below acc) HF.out).mono ?_; rintro e1 w1 ⟨rfl, hb1⟩; replace acc := acc.trans (hb1.mono acc.size); clear hb1))
          go_ret
          refine ⟨?_, acc⟩
          first | exact ret_bool HR.out.symm | (rw [HR.out]; simp [h0, h1, h2, h3]; done) | (rw [HR.out]; simp [h0, h1, h2, h3]; omega)
end Go.Proofs.YtnmmglkigiakaaaGreat
namespace Go.Proofs.YtnmmglkigiakaaaGreat
set_option maxRecDepth 100000
set_option maxHeartbeats 32000000
set_option linter.unusedVariables false
set_option linter.unusedSimpArgs false
open Go.ChangeShapes Go.WideShapes Go.ChangeAt Go.RowKit Go.Shelf Go.Sort
theorem noGroup_used (e : Gv) (w : World) (hs : GvOk w e) (hu : e.d.us = true) : Calls Tryz.prog 140 #[gvV e] w fun e' w' => e' = .returned (.bool (noGroupB e.d)) ∧ Below w.heap.size w w' := by
  obtain ⟨⟨us, pa, na, we, cp, pe, ne, su, ⟨qu, po, sp, lo, dr⟩, sh⟩, x, y, z⟩ := e
  obtain ⟨hb, hz⟩ := hs
  dsimp only at hb hz
  obtain ⟨p1, c1, e1, hl1⟩ := hb.1.form
  obtain ⟨p2, c2, e2, hl2⟩ := hb.2.form
  obtain ⟨p3, c3, e3, hl3⟩ := SlR.form hz
  dsimp only at e1 e2 e3 hl1 hl2 hl3
  subst e1 e2 e3
  have HBa : Hid (SlBa w (.slice p1 lo.length c1) (.slice p2 dr.length c2) ⟨qu, po, sp, lo, dr⟩) := hb
  obtain ⟨n1, hn1⟩ : ∃ n, lo.length = n := ⟨_, rfl⟩
  obtain ⟨n2, hn2⟩ : ∃ n, dr.length = n := ⟨_, rfl⟩
  obtain ⟨n3, hn3⟩ : ∃ n, sh.length = n := ⟨_, rfl⟩
  rw [hn1] at hl1 HBa
  rw [hn2] at hl2 HBa
  rw [hn3] at hl3
  unfold gvV
  dsimp only
  rw [hn1, hn2, hn3]
  clear hb hz
  dsimp only at hu
  subst hu
  have HR : Hid (noGroupB ⟨true, pa, na, we, cp, pe, ne, su, ⟨qu, po, sp, lo, dr⟩, sh⟩ = false) := by unfold Hid; simp [noGroupB]
  have acc : Below w.heap.size w (w.alloc (.cells #[.bool true, .int .i64 pa, .string na, .int .i64 we, .int .i64 cp, .int .i64 pe, .int .i64 ne, .int .i64 su, .int .i64 qu, .int .i64 po, .int .i64 sp, .slice p1 n1 c1, .slice p2 n2 c2, .slice p3 n3 c3] 84)) := (Below.refl _ _).alloc (Nat.le_refl _) _
  go_enter Tryz.func140, Tryz.ntmps140
  go_wp2
  go_ret
  exact ⟨ret_bool HR.out.symm, acc⟩
theorem noGroup_not (e : Gv) (w : World) (hs : GvOk w e) (hu : e.d.us = false) : Calls Tryz.prog 140 #[gvV e] w fun e' w' => e' = .returned (.bool (noGroupB e.d)) ∧ Below w.heap.size w w' := by
  obtain ⟨⟨us, pa, na, we, cp, pe, ne, su, ⟨qu, po, sp, lo, dr⟩, sh⟩, x, y, z⟩ := e
  obtain ⟨hb, hz⟩ := hs
  dsimp only at hb hz
  obtain ⟨p1, c1, e1, hl1⟩ := hb.1.form
  obtain ⟨p2, c2, e2, hl2⟩ := hb.2.form
  obtain ⟨p3, c3, e3, hl3⟩ := SlR.form hz
  dsimp only at e1 e2 e3 hl1 hl2 hl3
  subst e1 e2 e3
  have HBa : Hid (SlBa w (.slice p1 lo.length c1) (.slice p2 dr.length c2) ⟨qu, po, sp, lo, dr⟩) := hb
  obtain ⟨n1, hn1⟩ : ∃ n, lo.length = n := ⟨_, rfl⟩
  obtain ⟨n2, hn2⟩ : ∃ n, dr.length = n := ⟨_, rfl⟩
  obtain ⟨n3, hn3⟩ : ∃ n, sh.length = n := ⟨_, rfl⟩
  rw [hn1] at hl1 HBa
  rw [hn2] at hl2 HBa
  rw [hn3] at hl3
  unfold gvV
  dsimp only
  rw [hn1, hn2, hn3]
  clear hb hz
  dsimp only at hu
  subst hu
  by_cases h0 : pa = 0
  · subst h0
    cases h1 : (na.toList == [])
    · have HR : Hid (noGroupB ⟨false, 0, na, we, cp, pe, ne, su, ⟨qu, po, sp, lo, dr⟩, sh⟩ = false) := by unfold Hid; simp [noGroupB, hn3, ← Int.natCast_eq_zero, h1]
      have acc : Below w.heap.size w (w.alloc (.cells #[.bool false, .int .i64 0, .string na, .int .i64 we, .int .i64 cp, .int .i64 pe, .int .i64 ne, .int .i64 su, .int .i64 qu, .int .i64 po, .int .i64 sp, .slice p1 n1 c1, .slice p2 n2 c2, .slice p3 n3 c3] 84)) := (Below.refl _ _).alloc (Nat.le_refl _) _
      go_enter Tryz.func140, Tryz.ntmps140
      go_wp2_with ((go_at_call 141; refine (noBand_any ⟨qu, po, sp, lo, dr⟩ _ _ _ (HBa.out.below acc)).mono ?_; rintro e1 w1 ⟨rfl, hb1⟩; replace acc := acc.trans (hb1.mono acc.size); clear hb1))
      go_ret
      refine ⟨?_, acc⟩
      first | exact ret_bool HR.out.symm | (rw [HR.out]; simp [h1]; done) | (rw [HR.out]; simp [h1]; omega)
    · by_cases h2 : we = 0
      · subst h2
        by_cases h3 : cp = 0
        · subst h3
          by_cases h4 : (n3 : Int) = 0
          · by_cases h5 : pe = 0
            · subst h5
              by_cases h6 : ne = 0
              · subst h6
                by_cases h7 : su = 0
                · subst h7
                  cases h8 : noBandB ⟨qu, po, sp, lo, dr⟩
                  · have HR : Hid (noGroupB ⟨false, 0, na, 0, 0, 0, 0, 0, ⟨qu, po, sp, lo, dr⟩, sh⟩ = false) := by unfold Hid; simp [noGroupB, hn3, ← Int.natCast_eq_zero, h1, h4, h8]
                    have acc : Below w.heap.size w (w.alloc (.cells #[.bool false, .int .i64 0, .string na, .int .i64 0, .int .i64 0, .int .i64 0, .int .i64 0, .int .i64 0, .int .i64 qu, .int .i64 po, .int .i64 sp, .slice p1 n1 c1, .slice p2 n2 c2, .slice p3 n3 c3] 84)) := (Below.refl _ _).alloc (Nat.le_refl _) _
                    go_enter Tryz.func140, Tryz.ntmps140
                    go_wp2_with ((go_at_call 141; refine (noBand_any ⟨qu, po, sp, lo, dr⟩ _ _ _ (HBa.out.below acc)).mono ?_; rintro e1 w1 ⟨rfl, hb1⟩; replace acc := acc.trans (hb1.mono acc.size); clear hb1))
                    go_ret
                    refine ⟨?_, acc⟩
                    first | exact ret_bool HR.out.symm | (rw [HR.out]; simp [h1, h4, h8]; done) | (rw [HR.out]; simp [h1, h4, h8]; omega)
                  · have HR : Hid (noGroupB ⟨false, 0, na, 0, 0, 0, 0, 0, ⟨qu, po, sp, lo, dr⟩, sh⟩ = true) := by unfold Hid; simp [noGroupB, hn3, ← Int.natCast_eq_zero, h1, h4, h8]
                    have acc : Below w.heap.size w (w.alloc (.cells #[.bool false, .int .i64 0, .string na, .int .i64 0, .int .i64 0, .int .i64 0, .int .i64 0, .int .i64 0, .int .i64 qu, .int .i64 po, .int .i64 sp, .slice p1 n1 c1, .slice p2 n2 c2, .slice p3 n3 c3] 84)) := (Below.refl _ _).alloc (Nat.le_refl _) _
                    go_enter Tryz.func140, Tryz.ntmps140
                    go_wp2_with ((go_at_call 141; refine (noBand_any ⟨qu, po, sp, lo, dr⟩ _ _ _ (HBa.out.below acc)).mono ?_; rintro e1 w1 ⟨rfl, hb1⟩; replace acc := acc.trans (hb1.mono acc.size); clear hb1))
                    go_ret
                    refine ⟨?_, acc⟩
                    first | exact ret_bool HR.out.symm | (rw [HR.out]; simp [h1, h4, h8]; done) | (rw [HR.out]; simp [h1, h4, h8]; omega)
                · have HR : Hid (noGroupB ⟨false, 0, na, 0, 0, 0, 0, su, ⟨qu, po, sp, lo, dr⟩, sh⟩ = false) := by unfold Hid; simp [noGroupB, hn3, ← Int.natCast_eq_zero, h1, h4, h7]
                  have acc : Below w.heap.size w (w.alloc (.cells #[.bool false, .int .i64 0, .string na, .int .i64 0, .int .i64 0, .int .i64 0, .int .i64 0, .int .i64 su, .int .i64 qu, .int .i64 po, .int .i64 sp, .slice p1 n1 c1, .slice p2 n2 c2, .slice p3 n3 c3] 84)) := (Below.refl _ _).alloc (Nat.le_refl _) _
                  go_enter Tryz.func140, Tryz.ntmps140
                  go_wp2_with ((go_at_call 141; refine (noBand_any ⟨qu, po, sp, lo, dr⟩ _ _ _ (HBa.out.below acc)).mono ?_; rintro e1 w1 ⟨rfl, hb1⟩; replace acc := acc.trans (hb1.mono acc.size); clear hb1))
                  go_ret
                  refine ⟨?_, acc⟩
                  first | exact ret_bool HR.out.symm | (rw [HR.out]; simp [h1, h4, h7]; done) | (rw [HR.out]; simp [h1, h4, h7]; omega)
              · have HR : Hid (noGroupB ⟨false, 0, na, 0, 0, 0, ne, su, ⟨qu, po, sp, lo, dr⟩, sh⟩ = false) := by unfold Hid; simp [noGroupB, hn3, ← Int.natCast_eq_zero, h1, h4, h6]
                have acc : Below w.heap.size w (w.alloc (.cells #[.bool false, .int .i64 0, .string na, .int .i64 0, .int .i64 0, .int .i64 0, .int .i64 ne, .int .i64 su, .int .i64 qu, .int .i64 po, .int .i64 sp, .slice p1 n1 c1, .slice p2 n2 c2, .slice p3 n3 c3] 84)) := (Below.refl _ _).alloc (Nat.le_refl _) _
                go_enter Tryz.func140, Tryz.ntmps140
                go_wp2_with ((go_at_call 141; refine (noBand_any ⟨qu, po, sp, lo, dr⟩ _ _ _ (HBa.out.below acc)).mono ?_; rintro e1 w1 ⟨rfl, hb1⟩; replace acc := acc.trans (hb1.mono acc.size); clear hb1))
                go_ret
                refine ⟨?_, acc⟩
                first | exact ret_bool HR.out.symm | (rw [HR.out]; simp [h1, h4, h6]; done) | (rw [HR.out]; simp [h1, h4, h6]; omega)
            · have HR : Hid (noGroupB ⟨false, 0, na, 0, 0, pe, ne, su, ⟨qu, po, sp, lo, dr⟩, sh⟩ = false) := by unfold Hid; simp [noGroupB, hn3, ← Int.natCast_eq_zero, h1, h4, h5]
              have acc : Below w.heap.size w (w.alloc (.cells #[.bool false, .int .i64 0, .string na, .int .i64 0, .int .i64 0, .int .i64 pe, .int .i64 ne, .int .i64 su, .int .i64 qu, .int .i64 po, .int .i64 sp, .slice p1 n1 c1, .slice p2 n2 c2, .slice p3 n3 c3] 84)) := (Below.refl _ _).alloc (Nat.le_refl _) _
              go_enter Tryz.func140, Tryz.ntmps140
              go_wp2_with ((go_at_call 141; refine (noBand_any ⟨qu, po, sp, lo, dr⟩ _ _ _ (HBa.out.below acc)).mono ?_; rintro e1 w1 ⟨rfl, hb1⟩; replace acc := acc.trans (hb1.mono acc.size); clear hb1))
              go_ret
              refine ⟨?_, acc⟩
              first | exact ret_bool HR.out.symm | (rw [HR.out]; simp [h1, h4, h5]; done) | (rw [HR.out]; simp [h1, h4, h5]; omega)
          · have HR : Hid (noGroupB ⟨false, 0, na, 0, 0, pe, ne, su, ⟨qu, po, sp, lo, dr⟩, sh⟩ = false) := by unfold Hid; simp [noGroupB, hn3, ← Int.natCast_eq_zero, h1, h4]
            have acc : Below w.heap.size w (w.alloc (.cells #[.bool false, .int .i64 0, .string na, .int .i64 0, .int .i64 0, .int .i64 pe, .int .i64 ne, .int .i64 su, .int .i64 qu, .int .i64 po, .int .i64 sp, .slice p1 n1 c1, .slice p2 n2 c2, .slice p3 n3 c3] 84)) := (Below.refl _ _).alloc (Nat.le_refl _) _
            go_enter Tryz.func140, Tryz.ntmps140
            go_wp2_with ((go_at_call 141; refine (noBand_any ⟨qu, po, sp, lo, dr⟩ _ _ _ (HBa.out.below acc)).mono ?_; rintro e1 w1 ⟨rfl, hb1⟩; replace acc := acc.trans (hb1.mono acc.size); clear hb1))
            go_ret
            refine ⟨?_, acc⟩
            first | exact ret_bool HR.out.symm | (rw [HR.out]; simp [h1, h4]; done) | (rw [HR.out]; simp [h1, h4]; omega)
        · have HR : Hid (noGroupB ⟨false, 0, na, 0, cp, pe, ne, su, ⟨qu, po, sp, lo, dr⟩, sh⟩ = false) := by unfold Hid; simp [noGroupB, hn3, ← Int.natCast_eq_zero, h1, h3]
          have acc : Below w.heap.size w (w.alloc (.cells #[.bool false, .int .i64 0, .string na, .int .i64 0, .int .i64 cp, .int .i64 pe, .int .i64 ne, .int .i64 su, .int .i64 qu, .int .i64 po, .int .i64 sp, .slice p1 n1 c1, .slice p2 n2 c2, .slice p3 n3 c3] 84)) := (Below.refl _ _).alloc (Nat.le_refl _) _
          go_enter Tryz.func140, Tryz.ntmps140
          go_wp2_with ((go_at_call 141; refine (noBand_any ⟨qu, po, sp, lo, dr⟩ _ _ _ (HBa.out.below acc)).mono ?_; rintro e1 w1 ⟨rfl, hb1⟩; replace acc := acc.trans (hb1.mono acc.size); clear hb1))
          go_ret
          refine ⟨?_, acc⟩
          first | exact ret_bool HR.out.symm | (rw [HR.out]; simp [h1, h3]; done) | (rw [HR.out]; simp [h1, h3]; omega)
      · have HR : Hid (noGroupB ⟨false, 0, na, we, cp, pe, ne, su, ⟨qu, po, sp, lo, dr⟩, sh⟩ = false) := by unfold Hid; simp [noGroupB, hn3, ← Int.natCast_eq_zero, h1, h2]
        have acc : Below w.heap.size w (w.alloc (.cells #[.bool false, .int .i64 0, .string na, .int .i64 we, .int .i64 cp, .int .i64 pe, .int .i64 ne, .int .i64 su, .int .i64 qu, .int .i64 po, .int .i64 sp, .slice p1 n1 c1, .slice p2 n2 c2, .slice p3 n3 c3] 84)) := (Below.refl _ _).alloc (Nat.le_refl _) _
        go_enter Tryz.func140, Tryz.ntmps140
        go_wp2_with ((go_at_call 141; refine (noBand_any ⟨qu, po, sp, lo, dr⟩ _ _ _ (HBa.out.below acc)).mono ?_; rintro e1 w1 ⟨rfl, hb1⟩; replace acc := acc.trans (hb1.mono acc.size); clear hb1))
        go_ret
        refine ⟨?_, acc⟩
        first | exact ret_bool HR.out.symm | (rw [HR.out]; simp [h1, h2]; done) | (rw [HR.out]; simp [h1, h2]; omega)
  · have HR : Hid (noGroupB ⟨false, pa, na, we, cp, pe, ne, su, ⟨qu, po, sp, lo, dr⟩, sh⟩ = false) := by unfold Hid; simp [noGroupB, hn3, ← Int.natCast_eq_zero, h0]
    have acc : Below w.heap.size w (w.alloc (.cells #[.bool false, .int .i64 pa, .string na, .int .i64 we, .int .i64 cp, .int .i64 pe, .int .i64 ne, .int .i64 su, .int .i64 qu, .int .i64 po, .int .i64 sp, .slice p1 n1 c1, .slice p2 n2 c2, .slice p3 n3 c3] 84)) := (Below.refl _ _).alloc (Nat.le_refl _) _
    go_enter Tryz.func140, Tryz.ntmps140
    go_wp2_with ((go_at_call 141; refine (noBand_any ⟨qu, po, sp, lo, dr⟩ _ _ _ (HBa.out.below acc)).mono ?_; rintro e1 w1 ⟨rfl, hb1⟩; replace acc := acc.trans (hb1.mono acc.size); clear hb1))
    go_ret
    refine ⟨?_, acc⟩
    first | exact ret_bool HR.out.symm | (rw [HR.out]; simp [h0]; done) | (rw [HR.out]; simp [h0]; omega)
theorem noGroup_any (e : Gv) (w : World) (hs : GvOk w e) : Calls Tryz.prog 140 #[gvV e] w fun e' w' => e' = .returned (.bool (noGroupB e.d)) ∧ Below w.heap.size w w' := by
  cases hu : e.d.us
  · exact noGroup_not e w hs hu
  · exact noGroup_used e w hs hu
theorem bandOk_pos {b : Ba} (h : b.qu = 0) : bandOk b = false := by
  cases hb : bandOk b
  · rfl
  · exfalso
    unfold bandOk at hb
    rw [Bool.and_eq_true] at hb
    have := (head_parts hb.1).1.1
    omega
theorem quota_ways (now : Int) (n : Nat) (us : Bool) (pa : Int) (na : ByteArray) (we cp pe ne su qu po sp : Int) (lo : List Int) (dr : List Bool) (sh : List Sh) :
    quotaB now n ⟨us, pa, na, we, cp, pe, ne, su, ⟨qu, po, sp, lo, dr⟩, sh⟩ = if noBandB ⟨qu, po, sp, lo, dr⟩ = true then decide (pe = 0) && decide (ne = 0)
      else bandOk ⟨qu, po, sp, lo, dr⟩ && (decide (lo.length = n) && (l1in pe 1 1000 && (decide (now < ne) && decide (wrap64 (ne - now) ≤ pe)))) := by
  unfold quotaB
  dsimp only
  by_cases h0 : qu = 0
  · rw [if_pos h0, bandOk_pos (b := ⟨qu, po, sp, lo, dr⟩) h0]
    cases noBandB ⟨qu, po, sp, lo, dr⟩ <;> rfl
  · have : noBandB ⟨qu, po, sp, lo, dr⟩ = false := by unfold noBandB; simp [h0]
    rw [if_neg h0, this, if_neg (by simp)]
theorem quotaOk_no (pw : Nat) (u : Wv) (e : Gv) (nb : Bool) (w : World) (hA : AtW w pw u) (hs : GvOk w e) (hn : noBandB e.d.ba = nb) (hv : nb = true) :
    Calls Tryz.prog 144 #[ptr pw, gvV e] w fun e' w' => e' = .returned (.bool (quotaB u.now u.cs.length e.d)) ∧ Below w.heap.size w w' := by
  obtain ⟨⟨us, pa, na, we, cp, pe, ne, su, ⟨qu, po, sp, lo, dr⟩, sh⟩, x, y, z⟩ := e
  obtain ⟨hb, hz⟩ := hs
  dsimp only at hb hz hn
  obtain ⟨p1, c1, e1, hl1⟩ := hb.1.form
  obtain ⟨p2, c2, e2, hl2⟩ := hb.2.form
  obtain ⟨p3, c3, e3, hl3⟩ := SlR.form hz
  dsimp only at e1 e2 e3 hl1 hl2 hl3
  subst e1 e2 e3
  have HBa : Hid (SlBa w (.slice p1 lo.length c1) (.slice p2 dr.length c2) ⟨qu, po, sp, lo, dr⟩) := hb
  obtain ⟨pc, cc, _, _, _, _, v1, _, _, hcl, _, _⟩ := hA.lens
  obtain ⟨v0, _⟩ := hA.cells
  have hpw := hA.lt
  have HQ := quota_ways u.now u.cs.length us pa na we cp pe ne su qu po sp lo dr sh
  rw [hn] at HQ
  obtain ⟨n1, hn1⟩ : ∃ n, lo.length = n := ⟨_, rfl⟩
  obtain ⟨n2, hn2⟩ : ∃ n, dr.length = n := ⟨_, rfl⟩
  obtain ⟨n3, hn3⟩ : ∃ n, sh.length = n := ⟨_, rfl⟩
  obtain ⟨nc, hnc⟩ : ∃ n, u.cs.length = n := ⟨_, rfl⟩
  obtain ⟨now, hnow⟩ : ∃ n, u.now = n := ⟨_, rfl⟩
  rw [hn1, hnc, hnow] at HQ
  rw [hn1] at hl1 HBa
  rw [hn2] at hl2 HBa
  rw [hn3] at hl3
  rw [hnc] at v1 hcl ⊢
  rw [hnow] at v0 ⊢
  have HQ : Hid _ := HQ
  unfold gvV ptr
  dsimp only
  rw [hn1, hn2, hn3]
  obtain ⟨W1, hW1⟩ : ∃ W1, w.alloc (.cells #[.bool us, .int .i64 pa, .string na, .int .i64 we, .int .i64 cp, .int .i64 pe, .int .i64 ne, .int .i64 su, .int .i64 qu, .int .i64 po, .int .i64 sp, .slice p1 n1 c1, .slice p2 n2 c2, .slice p3 n3 c3] 84) = W1 := ⟨_, rfl⟩
  have acc : Below w.heap.size w W1 := by rw [← hW1]; exact (Below.refl _ _).alloc (Nat.le_refl _) _
  have gb : W1.heap[w.heap.size]? = some (.cells #[.bool us, .int .i64 pa, .string na, .int .i64 we, .int .i64 cp, .int .i64 pe, .int .i64 ne, .int .i64 su, .int .i64 qu, .int .i64 po, .int .i64 sp, .slice p1 n1 c1, .slice p2 n2 c2, .slice p3 n3 c3] 84 (0, 0)) := by rw [← hW1]; exact World.alloc_heap_new w _
  have lg : w.heap.size < W1.heap.size := by rw [← hW1]; simp
  obtain ⟨g0, g1, g2, g3, g4, g5, g6, g7, g8, g9, g10, g11, g12, g13⟩ := gbox gb
  replace v0 := (acc.cell (p := ⟨pw, 0, none⟩) hpw).trans v0
  replace v1 := (acc.cell (p := ⟨pw, 1, none⟩) hpw).trans v1
  replace HBa : Hid (SlBa W1 (.slice p1 n1 c1) (.slice p2 n2 c2) ⟨qu, po, sp, lo, dr⟩) := HBa.out.below acc
  have lp : pw < W1.heap.size := Nat.lt_of_lt_of_le hpw acc.size
  have HH : Hid (noBandB ⟨qu, po, sp, lo, dr⟩ = nb) := hn
  clear hb hz hA gb hpw hn hn1 hn2 hn3 hnc hnow
  subst hv
  by_cases h0 : pe = 0
  · subst h0
    by_cases h1 : ne = 0
    · subst h1
      have HR : Hid (quotaB now nc ⟨us, pa, na, we, cp, 0, 0, su, ⟨qu, po, sp, lo, dr⟩, sh⟩ = true) := by unfold Hid; simp [HQ.out]
      go_enter Tryz.func144, Tryz.ntmps144
      go_wp2_with ((go_at_call 141; refine (noBand_any ⟨qu, po, sp, lo, dr⟩ _ _ _ HBa.out).mono ?_; rintro e1 V ⟨rfl, hb1⟩; rw [HH.out]; obtain ⟨v0, v1⟩ := cells_2 hb1 lp v0 v1; obtain ⟨g5, g6, g8, g9, g10, g11, g12⟩ := cells_7 hb1 lg g5 g6 g8 g9 g10 g11 g12; have lp := Nat.lt_of_lt_of_le lp hb1.size; have lg := Nat.lt_of_lt_of_le lg hb1.size; have HBa : Hid (SlBa V (.slice p1 n1 c1) (.slice p2 n2 c2) ⟨qu, po, sp, lo, dr⟩) := SlBa.below HBa.out hb1; replace acc := acc.trans (hb1.mono acc.size); clear hb1))
      go_ret
      refine ⟨?_, acc⟩
      first | exact ret_bool HR.out.symm | (rw [HR.out]; simp []; done) | (rw [HR.out]; simp []; omega)
    · have HR : Hid (quotaB now nc ⟨us, pa, na, we, cp, 0, ne, su, ⟨qu, po, sp, lo, dr⟩, sh⟩ = false) := by unfold Hid; simp [HQ.out, h1]
      go_enter Tryz.func144, Tryz.ntmps144
      go_wp2_with ((go_at_call 141; refine (noBand_any ⟨qu, po, sp, lo, dr⟩ _ _ _ HBa.out).mono ?_; rintro e1 V ⟨rfl, hb1⟩; rw [HH.out]; obtain ⟨v0, v1⟩ := cells_2 hb1 lp v0 v1; obtain ⟨g5, g6, g8, g9, g10, g11, g12⟩ := cells_7 hb1 lg g5 g6 g8 g9 g10 g11 g12; have lp := Nat.lt_of_lt_of_le lp hb1.size; have lg := Nat.lt_of_lt_of_le lg hb1.size; have HBa : Hid (SlBa V (.slice p1 n1 c1) (.slice p2 n2 c2) ⟨qu, po, sp, lo, dr⟩) := SlBa.below HBa.out hb1; replace acc := acc.trans (hb1.mono acc.size); clear hb1))
      go_ret
      refine ⟨?_, acc⟩
      first | exact ret_bool HR.out.symm | (rw [HR.out]; simp [h1]; done) | (rw [HR.out]; simp [h1]; omega)
  · have HR : Hid (quotaB now nc ⟨us, pa, na, we, cp, pe, ne, su, ⟨qu, po, sp, lo, dr⟩, sh⟩ = false) := by unfold Hid; simp [HQ.out, h0]
    go_enter Tryz.func144, Tryz.ntmps144
    go_wp2_with ((go_at_call 141; refine (noBand_any ⟨qu, po, sp, lo, dr⟩ _ _ _ HBa.out).mono ?_; rintro e1 V ⟨rfl, hb1⟩; rw [HH.out]; obtain ⟨v0, v1⟩ := cells_2 hb1 lp v0 v1; obtain ⟨g5, g6, g8, g9, g10, g11, g12⟩ := cells_7 hb1 lg g5 g6 g8 g9 g10 g11 g12; have lp := Nat.lt_of_lt_of_le lp hb1.size; have lg := Nat.lt_of_lt_of_le lg hb1.size; have HBa : Hid (SlBa V (.slice p1 n1 c1) (.slice p2 n2 c2) ⟨qu, po, sp, lo, dr⟩) := SlBa.below HBa.out hb1; replace acc := acc.trans (hb1.mono acc.size); clear hb1))
    go_ret
    refine ⟨?_, acc⟩
    first | exact ret_bool HR.out.symm | (rw [HR.out]; simp [h0]; done) | (rw [HR.out]; simp [h0]; omega)
theorem quotaOk_yes (pw : Nat) (u : Wv) (e : Gv) (nb : Bool) (w : World) (hA : AtW w pw u) (hs : GvOk w e) (hn : noBandB e.d.ba = nb) (hv : nb = false) :
    Calls Tryz.prog 144 #[ptr pw, gvV e] w fun e' w' => e' = .returned (.bool (quotaB u.now u.cs.length e.d)) ∧ Below w.heap.size w w' := by
  obtain ⟨⟨us, pa, na, we, cp, pe, ne, su, ⟨qu, po, sp, lo, dr⟩, sh⟩, x, y, z⟩ := e
  obtain ⟨hb, hz⟩ := hs
  dsimp only at hb hz hn
  obtain ⟨p1, c1, e1, hl1⟩ := hb.1.form
  obtain ⟨p2, c2, e2, hl2⟩ := hb.2.form
  obtain ⟨p3, c3, e3, hl3⟩ := SlR.form hz
  dsimp only at e1 e2 e3 hl1 hl2 hl3
  subst e1 e2 e3
  have HBa : Hid (SlBa w (.slice p1 lo.length c1) (.slice p2 dr.length c2) ⟨qu, po, sp, lo, dr⟩) := hb
  obtain ⟨pc, cc, _, _, _, _, v1, _, _, hcl, _, _⟩ := hA.lens
  obtain ⟨v0, _⟩ := hA.cells
  have hpw := hA.lt
  have HQ := quota_ways u.now u.cs.length us pa na we cp pe ne su qu po sp lo dr sh
  rw [hn] at HQ
  obtain ⟨n1, hn1⟩ : ∃ n, lo.length = n := ⟨_, rfl⟩
  obtain ⟨n2, hn2⟩ : ∃ n, dr.length = n := ⟨_, rfl⟩
  obtain ⟨n3, hn3⟩ : ∃ n, sh.length = n := ⟨_, rfl⟩
  obtain ⟨nc, hnc⟩ : ∃ n, u.cs.length = n := ⟨_, rfl⟩
  obtain ⟨now, hnow⟩ : ∃ n, u.now = n := ⟨_, rfl⟩
  rw [hn1, hnc, hnow] at HQ
  rw [hn1] at hl1 HBa
  rw [hn2] at hl2 HBa
  rw [hn3] at hl3
  rw [hnc] at v1 hcl ⊢
  rw [hnow] at v0 ⊢
  have HQ : Hid _ := HQ
  unfold gvV ptr
  dsimp only
  rw [hn1, hn2, hn3]
  obtain ⟨W1, hW1⟩ : ∃ W1, w.alloc (.cells #[.bool us, .int .i64 pa, .string na, .int .i64 we, .int .i64 cp, .int .i64 pe, .int .i64 ne, .int .i64 su, .int .i64 qu, .int .i64 po, .int .i64 sp, .slice p1 n1 c1, .slice p2 n2 c2, .slice p3 n3 c3] 84) = W1 := ⟨_, rfl⟩
  have acc : Below w.heap.size w W1 := by rw [← hW1]; exact (Below.refl _ _).alloc (Nat.le_refl _) _
  have gb : W1.heap[w.heap.size]? = some (.cells #[.bool us, .int .i64 pa, .string na, .int .i64 we, .int .i64 cp, .int .i64 pe, .int .i64 ne, .int .i64 su, .int .i64 qu, .int .i64 po, .int .i64 sp, .slice p1 n1 c1, .slice p2 n2 c2, .slice p3 n3 c3] 84 (0, 0)) := by rw [← hW1]; exact World.alloc_heap_new w _
  have lg : w.heap.size < W1.heap.size := by rw [← hW1]; simp
  obtain ⟨g0, g1, g2, g3, g4, g5, g6, g7, g8, g9, g10, g11, g12, g13⟩ := gbox gb
  replace v0 := (acc.cell (p := ⟨pw, 0, none⟩) hpw).trans v0
  replace v1 := (acc.cell (p := ⟨pw, 1, none⟩) hpw).trans v1
  replace HBa : Hid (SlBa W1 (.slice p1 n1 c1) (.slice p2 n2 c2) ⟨qu, po, sp, lo, dr⟩) := HBa.out.below acc
  have lp : pw < W1.heap.size := Nat.lt_of_lt_of_le hpw acc.size
  have HH : Hid (noBandB ⟨qu, po, sp, lo, dr⟩ = nb) := hn
  clear hb hz hA gb hpw hn hn1 hn2 hn3 hnc hnow
  subst hv
  cases h0 : bandOk ⟨qu, po, sp, lo, dr⟩
  · have HR : Hid (quotaB now nc ⟨us, pa, na, we, cp, pe, ne, su, ⟨qu, po, sp, lo, dr⟩, sh⟩ = false) := by unfold Hid; simp [HQ.out, ← Int.natCast_inj, h0]
    go_enter Tryz.func144, Tryz.ntmps144
    go_wp2_with ((go_at_call 141; refine (noBand_any ⟨qu, po, sp, lo, dr⟩ _ _ _ HBa.out).mono ?_; rintro e1 V ⟨rfl, hb1⟩; rw [HH.out]; obtain ⟨v0, v1⟩ := cells_2 hb1 lp v0 v1; obtain ⟨g5, g6, g8, g9, g10, g11, g12⟩ := cells_7 hb1 lg g5 g6 g8 g9 g10 g11 g12; have lp := Nat.lt_of_lt_of_le lp hb1.size; have lg := Nat.lt_of_lt_of_le lg hb1.size; have HBa : Hid (SlBa V (.slice p1 n1 c1) (.slice p2 n2 c2) ⟨qu, po, sp, lo, dr⟩) := SlBa.below HBa.out hb1; replace acc := acc.trans (hb1.mono acc.size); clear hb1))
    have cB : ∀ d os, Calls Tryz.prog 171 #[.agg #[.int .i64 qu, .int .i64 po, .int .i64 sp, .slice p1 n1 c1, .slice p2 n2 c2]] (grow (redrawn V d) os) fun e' w'' => e' = .returned (.bool (bandOk ⟨qu, po, sp, lo, dr⟩)) ∧ ∃ p : Regrown, w'' = grow (redrawn V p.d) p.os := fun d os => Calls.regrown_of (impl_bandOk ⟨qu, po, sp, lo, dr⟩ _ _ _ (SlBa.below HBa.out (below_regrown V d os)))
    have k5 := cell_regrown g5
    have k6 := cell_regrown g6
    have k8 := cell_regrown g8
    have k9 := cell_regrown g9
    have k10 := cell_regrown g10
    have k11 := cell_regrown g11
    have k12 := cell_regrown g12
    have j0 := cell_regrown v0
    have j1 := cell_regrown v1
    refine wp_region_quiet_below (by kernel_rfl) (by kernel_rfl) ?_
    repeat (go_big_quiet_step (exact cB _ _))
    refine wpQuiet_nil ?_
    rintro _ ⟨⟨dq, osq⟩, rfl⟩
    obtain ⟨V2, hV2⟩ : ∃ V2, grow (redrawn V dq) osq = V2 := ⟨_, rfl⟩
    have hb1 : Below V.heap.size V V2 := by rw [← hV2]; exact below_regrown _ _ _
    rw [hV2]
    clear hV2 cB k5 k6 k8 k9 k10 k11 k12 j0 j1
    replace acc := acc.trans (hb1.mono acc.size)
    replace v0 := (hb1.cell (p := ⟨pw, 0, none⟩) lp).trans v0
    replace g5 := (hb1.cell (p := ⟨w.heap.size, 5, none⟩) lg).trans g5
    replace g6 := (hb1.cell (p := ⟨w.heap.size, 6, none⟩) lg).trans g6
    go_wp2
    first
    | go_ret
    | (have k5 := cell_regrown g5
       have k6 := cell_regrown g6
       have j0 := cell_regrown v0
       refine wp_region_quiet_below (by kernel_rfl) (by kernel_rfl) ?_
       clear hW1
       have cP : ∀ d os, Calls Tryz.prog 172 #[.int .i64 pe] (grow (redrawn V2 d) os) fun e' w'' => e' = .returned (.bool (l1in pe 1 1000)) ∧ ∃ p : Regrown, w'' = grow (redrawn V2 p.d) p.os := fun d os => Calls.regrown_of ((isPeriod_any pe _).mono fun e' w' h => ⟨h.1, h.2 ▸ Below.refl _ _⟩)
       try rw [h2] at cP
       repeat (go_big_quiet_step (exact cP _ _))
       refine wpQuiet_nil ?_
       rintro _ ⟨⟨dq2, osq2⟩, rfl⟩
       replace acc := acc.trans ((below_regrown V2 dq2 osq2).mono acc.size)
       go_wp2
       go_ret)
    refine ⟨?_, acc⟩
    first | exact ret_bool HR.out.symm | (rw [HR.out]; simp [h0]; done) | (rw [HR.out]; simp [h0]; omega)
  · by_cases h1 : (n1 : Int) = nc
    · cases h2 : l1in pe 1 1000
      · have HR : Hid (quotaB now nc ⟨us, pa, na, we, cp, pe, ne, su, ⟨qu, po, sp, lo, dr⟩, sh⟩ = false) := by unfold Hid; simp [HQ.out, ← Int.natCast_inj, h0, h1, h2]
        go_enter Tryz.func144, Tryz.ntmps144
        go_wp2_with ((go_at_call 141; refine (noBand_any ⟨qu, po, sp, lo, dr⟩ _ _ _ HBa.out).mono ?_; rintro e1 V ⟨rfl, hb1⟩; rw [HH.out]; obtain ⟨v0, v1⟩ := cells_2 hb1 lp v0 v1; obtain ⟨g5, g6, g8, g9, g10, g11, g12⟩ := cells_7 hb1 lg g5 g6 g8 g9 g10 g11 g12; have lp := Nat.lt_of_lt_of_le lp hb1.size; have lg := Nat.lt_of_lt_of_le lg hb1.size; have HBa : Hid (SlBa V (.slice p1 n1 c1) (.slice p2 n2 c2) ⟨qu, po, sp, lo, dr⟩) := SlBa.below HBa.out hb1; replace acc := acc.trans (hb1.mono acc.size); clear hb1))
        have cB : ∀ d os, Calls Tryz.prog 171 #[.agg #[.int .i64 qu, .int .i64 po, .int .i64 sp, .slice p1 n1 c1, .slice p2 n2 c2]] (grow (redrawn V d) os) fun e' w'' => e' = .returned (.bool (bandOk ⟨qu, po, sp, lo, dr⟩)) ∧ ∃ p : Regrown, w'' = grow (redrawn V p.d) p.os := fun d os => Calls.regrown_of (impl_bandOk ⟨qu, po, sp, lo, dr⟩ _ _ _ (SlBa.below HBa.out (below_regrown V d os)))
        have k5 := cell_regrown g5
        have k6 := cell_regrown g6
        have k8 := cell_regrown g8
        have k9 := cell_regrown g9
        have k10 := cell_regrown g10
        have k11 := cell_regrown g11
        have k12 := cell_regrown g12
        have j0 := cell_regrown v0
        have j1 := cell_regrown v1
        refine wp_region_quiet_below (by kernel_rfl) (by kernel_rfl) ?_
        repeat (go_big_quiet_step (exact cB _ _))
        refine wpQuiet_nil ?_
        rintro _ ⟨⟨dq, osq⟩, rfl⟩
        obtain ⟨V2, hV2⟩ : ∃ V2, grow (redrawn V dq) osq = V2 := ⟨_, rfl⟩
        have hb1 : Below V.heap.size V V2 := by rw [← hV2]; exact below_regrown _ _ _
        rw [hV2]
        clear hV2 cB k5 k6 k8 k9 k10 k11 k12 j0 j1
        replace acc := acc.trans (hb1.mono acc.size)
        replace v0 := (hb1.cell (p := ⟨pw, 0, none⟩) lp).trans v0
        replace g5 := (hb1.cell (p := ⟨w.heap.size, 5, none⟩) lg).trans g5
        replace g6 := (hb1.cell (p := ⟨w.heap.size, 6, none⟩) lg).trans g6
        go_wp2
        first
        | go_ret
        | (have k5 := cell_regrown g5
           have k6 := cell_regrown g6
           have j0 := cell_regrown v0
           refine wp_region_quiet_below (by kernel_rfl) (by kernel_rfl) ?_
           clear hW1
           have cP : ∀ d os, Calls Tryz.prog 172 #[.int .i64 pe] (grow (redrawn V2 d) os) fun e' w'' => e' = .returned (.bool (l1in pe 1 1000)) ∧ ∃ p : Regrown, w'' = grow (redrawn V2 p.d) p.os := fun d os => Calls.regrown_of ((isPeriod_any pe _).mono fun e' w' h => ⟨h.1, h.2 ▸ Below.refl _ _⟩)
           try rw [h2] at cP
           repeat (go_big_quiet_step (exact cP _ _))
           refine wpQuiet_nil ?_
           rintro _ ⟨⟨dq2, osq2⟩, rfl⟩
           replace acc := acc.trans ((below_regrown V2 dq2 osq2).mono acc.size)
           go_wp2
           go_ret)
        refine ⟨?_, acc⟩
        first | exact ret_bool HR.out.symm | (rw [HR.out]; simp [h0, h1, h2]; done) | (rw [HR.out]; simp [h0, h1, h2]; omega)
      · cases h4 : decide (now < ne)
        · have HR : Hid (quotaB now nc ⟨us, pa, na, we, cp, pe, ne, su, ⟨qu, po, sp, lo, dr⟩, sh⟩ = false) := by unfold Hid; simp [HQ.out, ← Int.natCast_inj, h0, h1, h2, h4]
          go_enter Tryz.func144, Tryz.ntmps144
          go_wp2_with ((go_at_call 141; refine (noBand_any ⟨qu, po, sp, lo, dr⟩ _ _ _ HBa.out).mono ?_; rintro e1 V ⟨rfl, hb1⟩; rw [HH.out]; obtain ⟨v0, v1⟩ := cells_2 hb1 lp v0 v1; obtain ⟨g5, g6, g8, g9, g10, g11, g12⟩ := cells_7 hb1 lg g5 g6 g8 g9 g10 g11 g12; have lp := Nat.lt_of_lt_of_le lp hb1.size; have lg := Nat.lt_of_lt_of_le lg hb1.size; have HBa : Hid (SlBa V (.slice p1 n1 c1) (.slice p2 n2 c2) ⟨qu, po, sp, lo, dr⟩) := SlBa.below HBa.out hb1; replace acc := acc.trans (hb1.mono acc.size); clear hb1))
          have cB : ∀ d os, Calls Tryz.prog 171 #[.agg #[.int .i64 qu, .int .i64 po, .int .i64 sp, .slice p1 n1 c1, .slice p2 n2 c2]] (grow (redrawn V d) os) fun e' w'' => e' = .returned (.bool (bandOk ⟨qu, po, sp, lo, dr⟩)) ∧ ∃ p : Regrown, w'' = grow (redrawn V p.d) p.os := fun d os => Calls.regrown_of (impl_bandOk ⟨qu, po, sp, lo, dr⟩ _ _ _ (SlBa.below HBa.out (below_regrown V d os)))
          have k5 := cell_regrown g5
          have k6 := cell_regrown g6
          have k8 := cell_regrown g8
          have k9 := cell_regrown g9
          have k10 := cell_regrown g10
          have k11 := cell_regrown g11
          have k12 := cell_regrown g12
          have j0 := cell_regrown v0
          have j1 := cell_regrown v1
          refine wp_region_quiet_below (by kernel_rfl) (by kernel_rfl) ?_
          repeat (go_big_quiet_step (exact cB _ _))
          refine wpQuiet_nil ?_
          rintro _ ⟨⟨dq, osq⟩, rfl⟩
          obtain ⟨V2, hV2⟩ : ∃ V2, grow (redrawn V dq) osq = V2 := ⟨_, rfl⟩
          have hb1 : Below V.heap.size V V2 := by rw [← hV2]; exact below_regrown _ _ _
          rw [hV2]
          clear hV2 cB k5 k6 k8 k9 k10 k11 k12 j0 j1
          replace acc := acc.trans (hb1.mono acc.size)
          replace v0 := (hb1.cell (p := ⟨pw, 0, none⟩) lp).trans v0
          replace g5 := (hb1.cell (p := ⟨w.heap.size, 5, none⟩) lg).trans g5
          replace g6 := (hb1.cell (p := ⟨w.heap.size, 6, none⟩) lg).trans g6
          go_wp2
          first
          | go_ret
          | (have k5 := cell_regrown g5
             have k6 := cell_regrown g6
             have j0 := cell_regrown v0
             refine wp_region_quiet_below (by kernel_rfl) (by kernel_rfl) ?_
             clear hW1
             have cP : ∀ d os, Calls Tryz.prog 172 #[.int .i64 pe] (grow (redrawn V2 d) os) fun e' w'' => e' = .returned (.bool (l1in pe 1 1000)) ∧ ∃ p : Regrown, w'' = grow (redrawn V2 p.d) p.os := fun d os => Calls.regrown_of ((isPeriod_any pe _).mono fun e' w' h => ⟨h.1, h.2 ▸ Below.refl _ _⟩)
             try rw [h2] at cP
             repeat (go_big_quiet_step (exact cP _ _))
             refine wpQuiet_nil ?_
             rintro _ ⟨⟨dq2, osq2⟩, rfl⟩
             replace acc := acc.trans ((below_regrown V2 dq2 osq2).mono acc.size)
             go_wp2
             go_ret)
          refine ⟨?_, acc⟩
          first | exact ret_bool HR.out.symm | (rw [HR.out]; simp [h0, h1, h2, h4]; done) | (rw [HR.out]; simp [h0, h1, h2, h4]; omega)
        · by_cases h5 : wrap64 (ne - now) ≤ pe
          · have HR : Hid (quotaB now nc ⟨us, pa, na, we, cp, pe, ne, su, ⟨qu, po, sp, lo, dr⟩, sh⟩ = true) := by unfold Hid; simp [HQ.out, ← Int.natCast_inj, h0, h1, h2, h4, h5]
            go_enter Tryz.func144, Tryz.ntmps144
            go_wp2_with ((go_at_call 141; refine (noBand_any ⟨qu, po, sp, lo, dr⟩ _ _ _ HBa.out).mono ?_; rintro e1 V ⟨rfl, hb1⟩; rw [HH.out]; obtain ⟨v0, v1⟩ := cells_2 hb1 lp v0 v1; obtain ⟨g5, g6, g8, g9, g10, g11, g12⟩ := cells_7 hb1 lg g5 g6 g8 g9 g10 g11 g12; have lp := Nat.lt_of_lt_of_le lp hb1.size; have lg := Nat.lt_of_lt_of_le lg hb1.size; have HBa : Hid (SlBa V (.slice p1 n1 c1) (.slice p2 n2 c2) ⟨qu, po, sp, lo, dr⟩) := SlBa.below HBa.out hb1; replace acc := acc.trans (hb1.mono acc.size); clear hb1))
            have cB : ∀ d os, Calls Tryz.prog 171 #[.agg #[.int .i64 qu, .int .i64 po, .int .i64 sp, .slice p1 n1 c1, .slice p2 n2 c2]] (grow (redrawn V d) os) fun e' w'' => e' = .returned (.bool (bandOk ⟨qu, po, sp, lo, dr⟩)) ∧ ∃ p : Regrown, w'' = grow (redrawn V p.d) p.os := fun d os => Calls.regrown_of (impl_bandOk ⟨qu, po, sp, lo, dr⟩ _ _ _ (SlBa.below HBa.out (below_regrown V d os)))
            have k5 := cell_regrown g5
            have k6 := cell_regrown g6
            have k8 := cell_regrown g8
            have k9 := cell_regrown g9
            have k10 := cell_regrown g10
            have k11 := cell_regrown g11
            have k12 := cell_regrown g12
            have j0 := cell_regrown v0
            have j1 := cell_regrown v1
            refine wp_region_quiet_below (by kernel_rfl) (by kernel_rfl) ?_
            repeat (go_big_quiet_step (exact cB _ _))
            refine wpQuiet_nil ?_
            rintro _ ⟨⟨dq, osq⟩, rfl⟩
            obtain ⟨V2, hV2⟩ : ∃ V2, grow (redrawn V dq) osq = V2 := ⟨_, rfl⟩
            have hb1 : Below V.heap.size V V2 := by rw [← hV2]; exact below_regrown _ _ _
            rw [hV2]
            clear hV2 cB k5 k6 k8 k9 k10 k11 k12 j0 j1
            replace acc := acc.trans (hb1.mono acc.size)
            replace v0 := (hb1.cell (p := ⟨pw, 0, none⟩) lp).trans v0
            replace g5 := (hb1.cell (p := ⟨w.heap.size, 5, none⟩) lg).trans g5
            replace g6 := (hb1.cell (p := ⟨w.heap.size, 6, none⟩) lg).trans g6
            go_wp2
            first
            | go_ret
            | (have k5 := cell_regrown g5
               have k6 := cell_regrown g6
               have j0 := cell_regrown v0
               refine wp_region_quiet_below (by kernel_rfl) (by kernel_rfl) ?_
               clear hW1
               have cP : ∀ d os, Calls Tryz.prog 172 #[.int .i64 pe] (grow (redrawn V2 d) os) fun e' w'' => e' = .returned (.bool (l1in pe 1 1000)) ∧ ∃ p : Regrown, w'' = grow (redrawn V2 p.d) p.os := fun d os => Calls.regrown_of ((isPeriod_any pe _).mono fun e' w' h => ⟨h.1, h.2 ▸ Below.refl _ _⟩)
               try rw [h2] at cP
               repeat (go_big_quiet_step (exact cP _ _))
               refine wpQuiet_nil ?_
               rintro _ ⟨⟨dq2, osq2⟩, rfl⟩
               replace acc := acc.trans ((below_regrown V2 dq2 osq2).mono acc.size)
               go_wp2
               go_ret)
            refine ⟨?_, acc⟩
            first | exact ret_bool HR.out.symm | (rw [HR.out]; simp [h0, h1, h2, h4, h5]; done) | (rw [HR.out]; simp [h0, h1, h2, h4, h5]; omega)
          · have HR : Hid (quotaB now nc ⟨us, pa, na, we, cp, pe, ne, su, ⟨qu, po, sp, lo, dr⟩, sh⟩ = false) := by unfold Hid; simp [HQ.out, ← Int.natCast_inj, h0, h1, h2, h4, h5]
            go_enter Tryz.func144, Tryz.ntmps144
            go_wp2_with ((go_at_call 141; refine (noBand_any ⟨qu, po, sp, lo, dr⟩ _ _ _ HBa.out).mono ?_; rintro e1 V ⟨rfl, hb1⟩; rw [HH.out]; obtain ⟨v0, v1⟩ := cells_2 hb1 lp v0 v1; obtain ⟨g5, g6, g8, g9, g10, g11, g12⟩ := cells_7 hb1 lg g5 g6 g8 g9 g10 g11 g12; have lp := Nat.lt_of_lt_of_le lp hb1.size; have lg := Nat.lt_of_lt_of_le lg hb1.size; have HBa : Hid (SlBa V (.slice p1 n1 c1) (.slice p2 n2 c2) ⟨qu, po, sp, lo, dr⟩) := SlBa.below HBa.out hb1; replace acc := acc.trans (hb1.mono acc.size); clear hb1))
            have cB : ∀ d os, Calls Tryz.prog 171 #[.agg #[.int .i64 qu, .int .i64 po, .int .i64 sp, .slice p1 n1 c1, .slice p2 n2 c2]] (grow (redrawn V d) os) fun e' w'' => e' = .returned (.bool (bandOk ⟨qu, po, sp, lo, dr⟩)) ∧ ∃ p : Regrown, w'' = grow (redrawn V p.d) p.os := fun d os => Calls.regrown_of (impl_bandOk ⟨qu, po, sp, lo, dr⟩ _ _ _ (SlBa.below HBa.out (below_regrown V d os)))
            have k5 := cell_regrown g5
            have k6 := cell_regrown g6
            have k8 := cell_regrown g8
            have k9 := cell_regrown g9
            have k10 := cell_regrown g10
            have k11 := cell_regrown g11
            have k12 := cell_regrown g12
            have j0 := cell_regrown v0
            have j1 := cell_regrown v1
            refine wp_region_quiet_below (by kernel_rfl) (by kernel_rfl) ?_
            repeat (go_big_quiet_step (exact cB _ _))
            refine wpQuiet_nil ?_
            rintro _ ⟨⟨dq, osq⟩, rfl⟩
            obtain ⟨V2, hV2⟩ : ∃ V2, grow (redrawn V dq) osq = V2 := ⟨_, rfl⟩
            have hb1 : Below V.heap.size V V2 := by rw [← hV2]; exact below_regrown _ _ _
            rw [hV2]
            clear hV2 cB k5 k6 k8 k9 k10 k11 k12 j0 j1
            replace acc := acc.trans (hb1.mono acc.size)
            replace v0 := (hb1.cell (p := ⟨pw, 0, none⟩) lp).trans v0
            replace g5 := (hb1.cell (p := ⟨w.heap.size, 5, none⟩) lg).trans g5
            replace g6 := (hb1.cell (p := ⟨w.heap.size, 6, none⟩) lg).trans g6
            go_wp2
            first
            | go_ret
            | (have k5 := cell_regrown g5
               have k6 := cell_regrown g6
               have j0 := cell_regrown v0
               refine wp_region_quiet_below (by kernel_rfl) (by kernel_rfl) ?_
               clear hW1
               have cP : ∀ d os, Calls Tryz.prog 172 #[.int .i64 pe] (grow (redrawn V2 d) os) fun e' w'' => e' = .returned (.bool (l1in pe 1 1000)) ∧ ∃ p : Regrown, w'' = grow (redrawn V2 p.d) p.os := fun d os => Calls.regrown_of ((isPeriod_any pe _).mono fun e' w' h => ⟨h.1, h.2 ▸ Below.refl _ _⟩)
               try rw [h2] at cP
               repeat (go_big_quiet_step (exact cP _ _))
               refine wpQuiet_nil ?_
               rintro _ ⟨⟨dq2, osq2⟩, rfl⟩
               replace acc := acc.trans ((below_regrown V2 dq2 osq2).mono acc.size)
               go_wp2
               go_ret)
            refine ⟨?_, acc⟩
            first | exact ret_bool HR.out.symm | (rw [HR.out]; simp [h0, h1, h2, h4, h5]; done) | (rw [HR.out]; simp [h0, h1, h2, h4, h5]; omega)
    · have HR : Hid (quotaB now nc ⟨us, pa, na, we, cp, pe, ne, su, ⟨qu, po, sp, lo, dr⟩, sh⟩ = false) := by unfold Hid; simp [HQ.out, ← Int.natCast_inj, h0, h1]
      have h1q : ((n1 : Int) == nc) = false := by simpa using h1
      have h1p : ((n1 : Int) != nc) = true := by simpa using h1
      go_enter Tryz.func144, Tryz.ntmps144
      go_wp2_with ((go_at_call 141; refine (noBand_any ⟨qu, po, sp, lo, dr⟩ _ _ _ HBa.out).mono ?_; rintro e1 V ⟨rfl, hb1⟩; rw [HH.out]; obtain ⟨v0, v1⟩ := cells_2 hb1 lp v0 v1; obtain ⟨g5, g6, g8, g9, g10, g11, g12⟩ := cells_7 hb1 lg g5 g6 g8 g9 g10 g11 g12; have lp := Nat.lt_of_lt_of_le lp hb1.size; have lg := Nat.lt_of_lt_of_le lg hb1.size; have HBa : Hid (SlBa V (.slice p1 n1 c1) (.slice p2 n2 c2) ⟨qu, po, sp, lo, dr⟩) := SlBa.below HBa.out hb1; replace acc := acc.trans (hb1.mono acc.size); clear hb1))
      have cB : ∀ d os, Calls Tryz.prog 171 #[.agg #[.int .i64 qu, .int .i64 po, .int .i64 sp, .slice p1 n1 c1, .slice p2 n2 c2]] (grow (redrawn V d) os) fun e' w'' => e' = .returned (.bool (bandOk ⟨qu, po, sp, lo, dr⟩)) ∧ ∃ p : Regrown, w'' = grow (redrawn V p.d) p.os := fun d os => Calls.regrown_of (impl_bandOk ⟨qu, po, sp, lo, dr⟩ _ _ _ (SlBa.below HBa.out (below_regrown V d os)))
      have k5 := cell_regrown g5
      have k6 := cell_regrown g6
      have k8 := cell_regrown g8
      have k9 := cell_regrown g9
      have k10 := cell_regrown g10
      have k11 := cell_regrown g11
      have k12 := cell_regrown g12
      have j0 := cell_regrown v0
      have j1 := cell_regrown v1
      refine wp_region_quiet_below (by kernel_rfl) (by kernel_rfl) ?_
      repeat (go_big_quiet_step (exact cB _ _))
      refine wpQuiet_nil ?_
      rintro _ ⟨⟨dq, osq⟩, rfl⟩
      obtain ⟨V2, hV2⟩ : ∃ V2, grow (redrawn V dq) osq = V2 := ⟨_, rfl⟩
      have hb1 : Below V.heap.size V V2 := by rw [← hV2]; exact below_regrown _ _ _
      rw [hV2]
      clear hV2 cB k5 k6 k8 k9 k10 k11 k12 j0 j1
      replace acc := acc.trans (hb1.mono acc.size)
      replace v0 := (hb1.cell (p := ⟨pw, 0, none⟩) lp).trans v0
      replace g5 := (hb1.cell (p := ⟨w.heap.size, 5, none⟩) lg).trans g5
      replace g6 := (hb1.cell (p := ⟨w.heap.size, 6, none⟩) lg).trans g6
      go_wp2
      first
      | go_ret
      | (have k5 := cell_regrown g5
         have k6 := cell_regrown g6
         have j0 := cell_regrown v0
         refine wp_region_quiet_below (by kernel_rfl) (by kernel_rfl) ?_
         clear hW1
         have cP : ∀ d os, Calls Tryz.prog 172 #[.int .i64 pe] (grow (redrawn V2 d) os) fun e' w'' => e' = .returned (.bool (l1in pe 1 1000)) ∧ ∃ p : Regrown, w'' = grow (redrawn V2 p.d) p.os := fun d os => Calls.regrown_of ((isPeriod_any pe _).mono fun e' w' h => ⟨h.1, h.2 ▸ Below.refl _ _⟩)
         try rw [h2] at cP
         repeat (go_big_quiet_step (exact cP _ _))
         refine wpQuiet_nil ?_
         rintro _ ⟨⟨dq2, osq2⟩, rfl⟩
         replace acc := acc.trans ((below_regrown V2 dq2 osq2).mono acc.size)
         go_wp2
         go_ret)
      refine ⟨?_, acc⟩
      first | exact ret_bool HR.out.symm | (rw [HR.out]; simp [h0, h1]; done) | (rw [HR.out]; simp [h0, h1]; omega)
theorem quotaOk_any (pw : Nat) (u : Wv) (e : Gv) (w : World) (hA : AtW w pw u) (hs : GvOk w e) :
    Calls Tryz.prog 144 #[ptr pw, gvV e] w fun e' w' => e' = .returned (.bool (quotaB u.now u.cs.length e.d)) ∧ Below w.heap.size w w' := by
  cases hn : noBandB e.d.ba
  · exact quotaOk_yes pw u e _ w hA hs hn rfl
  · exact quotaOk_no pw u e _ w hA hs hn rfl
theorem shelves_inner (pw : Nat) (k : Nat) (u : Wv) (e : Gv) (w : World) (hA : AtW w pw u) (he : u.gs[k]? = some e) (hk0 : k ≠ 0) :
    Calls Tryz.prog 110 #[ptr pw, .int .i64 ((k : Nat) : Int)] w fun e' w' => e' = .returned (.bool (e.d.sh.all (shelfNB k))) ∧ Below w.heap.size w w' := by
  obtain ⟨gr, go, cap, w3, hr, hk, hl⟩ := hA.cellsG he
  have hkk : k ≠ 0 := hk0
  have hk0 : ¬ (k : Int) = 0 := by omega
  obtain ⟨_, _, _, _, _, _, _, _, _, _, _, _, _, y13⟩ := gv_cells hr
  obtain ⟨p, cp, hz, hlen, hrow⟩ := row_read (hA.sh he)
  rw [hz] at y13
  obtain ⟨n, hn⟩ : ∃ n, e.d.sh.length = n := ⟨_, rfl⟩
  rw [hn] at y13 hlen
  have HN : Hid (e.d.sh.length = n) := hn
  have HR : Hid (∀ (j : Nat) (s : Sh), e.d.sh[j]? = some s → ∃ g o, p = some ⟨g, o, none⟩ ∧ w.rangeAt g (o + j * 5) (shC s)) := hrow
  clear hrow hn hr hA hz he
  unfold ptr
  go_enter Tryz.func110, Tryz.ntmps110
  go_wp2
  go_loopw [16] (fun t wr => ∃ j : Nat, j ≤ n ∧ t = .int .i64 (j : Int) ∧ Below w.heap.size w wr ∧ ∀ i, i < j → ∀ s, e.d.sh[i]? = some s → shelfNB k s = true) (fun t _ => n - (intOf t).toNat)
  case atStart => exact ⟨0, Nat.zero_le _, rfl, Below.refl _ _, fun i hi => absurd hi (Nat.not_lt_zero _)⟩
  case round =>
    obtain ⟨j, hj, rfl, hb, hall⟩ := hrel
    by_cases hlt : j < n
    · have hlt' : (j : Int) < (n : Int) := by omega
      obtain ⟨⟨fl, on, v, wt, su⟩, hs⟩ : ∃ s, e.d.sh[j]? = some s := ⟨_, List.getElem?_eq_getElem (by rw [HN.out]; exact hlt)⟩
      obtain ⟨g, o, rfl, hc⟩ := HR.out j _ hs
      obtain ⟨s0, s1, s2, s3, s4⟩ := sh_cells (range_below hc hb)
      dsimp only at s0 s1 s2 s3 s4
      have hg := block_lt_of_cell s0
      have HS : Hid (e.d.sh[j]? = some ⟨fl, on, v, wt, su⟩) := hs
      have HB : Hid (Below w.heap.size w wr) := hb
      have acc : Below w.heap.size w (wr.alloc (.cells #[.int .i64 fl, .bool on, .int .i64 v, .int .i64 wt, .int .i64 su] 121)) := hb.alloc hb.size _
      have HALL : Hid (∀ i, i < j → ∀ s, e.d.sh[i]? = some s → shelfNB k s = true) := hall
      clear hs hc hb hall y13 w3
      cases h0 : l1in fl 0 100000000000000000
      · have HR2 : Hid (shelfNB k ⟨fl, on, v, wt, su⟩ = false) := by unfold Hid; simp [shelfNB, timeB, hkk, h0]
        go_wp2_with (first | (go_at_call 138; refine (isTime_any _ _).mono ?_; rintro e1 w1 ⟨rfl, rfl⟩) | (go_at_call 142; refine (isWeight_any _ _).mono ?_; rintro e1 w1 ⟨rfl, rfl⟩))
        go_ret
        refine ⟨?_, acc⟩
        have HX : Hid (e.d.sh.all (shelfNB k) = false) := by
          unfold Hid
          rw [← Bool.not_eq_true, List.all_eq_true]
          intro hal
          have := hal _ (List.mem_of_getElem? HS.out)
          rw [HR2.out] at this; cases this
        rw [HX.out]; rfl
      · cases h1 : l1in v 0 100000000000000000
        · have HR2 : Hid (shelfNB k ⟨fl, on, v, wt, su⟩ = false) := by unfold Hid; simp [shelfNB, timeB, hkk, h0, h1]
          go_wp2_with (first | (go_at_call 138; refine (isTime_any _ _).mono ?_; rintro e1 w1 ⟨rfl, rfl⟩) | (go_at_call 142; refine (isWeight_any _ _).mono ?_; rintro e1 w1 ⟨rfl, rfl⟩))
          go_ret
          refine ⟨?_, acc⟩
          have HX : Hid (e.d.sh.all (shelfNB k) = false) := by
            unfold Hid
            rw [← Bool.not_eq_true, List.all_eq_true]
            intro hal
            have := hal _ (List.mem_of_getElem? HS.out)
            rw [HR2.out] at this; cases this
          rw [HX.out]; rfl
        · cases h2 : l1in su 0 100000000000000000
          · have HR2 : Hid (shelfNB k ⟨fl, on, v, wt, su⟩ = false) := by unfold Hid; simp [shelfNB, timeB, hkk, h0, h1, h2]
            go_wp2_with (first | (go_at_call 138; refine (isTime_any _ _).mono ?_; rintro e1 w1 ⟨rfl, rfl⟩) | (go_at_call 142; refine (isWeight_any _ _).mono ?_; rintro e1 w1 ⟨rfl, rfl⟩))
            go_ret
            refine ⟨?_, acc⟩
            have HX : Hid (e.d.sh.all (shelfNB k) = false) := by
              unfold Hid
              rw [← Bool.not_eq_true, List.all_eq_true]
              intro hal
              have := hal _ (List.mem_of_getElem? HS.out)
              rw [HR2.out] at this; cases this
            rw [HX.out]; rfl
          · cases h3 : l1in wt 1 20
            · have HR2 : Hid (shelfNB k ⟨fl, on, v, wt, su⟩ = false) := by unfold Hid; simp [shelfNB, timeB, hkk, h0, h1, h2, h3]
              go_wp2_with (first | (go_at_call 138; refine (isTime_any _ _).mono ?_; rintro e1 w1 ⟨rfl, rfl⟩) | (go_at_call 142; refine (isWeight_any _ _).mono ?_; rintro e1 w1 ⟨rfl, rfl⟩))
              go_ret
              refine ⟨?_, acc⟩
              have HX : Hid (e.d.sh.all (shelfNB k) = false) := by
                unfold Hid
                rw [← Bool.not_eq_true, List.all_eq_true]
                intro hal
                have := hal _ (List.mem_of_getElem? HS.out)
                rw [HR2.out] at this; cases this
              rw [HX.out]; rfl
            · have HR2 : Hid (shelfNB k ⟨fl, on, v, wt, su⟩ = true) := by unfold Hid; simp [shelfNB, timeB, hkk, h0, h1, h2, h3]
              go_wp2_with (first | (go_at_call 138; refine (isTime_any _ _).mono ?_; rintro e1 w1 ⟨rfl, rfl⟩) | (go_at_call 142; refine (isWeight_any _ _).mono ?_; rintro e1 w1 ⟨rfl, rfl⟩))
              have NX : ∀ i, i < j + 1 → ∀ s, e.d.sh[i]? = some s → shelfNB k s = true := by
                intro i hi s hsi
                rcases Nat.lt_succ_iff_lt_or_eq.1 hi with h | rfl
                · exact HALL.out i h s hsi
                · rw [HS.out] at hsi
                  cases hsi
                  exact HR2.out
              first
              | exact ⟨⟨j + 1, hlt, by go_num, acc, NX⟩, by simp [intOf]; omega⟩
              | (go_roundw
                 case rel => exact ⟨j + 1, hlt, by go_num, acc, NX⟩
                 case measure => simp [intOf]; omega)
              | (refine ⟨?_, by simp [intOf]; omega⟩
                 repeat apply Exists.intro
                 refine ⟨⟨j + 1, hlt, by go_num, acc, NX⟩, rfl⟩)
    · have hlt' : ¬ (j : Int) < (n : Int) := by omega
      obtain rfl : j = n := by omega
      have HX : Hid (e.d.sh.all (shelfNB k) = true) := by
        unfold Hid
        rw [List.all_eq_true]
        intro s hs
        obtain ⟨i, hi⟩ := List.getElem?_of_mem hs
        exact hall i (by have := (List.getElem?_eq_some_iff.1 hi).1; rw [HN.out] at this; exact this) s hi
      clear hall
      go_wp2
      go_ret
      exact ⟨by rw [HX.out]; rfl, hb⟩
theorem shelves_root (pw : Nat) (u : Wv) (e : Gv) (w : World) (hA : AtW w pw u) (he : u.gs[0]? = some e) :
    Calls Tryz.prog 110 #[ptr pw, .int .i64 ((0 : Nat) : Int)] w fun e' w' => e' = .returned (.bool (e.d.sh.all (shelfNB 0))) ∧ Below w.heap.size w w' := by
  obtain ⟨gr, go, cap, w3, hr, hk, hl⟩ := hA.cellsG he
  rw [Nat.zero_mul, Nat.add_zero] at hr
  obtain ⟨_, _, _, _, _, _, _, _, _, _, _, _, _, y13⟩ := gv_cells hr
  obtain ⟨p, cp, hz, hlen, hrow⟩ := row_read (hA.sh he)
  rw [hz] at y13
  obtain ⟨n, hn⟩ : ∃ n, e.d.sh.length = n := ⟨_, rfl⟩
  rw [hn] at y13 hlen
  have HN : Hid (e.d.sh.length = n) := hn
  have HR : Hid (∀ (j : Nat) (s : Sh), e.d.sh[j]? = some s → ∃ g o, p = some ⟨g, o, none⟩ ∧ w.rangeAt g (o + j * 5) (shC s)) := hrow
  clear hrow hn hr hA hz he
  unfold ptr
  go_enter Tryz.func110, Tryz.ntmps110
  go_wp2
  go_loopw [16] (fun t wr => ∃ j : Nat, j ≤ n ∧ t = .int .i64 (j : Int) ∧ Below w.heap.size w wr ∧ ∀ i, i < j → ∀ s, e.d.sh[i]? = some s → shelfNB 0 s = true) (fun t _ => n - (intOf t).toNat)
  case atStart => exact ⟨0, Nat.zero_le _, rfl, Below.refl _ _, fun i hi => absurd hi (Nat.not_lt_zero _)⟩
  case round =>
    obtain ⟨j, hj, rfl, hb, hall⟩ := hrel
    by_cases hlt : j < n
    · have hlt' : (j : Int) < (n : Int) := by omega
      obtain ⟨⟨fl, on, v, wt, su⟩, hs⟩ : ∃ s, e.d.sh[j]? = some s := ⟨_, List.getElem?_eq_getElem (by rw [HN.out]; exact hlt)⟩
      obtain ⟨g, o, rfl, hc⟩ := HR.out j _ hs
      obtain ⟨s0, s1, s2, s3, s4⟩ := sh_cells (range_below hc hb)
      dsimp only at s0 s1 s2 s3 s4
      have hg := block_lt_of_cell s0
      have HS : Hid (e.d.sh[j]? = some ⟨fl, on, v, wt, su⟩) := hs
      have HB : Hid (Below w.heap.size w wr) := hb
      have acc : Below w.heap.size w (wr.alloc (.cells #[.int .i64 fl, .bool on, .int .i64 v, .int .i64 wt, .int .i64 su] 121)) := hb.alloc hb.size _
      have HALL : Hid (∀ i, i < j → ∀ s, e.d.sh[i]? = some s → shelfNB 0 s = true) := hall
      clear hs hc hb hall y13 w3
      cases h0 : l1in fl 0 100000000000000000
      · have HR2 : Hid (shelfNB 0 ⟨fl, on, v, wt, su⟩ = false) := by unfold Hid; simp [shelfNB, timeB, h0]
        go_wp2_with (first | (go_at_call 138; refine (isTime_any _ _).mono ?_; rintro e1 w1 ⟨rfl, rfl⟩) | (go_at_call 142; refine (isWeight_any _ _).mono ?_; rintro e1 w1 ⟨rfl, rfl⟩))
        go_ret
        refine ⟨?_, acc⟩
        have HX : Hid (e.d.sh.all (shelfNB 0) = false) := by
          unfold Hid
          rw [← Bool.not_eq_true, List.all_eq_true]
          intro hal
          have := hal _ (List.mem_of_getElem? HS.out)
          rw [HR2.out] at this; cases this
        rw [HX.out]; rfl
      · cases h1 : l1in v 0 100000000000000000
        · have HR2 : Hid (shelfNB 0 ⟨fl, on, v, wt, su⟩ = false) := by unfold Hid; simp [shelfNB, timeB, h0, h1]
          go_wp2_with (first | (go_at_call 138; refine (isTime_any _ _).mono ?_; rintro e1 w1 ⟨rfl, rfl⟩) | (go_at_call 142; refine (isWeight_any _ _).mono ?_; rintro e1 w1 ⟨rfl, rfl⟩))
          go_ret
          refine ⟨?_, acc⟩
          have HX : Hid (e.d.sh.all (shelfNB 0) = false) := by
            unfold Hid
            rw [← Bool.not_eq_true, List.all_eq_true]
            intro hal
            have := hal _ (List.mem_of_getElem? HS.out)
            rw [HR2.out] at this; cases this
          rw [HX.out]; rfl
        · cases h2 : l1in su 0 100000000000000000
          · have HR2 : Hid (shelfNB 0 ⟨fl, on, v, wt, su⟩ = false) := by unfold Hid; simp [shelfNB, timeB, h0, h1, h2]
            go_wp2_with (first | (go_at_call 138; refine (isTime_any _ _).mono ?_; rintro e1 w1 ⟨rfl, rfl⟩) | (go_at_call 142; refine (isWeight_any _ _).mono ?_; rintro e1 w1 ⟨rfl, rfl⟩))
            go_ret
            refine ⟨?_, acc⟩
            have HX : Hid (e.d.sh.all (shelfNB 0) = false) := by
              unfold Hid
              rw [← Bool.not_eq_true, List.all_eq_true]
              intro hal
              have := hal _ (List.mem_of_getElem? HS.out)
              rw [HR2.out] at this; cases this
            rw [HX.out]; rfl
          · cases h3 : l1in wt 1 20
            · have HR2 : Hid (shelfNB 0 ⟨fl, on, v, wt, su⟩ = false) := by unfold Hid; simp [shelfNB, timeB, h0, h1, h2, h3]
              go_wp2_with (first | (go_at_call 138; refine (isTime_any _ _).mono ?_; rintro e1 w1 ⟨rfl, rfl⟩) | (go_at_call 142; refine (isWeight_any _ _).mono ?_; rintro e1 w1 ⟨rfl, rfl⟩))
              go_ret
              refine ⟨?_, acc⟩
              have HX : Hid (e.d.sh.all (shelfNB 0) = false) := by
                unfold Hid
                rw [← Bool.not_eq_true, List.all_eq_true]
                intro hal
                have := hal _ (List.mem_of_getElem? HS.out)
                rw [HR2.out] at this; cases this
              rw [HX.out]; rfl
            · cases on
              · by_cases h5 : v = 0
                · subst h5
                  by_cases h6 : wt = 10
                  · subst h6
                    have HR2 : Hid (shelfNB 0 ⟨fl, false, 0, 10, su⟩ = true) := by unfold Hid; simp [shelfNB, timeB, h0, h1, h2, h3]
                    go_wp2_with (first | (go_at_call 138; refine (isTime_any _ _).mono ?_; rintro e1 w1 ⟨rfl, rfl⟩) | (go_at_call 142; refine (isWeight_any _ _).mono ?_; rintro e1 w1 ⟨rfl, rfl⟩))
                    have NX : ∀ i, i < j + 1 → ∀ s, e.d.sh[i]? = some s → shelfNB 0 s = true := by
                      intro i hi s hsi
                      rcases Nat.lt_succ_iff_lt_or_eq.1 hi with h | rfl
                      · exact HALL.out i h s hsi
                      · rw [HS.out] at hsi
                        cases hsi
                        exact HR2.out
                    first
                    | exact ⟨⟨j + 1, hlt, by go_num, acc, NX⟩, by simp [intOf]; omega⟩
                    | (go_roundw
                       case rel => exact ⟨j + 1, hlt, by go_num, acc, NX⟩
                       case measure => simp [intOf]; omega)
                    | (refine ⟨?_, by simp [intOf]; omega⟩
                       repeat apply Exists.intro
                       refine ⟨⟨j + 1, hlt, by go_num, acc, NX⟩, rfl⟩)
                  · have HR2 : Hid (shelfNB 0 ⟨fl, false, 0, wt, su⟩ = false) := by unfold Hid; simp [shelfNB, timeB, h0, h1, h2, h3, h6]
                    go_wp2_with (first | (go_at_call 138; refine (isTime_any _ _).mono ?_; rintro e1 w1 ⟨rfl, rfl⟩) | (go_at_call 142; refine (isWeight_any _ _).mono ?_; rintro e1 w1 ⟨rfl, rfl⟩))
                    go_ret
                    refine ⟨?_, acc⟩
                    have HX : Hid (e.d.sh.all (shelfNB 0) = false) := by
                      unfold Hid
                      rw [← Bool.not_eq_true, List.all_eq_true]
                      intro hal
                      have := hal _ (List.mem_of_getElem? HS.out)
                      rw [HR2.out] at this; cases this
                    rw [HX.out]; rfl
                · have HR2 : Hid (shelfNB 0 ⟨fl, false, v, wt, su⟩ = false) := by unfold Hid; simp [shelfNB, timeB, h0, h1, h2, h3, h5]
                  go_wp2_with (first | (go_at_call 138; refine (isTime_any _ _).mono ?_; rintro e1 w1 ⟨rfl, rfl⟩) | (go_at_call 142; refine (isWeight_any _ _).mono ?_; rintro e1 w1 ⟨rfl, rfl⟩))
                  go_ret
                  refine ⟨?_, acc⟩
                  have HX : Hid (e.d.sh.all (shelfNB 0) = false) := by
                    unfold Hid
                    rw [← Bool.not_eq_true, List.all_eq_true]
                    intro hal
                    have := hal _ (List.mem_of_getElem? HS.out)
                    rw [HR2.out] at this; cases this
                  rw [HX.out]; rfl
              · have HR2 : Hid (shelfNB 0 ⟨fl, true, v, wt, su⟩ = false) := by unfold Hid; simp [shelfNB, timeB, h0, h1, h2, h3]
                go_wp2_with (first | (go_at_call 138; refine (isTime_any _ _).mono ?_; rintro e1 w1 ⟨rfl, rfl⟩) | (go_at_call 142; refine (isWeight_any _ _).mono ?_; rintro e1 w1 ⟨rfl, rfl⟩))
                go_ret
                refine ⟨?_, acc⟩
                have HX : Hid (e.d.sh.all (shelfNB 0) = false) := by
                  unfold Hid
                  rw [← Bool.not_eq_true, List.all_eq_true]
                  intro hal
                  have := hal _ (List.mem_of_getElem? HS.out)
                  rw [HR2.out] at this; cases this
                rw [HX.out]; rfl
    · have hlt' : ¬ (j : Int) < (n : Int) := by omega
      obtain rfl : j = n := by omega
      have HX : Hid (e.d.sh.all (shelfNB 0) = true) := by
        unfold Hid
        rw [List.all_eq_true]
        intro s hs
        obtain ⟨i, hi⟩ := List.getElem?_of_mem hs
        exact hall i (by have := (List.getElem?_eq_some_iff.1 hi).1; rw [HN.out] at this; exact this) s hi
      clear hall
      go_wp2
      go_ret
      exact ⟨by rw [HX.out]; rfl, hb⟩
theorem areShelvesOk_any (pw k : Nat) (u : Wv) (e : Gv) (w : World) (hA : AtW w pw u) (he : u.gs[k]? = some e) :
    Calls Tryz.prog 110 #[ptr pw, .int .i64 (k : Int)] w fun e' w' => e' = .returned (.bool (e.d.sh.all (shelfNB k))) ∧ Below w.heap.size w w' := by
  by_cases h0 : k = 0
  · subst h0; exact shelves_root pw u e w hA he
  · exact shelves_inner pw k u e w hA he h0
end Go.Proofs.YtnmmglkigiakaaaGreat
