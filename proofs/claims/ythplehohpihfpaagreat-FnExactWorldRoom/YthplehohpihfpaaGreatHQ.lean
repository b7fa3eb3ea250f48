/- The program: the greatest of all times, sums and floors. -/
import Derived.Test.YthplehohpihfpaaGreatC21
namespace Go.Proofs.YthplehohpihfpaaGreat
set_option linter.unusedVariables false
set_option linter.unusedSimpArgs false
open Go.ChangeShapes Go.WideShapes Go.ChangeAt Go.RowKit Go.Shelf Go.Sort
attribute [local go_sem] Oper.semAt_some

def halfB (n : Int) : Bool := decide (n ≤ 50000000000000000)
def cpRoom (e : Cp) : Bool := halfB e.busy && halfB e.idle
def tkRoom (e : Tk) : Bool := halfB e.v && (halfB e.su && halfB e.us)
def shRoom (s : Sh) : Bool := halfB s.fl && (halfB s.v && halfB s.s)
def grRoom (d : Gr) : Bool := halfB d.su && d.sh.all shRoom
def roomAt (u : Wv) : Bool := halfB u.now && (u.cs.all cpRoom && (u.ts.all tkRoom && (gsD u.gs).all grRoom))
/-- what is asked of the first k of a row. -/
def upto {α : Type} (P : α → Bool) (xs : List α) (k : Nat) : Prop := ∀ j, j < k → ∀ e, xs[j]? = some e → P e = true
theorem upto_zero {α : Type} (P : α → Bool) (xs : List α) : upto P xs 0 := fun j h => absurd h (Nat.not_lt_zero _)
theorem upto_succ {α : Type} {P : α → Bool} {xs : List α} {k : Nat} {e : α} (he : xs[k]? = some e) : upto P xs (k + 1) ↔ upto P xs k ∧ P e = true := by
  constructor
  · exact fun h => ⟨fun j hj => h j (by omega), h k (by omega) e he⟩
  · rintro ⟨h1, h2⟩ j hj e' he'
    rcases Nat.lt_succ_iff_lt_or_eq.1 hj with h | rfl
    · exact h1 j h e' he'
    · rw [he] at he'; cases he'; exact h2
theorem upto_all {α : Type} {P : α → Bool} {xs : List α} : upto P xs xs.length ↔ xs.all P = true := by
  rw [List.all_eq_true]
  constructor
  · intro h x hx
    obtain ⟨i, hi⟩ := List.getElem?_of_mem hx
    exact h i (List.getElem?_eq_some_iff.1 hi).1 x hi
  · exact fun h j _ e he => h e (List.mem_of_getElem? he)
theorem mx_le (a b : Int) : (if a < b then b else a) ≤ 50000000000000000 ↔ a ≤ 50000000000000000 ∧ b ≤ 50000000000000000 := by
  split <;> omega
def mx4 (x y z u : Int) : Int := if u > (if z > (if y > x then y else x) then z else (if y > x then y else x)) then u else (if z > (if y > x then y else x) then z else (if y > x then y else x))
theorem mx4_le (x y z u : Int) : mx4 x y z u ≤ 50000000000000000 ↔ x ≤ 50000000000000000 ∧ y ≤ 50000000000000000 ∧ z ≤ 50000000000000000 ∧ u ≤ 50000000000000000 := by
  unfold mx4; split <;> split <;> split <;> omega
@[local go_sem] theorem run_max_int4 {P : Program} {w : World} (ts : Array TypeId) (t : TypeId) (k k' k'' k3 : IntKind) (x y z u : Int) : (Builtin.max_ ts t #[.int k x, .int k' y, .int k'' z, .int k3 u]).run P w = .ok (.int k (mx4 x y z u)) w := by
  simp [Builtin.max_, Builtin.max2, mx4]
theorem cp_half (e : Cp) : cpRoom e = true ↔ e.busy ≤ 50000000000000000 ∧ e.idle ≤ 50000000000000000 := by simp [cpRoom, halfB]
theorem tk_half (e : Tk) : tkRoom e = true ↔ e.v ≤ 50000000000000000 ∧ e.su ≤ 50000000000000000 ∧ e.us ≤ 50000000000000000 := by simp [tkRoom, halfB]
theorem sh_half (e : Sh) : shRoom e = true ↔ e.fl ≤ 50000000000000000 ∧ e.v ≤ 50000000000000000 ∧ e.s ≤ 50000000000000000 := by simp [shRoom, halfB]
theorem gr_half (e : Gr) : grRoom e = true ↔ e.su ≤ 50000000000000000 ∧ e.sh.all shRoom = true := by simp [grRoom, halfB]
def gvRoom (e : Gv) : Bool := grRoom e.d
theorem room_gs (l : List Gv) : (gsD l).all grRoom = l.all gvRoom := by unfold gsD gvRoom; rw [List.all_map]; rfl
def cpWorld (u : Wv) : Prop := u.now ≤ 50000000000000000 ∧ upto cpRoom u.cs u.cs.length
def tkWorld (u : Wv) : Prop := cpWorld u ∧ upto tkRoom u.ts u.ts.length
theorem room_iff (u : Wv) : roomAt u = true ↔ tkWorld u ∧ upto gvRoom u.gs u.gs.length := by
  unfold roomAt tkWorld cpWorld
  rw [room_gs, upto_all, upto_all, upto_all]
  simp only [halfB, Bool.and_eq_true, decide_eq_true_eq, and_assoc]
set_option maxRecDepth 100000 in
set_option maxHeartbeats 32000000 in
theorem latest_any (pw : Nat) (u : Wv) (w : World) (hA : AtW w pw u) :
    Calls Tryz.prog 83 #[ptr pw] w fun e' w' => (∃ x : Int, e' = .returned (.int .i64 x) ∧ (x ≤ 50000000000000000 ↔ roomAt u = true)) ∧ Below w.heap.size w w' := by
  obtain ⟨t0, t1, t2, t3⟩ := hA.cells
  obtain ⟨p1, c1, e1, hl1, hr1⟩ := hA.rowC
  obtain ⟨p2, c2, e2, hl2, hr2⟩ := hA.rowT
  obtain ⟨p3, c3, e3, hl3, hr3⟩ := hA.rowG
  rw [e1] at t1
  rw [e2] at t2
  rw [e3] at t3
  have lw := hA.lt
  have HA : Hid (AtW w pw u) := hA
  have HR1 : Hid (∀ k e, u.cs[k]? = some e → ∃ g o, p1 = some ⟨g, o, none⟩ ∧ w.rangeAt g (o + k * 5) (cpC e)) := hr1
  have HR2 : Hid (∀ k e, u.ts[k]? = some e → ∃ g o, p2 = some ⟨g, o, none⟩ ∧ w.rangeAt g (o + k * 9) (tkC e)) := hr2
  have HR3 : Hid (∀ k e, u.gs[k]? = some e → ∃ g o, p3 = some ⟨g, o, none⟩ ∧ w.rangeAt g (o + k * 14) (gvC e)) := hr3
  clear hA hr1 hr2 hr3 e1 e2 e3
  unfold ptr
  go_enter Tryz.func83, Tryz.ntmps83
  go_wp2
  go_loopw [3, 21] (fun m i wr => ∃ k : Nat, ∃ x : Int, k ≤ u.cs.length ∧ i = .int .i64 (k : Int) ∧ m = .int .i64 x ∧ (x ≤ 50000000000000000 ↔ u.now ≤ 50000000000000000 ∧ upto cpRoom u.cs k) ∧ Below w.heap.size w wr) (fun _ i _ => u.cs.length - (intOf i).toNat)
  case atStart => exact ⟨0, u.now, Nat.zero_le _, rfl, rfl, ⟨fun h => ⟨h, upto_zero _ _⟩, fun h => h.1⟩, Below.refl _ _⟩
  case round =>
    obtain ⟨k, x, hk, rfl, rfl, hx, acc⟩ := hrel
    by_cases hlt : k < u.cs.length
    · have hlt' : (k : Int) < (u.cs.length : Int) := by omega
      obtain ⟨e, he⟩ := row_get hlt
      obtain ⟨g, o, hp, hc⟩ := HR1.out k e he
      subst hp
      obtain ⟨x0, x1, x2, x3, x4⟩ := cp_cells (range_below hc acc)
      have HX : Hid (x ≤ 50000000000000000 ↔ u.now ≤ 50000000000000000 ∧ upto cpRoom u.cs k) := hx
      have acc2 : Hid (∀ A, Below w.heap.size w (wr.alloc A)) := fun A => acc.alloc acc.size _
      have HE : Hid (u.cs[k]? = some e) := he
      clear hx he hc acc
      go_wp2
      exact ⟨⟨k + 1, _, hlt, by go_num, rfl, by rw [mx_le, mx_le, upto_succ HE.out, cp_half, HX.out]; simp only [and_assoc], acc2.out _⟩, by simp [intOf]; omega⟩
    · have hlt' : ¬ (k : Int) < (u.cs.length : Int) := by omega
      obtain rfl : k = u.cs.length := by omega
      have HX : Hid (x ≤ 50000000000000000 ↔ cpWorld u) := hx
      have ACC : Hid (Below w.heap.size w wr) := acc
      replace t2 := (acc.cell (p := ⟨pw, 2, none⟩) lw).trans t2
      replace t3 := (acc.cell (p := ⟨pw, 3, none⟩) lw).trans t3
      clear hx acc t0 t1 hlt hlt' hk HR1
      go_wp2
      go_loopw [3, 37] (fun m i wr => ∃ k : Nat, ∃ x : Int, k ≤ u.ts.length ∧ i = .int .i64 (k : Int) ∧ m = .int .i64 x ∧ (x ≤ 50000000000000000 ↔ cpWorld u ∧ upto tkRoom u.ts k) ∧ Below w.heap.size w wr) (fun _ i _ => u.ts.length - (intOf i).toNat)
      case atStart => exact ⟨0, x, Nat.zero_le _, rfl, rfl, ⟨fun h => ⟨HX.out.1 h, upto_zero _ _⟩, fun h => HX.out.2 h.1⟩, ACC.out⟩
      case round =>
        obtain ⟨k, x, hk, rfl, rfl, hx, acc⟩ := hrel
        by_cases hlt : k < u.ts.length
        · have hlt' : (k : Int) < (u.ts.length : Int) := by omega
          obtain ⟨e, he⟩ := row_get hlt
          obtain ⟨g, o, hp, hc⟩ := HR2.out k e he
          subst hp
          obtain ⟨x0, x1, x2, x3, x4, x5, x6, x7, x8⟩ := tk_cells (range_below hc acc)
          have HX : Hid (x ≤ 50000000000000000 ↔ cpWorld u ∧ upto tkRoom u.ts k) := hx
          have acc2 : Hid (∀ A, Below w.heap.size w (wr.alloc A)) := fun A => acc.alloc acc.size _
          have HE : Hid (u.ts[k]? = some e) := he
          clear hx he hc acc
          go_wp2
          exact ⟨⟨k + 1, _, hlt, by go_num, rfl, by rw [mx4_le, upto_succ HE.out, tk_half, HX.out]; simp only [and_assoc], acc2.out _⟩, by simp [intOf]; omega⟩
        · have hlt' : ¬ (k : Int) < (u.ts.length : Int) := by omega
          obtain rfl : k = u.ts.length := by omega
          have HX : Hid (x ≤ 50000000000000000 ↔ tkWorld u) := hx
          have ACC2 : Hid (Below w.heap.size w wr) := acc
          replace t3 := (acc.cell (p := ⟨pw, 3, none⟩) lw).trans ((Eq.symm (ACC.out.cell (p := ⟨pw, 3, none⟩) lw)).trans t3)
          clear hx acc t2 hlt hlt' hk HR2
          go_wp2
          go_loopw [3, 55] (fun m i wr => ∃ k : Nat, ∃ x : Int, k ≤ u.gs.length ∧ i = .int .i64 (k : Int) ∧ m = .int .i64 x ∧ (x ≤ 50000000000000000 ↔ tkWorld u ∧ upto gvRoom u.gs k) ∧ Below w.heap.size w wr) (fun _ i _ => u.gs.length - (intOf i).toNat)
          case atStart => exact ⟨0, x, Nat.zero_le _, rfl, rfl, ⟨fun h => ⟨HX.out.1 h, upto_zero _ _⟩, fun h => HX.out.2 h.1⟩, ACC2.out⟩
          case round =>
            obtain ⟨k, x, hk, rfl, rfl, hx, acc⟩ := hrel
            by_cases hlt : k < u.gs.length
            · have hlt' : (k : Int) < (u.gs.length : Int) := by omega
              obtain ⟨e, he⟩ := row_get hlt
              obtain ⟨g, o, hp, hc⟩ := HR3.out k e he
              subst hp
              obtain ⟨y0, y1, y2, y3, y4, y5, y6, y7, y8, y9, y10, y11, y12, y13⟩ := gv_cells (range_below hc acc)
              obtain ⟨ps, cs, hz, hsl, hrow⟩ := row_read (HA.out.sh he)
              have hok0 := HA.out.2.2.2.2 e (List.mem_of_getElem? he)
              obtain ⟨q1, d1, f1, _⟩ := hok0.1.1.form
              obtain ⟨q2, d2, f2, _⟩ := hok0.1.2.form
              rw [f1] at y11
              rw [f2] at y12
              rw [hz] at y13
              have HX : Hid (x ≤ 50000000000000000 ↔ tkWorld u ∧ upto gvRoom u.gs k) := hx
              have ACC3 : Hid (Below w.heap.size w wr) := acc
              have HRS : Hid (∀ (j : Nat) (s : Sh), e.d.sh[j]? = some s → ∃ g o, ps = some ⟨g, o, none⟩ ∧ w.rangeAt g (o + j * 5) (shC s)) := hrow
              have HE : Hid (u.gs[k]? = some e) := he
              obtain ⟨W2, hW2⟩ : ∃ W2, wr.alloc (.cells #[.bool e.d.us, .int .i64 e.d.pa, .string e.d.na, .int .i64 e.d.we, .int .i64 e.d.cp, .int .i64 e.d.pe, .int .i64 e.d.ne, .int .i64 e.d.su, .int .i64 e.d.ba.qu, .int .i64 e.d.ba.po, .int .i64 e.d.ba.sp, .slice q1 e.d.ba.lo.length d1, .slice q2 e.d.ba.dr.length d2, .slice ps e.d.sh.length cs] 54) = W2 := ⟨_, rfl⟩
              have acc2 : Below w.heap.size w W2 := by rw [← hW2]; exact acc.alloc acc.size _
              have gb : W2.heap[wr.heap.size]? = some (.cells #[.bool e.d.us, .int .i64 e.d.pa, .string e.d.na, .int .i64 e.d.we, .int .i64 e.d.cp, .int .i64 e.d.pe, .int .i64 e.d.ne, .int .i64 e.d.su, .int .i64 e.d.ba.qu, .int .i64 e.d.ba.po, .int .i64 e.d.ba.sp, .slice q1 e.d.ba.lo.length d1, .slice q2 e.d.ba.dr.length d2, .slice ps e.d.sh.length cs] 54 (0, 0)) := by rw [← hW2]; exact World.alloc_heap_new wr _
              obtain ⟨_, _, _, _, _, _, _, g7, _, _, _, _, _, g13⟩ := gbox gb
              have ACC4 : Hid (Below w.heap.size w W2) := acc2
              clear hx he hc acc hrow hz f1 f2 hok0 gb acc2
              go_wp2
              all_goals
                go_loopw [3, 66] (fun m i wq => ∃ j : Nat, ∃ y : Int, j ≤ e.d.sh.length ∧ i = .int .i64 (j : Int) ∧ m = .int .i64 y ∧ (y ≤ 50000000000000000 ↔ (tkWorld u ∧ upto gvRoom u.gs k ∧ e.d.su ≤ 50000000000000000) ∧ upto shRoom e.d.sh j) ∧ Below w.heap.size w wq) (fun _ i _ => e.d.sh.length - (intOf i).toNat)
                case atStart =>
                  refine ⟨0, _, Nat.zero_le _, rfl, rfl, ?_, ACC4.out⟩
                  constructor
                  · intro hh
                    have h5 := HX.out.1 (by omega)
                    exact ⟨⟨h5.1, h5.2, by omega⟩, upto_zero _ _⟩
                  · rintro ⟨⟨h1, h2, h3⟩, _⟩
                    have := HX.out.2 ⟨h1, h2⟩
                    omega
                case round =>
                  obtain ⟨j, y, hj, rfl, rfl, hy, accq⟩ := hrel
                  by_cases hlj : j < e.d.sh.length
                  · have hlj' : (j : Int) < (e.d.sh.length : Int) := by omega
                    obtain ⟨s, hs⟩ := row_get hlj
                    obtain ⟨sg, so, hps, hsc⟩ := HRS.out j s hs
                    subst hps
                    obtain ⟨s0, s1, s2, s3, s4⟩ := sh_cells (range_below hsc accq)
                    have HY : Hid (y ≤ 50000000000000000 ↔ (tkWorld u ∧ upto gvRoom u.gs k ∧ e.d.su ≤ 50000000000000000) ∧ upto shRoom e.d.sh j) := hy
                    have acc5 : Hid (∀ A, Below w.heap.size w (wr.alloc A)) := fun A => accq.alloc accq.size _
                    have HS : Hid (e.d.sh[j]? = some s) := hs
                    clear hy hs hsc accq y0 y1 y2 y3 y4 y5 y6 y7 y8 y9 y10 y11 y12 y13 g7 g13 hW2
                    go_wp2
                    exact ⟨⟨j + 1, _, hlj, by go_num, rfl, by rw [mx4_le, upto_succ HS.out, sh_half, HY.out]; simp only [and_assoc], acc5.out _⟩, by simp [intOf]; omega⟩
                  · have hlj' : ¬ (j : Int) < (e.d.sh.length : Int) := by omega
                    obtain rfl : j = e.d.sh.length := by omega
                    have HY : Hid (y ≤ 50000000000000000 ↔ tkWorld u ∧ upto gvRoom u.gs (k + 1)) := by
                      unfold Hid
                      rw [hy, upto_succ HE.out]
                      unfold gvRoom
                      rw [gr_half, ← upto_all]
                      exact ⟨fun ⟨⟨h1, h2, h3⟩, h4⟩ => ⟨h1, h2, h3, h4⟩, fun ⟨h1, h2, h3, h4⟩ => ⟨⟨h1, h2, h3⟩, h4⟩⟩
                    clear hy
                    go_wp2
                    all_goals
                      go_roundw
                      case rel => exact ⟨k + 1, y, hlt, by go_num, rfl, HY.out, accq⟩
                      case measure => simp [intOf]; omega
            · have hlt' : ¬ (k : Int) < (u.gs.length : Int) := by omega
              obtain rfl : k = u.gs.length := by omega
              have HX : Hid (x ≤ 50000000000000000 ↔ roomAt u = true) := hx.trans (room_iff u).symm
              clear hx
              go_wp2
              go_ret
              exact ⟨⟨x, rfl, HX.out⟩, acc⟩
end Go.Proofs.YthplehohpihfpaaGreat
