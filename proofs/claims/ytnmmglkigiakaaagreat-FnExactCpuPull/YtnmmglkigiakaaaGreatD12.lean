/- What makes the iterators; a queue's shelf. -/
import Derived.Test.YtnmmglkigiakaaaGreatD11
import Derived.Lib.QuietBelow
namespace Go.Proofs.YtnmmglkigiakaaaGreat
set_option maxRecDepth 100000
set_option maxHeartbeats 32000000
set_option linter.unusedVariables false
set_option linter.unusedSimpArgs false
open Go.ChangeShapes Go.WideShapes Go.ChangeAt Go.RowKit Go.Shelf Go.Sort
attribute [local go_sem] Oper.semAt_some
def ptr (b : Nat) : Value := .pointer (some ⟨b, 0, none⟩)
def ptrO (b o : Nat) : Value := .pointer (some ⟨b, o, none⟩)
def qV (pw : Nat) (c : Int) : Value := .agg #[ptr pw, .int .i64 c]
theorem mk_outward (pw : Nat) (g : Int) (w : World) : Calls Tryz.prog 132 #[ptr pw, .int .i64 g] w fun e w' =>
    e = .returned (.func (.func 167) #[] #[ptr (w.heap.size + 1), ptr w.heap.size]) ∧ w' = (w.alloc (.cells #[ptr pw] 51)).alloc (.cells #[.int .i64 g] 3) := by
  unfold ptr
  go_enter Tryz.func132, Tryz.ntmps132
  go_wp2
  go_ret
  exact ⟨rfl, rfl⟩
theorem mk_inner (pw : Nat) (w : World) : Calls Tryz.prog 148 #[ptr pw] w fun e w' =>
    e = .returned (.func (.func 177) #[] #[ptr w.heap.size]) ∧ w' = w.alloc (.cells #[ptr pw] 51) := by
  unfold ptr
  go_enter Tryz.func148, Tryz.ntmps148
  go_wp2
  go_ret
  exact ⟨rfl, rfl⟩
def twoBox (w : World) (pw : Nat) (c g : Int) : World := (w.alloc (.cells #[ptr pw, .int .i64 c] 53)).alloc (.cells #[.int .i64 g] 3)
theorem mk_tasksIn (pw : Nat) (c g : Int) (w : World) : Calls Tryz.prog 192 #[qV pw c, .int .i64 g] w fun e w' =>
    e = .returned (.func (.func 198) #[] #[ptr w.heap.size, ptr (w.heap.size + 1)]) ∧ w' = twoBox w pw c g := by
  unfold qV ptr twoBox ptr
  go_enter Tryz.func192, Tryz.ntmps192
  go_wp2
  go_ret
  exact ⟨rfl, rfl⟩
theorem mk_groupsIn (pw : Nat) (c g : Int) (w : World) : Calls Tryz.prog 194 #[qV pw c, .int .i64 g] w fun e w' =>
    e = .returned (.func (.func 199) #[] #[ptr w.heap.size, ptr (w.heap.size + 1)]) ∧ w' = twoBox w pw c g := by
  unfold qV ptr twoBox ptr
  go_enter Tryz.func194, Tryz.ntmps194
  go_wp2
  go_ret
  exact ⟨rfl, rfl⟩
theorem mk_times (pw : Nat) (c g : Int) (w : World) : Calls Tryz.prog 190 #[qV pw c, .int .i64 g] w fun e w' =>
    e = .returned (.func (.func 197) #[] #[ptr w.heap.size, ptr (w.heap.size + 1)]) ∧ w' = twoBox w pw c g := by
  unfold qV ptr twoBox ptr
  go_enter Tryz.func190, Tryz.ntmps190
  go_wp2
  go_ret
  exact ⟨rfl, rfl⟩
theorem mk_queues (pw : Nat) (c : Int) (w : World) : Calls Tryz.prog 58 #[ptr pw, .int .i64 c] w fun e w' => e = .returned (qV pw c) ∧ Below w.heap.size w w' := by
  unfold qV ptr
  go_enter Tryz.func58, Tryz.ntmps58
  go_wp2
  go_returns
  exact ⟨rfl, by go_grown⟩
theorem AtW.rowG {W : World} {b : Nat} {u : Wv} (h : AtW W b u) : ∃ p cap, u.z = .slice p u.gs.length cap ∧ u.gs.length ≤ 9223372036854775807 ∧ ∀ k e, u.gs[k]? = some e → ∃ g o, p = some ⟨g, o, none⟩ ∧ W.rangeAt g (o + k * 14) (gvC e) := row_read h.2.2.2.1
theorem AtW.sh {W : World} {b : Nat} {u : Wv} (h : AtW W b u) {k : Nat} {e : Gv} (he : u.gs[k]? = some e) : SlSh W e.z e.d.sh := (h.2.2.2.2 e (List.mem_of_getElem? he)).2
theorem shelf_any (pw k c : Nat) (u : Wv) (e : Gv) (s : Sh) (g o cap : Nat) (w : World) (h : AtW w pw u) (he : u.gs[k]? = some e) (hs : e.d.sh[c]? = some s) (hz : e.z = .slice (some ⟨g, o, none⟩) e.d.sh.length cap) :
    Calls Tryz.prog 149 #[qV pw (c : Int), .int .i64 (k : Int)] w fun e' w' => e' = .returned (ptrO g (o + c * 5)) ∧ Below w.heap.size w w' := by
  obtain ⟨p, cp, hp, hlen, hrow⟩ := h.rowG
  obtain ⟨gg, go, rfl, hc⟩ := hrow k e he
  obtain ⟨_, _, _, x3⟩ := h.cells
  rw [hp] at x3
  obtain ⟨y0, y1, y2, y3, y4, y5, y6, y7, y8, y9, y10, y11, y12, y13⟩ := gv_cells hc
  rw [hz] at y13
  have hk : k < u.gs.length := (List.getElem?_eq_some_iff.1 he).1
  have hcs : c < e.d.sh.length := (List.getElem?_eq_some_iff.1 hs).1
  have hsl : e.d.sh.length ≤ 9223372036854775807 := (SlR.form (h.sh he)).choose_spec.choose_spec.2
  have hpw := h.lt
  clear h hrow hp hc y0 y1 y2 y3 y4 y5 y6 y7 y8 y9 y10 y11 y12 hz he hs
  have hgg := block_lt_of_cell y13
  simp only [] at hgg
  unfold qV ptr ptrO
  go_enter Tryz.func149, Tryz.ntmps149
  go_wp2
  go_region
  go_wp2
  go_ret
  exact ⟨rfl, ((Below.refl _ _).alloc (Nat.le_refl _) _).drew⟩

theorem boxed_q {w W : World} {pw : Nat} {c : Int} (h : w.alloc (.cells #[.pointer (some ⟨pw, 0, none⟩), .int .i64 c] 53) = W) : Below w.heap.size w W ∧ W.cell? ⟨w.heap.size, 0, none⟩ = some (.pointer (some ⟨pw, 0, none⟩)) ∧ W.cell? ⟨w.heap.size, 1, none⟩ = some (.int .i64 c) ∧ w.heap.size < W.heap.size := by
  subst h
  have hb : QBox (w.alloc (.cells #[.pointer (some ⟨pw, 0, none⟩), .int .i64 c] 53)) w.heap.size pw c := World.alloc_heap_new w _
  exact ⟨(Below.refl _ _).alloc (Nat.le_refl _) _, hb.cells.1, hb.cells.2, by simp⟩
theorem around_any (pw k j c : Nat) (u : Wv) (a e : Gv) (s : Sh) (g o cap : Nat) (w : World) (h : AtW w pw u) (ha : u.gs[k]? = some a) (hj : a.d.pa = (j : Int)) (he : u.gs[j]? = some e) (hs : e.d.sh[c]? = some s) (hz : e.z = .slice (some ⟨g, o, none⟩) e.d.sh.length cap) :
    Calls Tryz.prog 179 #[qV pw (c : Int), .int .i64 (k : Int)] w fun e' w' => e' = .returned (ptrO g (o + c * 5)) ∧ Below w.heap.size w w' := by
  obtain ⟨p, cp, hp, hlen, hrow⟩ := h.rowG
  obtain ⟨gg, go, rfl, hc⟩ := hrow k a ha
  obtain ⟨_, _, _, x3⟩ := h.cells
  rw [hp] at x3
  obtain ⟨_, y1, _⟩ := gv_cells hc
  rw [hj] at y1
  have hk : k < u.gs.length := (List.getElem?_eq_some_iff.1 ha).1
  unfold qV ptr ptrO
  go_enter Tryz.func179, Tryz.ntmps179
  go_wp2
  generalize hW : w.alloc (.cells #[.pointer (some ⟨pw, 0, none⟩), .int .i64 (c : Int)] 53) = W at *
  obtain ⟨hb, q0, q1, hlt⟩ := boxed_q hW
  have k0 := cell_regrown q0
  have k1 := cell_regrown q1
  have k3 := cell_regrown ((hb.cell h.lt).trans x3)
  have ky := cell_regrown ((hb.cell (block_lt_of_cell y1)).trans y1)
  have cS : ∀ d os, Calls Tryz.prog 149 #[.agg #[.pointer (some ⟨pw, 0, none⟩), .int .i64 (c : Int)], .int .i64 (j : Int)] (grow (redrawn W d) os) fun e' w'' => e' = .returned (ptrO g (o + c * 5)) ∧ ∃ p : Regrown, w'' = grow (redrawn W p.d) p.os := fun d os =>
    Calls.regrown_of (shelf_any pw j c u e s g o cap _ ((h.below hb).below (below_regrown W d os)) he hs hz)
  clear h hrow hp hc x3 y1 hW he hs hz ha hj q0 q1
  unfold ptrO at cS
  refine wp_region_quiet_below (by kernel_rfl) (by kernel_rfl) ?_
  repeat (quiet_step (exact cS _ _))
  refine wpQuiet_nil ?_
  intro _ hw'
  obtain ⟨⟨dq, osq⟩, hw''⟩ := hw'
  subst hw''
  go_wp2
  go_ret
  exact ⟨rfl, hb.trans ((below_regrown W dq osq).mono hb.size)⟩
end Go.Proofs.YtnmmglkigiakaaaGreat
