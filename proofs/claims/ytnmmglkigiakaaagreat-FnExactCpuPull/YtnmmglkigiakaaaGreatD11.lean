/- The iterator over the tasks that stand in a queue; what makes the iterators; a queue's shelf. -/
import Derived.Test.YtnmmglkigiakaaaGreatD09
import Derived.Test.YtnmmglkigiakaaaGreatD10
namespace Go.Proofs.YtnmmglkigiakaaaGreat
set_option maxRecDepth 100000
set_option maxHeartbeats 32000000
set_option linter.unusedVariables false
set_option linter.unusedSimpArgs false
open Go.ChangeShapes Go.WideShapes Go.ChangeAt Go.RowKit Go.Shelf
attribute [local go_sem] Oper.semAt_some
def AtW (W : World) (b : Nat) (u : Wv) : Prop := W.heap[b]? = some (.cells #[.int .i64 u.now, u.x, u.y, u.z] 33 (0, 0)) ∧ SlW W u
theorem AtW.lt {W : World} {b : Nat} {u : Wv} (h : AtW W b u) : b < W.heap.size := (Array.getElem?_eq_some_iff.1 h.1).1
theorem AtW.below {W W' : World} {b : Nat} {u : Wv} (h : AtW W b u) (hb : Below W.heap.size W W') : AtW W' b u := ⟨(hb.block b h.lt).trans h.1, h.2.below hb⟩
theorem AtW.cells {W : World} {b : Nat} {u : Wv} (h : AtW W b u) : W.cell? ⟨b, 0, none⟩ = some (.int .i64 u.now) ∧ W.cell? ⟨b, 1, none⟩ = some u.x ∧ W.cell? ⟨b, 2, none⟩ = some u.y ∧ W.cell? ⟨b, 3, none⟩ = some u.z := wbox h.1
theorem AtW.groups {W : World} {b : Nat} {u : Wv} (h : AtW W b u) : GroupsAt W b u.z (gsD u.gs) := ⟨u.gs, h.cells.2.2.2, h.2.2.2, Alike.refl _⟩
theorem row_read {α : Type} {c : α → List Value} {n : Nat} {W : World} {x : Value} {xs : List α} (h : SlR c n W x xs) : ∃ p cap, x = .slice p xs.length cap ∧ xs.length ≤ 9223372036854775807 ∧
    ∀ k e, xs[k]? = some e → ∃ g o, p = some ⟨g, o, none⟩ ∧ W.rangeAt g (o + k * n) (c e) := by
  rcases h with ⟨rfl, a, cap, rfl⟩ | ⟨g, o, cap, rfl, hE, hl, hm⟩
  · exact ⟨a, cap, rfl, by simp, fun k e he => by simp at he⟩
  · exact ⟨_, cap, rfl, by unfold maxLen at hm; omega, fun k e he => ⟨g, o, rfl, hE k e he⟩⟩
def QBox (W : World) (b pw : Nat) (c : Int) : Prop := W.heap[b]? = some (.cells #[.pointer (some ⟨pw, 0, none⟩), .int .i64 c] 53 (0, 0))
theorem QBox.cells {W : World} {b pw : Nat} {c : Int} (h : QBox W b pw c) : W.cell? ⟨b, 0, none⟩ = some (.pointer (some ⟨pw, 0, none⟩)) ∧ W.cell? ⟨b, 1, none⟩ = some (.int .i64 c) := by
  have hr := range_of_block (cs := [.pointer (some ⟨pw, 0, none⟩), .int .i64 c]) h
  exact ⟨by simpa using hr 0 _ rfl, by simpa using hr 1 _ rfl⟩
def IBox (W : World) (b : Nat) (k : Int) : Prop := W.heap[b]? = some (.cells #[.int .i64 k] 3 (0, 0))
theorem IBox.cell {W : World} {b : Nat} {k : Int} (h : IBox W b k) : W.cell? ⟨b, 0, none⟩ = some (.int .i64 k) := (Msk.cell_of_box_l h).1

def taskIn (ts : List Tk) (g c : Int) (i : Nat) : Bool := (ts[i]?).any (fun e => decide (e.st = 1 ∧ e.gr = g ∧ e.cpu = c))
def taskTo (ts : List Tk) (g c : Int) (k : Nat) : List Nat := (List.range k).filter (taskIn ts g c)
def tasksL (ts : List Tk) (g c : Int) : List Nat := taskTo ts g c ts.length
theorem taskTo_succ (ts : List Tk) (g c : Int) (k : Nat) : taskTo ts g c (k + 1) = taskTo ts g c k ++ (if taskIn ts g c k = true then [k] else []) := by
  unfold taskTo
  rw [List.range_succ, List.filter_append]
  congr 1
  by_cases h : taskIn ts g c k = true
  · rw [if_pos h]; simp only [List.filter_cons, h, if_true, List.filter_nil]
  · rw [if_neg h]; simp only [List.filter_cons, h, List.filter_nil]; rfl
theorem taskTo_pre (ts : List Tk) (g c : Int) {k n : Nat} (h : k ≤ n) : ∃ post, taskTo ts g c n = taskTo ts g c k ++ post := by
  obtain ⟨d, rfl⟩ := Nat.exists_eq_add_of_le h
  unfold taskTo
  rw [List.range_add, List.filter_append]
  exact ⟨_, rfl⟩

theorem tasksIn_gives (pw bq bg : Nat) (u : Wv) (g c : Int) (G : World → Prop) (W0 : World) (hG : ∀ W, G W → QBox W bq pw c ∧ IBox W bg g ∧ AtW W pw u) :
    Gives Tryz.prog 198 #[.pointer (some ⟨bq, 0, none⟩), .pointer (some ⟨bg, 0, none⟩)] encN (tasksL u.ts g c) G W0 := by
  intro l J Jx W hW hJG hJ hJx hY h0
  refine (callsIn_wide (n := 9)).1 ?_
  refine callsIn_of_wp Tryz.func198 rfl trivial ?_ rfl
  simp only [Tryz.ntmps198, List.size_toArray, List.length_cons, List.length_nil, Nat.reduceAdd, Nat.reduceSub, Array.replicate_succ, Array.replicate_zero, List.push_toArray, List.append_toArray, List.nil_append, List.cons_append]
  obtain ⟨c0, _, c2⟩ := hG _ (hJG _ _ h0)
  obtain ⟨q0, _⟩ := c0.cells
  have HJ := KeepsUp.refl W.heap.size W
  obtain ⟨_, _, w2, _⟩ := c2.cells
  obtain ⟨p, cap, hp, hlen, _⟩ := row_read c2.2.2.1
  have HG : Hid (∀ wr pre, J pre wr → wr.cell? ⟨bq, 1, none⟩ = some (.int .i64 c) ∧ wr.cell? ⟨bg, 0, none⟩ = some (.int .i64 g) ∧ ∀ k e, u.ts[k]? = some e → ∃ g o, p = some ⟨g, o, none⟩ ∧ wr.rangeAt g (o + k * 9) (tkC e)) := by
    intro wr pre hj
    obtain ⟨d0, d1, d2⟩ := hG _ (hJG _ _ hj)
    obtain ⟨p', cap', e1, _, h3⟩ := row_read d2.2.2.1
    rw [hp] at e1
    simp only [Value.slice.injEq] at e1
    obtain ⟨rfl, _, _⟩ := e1
    exact ⟨d0.cells.2, d1.cell, h3⟩
  rw [hp] at w2
  clear c2 c0 hp
  gi_wp2
  clear w2 q0
  gi_loopw [12] (fun t wr => ∃ k : Nat, k ≤ u.ts.length ∧ t = .int .i64 (k : Int) ∧ J (taskTo u.ts g c k) wr ∧ KeepsUp W.heap.size W wr)
    (fun t _ => u.ts.length - (intOf t).toNat)
  case atStart => exact ⟨0, by omega, rfl, h0, HJ⟩
  case round =>
    obtain ⟨k, hk, rfl, hJs, hkf⟩ := hrel
    by_cases hlt : k < u.ts.length
    · have hlt' : (k : Int) < (u.ts.length : Int) := by omega
      obtain ⟨e, he⟩ := row_get hlt
      obtain ⟨k1, k2, k3⟩ := HG.out _ _ hJs
      obtain ⟨g', o, hp, hc⟩ := k3 k e he
      subst hp
      obtain ⟨x0, x1, x2, x3, x4, x5, x6, x7, x8⟩ := tk_cells hc
      have hsucc := taskTo_succ u.ts g c k
      have hti : taskIn u.ts g c k = decide (e.st = 1 ∧ e.gr = g ∧ e.cpu = c) := by unfold taskIn; rw [he]; rfl
      have HE : Hid (u.ts[k]? = some e) := he
      have HS : Hid (taskTo u.ts g c (k + 1) = taskTo u.ts g c k ++ (if taskIn u.ts g c k = true then [k] else [])) := hsucc
      have HT : Hid (taskIn u.ts g c k = decide (e.st = 1 ∧ e.gr = g ∧ e.cpu = c)) := hti
      have HN : Hid (¬ (e.st = 1 ∧ e.gr = g ∧ e.cpu = c) → taskTo u.ts g c (k + 1) = taskTo u.ts g c k) := by
        intro hn
        rw [hsucc, hti, decide_eq_false hn]
        simp
      have HY : Hid ((e.st = 1 ∧ e.gr = g ∧ e.cpu = c) → taskTo u.ts g c (k + 1) = taskTo u.ts g c k ++ [k]) := by
        intro hn
        rw [hsucc, hti, decide_eq_true hn]
        simp
      have b1 := block_lt_of_cell k1
      have b2 := block_lt_of_cell k2
      simp only [] at b1 b2
      clear hsucc hti he hc k3
      have hkf2 : ∀ A, KeepsUp W.heap.size W (wr.alloc A) := fun A => hkf.trans (KeepsUp.alloc _ _ _)
      have hJ2 : ∀ A, J (taskTo u.ts g c k) (wr.alloc A) := fun A => hJ.alloc _ hJs
      have HK2 : Hid (∀ A, KeepsUp W.heap.size W (wr.alloc A)) := hkf2
      have HJ2 : Hid (∀ A, J (taskTo u.ts g c k) (wr.alloc A)) := hJ2
      clear hkf2 hJ2
      by_cases s1 : e.st = 1
      · rw [s1] at x0
        by_cases s2 : e.gr = g
        · rw [s2] at x1
          by_cases s3 : e.cpu = c
          · rw [s3] at x2
            have hs := HY.out ⟨s1, s2, s3⟩
            obtain ⟨post, hpost⟩ := taskTo_pre u.ts g c (k := k + 1) (n := u.ts.length) (by omega)
            rw [hs, List.append_assoc] at hpost
            have HSS : Hid (taskTo u.ts g c (k + 1) = taskTo u.ts g c k ++ [k]) := hs
            obtain ⟨fn, tmps, assign, body, hy, hR⟩ := hY (taskTo u.ts g c k) k post (wr.alloc (.cells #[.int .i64 1, .int .i64 g, .int .i64 c, .int .i64 e.ni, .int .i64 e.ma, .int .i64 e.v, .int .i64 e.su, .int .i64 e.us, .int .i64 e.lo] 68)) hpost (hJ.alloc _ hJs)
            have hR := hR none 8
            unfold encN at hy
            clear hs hpost s1 s2 s3
            gi_wp2
            refine hR.mono ?_
            rintro e' W3 ⟨hk3, (⟨rfl, hJ3⟩ | ⟨rfl, hJx3⟩)⟩
            · gi_wp2
              go_roundw
              case rel => exact ⟨k + 1, by omega, by go_num, by rw [HSS.out]; exact hJ3, (HK2.out _).trans hk3⟩
              case measure => simp [intOf]; omega
            · gi_wp2
              refine bodyPost_ret (results_none rfl _ _ _) rfl ?_
              exact ⟨⟨_, rfl⟩, (HK2.out _).trans hk3, .inr ⟨_, hJx3⟩⟩
          · have HSS : Hid (taskTo u.ts g c (k + 1) = taskTo u.ts g c k) := HN.out (fun h => s3 h.2.2)
            clear s1 s2
            gi_wp2
            refine ⟨fun _ h => (by cases h), ?_⟩
            gi_wp2
            go_roundw
            case rel => exact ⟨k + 1, by omega, by go_num, by rw [HSS.out]; exact HJ2.out _, HK2.out _⟩
            case measure => simp [intOf]; omega
        · have HSS : Hid (taskTo u.ts g c (k + 1) = taskTo u.ts g c k) := HN.out (fun h => s2 h.2.1)
          clear s1
          gi_wp2
          refine ⟨fun _ h => (by cases h), ?_⟩
          gi_wp2
          go_roundw
          case rel => exact ⟨k + 1, by omega, by go_num, by rw [HSS.out]; exact HJ2.out _, HK2.out _⟩
          case measure => simp [intOf]; omega
      · have HSS : Hid (taskTo u.ts g c (k + 1) = taskTo u.ts g c k) := HN.out (fun h => s1 h.1)
        gi_wp2
        refine ⟨fun _ h => (by cases h), ?_⟩
        gi_wp2
        go_roundw
        case rel => exact ⟨k + 1, by omega, by go_num, by rw [HSS.out]; exact HJ2.out _, HK2.out _⟩
        case measure => simp [intOf]; omega
    · have hlt' : ¬ (k : Int) < (u.ts.length : Int) := by omega
      have hkk : k = u.ts.length := by omega
      have HF : Hid (taskTo u.ts g c k = tasksL u.ts g c) := by rw [hkk]; rfl
      rw [HF.out] at hJs
      clear hkk
      gi_wp2
      go_end0
      exact ⟨⟨_, rfl⟩, hkf, .inl hJs⟩
end Go.Proofs.YtnmmglkigiakaaaGreat
