/- Iterators over a world behind a pointer: what each hands on. -/
import Derived.Test.YtnmmglkigiakaaaGreatD00
import Derived.Test.YtnmmglkigiakaaaGreatD04
import Derived.Test.YtnmmglkigiakaaaGreatD08
namespace Go.Proofs.YtnmmglkigiakaaaGreat
set_option maxRecDepth 100000
set_option maxHeartbeats 32000000
set_option linter.unusedVariables false
set_option linter.unusedSimpArgs false
open Go.ChangeShapes Go.WideShapes Go.ChangeAt Go.RowKit Go.Shelf
attribute [local go_sem] Oper.semAt_some
def Alike (a b : List Gr) : Prop := b.length = a.length ∧ ∀ k, usAt b k = usAt a k ∧ paAt b k = paAt a k
theorem Alike.refl (a : List Gr) : Alike a a := ⟨rfl, fun _ => ⟨rfl, rfl⟩⟩
def GroupsAt (W : World) (pw : Nat) (z : Value) (ds : List Gr) : Prop := ∃ vs, W.cell? ⟨pw, 3, none⟩ = some z ∧ SlG W z vs ∧ Alike ds (gsD vs)
theorem groups_read {W : World} {pw : Nat} {z : Value} {ds : List Gr} (h : GroupsAt W pw z ds) : W.cell? ⟨pw, 3, none⟩ = some z ∧ ∃ p cap, z = .slice p ds.length cap ∧ ds.length ≤ 9223372036854775807 ∧
    ∀ k, k < ds.length → ∃ g o, p = some ⟨g, o, none⟩ ∧ ∃ e : Gv, e.d.us = usAt ds k ∧ e.d.pa = paAt ds k ∧ (∀ j v, (gvC e)[j]? = some v → W.cell? ⟨g, o + k * 14 + j, none⟩ = some v) ∧
      (∃ p l c, e.x = .slice p l c) ∧ (∃ p l c, e.y = .slice p l c) ∧ (∃ p l c, e.z = .slice p l c) := by
  obtain ⟨vs, h1, h2, h3, h4⟩ := h
  refine ⟨h1, ?_⟩
  rw [gsD_length] at h3
  rcases h2.1 with ⟨rfl, a, cap, rfl⟩ | ⟨g, o, cap, rfl, hE, hl, hm⟩
  · refine ⟨a, cap, by rw [← h3]; rfl, by rw [← h3]; simp, fun k hk => by rw [← h3] at hk; simp at hk⟩
  · refine ⟨some ⟨g, o, none⟩, cap, by rw [h3], by unfold maxLen at hm; omega, fun k hk => ⟨g, o, rfl, ?_⟩⟩
    obtain ⟨e, he, e1, e2, _⟩ := gs_get (vs := vs) (k := k) (by omega)
    have hok := h2.2 e (List.mem_of_getElem? he)
    obtain ⟨px, cx, hx, _⟩ := hok.1.1.form
    obtain ⟨py, cy, hy, _⟩ := hok.1.2.form
    obtain ⟨pz, cz, hz, _⟩ := hok.2.form
    exact ⟨e, by rw [← e1]; exact (h4 k).1, by rw [← e2]; exact (h4 k).2, hE k e he, ⟨_, _, _, hx⟩, ⟨_, _, _, hy⟩, ⟨_, _, _, hz⟩⟩

def outF (ds : List Gr) : Nat → Nat → List Nat
  | 0, _ => []
  | f + 1, g => if g = 0 then [] else g :: outF ds f (paAt ds g).toNat
def outs (ds : List Gr) (g : Nat) : List Nat := outF ds (depB ds (g : Int)).toNat g
theorem outs_root {ds : List Gr} (ht : treeB ds = true) : outs ds 0 = [] := by
  unfold outs
  cases (depB ds ((0 : Nat) : Int)).toNat with
  | zero => rfl
  | succ f => unfold outF; rw [if_pos rfl]
theorem outs_step {ds : List Gr} {i j : Nat} (h0 : i ≠ 0) (hp : paAt ds i = (j : Int)) (hd : depB ds (i : Int) = depB ds (j : Int) + 1) (hz : 0 ≤ depB ds (j : Int)) : outs ds i = i :: outs ds j := by
  unfold outs
  have : (depB ds (i : Int)).toNat = (depB ds (j : Int)).toNat + 1 := by omega
  rw [this]
  conv => lhs; unfold outF
  rw [if_neg h0, hp, Int.toNat_natCast]
def encN (x : Nat) : Array Value := #[.int .i64 (x : Int)]

theorem outward_gives (pw bw bg : Nat) (z : Value) (ds : List Gr) (i : Nat) (ht : treeB ds = true) (hi : i < 8) (hu : usAt ds i = true) (G : World → Prop) (W0 : World)
    (hG : ∀ W, G W → W.cell? ⟨bg, 0, none⟩ = some (.int .i64 (i : Int)) ∧ W.cell? ⟨bw, 0, none⟩ = some (.pointer (some ⟨pw, 0, none⟩)) ∧ GroupsAt W pw z ds) :
    Gives Tryz.prog 167 #[.pointer (some ⟨bg, 0, none⟩), .pointer (some ⟨bw, 0, none⟩)] encN (outs ds i) G W0 := by
  intro l J Jx W hW hJG hJ hJx hY h0
  refine (callsIn_wide (n := 9)).1 ?_
  refine callsIn_of_wp Tryz.func167 rfl trivial ?_ rfl
  simp only [Tryz.ntmps167, List.size_toArray, List.length_cons, List.length_nil, Nat.reduceAdd, Nat.reduceSub, Array.replicate_succ, Array.replicate_zero, List.push_toArray, List.append_toArray, List.nil_append, List.cons_append]
  obtain ⟨c1, c2, _⟩ := hG _ (hJG _ _ h0)
  have HJ := KeepsUp.refl W.heap.size W
  gi_wp2
  gi_loopw [4] (fun t wr => ∃ (j : Nat) (pre : List Nat), j < 8 ∧ usAt ds j = true ∧ t = .int .i64 (j : Int) ∧ outs ds i = pre ++ outs ds j ∧ 0 ≤ depB ds (j : Int) ∧ J pre wr ∧ KeepsUp W.heap.size W wr)
    (fun t _ => (depB ds (intOf t)).toNat)
  case atStart =>
    rcases tree_step ht hi hu with ⟨h1, h2⟩ | ⟨_, _, _, _, _, h2, h3, _⟩
    · exact ⟨i, [], hi, hu, rfl, by simp, by rw [h1, h2]; exact Int.le_refl _, h0, HJ⟩
    · exact ⟨i, [], hi, hu, rfl, by simp, by omega, h0, HJ⟩
  case round =>
    obtain ⟨j, pre, hj, uj, rfl, hx, hd0, hJs, hk⟩ := hrel
    rcases tree_step ht hj uj with ⟨rfl, hd⟩ | ⟨hj0, j', hp, hj', uj', hd, hd', _⟩
    · rw [outs_root ht] at hx
      gi_wp2
      go_end0
      exact ⟨⟨_, rfl⟩, hk, .inl (by rw [hx, List.append_nil]; exact hJs)⟩
    · have hj0' : ¬ (j : Int) = 0 := by omega
      rw [outs_step hj0 hp hd hd'] at hx
      obtain ⟨fn, tmps, assign, body, hy, hR⟩ := hY pre j (outs ds j') wr hx hJs
      have hR := hR none 8
      unfold encN at hy
      gi_wp2
      refine hR.mono ?_
      rintro e W3 ⟨hk3, (⟨rfl, hJ3⟩ | ⟨rfl, hJx3⟩)⟩
      · obtain ⟨_, d2, d3⟩ := hG _ (hJG _ _ hJ3)
        obtain ⟨d4, p, cap, rfl, hlen, hrow⟩ := groups_read d3
        obtain ⟨g, o, rfl, e, _, e2, hc, _⟩ := hrow j (by rw [(tree_facts ht).1]; exact hj)
        have d5 := hc 1 _ rfl
        have hl8 := (tree_facts ht).1
        rw [e2, hp] at d5
        rw [hl8] at d4
        gi_wp2
        go_roundw
        case rel => exact ⟨j', pre ++ [j], hj', uj', rfl, by rw [hx]; simp, hd', hJ3, hk.trans hk3⟩
        case measure => simp only [intOf, hd]; omega
      · gi_wp2
        refine bodyPost_ret (results_none rfl _ _ _) rfl ?_
        exact ⟨⟨_, rfl⟩, hk.trans hk3, .inr ⟨_, hJx3⟩⟩

def innerTo (ds : List Gr) (k : Nat) : List Nat := (List.range k).filter (fun i => usAt ds i && decide (i ≠ 0))
def inners (ds : List Gr) : List Nat := innerTo ds ds.length
theorem innerTo_succ (ds : List Gr) (k : Nat) : innerTo ds (k + 1) = innerTo ds k ++ (if (usAt ds k && decide (k ≠ 0)) = true then [k] else []) := by
  unfold innerTo
  rw [List.range_succ, List.filter_append]
  congr 1
  by_cases h : (usAt ds k && decide (k ≠ 0)) = true
  · rw [if_pos h]; simp only [List.filter_cons, h, if_true, List.filter_nil]
  · rw [if_neg h]; simp only [List.filter_cons, h, List.filter_nil]; rfl
theorem innerTo_pre (ds : List Gr) {k n : Nat} (h : k ≤ n) : ∃ post, innerTo ds n = innerTo ds k ++ post := by
  obtain ⟨d, rfl⟩ := Nat.exists_eq_add_of_le h
  unfold innerTo
  rw [List.range_add, List.filter_append]
  exact ⟨_, rfl⟩

theorem inner_gives (pw bw : Nat) (z : Value) (ds : List Gr) (G : World → Prop) (W0 : World)
    (hG : ∀ W, G W → W.cell? ⟨bw, 0, none⟩ = some (.pointer (some ⟨pw, 0, none⟩)) ∧ GroupsAt W pw z ds) :
    Gives Tryz.prog 177 #[.pointer (some ⟨bw, 0, none⟩)] encN (inners ds) G W0 := by
  intro l J Jx W hW hJG hJ hJx hY h0
  refine (callsIn_wide (n := 9)).1 ?_
  refine callsIn_of_wp Tryz.func177 rfl trivial ?_ rfl
  simp only [Tryz.ntmps177, List.size_toArray, List.length_cons, List.length_nil, Nat.reduceAdd, Nat.reduceSub, Array.replicate_succ, Array.replicate_zero, List.push_toArray, List.append_toArray, List.nil_append, List.cons_append]
  obtain ⟨c1, c2⟩ := hG _ (hJG _ _ h0)
  have HJ := KeepsUp.refl W.heap.size W
  obtain ⟨c3, p, cap, rfl, hlen, _⟩ := groups_read c2
  have HG : Hid (∀ wr pre, J pre wr → ∀ k, k < ds.length → ∃ g o, p = some ⟨g, o, none⟩ ∧ ∃ e : Gv, e.d.us = usAt ds k ∧ (∀ j v, (gvC e)[j]? = some v → wr.cell? ⟨g, o + k * 14 + j, none⟩ = some v) ∧ (∃ p l c, e.x = .slice p l c) ∧ (∃ p l c, e.y = .slice p l c) ∧ (∃ p l c, e.z = .slice p l c)) := by
    intro wr pre hj k hk
    obtain ⟨_, p', cap', e1, _, h3⟩ := groups_read (hG _ (hJG _ _ hj)).2
    simp only [Value.slice.injEq] at e1
    obtain ⟨rfl, _, _⟩ := e1
    obtain ⟨g, o, h4, e, h5, _, h6, h7⟩ := h3 k hk
    exact ⟨g, o, h4, e, h5, h6, h7⟩
  clear c2
  gi_wp2
  clear c3
  gi_loopw [10] (fun t wr => ∃ k : Nat, k ≤ ds.length ∧ t = .int .i64 (k : Int) ∧ J (innerTo ds k) wr ∧ KeepsUp W.heap.size W wr)
    (fun t _ => ds.length - (intOf t).toNat)
  case atStart => exact ⟨0, by omega, rfl, h0, HJ⟩
  case round =>
    obtain ⟨k, hk, rfl, hJs, hkf⟩ := hrel
    by_cases hlt : k < ds.length
    · have hlt' : (k : Int) < (ds.length : Int) := by omega
      obtain ⟨g, o, hp, e, e1, hc, ⟨q1, l1, k1, f1⟩, ⟨q2, l2, k2, f2⟩, ⟨q3, l3, k3, f3⟩⟩ := HG.out _ _ hJs k hlt
      subst hp
      obtain ⟨x0, x1, x2, x3, x4, x5, x6, x7, x8, x9, x10, x11, x12, x13⟩ := gv_cells (W := wr) (g := g) (o := o + k * 14) (e := e) hc
      rw [e1] at x0
      rw [f1] at x11
      rw [f2] at x12
      rw [f3] at x13
      clear hc f1 f2 f3 e1
      have hsucc := innerTo_succ ds k
      cases hu : usAt ds k
      · rw [hu] at x0
        rw [hu] at hsucc
        simp only [Bool.false_and, if_neg Bool.false_ne_true, List.append_nil] at hsucc
        have HS : Hid (innerTo ds (k + 1) = innerTo ds k) := hsucc
        clear hsucc
        gi_wp2
        refine ⟨fun _ h => (by cases h), ?_⟩
        gi_wp2
        go_roundw
        case rel => exact ⟨k + 1, by omega, by go_num, by rw [HS.out]; exact hJ.alloc _ hJs, hkf.trans (KeepsUp.alloc _ _ _)⟩
        case measure => simp [intOf]; omega
      · by_cases h0 : k = 0
        · rw [hu] at x0
          rw [if_neg (by simp [h0]), List.append_nil] at hsucc
          subst h0
          have HS : Hid (innerTo ds (0 + 1) = innerTo ds 0) := hsucc
          simp only [Nat.zero_mul, Nat.add_zero] at x0 x1 x2 x3 x4 x5 x6 x7 x8 x9 x10 x11 x12 x13
          clear hsucc
          gi_wp2
          refine ⟨fun _ h => (by cases h), ?_⟩
          gi_wp2
          go_roundw
          case rel => exact ⟨0 + 1, by omega, rfl, by rw [HS.out]; exact hJ.alloc _ hJs, hkf.trans (KeepsUp.alloc _ _ _)⟩
          case measure => simp [intOf]; omega
        · rw [hu] at x0
          have hk0 : ¬ (k : Int) = 0 := by omega
          rw [if_pos (by simp [hu, h0])] at hsucc
          obtain ⟨post, hpost⟩ := innerTo_pre ds (k := k + 1) (n := ds.length) (by omega)
          rw [hsucc, List.append_assoc] at hpost
          obtain ⟨fn, tmps, assign, body, hy, hR⟩ := hY (innerTo ds k) k post (wr.alloc (.cells #[.bool true, .int .i64 e.d.pa, .string e.d.na, .int .i64 e.d.we, .int .i64 e.d.cp, .int .i64 e.d.pe, .int .i64 e.d.ne, .int .i64 e.d.su, .int .i64 e.d.ba.qu, .int .i64 e.d.ba.po, .int .i64 e.d.ba.sp, .slice q1 l1 k1, .slice q2 l2 k2, .slice q3 l3 k3] 84)) hpost (hJ.alloc _ hJs)
          have hR := hR none 8
          unfold encN at hy
          gi_wp2
          refine hR.mono ?_
          rintro e' W3 ⟨hk3, (⟨rfl, hJ3⟩ | ⟨rfl, hJx3⟩)⟩
          · gi_wp2
            go_roundw
            case rel => exact ⟨k + 1, by omega, by go_num, by rw [hsucc]; exact hJ3, (hkf.trans (KeepsUp.alloc _ _ _)).trans hk3⟩
            case measure => simp [intOf]; omega
          · gi_wp2
            refine bodyPost_ret (results_none rfl _ _ _) rfl ?_
            exact ⟨⟨_, rfl⟩, (hkf.trans (KeepsUp.alloc _ _ _)).trans hk3, .inr ⟨_, hJx3⟩⟩
    · have hlt' : ¬ (k : Int) < (ds.length : Int) := by omega
      obtain rfl : k = ds.length := by omega
      gi_wp2
      go_end0
      exact ⟨⟨_, rfl⟩, hkf, .inl hJs⟩
end Go.Proofs.YtnmmglkigiakaaaGreat
