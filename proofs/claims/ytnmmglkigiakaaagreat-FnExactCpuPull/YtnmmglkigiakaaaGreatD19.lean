/- The program: what a group and all that it is in leave to its tasks. The program: where a task may be; whether one stands within its lag; whether a group is to stand. The program: whether a group stands within its lag, whether it is to stand. The program: whether a task is in line. The program: processors, and who is in line there. The program: a processor as it lies in memory. The program: whether a task is in line on a processor. Chapter 12 as plain functions: weights of tasks together, who is in line, who is within a group, shares. The program: weights of tasks, together; who is under a group. -/
import Derived.Test.YtnmmglkigiakaaaGreatD16
import Derived.Test.YtnmmglkigiakaaaGreatD18
namespace Go.Proofs.YtnmmglkigiakaaaGreat
set_option maxRecDepth 100000
set_option maxHeartbeats 32000000
set_option linter.unusedVariables false
set_option linter.unusedSimpArgs false
open Go.ChangeShapes Go.WideShapes Go.ChangeAt Go.RowKit Go.Shelf Go.Sort
attribute [local go_sem] Oper.semAt_some
theorem below_at {W W' : World} (h : Below W.heap.size W W') {b : Nat} {o : Obj} (ho : W.heap[b]? = some o) : W'.heap[b]? = some o := (h.block b (Array.getElem?_eq_some_iff.1 ho).1).trans ho
def cpAt (ds : List Gr) (k : Nat) : Int := ((ds[k]?).map (·.cp)).getD 0
theorem cpAt_eq {gs : List Gv} {k : Nat} {e : Gv} (h : gs[k]? = some e) : cpAt (gsD gs) k = e.d.cp := by unfold cpAt; rw [gsD_at h]; rfl
def andS (ds : List Gr) (s : Int) (k : Nat) : Int := bits BinOp.and .i64 s (cpAt ds k)
def pinsM (cs : List Cp) (ds : List Gr) (g : Nat) : Int := (outs ds g).foldl (andS ds) (andS ds (upsM cs) 0)
theorem out_used {ds : List Gr} (ht : treeB ds = true) : ∀ (d i : Nat), i < 8 → usAt ds i = true → (depB ds (i : Int)).toNat ≤ d → ∀ k ∈ outs ds i, k < 8 ∧ usAt ds k = true ∧ k ≠ 0 := by
  intro d
  induction d with
  | zero =>
    intro i hi hu hd k hk
    rcases tree_step ht hi hu with ⟨rfl, _⟩ | ⟨h0, j, hp, hj, uj, hd1, hz, _⟩
    · rw [outs_root ht] at hk; cases hk
    · omega
  | succ d ih =>
    intro i hi hu hd k hk
    rcases tree_step ht hi hu with ⟨rfl, _⟩ | ⟨h0, j, hp, hj, uj, hd1, hz, _⟩
    · rw [outs_root ht] at hk; cases hk
    · rw [outs_step h0 hp hd1 hz] at hk
      rcases List.mem_cons.1 hk with rfl | hk
      · exact ⟨hi, hu, h0⟩
      · exact ih j hj uj (by omega) k hk
theorem outs_used {ds : List Gr} (ht : treeB ds = true) {i k : Nat} (hi : i < 8) (hu : usAt ds i = true) (hk : k ∈ outs ds i) : k < 8 ∧ usAt ds k = true ∧ k ≠ 0 := out_used ht _ i hi hu (Nat.le_refl _) k hk

theorem pins_any (pw g : Nat) (u : Wv) (w : World) (hA : AtW w pw u) (hn : u.cs.length ≤ 4) (ht : treeB (gsD u.gs) = true) (hg : g < 8) (hu : usAt (gsD u.gs) g = true) :
    Calls Tryz.prog 174 #[ptr pw, .int .i64 (g : Int)] w fun e w' => e = .returned (.int .i64 (pinsM u.cs (gsD u.gs) g)) ∧ Below w.heap.size w w' := by
  have mixed : Tryz.prog.follows Departure.mixedOrders = true := by kernel_rfl
  have hfn : ∀ f, Fence.wide.fn f := fun _ => trivial
  have h8 := (tree_facts ht).1
  rw [gsD_length] at h8
  obtain ⟨e, he⟩ := row_get (xs := u.gs) (k := 0) (by omega)
  obtain ⟨gr, go, cap, w3, hc, hz0, hlen⟩ := hA.cellsG he
  have H8 : Hid (u.gs.length = 8) := h8
  clear h8
  obtain ⟨_, _, _, _, y4, _⟩ := gv_cells hc
  simp only [Nat.zero_mul, Nat.add_zero] at y4
  have hcp := cpAt_eq he
  have hpw := hA.lt
  have hgr := block_lt_of_cell y4
  refine (callsIn_wide (n := 9)).1 ?_
  refine callsIn_of_wp_marks Tryz.func174 rfl trivial ?_ rfl
  unfold ptr
  simp only [Tryz.ntmps174, List.size_toArray, List.length_cons, List.length_nil, Nat.reduceAdd, Nat.reduceSub, Array.replicate_succ, Array.replicate_zero, List.push_toArray, List.append_toArray, List.nil_append, List.cons_append]
  gi_wp2
  obtain ⟨n0, hn0'⟩ : ∃ n0, n0 = w.heap.size := ⟨_, rfl⟩
  rw [← hn0']
  have HN : Hid (n0 = w.heap.size) := hn0'
  obtain ⟨W1, hW1⟩ : ∃ W1, w.alloc (.cells #[.pointer (some ⟨pw, 0, none⟩)] 51) = W1 := ⟨_, rfl⟩
  have B0 : Below w.heap.size w W1 := by rw [← hW1]; exact (Below.refl _ _).alloc (Nat.le_refl _) _
  have q0 : W1.cell? ⟨n0, 0, none⟩ = some (.pointer (some ⟨pw, 0, none⟩)) := by rw [← hW1, hn0']; exact (Msk.cell_new_l w _ _).1
  have hn0 : n0 < W1.heap.size := by rw [← hW1, hn0']; simp
  replace w3 := (B0.cell (p := ⟨pw, 3, none⟩) hpw).trans w3
  replace y4 := (B0.cell (p := ⟨gr, go + 4, none⟩) hgr).trans y4
  replace hpw : pw < W1.heap.size := Nat.lt_of_lt_of_le hpw B0.size
  replace hgr : gr < W1.heap.size := Nat.lt_of_lt_of_le hgr B0.size
  replace hA := hA.below B0
  simp only [hW1]
  clear hc hn0' hW1
  refine region_invIn mixed (by kernel_rfl) (fun L a y => ∃ s5 s7 s8 s9 s10 s11 s12 s13 s14 s15 s16 : Value, a = { tmps := #[.pointer (some ⟨pw, 0, none⟩), .int .i64 (g : Int), .pointer (some ⟨n0, 0, none⟩), undef, .int .i64 0, s5, undef, s7, s8, s9, s10, s11, s12, s13, s14, s15, s16, undef, undef, undef, undef, undef, undef, undef, undef, undef, undef, undef, undef, undef, undef, undef], defers := [] } ∧ Below W1.heap.size W1 y ∧ (L 0 = true → s7 = .pointer (some ⟨pw, 0, none⟩)) ∧ (L 1 = true → s8 = .int .i64 (upsM u.cs)) ∧ (L 2 = true → s9 = .pointer (some ⟨pw, 0, none⟩)) ∧ (L 3 = true → s10 = .pointer (some ⟨pw, 0, none⟩)) ∧ (L 4 = true → s11 = .pointer (some ⟨pw, 3, none⟩)) ∧ (L 5 = true → s12 = .slice (some ⟨gr, go, none⟩) u.gs.length cap) ∧ (L 6 = true → s13 = .pointer (some ⟨gr, go, none⟩)) ∧ (L 7 = true → s14 = .pointer (some ⟨gr, go + 4, none⟩)) ∧ (L 8 = true → s15 = .int .i64 e.d.cp) ∧ (L 9 = true → s16 = .int .i64 (bits BinOp.and .i64 (upsM u.cs) e.d.cp)) ∧
      (L 10 = true → ∃ B, s5 = .pointer (some ⟨B, 0, none⟩) ∧ W1.heap.size ≤ B ∧ (L 11 = false → y.heap[B]? = some (.cells #[.int .i64 0] 63 (0, 0))) ∧ (L 11 = true → y.heap[B]? = some (.cells #[.int .i64 (bits BinOp.and .i64 (upsM u.cs) e.d.cp)] 63 (0, 0)))) ∧ (L 11 = true → L 10 = true)) ?rh0 ?rstep ?rdone
  case rh0 => exact ⟨_, _, _, _, _, _, _, _, _, _, _, rfl, (Below.refl _ _).drew, (fun h => by cases h), (fun h => by cases h), (fun h => by cases h), (fun h => by cases h), (fun h => by cases h), (fun h => by cases h), (fun h => by cases h), (fun h => by cases h), (fun h => by cases h), (fun h => by cases h), (fun h => by cases h), (fun h => by cases h)⟩
  case rstep =>
    rintro i o ho L a y ⟨s5, s7, s8, s9, s10, s11, s12, s13, s14, s15, s16, rfl, acc, f0, f1, f2, f3, f4, f5, f6, f7, f8, f9, fb, fc⟩ hL' hpre K hK
    have hi' : i = 0 ∨ i = 1 ∨ i = 2 ∨ i = 3 ∨ i = 4 ∨ i = 5 ∨ i = 6 ∨ i = 7 ∨ i = 8 ∨ i = 9 ∨ i = 10 ∨ i = 11 := by
      have : i < 12 := by
        rcases Nat.lt_or_ge i 12 with h' | h'
        · exact h'
        · rw [Array.getElem?_eq_none (by simpa using h')] at ho; cases ho
      omega
    rcases hi' with rfl | rfl | rfl | rfl | rfl | rfl | rfl | rfl | rfl | rfl | rfl | rfl
    all_goals (obtain rfl := Option.some.inj ho; clear ho; simp [Region.binds] at hpre)
    · have hq := (acc.cell (p := ⟨n0, 0, none⟩) hn0).trans q0
      go_simp
      exact hK _ _ ⟨_, _, _, _, _, _, _, _, _, _, _, rfl, acc, (fun _ => by first | rfl | trivial), (fun h => by first | rfl | exact f1 (by simpa [setL] using h)), (fun h => by first | rfl | exact f2 (by simpa [setL] using h)), (fun h => by first | rfl | exact f3 (by simpa [setL] using h)), (fun h => by first | rfl | exact f4 (by simpa [setL] using h)), (fun h => by first | rfl | exact f5 (by simpa [setL] using h)), (fun h => by first | rfl | exact f6 (by simpa [setL] using h)), (fun h => by first | rfl | exact f7 (by simpa [setL] using h)), (fun h => by first | rfl | exact f8 (by simpa [setL] using h)), (fun h => by first | rfl | exact f9 (by simpa [setL] using h)), (fun h => by obtain ⟨B, b1, b2, b3, b4⟩ := fb (by simpa [setL] using h); exact ⟨B, b1, b2, fun h =>  (b3 (by simpa [setL] using h)), fun h =>  (b4 (by simpa [setL] using h))⟩), (fun h => by simpa [setL] using fc (by simpa [setL] using h))⟩
    · obtain rfl := f0 hpre
      go_simp
      refine (calls_fw (impl_ups pw u _ (hA.below acc) hn)).mono ?_
      rintro e' y2 ⟨rfl, hb⟩
      exact hK _ _ ⟨_, _, _, _, _, _, _, _, _, _, _, rfl, acc.trans (hb.mono acc.size), (fun h => by first | rfl | exact f0 (by simpa [setL] using h)), (fun _ => by first | rfl | trivial), (fun h => by first | rfl | exact f2 (by simpa [setL] using h)), (fun h => by first | rfl | exact f3 (by simpa [setL] using h)), (fun h => by first | rfl | exact f4 (by simpa [setL] using h)), (fun h => by first | rfl | exact f5 (by simpa [setL] using h)), (fun h => by first | rfl | exact f6 (by simpa [setL] using h)), (fun h => by first | rfl | exact f7 (by simpa [setL] using h)), (fun h => by first | rfl | exact f8 (by simpa [setL] using h)), (fun h => by first | rfl | exact f9 (by simpa [setL] using h)), (fun h => by obtain ⟨B, b1, b2, b3, b4⟩ := fb (by simpa [setL] using h); exact ⟨B, b1, b2, fun h => below_at hb (b3 (by simpa [setL] using h)), fun h => below_at hb (b4 (by simpa [setL] using h))⟩), (fun h => by simpa [setL] using fc (by simpa [setL] using h))⟩
    · have hq := (acc.cell (p := ⟨n0, 0, none⟩) hn0).trans q0
      go_simp
      exact hK _ _ ⟨_, _, _, _, _, _, _, _, _, _, _, rfl, acc, (fun h => by first | rfl | exact f0 (by simpa [setL] using h)), (fun h => by first | rfl | exact f1 (by simpa [setL] using h)), (fun _ => by first | rfl | trivial), (fun h => by first | rfl | exact f3 (by simpa [setL] using h)), (fun h => by first | rfl | exact f4 (by simpa [setL] using h)), (fun h => by first | rfl | exact f5 (by simpa [setL] using h)), (fun h => by first | rfl | exact f6 (by simpa [setL] using h)), (fun h => by first | rfl | exact f7 (by simpa [setL] using h)), (fun h => by first | rfl | exact f8 (by simpa [setL] using h)), (fun h => by first | rfl | exact f9 (by simpa [setL] using h)), (fun h => by obtain ⟨B, b1, b2, b3, b4⟩ := fb (by simpa [setL] using h); exact ⟨B, b1, b2, fun h =>  (b3 (by simpa [setL] using h)), fun h =>  (b4 (by simpa [setL] using h))⟩), (fun h => by simpa [setL] using fc (by simpa [setL] using h))⟩
    · obtain rfl := f2 hpre
      go_simp
      exact hK _ _ ⟨_, _, _, _, _, _, _, _, _, _, _, rfl, acc, (fun h => by first | rfl | exact f0 (by simpa [setL] using h)), (fun h => by first | rfl | exact f1 (by simpa [setL] using h)), (fun h => by first | rfl | exact f2 (by simpa [setL] using h)), (fun _ => by first | rfl | trivial), (fun h => by first | rfl | exact f4 (by simpa [setL] using h)), (fun h => by first | rfl | exact f5 (by simpa [setL] using h)), (fun h => by first | rfl | exact f6 (by simpa [setL] using h)), (fun h => by first | rfl | exact f7 (by simpa [setL] using h)), (fun h => by first | rfl | exact f8 (by simpa [setL] using h)), (fun h => by first | rfl | exact f9 (by simpa [setL] using h)), (fun h => by obtain ⟨B, b1, b2, b3, b4⟩ := fb (by simpa [setL] using h); exact ⟨B, b1, b2, fun h =>  (b3 (by simpa [setL] using h)), fun h =>  (b4 (by simpa [setL] using h))⟩), (fun h => by simpa [setL] using fc (by simpa [setL] using h))⟩
    · obtain rfl := f3 hpre
      go_simp
      exact hK _ _ ⟨_, _, _, _, _, _, _, _, _, _, _, rfl, acc, (fun h => by first | rfl | exact f0 (by simpa [setL] using h)), (fun h => by first | rfl | exact f1 (by simpa [setL] using h)), (fun h => by first | rfl | exact f2 (by simpa [setL] using h)), (fun h => by first | rfl | exact f3 (by simpa [setL] using h)), (fun _ => by first | rfl | trivial), (fun h => by first | rfl | exact f5 (by simpa [setL] using h)), (fun h => by first | rfl | exact f6 (by simpa [setL] using h)), (fun h => by first | rfl | exact f7 (by simpa [setL] using h)), (fun h => by first | rfl | exact f8 (by simpa [setL] using h)), (fun h => by first | rfl | exact f9 (by simpa [setL] using h)), (fun h => by obtain ⟨B, b1, b2, b3, b4⟩ := fb (by simpa [setL] using h); exact ⟨B, b1, b2, fun h =>  (b3 (by simpa [setL] using h)), fun h =>  (b4 (by simpa [setL] using h))⟩), (fun h => by simpa [setL] using fc (by simpa [setL] using h))⟩
    · obtain rfl := f4 hpre
      have hq := (acc.cell (p := ⟨pw, 3, none⟩) hpw).trans w3
      go_simp
      exact hK _ _ ⟨_, _, _, _, _, _, _, _, _, _, _, rfl, acc, (fun h => by first | rfl | exact f0 (by simpa [setL] using h)), (fun h => by first | rfl | exact f1 (by simpa [setL] using h)), (fun h => by first | rfl | exact f2 (by simpa [setL] using h)), (fun h => by first | rfl | exact f3 (by simpa [setL] using h)), (fun h => by first | rfl | exact f4 (by simpa [setL] using h)), (fun _ => by first | rfl | trivial), (fun h => by first | rfl | exact f6 (by simpa [setL] using h)), (fun h => by first | rfl | exact f7 (by simpa [setL] using h)), (fun h => by first | rfl | exact f8 (by simpa [setL] using h)), (fun h => by first | rfl | exact f9 (by simpa [setL] using h)), (fun h => by obtain ⟨B, b1, b2, b3, b4⟩ := fb (by simpa [setL] using h); exact ⟨B, b1, b2, fun h =>  (b3 (by simpa [setL] using h)), fun h =>  (b4 (by simpa [setL] using h))⟩), (fun h => by simpa [setL] using fc (by simpa [setL] using h))⟩
    · obtain rfl := f5 hpre
      go_simp
      exact hK _ _ ⟨_, _, _, _, _, _, _, _, _, _, _, rfl, acc, (fun h => by first | rfl | exact f0 (by simpa [setL] using h)), (fun h => by first | rfl | exact f1 (by simpa [setL] using h)), (fun h => by first | rfl | exact f2 (by simpa [setL] using h)), (fun h => by first | rfl | exact f3 (by simpa [setL] using h)), (fun h => by first | rfl | exact f4 (by simpa [setL] using h)), (fun h => by first | rfl | exact f5 (by simpa [setL] using h)), (fun _ => by first | rfl | trivial), (fun h => by first | rfl | exact f7 (by simpa [setL] using h)), (fun h => by first | rfl | exact f8 (by simpa [setL] using h)), (fun h => by first | rfl | exact f9 (by simpa [setL] using h)), (fun h => by obtain ⟨B, b1, b2, b3, b4⟩ := fb (by simpa [setL] using h); exact ⟨B, b1, b2, fun h =>  (b3 (by simpa [setL] using h)), fun h =>  (b4 (by simpa [setL] using h))⟩), (fun h => by simpa [setL] using fc (by simpa [setL] using h))⟩
    · obtain rfl := f6 hpre
      go_simp
      exact hK _ _ ⟨_, _, _, _, _, _, _, _, _, _, _, rfl, acc, (fun h => by first | rfl | exact f0 (by simpa [setL] using h)), (fun h => by first | rfl | exact f1 (by simpa [setL] using h)), (fun h => by first | rfl | exact f2 (by simpa [setL] using h)), (fun h => by first | rfl | exact f3 (by simpa [setL] using h)), (fun h => by first | rfl | exact f4 (by simpa [setL] using h)), (fun h => by first | rfl | exact f5 (by simpa [setL] using h)), (fun h => by first | rfl | exact f6 (by simpa [setL] using h)), (fun _ => by first | rfl | trivial), (fun h => by first | rfl | exact f8 (by simpa [setL] using h)), (fun h => by first | rfl | exact f9 (by simpa [setL] using h)), (fun h => by obtain ⟨B, b1, b2, b3, b4⟩ := fb (by simpa [setL] using h); exact ⟨B, b1, b2, fun h =>  (b3 (by simpa [setL] using h)), fun h =>  (b4 (by simpa [setL] using h))⟩), (fun h => by simpa [setL] using fc (by simpa [setL] using h))⟩
    · obtain rfl := f7 hpre
      have hq := (acc.cell (p := ⟨gr, go + 4, none⟩) hgr).trans y4
      go_simp
      exact hK _ _ ⟨_, _, _, _, _, _, _, _, _, _, _, rfl, acc, (fun h => by first | rfl | exact f0 (by simpa [setL] using h)), (fun h => by first | rfl | exact f1 (by simpa [setL] using h)), (fun h => by first | rfl | exact f2 (by simpa [setL] using h)), (fun h => by first | rfl | exact f3 (by simpa [setL] using h)), (fun h => by first | rfl | exact f4 (by simpa [setL] using h)), (fun h => by first | rfl | exact f5 (by simpa [setL] using h)), (fun h => by first | rfl | exact f6 (by simpa [setL] using h)), (fun h => by first | rfl | exact f7 (by simpa [setL] using h)), (fun _ => by first | rfl | trivial), (fun h => by first | rfl | exact f9 (by simpa [setL] using h)), (fun h => by obtain ⟨B, b1, b2, b3, b4⟩ := fb (by simpa [setL] using h); exact ⟨B, b1, b2, fun h =>  (b3 (by simpa [setL] using h)), fun h =>  (b4 (by simpa [setL] using h))⟩), (fun h => by simpa [setL] using fc (by simpa [setL] using h))⟩
    · obtain rfl := f1 hpre.1
      obtain rfl := f8 hpre.2
      go_simp
      exact hK _ _ ⟨_, _, _, _, _, _, _, _, _, _, _, rfl, acc, (fun h => by first | rfl | exact f0 (by simpa [setL] using h)), (fun h => by first | rfl | exact f1 (by simpa [setL] using h)), (fun h => by first | rfl | exact f2 (by simpa [setL] using h)), (fun h => by first | rfl | exact f3 (by simpa [setL] using h)), (fun h => by first | rfl | exact f4 (by simpa [setL] using h)), (fun h => by first | rfl | exact f5 (by simpa [setL] using h)), (fun h => by first | rfl | exact f6 (by simpa [setL] using h)), (fun h => by first | rfl | exact f7 (by simpa [setL] using h)), (fun h => by first | rfl | exact f8 (by simpa [setL] using h)), (fun _ => by first | rfl | trivial), (fun h => by obtain ⟨B, b1, b2, b3, b4⟩ := fb (by simpa [setL] using h); exact ⟨B, b1, b2, fun h =>  (b3 (by simpa [setL] using h)), fun h =>  (b4 (by simpa [setL] using h))⟩), (fun h => by simpa [setL] using fc (by simpa [setL] using h))⟩
    · go_simp
      exact hK _ _ ⟨_, _, _, _, _, _, _, _, _, _, _, rfl, acc.alloc acc.size _, (fun h => by first | rfl | exact f0 (by simpa [setL] using h)), (fun h => by first | rfl | exact f1 (by simpa [setL] using h)), (fun h => by first | rfl | exact f2 (by simpa [setL] using h)), (fun h => by first | rfl | exact f3 (by simpa [setL] using h)), (fun h => by first | rfl | exact f4 (by simpa [setL] using h)), (fun h => by first | rfl | exact f5 (by simpa [setL] using h)), (fun h => by first | rfl | exact f6 (by simpa [setL] using h)), (fun h => by first | rfl | exact f7 (by simpa [setL] using h)), (fun h => by first | rfl | exact f8 (by simpa [setL] using h)), (fun h => by first | rfl | exact f9 (by simpa [setL] using h)), (fun _ => ⟨y.heap.size, rfl, acc.size, fun _ => World.alloc_heap_new y _, fun h => by have := fc (by simpa [setL] using h); rw [this] at hL'; cases hL'⟩), (fun _ => by simp [setL])⟩
    · obtain rfl := f9 hpre.2.1
      obtain ⟨B, rfl, b2, b3, b4⟩ := fb hpre.1
      have hbx := b3 hL'
      have hc0 := (Msk.cell_of_box_l hbx).1
      have hf0 := (Msk.cell_of_box_l hbx).2
      go_simp
      exact hK _ _ ⟨_, _, _, _, _, _, _, _, _, _, _, rfl, acc.setCell (p := ⟨B, 0, none⟩) b2 _, (fun h => by first | rfl | exact f0 (by simpa [setL] using h)), (fun h => by first | rfl | exact f1 (by simpa [setL] using h)), (fun h => by first | rfl | exact f2 (by simpa [setL] using h)), (fun h => by first | rfl | exact f3 (by simpa [setL] using h)), (fun h => by first | rfl | exact f4 (by simpa [setL] using h)), (fun h => by first | rfl | exact f5 (by simpa [setL] using h)), (fun h => by first | rfl | exact f6 (by simpa [setL] using h)), (fun h => by first | rfl | exact f7 (by simpa [setL] using h)), (fun h => by first | rfl | exact f8 (by simpa [setL] using h)), (fun h => by first | rfl | exact f9 (by simpa [setL] using h)), (fun _ => ⟨B, rfl, b2, fun h => by simp [setL] at h, fun _ => (show Boxed y B _ _ from hbx).set _⟩), (fun _ => by simpa [setL] using hpre.1)⟩
  case rdone =>
    rintro L a y hall ⟨s5, s7, s8, s9, s10, s11, s12, s13, s14, s15, s16, rfl, acc, f0, f1, f2, f3, f4, f5, f6, f7, f8, f9, fb, fc⟩
    have hL : ∀ i, i < 12 → L i = true := fun i hi => hall i (by simpa using hi)
    obtain ⟨B, rfl, b2, _, b4⟩ := fb (hL 10 (by decide))
    have hbx := b4 (hL 11 (by decide))
    obtain rfl := f0 (hL 0 (by decide))
    obtain rfl := f1 (hL 1 (by decide))
    obtain rfl := f2 (hL 2 (by decide))
    obtain rfl := f3 (hL 3 (by decide))
    obtain rfl := f4 (hL 4 (by decide))
    obtain rfl := f5 (hL 5 (by decide))
    obtain rfl := f6 (hL 6 (by decide))
    obtain rfl := f7 (hL 7 (by decide))
    obtain rfl := f8 (hL 8 (by decide))
    obtain rfl := f9 (hL 9 (by decide))
    clear f0 f1 f2 f3 f4 f5 f6 f7 f8 f9 fb fc hall hL b4
    have hBy : B < y.heap.size := (Array.getElem?_eq_some_iff.1 hbx).1
    have hn0y : n0 < y.heap.size := Nat.lt_of_lt_of_le hn0 acc.size
    have hq := (acc.cell (p := ⟨n0, 0, none⟩) hn0).trans q0
    gi_wp2_with (gi_at_call 132; refine (calls_fw (mk_outward pw (g : Int) _)).mono ?_; rintro e' w' ⟨rfl, rfl⟩; simp only [ptr])
    obtain ⟨w2, hw2⟩ : ∃ w2, ((y.alloc (.cells #[.pointer (some ⟨pw, 0, none⟩)] 51)).alloc (.cells #[.int .i64 (g : Int)] 3)) = w2 := ⟨_, rfl⟩
    have z2 : w2.heap.size = y.heap.size + 2 := by rw [← hw2]; simp
    have y1 : Boxed w2 B 63 (.int .i64 (andS (gsD u.gs) (upsM u.cs) 0)) := by
      unfold andS; rw [hcp, ← hw2]; exact (Below.heap_alloc _ _ _ (by simp; omega)).trans ((Below.heap_alloc _ _ _ hBy).trans hbx)
    have y2 : Boxed w2 y.heap.size 51 (ptr pw) := by rw [← hw2]; exact (Below.heap_alloc _ _ _ (by simp)).trans (World.alloc_heap_new y _)
    have y3 : IBox w2 (y.heap.size + 1) (g : Int) := by rw [← hw2]; have := World.alloc_heap_new (y.alloc (.cells #[.pointer (some ⟨pw, 0, none⟩)] 51)) (.cells #[.int .i64 (g : Int)] 3); rwa [World.size_alloc] at this
    have yB : Below W1.heap.size W1 w2 := by rw [← hw2]; exact (acc.alloc acc.size _).alloc (by have := acc.size; simp; omega) _
    simp only [hw2, World.size_alloc]
    clear hw2 hbx hq
    refine range_own (xs := outs (gsD u.gs) g) (encs := encN) (gf := 167) (lb := #[ptr (y.heap.size + 1), ptr y.heap.size]) (W0 := y) (G := fun W' => W'.cell? ⟨y.heap.size + 1, 0, none⟩ = some (.int .i64 (g : Int)) ∧ W'.cell? ⟨y.heap.size, 0, none⟩ = some (.pointer (some ⟨pw, 0, none⟩)) ∧ GroupsAt W' pw u.z (gsD u.gs))
      (outward_gives pw y.heap.size (y.heap.size + 1) u.z (gsD u.gs) g ht hg hu _ y (fun W' h => h)) (by omega) rfl (enters_of Tryz.func167 (by kernel_rfl) rfl) (fun _ => rfl)
      (fun pre W' => Boxed W' B 63 (.int .i64 (pre.foldl (andS (gsD u.gs)) (andS (gsD u.gs) (upsM u.cs) 0))) ∧ Boxed W' y.heap.size 51 (ptr pw) ∧ IBox W' (y.heap.size + 1) (g : Int) ∧ Below W1.heap.size W1 W')
      (fun _ _ _ => False)
      (fun pre x a' W' => (Boxed W' B 63 (.int .i64 (pre.foldl (andS (gsD u.gs)) (andS (gsD u.gs) (upsM u.cs) 0))) ∧ Boxed W' y.heap.size 51 (ptr pw) ∧ IBox W' (y.heap.size + 1) (g : Int) ∧ Below W1.heap.size W1 W') ∧ a' = { tmps := #[.pointer (some ⟨pw, 0, none⟩), .int .i64 (g : Int), .pointer (some ⟨n0, 0, none⟩), undef, .int .i64 0, .pointer (some ⟨B, 0, none⟩), .int .i64 (x : Int), .pointer (some ⟨pw, 0, none⟩), .int .i64 (upsM u.cs), .pointer (some ⟨pw, 0, none⟩), .pointer (some ⟨pw, 0, none⟩), .pointer (some ⟨pw, 3, none⟩), .slice (some ⟨gr, go, none⟩) u.gs.length cap, .pointer (some ⟨gr, go, none⟩), .pointer (some ⟨gr, go + 4, none⟩), .int .i64 e.d.cp, .int .i64 (bits BinOp.and .i64 (upsM u.cs) e.d.cp), .pointer (some ⟨pw, 0, none⟩), .int .i64 (g : Int), .func (.func 167) #[] #[ptr (y.heap.size + 1), ptr y.heap.size], .int .i64 (x : Int), undef, undef, undef, undef, undef, undef, undef, undef, undef, undef, undef], defers := [] })
      (fun pre W' hi => ⟨hi.2.2.1.cell, hi.2.1.cell, (hA.below hi.2.2.2).groups⟩)
      ?hI (fun _ _ _ _ _ hs _ _ => hs) ?hA ⟨y1, y2, y3, yB⟩ ?hassign ?hbody ?hdone (fun _ _ _ _ _ hs _ => hs.elim)
    case hI => exact OwnFrom.and (Own.from (boxed_own _ _ _) _) (OwnFrom.and (own_block _ _ _ rfl) (OwnFrom.and (own_block _ _ _ rfl) (ownFrom_below (Nat.le_refl _) (by have := yB.size; omega))))
    case hA => exact fun pre x a' => OwnFrom.and (OwnFrom.and (own_block _ _ _ rfl) (OwnFrom.and (own_block _ _ _ rfl) (OwnFrom.and (own_block _ _ _ rfl) (ownFrom_below (Nat.le_refl _) (by have := yB.size; omega))))) (ownFrom_pure _ _)
    case hassign =>
      intro l' pre x post W' hx hi
      unfold encN
      gi_wp2
      exact ⟨KeepsUp.refl _ _, hi, rfl⟩
    case hbody =>
      rintro l' pre x post a' W' hx hl' ⟨⟨h1, h2, h3, h4⟩, rfl⟩
      have hin : x ∈ outs (gsD u.gs) g := by rw [hx]; simp
      obtain ⟨x1, x2, _⟩ := outs_used ht hg hu hin
      obtain ⟨ex, hex⟩ := row_get (xs := u.gs) (k := x) (by rw [H8.out]; exact x1)
      obtain ⟨gr2, go2, cap2, v3, hc2, hk2, _⟩ := (hA.below h4).cellsG hex
      obtain ⟨_, _, _, _, v4, _⟩ := gv_cells hc2
      have hcx := cpAt_eq hex
      have hr0 := cell_regrown ((h4.cell (p := ⟨n0, 0, none⟩) hn0).trans q0)
      have hr1 := cell_regrown h1.cell
      have hr2 := cell_regrown v3
      have hr3 := cell_regrown v4
      have H1 : Hid (Boxed W' B 63 (.int .i64 (pre.foldl (andS (gsD u.gs)) (andS (gsD u.gs) (upsM u.cs) 0)))) := h1
      have H2 : Hid (Boxed W' y.heap.size 51 (ptr pw)) := h2
      have H3 : Hid (IBox W' (y.heap.size + 1) (g : Int)) := h3
      have H4 : Hid (Below W1.heap.size W1 W') := h4
      obtain ⟨sv, hsv⟩ : ∃ sv, pre.foldl (andS (gsD u.gs)) (andS (gsD u.gs) (upsM u.cs) 0) = sv := ⟨_, rfl⟩
      rw [hsv] at hr1
      have hsn : Hid ((pre ++ [x]).foldl (andS (gsD u.gs)) (andS (gsD u.gs) (upsM u.cs) 0) = bits BinOp.and .i64 sv ex.d.cp) := by
        unfold Hid; rw [List.foldl_append, hsv]; show andS _ _ _ = _; unfold andS; rw [hcx]
      clear h1 h2 h3 h4 hc2 v3 v4 hcx hx hex y1 y2 y3 yB hA
      unfold ptr
      gi_wp2
      refine region_gated_rg 10 rfl mixed (by kernel_rfl) ?_
      simp only [List.take_succ_cons, List.take_zero, List.drop_succ_cons, List.drop_zero]
      repeat (quiet_step_in (fail))
      refine wpQuietIn_nil ⟨by kernel_rfl, ?_⟩
      rintro _ ⟨⟨dq, osq⟩, rfl⟩
      have hB1 := below_block dq osq H1.out
      have hf1 := (show Boxed _ B _ _ from hB1).frozen
      have hc1 := (show Boxed _ B _ _ from hB1).cell
      refine op_runs (w' := (grow (redrawn W' dq) osq).setCell ⟨B, 0, none⟩ (.int .i64 (bits BinOp.and .i64 sv ex.d.cp))) (v := undef) (x := .skip) (by intro c e; cases e) (by intro c e; cases e) (by go_simp) (.inr ⟨rfl, rfl⟩) ?_
      refine wpQuietIn_nil ?_
      gi_wp2
      refine ⟨(KeepsUp.below (below_regrown _ _ _)).trans (KeepsUp.set _ _ _ (by omega)), ?_, ?_, ?_, ?_⟩
      · rw [hsn.out]; exact (show Boxed _ B _ _ from hB1).set _
      · exact (show Boxed _ y.heap.size _ _ from below_block dq osq H2.out).other (by omega) _
      · exact (show Boxed _ (y.heap.size + 1) _ _ from below_block dq osq H3.out).other (by omega) _
      · exact (H4.out.trans ((below_regrown W' dq osq).mono H4.out.size)).setCell (p := ⟨B, 0, none⟩) b2 _
    case hdone =>
      rintro D W' hD ⟨h1, h2, h3, h4⟩ hK
      have f1 := h1.cell
      have hD' : w.heap.size ≤ D := by have := B0.size; have := yB.size; omega
      clear y1 y2 y3 h2 h3
      gi_wp2
      refine ⟨by simp, .inl ⟨_, _, rfl, run_takeDeferred hK, ?_⟩⟩
      exact ⟨_, results_tmp rfl _ _ _, rfl, (B0.trans (h4.mono B0.size)).trans (belowK_b (w := w) (Nat.le_refl _) _ D _ _ hD' hK rfl rfl)⟩
def whereM (cs : List Cp) (ds : List Gr) (g : Nat) (ma : Int) : Int :=
  if bits BinOp.and .i64 ma (pinsM cs ds g) ≠ 0 then bits BinOp.and .i64 ma (pinsM cs ds g) else if pinsM cs ds g ≠ 0 then pinsM cs ds g else upsM cs
theorem whereOf_any (pw : Nat) (g : Nat) (t : Tk) (u : Wv) (w : World) (hA : AtW w pw u) (hn : u.cs.length ≤ 4) (ht : treeB (gsD u.gs) = true) (hg : g < 8) (hu : usAt (gsD u.gs) g = true) (htg : t.gr = (g : Int)) :
    Calls Tryz.prog 146 #[ptr pw, tkV t] w fun e w' => e = .returned (.int .i64 (whereM u.cs (gsD u.gs) g t.ma)) ∧ Below w.heap.size w w' := by
  obtain ⟨st, gr, cpu, ni, ma, v, su, us, lo⟩ := t
  dsimp only at htg ⊢
  subst htg
  unfold tkV ptr
  dsimp only
  obtain ⟨p, hp⟩ : ∃ p, pinsM u.cs (gsD u.gs) g = p := ⟨_, rfl⟩
  obtain ⟨o, ho⟩ : ∃ o, bits BinOp.and .i64 ma p = o := ⟨_, rfl⟩
  have HR : Hid (whereM u.cs (gsD u.gs) g ma = if o ≠ 0 then o else if p ≠ 0 then p else upsM u.cs) := by unfold Hid whereM; rw [hp, ho]
  have HA : Hid (AtW w pw u) := hA
  obtain ⟨W1, hW1⟩ : ∃ W1, w.alloc (.cells #[.int .i64 st, .int .i64 (g : Int), .int .i64 cpu, .int .i64 ni, .int .i64 ma, .int .i64 v, .int .i64 su, .int .i64 us, .int .i64 lo] 68) = W1 := ⟨_, rfl⟩
  have acc : Below w.heap.size w W1 := by rw [← hW1]; exact (Below.refl _ _).alloc (Nat.le_refl _) _
  have hb : W1.heap[w.heap.size]? = some (.cells #[.int .i64 st, .int .i64 (g : Int), .int .i64 cpu, .int .i64 ni, .int .i64 ma, .int .i64 v, .int .i64 su, .int .i64 us, .int .i64 lo] 68 (0, 0)) := by rw [← hW1]; exact World.alloc_heap_new w _
  have hr : W1.rangeAt w.heap.size 0 [.int .i64 st, .int .i64 (g : Int), .int .i64 cpu, .int .i64 ni, .int .i64 ma, .int .i64 v, .int .i64 su, .int .i64 us, .int .i64 lo] := range_of_block hb
  have hlt : w.heap.size < W1.heap.size := by rw [← hW1]; simp
  have t1 : W1.cell? ⟨w.heap.size, 1, none⟩ = some (.int .i64 (g : Int)) := by simpa using hr 1 _ rfl
  have t4 : W1.cell? ⟨w.heap.size, 4, none⟩ = some (.int .i64 ma) := by simpa using hr 4 _ rfl
  clear hr hb hA
  by_cases ho0 : o = 0
  · rw [ho0] at ho
    by_cases hp0 : p = 0
    · rw [hp0] at ho hp
      go_enter Tryz.func146, Tryz.ntmps146
      go_wp2_with (first | (go_at_call 174; refine (pins_any pw g u _ (HA.out.below acc) hn ht hg hu).mono ?_; rintro e1 w1 ⟨rfl, hb1⟩; rw [hp]; have t4 := (hb1.cell hlt).trans t4; replace acc := acc.trans (hb1.mono acc.size); clear hb1) | (go_at_call 46; refine (impl_ups pw u _ (HA.out.below acc) hn).mono ?_; rintro e1 w1 ⟨rfl, hb1⟩; replace acc := acc.trans (hb1.mono acc.size); clear hb1))
      go_ret
      exact ⟨by rw [HR.out, ho0, hp0]; rfl, acc⟩
    · go_enter Tryz.func146, Tryz.ntmps146
      go_wp2_with (first | (go_at_call 174; refine (pins_any pw g u _ (HA.out.below acc) hn ht hg hu).mono ?_; rintro e1 w1 ⟨rfl, hb1⟩; rw [hp]; have t4 := (hb1.cell hlt).trans t4; replace acc := acc.trans (hb1.mono acc.size); clear hb1) | (go_at_call 46; refine (impl_ups pw u _ (HA.out.below acc) hn).mono ?_; rintro e1 w1 ⟨rfl, hb1⟩; replace acc := acc.trans (hb1.mono acc.size); clear hb1))
      go_ret
      exact ⟨by rw [HR.out, ho0, if_neg (by simp), if_pos hp0]; rfl, acc⟩
  · go_enter Tryz.func146, Tryz.ntmps146
    go_wp2_with (first | (go_at_call 174; refine (pins_any pw g u _ (HA.out.below acc) hn ht hg hu).mono ?_; rintro e1 w1 ⟨rfl, hb1⟩; rw [hp]; have t4 := (hb1.cell hlt).trans t4; replace acc := acc.trans (hb1.mono acc.size); clear hb1) | (go_at_call 46; refine (impl_ups pw u _ (HA.out.below acc) hn).mono ?_; rintro e1 w1 ⟨rfl, hb1⟩; replace acc := acc.trans (hb1.mono acc.size); clear hb1))
    go_ret
    exact ⟨by rw [HR.out, if_pos ho0]; rfl, acc⟩
def withinB (v f m : Int) : Bool := decide (f ≤ v) && decide (wrap64 (v - f) ≤ m)
theorem stands_any (v f m : Int) (w : World) : Calls Tryz.prog 175 #[.int .i64 v, .int .i64 f, .int .i64 m] w fun e w' => e = .returned (.bool (withinB v f m)) ∧ w' = w := by
  by_cases a : f ≤ v
  · by_cases b : wrap64 (v - f) ≤ m
    · have HT : Hid (withinB v f m = true) := by unfold Hid withinB; simp [a, b]
      go_enter Tryz.func175, Tryz.ntmps175
      go_wp2
      go_ret
      exact ⟨by rw [HT.out]; first | rfl | simp [b], rfl⟩
    · have HT : Hid (withinB v f m = false) := by unfold Hid withinB; simp [b]
      go_enter Tryz.func175, Tryz.ntmps175
      go_wp2
      go_ret
      exact ⟨by rw [HT.out]; first | rfl | simp [b], rfl⟩
  · have HT : Hid (withinB v f m = false) := by unfold Hid withinB; simp [a]
    go_enter Tryz.func175, Tryz.ntmps175
    go_wp2
    go_ret
    exact ⟨by rw [HT.out]; rfl, rfl⟩
theorem boxed_task {w W1 : World} {st gr cpu ni ma v su us lo : Int} (h : w.alloc (.cells #[.int .i64 st, .int .i64 gr, .int .i64 cpu, .int .i64 ni, .int .i64 ma, .int .i64 v, .int .i64 su, .int .i64 us, .int .i64 lo] 68) = W1) :
    Below w.heap.size w W1 ∧ w.heap.size < W1.heap.size ∧ W1.rangeAt w.heap.size 0 [.int .i64 st, .int .i64 gr, .int .i64 cpu, .int .i64 ni, .int .i64 ma, .int .i64 v, .int .i64 su, .int .i64 us, .int .i64 lo] := by
  subst h
  exact ⟨(Below.refl _ _).alloc (Nat.le_refl _) _, by simp, range_of_block (World.alloc_heap_new w _)⟩
theorem AtW.shelf {W : World} {b : Nat} {u : Wv} (h : AtW W b u) {k c : Nat} {e : Gv} {s : Sh} (he : u.gs[k]? = some e) (hs : e.d.sh[c]? = some s) : ∃ g o cap, e.z = .slice (some ⟨g, o, none⟩) e.d.sh.length cap ∧ W.rangeAt g (o + c * 5) (shC s) := by
  rcases h.sh he with ⟨h0, _⟩ | ⟨g, o, cap, h1, h2, _⟩
  · rw [h0] at hs; simp at hs
  · exact ⟨g, o, cap, h1, h2 c s hs⟩
theorem taskWithin_any (pw c g : Nat) (n : Int) (t : Tk) (u : Wv) (e : Gv) (s : Sh) (w : World) (hA : AtW w pw u) (he : u.gs[g]? = some e) (hs : e.d.sh[c]? = some s) (htg : t.gr = (g : Int)) :
    Calls Tryz.prog 147 #[qV pw (c : Int), tkV t, .int .i64 n] w fun e w' => e = .returned (.bool (withinB t.v s.fl (vstep n (wof t.ni)))) ∧ Below w.heap.size w w' := by
  obtain ⟨zg, zo, zc, hz, hsr⟩ := hA.shelf he hs
  obtain ⟨s0, _⟩ := sh_cells hsr
  obtain ⟨st, gr, cpu, ni, ma, v, su, us, lo⟩ := t
  dsimp only at htg ⊢
  subst htg
  unfold tkV qV ptr
  dsimp only
  obtain ⟨W1, hW1⟩ : ∃ W1, w.alloc (.cells #[.pointer (some ⟨pw, 0, none⟩), .int .i64 (c : Int)] 53) = W1 := ⟨_, rfl⟩
  obtain ⟨B1, q0, q1, l1⟩ := boxed_q hW1
  obtain ⟨W2, hW2⟩ : ∃ W2, W1.alloc (.cells #[.int .i64 st, .int .i64 (g : Int), .int .i64 cpu, .int .i64 ni, .int .i64 ma, .int .i64 v, .int .i64 su, .int .i64 us, .int .i64 lo] 68) = W2 := ⟨_, rfl⟩
  obtain ⟨B2, l2, hr⟩ := boxed_task hW2
  have z1 : W1.heap.size = w.heap.size + 1 := by rw [← hW1]; simp
  have k0 := cell_regrown ((B2.cell l1).trans q0)
  have k1 := cell_regrown ((B2.cell l1).trans q1)
  have kg := cell_regrown (show W2.cell? ⟨W1.heap.size, 1, none⟩ = some (.int .i64 (g : Int)) by simpa using hr 1 _ rfl)
  have kn := cell_regrown (show W2.cell? ⟨W1.heap.size, 3, none⟩ = some (.int .i64 ni) by simpa using hr 3 _ rfl)
  have kv := cell_regrown (show W2.cell? ⟨W1.heap.size, 5, none⟩ = some (.int .i64 v) by simpa using hr 5 _ rfl)
  have B12 := B1.trans (B2.mono B1.size)
  have kf := cell_regrown ((B12.cell (block_lt_of_cell s0)).trans s0)
  have cS : ∀ d os, Calls Tryz.prog 149 #[.agg #[.pointer (some ⟨pw, 0, none⟩), .int .i64 (c : Int)], .int .i64 (g : Int)] (grow (redrawn W2 d) os) fun e' w'' => e' = .returned (ptrO zg (zo + c * 5)) ∧ ∃ p : Regrown, w'' = grow (redrawn W2 p.d) p.os := fun d os =>
    Calls.regrown_of (shelf_any pw g c u e s zg zo zc _ ((hA.below B12).below (below_regrown W2 d os)) he hs hz)
  have cW : ∀ d os, Calls Tryz.prog 120 #[.int .i64 ni] (grow (redrawn W2 d) os) fun e' w'' => e' = .returned (.int .i64 (wof ni)) ∧ ∃ p : Regrown, w'' = grow (redrawn W2 p.d) p.os := fun d os =>
    Calls.regrown_of ((impl_wof ni _).mono fun e' w' h => ⟨h.1, h.2 ▸ Below.refl _ _⟩)
  have cV : ∀ d os, Calls Tryz.prog 176 #[.int .i64 n, .int .i64 (wof ni)] (grow (redrawn W2 d) os) fun e' w'' => e' = .returned (.int .i64 (vstep n (wof ni))) ∧ ∃ p : Regrown, w'' = grow (redrawn W2 p.d) p.os := fun d os =>
    Calls.regrown_of (impl_vstep n (wof ni) _)
  have cT : ∀ d os, Calls Tryz.prog 175 #[.int .i64 v, .int .i64 s.fl, .int .i64 (vstep n (wof ni))] (grow (redrawn W2 d) os) fun e' w'' => e' = .returned (.bool (withinB v s.fl (vstep n (wof ni)))) ∧ ∃ p : Regrown, w'' = grow (redrawn W2 p.d) p.os := fun d os =>
    Calls.regrown_of ((stands_any v s.fl _ _).mono fun e' w' h => ⟨h.1, h.2 ▸ Below.refl _ _⟩)
  clear hsr s0 hr q0 q1 hz he hs hA z1 B2
  unfold ptrO at cS
  go_enter Tryz.func147, Tryz.ntmps147
  go_wp2
  refine wp_region_quiet_below (by kernel_rfl) (by kernel_rfl) ?_
  clear hW1 hW2
  repeat (quiet_step (first | exact cS _ _ | exact cW _ _ | exact cV _ _ | exact cT _ _))
  refine wpQuiet_nil ?_
  rintro _ ⟨⟨dq, osq⟩, rfl⟩
  go_wp2
  go_ret
  exact ⟨rfl, B12.trans ((below_regrown W2 dq osq).mono B12.size)⟩
theorem groupWithin_any (pw c k j : Nat) (n : Int) (u : Wv) (a e : Gv) (s p : Sh) (w : World) (hA : AtW w pw u) (ha : u.gs[k]? = some a) (hs : a.d.sh[c]? = some s) (hj : a.d.pa = (j : Int)) (he : u.gs[j]? = some e) (hp : e.d.sh[c]? = some p) :
    Calls Tryz.prog 151 #[qV pw (c : Int), .int .i64 (k : Int), .int .i64 n] w fun e w' => e = .returned (.bool (withinB s.v p.fl (vstep n s.w))) ∧ Below w.heap.size w w' := by
  obtain ⟨zg, zo, zc, hz, hsr⟩ := hA.shelf ha hs
  obtain ⟨yg, yo, yc, hy, hyr⟩ := hA.shelf he hp
  obtain ⟨_, _, s2, s3, _⟩ := sh_cells hsr
  obtain ⟨p0, _⟩ := sh_cells hyr
  unfold qV ptr
  obtain ⟨W1, hW1⟩ : ∃ W1, w.alloc (.cells #[.pointer (some ⟨pw, 0, none⟩), .int .i64 (c : Int)] 53) = W1 := ⟨_, rfl⟩
  obtain ⟨B1, q0, q1, l1⟩ := boxed_q hW1
  go_enter Tryz.func151, Tryz.ntmps151
  go_wp2_with (go_at_call 149; refine (shelf_any pw k c u a s zg zo zc _ (hA.below B1) ha hs hz).mono ?_; rintro e1 W2 ⟨rfl, B2⟩; simp only [ptrO])
  have B12 := B1.trans (B2.mono B1.size)
  have k0 := cell_regrown ((B2.cell l1).trans q0)
  have k1 := cell_regrown ((B2.cell l1).trans q1)
  have k2 := cell_regrown ((B12.cell (block_lt_of_cell s2)).trans s2)
  have k3 := cell_regrown ((B12.cell (block_lt_of_cell s3)).trans s3)
  have kp := cell_regrown ((B12.cell (block_lt_of_cell p0)).trans p0)
  have cS : ∀ d os, Calls Tryz.prog 179 #[.agg #[.pointer (some ⟨pw, 0, none⟩), .int .i64 (c : Int)], .int .i64 (k : Int)] (grow (redrawn W2 d) os) fun e' w'' => e' = .returned (ptrO yg (yo + c * 5)) ∧ ∃ p : Regrown, w'' = grow (redrawn W2 p.d) p.os := fun d os =>
    Calls.regrown_of (around_any pw k j c u a e p yg yo yc _ ((hA.below B12).below (below_regrown W2 d os)) ha hj he hp hy)
  have cV : ∀ d os, Calls Tryz.prog 176 #[.int .i64 n, .int .i64 s.w] (grow (redrawn W2 d) os) fun e' w'' => e' = .returned (.int .i64 (vstep n s.w)) ∧ ∃ p : Regrown, w'' = grow (redrawn W2 p.d) p.os := fun d os =>
    Calls.regrown_of (impl_vstep n s.w _)
  have cT : ∀ d os, Calls Tryz.prog 175 #[.int .i64 s.v, .int .i64 p.fl, .int .i64 (vstep n s.w)] (grow (redrawn W2 d) os) fun e' w'' => e' = .returned (.bool (withinB s.v p.fl (vstep n s.w))) ∧ ∃ p : Regrown, w'' = grow (redrawn W2 p.d) p.os := fun d os =>
    Calls.regrown_of ((stands_any s.v p.fl _ _).mono fun e' w' h => ⟨h.1, h.2 ▸ Below.refl _ _⟩)
  clear hsr hyr s2 s3 p0 q0 q1 hz hy ha hs he hp hj hA B2 hW1
  unfold ptrO at cS
  refine wp_region_quiet_below (by kernel_rfl) (by kernel_rfl) ?_
  repeat (quiet_step (first | exact cS _ _ | exact cV _ _ | exact cT _ _))
  refine wpQuiet_nil ?_
  rintro _ ⟨⟨dq, osq⟩, rfl⟩
  go_wp2
  go_ret
  exact ⟨rfl, B12.trans ((below_regrown W2 dq osq).mono B12.size)⟩
theorem toStand_any (pw c k : Nat) (u : Wv) (a : Gv) (w : World) (hA : AtW w pw u) (hok : ShOk (gsD u.gs) c) (ha : u.gs[k]? = some a) (hd : 0 < a.d.ba.qu → c < a.d.ba.dr.length) :
    Calls Tryz.prog 150 #[qV pw (c : Int), .int .i64 (k : Int)] w fun e w' => e = .returned (.bool ((leastL (timesL u.ts (gsD u.gs) (k : Int) c)).2 && !dryB a.d.ba c)) ∧ Below w.heap.size w w' := by
  unfold qV ptr
  obtain ⟨W1, hW1⟩ : ∃ W1, w.alloc (.cells #[.pointer (some ⟨pw, 0, none⟩), .int .i64 (c : Int)] 53) = W1 := ⟨_, rfl⟩
  obtain ⟨acc, q0, q1, l1⟩ := boxed_q hW1
  obtain ⟨⟨v, b⟩, hv⟩ : ∃ p, leastL (timesL u.ts (gsD u.gs) (k : Int) c) = p := ⟨_, rfl⟩
  rw [hv]
  cases b
  · go_enter Tryz.func150, Tryz.ntmps150
    go_wp2_with (go_at_call 178; refine (least_any pw c u (k : Int) _ (hA.below acc) hok).mono ?_; rintro e1 W2 ⟨rfl, hb2⟩; rw [hv]; have q0 := (hb2.cell l1).trans q0; have q1 := (hb2.cell l1).trans q1; replace acc := acc.trans (hb2.mono acc.size); clear hb2)
    go_ret
    exact ⟨rfl, acc⟩
  · cases hdr : dryB a.d.ba c
    · go_enter Tryz.func150, Tryz.ntmps150
      go_wp2_with (first | (go_at_call 178; refine (least_any pw c u (k : Int) _ (hA.below acc) hok).mono ?_; rintro e1 W2 ⟨rfl, hb2⟩; rw [hv]; have q0 := (hb2.cell l1).trans q0; have q1 := (hb2.cell l1).trans q1; replace acc := acc.trans (hb2.mono acc.size); clear hb2) | (go_at_call 166; refine (isDry_any pw k c u a _ (hA.below acc) ha hd).mono ?_; rintro e1 W2 ⟨rfl, hb2⟩; replace acc := acc.trans (hb2.mono acc.size); clear hb2))
      go_ret
      exact ⟨rfl, acc⟩
    · go_enter Tryz.func150, Tryz.ntmps150
      go_wp2_with (first | (go_at_call 178; refine (least_any pw c u (k : Int) _ (hA.below acc) hok).mono ?_; rintro e1 W2 ⟨rfl, hb2⟩; rw [hv]; have q0 := (hb2.cell l1).trans q0; have q1 := (hb2.cell l1).trans q1; replace acc := acc.trans (hb2.mono acc.size); clear hb2) | (go_at_call 166; refine (isDry_any pw k c u a _ (hA.below acc) ha hd).mono ?_; rintro e1 W2 ⟨rfl, hb2⟩; replace acc := acc.trans (hb2.mono acc.size); clear hb2))
      go_ret
      exact ⟨rfl, acc⟩
def inlineB (ds : List Gr) (st : Int) (g c : Nat) : Bool := decide (st = 1) && (outs ds g).all (fun k => (shAt ds k c).on)
theorem blocks3 {w w1 : World} {A B C : Obj} (h : (((w.alloc A).alloc B).alloc C) = w1) :
    w1.heap[w.heap.size]? = some A ∧ w1.heap.size = w.heap.size + 3 ∧ w1.heap[w.heap.size + 1]? = some B ∧ w1.heap[w.heap.size + 1 + 1]? = some C ∧ Below w.heap.size w w1 := by
  have nw : ∀ (v : World) (o : Obj) (n : Nat), v.heap.size = n → (v.alloc o).heap[n]? = some o := fun v o n e => by subst e; exact heap_alloc_new v o
  have od : ∀ (v : World) (o o' : Obj) (n : Nat), n < v.heap.size → v.heap[n]? = some o → (v.alloc o').heap[n]? = some o := fun v o o' n e h => (Below.heap_alloc v o' n e).trans h
  subst h
  refine ⟨?_, by simp, ?_, ?_, ?_⟩
  · exact od _ _ _ _ (by simp <;> omega) (od _ _ _ _ (by simp <;> omega) (nw _ _ _ rfl))
  · exact od _ _ _ _ (by simp <;> omega) (nw _ _ _ (by simp))
  · exact nw _ _ _ (by simp)
  · exact ((((Below.refl _ _).alloc (Nat.le_refl _) _).alloc (by simp) _).alloc (by simp; omega) _)
theorem inLine_any (pw g c : Nat) (t : Tk) (u : Wv) (w : World) (hA : AtW w pw u) (ht : treeB (gsD u.gs) = true) (hg : g < 8) (hu : usAt (gsD u.gs) g = true) (hok : ShOk (gsD u.gs) c) (htg : t.gr = (g : Int)) (htc : t.cpu = (c : Int)) :
    Calls Tryz.prog 162 #[ptr pw, tkV t] w fun e w' => e = .returned (.bool (inlineB (gsD u.gs) t.st g c)) ∧ Below w.heap.size w w' := by
  have mixed : Tryz.prog.follows Departure.mixedOrders = true := by kernel_rfl
  have hfn : ∀ f, Fence.wide.fn f := fun _ => trivial
  have h8 := (tree_facts ht).1
  rw [gsD_length] at h8
  have H8 : Hid (u.gs.length = 8) := h8
  clear h8
  obtain ⟨st, gr, cpu, ni, ma, v, su, us, lo⟩ := t
  dsimp only at htg htc ⊢
  subst htg htc
  unfold tkV
  dsimp only
  refine (callsIn_wide (n := 9)).1 ?_
  refine callsIn_of_wp_marks Tryz.func162 rfl trivial ?_ rfl
  unfold ptr
  simp only [Tryz.ntmps162, List.size_toArray, List.length_cons, List.length_nil, Nat.reduceAdd, Nat.reduceSub, Array.replicate_succ, Array.replicate_zero, List.push_toArray, List.append_toArray, List.nil_append, List.cons_append]
  by_cases hst : st = 1
  · subst hst
    gi_wp2_with (gi_at_call 132; refine (calls_fw (mk_outward pw (g : Int) _)).mono ?_; rintro e' w' ⟨rfl, rfl⟩; simp only [ptr])
    simp only [World.size_alloc]
    obtain ⟨w1, hw1⟩ : ∃ w1, (((((w.alloc (.cells #[.pointer (some ⟨pw, 0, none⟩)] 51)).alloc (.cells #[.int .i64 1, .int .i64 (g : Int), .int .i64 (c : Int), .int .i64 ni, .int .i64 ma, .int .i64 v, .int .i64 su, .int .i64 us, .int .i64 lo] 68)).alloc (.cells #[.bool false] 4)).alloc (.cells #[.pointer (some ⟨pw, 0, none⟩)] 51)).alloc (.cells #[.int .i64 (g : Int)] 3)) = w1 := ⟨_, rfl⟩
    obtain ⟨z0, z1, z2, z3, z4, z5, z6⟩ := blocks5 hw1
    simp only [hw1]
    clear hw1
    refine range_own (xs := outs (gsD u.gs) g) (encs := encN) (gf := 167) (lb := #[ptr (w.heap.size + 1 + 1 + 1 + 1), ptr (w.heap.size + 1 + 1 + 1)]) (W0 := w) (G := fun W' => W'.cell? ⟨w.heap.size + 1 + 1 + 1 + 1, 0, none⟩ = some (.int .i64 (g : Int)) ∧ W'.cell? ⟨w.heap.size + 1 + 1 + 1, 0, none⟩ = some (.pointer (some ⟨pw, 0, none⟩)) ∧ GroupsAt W' pw u.z (gsD u.gs))
      (outward_gives pw (w.heap.size + 1 + 1 + 1) (w.heap.size + 1 + 1 + 1 + 1) u.z (gsD u.gs) g ht hg hu _ w (fun W' h => h)) (by omega) rfl (enters_of Tryz.func167 (by kernel_rfl) rfl) (fun _ => rfl)
      (fun pre W' => (∀ k ∈ pre, (shAt (gsD u.gs) k c).on = true) ∧ W'.heap[w.heap.size]? = some (.cells #[.pointer (some ⟨pw, 0, none⟩)] 51 (0, 0)) ∧ W'.heap[w.heap.size + 1]? = some (.cells #[.int .i64 1, .int .i64 (g : Int), .int .i64 (c : Int), .int .i64 ni, .int .i64 ma, .int .i64 v, .int .i64 su, .int .i64 us, .int .i64 lo] 68 (0, 0)) ∧ W'.heap[w.heap.size + 1 + 1]? = some (.cells #[.bool false] 4 (0, 0)) ∧ W'.heap[w.heap.size + 1 + 1 + 1]? = some (.cells #[.pointer (some ⟨pw, 0, none⟩)] 51 (0, 0)) ∧ IBox W' (w.heap.size + 1 + 1 + 1 + 1) (g : Int) ∧ Below w.heap.size w W')
      (fun cc pre W' => cc = .ret ∧ (∃ k ∈ outs (gsD u.gs) g, (shAt (gsD u.gs) k c).on = false) ∧ W'.heap[w.heap.size + 1 + 1]? = some (.cells #[.bool false] 4 (0, 0)) ∧ Below w.heap.size w W')
      (fun pre x a' W' => ((∀ k ∈ pre, (shAt (gsD u.gs) k c).on = true) ∧ W'.heap[w.heap.size]? = some (.cells #[.pointer (some ⟨pw, 0, none⟩)] 51 (0, 0)) ∧ W'.heap[w.heap.size + 1]? = some (.cells #[.int .i64 1, .int .i64 (g : Int), .int .i64 (c : Int), .int .i64 ni, .int .i64 ma, .int .i64 v, .int .i64 su, .int .i64 us, .int .i64 lo] 68 (0, 0)) ∧ W'.heap[w.heap.size + 1 + 1]? = some (.cells #[.bool false] 4 (0, 0)) ∧ W'.heap[w.heap.size + 1 + 1 + 1]? = some (.cells #[.pointer (some ⟨pw, 0, none⟩)] 51 (0, 0)) ∧ IBox W' (w.heap.size + 1 + 1 + 1 + 1) (g : Int) ∧ Below w.heap.size w W') ∧ a' = { tmps := #[ptr pw, .agg #[.int .i64 1, .int .i64 (g : Int), .int .i64 (c : Int), .int .i64 ni, .int .i64 ma, .int .i64 v, .int .i64 su, .int .i64 us, .int .i64 lo], ptr w.heap.size, ptr (w.heap.size + 1), ptr (w.heap.size + 1 + 1), .int .i64 (x : Int), ptr (w.heap.size + 1), .int .i64 1, .bool false, ptr pw, ptrO (w.heap.size + 1) 1, .int .i64 (g : Int), .func (.func 167) #[] #[ptr (w.heap.size + 1 + 1 + 1 + 1), ptr (w.heap.size + 1 + 1 + 1)], .int .i64 (x : Int), undef, undef, undef, undef, undef, undef, undef, undef, undef, undef, undef, undef, undef, undef], defers := [] })
      (fun pre W' hi => ⟨hi.2.2.2.2.2.1.cell, (Msk.cell_of_box_l hi.2.2.2.2.1).1, (hA.below hi.2.2.2.2.2.2).groups⟩)
      ?hI ?hIx ?hA ⟨fun k hk => (by cases hk), z0, z2, z3, z4, z5, z6⟩ ?hassign ?hbody ?hdone ?hstop
    case hI => exact OwnFrom.and (ownFrom_pure _ _) (OwnFrom.and (own_block _ _ _ rfl) (OwnFrom.and (own_block _ _ _ rfl) (OwnFrom.and (own_block _ _ _ rfl) (OwnFrom.and (own_block _ _ _ rfl) (OwnFrom.and (own_block _ _ _ rfl) (ownFrom_below (Nat.le_refl _) (by omega)))))))
    case hIx => exact fun cc => OwnFrom.and (ownFrom_pure _ _) (OwnFrom.and (ownFrom_pure _ _) (OwnFrom.and (own_block _ _ _ rfl) (ownFrom_below (Nat.le_refl _) (by omega))))
    case hA => exact fun pre x a' => OwnFrom.and (OwnFrom.and (ownFrom_pure _ _) (OwnFrom.and (own_block _ _ _ rfl) (OwnFrom.and (own_block _ _ _ rfl) (OwnFrom.and (own_block _ _ _ rfl) (OwnFrom.and (own_block _ _ _ rfl) (OwnFrom.and (own_block _ _ _ rfl) (ownFrom_below (Nat.le_refl _) (by omega)))))))) (ownFrom_pure _ _)
    case hassign =>
      intro l' pre x post W' hx hi
      unfold encN
      gi_wp2
      exact ⟨KeepsUp.refl _ _, hi, rfl⟩
    case hbody =>
      rintro l' pre x post a' W' hx hl' ⟨⟨hp, h1, h2, h3, h4, h5, h6⟩, rfl⟩
      have hin : x ∈ outs (gsD u.gs) g := by rw [hx]; simp
      obtain ⟨x1, x2, _⟩ := outs_used ht hg hu hin
      obtain ⟨e, zg, zo, zc, he, _, hz, hsh, hrow⟩ := (hA.below h6).group (k := x) (by rw [H8.out]; exact x1) x2 hok
      obtain ⟨_, s1, _⟩ := sh_cells hrow
      obtain ⟨gr2, go2, cap2, v3, hc2, hk2, hl2⟩ := (hA.below h6).cellsG he
      obtain ⟨_, _, _, _, _, _, _, _, _, _, _, _, _, v13⟩ := gv_cells hc2
      rw [hz] at v13
      have hcs : c < e.d.sh.length := (List.getElem?_eq_some_iff.1 hsh).1
      have hsl : e.d.sh.length ≤ 9223372036854775807 := (SlR.form ((hA.below h6).sh he)).choose_spec.choose_spec.2
      have htk : W'.rangeAt (w.heap.size + 1) 0 [.int .i64 1, .int .i64 (g : Int), .int .i64 (c : Int), .int .i64 ni, .int .i64 ma, .int .i64 v, .int .i64 su, .int .i64 us, .int .i64 lo] := range_of_block h2
      have hr0 := cell_regrown (Msk.cell_of_box_l h1).1
      have hr1 := cell_regrown (show W'.cell? ⟨w.heap.size + 1, 2, none⟩ = some (.int .i64 (c : Int)) by simpa using htk 2 _ rfl)
      have hr2 := cell_regrown v3
      have hr3 := cell_regrown v13
      have hr4 := cell_regrown s1
      have HB : Hid (W'.heap[w.heap.size]? = some (.cells #[.pointer (some ⟨pw, 0, none⟩)] 51 (0, 0)) ∧ W'.heap[w.heap.size + 1]? = some (.cells #[.int .i64 1, .int .i64 (g : Int), .int .i64 (c : Int), .int .i64 ni, .int .i64 ma, .int .i64 v, .int .i64 su, .int .i64 us, .int .i64 lo] 68 (0, 0)) ∧ W'.heap[w.heap.size + 1 + 1]? = some (.cells #[.bool false] 4 (0, 0)) ∧ W'.heap[w.heap.size + 1 + 1 + 1]? = some (.cells #[.pointer (some ⟨pw, 0, none⟩)] 51 (0, 0)) ∧ IBox W' (w.heap.size + 1 + 1 + 1 + 1) (g : Int) ∧ Below w.heap.size w W') := ⟨h1, h2, h3, h4, h5, h6⟩
      have HP : Hid (∀ k ∈ pre, (shAt (gsD u.gs) k c).on = true) := hp
      clear h1 h2 h3 h4 h5 h6 htk hp v13 v3 s1 hc2 hrow hx z0 z2 z3 z4 z5 z6 he hz hsh
      unfold ptr ptrO
      cases hon : (shAt (gsD u.gs) x c).on
      · have hr5 : ∀ d os, (grow (redrawn W' d) os).cell? ⟨zg, zo + c * 5 + 1, none⟩ = some (.bool false) := fun d os => by rw [hr4, hon]
        clear hr4
        gi_wp2
        refine region_quiet_rg mixed (by kernel_rfl) ?_
        repeat (quiet_step_in (fail))
        refine wpQuietIn_nil ?_
        rintro _ ⟨⟨dq, osq⟩, rfl⟩
        obtain ⟨h1, h2, h3, h4, h5, h6⟩ := HB.out
        have h3' := below_block dq osq h3
        have hc3 := (Msk.cell_of_box_l h3').1
        have hf3 := (Msk.cell_of_box_l h3').2
        clear h1 h2 h3 h4 h5
        gi_wp2
        refine ⟨(KeepsUp.below (below_regrown _ _ _)).trans (KeepsUp.set _ _ _ (by omega)), rfl, ⟨x, hin, hon⟩, (show Boxed _ _ _ _ from h3').set _, (h6.trans ((below_regrown W' dq osq).mono h6.size)).setCell (p := ⟨w.heap.size + 1 + 1, 0, none⟩) (by simp; omega) _⟩
      · have hr5 : ∀ d os, (grow (redrawn W' d) os).cell? ⟨zg, zo + c * 5 + 1, none⟩ = some (.bool true) := fun d os => by rw [hr4, hon]
        clear hr4
        gi_wp2
        refine region_quiet_rg mixed (by kernel_rfl) ?_
        repeat (quiet_step_in (fail))
        refine wpQuietIn_nil ?_
        rintro _ ⟨⟨dq, osq⟩, rfl⟩
        gi_wp2
        obtain ⟨h1, h2, h3, h4, h5, h6⟩ := HB.out
        refine ⟨KeepsUp.below (below_regrown _ _ _), fun k hk => ?_, below_block dq osq h1, below_block dq osq h2, below_block dq osq h3, below_block dq osq h4, below_block dq osq h5, h6.trans ((below_regrown W' dq osq).mono h6.size)⟩
        rcases List.mem_append.1 hk with hk | hk
        · exact HP.out k hk
        · obtain rfl : k = x := by simpa using hk
          exact hon
    case hdone =>
      rintro D W' hD ⟨hp, h1, h2, h3, h4, h5, h6⟩ hK
      have hc3 := (Msk.cell_of_box_l h3).1
      have hf3 := (Msk.cell_of_box_l h3).2
      have hall : inlineB (gsD u.gs) 1 g c = true := by unfold inlineB; simp; exact fun k hk => hp k hk
      have HP : Hid (inlineB (gsD u.gs) 1 g c = true) := hall
      have hD' : w.heap.size ≤ D := by omega
      have hne : D ≠ w.heap.size + 1 + 1 := by omega
      have hK' : (W'.setCell ⟨w.heap.size + 1 + 1, 0, none⟩ (.bool true)).heap[D]? = some (.deferred (some [])) := by rw [Deep.blk_setCell_other _ _ _ _ hne]; exact hK
      have hb' : Boxed ((W'.setCell ⟨w.heap.size + 1 + 1, 0, none⟩ (.bool true)).putObj D (.deferred none)) (w.heap.size + 1 + 1) 4 (.bool true) := (World.putObj_heap_other (Ne.symm hne)).trans ((show Boxed _ _ _ _ from h3).set _)
      have hcr := hb'.cell
      clear hp hall h1 h2 h4 h5 z0 z2 z3 z4 z5 z6
      gi_wp2
      refine ⟨by simp, .inl ⟨_, _, rfl, run_takeDeferred hK', ?_⟩⟩
      refine ⟨.bool true, ?_, by rw [HP.out], (h6.setCell (p := ⟨w.heap.size + 1 + 1, 0, none⟩) (by simp; omega) _).trans (belowK_b (w := w) (Nat.le_refl _) _ D _ _ hD' hK' rfl rfl)⟩
      simp [results, Tryz.f162, go_sem, hcr]
    case hstop =>
      rintro D cc pre W' hD ⟨rfl, ⟨k, hk, hoff⟩, h3, h6⟩ hK
      have hD' : w.heap.size ≤ D := by omega
      have hne : D ≠ w.heap.size + 1 + 1 := by omega
      have hno : inlineB (gsD u.gs) 1 g c = false := by
        unfold inlineB
        simp only [decide_true, Bool.true_and]
        rw [← Bool.not_eq_true, List.all_eq_true]
        intro hal
        have := hal k hk
        rw [hoff] at this; cases this
      have HP : Hid (inlineB (gsD u.gs) 1 g c = false) := hno
      have hb' : Boxed (W'.putObj D (.deferred none)) (w.heap.size + 1 + 1) 4 (.bool false) := (World.putObj_heap_other (Ne.symm hne)).trans h3
      have hcr := hb'.cell
      clear hno z0 z2 z3 z4 z5 z6
      gi_wp2
      refine ⟨by simp, .inl ⟨_, _, rfl, run_takeDeferred hK, ?_⟩⟩
      refine ⟨.bool false, ?_, by rw [HP.out], h6.trans (belowK_b (w := w) (Nat.le_refl _) _ D _ _ hD' hK rfl rfl)⟩
      simp [results, Tryz.f162, go_sem, hcr]
  · have HP : Hid (inlineB (gsD u.gs) st g c = false) := by unfold Hid inlineB; simp [hst]
    gi_wp2
    obtain ⟨w1, hw1⟩ : ∃ w1, (((w.alloc (.cells #[.pointer (some ⟨pw, 0, none⟩)] 51)).alloc (.cells #[.int .i64 st, .int .i64 (g : Int), .int .i64 (c : Int), .int .i64 ni, .int .i64 ma, .int .i64 v, .int .i64 su, .int .i64 us, .int .i64 lo] 68)).alloc (.cells #[.bool false] 4)) = w1 := ⟨_, rfl⟩
    obtain ⟨_, _, _, z3, z4⟩ := blocks3 hw1
    rw [hw1]
    have hcr := (Msk.cell_of_box_l z3).1
    refine ⟨.bool false, ?_, by rw [HP.out], z4⟩
    simp [results, Tryz.f162, go_sem, hcr]
def prV (pw : Nat) (c : Int) (g o : Nat) : Value := .agg #[ptr pw, .int .i64 c, ptrO g o]
theorem procAt_any (pw c : Nat) (u : Wv) (x : Cp) (w : World) (hA : AtW w pw u) (hx : u.cs[c]? = some x) :
    Calls Tryz.prog 39 #[ptr pw, .int .i64 (c : Int)] w fun e w' => ∃ g o, e = .returned (prV pw c g o) ∧ w'.rangeAt g o (cpC x) ∧ g < w.heap.size ∧ Below w.heap.size w w' := by
  have mixed : Tryz.prog.follows Departure.mixedOrders = true := by kernel_rfl
  obtain ⟨gr, go, cap, w1, hc, hk, hl⟩ := hA.cellsC hx
  have hg : gr < w.heap.size := by obtain ⟨y0, _⟩ := cp_cells hc; exact block_lt_of_cell y0
  refine (callsIn_wide (n := 9)).1 ?_
  refine callsIn_of_wp_marks Tryz.func39 rfl trivial ?_ rfl
  unfold ptr
  simp only [Tryz.ntmps39, List.size_toArray, List.length_cons, List.length_nil, Nat.reduceAdd, Nat.reduceSub, Array.replicate_succ, Array.replicate_zero, List.push_toArray, List.append_toArray, List.nil_append, List.cons_append]
  gi_wp2
  obtain ⟨W1, hW1⟩ : ∃ W1, w.alloc (.cells #[.pointer none, .int .i64 0, .pointer none] 56) = W1 := ⟨_, rfl⟩
  have hbx : W1.heap[w.heap.size]? = some (.cells #[.pointer none, .int .i64 0, .pointer none] 56 (0, 0)) := by rw [← hW1]; exact heap_alloc_new w _
  have B1 : Below w.heap.size w W1 := by rw [← hW1]; exact (Below.refl _ _).alloc (Nat.le_refl _) _
  have k1 := cell_regrown ((B1.cell (block_lt_of_cell w1)).trans w1)
  have cQ : ∀ d os, CallsIn Fence.wide (9 - 1) Tryz.prog 58 #[.pointer (some ⟨pw, 0, none⟩), .int .i64 (c : Int)] (grow (redrawn W1 d) os) fun e' w'' => e' = .returned (.agg #[.pointer (some ⟨pw, 0, none⟩), .int .i64 (c : Int)]) ∧ ∃ p : Regrown, w'' = grow (redrawn W1 p.d) p.os := fun d os =>
    calls_fw (Calls.regrown_of (mk_queues pw (c : Int) _))
  have HC : Hid (w.rangeAt gr (go + c * 5) (cpC x)) := hc
  have hfn : ∀ f, Fence.wide.fn f := fun _ => trivial
  rw [hW1]
  clear hc hA hx hW1 w1
  refine region_gated_rg 10 rfl mixed (by kernel_rfl) ?_
  simp only [List.take_succ_cons, List.take_zero, List.drop_succ_cons, List.drop_zero]
  repeat (quiet_step_in (exact cQ _ _))
  refine wpQuietIn_nil ⟨by kernel_rfl, ?_⟩
  rintro _ ⟨⟨dq, osq⟩, rfl⟩
  have hb2 := below_block dq osq hbx
  have hthere := there_of_block hb2
  obtain ⟨x0, x1, x2⟩ : (grow (redrawn W1 dq) osq).cell? ⟨w.heap.size, 0, none⟩ = some (.pointer none) ∧ (grow (redrawn W1 dq) osq).cell? ⟨w.heap.size, 1, none⟩ = some (.int .i64 0) ∧ (grow (redrawn W1 dq) osq).cell? ⟨w.heap.size, 2, none⟩ = some (.pointer none) := by
    have hr := range_of_block (cs := [.pointer none, .int .i64 0, .pointer none]) hb2
    exact ⟨by simpa using hr 0 _ rfl, by simpa using hr 1 _ rfl, by simpa using hr 2 _ rfl⟩
  have f0 := fbox hb2 0
  have f1 := fbox hb2 1
  have f2 := fbox hb2 2
  refine op_runs (w' := (grow (redrawn W1 dq) osq).setCells w.heap.size 0 [.pointer (some ⟨pw, 0, none⟩), .int .i64 (c : Int), .pointer (some ⟨gr, go + c * 5, none⟩)]) (v := undef) (x := .skip) (by intro c e; cases e) (by intro c e; cases e) (by simp only [World.setCells]; go_simp) (.inr ⟨rfl, rfl⟩) ?_
  refine wpQuietIn_nil ?_
  have hrr := World.rangeAt_setCells_same (grow (redrawn W1 dq) osq) w.heap.size 0 [.pointer (some ⟨pw, 0, none⟩), .int .i64 (c : Int), .pointer (some ⟨gr, go + c * 5, none⟩)] hthere
  have B2 : Below w.heap.size w ((grow (redrawn W1 dq) osq).setCells w.heap.size 0 [.pointer (some ⟨pw, 0, none⟩), .int .i64 (c : Int), .pointer (some ⟨gr, go + c * 5, none⟩)]) := by
    have acc := B1.trans ((below_regrown W1 dq osq).mono B1.size)
    exact acc.trans ((Kept.setCells _ _ _ _).toBelow acc.size (fun g hg => by omega))
  generalize (grow (redrawn W1 dq) osq).setCells w.heap.size 0 [.pointer (some ⟨pw, 0, none⟩), .int .i64 (c : Int), .pointer (some ⟨gr, go + c * 5, none⟩)] = W3 at *
  have r0 : W3.cell? ⟨w.heap.size, 0, none⟩ = some (.pointer (some ⟨pw, 0, none⟩)) := by simpa using hrr 0 _ rfl
  have r1 : W3.cell? ⟨w.heap.size, 1, none⟩ = some (.int .i64 (c : Int)) := by simpa using hrr 1 _ rfl
  have r2 : W3.cell? ⟨w.heap.size, 2, none⟩ = some (.pointer (some ⟨gr, go + c * 5, none⟩)) := by simpa using hrr 2 _ rfl
  clear hrr hthere x0 x1 x2 f0 f1 f2 k1 cQ
  gi_wp2
  refine ⟨prV pw c gr (go + c * 5), ?_, gr, go + c * 5, rfl, range_below HC.out B2, hg, B2⟩
  simp [results, Tryz.f39, go_sem, r0, r1, r2, prV, ptr, ptrO]
theorem procAt_fix (pw c g0 o0 n0 cap0 : Nat) (u : Wv) (x : Cp) (w : World) (hA : AtW w pw u) (hx : u.cs[c]? = some x) (hz0 : u.x = .slice (some ⟨g0, o0, none⟩) n0 cap0) :
    Calls Tryz.prog 39 #[ptr pw, .int .i64 (c : Int)] w fun e w' => e = .returned (prV pw c g0 (o0 + c * 5)) ∧ w'.rangeAt g0 (o0 + c * 5) (cpC x) ∧ g0 < w.heap.size ∧ Below w.heap.size w w' := by
  have mixed : Tryz.prog.follows Departure.mixedOrders = true := by kernel_rfl
  obtain ⟨gr, go, cap, w1, hc, hk, hl⟩ := hA.cellsC hx
  have hq := hA.cells.2.1
  rw [w1, hz0] at hq
  simp only [Option.some.injEq, Value.slice.injEq, Addr.mk.injEq] at hq
  obtain ⟨⟨hq1, hq2, _⟩, hq3, hq4⟩ := hq
  subst hq1 hq2 hq4
  clear hq3 hz0
  have hg : gr < w.heap.size := by obtain ⟨y0, _⟩ := cp_cells hc; exact block_lt_of_cell y0
  refine (callsIn_wide (n := 9)).1 ?_
  refine callsIn_of_wp_marks Tryz.func39 rfl trivial ?_ rfl
  unfold ptr
  simp only [Tryz.ntmps39, List.size_toArray, List.length_cons, List.length_nil, Nat.reduceAdd, Nat.reduceSub, Array.replicate_succ, Array.replicate_zero, List.push_toArray, List.append_toArray, List.nil_append, List.cons_append]
  gi_wp2
  obtain ⟨W1, hW1⟩ : ∃ W1, w.alloc (.cells #[.pointer none, .int .i64 0, .pointer none] 56) = W1 := ⟨_, rfl⟩
  have hbx : W1.heap[w.heap.size]? = some (.cells #[.pointer none, .int .i64 0, .pointer none] 56 (0, 0)) := by rw [← hW1]; exact heap_alloc_new w _
  have B1 : Below w.heap.size w W1 := by rw [← hW1]; exact (Below.refl _ _).alloc (Nat.le_refl _) _
  have k1 := cell_regrown ((B1.cell (block_lt_of_cell w1)).trans w1)
  have cQ : ∀ d os, CallsIn Fence.wide (9 - 1) Tryz.prog 58 #[.pointer (some ⟨pw, 0, none⟩), .int .i64 (c : Int)] (grow (redrawn W1 d) os) fun e' w'' => e' = .returned (.agg #[.pointer (some ⟨pw, 0, none⟩), .int .i64 (c : Int)]) ∧ ∃ p : Regrown, w'' = grow (redrawn W1 p.d) p.os := fun d os =>
    calls_fw (Calls.regrown_of (mk_queues pw (c : Int) _))
  have HC : Hid (w.rangeAt gr (go + c * 5) (cpC x)) := hc
  have hfn : ∀ f, Fence.wide.fn f := fun _ => trivial
  rw [hW1]
  clear hc hA hx hW1 w1
  refine region_gated_rg 10 rfl mixed (by kernel_rfl) ?_
  simp only [List.take_succ_cons, List.take_zero, List.drop_succ_cons, List.drop_zero]
  repeat (quiet_step_in (exact cQ _ _))
  refine wpQuietIn_nil ⟨by kernel_rfl, ?_⟩
  rintro _ ⟨⟨dq, osq⟩, rfl⟩
  have hb2 := below_block dq osq hbx
  have hthere := there_of_block hb2
  obtain ⟨x0, x1, x2⟩ : (grow (redrawn W1 dq) osq).cell? ⟨w.heap.size, 0, none⟩ = some (.pointer none) ∧ (grow (redrawn W1 dq) osq).cell? ⟨w.heap.size, 1, none⟩ = some (.int .i64 0) ∧ (grow (redrawn W1 dq) osq).cell? ⟨w.heap.size, 2, none⟩ = some (.pointer none) := by
    have hr := range_of_block (cs := [.pointer none, .int .i64 0, .pointer none]) hb2
    exact ⟨by simpa using hr 0 _ rfl, by simpa using hr 1 _ rfl, by simpa using hr 2 _ rfl⟩
  have f0 := fbox hb2 0
  have f1 := fbox hb2 1
  have f2 := fbox hb2 2
  refine op_runs (w' := (grow (redrawn W1 dq) osq).setCells w.heap.size 0 [.pointer (some ⟨pw, 0, none⟩), .int .i64 (c : Int), .pointer (some ⟨gr, go + c * 5, none⟩)]) (v := undef) (x := .skip) (by intro c e; cases e) (by intro c e; cases e) (by simp only [World.setCells]; go_simp) (.inr ⟨rfl, rfl⟩) ?_
  refine wpQuietIn_nil ?_
  have hrr := World.rangeAt_setCells_same (grow (redrawn W1 dq) osq) w.heap.size 0 [.pointer (some ⟨pw, 0, none⟩), .int .i64 (c : Int), .pointer (some ⟨gr, go + c * 5, none⟩)] hthere
  have B2 : Below w.heap.size w ((grow (redrawn W1 dq) osq).setCells w.heap.size 0 [.pointer (some ⟨pw, 0, none⟩), .int .i64 (c : Int), .pointer (some ⟨gr, go + c * 5, none⟩)]) := by
    have acc := B1.trans ((below_regrown W1 dq osq).mono B1.size)
    exact acc.trans ((Kept.setCells _ _ _ _).toBelow acc.size (fun g hg => by omega))
  generalize (grow (redrawn W1 dq) osq).setCells w.heap.size 0 [.pointer (some ⟨pw, 0, none⟩), .int .i64 (c : Int), .pointer (some ⟨gr, go + c * 5, none⟩)] = W3 at *
  have r0 : W3.cell? ⟨w.heap.size, 0, none⟩ = some (.pointer (some ⟨pw, 0, none⟩)) := by simpa using hrr 0 _ rfl
  have r1 : W3.cell? ⟨w.heap.size, 1, none⟩ = some (.int .i64 (c : Int)) := by simpa using hrr 1 _ rfl
  have r2 : W3.cell? ⟨w.heap.size, 2, none⟩ = some (.pointer (some ⟨gr, go + c * 5, none⟩)) := by simpa using hrr 2 _ rfl
  clear hrr hthere x0 x1 x2 f0 f1 f2 k1 cQ
  gi_wp2
  refine ⟨prV pw c gr (go + c * 5), ?_, rfl, range_below HC.out B2, hg, B2⟩
  simp [results, Tryz.f39, go_sem, r0, r1, r2, prV, ptr, ptrO]
structure Fit (u : Wv) : Prop where
  n1 : 1 ≤ u.cs.length
  n4 : u.cs.length ≤ 4
  nt : u.ts.length = 12
  tree : treeB (gsD u.gs) = true
  sh : ∀ (k : Nat) (e : Gv), u.gs[k]? = some e → e.d.us = true → e.d.sh.length = u.cs.length
  dr : ∀ (k : Nat) (e : Gv), u.gs[k]? = some e → 0 < e.d.ba.qu → e.d.ba.dr.length = u.cs.length
theorem Fit.ok {u : Wv} (h : Fit u) {c : Nat} (hc : c < u.cs.length) : ShOk (gsD u.gs) c := by
  intro k d hk hu
  simp only [gsD, List.getElem?_map, Option.map_eq_some_iff] at hk
  obtain ⟨e, he, rfl⟩ := hk
  have := h.sh k e he hu
  exact ⟨e.d.sh[c]'(by omega), List.getElem?_eq_getElem _⟩
theorem Fit.g8 {u : Wv} (h : Fit u) : u.gs.length = 8 := by have := (tree_facts h.tree).1; rwa [gsD_length] at this
def TFit (u : Wv) : Prop := ∀ (k : Nat) (t : Tk), u.ts[k]? = some t → t.st ≠ 0 → ∃ g c : Nat, t.gr = (g : Int) ∧ g < 8 ∧ usAt (gsD u.gs) g = true ∧ t.cpu = (c : Int) ∧ c < u.cs.length
def inlT (u : Wv) (t : Int) (c : Nat) : Bool := taskB u.ts t && (u.ts[t.toNat]?).any (fun e => decide (e.cpu = (c : Int)) && inlineB (gsD u.gs) e.st e.gr.toNat c)
theorem task_at {ts : List Tk} {t : Int} (h : taskB ts t = true) : ∃ (k : Nat) (e : Tk), t = (k : Int) ∧ k < ts.length ∧ ts[k]? = some e ∧ e.st ≠ 0 := by
  unfold taskB at h
  simp only [Bool.and_eq_true, decide_eq_true_eq] at h
  obtain ⟨h1, h2, h3⟩ := h
  obtain ⟨k, rfl⟩ := Int.eq_ofNat_of_zero_le h1
  rw [Int.toNat_natCast] at h3
  obtain ⟨e, he⟩ := row_get (xs := ts) (k := k) (by omega)
  rw [he] at h3
  exact ⟨k, e, rfl, by omega, he, by simpa using h3⟩
theorem boxed_pr {w W : World} {pw c : Nat} {g o : Nat} (h : w.alloc (.cells #[.pointer (some ⟨pw, 0, none⟩), .int .i64 (c : Int), .pointer (some ⟨g, o, none⟩)] 56) = W) :
    Below w.heap.size w W ∧ W.cell? ⟨w.heap.size, 0, none⟩ = some (.pointer (some ⟨pw, 0, none⟩)) ∧ W.cell? ⟨w.heap.size, 1, none⟩ = some (.int .i64 (c : Int)) ∧ W.cell? ⟨w.heap.size, 2, none⟩ = some (.pointer (some ⟨g, o, none⟩)) ∧ w.heap.size < W.heap.size := by
  subst h
  have hr := range_of_block (cs := [.pointer (some ⟨pw, 0, none⟩), .int .i64 (c : Int), .pointer (some ⟨g, o, none⟩)]) (World.alloc_heap_new w (.cells #[.pointer (some ⟨pw, 0, none⟩), .int .i64 (c : Int), .pointer (some ⟨g, o, none⟩)] 56))
  exact ⟨(Below.refl _ _).alloc (Nat.le_refl _) _, hr 0 _ rfl, hr 1 _ rfl, hr 2 _ rfl, by simp⟩
theorem hasInLine_any (pw c pg po : Nat) (t : Int) (u : Wv) (w : World) (hA : AtW w pw u) (hF : Fit u) (hT : TFit u) (hc : c < u.cs.length) :
    Calls Tryz.prog 123 #[prV pw (c : Int) pg po, .int .i64 t] w fun e w' => e = .returned (.bool (inlT u t c)) ∧ Below w.heap.size w w' := by
  unfold prV ptr ptrO
  obtain ⟨W1, hW1⟩ : ∃ W1, w.alloc (.cells #[.pointer (some ⟨pw, 0, none⟩), .int .i64 (c : Int), .pointer (some ⟨pg, po, none⟩)] 56) = W1 := ⟨_, rfl⟩
  obtain ⟨B1, q0, q1, q2, l1⟩ := boxed_pr hW1
  have k0 := cell_regrown q0
  have k1 := cell_regrown q1
  have cH : ∀ d os, Calls Tryz.prog 161 #[.pointer (some ⟨pw, 0, none⟩), .int .i64 t] (grow (redrawn W1 d) os) fun e' w'' => e' = .returned (.bool (taskB u.ts t)) ∧ ∃ p : Regrown, w'' = grow (redrawn W1 p.d) p.os := fun d os =>
    Calls.regrown_of ((hasTask_any pw t u _ ((hA.below B1).below (below_regrown W1 d os))).mono fun e' w' h => ⟨h.1, h.2 ▸ Below.refl _ _⟩)
  cases htb : taskB u.ts t
  · have HR : Hid (inlT u t c = false) := by unfold Hid inlT; rw [htb]; rfl
    rw [htb] at cH
    clear hA q0 q1 q2
    go_enter Tryz.func123, Tryz.ntmps123
    go_wp2
    refine wp_region_quiet_below (by kernel_rfl) (by kernel_rfl) ?_
    clear hW1
    repeat (go_big_quiet_step (exact cH _ _))
    refine wpQuiet_nil ?_
    rintro _ ⟨⟨dq, osq⟩, rfl⟩
    go_wp2
    go_ret
    exact ⟨by rw [HR.out]; rfl, B1.trans ((below_regrown W1 dq osq).mono B1.size)⟩
  · obtain ⟨k, e, rfl, hk, he, hne⟩ := task_at htb
    obtain ⟨g, c', hg, hg8, hug, hcp, hc'⟩ := hT k e he hne
    have hR : inlT u (k : Int) c = (decide (e.cpu = (c : Int)) && inlineB (gsD u.gs) e.st g c) := by
      unfold inlT; rw [htb, Int.toNat_natCast, he, Bool.true_and]; show (decide (e.cpu = (c : Int)) && inlineB (gsD u.gs) e.st e.gr.toNat c) = _; rw [hg, Int.toNat_natCast]
    rw [htb] at cH
    obtain ⟨tg, to, cap, w2, hr, hlt, hlen⟩ := (hA.below B1).cellsT he
    obtain ⟨t0, t1, t2, t3, t4, t5, t6, t7, t8⟩ := tk_cells hr
    have j0 := cell_regrown t0; have j1 := cell_regrown t1; have j2 := cell_regrown t2; have j3 := cell_regrown t3; have j4 := cell_regrown t4; have j5 := cell_regrown t5; have j6 := cell_regrown t6; have j7 := cell_regrown t7; have j8 := cell_regrown t8
    have jw := cell_regrown w2
    clear t0 t1 t2 t3 t4 t5 t6 t7 t8 w2 hr q0 q1 q2
    by_cases hcc : e.cpu = (c : Int)
    · have HR : Hid (inlT u (k : Int) c = inlineB (gsD u.gs) e.st g c) := by unfold Hid; rw [hR, decide_eq_true hcc]; rfl
      have cI : ∀ d os, Calls Tryz.prog 162 #[.pointer (some ⟨pw, 0, none⟩), .agg #[.int .i64 e.st, .int .i64 e.gr, .int .i64 (c : Int), .int .i64 e.ni, .int .i64 e.ma, .int .i64 e.v, .int .i64 e.su, .int .i64 e.us, .int .i64 e.lo]] (grow (redrawn W1 d) os) fun e' w'' => e' = .returned (.bool (inlineB (gsD u.gs) e.st g c)) ∧ ∃ p : Regrown, w'' = grow (redrawn W1 p.d) p.os := fun d os => by
        have := inLine_any pw g c e u _ ((hA.below B1).below (below_regrown W1 d os)) hF.tree hg8 hug (hF.ok hc) hg hcc
        unfold tkV ptr at this
        rw [hcc] at this
        exact Calls.regrown_of this
      rw [hcc] at j2
      clear hA hR he hg hcp hcc hne htb
      go_enter Tryz.func123, Tryz.ntmps123
      go_wp2
      refine wp_region_quiet_below (by kernel_rfl) (by kernel_rfl) ?_
      clear hW1
      repeat (go_big_quiet_step (first | exact cH _ _ | exact cI _ _))
      refine wpQuiet_nil ?_
      rintro _ ⟨⟨dq, osq⟩, rfl⟩
      go_wp2
      go_ret
      exact ⟨by rw [HR.out]; rfl, B1.trans ((below_regrown W1 dq osq).mono B1.size)⟩
    · have HR : Hid (inlT u (k : Int) c = false) := by unfold Hid; rw [hR, decide_eq_false hcc]; rfl
      have hbe : (e.cpu == (c : Int)) = false := by simpa using hcc
      clear hA hR he hg hcp hne htb
      go_enter Tryz.func123, Tryz.ntmps123
      go_wp2
      refine wp_region_quiet_below (by kernel_rfl) (by kernel_rfl) ?_
      clear hW1
      repeat (go_big_quiet_step (exact cH _ _))
      refine wpQuiet_nil ?_
      rintro _ ⟨⟨dq, osq⟩, rfl⟩
      go_wp2
      go_ret
      exact ⟨by rw [HR.out]; rfl, B1.trans ((below_regrown W1 dq osq).mono B1.size)⟩
end Go.Proofs.YtnmmglkigiakaaaGreat
namespace Go.Proofs.YtnmmglkigiakaaaGreat
set_option maxRecDepth 100000
set_option maxHeartbeats 32000000
set_option linter.unusedVariables false
set_option linter.unusedSimpArgs false
open Go.ChangeShapes Go.WideShapes Go.ChangeAt Go.RowKit Go.Shelf Go.Sort
def pickTo (p : Nat → Bool) (k : Nat) : List Nat := (List.range k).filter p
theorem pickTo_succ (p : Nat → Bool) (k : Nat) : pickTo p (k + 1) = pickTo p k ++ (if p k = true then [k] else []) := by
  unfold pickTo
  rw [List.range_succ, List.filter_append]
  congr 1
  by_cases h : p k = true
  · rw [if_pos h]; simp only [List.filter_cons, h, if_true, List.filter_nil]
  · rw [if_neg h]; simp only [List.filter_cons, h, List.filter_nil]; rfl
theorem pickTo_yes {p : Nat → Bool} {k : Nat} (h : p k = true) : pickTo p (k + 1) = pickTo p k ++ [k] := by rw [pickTo_succ, if_pos h]
theorem pickTo_no {p : Nat → Bool} {k : Nat} (h : p k = false) : pickTo p (k + 1) = pickTo p k := by rw [pickTo_succ, if_neg (by rw [h]; decide), List.append_nil]
theorem pickTo_pre (p : Nat → Bool) {k n : Nat} (h : k ≤ n) : ∃ post, pickTo p n = pickTo p k ++ post := by
  obtain ⟨d, rfl⟩ := Nat.exists_eq_add_of_le h
  unfold pickTo
  rw [List.range_add, List.filter_append]
  exact ⟨_, rfl⟩
theorem pickTo_len (p : Nat → Bool) (k : Nat) : (pickTo p k).length ≤ k := by
  unfold pickTo
  exact Nat.le_trans (List.length_filter_le _ _) (by simp)
theorem pickTo_mem {p : Nat → Bool} {k i : Nat} (h : i ∈ pickTo p k) : i < k ∧ p i = true := by
  unfold pickTo at h
  rw [List.mem_filter, List.mem_range] at h
  exact h

def niK (u : Wv) (k : Nat) : Int := ((u.ts[k]?).map (fun e => wof e.ni)).getD 0
theorem niK_at {u : Wv} {k : Nat} {e : Tk} (he : u.ts[k]? = some e) : niK u k = wof e.ni := by unfold niK; rw [he]; rfl
theorem wof_range (n : Int) : 0 ≤ wof n ∧ wof n ≤ 20 := by
  unfold wof
  split <;> omega
theorem niK_range (u : Wv) (k : Nat) : 0 ≤ niK u k ∧ niK u k ≤ 20 := by
  unfold niK
  cases u.ts[k]? with
  | none => exact ⟨by decide, by decide⟩
  | some e => exact wof_range _
def sumW (u : Wv) : List Nat → Int
  | [] => 0
  | k :: l => niK u k + sumW u l
theorem sumW_app (u : Wv) (l m : List Nat) : sumW u (l ++ m) = sumW u l + sumW u m := by
  induction l with
  | nil => simp [sumW]
  | cons k l ih => simp only [List.cons_append, sumW, ih]; omega
theorem sumW_one (u : Wv) (l : List Nat) (k : Nat) : sumW u (l ++ [k]) = sumW u l + niK u k := by
  rw [sumW_app]; simp [sumW]
theorem sumW_range (u : Wv) (l : List Nat) : 0 ≤ sumW u l ∧ sumW u l ≤ 20 * (l.length : Int) := by
  induction l with
  | nil => simp [sumW]
  | cons k l ih =>
    have := niK_range u k
    simp only [sumW, List.length_cons]
    omega
theorem sumW_pick (u : Wv) (p : Nat → Bool) (k : Nat) : 0 ≤ sumW u (pickTo p k) ∧ sumW u (pickTo p k) ≤ 20 * (k : Int) := by
  have h1 := sumW_range u (pickTo p k)
  have h2 := pickTo_len p k
  exact ⟨h1.1, by omega⟩
def lineB (u : Wv) (c i : Nat) : Bool := (u.ts[i]?).any (fun e => decide (e.cpu = (c : Int)) && inlineB (gsD u.gs) e.st e.gr.toNat c)
theorem lineB_at {u : Wv} {c i : Nat} {e : Tk} (he : u.ts[i]? = some e) : lineB u c i = (decide (e.cpu = (c : Int)) && inlineB (gsD u.gs) e.st e.gr.toNat c) := by unfold lineB; rw [he]; rfl
theorem inline_ready {ds : List Gr} {st : Int} {g c : Nat} (h : inlineB ds st g c = true) : st = 1 := by
  unfold inlineB at h
  rw [Bool.and_eq_true] at h
  exact of_decide_eq_true h.1
theorem lineB_inlT (u : Wv) (c i : Nat) : inlT u (i : Int) c = lineB u c i := by
  unfold inlT
  rw [Int.toNat_natCast]
  show (taskB u.ts (i : Int) && lineB u c i) = lineB u c i
  cases h : lineB u c i
  · rw [Bool.and_false]
  · rw [Bool.and_true]
    unfold lineB at h
    cases he : u.ts[i]? with
    | none => rw [he] at h; cases h
    | some e =>
      rw [he] at h
      have h' : (decide (e.cpu = (c : Int)) && inlineB (gsD u.gs) e.st e.gr.toNat c) = true := h
      rw [Bool.and_eq_true] at h'
      have hst := inline_ready h'.2
      have hl := (List.getElem?_eq_some_iff.1 he).1
      unfold taskB
      rw [decide_eq_true (by omega : (0 : Int) ≤ (i : Int)), decide_eq_true (by omega : (i : Int) < (u.ts.length : Int)), Int.toNat_natCast, he]
      show decide (e.st ≠ 0) = true
      exact decide_eq_true (by omega)
def lineL (u : Wv) (c : Nat) : List Nat := pickTo (lineB u c) u.ts.length
def loadN (u : Wv) (c : Nat) : Int := sumW u (lineL u c)
def curAt (u : Wv) (c : Nat) : Int := ((u.cs[c]?).map (fun e => e.cur)).getD 0
theorem cpuB_at {cs : List Cp} {c : Nat} (h : c < cs.length) : cpuB cs (c : Int) = true := by
  unfold cpuB
  rw [decide_eq_true (by omega), decide_eq_true (by omega)]; rfl
theorem forms_at {W : World} {b : Nat} {u : Wv} {p1 p2 p3 : Option Addr} {c1 c2 c3 : Nat} (hA : AtW W b u) (e1 : u.x = .slice p1 u.cs.length c1) (e2 : u.y = .slice p2 u.ts.length c2) (e3 : u.z = .slice p3 u.gs.length c3) :
    W.cell? ⟨b, 0, none⟩ = some (.int .i64 u.now) ∧ W.cell? ⟨b, 1, none⟩ = some (.slice p1 u.cs.length c1) ∧ W.cell? ⟨b, 2, none⟩ = some (.slice p2 u.ts.length c2) ∧ W.cell? ⟨b, 3, none⟩ = some (.slice p3 u.gs.length c3) := by
  obtain ⟨o0, o1, o2, o3⟩ := hA.cells
  rw [e1] at o1
  rw [e2] at o2
  rw [e3] at o3
  exact ⟨o0, o1, o2, o3⟩
theorem slw_forms {W : World} {u : Wv} (hs : SlW W u) : ∃ p1 c1 p2 c2 p3 c3, u.x = .slice p1 u.cs.length c1 ∧ u.y = .slice p2 u.ts.length c2 ∧ u.z = .slice p3 u.gs.length c3 ∧ u.cs.length ≤ 9223372036854775807 ∧ u.ts.length ≤ 9223372036854775807 ∧ u.gs.length ≤ 9223372036854775807 := by
  obtain ⟨p1, c1, e1, h1⟩ := SlR.form hs.1
  obtain ⟨p2, c2, e2, h2⟩ := SlR.form hs.2.1
  obtain ⟨p3, c3, e3, h3⟩ := SlR.form hs.2.2.1
  exact ⟨p1, c1, p2, c2, p3, c3, e1, e2, e3, h1, h2, h3⟩
theorem rows_at {W1 : World} {b : Nat} {u : Wv} {p1 p2 p3 : Option Addr} {c1 c2 c3 : Nat} (hA : AtW W1 b u) (e1 : u.x = .slice p1 u.cs.length c1) (e2 : u.y = .slice p2 u.ts.length c2) (e3 : u.z = .slice p3 u.gs.length c3) :
    Hid (∀ wr, Below W1.heap.size W1 wr → wr.cell? ⟨b, 0, none⟩ = some (.int .i64 u.now) ∧ wr.cell? ⟨b, 1, none⟩ = some (.slice p1 u.cs.length c1) ∧ wr.cell? ⟨b, 2, none⟩ = some (.slice p2 u.ts.length c2) ∧ wr.cell? ⟨b, 3, none⟩ = some (.slice p3 u.gs.length c3)) ∧
    Hid (∀ wr k e, Below W1.heap.size W1 wr → u.ts[k]? = some e → ∃ tg to, p2 = some ⟨tg, to, none⟩ ∧ wr.rangeAt tg (to + k * 9) (tkC e) ∧ tg < W1.heap.size) ∧
    Hid (∀ wr k e, Below W1.heap.size W1 wr → u.cs[k]? = some e → ∃ tg to, p1 = some ⟨tg, to, none⟩ ∧ wr.rangeAt tg (to + k * 5) (cpC e) ∧ tg < W1.heap.size) ∧
    Hid (∀ wr k e, Below W1.heap.size W1 wr → u.gs[k]? = some e → ∃ tg to, p3 = some ⟨tg, to, none⟩ ∧ wr.rangeAt tg (to + k * 14) (gvC e) ∧ tg < W1.heap.size) := by
  refine ⟨fun wr hb => forms_at (hA.below hb) e1 e2 e3, fun wr k e hb he => ?_, fun wr k e hb he => ?_, fun wr k e hb he => ?_⟩
  · obtain ⟨tg, to, cap, m, hr, _, _⟩ := (hA.below hb).cellsT he
    obtain ⟨tg', to', cap', m', hr', _, _⟩ := hA.cellsT he
    rw [(forms_at (hA.below hb) e1 e2 e3).2.2.1] at m
    rw [(forms_at hA e1 e2 e3).2.2.1] at m'
    simp only [Option.some.injEq, Value.slice.injEq] at m m'
    have q := m.1.symm.trans m'.1
    simp only [Option.some.injEq, Addr.mk.injEq] at q
    exact ⟨tg, to, m.1, hr, by rw [q.1]; exact block_lt_of_cell (tk_cells hr').1⟩
  · obtain ⟨tg, to, cap, m, hr, _, _⟩ := (hA.below hb).cellsC he
    obtain ⟨tg', to', cap', m', hr', _, _⟩ := hA.cellsC he
    rw [(forms_at (hA.below hb) e1 e2 e3).2.1] at m
    rw [(forms_at hA e1 e2 e3).2.1] at m'
    simp only [Option.some.injEq, Value.slice.injEq] at m m'
    have q := m.1.symm.trans m'.1
    simp only [Option.some.injEq, Addr.mk.injEq] at q
    exact ⟨tg, to, m.1, hr, by rw [q.1]; exact block_lt_of_cell (cp_cells hr').1⟩
  · obtain ⟨tg, to, cap, m, hr, _, _⟩ := (hA.below hb).cellsG he
    obtain ⟨tg', to', cap', m', hr', _, _⟩ := hA.cellsG he
    rw [(forms_at (hA.below hb) e1 e2 e3).2.2.2] at m
    rw [(forms_at hA e1 e2 e3).2.2.2] at m'
    simp only [Option.some.injEq, Value.slice.injEq] at m m'
    have q := m.1.symm.trans m'.1
    simp only [Option.some.injEq, Addr.mk.injEq] at q
    exact ⟨tg, to, m.1, hr, by rw [q.1]; exact block_lt_of_cell (gv_cells hr').1⟩
end Go.Proofs.YtnmmglkigiakaaaGreat
namespace Go.Proofs.YtnmmglkigiakaaaGreat
set_option maxRecDepth 100000
set_option maxHeartbeats 32000000
set_option linter.unusedVariables false
set_option linter.unusedSimpArgs false
open Go.ChangeShapes Go.WideShapes Go.ChangeAt Go.RowKit Go.Shelf Go.Sort
attribute [local go_sem] Oper.semAt_some
def RowI (W : World) (v : Value) (l : List Nat) : Prop := ∃ p cap, v = .slice p l.length cap ∧ ∀ (i x : Nat), l[i]? = some x → ∃ g o, p = some ⟨g, o, none⟩ ∧ W.cell? ⟨g, o + i, none⟩ = some (.int .i64 (x : Int))
def cellsN (l : List Nat) : List Value := l.map fun (x : Nat) => .int .i64 (x : Int)
theorem rowI_own {B : Nat} {W : World} {v : Value} {l : List Nat} (h : W.ownsRow B 3 1 v l.length (cellsN l)) : RowI W v l := by
  rcases Go.Joins.ownsRow_forms h with ⟨rfl, h0⟩ | ⟨g, cap, rfl⟩
  · rw [List.length_eq_zero_iff] at h0
    subst h0
    exact ⟨none, 0, rfl, fun i x hi => by simp at hi⟩
  · refine ⟨_, cap, rfl, fun i x hi => ⟨g, 0, rfl, ?_⟩⟩
    have hil := (List.getElem?_eq_some_iff.1 hi).1
    rw [Nat.zero_add, h.cellAt i (by omega)]
    unfold cellsN
    rw [List.getElem?_map, hi]; rfl
theorem sumW_take {u : Wv} {l : List Nat} {k x : Nat} (h : l[k]? = some x) : sumW u (l.take (k + 1)) = sumW u (l.take k) + niK u x := by
  rw [List.take_add_one, h]
  exact sumW_one u _ x
theorem sumW_take_range (u : Wv) (l : List Nat) (k : Nat) (h : l.length ≤ 12) : 0 ≤ sumW u (l.take k) ∧ sumW u (l.take k) ≤ 240 := by
  have h1 := sumW_range u (l.take k)
  have h2 : (l.take k).length ≤ l.length := by rw [List.length_take]; omega
  exact ⟨h1.1, by omega⟩
theorem weightsOf_any (pw : Nat) (u : Wv) (l : List Nat) (v : Value) (w : World) (hA : AtW w pw u) (hr : RowI w v l) (hl : l.length ≤ 12) (hm : ∀ x, x ∈ l → x < u.ts.length) :
    Calls Tryz.prog 76 #[ptr pw, v] w fun e w' => e = .returned (.int .i64 (sumW u l)) ∧ w' = w := by
  obtain ⟨p, cap, rfl, hx⟩ := hr
  unfold ptr
  have HX : Hid (∀ (i x : Nat), l[i]? = some x → ∃ g o, p = some ⟨g, o, none⟩ ∧ w.cell? ⟨g, o + i, none⟩ = some (.int .i64 (x : Int))) := hx
  have HA : Hid (AtW w pw u) := hA
  have HM : Hid (∀ x, x ∈ l → x < u.ts.length) := hm
  clear hx hA hm
  go_enter Tryz.func76, Tryz.ntmps76
  go_wp2
  go_loop [5, 10] (fun n t => ∃ k : Nat, k ≤ l.length ∧ n = .int .i64 (sumW u (l.take k)) ∧ t = .int .i64 (k : Int)) (fun _ t => l.length - (intOf t).toNat)
  case atStart => exact ⟨0, Nat.zero_le _, rfl, rfl⟩
  case round =>
    obtain ⟨k, hk, rfl, rfl⟩ := hrel
    obtain ⟨n, hn⟩ : ∃ n, sumW u (l.take k) = n := ⟨_, rfl⟩
    have hnr := sumW_take_range u l k hl
    rw [hn] at hnr ⊢
    have HN : Hid (sumW u (l.take k) = n) := hn
    clear hn
    by_cases hlt : k < l.length
    · have hlt' : (k : Int) < (l.length : Int) := by omega
      obtain ⟨x, hxk⟩ : ∃ x, l[k]? = some x := ⟨_, List.getElem?_eq_getElem hlt⟩
      obtain ⟨g, o, rfl, hc⟩ := HX.out k x hxk
      have hxl := HM.out x (List.mem_of_getElem? hxk)
      have hxl' : (x : Int) < (u.ts.length : Int) := by omega
      obtain ⟨e, he⟩ := row_get hxl
      obtain ⟨tg, to, tcap, m2, hrow, _, htl⟩ := HA.out.cellsT he
      obtain ⟨x0, x1, x2, x3, x4, x5, x6, x7, x8⟩ := tk_cells hrow
      have HS : Hid (sumW u (l.take (k + 1)) = n + wof e.ni) := by unfold Hid; rw [sumW_take hxk, HN.out, niK_at he]
      have hwr := wof_range e.ni
      have HLT : Hid (k < l.length) := hlt
      clear hrow he hxk hlt x0 x1 x2 x4 x5 x6 x7 x8
      go_wp2_with (go_at_call 120; refine (impl_wof _ _).mono ?_; rintro e1 V1 ⟨rfl, rfl⟩)
      exact ⟨⟨k + 1, HLT.out, by rw [HS.out] <;> go_num, by go_num⟩, by simp [intOf]; omega⟩
    · have hlt' : ¬ (k : Int) < (l.length : Int) := by omega
      have HS : Hid (sumW u l = n) := by unfold Hid; rw [← HN.out, List.take_of_length_le (by omega)]
      clear hlt
      go_wp2
      go_ret
      exact ⟨by rw [HS.out] <;> rfl, rfl⟩

end Go.Proofs.YtnmmglkigiakaaaGreat
