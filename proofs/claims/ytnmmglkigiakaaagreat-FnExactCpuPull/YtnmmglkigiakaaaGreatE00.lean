/- CA CD CE OG OQ OT OW OX OY OZ -/
import Derived.Test.YtnmmglkigiakaaaGreatD34
import Derived.Test.YtnmmglkigiakaaaGreatD35
import Derived.Lib.SmallJoins
set_option maxRecDepth 100000
set_option maxHeartbeats 32000000
set_option linter.unusedVariables false
set_option linter.unusedSimpArgs false
open Go.ChangeShapes Go.WideShapes Go.ChangeAt Go.RowKit Go.Shelf Go.Sort
namespace Go.Proofs.YtnmmglkigiakaaaGreat
theorem load_range {u : Wv} (h : u.ts.length = 12) (c : Nat) : 0 ≤ loadN u c ∧ loadN u c ≤ 240 := by
  have := sumW_pick u (lineB u c) u.ts.length
  unfold loadN lineL
  omega
end Go.Proofs.YtnmmglkigiakaaaGreat
namespace Go.Proofs.YtnmmglkigiakaaaGreat
attribute [local go_sem] Oper.semAt_some
theorem rowI_one {W : World} {b x : Nat} (h : W.cell? ⟨b, 0, none⟩ = some (.int .i64 (x : Int))) : RowI W (.slice (some ⟨b, 0, none⟩) 1 1) [x] := by
  refine ⟨_, 1, rfl, fun i y hi => ⟨b, 0, rfl, ?_⟩⟩
  have hil := (List.getElem?_eq_some_iff.1 hi).1
  simp only [List.length_cons, List.length_nil] at hil
  obtain rfl : i = 0 := by omega
  simp only [List.getElem?_cons_zero, Option.some.injEq] at hi
  subst hi
  exact h
theorem blocks4 {w w1 : World} {A B C D : Obj} (h : ((((w.alloc A).alloc B).alloc C).alloc D) = w1) :
    w1.heap[w.heap.size]? = some A ∧ w1.heap.size = w.heap.size + 4 ∧ w1.heap[w.heap.size + 1]? = some B ∧ w1.heap[w.heap.size + 1 + 1]? = some C ∧ w1.heap[w.heap.size + 1 + 1 + 1]? = some D ∧ Below w.heap.size w w1 := by
  have nw : ∀ (v : World) (o : Obj) (n : Nat), v.heap.size = n → (v.alloc o).heap[n]? = some o := fun v o n e => by subst e; exact heap_alloc_new v o
  have od : ∀ (v : World) (o o' : Obj) (n : Nat), n < v.heap.size → v.heap[n]? = some o → (v.alloc o').heap[n]? = some o := fun v o o' n e h => (Below.heap_alloc v o' n e).trans h
  subst h
  refine ⟨?_, by simp, ?_, ?_, ?_, ?_⟩
  · exact od _ _ _ _ (by simp <;> omega) (od _ _ _ _ (by simp <;> omega) (od _ _ _ _ (by simp <;> omega) (nw _ _ _ rfl)))
  · exact od _ _ _ _ (by simp <;> omega) (od _ _ _ _ (by simp <;> omega) (nw _ _ _ (by simp)))
  · exact od _ _ _ _ (by simp <;> omega) (nw _ _ _ (by simp))
  · exact nw _ _ _ (by simp)
  · exact (((((Below.refl _ _).alloc (Nat.le_refl _) _).alloc (by simp) _).alloc (by simp; omega) _).alloc (by simp; omega) _)
end Go.Proofs.YtnmmglkigiakaaaGreat
namespace Go.Proofs.YtnmmglkigiakaaaGreat
def fitsB (u : Wv) (t b c : Nat) : Bool := decide (loadN u c = 0) || decide (loadN u c + niK u t ≤ loadN u b - niK u t)
def takeB (u : Wv) (b c t : Nat) : Bool := (u.ts[t]?).any (fun e => decide (e.cpu = (b : Int))) && (couldB u c t && fitsB u t b c)
def firstTo (p : Nat → Bool) : Nat → Int
  | 0 => -1
  | k + 1 => if firstTo p k < 0 ∧ p k = true then (k : Int) else firstTo p k
def takeM (u : Wv) (b c : Nat) : Int := firstTo (takeB u b c) u.ts.length
theorem firstTo_no {p : Nat → Bool} {k : Nat} (h : ∀ i, i < k → p i = false) : firstTo p k = -1 := by
  induction k with
  | zero => rfl
  | succ k ih =>
    unfold firstTo
    rw [h k (by omega), if_neg (by simp), ih (fun i hi => h i (by omega))]
theorem firstTo_yes {p : Nat → Bool} {i k : Nat} (h : ∀ j, j < i → p j = false) (hi : p i = true) (hk : i < k) : firstTo p k = (i : Int) := by
  induction k with
  | zero => omega
  | succ k ih =>
    unfold firstTo
    rcases Nat.lt_succ_iff_lt_or_eq.1 hk with hl | rfl
    · rw [ih hl, if_neg (by omega)]
    · rw [firstTo_no h, if_pos ⟨by omega, hi⟩]
end Go.Proofs.YtnmmglkigiakaaaGreat
namespace Go.Proofs.YtnmmglkigiakaaaGreat
attribute [local go_sem] Oper.semAt_some
theorem takeB_line {u : Wv} {b c j : Nat} (h : takeB u b c j = true) : lineB u b j = true ∧ couldB u c j = true ∧ fitsB u j b c = true := by
  unfold takeB at h
  rw [Bool.and_eq_true, Bool.and_eq_true] at h
  obtain ⟨h1, h2, h3⟩ := h
  refine ⟨?_, h2, h3⟩
  unfold couldB at h2
  cases he : u.ts[j]? with
  | none => rw [he] at h1; cases h1
  | some e =>
    rw [he] at h1 h2
    have h4 : decide (e.cpu = (b : Int)) = true := h1
    have h5 := of_decide_eq_true h4
    have h6 : (decide (e.cpu ≠ (c : Int)) && (inlineB (gsD u.gs) e.st e.gr.toNat e.cpu.toNat && (decide (curAt u e.cpu.toNat ≠ (j : Int)) && (Msk.hasB (whereM u.cs (gsD u.gs) e.gr.toNat e.ma) (c : Int) && (outs (gsD u.gs) e.gr.toNat).all fun g => !dryG u c g)))) = true := h2
    simp only [Bool.and_eq_true] at h6
    have h7 := h6.2.1
    rw [lineB_at he, h4, Bool.true_and]
    rw [h5, Int.toNat_natCast] at h7
    exact h7
theorem line_take {u : Wv} {b c j : Nat} (h1 : lineB u b j = true) (h2 : couldB u c j = true) (h3 : fitsB u j b c = true) : takeB u b c j = true := by
  unfold takeB
  rw [h2, h3]
  unfold lineB at h1
  cases he : u.ts[j]? with
  | none => rw [he] at h1; cases h1
  | some e =>
    rw [he] at h1
    have h4 : (decide (e.cpu = (b : Int)) && inlineB (gsD u.gs) e.st e.gr.toNat b) = true := h1
    rw [Bool.and_eq_true] at h4
    show (decide (e.cpu = (b : Int)) && (true && true)) = true
    rw [h4.1]; rfl
theorem pickTo_sorted (p : Nat → Bool) (k : Nat) : (pickTo p k).Pairwise (· < ·) := by
  unfold pickTo
  exact List.Pairwise.sublist List.filter_sublist List.pairwise_lt_range
theorem line_pre {u : Wv} {b x : Nat} {pre post : List Nat} (h : lineL u b = pre ++ x :: post) {j : Nat} (hj : j < x) (hl : lineB u b j = true) (hlen : j < u.ts.length) : j ∈ pre := by
  have hm : j ∈ lineL u b := by
    unfold lineL pickTo
    rw [List.mem_filter, List.mem_range]
    exact ⟨hlen, hl⟩
  have hs : (lineL u b).Pairwise (· < ·) := pickTo_sorted _ _
  rw [h] at hm hs
  rw [List.pairwise_append] at hs
  rcases List.mem_append.1 hm with h1 | h1
  · exact h1
  · rcases List.mem_cons.1 h1 with rfl | h2
    · omega
    · have := (List.pairwise_cons.1 hs.2.1).1 j h2
      omega
theorem pullFrom_any (pw c pg po b og oo : Nat) (u : Wv) (w : World) (hA : AtW w pw u) (ho : okS u = true) (hc : c < u.cs.length) (hb : b < u.cs.length) :
    Calls Tryz.prog 85 #[prV pw (c : Int) pg po, prV pw (b : Int) og oo] w fun e w' => e = .returned (.tuple #[.int .i64 ((encB (takeM u b c)).1 : Int), .bool (encB (takeM u b c)).2]) ∧ Below w.heap.size w w' := by
  have mixed : Tryz.prog.follows Departure.mixedOrders = true := by kernel_rfl
  have hfn : ∀ f, Fence.wide.fn f := fun _ => trivial
  obtain ⟨hF, hCP, hTF, hTG⟩ := okS_read ho
  have HL : Hid (u.ts.length = 12) := hF.nt
  unfold prV ptr ptrO
  obtain ⟨la, hla⟩ : ∃ n, loadN u c = n := ⟨_, rfl⟩
  obtain ⟨lb, hlb⟩ : ∃ n, loadN u b = n := ⟨_, rfl⟩
  have hlar := load_range hF.nt c
  have hlbr := load_range hF.nt b
  rw [hla] at hlar
  rw [hlb] at hlbr
  have HFIT : Hid (∀ t, fitsB u t b c = (decide (la = 0) || decide (la + niK u t ≤ lb - niK u t))) := fun t => by unfold fitsB; rw [hla, hlb]
  obtain ⟨W1, hW1⟩ : ∃ W1, ((((w.alloc (.cells #[.pointer (some ⟨pw, 0, none⟩), .int .i64 (c : Int), .pointer (some ⟨pg, po, none⟩)] 56)).alloc (.cells #[.pointer (some ⟨pw, 0, none⟩), .int .i64 (b : Int), .pointer (some ⟨og, oo, none⟩)] 56)).alloc (.cells #[.int .i64 0] 3)).alloc (.cells #[.bool false] 4)) = W1 := ⟨_, rfl⟩
  obtain ⟨z0, z1, z2, z3, z4, z6⟩ := blocks4 hW1
  obtain ⟨n0, hn0'⟩ : ∃ n0, n0 = w.heap.size := ⟨_, rfl⟩
  have HN : Hid (n0 = w.heap.size) := hn0'
  have HZ : Hid (W1.heap[n0]? = some (.cells #[.pointer (some ⟨pw, 0, none⟩), .int .i64 (c : Int), .pointer (some ⟨pg, po, none⟩)] 56 (0, 0)) ∧ W1.heap[n0 + 1]? = some (.cells #[.pointer (some ⟨pw, 0, none⟩), .int .i64 (b : Int), .pointer (some ⟨og, oo, none⟩)] 56 (0, 0)) ∧ W1.heap[n0 + 1 + 1]? = some (.cells #[.int .i64 0] 3 (0, 0)) ∧ W1.heap[n0 + 1 + 1 + 1]? = some (.cells #[.bool false] 4 (0, 0)) ∧ W1.heap.size = n0 + 4 ∧ Below w.heap.size w W1) := by rw [hn0']; exact ⟨z0, z2, z3, z4, z1, z6⟩
  have hA1 := hA.below z6
  have HA1 : Hid (AtW W1 pw u) := hA1
  have HQ : Hid (∀ W, Below W1.heap.size W1 W → W.cell? ⟨n0, 0, none⟩ = some (.pointer (some ⟨pw, 0, none⟩)) ∧ W.cell? ⟨n0, 1, none⟩ = some (.int .i64 (c : Int)) ∧ W.cell? ⟨n0, 2, none⟩ = some (.pointer (some ⟨pg, po, none⟩)) ∧ W.cell? ⟨n0 + 1, 0, none⟩ = some (.pointer (some ⟨pw, 0, none⟩)) ∧ W.cell? ⟨n0 + 1, 1, none⟩ = some (.int .i64 (b : Int)) ∧ W.cell? ⟨n0 + 1, 2, none⟩ = some (.pointer (some ⟨og, oo, none⟩))) := by
    intro W h
    obtain ⟨y0, y1, _, _, y4, _⟩ := HZ.out
    have p1 : PBox W n0 pw (c : Int) pg po := (h.block n0 (by omega)).trans y0
    have p2 : PBox W (n0 + 1) pw (b : Int) og oo := (h.block (n0 + 1) (by omega)).trans y1
    exact ⟨p1.cells.1, p1.cells.2.1, p1.cells.2.2, p2.cells.1, p2.cells.2.1, p2.cells.2.2⟩
  have HLA : Hid (∀ W, Below W1.heap.size W1 W → Calls Tryz.prog 40 #[.agg #[.pointer (some ⟨pw, 0, none⟩), .int .i64 (c : Int), .pointer (some ⟨pg, po, none⟩)]] W fun e w' => e = .returned (.int .i64 la) ∧ Below W.heap.size W w') := fun W h => by
    have h0 := load_any pw c pg po u W (hA1.below h) hF hTF hc
    rw [hla] at h0; exact h0
  have HLB : Hid (∀ W, Below W1.heap.size W1 W → Calls Tryz.prog 40 #[.agg #[.pointer (some ⟨pw, 0, none⟩), .int .i64 (b : Int), .pointer (some ⟨og, oo, none⟩)]] W fun e w' => e = .returned (.int .i64 lb) ∧ Below W.heap.size W w') := fun W h => by
    have h0 := load_any pw b og oo u W (hA1.below h) hF hTF hb
    rw [hlb] at h0; exact h0
  have HCR : Hid (∀ (t : Nat) W, t < u.ts.length → AtW W pw u → Calls Tryz.prog 128 #[.agg #[.pointer (some ⟨pw, 0, none⟩), .int .i64 (c : Int), .pointer (some ⟨pg, po, none⟩)], .int .i64 (t : Int)] W fun e w' => e = .returned (.bool (couldB u c t)) ∧ Below W.heap.size W w') := fun t W ht hW => by
    obtain ⟨e, he⟩ := row_get ht
    exact couldRun_any pw c pg po t e u W hW ho hc he
  have HAW : Hid (∀ W, Below w.heap.size w W → AtW W pw u) := fun W h => hA.below h
  refine (callsIn_wide (n := 9)).1 ?_
  refine callsIn_of_wp_marks Tryz.func85 rfl trivial ?_ rfl
  simp only [Tryz.ntmps85, List.size_toArray, List.length_cons, List.length_nil, Nat.reduceAdd, Nat.reduceSub, Array.replicate_succ, Array.replicate_zero, List.push_toArray, List.append_toArray, List.nil_append, List.cons_append]
  clear z0 z1 z2 z3 z4 hA hA1
  gi_wp2
  try simp only [hW1]
  clear hW1
  simp only [← hn0']
  clear hn0' z6
  refine region_invIn mixed (by kernel_rfl) (fun L a y => ∃ s6 s7 s10 s11 s12 s13 : Value, a = { tmps := #[.agg #[.pointer (some ⟨pw, 0, none⟩), .int .i64 (c : Int), .pointer (some ⟨pg, po, none⟩)], .agg #[.pointer (some ⟨pw, 0, none⟩), .int .i64 (b : Int), .pointer (some ⟨og, oo, none⟩)], .pointer (some ⟨n0, 0, none⟩), .pointer (some ⟨n0 + 1, 0, none⟩), .pointer (some ⟨n0 + 1 + 1, 0, none⟩), .pointer (some ⟨n0 + 1 + 1 + 1, 0, none⟩), s6, s7, undef, undef, s10, s11, s12, s13, undef, undef, undef, undef, undef, undef, undef, undef, undef, undef, undef, undef, undef, undef, undef, undef, undef, undef, undef, undef, undef, undef, undef, undef, undef, undef], defers := [] } ∧ Below W1.heap.size W1 y ∧ (L 0 = true → s10 = .agg #[.pointer (some ⟨pw, 0, none⟩), .int .i64 (c : Int), .pointer (some ⟨pg, po, none⟩)]) ∧ (L 1 = true → s11 = .int .i64 la) ∧ (L 2 = true → s12 = .agg #[.pointer (some ⟨pw, 0, none⟩), .int .i64 (b : Int), .pointer (some ⟨og, oo, none⟩)]) ∧ (L 3 = true → s13 = .int .i64 lb) ∧ (L 4 = true → ∃ B, s6 = .pointer (some ⟨B, 0, none⟩) ∧ W1.heap.size ≤ B ∧ (L 6 = false → Boxed y B 3 (.int .i64 0)) ∧ (L 6 = true → Boxed y B 3 (.int .i64 la))) ∧ (L 5 = true → ∃ B, s7 = .pointer (some ⟨B, 0, none⟩) ∧ W1.heap.size ≤ B ∧ (L 7 = false → Boxed y B 3 (.int .i64 0)) ∧ (L 7 = true → Boxed y B 3 (.int .i64 lb))) ∧ (L 6 = true → L 4 = true) ∧ (L 7 = true → L 5 = true) ∧ (L 4 = true → L 5 = true → s6 ≠ s7)) ?rh0 ?rstep ?rdone
  case rh0 => exact ⟨_, _, _, _, _, _, rfl, (Below.refl _ _).drew, (fun h => by cases h), (fun h => by cases h), (fun h => by cases h), (fun h => by cases h), (fun h => by cases h), (fun h => by cases h), (fun h => by cases h), (fun h => by cases h), (fun h => by cases h)⟩
  case rstep =>
    rintro i o ho' L a y ⟨s6, s7, s10, s11, s12, s13, rfl, acc, f0, f1, f2, f3, fb, fc, fg, fh, fd⟩ hL' hpre K hK
    have hi' : i = 0 ∨ i = 1 ∨ i = 2 ∨ i = 3 ∨ i = 4 ∨ i = 5 ∨ i = 6 ∨ i = 7 := by
      have : i < 8 := by
        rcases Nat.lt_or_ge i 8 with h' | h'
        · exact h'
        · rw [Array.getElem?_eq_none (by simpa using h')] at ho'; cases ho'
      omega
    rcases hi' with rfl | rfl | rfl | rfl | rfl | rfl | rfl | rfl
    all_goals (obtain rfl := Option.some.inj ho'; clear ho'; simp [Region.binds] at hpre)
    · have hq := HQ.out _ acc
      obtain ⟨q0, q1, q2, _, _, _⟩ := hq
      go_simp
      exact hK _ _ ⟨_, _, _, _, _, _, rfl, acc, (fun _ => rfl), (fun h => by first | rfl | exact f1 (by simpa [setL] using h)), (fun h => by first | rfl | exact f2 (by simpa [setL] using h)), (fun h => by first | rfl | exact f3 (by simpa [setL] using h)), (fun h => by obtain ⟨B, b1, b2, b3, b4⟩ := fb (by simpa [setL] using h); exact ⟨B, b1, b2, fun h => (b3 (by simpa [setL] using h)), fun h => (b4 (by simpa [setL] using h))⟩), (fun h => by obtain ⟨B, b1, b2, b3, b4⟩ := fc (by simpa [setL] using h); exact ⟨B, b1, b2, fun h => (b3 (by simpa [setL] using h)), fun h => (b4 (by simpa [setL] using h))⟩), (fun h => by have := fg (by simpa [setL] using h); simpa [setL] using this), (fun h => by have := fh (by simpa [setL] using h); simpa [setL] using this), (fun h h2 => fd (by simpa [setL] using h) (by simpa [setL] using h2))⟩
    · obtain rfl := f0 hpre
      go_simp
      refine (calls_fw (HLA.out _ acc)).mono ?_
      rintro e' y2 ⟨rfl, hb⟩
      exact hK _ _ ⟨_, _, _, _, _, _, rfl, acc.trans (hb.mono acc.size), (fun h => by first | rfl | exact f0 (by simpa [setL] using h)), (fun _ => rfl), (fun h => by first | rfl | exact f2 (by simpa [setL] using h)), (fun h => by first | rfl | exact f3 (by simpa [setL] using h)), (fun h => by obtain ⟨B, b1, b2, b3, b4⟩ := fb (by simpa [setL] using h); exact ⟨B, b1, b2, fun h => below_at hb (b3 (by simpa [setL] using h)), fun h => below_at hb (b4 (by simpa [setL] using h))⟩), (fun h => by obtain ⟨B, b1, b2, b3, b4⟩ := fc (by simpa [setL] using h); exact ⟨B, b1, b2, fun h => below_at hb (b3 (by simpa [setL] using h)), fun h => below_at hb (b4 (by simpa [setL] using h))⟩), (fun h => by have := fg (by simpa [setL] using h); simpa [setL] using this), (fun h => by have := fh (by simpa [setL] using h); simpa [setL] using this), (fun h h2 => fd (by simpa [setL] using h) (by simpa [setL] using h2))⟩
    · have hq := HQ.out _ acc
      obtain ⟨_, _, _, q3, q4, q5⟩ := hq
      go_simp
      exact hK _ _ ⟨_, _, _, _, _, _, rfl, acc, (fun h => by first | rfl | exact f0 (by simpa [setL] using h)), (fun h => by first | rfl | exact f1 (by simpa [setL] using h)), (fun _ => rfl), (fun h => by first | rfl | exact f3 (by simpa [setL] using h)), (fun h => by obtain ⟨B, b1, b2, b3, b4⟩ := fb (by simpa [setL] using h); exact ⟨B, b1, b2, fun h => (b3 (by simpa [setL] using h)), fun h => (b4 (by simpa [setL] using h))⟩), (fun h => by obtain ⟨B, b1, b2, b3, b4⟩ := fc (by simpa [setL] using h); exact ⟨B, b1, b2, fun h => (b3 (by simpa [setL] using h)), fun h => (b4 (by simpa [setL] using h))⟩), (fun h => by have := fg (by simpa [setL] using h); simpa [setL] using this), (fun h => by have := fh (by simpa [setL] using h); simpa [setL] using this), (fun h h2 => fd (by simpa [setL] using h) (by simpa [setL] using h2))⟩
    · obtain rfl := f2 hpre.1
      go_simp
      refine (calls_fw (HLB.out _ acc)).mono ?_
      rintro e' y2 ⟨rfl, hb⟩
      exact hK _ _ ⟨_, _, _, _, _, _, rfl, acc.trans (hb.mono acc.size), (fun h => by first | rfl | exact f0 (by simpa [setL] using h)), (fun h => by first | rfl | exact f1 (by simpa [setL] using h)), (fun h => by first | rfl | exact f2 (by simpa [setL] using h)), (fun _ => rfl), (fun h => by obtain ⟨B, b1, b2, b3, b4⟩ := fb (by simpa [setL] using h); exact ⟨B, b1, b2, fun h => below_at hb (b3 (by simpa [setL] using h)), fun h => below_at hb (b4 (by simpa [setL] using h))⟩), (fun h => by obtain ⟨B, b1, b2, b3, b4⟩ := fc (by simpa [setL] using h); exact ⟨B, b1, b2, fun h => below_at hb (b3 (by simpa [setL] using h)), fun h => below_at hb (b4 (by simpa [setL] using h))⟩), (fun h => by have := fg (by simpa [setL] using h); simpa [setL] using this), (fun h => by have := fh (by simpa [setL] using h); simpa [setL] using this), (fun h h2 => fd (by simpa [setL] using h) (by simpa [setL] using h2))⟩
    · go_simp
      exact hK _ _ ⟨_, _, _, _, _, _, rfl, acc.alloc acc.size _, (fun h => by first | rfl | exact f0 (by simpa [setL] using h)), (fun h => by first | rfl | exact f1 (by simpa [setL] using h)), (fun h => by first | rfl | exact f2 (by simpa [setL] using h)), (fun h => by first | rfl | exact f3 (by simpa [setL] using h)), (fun _ => ⟨y.heap.size, rfl, acc.size, fun _ => Boxed.new y _ _, fun h => by have := fg (by simpa [setL] using h); rw [this] at hL'; cases hL'⟩), (fun h => by obtain ⟨B, b1, b2, b3, b4⟩ := fc (by simpa [setL] using h); exact ⟨B, b1, b2, fun h => (b3 (by simpa [setL] using h)).alloc _, fun h => (b4 (by simpa [setL] using h)).alloc _⟩), (fun _ => by simp [setL]), (fun h => by have := fh (by simpa [setL] using h); simpa [setL] using this), (fun h h2 => by
        obtain ⟨B, b1, b2, b3, b4⟩ := fc (by simpa [setL] using h2)
        have hlt : B < y.heap.size := by
          cases h7 : L 7
          · exact (b3 h7).lt
          · exact (b4 h7).lt
        rw [b1]
        simp only [ne_eq, Value.pointer.injEq, Option.some.injEq, Addr.mk.injEq, not_and]
        intro h; omega)⟩
    · go_simp
      exact hK _ _ ⟨_, _, _, _, _, _, rfl, acc.alloc acc.size _, (fun h => by first | rfl | exact f0 (by simpa [setL] using h)), (fun h => by first | rfl | exact f1 (by simpa [setL] using h)), (fun h => by first | rfl | exact f2 (by simpa [setL] using h)), (fun h => by first | rfl | exact f3 (by simpa [setL] using h)), (fun h => by obtain ⟨B, b1, b2, b3, b4⟩ := fb (by simpa [setL] using h); exact ⟨B, b1, b2, fun h => (b3 (by simpa [setL] using h)).alloc _, fun h => (b4 (by simpa [setL] using h)).alloc _⟩), (fun _ => ⟨y.heap.size, rfl, acc.size, fun _ => Boxed.new y _ _, fun h => by have := fh (by simpa [setL] using h); rw [this] at hL'; cases hL'⟩), (fun h => by have := fg (by simpa [setL] using h); simpa [setL] using this), (fun _ => by simp [setL]), (fun h h2 => by
        obtain ⟨B, b1, b2, b3, b4⟩ := fb (by simpa [setL] using h)
        have hlt : B < y.heap.size := by
          cases h6 : L 6
          · exact (b3 h6).lt
          · exact (b4 h6).lt
        rw [b1]
        simp only [ne_eq, Value.pointer.injEq, Option.some.injEq, Addr.mk.injEq, not_and]
        intro h; omega)⟩
    · obtain rfl := f1 hpre.2.1
      obtain ⟨B, rfl, b2, b3, b4⟩ := fb hpre.1
      have hbx := b3 hL'
      have hc0 := hbx.cell
      have hf0 := hbx.frozen
      go_simp
      exact hK _ _ ⟨_, _, _, _, _, _, rfl, acc.setCell (p := ⟨B, 0, none⟩) b2 _, (fun h => by first | rfl | exact f0 (by simpa [setL] using h)), (fun h => by first | rfl | exact f1 (by simpa [setL] using h)), (fun h => by first | rfl | exact f2 (by simpa [setL] using h)), (fun h => by first | rfl | exact f3 (by simpa [setL] using h)), (fun _ => ⟨B, rfl, b2, fun h => by simp [setL] at h, fun _ => hbx.set _⟩), (fun h => by
        obtain ⟨B', b1', b2', b3', b4'⟩ := fc (by simpa [setL] using h)
        have hne : B' ≠ B := by
          intro hh
          refine fd (hpre.1) (by simpa [setL] using h) ?_
          rw [b1', hh]
        exact ⟨B', b1', b2', fun h => (b3' (by simpa [setL] using h)).other hne _, fun h => (b4' (by simpa [setL] using h)).other hne _⟩), (fun _ => by simpa [setL] using hpre.1), (fun h => by have := fh (by simpa [setL] using h); simpa [setL] using this), (fun h h2 => fd (by simpa [setL] using h) (by simpa [setL] using h2))⟩
    · obtain rfl := f3 hpre.2.1
      obtain ⟨B, rfl, b2, b3, b4⟩ := fc hpre.1
      have hbx := b3 hL'
      have hc0 := hbx.cell
      have hf0 := hbx.frozen
      go_simp
      exact hK _ _ ⟨_, _, _, _, _, _, rfl, acc.setCell (p := ⟨B, 0, none⟩) b2 _, (fun h => by first | rfl | exact f0 (by simpa [setL] using h)), (fun h => by first | rfl | exact f1 (by simpa [setL] using h)), (fun h => by first | rfl | exact f2 (by simpa [setL] using h)), (fun h => by first | rfl | exact f3 (by simpa [setL] using h)), (fun h => by
        obtain ⟨B', b1', b2', b3', b4'⟩ := fb (by simpa [setL] using h)
        have hne : B' ≠ B := by
          intro hh
          refine fd (by simpa [setL] using h) (hpre.1) ?_
          rw [b1', hh]
        exact ⟨B', b1', b2', fun h => (b3' (by simpa [setL] using h)).other hne _, fun h => (b4' (by simpa [setL] using h)).other hne _⟩), (fun _ => ⟨B, rfl, b2, fun h => by simp [setL] at h, fun _ => hbx.set _⟩), (fun h => by have := fg (by simpa [setL] using h); simpa [setL] using this), (fun _ => by simpa [setL] using hpre.1), (fun h h2 => fd (by simpa [setL] using h) (by simpa [setL] using h2))⟩
  case rdone =>
    rintro L a V hall ⟨s6, s7, s10, s11, s12, s13, rfl, acc, f0, f1, f2, f3, fb, fc, fg, fh, fd⟩
    have hL : ∀ i, i < 8 → L i = true := fun i hi => hall i (by simpa using hi)
    obtain ⟨B6, rfl, b62, _, b64⟩ := fb (hL 4 (by decide))
    obtain ⟨B7, rfl, b72, _, b74⟩ := fc (hL 5 (by decide))
    have hx6 := b64 (hL 6 (by decide))
    have hx7 := b74 (hL 7 (by decide))
    obtain rfl := f0 (hL 0 (by decide))
    obtain rfl := f1 (hL 1 (by decide))
    obtain rfl := f2 (hL 2 (by decide))
    obtain rfl := f3 (hL 3 (by decide))
    obtain ⟨z0, z1, z2, z3, z4, z6⟩ := HZ.out
    have v0 := (acc.block n0 (by omega)).trans z0
    have v1 := (acc.block (n0 + 1) (by omega)).trans z1
    have v2 := (acc.block (n0 + 1 + 1) (by omega)).trans z2
    have v3 := (acc.block (n0 + 1 + 1 + 1) (by omega)).trans z3
    have hVw : Below w.heap.size w V := z6.trans (acc.mono z6.size)
    obtain ⟨_, _, _, r0, r1, r2⟩ := HQ.out _ acc
    have hvs := acc.size
    have l6 := hx6.lt
    have l7 := hx7.lt
    have hn : n0 ≤ w.heap.size ∧ w.heap.size ≤ n0 := by have := HN.out; omega
    clear fb fc fg fh fd f0 f1 f2 f3 hall hL b64 b74 acc z0 z1 z2 z3
    gi_wp2_with (gi_at_call 78; refine (calls_fw (mk_inLine pw og oo (b : Int) _)).mono ?_; rintro e' w' ⟨rfl, rfl⟩; simp only [ptr])
    obtain ⟨w1, hw1⟩ : ∃ w1, V.alloc (.cells #[.pointer (some ⟨pw, 0, none⟩), .int .i64 (b : Int), .pointer (some ⟨og, oo, none⟩)] 56) = w1 := ⟨_, rfl⟩
    have hv1 : Below V.heap.size V w1 := by rw [← hw1]; exact (Below.refl _ _).alloc (Nat.le_refl _) _
    have a4 : PBox w1 V.heap.size pw (b : Int) og oo := by rw [← hw1]; exact heap_alloc_new V _
    have a5 : w1.heap.size = V.heap.size + 1 := by rw [← hw1]; simp
    have a0 := below_at hv1 v0
    have a1 := below_at hv1 v1
    have a2 := below_at hv1 v2
    have a3 := below_at hv1 v3
    have a6 : Boxed w1 B6 _ _ := below_at hv1 hx6
    have a7 : Boxed w1 B7 _ _ := below_at hv1 hx7
    have a8 : Below w.heap.size w w1 := hVw.trans (hv1.mono hVw.size)
    try simp only [hw1]
    clear hw1 v0 v1 v2 v3 r0 r1 r2 hx6 hx7
    refine NC.range_own_j (xs := lineL u b) (encs := encN) (gf := 122) (lb := #[ptr V.heap.size]) (W0 := w) (G := fun W' => PBox W' V.heap.size pw (b : Int) og oo ∧ AtW W' pw u)
      (NC.inLine_gives pw V.heap.size b og oo u _ w hF hTF hb (fun W' h => h)) (by have := hVw.size; omega) rfl (enters_of Tryz.func122 (by kernel_rfl) rfl) (fun _ => rfl)
      (fun pre W' => (∀ k ∈ pre, (couldB u c k && fitsB u k b c) = false) ∧ W'.heap[n0]? = some (.cells #[.pointer (some ⟨pw, 0, none⟩), .int .i64 (c : Int), .pointer (some ⟨pg, po, none⟩)] 56 (0, 0)) ∧ W'.heap[n0 + 1]? = some (.cells #[.pointer (some ⟨pw, 0, none⟩), .int .i64 (b : Int), .pointer (some ⟨og, oo, none⟩)] 56 (0, 0)) ∧ W'.heap[n0 + 1 + 1]? = some (.cells #[.int .i64 0] 3 (0, 0)) ∧ W'.heap[n0 + 1 + 1 + 1]? = some (.cells #[.bool false] 4 (0, 0)) ∧ Boxed W' B6 3 (.int .i64 la) ∧ Boxed W' B7 3 (.int .i64 lb) ∧ PBox W' V.heap.size pw (b : Int) og oo ∧ Below w.heap.size w W' )
      (fun cc pre W' => cc = .ret ∧ ∃ t : Nat, takeM u b c = (t : Int) ∧ W'.heap[n0 + 1 + 1]? = some (.cells #[.int .i64 (t : Int)] 3 (0, 0)) ∧ W'.heap[n0 + 1 + 1 + 1]? = some (.cells #[.bool true] 4 (0, 0)) ∧ Below w.heap.size w W')
      (fun pre W' hi => ⟨hi.2.2.2.2.2.2.2.1, HAW.out _ hi.2.2.2.2.2.2.2.2⟩)
      ?hI ?hIx ⟨fun k hk => (by cases hk), a0, a1, a2, a3, a6, a7, a4, a8⟩ ?hround ?hdone ?hstop
    case hI => exact OwnFrom.and (ownFrom_pure _ _) (OwnFrom.and (own_block _ _ _ rfl) (OwnFrom.and (own_block _ _ _ rfl) (OwnFrom.and (own_block _ _ _ rfl) (OwnFrom.and (own_block _ _ _ rfl) (OwnFrom.and (own_block _ _ _ rfl) (OwnFrom.and (own_block _ _ _ rfl) (OwnFrom.and (own_block _ _ _ rfl) (ownFrom_below (Nat.le_refl _) (by have := hVw.size; omega)))))))))
    case hIx =>
      intro cc
      refine OwnFrom.and (ownFrom_pure _ _) ?_
      rintro s X Y row ⟨t, h1, h2, h3, h4⟩ hg hr
      exact ⟨t, h1, own_block (β := Unit) _ _ _ rfl () X Y row h2 hg hr, own_block (β := Unit) _ _ _ rfl () X Y row h3 hg hr, ownFrom_below (β := Unit) (Nat.le_refl _) (by have := hVw.size; omega) () X Y row h4 hg hr⟩
    case hround =>
      intro l' pre x post W0' hx hi
      unfold encN
      have HI0 : Hid ((∀ k ∈ pre, (couldB u c k && fitsB u k b c) = false) ∧ W0'.heap[n0]? = some (.cells #[.pointer (some ⟨pw, 0, none⟩), .int .i64 (c : Int), .pointer (some ⟨pg, po, none⟩)] 56 (0, 0)) ∧ W0'.heap[n0 + 1]? = some (.cells #[.pointer (some ⟨pw, 0, none⟩), .int .i64 (b : Int), .pointer (some ⟨og, oo, none⟩)] 56 (0, 0)) ∧ W0'.heap[n0 + 1 + 1]? = some (.cells #[.int .i64 0] 3 (0, 0)) ∧ W0'.heap[n0 + 1 + 1 + 1]? = some (.cells #[.bool false] 4 (0, 0)) ∧ Boxed W0' B6 3 (.int .i64 la) ∧ Boxed W0' B7 3 (.int .i64 lb) ∧ PBox W0' V.heap.size pw (b : Int) og oo ∧ Below w.heap.size w W0' ) := hi
      have hin : x ∈ lineL u b := by rw [hx]; simp
      have hxl := lineL_mem hin
      have HX : Hid (lineL u b = pre ++ x :: post) := hx
      clear hi hx a0 a1 a2 a3 a4 a6 a7 a8
      gi_wp2
      refine ⟨NC.KeepsUp.refl _ _, HI0.out, ?_⟩
      clear HI0 W0'
      rintro l'' W' hl' ⟨hp, h1, h2, h3, h4, h6, h7, h8, h9⟩
      have HB : Hid (W'.heap[n0]? = some (.cells #[.pointer (some ⟨pw, 0, none⟩), .int .i64 (c : Int), .pointer (some ⟨pg, po, none⟩)] 56 (0, 0)) ∧ W'.heap[n0 + 1]? = some (.cells #[.pointer (some ⟨pw, 0, none⟩), .int .i64 (b : Int), .pointer (some ⟨og, oo, none⟩)] 56 (0, 0)) ∧ W'.heap[n0 + 1 + 1]? = some (.cells #[.int .i64 0] 3 (0, 0)) ∧ W'.heap[n0 + 1 + 1 + 1]? = some (.cells #[.bool false] 4 (0, 0)) ∧ Boxed W' B6 3 (.int .i64 la) ∧ Boxed W' B7 3 (.int .i64 lb) ∧ PBox W' V.heap.size pw (b : Int) og oo ∧ Below w.heap.size w W' ) := ⟨h1, h2, h3, h4, h6, h7, h8, h9⟩
      have HP : Hid (∀ k ∈ pre, (couldB u c k && fitsB u k b c) = false) := hp
      obtain ⟨k0, k1, k2⟩ := (show PBox W' n0 pw (c : Int) pg po from h1).cells
      have hcr := HCR.out x
      have g3 := (Msk.cell_of_box_l h3).1
      have g3f := (Msk.cell_of_box_l h3).2
      have g4 := (Msk.cell_of_box_l h4).1
      have g4f := (Msk.cell_of_box_l h4).2
      have g6 := h6.cell
      have g7 := h7.cell
      have lv0 : n0 < W'.heap.size := (Array.getElem?_eq_some_iff.1 h1).1
      have hnr := niK_range u x
      have hsum : sumW u [x] = niK u x := by simp [sumW]
      obtain ⟨ni, hni⟩ : ∃ n, niK u x = n := ⟨_, rfl⟩
      rw [hni] at hnr hsum
      have HW : Hid (∀ W v, AtW W pw u → RowI W v [x] → Calls Tryz.prog 76 #[.pointer (some ⟨pw, 0, none⟩), v] W fun e w' => e = .returned (.int .i64 ni) ∧ w' = W) := fun W v hW hv => by
        have h0 := weightsOf_any pw u [x] v W hW hv (by simp) (fun y hy => by simp at hy; subst hy; exact hxl)
        rw [hsum] at h0; exact h0
      have HNO : Hid ((couldB u c x && fitsB u x b c) = false → ∀ k ∈ pre ++ [x], (couldB u c k && fitsB u k b c) = false) := fun h k hk => by
        rcases List.mem_append.1 hk with hk | hk
        · exact HP.out k hk
        · obtain rfl : k = x := by simpa using hk
          exact h
      have HYE : Hid (couldB u c x = true → fitsB u x b c = true → takeM u b c = (x : Int)) := fun h1 h2 => by
        unfold takeM
        refine firstTo_yes (fun j hj => ?_) (line_take (pickTo_mem hin).2 h1 h2) hxl
        rw [← Bool.not_eq_true]
        intro ht
        obtain ⟨t1, t2, t3⟩ := takeB_line ht
        have := HP.out j (line_pre HX.out hj t1 (by omega))
        rw [t2, t3] at this; cases this
      have HF : Hid (fitsB u x b c = (decide (la = 0) || decide (la + ni ≤ lb - ni))) := by rw [← hni]; exact HFIT.out x
      clear h1 h2 h3 h4 h6 h7 h8 h9 hp hl' hsum hni
      have HA9 : Hid (AtW W' pw u) := HAW.out _ HB.out.2.2.2.2.2.2.2
      have HA10 : Hid (∀ A, AtW (W'.alloc A) pw u) := fun A => HAW.out _ (HB.out.2.2.2.2.2.2.2.alloc HB.out.2.2.2.2.2.2.2.size _)
      cases hcb : couldB u c x
      · have HNN := HNO.out (by rw [hcb]; rfl)
        have HNX : Hid (∀ k ∈ pre ++ [x], (couldB u c k && fitsB u k b c) = false) := HNN
        have hq := fun W => hcr W hxl
        rw [hcb] at hq
        clear hcb HNN
        gi_wp2_with (first | (gi_at_call 76; refine (calls_fw (HW.out _ _ (HA10.out _) (rowI_one (Msk.cell_new_l _ _ _).1))).mono ?_; rintro e1 V1 ⟨rfl, rfl⟩) | (gi_at_call 128; refine (calls_fw (hq _ (HA10.out _))).mono ?_; rintro e2 V2 ⟨rfl, hb2⟩))
        obtain ⟨h1, h2, h3, h4, h6, h7, h8, h9⟩ := HB.out
        have hbb : Below W'.heap.size W' V2 := ((Below.refl _ _).alloc (Nat.le_refl _) _).trans (hb2.mono (by simp))
        exact ⟨NC.KeepsUp.below hbb, HNX.out, below_at hbb h1, below_at hbb h2, below_at hbb h3, below_at hbb h4, below_at hbb h6, below_at hbb h7, below_at hbb h8, h9.trans (hbb.mono h9.size)⟩
      · have hq := fun W => hcr W hxl
        rw [hcb] at hq
        have HPAST : Hid (∀ V2, Below (W'.alloc (.cells #[.int .i64 (x : Int)] 3)).heap.size (W'.alloc (.cells #[.int .i64 (x : Int)] 3)) V2 → Below W'.heap.size W' V2 ∧ V2.cell? ⟨B6, 0, none⟩ = some (.int .i64 la) ∧ V2.cell? ⟨B7, 0, none⟩ = some (.int .i64 lb) ∧ V2.cell? ⟨n0 + 1 + 1, 0, none⟩ = some (.int .i64 0) ∧ V2.frozen? ⟨n0 + 1 + 1, 0, none⟩ = false ∧ V2.cell? ⟨n0 + 1 + 1 + 1, 0, none⟩ = some (.bool false) ∧ V2.frozen? ⟨n0 + 1 + 1 + 1, 0, none⟩ = false) := fun V2 hb2 => by
          obtain ⟨h1, h2, h3, h4, h6, h7, h8, h9⟩ := HB.out
          have hbb : Below W'.heap.size W' V2 := ((Below.refl _ _).alloc (Nat.le_refl _) _).trans (hb2.mono (by simp))
          have y3 := Msk.cell_of_box_l (below_at hbb h3)
          have y4 := Msk.cell_of_box_l (below_at hbb h4)
          exact ⟨hbb, (show Boxed V2 _ _ _ from below_at hbb h6).cell, (show Boxed V2 _ _ _ from below_at hbb h7).cell, y3.1, y3.2, y4.1, y4.2⟩
        have HGO : Hid (∀ V2, Below (W'.alloc (.cells #[.int .i64 (x : Int)] 3)).heap.size (W'.alloc (.cells #[.int .i64 (x : Int)] 3)) V2 → takeM u b c = (x : Int) → NC.RLeft w1.heap.size (fun pre W' => (∀ k ∈ pre, (couldB u c k && fitsB u k b c) = false) ∧ W'.heap[n0]? = some (.cells #[.pointer (some ⟨pw, 0, none⟩), .int .i64 (c : Int), .pointer (some ⟨pg, po, none⟩)] 56 (0, 0)) ∧ W'.heap[n0 + 1]? = some (.cells #[.pointer (some ⟨pw, 0, none⟩), .int .i64 (b : Int), .pointer (some ⟨og, oo, none⟩)] 56 (0, 0)) ∧ W'.heap[n0 + 1 + 1]? = some (.cells #[.int .i64 0] 3 (0, 0)) ∧ W'.heap[n0 + 1 + 1 + 1]? = some (.cells #[.bool false] 4 (0, 0)) ∧ Boxed W' B6 3 (.int .i64 la) ∧ Boxed W' B7 3 (.int .i64 lb) ∧ PBox W' V.heap.size pw (b : Int) og oo ∧ Below w.heap.size w W' ) (fun cc pre W' => cc = .ret ∧ ∃ t : Nat, takeM u b c = (t : Int) ∧ W'.heap[n0 + 1 + 1]? = some (.cells #[.int .i64 (t : Int)] 3 (0, 0)) ∧ W'.heap[n0 + 1 + 1 + 1]? = some (.cells #[.bool true] 4 (0, 0)) ∧ Below w.heap.size w W') (pre ++ [x]) W' .ret { tmps := #[], defers := [] } ((V2.setCell ⟨n0 + 1 + 1, 0, none⟩ (.int .i64 (x : Int))).setCell ⟨n0 + 1 + 1 + 1, 0, none⟩ (.bool true))) := fun V2 hb2 ht => by
          obtain ⟨h1, h2, h3, h4, h6, h7, h8, h9⟩ := HB.out
          have hbb := (HPAST.out V2 hb2).1
          have hsz : w.heap.size ≤ n0 := by omega
          refine ⟨(NC.KeepsUp.below hbb).trans ((NC.KeepsUp.set _ _ _ (by omega)).trans (NC.KeepsUp.set _ _ _ (by omega))), rfl, x, ht, ?_, ?_, ?_⟩
          · exact ((show Boxed V2 _ _ _ from below_at hbb h3).set _).other (by omega) _
          · exact ((show Boxed V2 _ _ _ from below_at hbb h4).other (by omega) _).set _
          · exact ((h9.trans (hbb.mono h9.size)).setCell (p := ⟨n0 + 1 + 1, 0, none⟩) (by simp; omega) _).setCell (p := ⟨n0 + 1 + 1 + 1, 0, none⟩) (by simp; omega) _
        have hcb' := hcb
        clear hcb
        by_cases hla0 : la = 0
        · have HT : Hid (takeM u b c = (x : Int)) := HYE.out hcb' (by rw [HF.out, decide_eq_true hla0]; rfl)
          have hlb0 : (la == 0) = true := by simpa using hla0
          gi_wp2_with (first | (gi_at_call 76; refine (calls_fw (HW.out _ _ (HA10.out _) (rowI_one (Msk.cell_new_l _ _ _).1))).mono ?_; rintro e1 V1 ⟨rfl, rfl⟩) | (gi_at_call 128; refine (calls_fw (hq _ (HA10.out _))).mono ?_; rintro e2 V2 ⟨rfl, hb2⟩; obtain ⟨hbb, g6, g7, g3, g3f, g4, g4f⟩ := HPAST.out _ hb2))
          exact HGO.out _ hb2 HT.out
        · have hlb0 : (la == 0) = false := by simpa using hla0
          by_cases hfi : la + ni ≤ lb - ni
          · have HT : Hid (takeM u b c = (x : Int)) := HYE.out hcb' (by rw [HF.out, decide_eq_true hfi, Bool.or_true])
            gi_wp2_with (first | (gi_at_call 76; refine (calls_fw (HW.out _ _ (HA10.out _) (rowI_one (Msk.cell_new_l _ _ _).1))).mono ?_; rintro e1 V1 ⟨rfl, rfl⟩) | (gi_at_call 128; refine (calls_fw (hq _ (HA10.out _))).mono ?_; rintro e2 V2 ⟨rfl, hb2⟩; obtain ⟨hbb, g6, g7, g3, g3f, g4, g4f⟩ := HPAST.out _ hb2))
            exact HGO.out _ hb2 HT.out
          · have HNX : Hid (∀ k ∈ pre ++ [x], (couldB u c k && fitsB u k b c) = false) := HNO.out (by rw [HF.out, decide_eq_false hla0, decide_eq_false hfi]; simp)
            gi_wp2_with (first | (gi_at_call 76; refine (calls_fw (HW.out _ _ (HA10.out _) (rowI_one (Msk.cell_new_l _ _ _).1))).mono ?_; rintro e1 V1 ⟨rfl, rfl⟩) | (gi_at_call 128; refine (calls_fw (hq _ (HA10.out _))).mono ?_; rintro e2 V2 ⟨rfl, hb2⟩; obtain ⟨hbb, g6, g7, g3, g3f, g4, g4f⟩ := HPAST.out _ hb2))
            obtain ⟨h1, h2, h3, h4, h6, h7, h8, h9⟩ := HB.out
            exact ⟨NC.KeepsUp.below hbb, HNX.out, below_at hbb h1, below_at hbb h2, below_at hbb h3, below_at hbb h4, below_at hbb h6, below_at hbb h7, below_at hbb h8, h9.trans (hbb.mono h9.size)⟩
    case hdone =>
      rintro D W' hD ⟨hp, h1, h2, h3, h4, h6, h7, h8, h9⟩ hK
      have hD' : w.heap.size ≤ D := by have := hVw.size; omega
      have hDn : D ≠ n0 + 1 + 1 := by omega
      have hDm : D ≠ n0 + 1 + 1 + 1 := by omega
      have g3 := (Msk.cell_of_box_l h3).1
      have g3f := (Msk.cell_of_box_l h3).2
      have g4 := (Msk.cell_of_box_l h4).1
      have g4f := (Msk.cell_of_box_l h4).2
      have HT : Hid (takeM u b c = -1) := by
        unfold Hid takeM
        refine firstTo_no (fun j hj => ?_)
        rw [← Bool.not_eq_true]
        intro ht
        obtain ⟨t1, t2, t3⟩ := takeB_line ht
        have hm : j ∈ lineL u b := by
          unfold lineL pickTo
          rw [List.mem_filter, List.mem_range]
          exact ⟨hj, t1⟩
        have := hp j hm
        rw [t2, t3] at this; cases this
      have hK' : ((W'.setCell ⟨n0 + 1 + 1, 0, none⟩ (.int .i64 0)).setCell ⟨n0 + 1 + 1 + 1, 0, none⟩ (.bool false)).heap[D]? = some (.deferred (some [])) := by rw [Deep.blk_setCell_other _ _ _ _ hDm, Deep.blk_setCell_other _ _ _ _ hDn]; exact hK
      have hb3 : Boxed (((W'.setCell ⟨n0 + 1 + 1, 0, none⟩ (.int .i64 0)).setCell ⟨n0 + 1 + 1 + 1, 0, none⟩ (.bool false)).putObj D (.deferred none)) (n0 + 1 + 1) 3 (.int .i64 0) := (World.putObj_heap_other (Ne.symm hDn)).trans (((show Boxed _ _ _ _ from h3).set _).other (by omega) _)
      have hb4 : Boxed (((W'.setCell ⟨n0 + 1 + 1, 0, none⟩ (.int .i64 0)).setCell ⟨n0 + 1 + 1 + 1, 0, none⟩ (.bool false)).putObj D (.deferred none)) (n0 + 1 + 1 + 1) 4 (.bool false) := (World.putObj_heap_other (Ne.symm hDm)).trans (((show Boxed _ _ _ _ from h4).other (by omega) _).set _)
      have hcr3 := hb3.cell
      have hcr4 := hb4.cell
      have hsz : w.heap.size ≤ n0 := by omega
      clear hp h1 h2 h6 h7 h8 a0 a1 a2 a3 a4 a6 a7
      gi_wp2
      refine ⟨by simp, .inl ⟨_, _, rfl, run_takeDeferred hK', ?_⟩⟩
      refine ⟨.tuple #[.int .i64 0, .bool false], ?_, by rw [HT.out]; rfl, ((h9.setCell (p := ⟨n0 + 1 + 1, 0, none⟩) (by simp; omega) _).setCell (p := ⟨n0 + 1 + 1 + 1, 0, none⟩) (by simp; omega) _).trans (belowK_b (w := w) (Nat.le_refl _) _ D _ _ hD' hK' rfl rfl)⟩
      simp [results, Tryz.f85, go_sem, hcr3, hcr4]
    case hstop =>
      rintro D cc pre W' hD ⟨rfl, t, ht, h3, h4, h9⟩ hK
      have hD' : w.heap.size ≤ D := by have := hVw.size; omega
      have hDn : D ≠ n0 + 1 + 1 := by omega
      have hDm : D ≠ n0 + 1 + 1 + 1 := by omega
      have HT : Hid (takeM u b c = (t : Int)) := ht
      have hb3 : Boxed (W'.putObj D (.deferred none)) (n0 + 1 + 1) 3 (.int .i64 (t : Int)) := (World.putObj_heap_other (Ne.symm hDn)).trans h3
      have hb4 : Boxed (W'.putObj D (.deferred none)) (n0 + 1 + 1 + 1) 4 (.bool true) := (World.putObj_heap_other (Ne.symm hDm)).trans h4
      have hcr3 := hb3.cell
      have hcr4 := hb4.cell
      clear a0 a1 a2 a3 a4 a6 a7 ht
      gi_wp2
      refine ⟨by simp, .inl ⟨_, _, rfl, run_takeDeferred hK, ?_⟩⟩
      refine ⟨.tuple #[.int .i64 (t : Int), .bool true], ?_, by rw [HT.out, encB_some], h9.trans (belowK_b (w := w) (Nat.le_refl _) _ D _ _ hD' hK rfl rfl)⟩
      simp [results, Tryz.f85, go_sem, hcr3, hcr4]
def pullAt (u : Wv) (c k : Nat) : Int := if bestM u c (Msk.spanM (u.cs.length : Int) (c : Int) (k : Int)) < 0 then -1 else takeM u (bestM u c (Msk.spanM (u.cs.length : Int) (c : Int) (k : Int))).toNat c
def pullTo (u : Wv) (c : Nat) : Nat → Int
  | 0 => -1
  | k + 1 => if pullTo u c k < 0 then pullAt u c k else pullTo u c k
def pullM (u : Wv) (c : Nat) : Int := pullTo u c (Msk.levelsF (u.cs.length : Int)).toNat
theorem pullTo_no {u : Wv} {c k : Nat} (h : pullTo u c k = -1) (h2 : pullAt u c k = -1) : pullTo u c (k + 1) = -1 := by
  unfold pullTo; rw [h, if_pos (by omega), h2]
theorem pullTo_stays {u : Wv} {c k : Nat} {t : Int} (h : pullTo u c k = t) (ht : 0 ≤ t) : ∀ d, pullTo u c (k + d) = t := by
  intro d
  induction d with
  | zero => exact h
  | succ d ih =>
    rw [← Nat.add_assoc]
    unfold pullTo
    rw [ih, if_neg (by omega)]
theorem pullTo_yes {u : Wv} {c k n : Nat} {t : Int} (h : pullTo u c k = -1) (h2 : pullAt u c k = t) (ht : 0 ≤ t) (hn : k < n) : pullTo u c n = t := by
  have h3 : pullTo u c (k + 1) = t := by unfold pullTo; rw [h, if_pos (by omega), h2]
  obtain ⟨d, hd⟩ := Nat.exists_eq_add_of_le (Nat.succ_le_of_lt hn)
  rw [hd]
  exact pullTo_stays h3 ht d
theorem firstTo_range (p : Nat → Bool) (k : Nat) : firstTo p k = -1 ∨ ∃ t : Nat, firstTo p k = (t : Int) ∧ t < k := by
  induction k with
  | zero => exact .inl rfl
  | succ k ih =>
    unfold firstTo
    split
    · exact .inr ⟨k, rfl, by omega⟩
    · rcases ih with h | ⟨b, hb, hk⟩
      · exact .inl h
      · exact .inr ⟨b, hb, by omega⟩
theorem pull_any (pw c pg po : Nat) (u : Wv) (w : World) (hA : AtW w pw u) (ho : okS u = true) (hc : c < u.cs.length) :
    Calls Tryz.prog 48 #[prV pw (c : Int) pg po] w fun e w' => e = .returned (.tuple #[.int .i64 ((encB (pullM u c)).1 : Int), .bool (encB (pullM u c)).2]) ∧ Below w.heap.size w w' := by
  unfold prV ptr ptrO
  obtain ⟨W1, hW1⟩ : ∃ W1, w.alloc (.cells #[.pointer (some ⟨pw, 0, none⟩), .int .i64 (c : Int), .pointer (some ⟨pg, po, none⟩)] 56) = W1 := ⟨_, rfl⟩
  obtain ⟨B1, q0, q1, q2, l1⟩ := boxed_pr hW1
  obtain ⟨p1, c1, p2, c2, p3, c3, e1, e2, e3, hl1, hl2, hl3⟩ := slw_forms hA.2
  have hA1 := hA.below B1
  obtain ⟨o0, o1, o2, o3⟩ := forms_at hA1 e1 e2 e3
  obtain ⟨x, hx⟩ := row_get hc
  obtain ⟨g0, o0', n0, cap0, hz0⟩ : ∃ g0 o0' n0 cap0, u.x = .slice (some ⟨g0, o0', none⟩) n0 cap0 := by
    obtain ⟨p, cap, hp, _, hr⟩ := hA.rowC
    obtain ⟨g, o, rfl, _⟩ := hr c x hx
    exact ⟨g, o, _, cap, hp⟩
  have hFn := (okS_read ho).1
  obtain ⟨lv, hlv⟩ : ∃ n, Msk.levelsF (u.cs.length : Int) = n := ⟨_, rfl⟩
  have hlr : 0 ≤ lv ∧ lv ≤ 2 := by rw [← hlv]; unfold Msk.levelsF; split; omega; split <;> omega
  have HPM : Hid (pullM u c = pullTo u c lv.toNat) := by unfold Hid pullM; rw [hlv]
  have HB1 : Hid (Below w.heap.size w W1) := B1
  have HA1 : Hid (AtW W1 pw u) := hA1
  have HLV : Hid (∀ W, Calls Tryz.prog 84 #[.int .i64 (u.cs.length : Int)] W fun e w' => e = .returned (.int .i64 lv) ∧ w' = W) := fun W => by
    have h0 := Msk.impl_levels (u.cs.length : Int) W
    rw [hlv] at h0; exact h0
  have HQ : Hid (∀ wr, Below W1.heap.size W1 wr → wr.cell? ⟨w.heap.size, 0, none⟩ = some (.pointer (some ⟨pw, 0, none⟩)) ∧ wr.cell? ⟨w.heap.size, 1, none⟩ = some (.int .i64 (c : Int)) ∧ wr.cell? ⟨w.heap.size, 2, none⟩ = some (.pointer (some ⟨pg, po, none⟩))) := fun wr hb => ⟨(hb.cell (p := ⟨w.heap.size, 0, none⟩) l1).trans q0, (hb.cell (p := ⟨w.heap.size, 1, none⟩) l1).trans q1, (hb.cell (p := ⟨w.heap.size, 2, none⟩) l1).trans q2⟩
  have HBU : Hid (∀ (k : Nat) W, Below W1.heap.size W1 W → Calls Tryz.prog 54 #[.agg #[.pointer (some ⟨pw, 0, none⟩), .int .i64 (c : Int), .pointer (some ⟨pg, po, none⟩)], .int .i64 (k : Int)] W fun e w' => e = .returned (.tuple #[.int .i64 ((encB (bestM u c (Msk.spanM (u.cs.length : Int) (c : Int) (k : Int)))).1 : Int), .bool (encB (bestM u c (Msk.spanM (u.cs.length : Int) (c : Int) (k : Int)))).2]) ∧ Below W.heap.size W w') := fun k W h => busiest_any pw c pg po (k : Int) u W (hA1.below h) ho hc
  have HPA : Hid (∀ (b : Nat) W, b < u.cs.length → Below W1.heap.size W1 W → ∃ pp : Addr, Calls Tryz.prog 39 #[.pointer (some ⟨pw, 0, none⟩), .int .i64 (b : Int)] W fun e w' => e = .returned (.agg #[.pointer (some ⟨pw, 0, none⟩), .int .i64 (b : Int), .pointer (some ⟨g0, o0' + b * 5, none⟩)]) ∧ Below W.heap.size W w') := fun b W hb h => by
    obtain ⟨xb, hxb⟩ := row_get hb
    exact ⟨⟨0, 0, none⟩, (procAt_fix pw b g0 o0' n0 cap0 u xb W (hA1.below h) hxb hz0).mono fun e w' h => ⟨h.1, h.2.2.2⟩⟩
  have HPF : Hid (∀ (b oo : Nat) W, b < u.cs.length → Below W1.heap.size W1 W → Calls Tryz.prog 85 #[.agg #[.pointer (some ⟨pw, 0, none⟩), .int .i64 (c : Int), .pointer (some ⟨pg, po, none⟩)], .agg #[.pointer (some ⟨pw, 0, none⟩), .int .i64 (b : Int), .pointer (some ⟨g0, oo, none⟩)]] W fun e w' => e = .returned (.tuple #[.int .i64 ((encB (takeM u b c)).1 : Int), .bool (encB (takeM u b c)).2]) ∧ Below W.heap.size W w') := fun b oo W hb h => pullFrom_any pw c pg po b g0 oo u W (hA1.below h) ho hc hb
  clear hA hA1 e1 e2 e3 B1 hlv hx hz0
  go_enter Tryz.func48, Tryz.ntmps48
  go_wp2_with (go_at_call 84; refine (HLV.out _).mono ?_; rintro e1 V1 ⟨rfl, hv1⟩; subst V1)
  clear o0 o1 o2 o3 q0 q1 q2
  go_loopw [17] (fun t wr => ∃ k : Nat, (k : Int) ≤ lv ∧ t = .int .i64 (k : Int) ∧ pullTo u c k = -1 ∧ Below W1.heap.size W1 wr) (fun t _ => 3 - (intOf t).toNat)
  case atStart => exact ⟨0, hlr.1, rfl, rfl, Below.refl _ _⟩
  case round =>
    obtain ⟨k, hk, rfl, hpt, hb⟩ := hrel
    have HPT : Hid (pullTo u c k = -1) := hpt
    obtain ⟨q0, q1, q2⟩ := HQ.out _ hb
    clear hpt
    by_cases hlt : (k : Int) < lv
    · have HLT : Hid ((k : Int) < lv) := hlt
      have hq := HBU.out k wr hb
      rcases bestTo_range u c (Msk.spanM (u.cs.length : Int) (c : Int) (k : Int)) u.cs.length with hbn | ⟨b, hbb, hbl⟩
      · have hbm : bestM u c (Msk.spanM (u.cs.length : Int) (c : Int) (k : Int)) = -1 := hbn
        have HX : Hid (pullTo u c (k + 1) = -1) := pullTo_no HPT.out (by unfold pullAt; rw [hbm]; rfl)
        rw [hbm, encB_none] at hq
        clear hbm hbn
        go_wp2_with (go_at_call 54; refine hq.mono ?_; rintro e1 V1 ⟨rfl, hb1⟩)
        exact ⟨⟨k + 1, by omega, by go_num, HX.out, hb.trans (hb1.mono hb.size)⟩, by simp [intOf]; omega⟩
      · have hbm : bestM u c (Msk.spanM (u.cs.length : Int) (c : Int) (k : Int)) = (b : Int) := hbb
        have HAT : Hid (pullAt u c k = takeM u b c) := by unfold Hid pullAt; rw [hbm, if_neg (by omega), Int.toNat_natCast]
        rw [hbm, encB_some] at hq
        have HBL : Hid (b < u.cs.length) := hbl
        clear hbm hbb hbl
        go_wp2_with (go_at_call 54; refine hq.mono ?_; rintro e1 V1 ⟨rfl, hb1⟩; have hbx := hb.trans (hb1.mono hb.size); obtain ⟨q0, q1, q2⟩ := HQ.out _ hbx)
        have k0 := cell_regrown q0
        have k1 := cell_regrown q1
        have k2 := cell_regrown q2
        obtain ⟨oo, hoo⟩ : ∃ oo, o0' + b * 5 = oo := ⟨_, rfl⟩
        have cPA : ∀ d os, Calls Tryz.prog 39 #[.pointer (some ⟨pw, 0, none⟩), .int .i64 (b : Int)] (grow (redrawn V1 d) os) fun e' w'' => e' = .returned (.agg #[.pointer (some ⟨pw, 0, none⟩), .int .i64 (b : Int), .pointer (some ⟨g0, oo, none⟩)]) ∧ ∃ p : Regrown, w'' = grow (redrawn V1 p.d) p.os := fun d os => by
          obtain ⟨_, h0⟩ := HPA.out b _ HBL.out (hbx.trans ((below_regrown V1 d os).mono hbx.size))
          rw [hoo] at h0
          exact Calls.regrown_of h0
        have hpf := fun W h => HPF.out b oo W HBL.out h
        rcases firstTo_range (takeB u b c) u.ts.length with htn | ⟨t, htt, htl⟩
        · have htm : takeM u b c = -1 := htn
          have HX : Hid (pullTo u c (k + 1) = -1) := pullTo_no HPT.out (by rw [HAT.out, htm])
          rw [htm, encB_none] at hpf
          have cPF : ∀ d os, Calls Tryz.prog 85 #[.agg #[.pointer (some ⟨pw, 0, none⟩), .int .i64 (c : Int), .pointer (some ⟨pg, po, none⟩)], .agg #[.pointer (some ⟨pw, 0, none⟩), .int .i64 (b : Int), .pointer (some ⟨g0, oo, none⟩)]] (grow (redrawn V1 d) os) fun e' w'' => e' = .returned (.tuple #[.int .i64 ((0 : Nat) : Int), .bool false]) ∧ ∃ p : Regrown, w'' = grow (redrawn V1 p.d) p.os := fun d os => Calls.regrown_of (hpf _ (hbx.trans ((below_regrown V1 d os).mono hbx.size)))
          clear htm htn hpf hoo
          refine wp_region_quiet_below (by kernel_rfl) (by kernel_rfl) ?_
          iterate 6 go_big_quiet_step (exact cPA _ _)
          iterate 6 go_big_quiet_step (exact cPF _ _)
          refine wpQuiet_nil ?_
          rintro _ ⟨⟨dq, osq⟩, rfl⟩
          go_wp2
          exact ⟨⟨k + 1, by have := HLT.out; omega, by go_num, HX.out, hbx.trans ((below_regrown V1 dq osq).mono hbx.size)⟩, by simp [intOf]; omega⟩
        · have htm : takeM u b c = (t : Int) := htt
          have HX : Hid (pullM u c = (t : Int)) := by unfold Hid; rw [HPM.out]; exact pullTo_yes HPT.out (by rw [HAT.out, htm]) (by omega) (by have := HLT.out; omega)
          rw [htm, encB_some] at hpf
          have cPF : ∀ d os, Calls Tryz.prog 85 #[.agg #[.pointer (some ⟨pw, 0, none⟩), .int .i64 (c : Int), .pointer (some ⟨pg, po, none⟩)], .agg #[.pointer (some ⟨pw, 0, none⟩), .int .i64 (b : Int), .pointer (some ⟨g0, oo, none⟩)]] (grow (redrawn V1 d) os) fun e' w'' => e' = .returned (.tuple #[.int .i64 (t : Int), .bool true]) ∧ ∃ p : Regrown, w'' = grow (redrawn V1 p.d) p.os := fun d os => Calls.regrown_of (hpf _ (hbx.trans ((below_regrown V1 d os).mono hbx.size)))
          clear htm htt hpf hoo
          refine wp_region_quiet_below (by kernel_rfl) (by kernel_rfl) ?_
          iterate 6 go_big_quiet_step (exact cPA _ _)
          iterate 6 go_big_quiet_step (exact cPF _ _)
          refine wpQuiet_nil ?_
          rintro _ ⟨⟨dq, osq⟩, rfl⟩
          go_wp2
          refine bodyPost_ret (results_tmp2 rfl _ _ _) rfl ?_
          exact ⟨by rw [HX.out, encB_some] <;> rfl, HB1.out.trans ((hbx.trans ((below_regrown V1 dq osq).mono hbx.size)).mono HB1.out.size)⟩
    · have HX : Hid (pullM u c = -1) := by unfold Hid; rw [HPM.out, show lv.toNat = k by omega]; exact HPT.out
      go_wp2
      refine bodyPost_ret (results_tmp2 rfl _ _ _) rfl ?_
      exact ⟨by rw [HX.out, encB_none] <;> rfl, HB1.out.trans (hb.mono HB1.out.size)⟩
theorem l12Fits_any (t b c : Nat) (e : Tk) (u : Wv) (w : World) (hs : SlW w u) (ho : okS u = true) (hb : b < u.cs.length) (hc : c < u.cs.length) (he : u.ts[t]? = some e) :
    Calls Tryz.prog 83 #[wvV u, .int .i64 (t : Int), .int .i64 (b : Int), .int .i64 (c : Int)] w fun e' w' => e' = .returned (.bool (fitsB u t b c)) ∧ Below w.heap.size w w' := by
  obtain ⟨p1, c1, p2, c2, p3, c3, e1, e2, e3, hl1, hl2, hl3⟩ := hs.forms
  have hv : wvV u = .agg #[.int .i64 u.now, .slice p1 u.cs.length c1, .slice p2 u.ts.length c2, .slice p3 u.gs.length c3] := by unfold wvV; rw [e1, e2, e3]
  obtain ⟨W1, hW1⟩ : ∃ W1, w.alloc (.cells #[.int .i64 u.now, .slice p1 u.cs.length c1, .slice p2 u.ts.length c2, .slice p3 u.gs.length c3] 33) = W1 := ⟨_, rfl⟩
  obtain ⟨hA, acc, lw⟩ := boxed_w hs e1 e2 e3 hW1
  have HS : Hid (SlW w u) := hs
  obtain ⟨HC, HTT, HCC, HGG⟩ := rows_at hA e1 e2 e3
  obtain ⟨o0, o1, o2, o3⟩ := HC.out _ (Below.refl _ _)
  have ACC : Hid (Below w.heap.size w W1) := acc
  obtain ⟨hF, hCP, hTF, hTG⟩ := okS_read ho
  have HL : Hid (u.ts.length = 12) := hF.nt
  have htl := (List.getElem?_eq_some_iff.1 he).1
  have htl' : (t : Int) < (u.ts.length : Int) := by omega
  obtain ⟨la, hla⟩ : ∃ n, loadN u c = n := ⟨_, rfl⟩
  obtain ⟨lb, hlb⟩ : ∃ n, loadN u b = n := ⟨_, rfl⟩
  have hlar := load_range hF.nt c
  have hlbr := load_range hF.nt b
  rw [hla] at hlar
  rw [hlb] at hlbr
  have hwr := wof_range e.ni
  have HFT : Hid (fitsB u t b c = (decide (la = 0) || decide (la + wof e.ni ≤ lb - wof e.ni))) := by unfold Hid fitsB; rw [hla, hlb, niK_at he]
  have hC : ∀ W, SlW W u → Calls Tryz.prog 34 #[wvV u, .int .i64 (c : Int)] W fun e' w' => e' = .returned (.int .i64 la) ∧ Below W.heap.size W w' := fun W hW => by have h0 := l12Load_any c u W hW ho hc; rw [hla] at h0; exact h0
  have hB : ∀ W, SlW W u → Calls Tryz.prog 34 #[wvV u, .int .i64 (b : Int)] W fun e' w' => e' = .returned (.int .i64 lb) ∧ Below W.heap.size W w' := fun W hW => by have h0 := l12Load_any b u W hW ho hb; rw [hlb] at h0; exact h0
  rw [hv] at hB hC ⊢
  have HB : Hid (∀ W, SlW W u → Calls Tryz.prog 34 #[.agg #[.int .i64 u.now, .slice p1 u.cs.length c1, .slice p2 u.ts.length c2, .slice p3 u.gs.length c3], .int .i64 (b : Int)] W fun e' w' => e' = .returned (.int .i64 lb) ∧ Below W.heap.size W w') := hB
  have HC2 : Hid (∀ W, SlW W u → Calls Tryz.prog 34 #[.agg #[.int .i64 u.now, .slice p1 u.cs.length c1, .slice p2 u.ts.length c2, .slice p3 u.gs.length c3], .int .i64 (c : Int)] W fun e' w' => e' = .returned (.int .i64 la) ∧ Below W.heap.size W w') := hC
  have HE : Hid (u.ts[t]? = some e) := he
  have hsw : SlW W1 u := HS.out.below ACC.out
  clear hA hs e1 e2 e3 hv hF hCP hTF hTG ho acc hB hC he hla hlb
  go_enter Tryz.func83, Tryz.ntmps83
  go_wp2_with fail
  refine (HC2.out _ hsw).mono ?_
  rintro e1 V1 ⟨rfl, hb1⟩
  obtain ⟨d0, d1, d2, d3⟩ := HC.out _ hb1
  obtain ⟨tg, to, rfl, hr, ltg⟩ := HTT.out _ t e hb1 HE.out
  obtain ⟨x0, x1, x2, x3, x4, x5, x6, x7, x8⟩ := tk_cells hr
  have HSV : Hid (SlW V1 u) := hsw.below hb1
  clear hr x0 x1 x2 x4 x5 x6 x7 x8 o0 o1 o2 o3 hsw
  simp only []
  by_cases h0 : la = 0
  · have HR : Hid (fitsB u t b c = true) := by unfold Hid; rw [HFT.out, decide_eq_true h0]; rfl
    subst h0
    go_at_K
    go_wp2_with (go_at_call 72; refine (spec_wof _ _).mono ?_; rintro e2 V2 ⟨rfl, rfl⟩)
    go_ret
    exact ⟨by rw [HR.out] <;> rfl, ACC.out.trans (hb1.mono ACC.out.size)⟩
  · have hlb0 : (la == 0) = false := by simpa using h0
    by_cases hfi : la + wof e.ni ≤ lb - wof e.ni
    · have HR : Hid (fitsB u t b c = true) := by unfold Hid; rw [HFT.out, decide_eq_true hfi, Bool.or_true]
      go_at_K
      go_wp2_with (first | (go_at_call 72; refine (spec_wof _ _).mono ?_; rintro e2 V2 ⟨rfl, rfl⟩) | (go_at_call 34; refine (HB.out _ HSV.out).mono ?_; rintro e3 V3 ⟨rfl, hb3⟩))
      go_ret
      exact ⟨by rw [HR.out] <;> first | rfl | simp [hfi], ACC.out.trans ((hb1.trans (hb3.mono hb1.size)).mono ACC.out.size)⟩
    · have HR : Hid (fitsB u t b c = false) := by unfold Hid; rw [HFT.out, decide_eq_false h0, decide_eq_false hfi]; rfl
      go_at_K
      go_wp2_with (first | (go_at_call 72; refine (spec_wof _ _).mono ?_; rintro e2 V2 ⟨rfl, rfl⟩) | (go_at_call 34; refine (HB.out _ HSV.out).mono ?_; rintro e3 V3 ⟨rfl, hb3⟩))
      go_ret
      exact ⟨by rw [HR.out] <;> first | rfl | simp [hfi], ACC.out.trans ((hb1.trans (hb3.mono hb1.size)).mono ACC.out.size)⟩
theorem ups_bits {cs : List Cp} : ∀ k, k ≤ 4 → ∀ i : Nat, i < 4 → Msk.hasB (upsTo cs k) (i : Int) = (decide (i < k) && upB cs i) := by
  intro k
  induction k with
  | zero => intro _ i hi; rw [show upsTo cs 0 = 0 from rfl, set_zero.2 i hi]; simp
  | succ k ih =>
    intro hk i hi
    have ih := ih (by omega) i hi
    have hin : SetIn (upsTo cs k) := by
      obtain ⟨h1, h2⟩ := upsTo_bound cs k
      refine ⟨h1, ?_⟩
      have : k = 0 ∨ k = 1 ∨ k = 2 ∨ k = 3 := by omega
      rcases this with rfl | rfl | rfl | rfl <;> simp at h2 <;> omega
    have hs : upsTo cs (k + 1) = upsTo cs k + (if upB cs k = true then 2 ^ k else 0) := rfl
    rw [hs]
    cases hu : upB cs k
    · rw [if_neg (by decide), Int.add_zero, ih]
      by_cases hik : i = k
      · subst hik; rw [hu]; simp
      · rw [show decide (i < k + 1) = decide (i < k) from decide_eq_decide.2 (by omega)]
    · rw [if_pos rfl, ← or_ups cs k (by omega), (or_bit hin (by omega)).2 i hi, ih]
      by_cases hik : i = k
      · subst hik; rw [hu]; simp
      · rw [show decide (i < k + 1) = decide (i < k) from decide_eq_decide.2 (by omega), decide_eq_false hik, Bool.or_false]
def upAt (u : Wv) (c : Int) : Bool := cpuB u.cs c && upB u.cs c.toNat
theorem ups_has {u : Wv} (hn : u.cs.length ≤ 4) (c : Int) : Msk.hasB (upsM u.cs) c = upAt u c := by
  by_cases h : 0 ≤ c ∧ c ≤ 3
  · obtain ⟨k, rfl⟩ := Int.eq_ofNat_of_zero_le h.1
    have hk : k < 4 := by omega
    unfold upsM upAt
    rw [ups_bits u.cs.length hn k hk, Int.toNat_natCast]
    unfold cpuB
    rw [decide_eq_true (by omega : (0 : Int) ≤ (k : Int)), Bool.true_and]
    rw [show decide ((k : Int) < (u.cs.length : Int)) = decide (k < u.cs.length) from decide_eq_decide.2 (by omega)]
  · rw [Msk.hasB_c (by omega)]
    unfold upAt cpuB
    by_cases h0 : 0 ≤ c
    · rw [decide_eq_true h0, decide_eq_false (by omega)]; rfl
    · rw [decide_eq_false h0]; rfl
theorem upAt_cases {u : Wv} {c : Int} : upAt u c = false ∨ ∃ k : Nat, c = (k : Int) ∧ k < u.cs.length ∧ upB u.cs k = true := by
  cases h : upAt u c
  · exact .inl rfl
  · unfold upAt at h
    rw [Bool.and_eq_true] at h
    obtain ⟨k, rfl, hk⟩ := cpuB_nat h.1
    exact .inr ⟨k, rfl, hk, by rw [Int.toNat_natCast] at h; exact h.2⟩
theorem upAt_at {u : Wv} {k : Nat} (hk : k < u.cs.length) (h : upB u.cs k = true) : upAt u (k : Int) = true := by unfold upAt; rw [cpuB_at hk, Int.toNat_natCast, h]; rfl
def pullS (u : Wv) (c : Int) : Int := if (okS u && upAt u c) = true then pullM u c.toNat else -1
theorem pullM_range (u : Wv) (c : Nat) : pullM u c = -1 ∨ ∃ t : Nat, pullM u c = (t : Int) := by
  unfold pullM
  have key : ∀ k, pullTo u c k = -1 ∨ ∃ t : Nat, pullTo u c k = (t : Int) := by
    intro k
    induction k with
    | zero => exact .inl rfl
    | succ k ih =>
      unfold pullTo
      split
      · unfold pullAt
        split
        · exact .inl rfl
        · rcases firstTo_range (takeB u (bestM u c (Msk.spanM (u.cs.length : Int) (c : Int) (k : Int))).toNat c) u.ts.length with h | ⟨t, h, _⟩
          · exact .inl h
          · exact .inr ⟨t, h⟩
      · exact ih
  exact key _
theorem implPull_any (cpu : Int) (u : Wv) (w : World) (hs : SlW w u) (hf : GsFit u.gs) :
    Calls Tryz.prog 17 #[wvV u, .int .i64 cpu] w fun e' w' => e' = .returned (.tuple #[.int .i64 ((encB (pullS u cpu)).1 : Int), .bool (encB (pullS u cpu)).2]) ∧ Below w.heap.size w w' := by
  obtain ⟨p1, c1, p2, c2, p3, c3, e1, e2, e3, hl1, hl2, hl3⟩ := hs.forms
  have hv : wvV u = .agg #[.int .i64 u.now, .slice p1 u.cs.length c1, .slice p2 u.ts.length c2, .slice p3 u.gs.length c3] := by unfold wvV; rw [e1, e2, e3]
  obtain ⟨W1, hW1⟩ : ∃ W1, w.alloc (.cells #[.int .i64 u.now, .slice p1 u.cs.length c1, .slice p2 u.ts.length c2, .slice p3 u.gs.length c3] 33) = W1 := ⟨_, rfl⟩
  obtain ⟨hA, acc, lw⟩ := boxed_w hs e1 e2 e3 hW1
  have HS : Hid (SlW w u) := hs
  obtain ⟨HC, HTT, HCC, HGG⟩ := rows_at hA e1 e2 e3
  obtain ⟨o0, o1, o2, o3⟩ := HC.out _ (Below.refl _ _)
  have ACC : Hid (Below w.heap.size w W1) := acc
  have HA : Hid (AtW W1 w.heap.size u) := hA
  obtain ⟨ok, hok⟩ : ∃ b, okS u = b := ⟨_, rfl⟩
  have HO : Hid (okS u = ok) := hok
  have hK : ∀ W, SlW W u → Calls Tryz.prog 27 #[wvV u] W fun e' w' => e' = .returned (.bool ok) ∧ Below W.heap.size W w' := fun W h => by rw [← hok]; exact implWorldOk_eq u W h hf
  cases ok
  · have HR : Hid (pullS u cpu = -1) := by unfold Hid pullS; rw [hok]; rfl
    rw [hv] at hK ⊢
    clear hA hs hf e1 e2 e3 hv hok acc
    go_enter Tryz.func17, Tryz.ntmps17
    go_wp2_with (first | (go_at_call 27; refine (hK _ (HS.out.below ACC.out)).mono ?_; rintro e1 V1 ⟨rfl, hb1⟩; obtain ⟨o0, o1, o2, o3⟩ := HC.out _ hb1; have lv : w.heap.size < V1.heap.size := Nat.lt_of_lt_of_le lw hb1.size))
    refine bodyPost_ret (results_tmp2 rfl _ _ _) rfl ?_
    exact ⟨by rw [HR.out] <;> rfl, ACC.out.trans (hb1.mono ACC.out.size)⟩
  · obtain ⟨hF, hCP, hTF, hTG⟩ := okS_read hok
    have HN4 : Hid (u.cs.length ≤ 4) := hF.n4
    have HUS : Hid (SetIn (upsM u.cs)) := ups_in u.cs hF.n4
    have HUH : Hid (Msk.hasB (upsM u.cs) cpu = upAt u cpu) := ups_has hF.n4 cpu
    rcases upAt_cases (u := u) (c := cpu) with hup | ⟨c, rfl, hc, hub⟩
    · have HR : Hid (pullS u cpu = -1) := by unfold Hid pullS; rw [hup, Bool.and_false]; rfl
      have HUA : Hid (upAt u cpu = false) := hup
      rw [hv] at hK ⊢
      clear hA hs hf e1 e2 e3 hv hok acc hup hF hCP hTF hTG
      go_enter Tryz.func17, Tryz.ntmps17
      go_wp2_with (first | (go_at_call 27; refine (hK _ (HS.out.below ACC.out)).mono ?_; rintro e1 V1 ⟨rfl, hb1⟩; obtain ⟨o0, o1, o2, o3⟩ := HC.out _ hb1; have lv : w.heap.size < V1.heap.size := Nat.lt_of_lt_of_le lw hb1.size) | (go_at_call 46; refine (impl_ups w.heap.size u _ (HA.out.below hb1) HN4.out).mono ?_; rintro e2 V2 ⟨rfl, hb2⟩; have hbx := hb1.trans (hb2.mono hb1.size)) | (go_at_call 47; refine (Msk.set_has _ _ _ HUS.out.1 HUS.out.2).mono ?_; rintro e3 V3 ⟨rfl, hv3⟩; subst V3; rw [HUH.out, HUA.out]))
      refine bodyPost_ret (results_tmp2 rfl _ _ _) rfl ?_
      exact ⟨by rw [HR.out] <;> rfl, ACC.out.trans (hbx.mono ACC.out.size)⟩
    · have HUA : Hid (upAt u (c : Int) = true) := upAt_at hc hub
      obtain ⟨ec, hec⟩ := row_get hc
      have HPA : Hid (∀ W, AtW W w.heap.size u → Calls Tryz.prog 39 #[.pointer (some ⟨w.heap.size, 0, none⟩), .int .i64 (c : Int)] W fun e' w' => ∃ pg po, e' = .returned (.agg #[.pointer (some ⟨w.heap.size, 0, none⟩), .int .i64 (c : Int), .pointer (some ⟨pg, po, none⟩)]) ∧ w'.rangeAt pg po (cpC ec) ∧ pg < W.heap.size ∧ Below W.heap.size W w') := fun W hW => procAt_any w.heap.size c u ec W hW hec
      rcases pullM_range u c with hpm | ⟨t, hpm⟩
      · have HR : Hid (pullS u (c : Int) = -1) := by unfold Hid pullS; rw [hok, HUA.out, Int.toNat_natCast, hpm]; rfl
        have HI : Hid (∀ (pg po : Nat) W, AtW W w.heap.size u → Calls Tryz.prog 48 #[.agg #[.pointer (some ⟨w.heap.size, 0, none⟩), .int .i64 (c : Int), .pointer (some ⟨pg, po, none⟩)]] W fun e' w' => e' = .returned (.tuple #[.int .i64 ((0 : Nat) : Int), .bool false]) ∧ Below W.heap.size W w') := fun pg po W hW => by
          have h0 := pull_any w.heap.size c pg po u W hW hok hc
          rw [hpm] at h0
          rw [encB_none] at h0
          exact h0
        rw [hv] at hK ⊢
        clear hA hs hf e1 e2 e3 hv hok acc hF hCP hTF hTG hec hpm
        go_enter Tryz.func17, Tryz.ntmps17
        go_wp2_with (first | (go_at_call 27; refine (hK _ (HS.out.below ACC.out)).mono ?_; rintro e1 V1 ⟨rfl, hb1⟩; obtain ⟨o0, o1, o2, o3⟩ := HC.out _ hb1; have lv : w.heap.size < V1.heap.size := Nat.lt_of_lt_of_le lw hb1.size) | (go_at_call 46; refine (impl_ups w.heap.size u _ (HA.out.below hb1) HN4.out).mono ?_; rintro e2 V2 ⟨rfl, hb2⟩; have hbx := hb1.trans (hb2.mono hb1.size)) | (go_at_call 47; refine (Msk.set_has _ _ _ HUS.out.1 HUS.out.2).mono ?_; rintro e3 V3 ⟨rfl, hv3⟩; subst V3; rw [HUH.out, HUA.out]) | (go_at_call 39; refine (HPA.out _ (HA.out.below hbx)).mono ?_; rintro e4 V4 ⟨pg, po, rfl, hrow, hlg, hb4⟩; have hby := hbx.trans (hb4.mono hbx.size)) | (go_at_call 48; refine (HI.out pg po _ (HA.out.below hby)).mono ?_; rintro e5 V5 ⟨rfl, hb5⟩))
        refine bodyPost_ret (results_tmp2 rfl _ _ _) rfl ?_
        exact ⟨by rw [HR.out] <;> rfl, ACC.out.trans ((hby.trans (hb5.mono hby.size)).mono ACC.out.size)⟩
      · have HR : Hid (pullS u (c : Int) = (t : Int)) := by unfold Hid pullS; rw [hok, HUA.out, Int.toNat_natCast, hpm]; rfl
        have HI : Hid (∀ (pg po : Nat) W, AtW W w.heap.size u → Calls Tryz.prog 48 #[.agg #[.pointer (some ⟨w.heap.size, 0, none⟩), .int .i64 (c : Int), .pointer (some ⟨pg, po, none⟩)]] W fun e' w' => e' = .returned (.tuple #[.int .i64 (t : Int), .bool true]) ∧ Below W.heap.size W w') := fun pg po W hW => by
          have h0 := pull_any w.heap.size c pg po u W hW hok hc
          rw [hpm] at h0
          rw [encB_some] at h0
          exact h0
        rw [hv] at hK ⊢
        clear hA hs hf e1 e2 e3 hv hok acc hF hCP hTF hTG hec hpm
        go_enter Tryz.func17, Tryz.ntmps17
        go_wp2_with (first | (go_at_call 27; refine (hK _ (HS.out.below ACC.out)).mono ?_; rintro e1 V1 ⟨rfl, hb1⟩; obtain ⟨o0, o1, o2, o3⟩ := HC.out _ hb1; have lv : w.heap.size < V1.heap.size := Nat.lt_of_lt_of_le lw hb1.size) | (go_at_call 46; refine (impl_ups w.heap.size u _ (HA.out.below hb1) HN4.out).mono ?_; rintro e2 V2 ⟨rfl, hb2⟩; have hbx := hb1.trans (hb2.mono hb1.size)) | (go_at_call 47; refine (Msk.set_has _ _ _ HUS.out.1 HUS.out.2).mono ?_; rintro e3 V3 ⟨rfl, hv3⟩; subst V3; rw [HUH.out, HUA.out]) | (go_at_call 39; refine (HPA.out _ (HA.out.below hbx)).mono ?_; rintro e4 V4 ⟨pg, po, rfl, hrow, hlg, hb4⟩; have hby := hbx.trans (hb4.mono hbx.size)) | (go_at_call 48; refine (HI.out pg po _ (HA.out.below hby)).mono ?_; rintro e5 V5 ⟨rfl, hb5⟩))
        refine bodyPost_ret (results_tmp2 rfl _ _ _) rfl ?_
        exact ⟨by rw [HR.out] <;> rfl, ACC.out.trans ((hby.trans (hb5.mono hby.size)).mono ACC.out.size)⟩
theorem l12Pull_any (c : Nat) (u : Wv) (w : World) (hs : SlW w u) (ho : okS u = true) (hc : c < u.cs.length) :
    Calls Tryz.prog 45 #[wvV u, .int .i64 (c : Int)] w fun e' w' => e' = .returned (.int .i64 (pullM u c)) ∧ Below w.heap.size w w' := by
  obtain ⟨p1, c1, p2, c2, p3, c3, e1, e2, e3, hl1, hl2, hl3⟩ := hs.forms
  have hv : wvV u = .agg #[.int .i64 u.now, .slice p1 u.cs.length c1, .slice p2 u.ts.length c2, .slice p3 u.gs.length c3] := by unfold wvV; rw [e1, e2, e3]
  obtain ⟨W1, hW1⟩ : ∃ W1, w.alloc (.cells #[.int .i64 u.now, .slice p1 u.cs.length c1, .slice p2 u.ts.length c2, .slice p3 u.gs.length c3] 33) = W1 := ⟨_, rfl⟩
  obtain ⟨hA, acc, lw⟩ := boxed_w hs e1 e2 e3 hW1
  have HS : Hid (SlW w u) := hs
  obtain ⟨HC, HTT, HCC, HGG⟩ := rows_at hA e1 e2 e3
  obtain ⟨o0, o1, o2, o3⟩ := HC.out _ (Below.refl _ _)
  have ACC : Hid (Below w.heap.size w W1) := acc
  obtain ⟨hF, hCP, hTF, hTG⟩ := okS_read ho
  have HL : Hid (u.ts.length = 12) := hF.nt
  obtain ⟨lv, hlv⟩ : ∃ n, Msk.levelsF (u.cs.length : Int) = n := ⟨_, rfl⟩
  have hlr : 0 ≤ lv ∧ lv ≤ 2 := by rw [← hlv]; unfold Msk.levelsF; split; omega; split <;> omega
  have HPM : Hid (pullM u c = pullTo u c lv.toNat) := by unfold Hid pullM; rw [hlv]
  have HLV : Hid (∀ W, Calls Tryz.prog 51 #[.int .i64 (u.cs.length : Int)] W fun e w' => e = .returned (.int .i64 lv) ∧ w' = W) := fun W => by
    have h0 := Msk.spec_levels (u.cs.length : Int) W
    rw [hlv] at h0; exact h0
  have hI : ∀ (t : Nat) (e : Tk), u.ts[t]? = some e → ∀ W, SlW W u → Calls Tryz.prog 82 #[wvV u, .int .i64 (t : Int), .int .i64 (c : Int)] W fun e' w' => e' = .returned (.bool (couldB u c t)) ∧ Below W.heap.size W w' := fun t e he W hW => l12Could_any c t e u W hW ho hc he
  have hF2 : ∀ (t b : Nat) (e : Tk), b < u.cs.length → u.ts[t]? = some e → ∀ W, SlW W u → Calls Tryz.prog 83 #[wvV u, .int .i64 (t : Int), .int .i64 (b : Int), .int .i64 (c : Int)] W fun e' w' => e' = .returned (.bool (fitsB u t b c)) ∧ Below W.heap.size W w' := fun t b e hb he W hW => l12Fits_any t b c e u W hW ho hb hc he
  have hU : ∀ (m : Int) W, SlW W u → Calls Tryz.prog 52 #[wvV u, .int .i64 m, .int .i64 (c : Int)] W fun e' w' => e' = .returned (.int .i64 (bestM u c m)) ∧ Below W.heap.size W w' := fun m W hW => l12Busiest_any c m u W hW ho hc
  rw [hv] at hI hF2 hU ⊢
  have HI : Hid (∀ (t : Nat) (e : Tk), u.ts[t]? = some e → ∀ W, SlW W u → Calls Tryz.prog 82 #[.agg #[.int .i64 u.now, .slice p1 u.cs.length c1, .slice p2 u.ts.length c2, .slice p3 u.gs.length c3], .int .i64 (t : Int), .int .i64 (c : Int)] W fun e' w' => e' = .returned (.bool (couldB u c t)) ∧ Below W.heap.size W w') := hI
  have HFI : Hid (∀ (t b : Nat) (e : Tk), b < u.cs.length → u.ts[t]? = some e → ∀ W, SlW W u → Calls Tryz.prog 83 #[.agg #[.int .i64 u.now, .slice p1 u.cs.length c1, .slice p2 u.ts.length c2, .slice p3 u.gs.length c3], .int .i64 (t : Int), .int .i64 (b : Int), .int .i64 (c : Int)] W fun e' w' => e' = .returned (.bool (fitsB u t b c)) ∧ Below W.heap.size W w') := hF2
  have HU : Hid (∀ (m : Int) W, SlW W u → Calls Tryz.prog 52 #[.agg #[.int .i64 u.now, .slice p1 u.cs.length c1, .slice p2 u.ts.length c2, .slice p3 u.gs.length c3], .int .i64 m, .int .i64 (c : Int)] W fun e' w' => e' = .returned (.int .i64 (bestM u c m)) ∧ Below W.heap.size W w') := hU
  clear hA hs e1 e2 e3 hv hI hF2 hU hF hCP hTF hTG ho acc hlv
  go_enter Tryz.func45, Tryz.ntmps45
  go_wp2
  clear o0 o1 o2 o3
  go_loopw [5] (fun t wr => ∃ k : Nat, (k : Int) ≤ lv ∧ t = .int .i64 (k : Int) ∧ pullTo u c k = -1 ∧ Below W1.heap.size W1 wr) (fun t _ => 3 - (intOf t).toNat)
  case atStart => exact ⟨0, hlr.1, rfl, rfl, Below.refl _ _⟩
  case round =>
    obtain ⟨k, hk, rfl, hpt, hb⟩ := hrel
    have HPT : Hid (pullTo u c k = -1) := hpt
    obtain ⟨q0, q1, q2, q3⟩ := HC.out _ hb
    have lwr : w.heap.size < wr.heap.size := Nat.lt_of_lt_of_le lw hb.size
    clear hpt
    by_cases hlt : (k : Int) < lv
    · have HLT : Hid ((k : Int) < lv) := hlt
      have HSW : Hid (SlW wr u) := HS.out.below (ACC.out.trans (hb.mono ACC.out.size))
      obtain ⟨sp, hsp⟩ : ∃ sp, Msk.spanM (u.cs.length : Int) (c : Int) (k : Int) = sp := ⟨_, rfl⟩
      have cS : ∀ d os, Calls Tryz.prog 53 #[.int .i64 (u.cs.length : Int), .int .i64 (c : Int), .int .i64 (k : Int)] (grow (redrawn wr d) os) fun e' w'' => e' = .returned (.int .i64 sp) ∧ ∃ p : Regrown, w'' = grow (redrawn wr p.d) p.os := fun d os => Calls.regrown_of ((Msk.spec_span (u.cs.length : Int) (c : Int) (k : Int) _).mono fun e' w' h => ⟨by rw [h.1, hsp], h.2 ▸ Below.refl _ _⟩)
      have r0 := cell_regrown q0
      have r1 := cell_regrown q1
      have r2 := cell_regrown q2
      have r3 := cell_regrown q3
      have hqu := HU.out sp
      rcases bestTo_range u c sp u.cs.length with hbn | ⟨b, hbb, hbl⟩
      · have hbm : bestM u c sp = -1 := hbn
        have HX : Hid (pullTo u c (k + 1) = -1) := pullTo_no HPT.out (by unfold pullAt; rw [hsp, hbm]; rfl)
        rw [hbm] at hqu
        have cU : ∀ d os, Calls Tryz.prog 52 #[.agg #[.int .i64 u.now, .slice p1 u.cs.length c1, .slice p2 u.ts.length c2, .slice p3 u.gs.length c3], .int .i64 sp, .int .i64 (c : Int)] (grow (redrawn wr d) os) fun e' w'' => e' = .returned (.int .i64 (-1)) ∧ ∃ p : Regrown, w'' = grow (redrawn wr p.d) p.os := fun d os => Calls.regrown_of (hqu _ (HSW.out.below (below_regrown wr d os)))
        clear hbm hbn hsp hqu
        go_wp2_with (go_at_call 51; refine (HLV.out _).mono ?_; rintro e1 V1 ⟨rfl, hv1⟩; subst V1)
        refine wp_region_quiet_below (by kernel_rfl) (by kernel_rfl) ?_
        iterate 7 go_big_quiet_step (exact cS _ _)
        iterate 3 go_big_quiet_step (exact cU _ _)
        refine wpQuiet_nil ?_
        rintro _ ⟨⟨dq, osq⟩, rfl⟩
        have hbq := hb.trans ((below_regrown wr dq osq).mono hb.size)
        go_wp2
        exact ⟨⟨k + 1, by have := HLT.out; omega, by go_num, HX.out, hbq⟩, by simp [intOf]; omega⟩
      · have hbm : bestM u c sp = (b : Int) := hbb
        have HAT : Hid (pullAt u c k = takeM u b c) := by unfold Hid pullAt; rw [hsp, hbm, if_neg (by omega), Int.toNat_natCast]
        rw [hbm] at hqu
        have HBL : Hid (b < u.cs.length) := hbl
        have cU : ∀ d os, Calls Tryz.prog 52 #[.agg #[.int .i64 u.now, .slice p1 u.cs.length c1, .slice p2 u.ts.length c2, .slice p3 u.gs.length c3], .int .i64 sp, .int .i64 (c : Int)] (grow (redrawn wr d) os) fun e' w'' => e' = .returned (.int .i64 (b : Int)) ∧ ∃ p : Regrown, w'' = grow (redrawn wr p.d) p.os := fun d os => Calls.regrown_of (hqu _ (HSW.out.below (below_regrown wr d os)))
        have hbn0 : ¬ (b : Int) < 0 := by omega
        clear hbm hbb hsp hqu hbl
        go_wp2_with (go_at_call 51; refine (HLV.out _).mono ?_; rintro e1 V1 ⟨rfl, hv1⟩; subst V1)
        refine wp_region_quiet_below (by kernel_rfl) (by kernel_rfl) ?_
        iterate 7 go_big_quiet_step (exact cS _ _)
        iterate 3 go_big_quiet_step (exact cU _ _)
        refine wpQuiet_nil ?_
        rintro _ ⟨⟨dq, osq⟩, rfl⟩
        have hbq := hb.trans ((below_regrown wr dq osq).mono hb.size)
        obtain ⟨V, hV⟩ : ∃ V, grow (redrawn wr dq) osq = V := ⟨_, rfl⟩
        rw [hV] at hbq ⊢
        have HBQ : Hid (Below W1.heap.size W1 V) := hbq
        clear hV hb q0 q1 q2 q3 r0 r1 r2 r3 cS cU hbq HSW
        go_wp2
        go_loopw [7] (fun t wr => ∃ j : Nat, j ≤ u.ts.length ∧ t = .int .i64 (j : Int) ∧ (∀ i, i < j → takeB u b c i = false) ∧ Below W1.heap.size W1 wr) (fun t _ => u.ts.length - (intOf t).toNat)
        case atStart => exact ⟨0, Nat.zero_le _, rfl, fun i hi => absurd hi (Nat.not_lt_zero _), HBQ.out⟩
        case round =>
          obtain ⟨j, hj, rfl, hno, hb⟩ := hrel
          have HNO : Hid (∀ i, i < j → takeB u b c i = false) := hno
          have hj12 : (j : Int) ≤ 12 := by have := HL.out; omega
          obtain ⟨o0, o1, o2, o3⟩ := HC.out _ hb
          have lwr2 : w.heap.size < wr.heap.size := Nat.lt_of_lt_of_le lw hb.size
          clear hno
          have HNX : Hid (takeB u b c j = false → ∀ i, i < j + 1 → takeB u b c i = false) := fun h i hi => by
            rcases Nat.lt_succ_iff_lt_or_eq.1 hi with h1 | rfl
            · exact HNO.out i h1
            · exact h
          by_cases hjl : j < u.ts.length
          · have hjl' : (j : Int) < (u.ts.length : Int) := by omega
            obtain ⟨e, he⟩ := row_get hjl
            obtain ⟨tg, to, rfl, hr, ltg⟩ := HTT.out _ j e hb he
            obtain ⟨x0, x1, x2, x3, x4, x5, x6, x7, x8⟩ := tk_cells hr
            clear hr
            have HE : Hid (u.ts[j]? = some e) := he
            have HJL : Hid (j < u.ts.length) := hjl
            have HTB : Hid (takeB u b c j = (decide (e.cpu = (b : Int)) && (couldB u c j && fitsB u j b c))) := by unfold Hid takeB; rw [he]; rfl
            have hq := HI.out j e he
            have hqf := HFI.out j b e HBL.out he
            clear he hjl
            by_cases s2 : e.cpu = (b : Int)
            · have HS2 : Hid (e.cpu = (b : Int)) := s2
              rw [s2] at x2
              clear s2
              cases hcb : couldB u c j
              · have HX := HNX.out (by rw [HTB.out, hcb]; simp)
                have HXX : Hid (∀ i, i < j + 1 → takeB u b c i = false) := HX
                rw [hcb] at hq
                clear hcb HX
                go_wp2_with (go_at_call 82; refine (hq _ (HS.out.below (ACC.out.trans (hb.mono ACC.out.size)))).mono ?_; rintro e1 V1 ⟨rfl, hb1⟩)
                exact ⟨⟨j + 1, HJL.out, by go_num, HXX.out, hb.trans (hb1.mono hb.size)⟩, by simp [intOf]; omega⟩
              · cases hfb : fitsB u j b c
                · have HX := HNX.out (by rw [HTB.out, hfb]; simp)
                  have HXX : Hid (∀ i, i < j + 1 → takeB u b c i = false) := HX
                  rw [hcb] at hq
                  rw [hfb] at hqf
                  clear hcb hfb HX
                  go_wp2_with (first | (go_at_call 82; refine (hq _ (HS.out.below (ACC.out.trans (hb.mono ACC.out.size)))).mono ?_; rintro e1 V1 ⟨rfl, hb1⟩; have hbx := hb.trans (hb1.mono hb.size); obtain ⟨o0, o1, o2, o3⟩ := HC.out _ hbx) | (go_at_call 83; refine (hqf _ (HS.out.below (ACC.out.trans (hbx.mono ACC.out.size)))).mono ?_; rintro e2 V2 ⟨rfl, hb2⟩))
                  exact ⟨⟨j + 1, HJL.out, by go_num, HXX.out, hbx.trans (hb2.mono hbx.size)⟩, by simp [intOf]; omega⟩
                · have HR : Hid (pullM u c = (j : Int)) := by
                    unfold Hid
                    rw [HPM.out]
                    refine pullTo_yes HPT.out ?_ (by omega) (by have := HLT.out; omega)
                    rw [HAT.out]
                    unfold takeM
                    exact firstTo_yes HNO.out (by rw [HTB.out, decide_eq_true HS2.out, hcb, hfb]; rfl) HJL.out
                  rw [hcb] at hq
                  rw [hfb] at hqf
                  clear hcb hfb
                  go_wp2_with (first | (go_at_call 82; refine (hq _ (HS.out.below (ACC.out.trans (hb.mono ACC.out.size)))).mono ?_; rintro e1 V1 ⟨rfl, hb1⟩; have hbx := hb.trans (hb1.mono hb.size); obtain ⟨o0, o1, o2, o3⟩ := HC.out _ hbx) | (go_at_call 83; refine (hqf _ (HS.out.below (ACC.out.trans (hbx.mono ACC.out.size)))).mono ?_; rintro e2 V2 ⟨rfl, hb2⟩))
                  go_ret
                  exact ⟨by rw [HR.out] <;> rfl, ACC.out.trans ((hbx.trans (hb2.mono hbx.size)).mono ACC.out.size)⟩
            · have HXX : Hid (∀ i, i < j + 1 → takeB u b c i = false) := HNX.out (by rw [HTB.out, decide_eq_false s2]; rfl)
              go_wp2
              exact ⟨⟨j + 1, HJL.out, by go_num, HXX.out, hb⟩, by simp [intOf]; omega⟩
          · have hjl' : ¬ (j : Int) < (u.ts.length : Int) := by omega
            have HX : Hid (pullTo u c (k + 1) = -1) := pullTo_no HPT.out (by
              rw [HAT.out]; unfold takeM
              exact firstTo_no (fun i hi => HNO.out i (by omega)))
            clear hjl
            go_wp2
            exact ⟨⟨k + 1, by have := HLT.out; omega, by go_num, HX.out, hb⟩, by simp [intOf]; omega⟩
    · have HR : Hid (pullM u c = -1) := by unfold Hid; rw [HPM.out, show lv.toNat = k by omega]; exact HPT.out
      go_wp2_with (go_at_call 51; refine (HLV.out _).mono ?_; rintro e1 V1 ⟨rfl, hv1⟩; subst V1)
      go_ret
      exact ⟨by rw [HR.out] <;> rfl, ACC.out.trans (hb.mono ACC.out.size)⟩
theorem l9Up_any (cpu : Int) (u : Wv) (w : World) (hs : SlW w u) :
    Calls Tryz.prog 44 #[wvV u, .int .i64 cpu] w fun e' w' => e' = .returned (.bool (upAt u cpu)) ∧ Below w.heap.size w w' := by
  obtain ⟨p1, c1, p2, c2, p3, c3, e1, e2, e3, hl1, hl2, hl3⟩ := hs.forms
  have hv : wvV u = .agg #[.int .i64 u.now, .slice p1 u.cs.length c1, .slice p2 u.ts.length c2, .slice p3 u.gs.length c3] := by unfold wvV; rw [e1, e2, e3]
  obtain ⟨W1, hW1⟩ : ∃ W1, w.alloc (.cells #[.int .i64 u.now, .slice p1 u.cs.length c1, .slice p2 u.ts.length c2, .slice p3 u.gs.length c3] 33) = W1 := ⟨_, rfl⟩
  obtain ⟨hA, acc, lw⟩ := boxed_w hs e1 e2 e3 hW1
  have HS : Hid (SlW w u) := hs
  obtain ⟨HC, HTT, HCC, HGG⟩ := rows_at hA e1 e2 e3
  obtain ⟨o0, o1, o2, o3⟩ := HC.out _ (Below.refl _ _)
  have ACC : Hid (Below w.heap.size w W1) := acc
  have HCB : Hid (l1in cpu 0 (wrap64 ((u.cs.length : Int) - 1)) = cpuB u.cs cpu) := by
    have : wrap64 ((u.cs.length : Int) - 1) = (u.cs.length : Int) - 1 := by unfold wrap64; omega
    unfold Hid; rw [this]; unfold l1in cpuB
    rw [Bool.decide_and]; congr 1
    exact decide_eq_decide.2 (by omega)
  have HCB2 : Hid (l1in cpu 0 ((u.cs.length : Int) - 1) = cpuB u.cs cpu) := by
    have : wrap64 ((u.cs.length : Int) - 1) = (u.cs.length : Int) - 1 := by unfold wrap64; omega
    have h := HCB.out
    rw [this] at h; exact h
  rcases cpu_cases (cs := u.cs) (c := cpu) with hcv | ⟨c, rfl, hc⟩
  · have HR : Hid (upAt u cpu = false) := by unfold Hid upAt; rw [hcv]; rfl
    have HCV : Hid (cpuB u.cs cpu = false) := hcv
    rw [hv]
    clear hA hs e1 e2 e3 hv acc hcv
    go_enter Tryz.func44, Tryz.ntmps44
    go_wp2_with (go_at_call 33; refine (l1In_any _ _ _ _).mono ?_; rintro e1 w1 ⟨rfl, hw1⟩; subst w1; (first | rw [HCB.out] | rw [HCB2.out] | skip); rw [HCV.out])
    go_ret
    exact ⟨by rw [HR.out] <;> rfl, ACC.out⟩
  · have HCV : Hid (cpuB u.cs (c : Int) = true) := cpuB_at hc
    obtain ⟨ec, hec⟩ := row_get hc
    have HR : Hid (upAt u (c : Int) = ec.up) := by unfold Hid upAt upB; rw [HCV.out, Int.toNat_natCast, hec]; rfl
    obtain ⟨cg, co, rfl, hcr, lcg⟩ := HCC.out _ c ec (Below.refl _ _) hec
    obtain ⟨y0, y1, y2, y3, y4⟩ := cp_cells hcr
    have hc' : (c : Int) < (u.cs.length : Int) := by omega
    rw [hv]
    clear hA hs e1 e2 e3 hv acc hcr hec y1 y2 y3 y4
    go_enter Tryz.func44, Tryz.ntmps44
    go_wp2_with (go_at_call 33; refine (l1In_any _ _ _ _).mono ?_; rintro e1 w1 ⟨rfl, hw1⟩; subst w1; (first | rw [HCB.out] | rw [HCB2.out] | skip); rw [HCV.out])
    go_ret
    exact ⟨by rw [HR.out] <;> rfl, ACC.out⟩
theorem specPull_any (cpu : Int) (u : Wv) (w : World) (hs : SlW w u) (hf : GsFit u.gs) :
    Calls Tryz.prog 16 #[wvV u, .int .i64 cpu] w fun e' w' => e' = .returned (.tuple #[.int .i64 ((encB (pullS u cpu)).1 : Int), .bool (encB (pullS u cpu)).2]) ∧ Below w.heap.size w w' := by
  obtain ⟨p1, c1, p2, c2, p3, c3, e1, e2, e3, hl1, hl2, hl3⟩ := hs.forms
  have hv : wvV u = .agg #[.int .i64 u.now, .slice p1 u.cs.length c1, .slice p2 u.ts.length c2, .slice p3 u.gs.length c3] := by unfold wvV; rw [e1, e2, e3]
  obtain ⟨W1, hW1⟩ : ∃ W1, w.alloc (.cells #[.int .i64 u.now, .slice p1 u.cs.length c1, .slice p2 u.ts.length c2, .slice p3 u.gs.length c3] 33) = W1 := ⟨_, rfl⟩
  obtain ⟨hA, acc, lw⟩ := boxed_w hs e1 e2 e3 hW1
  have HS : Hid (SlW w u) := hs
  obtain ⟨HC, HTT, HCC, HGG⟩ := rows_at hA e1 e2 e3
  obtain ⟨o0, o1, o2, o3⟩ := HC.out _ (Below.refl _ _)
  have ACC : Hid (Below w.heap.size w W1) := acc
  obtain ⟨ok, hok⟩ : ∃ b, okS u = b := ⟨_, rfl⟩
  have HO : Hid (okS u = ok) := hok
  have hK : ∀ W, SlW W u → Calls Tryz.prog 26 #[wvV u] W fun e' w' => e' = .returned (.bool ok) ∧ Below W.heap.size W w' := fun W h => by rw [← hok]; exact specWorldOk_any u W h hf
  have hU : ∀ W, SlW W u → Calls Tryz.prog 44 #[wvV u, .int .i64 cpu] W fun e' w' => e' = .returned (.bool (upAt u cpu)) ∧ Below W.heap.size W w' := fun W hW => l9Up_any cpu u W hW
  cases ok
  · have HR : Hid (pullS u cpu = -1) := by unfold Hid pullS; rw [hok]; rfl
    rw [hv] at hK ⊢
    clear hA hs hf e1 e2 e3 hv hok acc hU
    go_enter Tryz.func16, Tryz.ntmps16
    go_wp2_with (first | (go_at_call 26; refine (hK _ (HS.out.below ACC.out)).mono ?_; rintro e1 V1 ⟨rfl, hb1⟩; obtain ⟨o0, o1, o2, o3⟩ := HC.out _ hb1; have lv : w.heap.size < V1.heap.size := Nat.lt_of_lt_of_le lw hb1.size))
    refine bodyPost_ret (results_tmp2 rfl _ _ _) rfl ?_
    exact ⟨by rw [HR.out] <;> rfl, ACC.out.trans (hb1.mono ACC.out.size)⟩
  · rcases upAt_cases (u := u) (c := cpu) with hup | ⟨c, rfl, hc, hub⟩
    · have HR : Hid (pullS u cpu = -1) := by unfold Hid pullS; rw [hup, Bool.and_false]; rfl
      rw [hup, hv] at hU
      have HUP : Hid (∀ W, SlW W u → Calls Tryz.prog 44 #[.agg #[.int .i64 u.now, .slice p1 u.cs.length c1, .slice p2 u.ts.length c2, .slice p3 u.gs.length c3], .int .i64 cpu] W fun e' w' => e' = .returned (.bool false) ∧ Below W.heap.size W w') := hU
      rw [hv] at hK ⊢
      clear hA hs hf e1 e2 e3 hv hok acc hU hup
      go_enter Tryz.func16, Tryz.ntmps16
      go_wp2_with (first | (go_at_call 26; refine (hK _ (HS.out.below ACC.out)).mono ?_; rintro e1 V1 ⟨rfl, hb1⟩; obtain ⟨o0, o1, o2, o3⟩ := HC.out _ hb1; have lv : w.heap.size < V1.heap.size := Nat.lt_of_lt_of_le lw hb1.size) | (go_at_call 44; refine (HUP.out _ (HS.out.below (ACC.out.trans (hb1.mono ACC.out.size)))).mono ?_; rintro e2 V2 ⟨rfl, hb2⟩; have hbx := hb1.trans (hb2.mono hb1.size); obtain ⟨o0, o1, o2, o3⟩ := HC.out _ hbx; have lv2 : w.heap.size < V2.heap.size := Nat.lt_of_lt_of_le lw hbx.size))
      refine bodyPost_ret (results_tmp2 rfl _ _ _) rfl ?_
      exact ⟨by rw [HR.out] <;> rfl, ACC.out.trans (hbx.mono ACC.out.size)⟩
    · have hup := upAt_at hc hub
      rw [hup, hv] at hU
      have HUP : Hid (∀ W, SlW W u → Calls Tryz.prog 44 #[.agg #[.int .i64 u.now, .slice p1 u.cs.length c1, .slice p2 u.ts.length c2, .slice p3 u.gs.length c3], .int .i64 (c : Int)] W fun e' w' => e' = .returned (.bool true) ∧ Below W.heap.size W w') := hU
      have hP : ∀ W, SlW W u → Calls Tryz.prog 45 #[wvV u, .int .i64 (c : Int)] W fun e' w' => e' = .returned (.int .i64 (pullM u c)) ∧ Below W.heap.size W w' := fun W hW => l12Pull_any c u W hW hok hc
      have hR0 : pullS u (c : Int) = pullM u c := by unfold pullS; rw [hok, hup, Int.toNat_natCast]; rfl
      rw [hv] at hP hK ⊢
      clear hA hs hf e1 e2 e3 hv hok acc hU hup
      rcases pullM_range u c with hpm | ⟨t, hpm⟩
      · have HR : Hid (pullS u (c : Int) = -1) := by unfold Hid; rw [hR0, hpm]
        rw [hpm] at hP
        have HPL : Hid (∀ W, SlW W u → Calls Tryz.prog 45 #[.agg #[.int .i64 u.now, .slice p1 u.cs.length c1, .slice p2 u.ts.length c2, .slice p3 u.gs.length c3], .int .i64 (c : Int)] W fun e' w' => e' = .returned (.int .i64 (-1)) ∧ Below W.heap.size W w') := hP
        have hnn : (-1 : Int) < 0 := by omega
        clear hP hR0 hpm
        go_enter Tryz.func16, Tryz.ntmps16
        go_wp2_with (first | (go_at_call 26; refine (hK _ (HS.out.below ACC.out)).mono ?_; rintro e1 V1 ⟨rfl, hb1⟩; obtain ⟨o0, o1, o2, o3⟩ := HC.out _ hb1; have lv : w.heap.size < V1.heap.size := Nat.lt_of_lt_of_le lw hb1.size) | (go_at_call 44; refine (HUP.out _ (HS.out.below (ACC.out.trans (hb1.mono ACC.out.size)))).mono ?_; rintro e2 V2 ⟨rfl, hb2⟩; have hbx := hb1.trans (hb2.mono hb1.size); obtain ⟨o0, o1, o2, o3⟩ := HC.out _ hbx; have lv2 : w.heap.size < V2.heap.size := Nat.lt_of_lt_of_le lw hbx.size) | (go_at_call 45; refine (HPL.out _ (HS.out.below (ACC.out.trans (hbx.mono ACC.out.size)))).mono ?_; rintro e3 V3 ⟨rfl, hb3⟩))
        refine bodyPost_ret (results_tmp2 rfl _ _ _) rfl ?_
        exact ⟨by rw [HR.out] <;> rfl, ACC.out.trans ((hbx.trans (hb3.mono hbx.size)).mono ACC.out.size)⟩
      · have HR : Hid (pullS u (c : Int) = (t : Int)) := by unfold Hid; rw [hR0, hpm]
        rw [hpm] at hP
        have HPL : Hid (∀ W, SlW W u → Calls Tryz.prog 45 #[.agg #[.int .i64 u.now, .slice p1 u.cs.length c1, .slice p2 u.ts.length c2, .slice p3 u.gs.length c3], .int .i64 (c : Int)] W fun e' w' => e' = .returned (.int .i64 (t : Int)) ∧ Below W.heap.size W w') := hP
        have hnn : ¬ (t : Int) < 0 := by omega
        clear hP hR0 hpm
        go_enter Tryz.func16, Tryz.ntmps16
        go_wp2_with (first | (go_at_call 26; refine (hK _ (HS.out.below ACC.out)).mono ?_; rintro e1 V1 ⟨rfl, hb1⟩; obtain ⟨o0, o1, o2, o3⟩ := HC.out _ hb1; have lv : w.heap.size < V1.heap.size := Nat.lt_of_lt_of_le lw hb1.size) | (go_at_call 44; refine (HUP.out _ (HS.out.below (ACC.out.trans (hb1.mono ACC.out.size)))).mono ?_; rintro e2 V2 ⟨rfl, hb2⟩; have hbx := hb1.trans (hb2.mono hb1.size); obtain ⟨o0, o1, o2, o3⟩ := HC.out _ hbx; have lv2 : w.heap.size < V2.heap.size := Nat.lt_of_lt_of_le lw hbx.size) | (go_at_call 45; refine (HPL.out _ (HS.out.below (ACC.out.trans (hbx.mono ACC.out.size)))).mono ?_; rintro e3 V3 ⟨rfl, hb3⟩))
        refine bodyPost_ret (results_tmp2 rfl _ _ _) rfl ?_
        exact ⟨by rw [HR.out] <;> rw [encB_some] <;> rfl, ACC.out.trans ((hbx.trans (hb3.mono hbx.size)).mono ACC.out.size)⟩
theorem dryG_gsD (u : Wv) (c k : Nat) : dryG u c k = (((gsD u.gs)[k]?).any fun d => dryB d.ba c) := by
  unfold dryG gsD
  rw [List.getElem?_map]
  cases u.gs[k]? <;> rfl
theorem dryG_same {u v : Wv} (h : SameW u v) : dryG v = dryG u := by
  funext c k
  rw [dryG_gsD, dryG_gsD, h.gs]
theorem curAt_same {u v : Wv} (h : SameW u v) : curAt v = curAt u := by
  funext c; unfold curAt; rw [h.cs]
theorem couldB_same {u v : Wv} (h : SameW u v) : couldB v = couldB u := by
  funext c t
  unfold couldB
  rw [h.ts, h.gs, h.cs, dryG_same h, curAt_same h]
theorem giveB_same {u v : Wv} (h : SameW u v) : giveB v = giveB u := by
  funext c b
  unfold giveB giveTo
  rw [couldB_same h, h.ts]
theorem bestTo_same {u v : Wv} (h : SameW u v) (c : Nat) (m : Int) (k : Nat) : bestTo v c m k = bestTo u c m k := by
  induction k with
  | zero => rfl
  | succ k ih => rw [bestTo_succ, bestTo_succ, ih, giveB_same h, loadN_same h]
theorem bestM_same {u v : Wv} (h : SameW u v) : bestM v = bestM u := by
  funext c m
  unfold bestM
  rw [bestTo_same h, h.cs]
theorem takeM_same {u v : Wv} (h : SameW u v) : takeM v = takeM u := by
  funext b c
  unfold takeM
  have : takeB v b c = takeB u b c := by
    funext t
    unfold takeB fitsB niK
    rw [couldB_same h, loadN_same h, h.ts]
  rw [this, h.ts]
theorem pullM_same {u v : Wv} (h : SameW u v) : pullM v = pullM u := by
  funext c
  unfold pullM
  rw [h.cs]
  have : ∀ k, pullTo v c k = pullTo u c k := by
    intro k
    induction k with
    | zero => rfl
    | succ k ih =>
      unfold pullTo
      rw [ih]
      unfold pullAt
      rw [bestM_same h, takeM_same h, h.cs]
  exact this _
theorem upAt_same {u v : Wv} (h : SameW u v) : upAt v = upAt u := by
  funext c
  unfold upAt
  rw [h.cs]
theorem pullS_same {u v : Wv} (h : SameW u v) (c : Int) : pullS v c = pullS u c := by
  unfold pullS
  rw [okS_same h, upAt_same h, pullM_same h]
end Go.Proofs.YtnmmglkigiakaaaGreat
