/- The contract of the program's own text of a set of processors. -/
import Derived.Test.YtjfkonikcnlpjaaDoorX
import Derived.Test.YtjfkonikcnlpjaaDoorG2
import Derived.RangeFuncBox
import Derived.Maps.AppendAt
import Derived.Lib.SmallJoins
namespace Go.Proofs.YtjfkonikcnlpjaaDoor
open Go.ChangeShapes Go.WideShapes Go.ChangeAt Go.RowKit Go.Shelf
attribute [local go_sem] Oper.semAt_some

/-- a processor that is in the set. -/
abbrev In (m : Int) := { x : Fin 4 // hasB m (x.val : Int) = true }
def cpusF (m : Int) : Nat → List (In m)
  | 0 => []
  | k + 1 => cpusF m k ++ (if h : k < 4 ∧ hasB m (k : Int) = true then [⟨⟨k, h.1⟩, h.2⟩] else [])
theorem cpusF_yes {m : Int} {k : Nat} (h : k < 4) (hh : hasB m (k : Int) = true) : cpusF m (k + 1) = cpusF m k ++ [⟨⟨k, h⟩, hh⟩] := by
  show cpusF m k ++ _ = _
  rw [dif_pos ⟨h, hh⟩]
theorem cpusF_no {m : Int} {k : Nat} (hh : ¬ hasB m (k : Int) = true) : cpusF m (k + 1) = cpusF m k := by
  show cpusF m k ++ _ = _
  rw [dif_neg (fun h => hh h.2), List.append_nil]
theorem cpusF_len (m : Int) (k : Nat) : (cpusF m k).length ≤ k := by
  induction k with
  | zero => exact Nat.le_refl _
  | succ k ih =>
    show (cpusF m k ++ _).length ≤ _
    rw [List.length_append]
    split <;> simp <;> omega
theorem cpusF_pre (m : Int) (k : Nat) (h : k ≤ 4) : cpusF m k <+: cpusF m 4 := by
  have : ∀ d, cpusF m k <+: cpusF m (k + d) := by
    intro d
    induction d with
    | zero => exact List.prefix_refl _
    | succ d ih => exact ih.trans (List.prefix_append _ _)
  have h2 := this (4 - k)
  rwa [show k + (4 - k) = 4 by omega] at h2

set_option maxRecDepth 100000 in
set_option maxHeartbeats 2000000 in
theorem members1F_in (n : Nat) (hn : 1 ≤ n) (l Bn : Nat) (m : Int) (h1 : 0 ≤ m) (h2 : m ≤ 15) (J Jx : List (In m) → World → Prop)
    (hY : ∀ pre x W, J pre W → pre.length < 4 → YieldAt Fence.wide (n - 1) Tryd.prog l #[.int .i64 (x.1.val : Int)] W fun e W' =>
      (e = .returned (.bool true) ∧ J (pre ++ [x]) W' ∧ KeepsBox Bn m W W') ∨ (e = .returned (.bool false) ∧ Jx (pre ++ [x]) W'))
    (W : World) (hBn : W.cell? ⟨Bn, 0, none⟩ = some (.int .i64 m)) (h0 : J [] W) :
    CallsIn Fence.wide n Tryd.prog 32 #[.func (.yield l) #[] #[], .pointer (some ⟨Bn, 0, none⟩)] W fun e W' => (∃ v, e = .returned v) ∧
      ((∃ ys, ys = cpusF m 4 ∧ J ys W') ∨ (∃ pre, pre <+: cpusF m 4 ∧ Jx pre W')) := by
  refine callsIn_of_wp Tryd.func32 rfl trivial ?_ rfl
  simp only [Tryd.ntmps32, List.size_toArray, List.length_cons, List.length_nil, Nat.reduceAdd, Nat.reduceSub, Array.replicate_succ, Array.replicate_zero, List.push_toArray, List.append_toArray, List.nil_append, List.cons_append]
  gi_wp2
  gi_loopw [4] (fun i wr => ∃ k : Nat, k ≤ 4 ∧ i = .int .i64 k ∧ wr.cell? ⟨Bn, 0, none⟩ = some (.int .i64 m) ∧ J (cpusF m k) wr)
    (fun i _ => 4 - (intOf i).toNat)
  case atStart => exact ⟨0, by omega, rfl, hBn, h0⟩
  case round =>
    obtain ⟨k, hk, rfl, hc, hJ⟩ := hrel
    by_cases hlt : k < 4
    · have hlen := cpusF_len m k
      by_cases hh : hasB m k = true
      · obtain ⟨fn, tmps, assign, body, hy, hR⟩ := hY (cpusF m k) ⟨⟨k, hlt⟩, hh⟩ wr hJ (by omega)
        gi_wp2_with (refine ⟨trivial, ?_⟩; gi_at_call 26; refine (callsIn_wide.2 (set_has _ _ _ h1 h2)).mono ?_; rintro e w1 ⟨rfl, rfl⟩)
        refine hR.mono ?_
        rintro e W3 (⟨rfl, hJ3, hk3⟩ | ⟨rfl, hJx3⟩)
        · have hc3 := hk3 hc
          gi_wp2
          go_roundw
          case rel => exact ⟨k + 1, by omega, by go_num, hc3, by rw [cpusF_yes hlt hh]; exact hJ3⟩
          case measure => simp [intOf]; omega
        · have hp : cpusF m k ++ [⟨⟨k, hlt⟩, hh⟩] <+: cpusF m 4 := by
            have := cpusF_pre m (k + 1) (by omega)
            rwa [cpusF_yes hlt hh] at this
          gi_wp2
          refine bodyPost_ret (results_none rfl _ _ _) rfl ?_
          exact ⟨⟨_, rfl⟩, .inr ⟨_, hp, hJx3⟩⟩
      · have hf : hasB m k = false := by simpa using hh
        gi_wp2_with (refine ⟨trivial, ?_⟩; gi_at_call 26; refine (callsIn_wide.2 (set_has _ _ _ h1 h2)).mono ?_; rintro e w1 ⟨rfl, rfl⟩)
        refine ⟨fun _ h => (by cases h), ?_⟩
        gi_wp2
        go_roundw
        case rel => exact ⟨k + 1, by omega, by go_num, hc, by rw [cpusF_no hh]; exact hJ⟩
        case measure => simp [intOf]; omega
    · have : k = 4 := by omega
      subst this
      gi_wp2
      go_end0
      exact ⟨⟨_, rfl⟩, .inl ⟨_, rfl, hJ⟩⟩


theorem members1F_stops (n : Nat) (hn : 1 ≤ n) (Bn : Nat) (m : Int) (h1 : 0 ≤ m) (h2 : m ≤ 15) (w : World) (hBn : Bn < w.heap.size) (hc : w.cell? ⟨Bn, 0, none⟩ = some (.int .i64 m)) :
    SeqStopsK Fence.wide n Tryd.prog 32 #[.pointer (some ⟨Bn, 0, none⟩)] (fun x : In m => #[Value.int .i64 (x.1.val : Int)]) (KeepsBox Bn m) (fun ys => ys = cpusF m 4) (fun pre => pre <+: cpusF m 4) 4 w := fun l J Jx W hW _ _ hY h0 =>
  members1F_in n hn l Bn m h1 h2 J Jx hY W ((hW.cell (p := ⟨Bn, 0, none⟩) hBn).trans hc) h0

theorem info9 : (Tryd.prog.info? 9).map (fun i => (i.zero, i.size, i.bytes)) = some (some (.string ⟨#[]⟩), 1, 16) := by kernel_rfl
theorem runL_fin : ∀ m : Fin 16, ∀ x : Fin 4, hasB (m.val : Int) (x.val : Int) = true → (x.val : Int) ≤ runL (m.val : Int) (x.val : Int) ∧ runL (m.val : Int) (x.val : Int) ≤ 3 := by decide +kernel
theorem runL_in {m : Int} (h1 : 0 ≤ m) (h2 : m ≤ 15) (x : In m) : (x.1.val : Int) ≤ runL m (x.1.val : Int) ∧ runL m (x.1.val : Int) ≤ 3 := by
  obtain ⟨y, rfl⟩ := Int.eq_ofNat_of_zero_le h1
  exact runL_fin ⟨y, by omega⟩ x.1 x.2
def runOf (m : Int) (x : In m) : ByteArray := runTxt x.1.val (runL m (x.1.val : Int)).toNat
def runsOf (m : Int) (pre : List (In m)) : List ByteArray := (pre.filter (fun x => !hasB m ((x.1.val : Int) - 1))).map (runOf m)
theorem runsOf_hit {m : Int} (pre : List (In m)) {x : In m} (h : hasB m ((x.1.val : Int) - 1) = false) : runsOf m (pre ++ [x]) = runsOf m pre ++ [runOf m x] := by
  simp [runsOf, h]
theorem runsOf_miss {m : Int} (pre : List (In m)) {x : In m} (h : hasB m ((x.1.val : Int) - 1) = true) : runsOf m (pre ++ [x]) = runsOf m pre := by
  simp [runsOf, h]
theorem runsOf_len (m : Int) (pre : List (In m)) : (runsOf m pre).length ≤ pre.length := by
  unfold runsOf; rw [List.length_map]; exact List.length_filter_le _ _

theorem grown_of_below {W W' : World} (h : Below W.heap.size W W') : W.grownBy W' none := ⟨h.os, h.tape, h.output, h.size, fun k hk _ => h.block k hk⟩
theorem boxed_below {W W' : World} {B : Nat} {t : TypeId} {v : Value} (h : Boxed W B t v) (hb : Below W.heap.size W W') : Boxed W' B t v := (hb.block B h.lt).trans h
theorem others_below {W W' : World} (h : Below W.heap.size W W') : KeepsOthers W W' := KeepsOthers.of_grownBy (grown_of_below h) (fun j o e _ => by cases e)
theorem owns_below {W W' : World} {base : Nat} {e : TypeId} {size : Nat} {v : Value} {n : Nat} {xs : List Value} (h : W.ownsRow base e size v n xs) (hb : Below W.heap.size W W') : W'.ownsRow base e size v n xs :=
  h.kept (grown_of_below hb) (by cases v.ownBlock <;> simp)
theorem others_append {W W' : World} {base : Nat} {e : TypeId} {size : Nat} {v : Value} {n : Nat} {xs : List Value} (h : W.ownsRow base e size v n xs) (hg : W.grownBy W' v.ownBlock) : KeepsOthers W W' := by
  refine KeepsOthers.of_grownBy hg fun j o ej hj => ?_
  rcases h.2 with ⟨rfl, _⟩ | ⟨g, cap, cur, rfl, _, hgb, _⟩
  · simp [Value.ownBlock] at ej
  · obtain rfl : g = j := by simpa [Value.ownBlock] using ej
    rw [hgb] at hj; cases hj; rfl
theorem below_append {W W' : World} {base : Nat} {e : TypeId} {size : Nat} {v : Value} {n : Nat} {xs : List Value} (h : W.ownsRow base e size v n xs) (hg : W.grownBy W' v.ownBlock) (hb : base ≤ W.heap.size) : Below base W W' := by
  refine (Below.refl base W).grown hg hb fun j ej => ?_
  rcases h.2 with ⟨rfl, _⟩ | ⟨g, cap, cur, rfl, hb', _, _⟩
  · simp [Value.ownBlock] at ej
  · obtain rfl : g = j := by simpa [Value.ownBlock] using ej
    exact hb'
theorem join_fin : ∀ m : Fin 16, (⟨(Lib.join ((runsOf (m.val : Int) (cpusF (m.val : Int) 4)).map (·.data.toList)) [44]).toArray⟩ : ByteArray) = stx (m.val : Int) 4 ∧ (Lib.join ((runsOf (m.val : Int) (cpusF (m.val : Int) 4)).map (·.data.toList)) [44]).length ≤ 100 := by decide +kernel
theorem join_eq {m : Int} (h1 : 0 ≤ m) (h2 : m ≤ 15) : (⟨(Lib.join ((runsOf m (cpusF m 4)).map (·.data.toList)) [44]).toArray⟩ : ByteArray) = stx m 4 ∧ (Lib.join ((runsOf m (cpusF m 4)).map (·.data.toList)) [44]).length ≤ 100 := by
  obtain ⟨y, rfl⟩ := Int.eq_ofNat_of_zero_le h1
  exact join_fin ⟨y, by omega⟩

set_option maxRecDepth 100000 in
set_option maxHeartbeats 4000000 in
theorem set_text (m : Int) (w : World) (hm1 : 0 ≤ m) (hm2 : m ≤ 15) : Calls Tryd.prog 23 #[.int .i64 m] w fun e W' => e = .returned (.string ⟨(Lib.join ((runsOf m (cpusF m 4)).map (·.data.toList)) [44]).toArray⟩) ∧ Below w.heap.size w W' := by
  refine (callsIn_wide (n := 6)).1 ?_
  obtain ⟨i0, hi, hz0, hz1, hz2⟩ := info_parts info9
  refine callsIn_of_wp_marks Tryd.func23 rfl trivial ?_ rfl
  simp only [Tryd.ntmps23, List.size_toArray, List.length_cons, List.length_nil, Nat.reduceAdd, Nat.reduceSub, Array.replicate_succ, Array.replicate_zero, List.push_toArray, List.append_toArray, List.nil_append, List.cons_append]
  gi_wp2_with (refine ⟨trivial, ?_⟩; gi_at_call 28; refine (callsIn_wide.2 (members_any _ _)).mono ?_; rintro e w' ⟨rfl, rfl⟩)
  have bS := Boxed.new w 38 (.int .i64 m)
  have bR := Boxed.new (w.alloc (.cells #[.int .i64 m] 38)) 42 (.slice none 0 0)
  have bM := Boxed.new ((w.alloc (.cells #[.int .i64 m] 38)).alloc (.cells #[.slice none 0 0] 42)) 38 (.int .i64 m)
  simp only [World.size_alloc] at bR bM
  have hB0 : Below w.heap.size w (((w.alloc (.cells #[.int .i64 m] 38)).alloc (.cells #[.slice none 0 0] 42)).alloc (.cells #[.int .i64 m] 38)) := (((Below.refl _ w).alloc (Nat.le_refl _) _).alloc (by simp) _).alloc (by simp; omega) _
  refine wpIn_rangeFunc_ownG rfl (by decide) (gf := 32) (lb := #[.pointer (some ⟨w.heap.size + 1 + 1, 0, none⟩)]) rfl trivial (enters_of Tryd.func32 (by kernel_rfl) rfl)
    (members1F_stops 5 (by omega) (w.heap.size + 1 + 1) m hm1 hm2 _ (by simp) bM.cell) keepsBox_t keepsBox_b (Below.refl _ _) (fun _ => rfl)
    (fun pre W => (∃ v, Boxed W (w.heap.size + 1) 42 v ∧ W.ownsRow w.heap.size 9 1 v (runsOf m pre).length ((runsOf m pre).map Value.string) ∧ True) ∧ Boxed W w.heap.size 38 (.int .i64 m) ∧ Boxed W (w.heap.size + 1 + 1) 38 (.int .i64 m) ∧ Below w.heap.size w W)
    (fun _ _ _ => False)
    (OwnFrom.and (Own.from (holdsRow_own w.heap.size (w.heap.size + 1) 42 9 1 (fun pre => (runsOf m pre).length) (fun pre => (runsOf m pre).map Value.string) (fun _ _ => True)) _) (OwnFrom.and (Own.from (boxed_own _ _ _) _) (OwnFrom.and (Own.from (boxed_own _ _ _) _) (ownFrom_below (Nat.le_refl _) (by simp; omega)))))
    (fun _ _ _ _ _ hs _ _ => hs)
    ⟨⟨_, bR.alloc _, World.ownsRow_nil _ _ _ _, trivial⟩, (bS.alloc _).alloc _, bM, hB0⟩
    (fun x => { tmps := #[.int .i64 m, .pointer (some ⟨w.heap.size, 0, none⟩), .string ⟨#[]⟩, .pointer (some ⟨w.heap.size + 1, 0, none⟩), .int .i64 (x.1.val : Int), .int .i64 m, .func (.func 32) #[] #[.pointer (some ⟨w.heap.size + 1 + 1, 0, none⟩)], .int .i64 (x.1.val : Int), undef, undef, undef, undef, undef, undef, undef, undef, undef, undef, undef, undef, undef, undef, undef], defers := [] }) ?assign ?body ?done ?stop
  case assign =>
    intro l x W K hK
    gi_wp2
    first | exact hK | simpa using hK
  case body =>
    rintro l pre x W ⟨⟨v, hv, hrow, _⟩, hS, hM, hB⟩ hlt
    have hcS := hS.cell
    have hx0 : (0 : Int) ≤ (x.1.val : Int) := by omega
    have hx4 : (x.1.val : Int) < 4 := by have := x.1.isLt; omega
    by_cases hh : hasB m ((x.1.val : Int) - 1) = true
    · gi_wp2_with (refine ⟨trivial, ?_⟩; gi_at_call 26; refine (CallsIn.inRound l (callsIn_wide.2 (set_has _ _ _ hm1 hm2))).mono ?_; rintro e w1 ⟨rfl, rfl⟩)
      exact ⟨KeepsFrom.refl _ _, fun h => h, ⟨v, hv, by rw [runsOf_miss pre hh]; exact hrow, trivial⟩, hS, hM, hB⟩
    · have hf : hasB m ((x.1.val : Int) - 1) = false := by simpa using hh
      gi_wp2_with (refine ⟨trivial, ?_⟩; gi_at_call 26; refine (CallsIn.inRound l (callsIn_wide.2 (set_has _ _ _ hm1 hm2))).mono ?_; rintro e w1 ⟨rfl, rfl⟩)
      have hL := runL_in hm1 hm2 x
      obtain ⟨c, hc⟩ : ∃ c : Nat, runL m (x.1.val : Int) = (c : Int) := ⟨(runL m (x.1.val : Int)).toNat, by omega⟩
      have hc4 : c < 4 := by omega
      have hro : runOf m x = runTxt x.1.val c := by unfold runOf; rw [hc, Int.toNat_natCast]
      have hplen := runsOf_len m pre
      refine region_invIn (by kernel_rfl) (by kernel_rfl) (fun L a y => ∃ s13 s14 s15 s16 s17 s18 s19 s20 : Value,
        a = { tmps := #[.int .i64 m, .pointer (some ⟨w.heap.size, 0, none⟩), .string ⟨#[]⟩, .pointer (some ⟨w.heap.size + 1, 0, none⟩), .int .i64 (x.1.val : Int), .int .i64 m, .func (.func 32) #[] #[.pointer (some ⟨w.heap.size + 1 + 1, 0, none⟩)], .int .i64 (x.1.val : Int), .int .i64 m, .int .i64 (x.1.val : Int), .int .i64 ((x.1.val : Int) - 1), .bool false, .bool true, s13, s14, s15, s16, s17, s18, s19, s20, undef, undef], defers := [] } ∧
        (Boxed y w.heap.size 38 (.int .i64 m) ∧ Boxed y (w.heap.size + 1 + 1) 38 (.int .i64 m) ∧ KeepsOthers w1 y ∧ Below w.heap.size w1 y) ∧
        (L 7 = false → Boxed y (w.heap.size + 1) 42 v ∧ y.ownsRow w.heap.size 9 1 v (runsOf m pre).length ((runsOf m pre).map Value.string)) ∧
        (L 7 = true → L 8 = false → Boxed y (w.heap.size + 1) 42 v ∧ y.ownsRow w.heap.size 9 1 s20 ((runsOf m pre).length + 1) ((runsOf m pre).map Value.string ++ [.string (runTxt x.1.val c)]) ∧ ∃ g cap, s20 = .slice (some ⟨g, 0, none⟩) ((runsOf m pre).length + 1) cap) ∧
        (L 8 = true → Boxed y (w.heap.size + 1) 42 s20 ∧ y.ownsRow w.heap.size 9 1 s20 ((runsOf m pre).length + 1) ((runsOf m pre).map Value.string ++ [.string (runTxt x.1.val c)])) ∧
        (L 7 = true → L 0 = true ∧ L 1 = true ∧ L 2 = true ∧ L 3 = true ∧ L 4 = true ∧ L 5 = true ∧ L 6 = true) ∧ (L 8 = true → L 7 = true) ∧ (L 6 = true → L 5 = true) ∧ (L 5 = true → L 4 = true ∧ L 1 = true) ∧ (L 4 = true → L 2 = true ∧ L 3 = true) ∧
        (L 0 = true → s13 = v) ∧ (L 1 = true → s14 = .int .i64 (x.1.val : Int)) ∧ (L 2 = true → s15 = .int .i64 m) ∧ (L 3 = true → s16 = .int .i64 (x.1.val : Int)) ∧ (L 4 = true → s17 = .int .i64 (c : Int)) ∧ (L 5 = true → s18 = .string (runTxt x.1.val c)) ∧
        (L 6 = true → ∃ g, s19 = .slice (some ⟨g, 0, none⟩) 1 1 ∧ (L 7 = false → y.heap[g]? = some (.cells #[.string (runTxt x.1.val c)] 9 (0, 0))))) ?rh0 ?rstep ?rdone
      case rh0 => exact ⟨_, _, _, _, _, _, _, _, rfl, ⟨hS, hM, KeepsOthers.drew _, (Below.refl _ _).drew⟩, (fun _ => ⟨hv, hrow⟩), (fun h => by cases h), (fun h => by cases h), (fun h => by cases h), (fun h => by cases h), (fun h => by cases h), (fun h => by cases h), (fun h => by cases h), (fun h => by cases h), (fun h => by cases h), (fun h => by cases h), (fun h => by cases h), (fun h => by cases h), (fun h => by cases h), (fun h => by cases h)⟩
      case rstep =>
        rintro i o ho L a y ⟨s13, s14, s15, s16, s17, s18, s19, s20, rfl, ⟨kS, kM, kO, kB⟩, p0, p1, p2, q7, q8, q6, q5, q4, f0, f1, f2, f3, f4, f5, f6⟩ hL' hpre K hK
        have hi' : i = 0 ∨ i = 1 ∨ i = 2 ∨ i = 3 ∨ i = 4 ∨ i = 5 ∨ i = 6 ∨ i = 7 ∨ i = 8 := by
          have : i < 9 := by
            rcases Nat.lt_or_ge i 9 with h' | h'
            · exact h'
            · rw [Array.getElem?_eq_none (by simpa using h')] at ho; cases ho
          omega
        rcases hi' with rfl | rfl | rfl | rfl | rfl | rfl | rfl | rfl | rfl
        all_goals (obtain rfl := Option.some.inj ho; clear ho; simp [Region.binds] at hpre)
        · have n7 : L 7 = false := by
            cases h : L 7
            · rfl
            · rw [(q7 h).1] at hL'; cases hL'
          obtain ⟨bv, br⟩ := p0 n7
          have hcv := bv.cell
          go_simp
          exact hK _ _ ⟨_, _, _, _, _, _, _, _, rfl, ⟨kS, kM, kO, kB⟩, (fun h => p0 h), (fun h _ => by cases n7.symm.trans h), (fun h => by cases n7.symm.trans (q8 h)), (fun h => by cases n7.symm.trans h), (fun h => q8 h), (fun h => q6 h), (fun h => q5 h), (fun h => q4 h), (fun _ => rfl), (fun h => by first | rfl | exact f1 h), (fun h => by first | rfl | exact f2 h), (fun h => by first | rfl | exact f3 h), (fun h => by first | rfl | exact f4 h), (fun h => by first | rfl | exact f5 h), (fun h => f6 h)⟩
        · have n7 : L 7 = false := by
            cases h : L 7
            · rfl
            · rw [(q7 h).2.1] at hL'; cases hL'
          go_simp
          exact hK _ _ ⟨_, _, _, _, _, _, _, _, rfl, ⟨kS, kM, kO, kB⟩, (fun h => p0 h), (fun h _ => by cases n7.symm.trans h), (fun h => by cases n7.symm.trans (q8 h)), (fun h => by cases n7.symm.trans h), (fun h => q8 h), (fun h => q6 h), (fun h => ⟨(q5 h).1, rfl⟩), (fun h => q4 h), (fun h => by first | rfl | exact f0 h), (fun _ => rfl), (fun h => by first | rfl | exact f2 h), (fun h => by first | rfl | exact f3 h), (fun h => by first | rfl | exact f4 h), (fun h => by first | rfl | exact f5 h), (fun h => f6 h)⟩
        · have n7 : L 7 = false := by
            cases h : L 7
            · rfl
            · rw [(q7 h).2.2.1] at hL'; cases hL'
          have hcs := kS.cell
          go_simp
          exact hK _ _ ⟨_, _, _, _, _, _, _, _, rfl, ⟨kS, kM, kO, kB⟩, (fun h => p0 h), (fun h _ => by cases n7.symm.trans h), (fun h => by cases n7.symm.trans (q8 h)), (fun h => by cases n7.symm.trans h), (fun h => q8 h), (fun h => q6 h), (fun h => q5 h), (fun h => ⟨rfl, (q4 h).2⟩), (fun h => by first | rfl | exact f0 h), (fun h => by first | rfl | exact f1 h), (fun _ => rfl), (fun h => by first | rfl | exact f3 h), (fun h => by first | rfl | exact f4 h), (fun h => by first | rfl | exact f5 h), (fun h => f6 h)⟩
        · have n7 : L 7 = false := by
            cases h : L 7
            · rfl
            · rw [(q7 h).2.2.2.1] at hL'; cases hL'
          go_simp
          exact hK _ _ ⟨_, _, _, _, _, _, _, _, rfl, ⟨kS, kM, kO, kB⟩, (fun h => p0 h), (fun h _ => by cases n7.symm.trans h), (fun h => by cases n7.symm.trans (q8 h)), (fun h => by cases n7.symm.trans h), (fun h => q8 h), (fun h => q6 h), (fun h => q5 h), (fun h => ⟨(q4 h).1, rfl⟩), (fun h => by first | rfl | exact f0 h), (fun h => by first | rfl | exact f1 h), (fun h => by first | rfl | exact f2 h), (fun _ => rfl), (fun h => by first | rfl | exact f4 h), (fun h => by first | rfl | exact f5 h), (fun h => f6 h)⟩
        · have n7 : L 7 = false := by
            cases h : L 7
            · rfl
            · rw [(q7 h).2.2.2.2.1] at hL'; cases hL'
          obtain rfl := f2 hpre.1
          obtain rfl := f3 hpre.2
          obtain ⟨bv, br⟩ := p0 n7
          go_simp
          refine ⟨trivial, (CallsIn.inRound l (callsIn_wide.2 (set_runLast _ _ _ hm1 hm2))).mono ?_⟩
          rintro e y2 ⟨rfl, hb⟩
          dsimp only
          rw [hc]
          exact hK _ _ ⟨_, _, _, _, _, _, _, _, rfl, ⟨boxed_below kS hb, boxed_below kM hb, kO.trans (others_below hb), kB.trans (hb.mono (Nat.le_trans hB.size kB.size))⟩, (fun _ => ⟨boxed_below bv hb, owns_below br hb⟩), (fun h _ => by cases n7.symm.trans h), (fun h => by cases n7.symm.trans (q8 h)), (fun h => by cases n7.symm.trans h), (fun h => q8 h), (fun h => q6 h), (fun h => ⟨rfl, (q5 h).2⟩), (fun _ => hpre), (fun h => by first | rfl | exact f0 h), (fun h => by first | rfl | exact f1 h), (fun h => by first | rfl | exact f2 h), (fun h => by first | rfl | exact f3 h), (fun _ => rfl), (fun h => by first | rfl | exact f5 h), (fun h => by have h' := (q5 (q6 h)).1; rw [h'] at hL'; cases hL')⟩
        · have n7 : L 7 = false := by
            cases h : L 7
            · rfl
            · rw [(q7 h).2.2.2.2.2.1] at hL'; cases hL'
          obtain rfl := f1 hpre.1
          obtain rfl := f4 hpre.2
          go_simp
          refine ⟨trivial, (CallsIn.inRound l (callsIn_wide.2 (runText_any x.1.val c _ x.1.isLt hc4))).mono ?_⟩
          rintro e y2 ⟨rfl, rfl⟩
          dsimp only
          exact hK _ _ ⟨_, _, _, _, _, _, _, _, rfl, ⟨kS, kM, kO, kB⟩, (fun h => p0 h), (fun h _ => by cases n7.symm.trans h), (fun h => by cases n7.symm.trans (q8 h)), (fun h => by cases n7.symm.trans h), (fun h => q8 h), (fun _ => rfl), (fun _ => ⟨hpre.2, hpre.1⟩), (fun h => q4 h), (fun h => by first | rfl | exact f0 h), (fun h => by first | rfl | exact f1 h), (fun h => by first | rfl | exact f2 h), (fun h => by first | rfl | exact f3 h), (fun h => by first | rfl | exact f4 h), (fun _ => rfl), (fun h => f6 h)⟩
        · have n7 : L 7 = false := by
            cases h : L 7
            · rfl
            · rw [(q7 h).2.2.2.2.2.2] at hL'; cases hL'
          obtain rfl := f5 hpre
          obtain ⟨bv, br⟩ := p0 n7
          go_simp
          exact hK _ _ ⟨_, _, _, _, _, _, _, _, rfl, ⟨kS.alloc _, kM.alloc _, kO.trans (KeepsOthers.alloc _ _), kB.alloc (Nat.le_trans hB.size kB.size) _⟩, (fun _ => ⟨bv.alloc _, br.alloc _⟩), (fun h _ => by cases n7.symm.trans h), (fun h => by cases n7.symm.trans (q8 h)), (fun h => by cases n7.symm.trans h), (fun h => q8 h), (fun _ => hpre), (fun h => q5 h), (fun h => q4 h), (fun h => by first | rfl | exact f0 h), (fun h => by first | rfl | exact f1 h), (fun h => by first | rfl | exact f2 h), (fun h => by first | rfl | exact f3 h), (fun h => by first | rfl | exact f4 h), (fun h => by first | rfl | exact f5 h), (fun _ => ⟨_, rfl, fun _ => heap_alloc_new _ _⟩)⟩
        · have n7 : L 7 = false := hL'
          have n8 : L 8 = false := by
            cases h : L 8
            · rfl
            · rw [q8 h] at hL'; cases hL'
          obtain ⟨bv, br⟩ := p0 n7
          obtain rfl := f0 hpre.1
          obtain ⟨g, rfl, hg⟩ := f6 hpre.2.1
          have hgc := hg n7
          have hcell : ∀ (j : Nat) (u : Value), ([.string (runTxt x.1.val c)] : List Value)[j]? = some u → y.cell? ((⟨g, 0, none⟩ : Addr).add j) = some u := by
            intro j u hu
            have hj : j = 0 := by
              rcases j with _ | j
              · rfl
              · simp at hu
            subst hj
            have ea : (⟨g, 0, none⟩ : Addr).add 0 = ⟨g, 0, none⟩ := by unfold Addr.add; split <;> simp_all
            rw [ea, cell_of_row _ _ 0 _ _ _ hgc]
            exact hu
          rw [if_pos (by rfl)]
          refine wpIn_append y _ _ 42 rfl w.heap.size 9 i0 (.string ⟨#[]⟩) 1 16 Tryd.underlying42 hi hz0 hz1 hz2 rfl (by decide) s13 _ _ rfl br ⟨g, 0, none⟩ 1 1 [.string (runTxt x.1.val c)] rfl rfl hcell (by simp [Value.oneCell']) ?_ ?_ (Nat.le_trans hB.size kB.size) ?_
          · unfold maxLen; omega
          · omega
          · intro v2 y2 hown hgrow
            obtain ⟨g2, cap2, rfl⟩ := ownsRow_succ hown
            exact hK _ _ ⟨_, _, _, _, _, _, _, _, rfl, ⟨kS.kept hgrow (kS.not_row (by decide) br), kM.kept hgrow (kM.not_row (by decide) br), kO.trans (others_append br hgrow), kB.trans (below_append br hgrow (Nat.le_trans hB.size kB.size))⟩, (fun h => by cases h), (fun _ _ => ⟨bv.kept hgrow (bv.not_row (by decide) br), hown, _, _, rfl⟩), (fun h => by cases n8.symm.trans h), (fun _ => ⟨hpre.1, (q5 hpre.2.2).2, (q4 (q5 hpre.2.2).1).1, (q4 (q5 hpre.2.2).1).2, (q5 hpre.2.2).1, hpre.2.2, hpre.2.1⟩), (fun _ => rfl), (fun h => q6 h), (fun h => q5 h), (fun h => q4 h), (fun h => by first | rfl | exact f0 h), (fun h => by first | rfl | exact f1 h), (fun h => by first | rfl | exact f2 h), (fun h => by first | rfl | exact f3 h), (fun h => by first | rfl | exact f4 h), (fun h => by first | rfl | exact f5 h), (fun _ => ⟨g, rfl, fun h => by cases h⟩)⟩
        · have h7 : L 7 = true := hpre.1
          obtain ⟨bv, br, g2, cap2, rfl⟩ := p1 h7 hL'
          have hcv := bv.cell
          have hfv := bv.frozen
          go_simp
          exact hK _ _ ⟨_, _, _, _, _, _, _, _, rfl, ⟨kS.other (by omega) _, kM.other (by omega) _, kO.trans (KeepsOthers.setCell _ _ _), kB.setCell (p := ⟨w.heap.size + 1, 0, none⟩) (by simp) _⟩, (fun h => by cases h7.symm.trans h), (fun _ h => by cases h), (fun _ => ⟨bv.set _, br.kept (grownBy_setCell' _ _ _) (.inr (bv.not_row (by decide) br).symm)⟩), (fun h => q7 h), (fun _ => h7), (fun h => q6 h), (fun h => q5 h), (fun h => q4 h), (fun h => by first | rfl | exact f0 h), (fun h => by first | rfl | exact f1 h), (fun h => by first | rfl | exact f2 h), (fun h => by first | rfl | exact f3 h), (fun h => by first | rfl | exact f4 h), (fun h => by first | rfl | exact f5 h), (fun h => by obtain ⟨g, e1, e2⟩ := f6 h; exact ⟨g, e1, fun h' => by cases h7.symm.trans h'⟩)⟩
      case rdone =>
        rintro L a y hall ⟨s13, s14, s15, s16, s17, s18, s19, s20, rfl, ⟨kS, kM, kO, kB⟩, p0, p1, p2, q7, q8, q6, q5, q4, f0, f1, f2, f3, f4, f5, f6⟩
        obtain ⟨bv, br⟩ := p2 (hall 8 (by decide))
        clear p0 p1 p2 q7 q8 q6 q5 q4 f0 f1 f2 f3 f4 f5 f6 hall
        gi_wp2
        refine ⟨kO.from _, fun _ => kM.cell, ⟨s20, bv, ?_, trivial⟩, kS, kM, hB.trans kB⟩
        rw [runsOf_hit pre hf, hro, List.length_append, List.map_append]
        exact br
  case done =>
    rintro D ys W hD rfl ⟨⟨v, hv, hrow, _⟩, hS, hM, hB⟩ hK
    have hcv := hv.cell
    have hj := (join_eq hm1 hm2).2
    rcases Go.Joins.ownsRow_forms hrow with ⟨rfl, h0⟩ | ⟨g, cap, rfl⟩
    · have hr0 : runsOf m (cpusF m 4) = [] := List.length_eq_zero_iff.1 h0
      gi_wp2_with (refine ⟨trivial, ?_⟩; gi_at_call 31; refine (callsIn_wide.2 (Tryd.strings_Join_none _ _ _ _)).mono ?_; rintro e w' ⟨rfl, rfl⟩)
      refine ⟨by simp, .inl ⟨_, _, rfl, run_takeDeferred hK, ?_⟩⟩
      exact ⟨_, results_tmp rfl _ _ _, by rw [hr0]; rfl, hB.trans (belowK_b (w := w) (Nat.le_refl _) _ D _ _ (by simp at hD; omega) hK rfl rfl)⟩
    · have hgl : g < W.heap.size := (hrow.lt g rfl).2
      have hcap : (runsOf m (cpusF m 4)).length ≤ cap := by
        rcases hrow.2 with ⟨e, _⟩ | ⟨g', cap', cur, e, _, _, h5, _⟩
        · cases e
        · cases e; exact h5
      have hcl : ∀ (j : Nat) x, (runsOf m (cpusF m 4))[j]? = some x → W.cell? ⟨g, 0 + j, none⟩ = some (.string x) := by
        intro j x hx
        have h6 := hrow.cells rfl j (.string x) (by rw [List.getElem?_map, hx]; rfl)
        have ea : (⟨g, 0, none⟩ : Addr).add j = ⟨g, 0 + j, none⟩ := by unfold Addr.add; split <;> simp_all
        rwa [ea] at h6
      have hn : (runsOf m (cpusF m 4)).length ≤ 140737488355328 := by
        have := runsOf_len m (cpusF m 4)
        have := cpusF_len m 4
        omega
      have hjl : (Lib.join ((runsOf m (cpusF m 4)).map (·.data.toList)) (⟨#[44]⟩ : ByteArray).data.toList).length ≤ 140737488355328 := Nat.le_trans hj (by decide)
      have hDl : D < W.heap.size := (Array.getElem?_eq_some_iff.1 hK).1
      gi_wp2_with (refine ⟨trivial, ?_⟩; gi_at_call 31; refine (callsIn_wide.2 (Tryd.strings_Join g 0 cap (runsOf m (cpusF m 4)) ⟨#[44]⟩ _ hcl hgl hn hcap hjl)).mono ?_; rintro e w' ⟨rfl, hb⟩)
      have hK' := (hb.block D hDl).trans hK
      refine ⟨by simp, .inl ⟨_, _, rfl, run_takeDeferred hK', ?_⟩⟩
      exact ⟨_, results_tmp rfl _ _ _, rfl, (hB.trans (hb.mono hB.size)).trans (belowK_b (w := w) (Nat.le_refl _) _ D _ _ (by simp at hD; omega) hK' rfl rfl)⟩
  case stop =>
    rintro D c pre W _ _ h _
    exact h.elim

/-- The program's text of a set: at every number. -/
def txtOf (m : Int) : ByteArray := stx m 4
theorem stx_no {m : Int} (h : m < 0 ∨ 15 < m) (k : Nat) : stx m k = ⟨#[]⟩ := by
  induction k with
  | zero => rfl
  | succ k ih =>
    show stepTxt m k (stx m k) = _
    unfold stepTxt starts
    rw [hasB_m h, ih]; rfl
theorem impl_text (m : Int) (w : World) : Calls Tryd.prog 10 #[.int .i64 m] w fun e w' => e = .returned (.string (stx m 4)) ∧ Below w.heap.size w w' := by
  by_cases a : 0 ≤ m ∧ m ≤ 15
  · obtain ⟨a1, a2⟩ := a
    have f1 := okB_yes a1 a2
    have hj := (join_eq a1 a2).1
    have ht := fun w => set_text m w a1 a2
    rw [hj] at ht
    go_enter Tryd.func10, Tryd.ntmps10
    go_wp2_with (first | (go_at_call 20; refine (impl_ok _ _).mono ?_; rintro e w1 ⟨rfl, rfl⟩) | (go_at_call 23; refine (ht _).mono ?_; rintro e w2 ⟨rfl, hb⟩))
    go_ret
    exact ⟨rfl, hb⟩
  · have f1 := okB_no (m := m) (by omega)
    rw [stx_no (by omega)]
    clear a
    go_enter Tryd.func10, Tryd.ntmps10
    go_wp2_with (go_at_call 20; refine (impl_ok _ _).mono ?_; rintro e w1 ⟨rfl, rfl⟩)
    go_ret
    exact ⟨rfl, Below.refl _ _⟩
end Go.Proofs.YtjfkonikcnlpjaaDoor
