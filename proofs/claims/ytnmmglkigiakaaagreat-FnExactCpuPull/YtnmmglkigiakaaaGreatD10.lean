/- Contracts of the functions of chapter 2 on sets of processors, of the program and of its specification: what each answers at every argument; no memory that was there is written. -/
import Derived.Test.YtnmmglkigiakaaaGreatRows
import Derived.WalkKit
import Derived.ProofKit
import Derived.OpenShut
import Derived.ShutString
import Derived.WalkLawsBesides
import Derived.LoopTactic
import Derived.Outline
import Derived.Handy
import Derived.RangeFuncNested
import Derived.RangeFuncBound
import Derived.RangeFuncCalls
import Derived.RangeFuncLeaves
import Derived.Shelf.Abstract
import Derived.OwnWalkIn
import Derived.TacticsInMore
import Derived.LoopNIn
import Derived.LoopIn
namespace Go.Proofs.YtnmmglkigiakaaaGreat.Msk
open Go.ChangeShapes Go.WideShapes Go.ChangeAt Go.RowKit Go.Shelf
attribute [local go_sem] Oper.semAt_some
def okB (m : Int) : Bool := decide (0 ≤ m ∧ m ≤ 15)
def hasB (m c : Int) : Bool := decide (0 ≤ m ∧ m ≤ 15) && (decide (0 ≤ c ∧ c ≤ 3) && (m / 2 ^ c.toNat % 2 == 1))
theorem okB_yes {m : Int} (h1 : 0 ≤ m) (h2 : m ≤ 15) : okB m = true := decide_eq_true ⟨h1, h2⟩
theorem okB_no {m : Int} (h : m < 0 ∨ 15 < m) : okB m = false := decide_eq_false (by omega)
theorem hasB_m {m c : Int} (h : m < 0 ∨ 15 < m) : hasB m c = false := by unfold hasB; rw [decide_eq_false (by omega)]; rfl
theorem hasB_c {m c : Int} (h : c < 0 ∨ 3 < c) : hasB m c = false := by unfold hasB; rw [decide_eq_false (p := 0 ≤ c ∧ c ≤ 3) (by omega)]; simp
theorem hasB_in {m c : Int} (h1 : 0 ≤ m) (h2 : m ≤ 15) (h3 : 0 ≤ c) (h4 : c ≤ 3) : hasB m c = (m / 2 ^ c.toNat % 2 == 1) := by
  unfold hasB; rw [decide_eq_true ⟨h1, h2⟩, decide_eq_true ⟨h3, h4⟩]; rfl
theorem bits_has : ∀ m : Fin 16, ∀ c : Fin 4, (bits BinOp.and IntKind.i64 ((m.val : Int) / 2 ^ ((c.val : Int)).toNat) 1 == 1) = ((m.val : Int) / 2 ^ ((c.val : Int)).toNat % 2 == 1) := by decide +kernel
theorem bits_hasB {m c : Int} (h1 : 0 ≤ m) (h2 : m ≤ 15) (h3 : 0 ≤ c) (h4 : c ≤ 3) : (bits BinOp.and IntKind.i64 (m / 2 ^ c.toNat) 1 == 1) = hasB m c := by
  rw [hasB_in h1 h2 h3 h4]
  obtain ⟨a, rfl⟩ := Int.eq_ofNat_of_zero_le h1
  obtain ⟨b, rfl⟩ := Int.eq_ofNat_of_zero_le h3
  exact bits_has ⟨a, by omega⟩ ⟨b, by omega⟩
theorem tmod_hasB {m c : Int} (h1 : 0 ≤ m) (h2 : m ≤ 15) (h3 : 0 ≤ c) (h4 : c ≤ 3) : ((m / 2 ^ c.toNat).tmod 2 == 1) = hasB m c := by
  rw [hasB_in h1 h2 h3 h4, Int.tmod_eq_emod_of_nonneg (Int.ediv_nonneg h1 (Int.le_of_lt (Int.pow_pos (by omega))))]
theorem ret_bool {a b : Bool} (h : a = b) : Ending.returned (.bool a) = .returned (.bool b) := by rw [h]
theorem ret_int {k : IntKind} {a b : Int} (h : a = b) : Ending.returned (.int k a) = .returned (.int k b) := by rw [h]

theorem impl_ok (m : Int) (w : World) : Calls Tryz.prog 170 #[.int .i64 m] w fun e w' => e = .returned (.bool (okB m)) ∧ w' = w := by
  by_cases a : 0 ≤ m
  · by_cases b : m ≤ 15
    · rw [okB_yes a b]
      go_enter Tryz.func170, Tryz.ntmps170
      go_wp2
      go_ret
      exact ⟨rfl, rfl⟩
    · rw [okB_no (by omega)]
      have hd : decide (m ≤ 15) = false := by simpa using b
      go_enter Tryz.func170, Tryz.ntmps170
      go_wp2
      go_ret
      exact ⟨by simp, rfl⟩
  · rw [okB_no (by omega)]
    go_enter Tryz.func170, Tryz.ntmps170
    go_wp2
    go_ret
    exact ⟨rfl, rfl⟩
def l1in (n l h : Int) : Bool := decide (l ≤ n ∧ n ≤ h)
theorem l1in_yes {n l h : Int} (h1 : l ≤ n) (h2 : n ≤ h) : l1in n l h = true := decide_eq_true ⟨h1, h2⟩
theorem l1in_no {n l h : Int} (hh : n < l ∨ h < n) : l1in n l h = false := decide_eq_false (by omega)
theorem l1In_any (n l h : Int) (w : World) : Calls Tryz.prog 33 #[.int .i64 n, .int .i64 l, .int .i64 h] w fun e w' => e = .returned (.bool (l1in n l h)) ∧ w' = w := by
  by_cases a : l ≤ n
  · by_cases b : n ≤ h
    · rw [l1in_yes a b]
      go_enter Tryz.func33, Tryz.ntmps33
      go_wp2
      go_ret
      exact ⟨rfl, rfl⟩
    · rw [l1in_no (by omega)]
      have hd : decide (n ≤ h) = false := by simpa using b
      go_enter Tryz.func33, Tryz.ntmps33
      go_wp2
      go_ret
      exact ⟨by simp, rfl⟩
  · rw [l1in_no (by omega)]
    go_enter Tryz.func33, Tryz.ntmps33
    go_wp2
    go_ret
    exact ⟨rfl, rfl⟩
theorem spec_ok (m : Int) (w : World) : Calls Tryz.prog 100 #[.int .i64 m] w fun e w' => e = .returned (.bool (okB m)) ∧ w' = w := by
  have he : l1in m 0 15 = okB m := rfl
  go_enter Tryz.func100, Tryz.ntmps100
  go_wp2_with (go_at_call 33; refine (l1In_any _ _ _ _).mono ?_; rintro e w1 ⟨rfl, rfl⟩)
  go_ret
  exact ⟨rfl, rfl⟩

theorem spec_has (m c : Int) (w : World) : Calls Tryz.prog 87 #[.int .i64 m, .int .i64 c] w fun e w' => e = .returned (.bool (hasB m c)) ∧ w' = w := by
  by_cases a : 0 ≤ m ∧ m ≤ 15
  · obtain ⟨a1, a2⟩ := a
    have f1 := okB_yes a1 a2
    by_cases b : 0 ≤ c ∧ c ≤ 3
    · obtain ⟨b1, b2⟩ := b
      have f2 := l1in_yes (n := c) (l := 0) (h := 3) b1 b2
      have hh := tmod_hasB a1 a2 b1 b2
      go_enter Tryz.func87, Tryz.ntmps87
      go_wp2_with (first | (go_at_call 33; refine (l1In_any _ _ _ _).mono ?_; rintro e w1 ⟨rfl, rfl⟩) | (go_at_call 100; refine (spec_ok _ _).mono ?_; rintro e w1 ⟨rfl, rfl⟩))
      go_ret
      exact ⟨rfl, rfl⟩
    · have f2 := l1in_no (n := c) (l := 0) (h := 3) (by omega)
      rw [hasB_c (by omega)]
      clear b
      go_enter Tryz.func87, Tryz.ntmps87
      go_wp2_with (first | (go_at_call 33; refine (l1In_any _ _ _ _).mono ?_; rintro e w1 ⟨rfl, rfl⟩) | (go_at_call 100; refine (spec_ok _ _).mono ?_; rintro e w1 ⟨rfl, rfl⟩))
      go_ret
      exact ⟨rfl, rfl⟩
  · have f1 := okB_no (m := m) (by omega)
    rw [hasB_m (by omega)]
    clear a
    go_enter Tryz.func87, Tryz.ntmps87
    go_wp2_with (go_at_call 100; refine (spec_ok _ _).mono ?_; rintro e w1 ⟨rfl, rfl⟩)
    go_ret
    exact ⟨rfl, rfl⟩

theorem set_has (m c : Int) (w : World) (h1 : 0 ≤ m) (h2 : m ≤ 15) : Calls Tryz.prog 47 #[.int .i64 m, .int .i64 c] w fun e w' => e = .returned (.bool (hasB m c)) ∧ w' = w := by
  by_cases b1 : 0 ≤ c
  · by_cases b2 : c < 4
    · have hh := bits_hasB h1 h2 b1 (by omega)
      go_enter Tryz.func47, Tryz.ntmps47
      go_wp2
      go_ret
      exact ⟨ret_bool (by first | rfl | exact hh), rfl⟩
    · rw [hasB_c (by omega)]
      go_enter Tryz.func47, Tryz.ntmps47
      go_wp2
      go_ret
      exact ⟨rfl, rfl⟩
  · rw [hasB_c (by omega)]
    go_enter Tryz.func47, Tryz.ntmps47
    go_wp2
    go_ret
    exact ⟨rfl, rfl⟩
theorem members_any (m : Int) (w : World) : Calls Tryz.prog 91 #[.int .i64 m] w fun e w' => e = .returned (.func (.func 131) #[] #[.pointer (some ⟨w.heap.size, 0, none⟩)]) ∧ w' = w.alloc (.cells #[.int .i64 m] 63) := by
  go_enter Tryz.func91, Tryz.ntmps91
  go_wp2
  go_ret
  exact ⟨rfl, rfl⟩

def cpusTo (m : Int) (k : Nat) : List Int := ((List.range k).map (fun i : Nat => (i : Int))).filter (hasB m)
theorem cpusTo_succ (m : Int) (k : Nat) : cpusTo m (k + 1) = cpusTo m k ++ (if hasB m k = true then [(k : Int)] else []) := by
  unfold cpusTo
  rw [List.range_succ, List.map_append, List.filter_append]
  congr 1
  by_cases h : hasB m k = true <;> simp [h]
theorem cpusTo_len (m : Int) (k : Nat) : (cpusTo m k).length ≤ k := by
  unfold cpusTo
  exact Nat.le_trans (List.length_filter_le _ _) (by simp)
theorem cpusTo_pre (m : Int) (k : Nat) (h : k ≤ 4) : cpusTo m k <+: cpusTo m 4 := by
  unfold cpusTo
  refine List.IsPrefix.filter _ (List.IsPrefix.map _ ?_)
  obtain ⟨d, hd⟩ := Nat.exists_eq_add_of_le h
  rw [hd]
  exact ⟨_, List.range_add.symm⟩

def KeepsBox (Bn : Nat) (m : Int) (W W' : World) : Prop := W.cell? ⟨Bn, 0, none⟩ = some (.int .i64 m) → W'.cell? ⟨Bn, 0, none⟩ = some (.int .i64 m)
theorem members1_in (n : Nat) (hn : 1 ≤ n) (l Bn : Nat) (m : Int) (h1 : 0 ≤ m) (h2 : m ≤ 15) (J Jx : List Int → World → Prop)
    (hY : ∀ pre x W, J pre W → pre.length < 4 → YieldAt Fence.wide (n - 1) Tryz.prog l #[.int .i64 x] W fun e W' =>
      (e = .returned (.bool true) ∧ J (pre ++ [x]) W' ∧ KeepsBox Bn m W W') ∨ (e = .returned (.bool false) ∧ Jx (pre ++ [x]) W'))
    (W : World) (hBn : W.cell? ⟨Bn, 0, none⟩ = some (.int .i64 m)) (h0 : J [] W) :
    CallsIn Fence.wide n Tryz.prog 131 #[.func (.yield l) #[] #[], .pointer (some ⟨Bn, 0, none⟩)] W fun e W' => (∃ v, e = .returned v) ∧
      ((∃ ys, ys = cpusTo m 4 ∧ J ys W') ∨ (∃ pre, pre <+: cpusTo m 4 ∧ Jx pre W')) := by
  refine callsIn_of_wp Tryz.func131 rfl trivial ?_ rfl
  simp only [Tryz.ntmps131, List.size_toArray, List.length_cons, List.length_nil, Nat.reduceAdd, Nat.reduceSub, Array.replicate_succ, Array.replicate_zero, List.push_toArray, List.append_toArray, List.nil_append, List.cons_append]
  gi_wp2
  gi_loopw [4] (fun i wr => ∃ k : Nat, k ≤ 4 ∧ i = .int .i64 k ∧ wr.cell? ⟨Bn, 0, none⟩ = some (.int .i64 m) ∧ J (cpusTo m k) wr)
    (fun i _ => 4 - (intOf i).toNat)
  case atStart => exact ⟨0, by omega, rfl, hBn, h0⟩
  case round =>
    obtain ⟨k, hk, rfl, hc, hJ⟩ := hrel
    by_cases hlt : k < 4
    · have hlen := cpusTo_len m k
      by_cases hh : hasB m k = true
      · obtain ⟨fn, tmps, assign, body, hy, hR⟩ := hY (cpusTo m k) k wr hJ (by omega)
        gi_wp2_with (refine ⟨trivial, ?_⟩; gi_at_call 47; refine (callsIn_wide.2 (set_has _ _ _ h1 h2)).mono ?_; rintro e w1 ⟨rfl, rfl⟩)
        refine hR.mono ?_
        rintro e W3 (⟨rfl, hJ3, hk3⟩ | ⟨rfl, hJx3⟩)
        · have hc3 := hk3 hc
          gi_wp2
          go_roundw
          case rel => exact ⟨k + 1, by omega, by go_num, hc3, by rw [cpusTo_succ, if_pos hh]; exact hJ3⟩
          case measure => simp [intOf]; omega
        · have hp : cpusTo m k ++ [(k : Int)] <+: cpusTo m 4 := by
            have := cpusTo_pre m (k + 1) (by omega)
            rwa [cpusTo_succ, if_pos hh] at this
          gi_wp2
          refine bodyPost_ret (results_none rfl _ _ _) rfl ?_
          exact ⟨⟨_, rfl⟩, .inr ⟨_, hp, hJx3⟩⟩
      · have hf : hasB m k = false := by simpa using hh
        gi_wp2_with (refine ⟨trivial, ?_⟩; gi_at_call 47; refine (callsIn_wide.2 (set_has _ _ _ h1 h2)).mono ?_; rintro e w1 ⟨rfl, rfl⟩)
        refine ⟨fun _ h => (by cases h), ?_⟩
        gi_wp2
        go_roundw
        case rel => exact ⟨k + 1, by omega, by go_num, hc, by rw [cpusTo_succ, if_neg hh, List.append_nil]; exact hJ⟩
        case measure => simp [intOf]; omega
    · have : k = 4 := by omega
      subst this
      gi_wp2
      go_end0
      exact ⟨⟨_, rfl⟩, .inl ⟨_, rfl, hJ⟩⟩

theorem cell_of_box_l {W : World} {B : Nat} {v : Value} {t : TypeId} (h : W.heap[B]? = some (.cells #[v] t (0, 0))) : W.cell? ⟨B, 0, none⟩ = some v ∧ W.frozen? ⟨B, 0, none⟩ = false := by
  constructor <;> simp [World.cell?, World.frozen?, h]
theorem cell_new_l (W : World) (v : Value) (t : TypeId) : (W.alloc (.cells #[v] t)).cell? ⟨W.heap.size, 0, none⟩ = some v ∧ (W.alloc (.cells #[v] t)).frozen? ⟨W.heap.size, 0, none⟩ = false :=
  cell_of_box_l (World.alloc_heap_new W _)
def andTo (a b : Int) (k : Nat) : Int := ((List.range k).map (fun i : Nat => if (hasB a i && hasB b i) = true then (2 : Int) ^ i else 0)).sum
theorem andTo_succ (a b : Int) (k : Nat) : andTo a b (k + 1) = andTo a b k + if (hasB a k && hasB b k) = true then (2 : Int) ^ k else 0 := by
  unfold andTo
  rw [List.range_succ, List.map_append, List.sum_append]
  simp
theorem and_fin : ∀ a b : Fin 16, bits BinOp.and IntKind.i64 (a.val : Int) (b.val : Int) = andTo (a.val : Int) (b.val : Int) 4 := by decide +kernel
theorem and_eq {a b : Int} (h1 : 0 ≤ a) (h2 : a ≤ 15) (h3 : 0 ≤ b) (h4 : b ≤ 15) : bits BinOp.and IntKind.i64 a b = andTo a b 4 := by
  obtain ⟨x, rfl⟩ := Int.eq_ofNat_of_zero_le h1
  obtain ⟨y, rfl⟩ := Int.eq_ofNat_of_zero_le h3
  exact and_fin ⟨x, by omega⟩ ⟨y, by omega⟩
def andM (a b : Int) : Int := if 0 ≤ a ∧ a ≤ 15 ∧ 0 ≤ b ∧ b ≤ 15 then andTo a b 4 else 0
theorem andTo_bd (a b : Int) (k : Nat) : 0 ≤ andTo a b k ∧ andTo a b k < 2 ^ k := by
  induction k with
  | zero => simp [andTo]
  | succ k ih =>
    rw [andTo_succ, Int.pow_succ]
    split <;> omega
theorem pow_bd (k : Nat) (h : k < 4) : 0 ≤ (2 : Int) ^ k ∧ (2 : Int) ^ k ≤ 8 := by
  have : k = 0 ∨ k = 1 ∨ k = 2 ∨ k = 3 := by omega
  rcases this with rfl | rfl | rfl | rfl <;> decide
theorem wrap_and (a b : Int) (k : Nat) (h : k < 4) : wrap64 (andTo a b k + wrap64 (2 ^ k)) = andTo a b k + 2 ^ k := by
  have h1 := andTo_bd a b k
  have h2 := pow_bd k h
  rw [IntWalk.wrap64_in (2 ^ k) (by omega), IntWalk.wrap64_in _ (by omega)]
theorem spec_and (a b : Int) (w : World) : Calls Tryz.prog 134 #[.int .i64 a, .int .i64 b] w fun e w' => e = .returned (.int .i64 (andM a b)) ∧ w' = w := by
  by_cases h : 0 ≤ a ∧ a ≤ 15
  · have f1 := okB_yes h.1 h.2
    by_cases k : 0 ≤ b ∧ b ≤ 15
    · have f2 := okB_yes k.1 k.2
      rw [show andM a b = andTo a b 4 by unfold andM; rw [if_pos ⟨h.1, h.2, k.1, k.2⟩]]
      clear h k
      go_enter Tryz.func134, Tryz.ntmps134
      go_wp2_with (go_at_call 100; refine (spec_ok _ _).mono ?_; rintro e w1 ⟨rfl, rfl⟩)
      go_loop [5, 6] (fun s i => ∃ k : Nat, k ≤ 4 ∧ i = .int .i64 k ∧ s = .int .i64 (andTo a b k)) (fun _ i => 4 - (intOf i).toNat)
      case atStart => exact ⟨0, by omega, rfl, rfl⟩
      case round =>
        obtain ⟨k, hk, rfl, rfl⟩ := hrel
        by_cases hlt : k < 4
        · by_cases ha : hasB a k = true
          · by_cases hb : hasB b k = true
            · have HW : Hid (wrap64 (andTo a b k + wrap64 (2 ^ k)) = andTo a b k + 2 ^ k) := wrap_and a b k hlt
              go_wp2_with (go_at_call 87; refine (spec_has _ _ _).mono ?_; rintro e w1 ⟨rfl, rfl⟩)
              go_round
              case rel => exact ⟨k + 1, by omega, by go_num, by rw [andTo_succ, if_pos (by rw [ha, hb]; rfl), HW.out]⟩
              case measure => simp [intOf]; omega
            · have hf : hasB b k = false := by simpa using hb
              go_wp2_with (go_at_call 87; refine (spec_has _ _ _).mono ?_; rintro e w1 ⟨rfl, rfl⟩)
              go_round
              case rel => exact ⟨k + 1, by omega, by go_num, by rw [andTo_succ, if_neg (by rw [hf]; simp), Int.add_zero]⟩
              case measure => simp [intOf]; omega
          · have hf : hasB a k = false := by simpa using ha
            go_wp2_with (go_at_call 87; refine (spec_has _ _ _).mono ?_; rintro e w1 ⟨rfl, rfl⟩)
            go_round
            case rel => exact ⟨k + 1, by omega, by go_num, by rw [andTo_succ, if_neg (by rw [hf]; simp), Int.add_zero]⟩
            case measure => simp [intOf]; omega
        · have : k = 4 := by omega
          subst this
          go_wp2
          go_ret
          exact ⟨rfl, rfl⟩
    · have f2 := okB_no (m := b) (by omega)
      rw [show andM a b = 0 by unfold andM; rw [if_neg (by omega)]]
      clear h k
      go_enter Tryz.func134, Tryz.ntmps134
      go_wp2_with (go_at_call 100; refine (spec_ok _ _).mono ?_; rintro e w1 ⟨rfl, rfl⟩)
      go_ret
      exact ⟨rfl, rfl⟩
  · have f1 := okB_no (m := a) (by omega)
    rw [show andM a b = 0 by unfold andM; rw [if_neg (by omega)]]
    clear h
    go_enter Tryz.func134, Tryz.ntmps134
    go_wp2_with (go_at_call 100; refine (spec_ok _ _).mono ?_; rintro e w1 ⟨rfl, rfl⟩)
    go_ret
    exact ⟨rfl, rfl⟩
end Go.Proofs.YtnmmglkigiakaaaGreat.Msk
