/- Names of groups: contracts of NameOk, of the program and of its specification. -/
import Derived.Test.YtnmmglkigiakaaaGreatRows
import Derived.WalkKit
import Derived.ProofKit
import Derived.OpenShut
import Derived.ShutString
import Derived.WalkLawsBesides
import Derived.LoopTactic
import Derived.Outline
import Derived.Handy
import Derived.Laws.RangeAny
namespace Go.Proofs.YtnmmglkigiakaaaGreat
set_option maxRecDepth 100000
set_option maxHeartbeats 32000000
open Go.ChangeShapes Go.WideShapes Go.ChangeAt Go.RowKit
def fileB (s : ByteArray) : Bool := (s.toList == [119, 101, 105, 103, 104, 116]) || (s.toList == [109, 97, 120]) || (s.toList == [99, 112, 117, 115]) || (s.toList == [112, 114, 111, 99, 115]) || (s.toList == [115, 116, 97, 116])
theorem file_ways (s : ByteArray) : ((s.toList == [119, 101, 105, 103, 104, 116]) = true ∧ fileB s = true) ∨ ((s.toList == [119, 101, 105, 103, 104, 116]) = false ∧ (s.toList == [109, 97, 120]) = true ∧ fileB s = true) ∨
    ((s.toList == [119, 101, 105, 103, 104, 116]) = false ∧ (s.toList == [109, 97, 120]) = false ∧ (s.toList == [99, 112, 117, 115]) = true ∧ fileB s = true) ∨
    ((s.toList == [119, 101, 105, 103, 104, 116]) = false ∧ (s.toList == [109, 97, 120]) = false ∧ (s.toList == [99, 112, 117, 115]) = false ∧ (s.toList == [112, 114, 111, 99, 115]) = true ∧ fileB s = true) ∨
    ((s.toList == [119, 101, 105, 103, 104, 116]) = false ∧ (s.toList == [109, 97, 120]) = false ∧ (s.toList == [99, 112, 117, 115]) = false ∧ (s.toList == [112, 114, 111, 99, 115]) = false ∧ (s.toList == [115, 116, 97, 116]) = true ∧ fileB s = true) ∨
    ((s.toList == [119, 101, 105, 103, 104, 116]) = false ∧ (s.toList == [109, 97, 120]) = false ∧ (s.toList == [99, 112, 117, 115]) = false ∧ (s.toList == [112, 114, 111, 99, 115]) = false ∧ (s.toList == [115, 116, 97, 116]) = false ∧ fileB s = false) := by
  unfold fileB
  generalize (s.toList == [119, 101, 105, 103, 104, 116]) = a
  generalize (s.toList == [109, 97, 120]) = b
  generalize (s.toList == [99, 112, 117, 115]) = c
  generalize (s.toList == [112, 114, 111, 99, 115]) = d
  generalize (s.toList == [115, 116, 97, 116]) = e
  revert a b c d e
  decide
theorem impl_isFile (s : ByteArray) (w : World) : Calls Tryz.prog 200 #[.string s] w fun e w' => e = .returned (.bool (fileB s)) ∧ w' = w := by
  rcases file_ways s with ⟨f1, f⟩ | ⟨f1, f2, f⟩ | ⟨f1, f2, f3, f⟩ | ⟨f1, f2, f3, f4, f⟩ | ⟨f1, f2, f3, f4, f5, f⟩ | ⟨f1, f2, f3, f4, f5, f⟩
  all_goals
    rw [f]
    clear f
    go_enter Tryz.func200, Tryz.ntmps200
    go_wp2
    go_ret
    exact ⟨rfl, rfl⟩
theorem spec_isFile (s : ByteArray) (w : World) : Calls Tryz.prog 133 #[.string s] w fun e w' => e = .returned (.bool (fileB s)) ∧ w' = w := by
  rcases file_ways s with ⟨f1, f⟩ | ⟨f1, f2, f⟩ | ⟨f1, f2, f3, f⟩ | ⟨f1, f2, f3, f4, f⟩ | ⟨f1, f2, f3, f4, f5, f⟩ | ⟨f1, f2, f3, f4, f5, f⟩
  all_goals
    rw [f]
    clear f
    go_enter Tryz.func133, Tryz.ntmps133
    go_wp2
    go_ret
    first | exact ⟨rfl, rfl⟩ | exact ⟨by simp [f1, f2, f3, f4, f5], rfl⟩

def sgB (x : Int) : Bool := (decide (97 ≤ x) && decide (x ≤ 122)) || (decide (48 ≤ x) && decide (x ≤ 57))
theorem sg_ways (x : Int) : (97 ≤ x ∧ x ≤ 122 ∧ sgB x = true) ∨ (97 ≤ x ∧ decide (x ≤ 122) = false ∧ decide (x ≤ 57) = false ∧ 48 ≤ x ∧ sgB x = false) ∨ (x < 97 ∧ x < 48 ∧ sgB x = false) ∨ (x < 97 ∧ 48 ≤ x ∧ x ≤ 57 ∧ sgB x = true) ∨ (x < 97 ∧ 48 ≤ x ∧ decide (x ≤ 57) = false ∧ sgB x = false) := by
  unfold sgB
  rcases Int.lt_or_le x 97 with h | h
  · rcases Int.lt_or_le x 48 with k | k
    · exact .inr (.inr (.inl ⟨h, k, by simp; omega⟩))
    · rcases Int.lt_or_le 57 x with j | j
      · exact .inr (.inr (.inr (.inr ⟨h, k, decide_eq_false (by omega), by simp; omega⟩)))
      · exact .inr (.inr (.inr (.inl ⟨h, k, j, by simp; omega⟩)))
  · rcases Int.lt_or_le 122 x with j | j
    · exact .inr (.inl ⟨h, decide_eq_false (by omega), decide_eq_false (by omega), by omega, by simp; omega⟩)
    · exact .inl ⟨h, j, by simp; omega⟩
theorem impl_sign (x : Int) (w : World) : Calls Tryz.prog 201 #[.int .i32 x] w fun e w' => e = .returned (.bool (sgB x)) ∧ w' = w := by
  rcases sg_ways x with ⟨a, b, f⟩ | ⟨a, b, c, d, f⟩ | ⟨a, b, f⟩ | ⟨a, b, c, f⟩ | ⟨a, b, c, f⟩
  all_goals
    rw [f]
    clear f
    go_enter Tryz.func201, Tryz.ntmps201
    go_wp2
    go_ret
    first | exact ⟨rfl, rfl⟩ | exact ⟨by simp [*], rfl⟩

def goodFrom (s : ByteArray) (k : Nat) : Bool := (s.data.toList.drop k).all (fun b => sgB (b.toNat : Int))
theorem goodFrom_end (s : ByteArray) (k : Nat) (h : s.size ≤ k) : goodFrom s k = true := by
  unfold goodFrom
  rw [List.drop_eq_nil_of_le (by simpa using h)]; rfl
theorem goodFrom_at (s : ByteArray) (k : Nat) (h : k < s.size) : goodFrom s k = (sgB ((s[k]'h).toNat : Int) && goodFrom s (k + 1)) := by
  unfold goodFrom
  rw [List.drop_eq_getElem_cons (by simpa using h), List.all_cons]
  rfl
def nameB (s : ByteArray) : Bool := decide (1 ≤ s.size ∧ s.size ≤ 8) && (!fileB s && goodFrom s 0)

def l1inN (n l h : Int) : Bool := decide (l ≤ n ∧ n ≤ h)
theorem l1In_name (n l h : Int) (w : World) : Calls Tryz.prog 33 #[.int .i64 n, .int .i64 l, .int .i64 h] w fun e w' => e = .returned (.bool (l1inN n l h)) ∧ w' = w := by
  by_cases a : l ≤ n
  · by_cases b : n ≤ h
    · rw [show l1inN n l h = true from decide_eq_true ⟨a, b⟩]
      go_enter Tryz.func33, Tryz.ntmps33
      go_wp2
      go_ret
      exact ⟨rfl, rfl⟩
    · rw [show l1inN n l h = false from decide_eq_false (by omega)]
      have hd : decide (n ≤ h) = false := by simpa using b
      go_enter Tryz.func33, Tryz.ntmps33
      go_wp2
      go_ret
      exact ⟨by simp, rfl⟩
  · rw [show l1inN n l h = false from decide_eq_false (by omega)]
    go_enter Tryz.func33, Tryz.ntmps33
    go_wp2
    go_ret
    exact ⟨rfl, rfl⟩

theorem spec_name (s : ByteArray) (w : World) (hs : s.size ≤ 1152921504606846976) : Calls Tryz.prog 96 #[.string s] w fun e w' => e = .returned (.bool (nameB s)) ∧ w' = w := by
  by_cases a : 1 ≤ s.size ∧ s.size ≤ 8
  · have g1 : l1inN (s.size : Int) 1 8 = true := decide_eq_true (by omega)
    cases f : fileB s
    · have hn : nameB s = goodFrom s 0 := by unfold nameB; rw [decide_eq_true a, f]; rfl
      rw [hn]
      obtain ⟨a1, a2⟩ := a
      clear hn
      go_enter Tryz.func96, Tryz.ntmps96
      go_wp2_with (first | (go_at_call 33; refine (l1In_name _ _ _ _).mono ?_; rintro e w1 ⟨rfl, rfl⟩) | (go_at_call 133; refine (spec_isFile _ _).mono ?_; rintro e w1 ⟨rfl, rfl⟩))
      go_loop [3] (fun i => ∃ k : Nat, k ≤ s.size ∧ i = .int .i64 k ∧ goodFrom s 0 = goodFrom s k) (fun i => s.size - (intOf i).toNat)
      case atStart => exact ⟨0, by omega, rfl, rfl⟩
      case round =>
        obtain ⟨k, hk, rfl, hg⟩ := hrel
        by_cases hlt : k < s.size
        · rw [goodFrom_at s k hlt] at hg
          rcases sg_ways ((s[k]'hlt).toNat : Int) with ⟨b1, b2, ff⟩ | ⟨b1, b2, b3, b4, ff⟩ | ⟨b1, b2, ff⟩ | ⟨b1, b2, b3, ff⟩ | ⟨b1, b2, b3, ff⟩
          · rw [ff] at hg
            clear ff
            go_wp2
            go_round
            case rel => exact ⟨k + 1, by omega, by go_num, hg.trans (Bool.true_and _)⟩
            case measure => simp [intOf]; omega
          · rw [ff] at hg
            clear ff
            go_wp2
            go_ret
            exact ⟨rfl, rfl⟩
          · rw [ff] at hg
            clear ff
            go_wp2
            go_ret
            exact ⟨rfl, rfl⟩
          · rw [ff] at hg
            clear ff
            go_wp2
            go_round
            case rel => exact ⟨k + 1, by omega, by go_num, hg.trans (Bool.true_and _)⟩
            case measure => simp [intOf]; omega
          · rw [ff] at hg
            clear ff
            go_wp2
            go_ret
            exact ⟨rfl, rfl⟩
        · rw [goodFrom_end s k (by omega)] at hg
          go_wp2
          go_ret
          exact ⟨rfl, rfl⟩
    · have hn : nameB s = false := by unfold nameB; rw [f]; simp
      rw [hn]
      obtain ⟨a1, a2⟩ := a
      clear hn
      go_enter Tryz.func96, Tryz.ntmps96
      go_wp2_with (first | (go_at_call 33; refine (l1In_name _ _ _ _).mono ?_; rintro e w1 ⟨rfl, rfl⟩) | (go_at_call 133; refine (spec_isFile _ _).mono ?_; rintro e w1 ⟨rfl, rfl⟩))
      go_ret
      exact ⟨rfl, rfl⟩
  · have g1 : l1inN (s.size : Int) 1 8 = false := decide_eq_false (by omega)
    have hn : nameB s = false := by unfold nameB; rw [decide_eq_false a]; rfl
    rw [hn]
    clear hn a
    go_enter Tryz.func96, Tryz.ntmps96
    go_wp2_with (first | (go_at_call 33; refine (l1In_name _ _ _ _).mono ?_; rintro e w1 ⟨rfl, rfl⟩) | (go_at_call 133; refine (spec_isFile _ _).mono ?_; rintro e w1 ⟨rfl, rfl⟩))
    go_ret
    exact ⟨rfl, rfl⟩

theorem sgB_high (s : ByteArray) (pos : Nat) (h : pos < s.size) (ha : ¬ (s[pos]'h).toNat < 128) : sgB (Utf8.decode s pos).1 = false ∧ sgB ((s[pos]'h).toNat : Int) = false := by
  have h1 := (decode_high s pos h (by omega)).1
  constructor
  · unfold sgB; simp; omega
  · unfold sgB; simp; omega
theorem below_iter (w : World) (s : ByteArray) (pos : Nat) : Below w.heap.size w (w.iter s pos) := by
  have : w.iter s pos = w.alloc (.stringIter s pos) := rfl
  rw [this]
  exact (Below.refl _ _).alloc (Nat.le_refl _) _
theorem ret_name {a b : Bool} (h : a = b) : Ending.returned (.bool a) = .returned (.bool b) := by rw [h]
theorem impl_name (s : ByteArray) (w : World) : Calls Tryz.prog 196 #[.string s] w fun e w' => e = .returned (.bool (nameB s)) ∧ Below w.heap.size w w' := by
  by_cases a : 1 ≤ s.size
  · by_cases a2 : s.size ≤ 8
    · cases f : fileB s
      · have hn : nameB s = goodFrom s 0 := by unfold nameB; rw [decide_eq_true ⟨a, a2⟩, f]; rfl
        rw [hn]
        clear hn
        go_enter Tryz.func196, Tryz.ntmps196
        go_wp2_with (go_at_call 200; refine (impl_isFile _ _).mono ?_; rintro e w1 ⟨rfl, rfl⟩)
        go_loopw [4] (fun _ wr => ∃ pos : Nat, wr = w1.iter s pos ∧ goodFrom s 0 = goodFrom s pos) (fun _ wr => s.size - wr.iterPos w1.heap.size)
        case atStart => exact ⟨0, rfl, rfl⟩
        case round =>
          obtain ⟨pos, rfl, hg⟩ := hrel
          by_cases hp : pos < s.size
          · rw [goodFrom_at s pos hp] at hg
            by_cases ha : (s[pos]'hp).toNat < 128
            · have hnx : ∀ ty, (Instr.next (.pointer (some ⟨w1.heap.size, 0, none⟩)) true ty).run Tryz.prog (w1.iter s pos) = _ := fun ty => run_next_any w1 s pos ty hp
              rw [decode_ascii s pos hp ha] at hnx
              cases ff : sgB ((s[pos]'hp).toNat : Int)
              · rw [ff] at hg
                go_wp2_with (go_at_call 201; refine (impl_sign _ _).mono ?_; rintro e w2 ⟨rfl, rfl⟩)
                go_ret
                exact ⟨ret_name hg.symm, below_iter _ _ _⟩
              · rw [ff] at hg
                go_wp2_with (go_at_call 201; refine (impl_sign _ _).mono ?_; rintro e w2 ⟨rfl, rfl⟩)
                go_roundw
                case rel => exact ⟨pos + 1, rfl, hg.trans (Bool.true_and _)⟩
                case measure => simp; omega
            · have hnx : ∀ ty, (Instr.next (.pointer (some ⟨w1.heap.size, 0, none⟩)) true ty).run Tryz.prog (w1.iter s pos) = _ := fun ty => run_next_any w1 s pos ty hp
              obtain ⟨ff, ff2⟩ := sgB_high s pos hp ha
              rw [ff2] at hg
              clear ff2
              go_wp2_with (go_at_call 201; refine (impl_sign _ _).mono ?_; rintro e w2 ⟨rfl, rfl⟩)
              go_ret
              exact ⟨ret_name hg.symm, below_iter _ _ _⟩
          · have hnx : ∀ ty, (Instr.next (.pointer (some ⟨w1.heap.size, 0, none⟩)) true ty).run Tryz.prog (w1.iter s pos) = _ := fun ty => run_next_end w1 s pos ty hp
            rw [goodFrom_end s pos (by omega)] at hg
            go_wp2
            go_ret
            exact ⟨ret_name hg.symm, below_iter _ _ _⟩
      · have hn : nameB s = false := by unfold nameB; rw [f]; simp
        rw [hn]
        clear hn
        go_enter Tryz.func196, Tryz.ntmps196
        go_wp2_with (go_at_call 200; refine (impl_isFile _ _).mono ?_; rintro e w1 ⟨rfl, rfl⟩)
        go_ret
        exact ⟨rfl, Below.refl _ _⟩
    · have hn : nameB s = false := by unfold nameB; rw [decide_eq_false (by omega)]; rfl
      rw [hn]
      clear hn
      have hd : (8 : Int) < (s.size : Int) := by omega
      go_enter Tryz.func196, Tryz.ntmps196
      go_wp2
      go_ret
      exact ⟨rfl, Below.refl _ _⟩
  · have hn : nameB s = false := by unfold nameB; rw [decide_eq_false (by omega)]; rfl
    rw [hn]
    clear hn
    have hd : (s.size : Int) < 1 := by omega
    go_enter Tryz.func196, Tryz.ntmps196
    go_wp2
    go_ret
    exact ⟨rfl, Below.refl _ _⟩
end Go.Proofs.YtnmmglkigiakaaaGreat
