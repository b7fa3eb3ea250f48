/- The program's kid: who is directly in a node by a name. -/
import Derived.Test.YtollijjmmpoonaaTG
namespace Go.Proofs.Ytollijjmmpoonaa
set_option linter.unusedVariables false
set_option linter.unusedSimpArgs false
open Go.ChangeShapes Go.WideShapes Go.ChangeAt Go.RowKit

def isKid (ds : List Gr) (j : Nat) (s : List UInt8) (i : Nat) : Bool := decide (1 ≤ i) && (usAt ds i && (paAt ds i == (j : Int)) && ((naAt ds i).data.toList == s))
def kidM (ds : List Gr) (j : Nat) (s : List UInt8) : Option Nat := (List.range 8).find? (isKid ds j s)
theorem names_kid (ds : List Gr) (j : Nat) (s : List UInt8) : ∀ k, namesTo ds j s k = (List.range k).any (isKid ds j s) := by
  intro k
  induction k with
  | zero => rfl
  | succ k ih => unfold namesTo; rw [ih, List.range_succ, List.any_append]; simp [isKid]
theorem kid_none {ds : List Gr} {j : Nat} {s : List UInt8} (h : namesTo ds j s 8 = false) : kidM ds j s = none := by
  rw [names_kid] at h
  unfold kidM
  rw [List.find?_eq_none]
  intro i hi
  have := List.any_eq_false.1 h i hi
  simpa using this
theorem kid_some {ds : List Gr} {j : Nat} {s : List UInt8} (h : namesTo ds j s 8 = true) : ∃ i, kidM ds j s = some i ∧ 1 ≤ i ∧ i < 8 ∧ usAt ds i = true ∧ paAt ds i = (j : Int) ∧ (naAt ds i).data.toList = s := by
  rw [names_kid] at h
  obtain ⟨i, hi, hk⟩ := List.any_eq_true.1 h
  cases hf : kidM ds j s with
  | none =>
    unfold kidM at hf
    have := List.find?_eq_none.1 hf i hi
    rw [hk] at this; simp at this
  | some i' =>
    have h1 := List.find?_some hf
    have h2 := List.mem_range.1 (List.mem_of_find?_eq_some hf)
    unfold isKid at h1
    simp only [Bool.and_eq_true, decide_eq_true_eq, beq_iff_eq] at h1
    exact ⟨i', rfl, h1.1, h2, h1.2.1.1, h1.2.1.2, h1.2.2⟩
theorem look_plain {W : World} {b c : Nat} {D : DataW Unit} (h : W.ownsMap Try.prog 9 (plainElem Try.prog 3) b c D) (s : ByteArray) (hs : s.size ≤ maxLen) :
    ∃ x : Int, D.atKey (keyS s) (.lit (.int .i64 0)) = .lit (.int .i64 x) ∧ (Instr.lookup 64 (.map (some b)) (.string s) true).run Try.prog W = .ok (.tuple #[.int .i64 x, .bool (Maps.has D (keyS s))]) W := by
  obtain ⟨v, ps, h1, h2⟩ := h.look_ok strKeyed Try.underlying64 (zero_int _) (plainElem_int Try.underlying3 (by decide)) (key_of s hs)
  obtain ⟨x, rfl, h3, _⟩ := plainElem_int_inv Try.underlying3 h2
  exact ⟨x, congrArg Prod.fst h3, h1⟩
/-- the pointer to a place's node; nil for none. -/
def ptrO (nb : Nat → Nat) (o : Option Nat) : Value := .pointer (o.map fun i => ⟨nb i, 0, none⟩)
set_option maxHeartbeats 4000000 in
theorem kid_nil (ds : List Gr) (nb : Nat → Nat) (n : Nat) (s : ByteArray) (w : World) :
    Calls Try.prog 58 #[.agg (tRow ds nb n), .pointer none, .string s] w fun e w' => e = .returned (.pointer none) ∧ Below w.heap.size w w' := by
  go_enter Try.func58, Try.ntmps58
  go_wp2
  go_ret
  exact ⟨rfl, by go_grown⟩
set_option maxHeartbeats 4000000 in
theorem kid_node (ds : List Gr) (nb mb : Nat → Nat) (Dm : Nat → DataW Unit) (B j : Nat) (s : ByteArray) (w : World) (h : TR w ds nb mb Dm B) (hmo : MO ds 8 Dm) (hj : j < 8) (uj : usAt ds j = true) (hs : s.size ≤ 1048576) :
    Calls Try.prog 58 #[.agg (tRow ds nb 8), .pointer (some ⟨nb j, 0, none⟩), .string s] w fun e w' => e = .returned (ptrO nb (kidM ds j s.data.toList)) ∧ Below w.heap.size w w' := by
  have hb : Below w.heap.size w (w.alloc (.cells (tRow ds nb 8) 56 (0, 0))) := (Below.refl _ _).alloc (Nat.le_refl _) _
  have h2 := h.below hb
  obtain ⟨a0, a1, a2, a3, _⟩ := node_cells h2.ns hj uj
  obtain ⟨xx, hx, hl⟩ := look_plain (h2.ns.map j hj uj) s (by unfold maxLen; omega)
  have hrow := heap_alloc_new w (.cells (tRow ds nb 8) 56 (0, 0))
  have HB : Hid (Below w.heap.size w (w.alloc (.cells (tRow ds nb 8) 56 (0, 0)))) := hb
  cases hn : namesTo ds j s.data.toList 8
  · have hh : Maps.has (Dm j) (keyS s) = false := by unfold keyS; rw [hmo.has]; exact hn
    rw [kid_none hn]
    rw [hh] at hl
    unfold ptrO
    dsimp only [Option.map]
    clear hh hx h h2 hmo hb hrow
    go_enter Try.func58, Try.ntmps58
    go_wp2
    go_ret
    exact ⟨rfl, HB.out⟩
  · have hh : Maps.has (Dm j) (keyS s) = true := by unfold keyS; rw [hmo.has]; exact hn
    obtain ⟨i, hk, h1, h8, ui, hp, hname⟩ := kid_some hn
    rw [hk]
    rw [hh] at hl
    have hv := hmo.val i j h1 h8 ui hp (.lit (.int .i64 0))
    have hks : keyS (naAt ds i) = keyS s := by unfold keyS; rw [hname]
    rw [hks, hx] at hv
    obtain rfl : xx = (i : Int) := by simpa using hv
    have hc := cell_of_row _ w.heap.size i _ _ _ hrow
    rw [tRow_get ds nb 8 i h8, tP_used h8 ui] at hc
    have hi8 : (i : Int) < 8 := by omega
    unfold ptrO
    dsimp only [Option.map]
    clear hh hx h h2 hmo hb hrow hv hks hp hk
    go_enter Try.func58, Try.ntmps58
    go_wp2
    go_ret
    exact ⟨rfl, HB.out⟩
end Go.Proofs.Ytollijjmmpoonaa
