/- TreeUnder: of the program. -/
import Derived.Test.YtollijjmmpoonaaTC
import Derived.LaidEqlPtr
namespace Go.Proofs.Ytollijjmmpoonaa
set_option linter.unusedVariables false
set_option linter.unusedSimpArgs false
open Go.ChangeShapes Go.WideShapes Go.ChangeAt Go.RowKit

/-- how far a pointer's node is from the root, and one more; nil: 0. -/
def ptrDep (ds : List Gr) (nb : Nat → Nat) : Value → Nat
  | .pointer (some a) => (((List.range 8).find? fun j => usAt ds j && nb j == a.block).map fun (j : Nat) => (depB ds (j : Int)).toNat + 1).getD 0
  | _ => 0
theorem ptrDep_at {W : World} {ds : List Gr} {nb mb : Nat → Nat} {Dm : Nat → DataW Unit} {B : Nat} (h : TR W ds nb mb Dm B) {j : Nat} (hj : j < 8) (uj : usAt ds j = true) : ptrDep ds nb (.pointer (some ⟨nb j, 0, none⟩)) = (depB ds (j : Int)).toNat + 1 := by
  have hf : ((List.range 8).find? fun i => usAt ds i && nb i == nb j) = some j := by
    cases hc : (List.range 8).find? fun i => usAt ds i && nb i == nb j with
    | none =>
      have := List.find?_eq_none.1 hc j (List.mem_range.2 hj)
      simp [uj] at this
    | some i =>
      have h1 := List.find?_some hc
      have h2 := List.mem_range.1 (List.mem_of_find?_eq_some hc)
      simp only [Bool.and_eq_true, beq_iff_eq] at h1
      by_cases e : i = j
      · rw [e]
      · exact absurd h1.2 (h.ns.inj i j h2 hj h1.1 uj e).1
  unfold ptrDep
  dsimp only
  rw [hf]
  rfl
theorem info_node : ∃ j, Try.prog.info? 66 = some j ∧ j.size ≠ 0 := by
  have h : (Try.prog.info? 66).map (·.size) = some 4 := by kernel_rfl
  cases hj : Try.prog.info? 66 with
  | none => rw [hj] at h; cases h
  | some j =>
    rw [hj] at h
    have h4 : j.size = 4 := by simpa using h
    exact ⟨j, rfl, by omega⟩
theorem eql_same (a : Addr) (w : World) : (binOp .eql 54 (.pointer (some a)) (.pointer (some a))).run Try.prog w = .ok (.bool true) w := by
  obtain ⟨j, hj, _⟩ := info_node
  exact run_eql_ptr_same w a Try.underlying54 hj
theorem eql_other {w : World} {ds : List Gr} {nb mb : Nat → Nat} {Dm : Nat → DataW Unit} {B : Nat} (h : TR w ds nb mb Dm B) {i k : Nat} (hi : i < 8) (ui : usAt ds i = true) (hk : k < 8) (uk : usAt ds k = true) (hne : i ≠ k) :
    (binOp .eql 54 (.pointer (some ⟨nb i, 0, none⟩)) (.pointer (some ⟨nb k, 0, none⟩))).run Try.prog w = .ok (.bool false) w := by
  obtain ⟨j, hj, hs⟩ := info_node
  refine run_eql_ptr_other w Try.underlying54 hj hs ?_ (h.ns.node i hi ui) (h.ns.node k hk uk)
  intro e
  exact (h.ns.inj i k hi hk ui uk hne).1 (congrArg Addr.block e)
set_option maxHeartbeats 4000000 in
theorem isUnder_nil (og : Option Addr) (w : World) : Calls Try.prog 41 #[.pointer none, .pointer og] w fun e w' => e = .returned (.bool false) ∧ w' = w := by
  go_enter Try.func41, Try.ntmps41
  go_wp2
  refine wp_loop_rounds 1 ?_
  rw [rounds_succ]
  go_wp2
  go_ret
  exact ⟨rfl, rfl⟩
set_option maxHeartbeats 4000000 in
theorem isUnder_none (ds : List Gr) (nb mb : Nat → Nat) (Dm : Nat → DataW Unit) (B i : Nat) (w : World) (h : TR w ds nb mb Dm B) (ht : treeB ds = true) (hi : i < 8) (hu : usAt ds i = true) :
    Calls Try.prog 41 #[.pointer (some ⟨nb i, 0, none⟩), .pointer none] w fun e w' => e = .returned (.bool false) ∧ w' = w := by
  have HT : Hid (TR w ds nb mb Dm B) := h
  have HTB : Hid (treeB ds = true) := ht
  clear h ht
  go_enter Try.func41, Try.ntmps41
  go_wp2
  go_loop [0] (fun n => n = .pointer none ∨ ∃ j : Nat, j < 8 ∧ usAt ds j = true ∧ n = .pointer (some ⟨nb j, 0, none⟩)) (fun n => ptrDep ds nb n)
  case atStart => exact .inr ⟨i, hi, hu, rfl⟩
  case round =>
    rcases hrel with rfl | ⟨j, hj, uj, rfl⟩
    · go_wp2
      go_ret
      exact ⟨rfl, rfl⟩
    · have hm := ptrDep_at HT.out hj uj
      rcases HT.out.at hj uj with ⟨rfl, hc⟩ | ⟨h0, j', hp, hj', uj', hc⟩
      · have HM : Hid (ptrDep ds nb (.pointer (some ⟨nb 0, 0, none⟩)) = (depB ds ((0 : Nat) : Int)).toNat + 1) := hm
        clear hm
        go_wp2
        exact ⟨.inl rfl, by rw [HM.out]; show 0 < _; omega⟩
      · have hm' := ptrDep_at HT.out hj' uj'
        have HM : Hid (ptrDep ds nb (.pointer (some ⟨nb j', 0, none⟩)) < ptrDep ds nb (.pointer (some ⟨nb j, 0, none⟩))) := by
          show _ < _
          rw [hm, hm']
          rcases tree_step HTB.out hj uj with ⟨h1, _⟩ | ⟨_, j2, e2, _, _, f1, f2, _⟩
          · exact absurd h1 h0
          · obtain rfl : j' = j2 := by omega
            omega
        clear hm hm' hp
        go_wp2
        exact ⟨.inr ⟨j', hj', uj', rfl⟩, HM.out⟩
set_option maxHeartbeats 4000000 in
theorem isUnder_some (ds : List Gr) (nb mb : Nat → Nat) (Dm : Nat → DataW Unit) (B i k : Nat) (w : World) (h : TR w ds nb mb Dm B) (ht : treeB ds = true) (hi : i < 8) (hu : usAt ds i = true) (hk : k < 8) (uk : usAt ds k = true) :
    Calls Try.prog 41 #[.pointer (some ⟨nb i, 0, none⟩), .pointer (some ⟨nb k, 0, none⟩)] w fun e w' => e = .returned (.bool (underD ds (k : Int) i)) ∧ w' = w := by
  have HT : Hid (TR w ds nb mb Dm B) := h
  have HTB : Hid (treeB ds = true) := ht
  clear h ht
  go_enter Try.func41, Try.ntmps41
  go_wp2
  go_loop [0] (fun n => (n = .pointer none ∧ underD ds (k : Int) i = false) ∨ ∃ j : Nat, j < 8 ∧ usAt ds j = true ∧ n = .pointer (some ⟨nb j, 0, none⟩) ∧ underD ds (k : Int) i = underD ds (k : Int) j) (fun n => ptrDep ds nb n)
  case atStart => exact .inr ⟨i, hi, hu, rfl, rfl⟩
  case round =>
    rcases hrel with ⟨rfl, hd⟩ | ⟨j, hj, uj, rfl, hd⟩
    · have HD : Hid (underD ds (k : Int) i = false) := hd
      clear hd
      go_wp2
      go_ret
      exact ⟨by rw [HD.out]; rfl, rfl⟩
    · by_cases hjk : j = k
      · subst hjk
        have HD : Hid (underD ds (j : Int) i = true) := by show underD _ _ _ = _; rw [hd, under_hit _ _ _ rfl]
        have hq := eql_same ⟨nb j, 0, none⟩ w
        clear hd
        go_wp2
        go_ret
        exact ⟨by rw [HD.out]; rfl, rfl⟩
      · have hq := eql_other HT.out hj uj hk uk hjk
        have hm := ptrDep_at HT.out hj uj
        rcases HT.out.at hj uj with ⟨rfl, hc⟩ | ⟨h0, j', hp, hj', uj', hc⟩
        · have HM : Hid (ptrDep ds nb (.pointer (some ⟨nb 0, 0, none⟩)) = (depB ds ((0 : Nat) : Int)).toNat + 1 ∧ underD ds (k : Int) i = false) := ⟨hm, by rw [hd, under_root (by omega)]⟩
          clear hm hd
          go_wp2
          exact ⟨.inl ⟨rfl, HM.out.2⟩, by rw [HM.out.1]; show 0 < _; omega⟩
        · have hm' := ptrDep_at HT.out hj' uj'
          have HM : Hid (ptrDep ds nb (.pointer (some ⟨nb j', 0, none⟩)) < ptrDep ds nb (.pointer (some ⟨nb j, 0, none⟩)) ∧ underD ds (k : Int) i = underD ds (k : Int) j') := by
            show _ ∧ _
            rw [hm, hm']
            rcases tree_step HTB.out hj uj with ⟨h1, _⟩ | ⟨_, j2, e2, _, _, f1, f2, _⟩
            · exact absurd h1 h0
            · obtain rfl : j' = j2 := by omega
              exact ⟨by omega, by rw [hd, under_up (by omega) h0 hp f1 f2]⟩
          clear hm hm' hp hd
          go_wp2
          exact ⟨.inr ⟨j', hj', uj', rfl, HM.out.2⟩, HM.out.1⟩
/-- what isUnder tells of two places of a tree. -/
theorem isUnder_any (ds : List Gr) (nb mb : Nat → Nat) (Dm : Nat → DataW Unit) (B : Nat) (g h : Int) (w : World) (htr : TR w ds nb mb Dm B) (ht : treeB ds = true) :
    Calls Try.prog 41 #[atP ds nb 8 h, atP ds nb 8 g] w fun e w' => e = .returned (.bool (underM ds g h)) ∧ w' = w := by
  cases hu : usedB ds h
  · have e0 : underM ds g h = false := by unfold underM; rw [hu]; simp
    rw [e0, unusedB_at htr.len hu nb]
    cases hg : usedB ds g
    · rw [unusedB_at htr.len hg nb]; exact isUnder_nil _ _
    · obtain ⟨j, rfl, _, _, hat⟩ := usedB_at htr.len hg nb
      rw [hat]; exact isUnder_nil _ _
  · obtain ⟨i, rfl, hi, ui, hat⟩ := usedB_at htr.len hu nb
    rw [hat]
    cases hg : usedB ds g
    · have e0 : underM ds g (i : Int) = false := by unfold underM; rw [hg]; simp
      rw [e0, unusedB_at htr.len hg nb]
      exact isUnder_none ds nb mb Dm B i w htr ht hi ui
    · have e0 : underM ds g (i : Int) = underD ds g i := by unfold underM; rw [ht, hg, hu, Int.toNat_natCast]; rfl
      rw [e0]
      obtain ⟨k, rfl, hk, uk, hat2⟩ := usedB_at htr.len hg nb
      rw [hat2]
      exact isUnder_some ds nb mb Dm B i k w htr ht hi ui hk uk
end Go.Proofs.Ytollijjmmpoonaa
