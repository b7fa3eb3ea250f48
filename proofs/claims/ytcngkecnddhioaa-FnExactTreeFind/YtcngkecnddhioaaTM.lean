/- The program's find: a text cut at its first stroke. -/
import Derived.Test.YtcngkecnddhioaaTL
namespace Go.Proofs.Ytcngkecnddhioaa
set_option linter.unusedVariables false
set_option linter.unusedSimpArgs false
open Go.ChangeShapes Go.WideShapes Go.ChangeAt Go.RowKit

set_option maxHeartbeats 4000000 in
theorem cut_short (s : ByteArray) (w : World) (h : s.size = 0) :
    Calls Try.prog 57 #[.string s, .string ⟨#[47]⟩] w fun e w' => e = .returned (.tuple #[.string s, .bool false]) ∧ w' = w := by
  have h' : ¬ (1 : Int) ≤ (s.size : Int) := by omega
  go_enter Try.func57, Try.ntmps57
  go_wp2
  go_ret2
  exact ⟨rfl, rfl⟩
def headB (s : ByteArray) : Bool := (s.extract 0 1).toList == [47]
set_option maxHeartbeats 4000000 in
theorem cut_no (s : ByteArray) (w : World) (h : 1 ≤ s.size) (hb : headB s = false) :
    Calls Try.prog 57 #[.string s, .string ⟨#[47]⟩] w fun e w' => e = .returned (.tuple #[.string s, .bool false]) ∧ w' = w := by
  have h' : (1 : Int) ≤ (s.size : Int) := by omega
  have hh : ((s.extract 0 1).toList == [47]) = false := hb
  go_enter Try.func57, Try.ntmps57
  go_wp2
  go_ret2
  exact ⟨rfl, rfl⟩
set_option maxHeartbeats 4000000 in
theorem cut_yes (s : ByteArray) (w : World) (h : 1 ≤ s.size) (hb : headB s = true) :
    Calls Try.prog 57 #[.string s, .string ⟨#[47]⟩] w fun e w' => e = .returned (.tuple #[.string (s.extract 1 s.size), .bool true]) ∧ w' = w := by
  have h' : (1 : Int) ≤ (s.size : Int) := by omega
  have hh : ((s.extract 0 1).toList == [47]) = true := hb
  go_enter Try.func57, Try.ntmps57
  go_wp2
  go_ret2
  exact ⟨rfl, rfl⟩
/-- kid, whether there is a node or none. -/
theorem kid_any (ds : List Gr) (nb mb : Nat → Nat) (Dm : Nat → DataW Unit) (B : Nat) (o : Option Nat) (s : ByteArray) (w : World) (h : TR w ds nb mb Dm B) (hmo : MO ds 8 Dm) (ho : ∀ j, o = some j → j < 8 ∧ usAt ds j = true) (hs : s.size ≤ 1048576) :
    Calls Try.prog 58 #[.agg (tRow ds nb 8), ptrO nb o, .string s] w fun e w' => e = .returned (ptrO nb (o.bind fun j => kidM ds j s.data.toList)) ∧ Below w.heap.size w w' := by
  cases o with
  | none => exact kid_nil ds nb 8 s w
  | some j => exact kid_node ds nb mb Dm B j s w h hmo (ho j rfl).1 (ho j rfl).2 hs
theorem kid_used {ds : List Gr} {o : Option Nat} {s : List UInt8} : ∀ i, (o.bind fun j => kidM ds j s) = some i → i < 8 ∧ usAt ds i = true := by
  intro i hi
  cases o with
  | none => cases hi
  | some j =>
    have hk : kidM ds j s = some i := hi
    cases hn : namesTo ds j s 8
    · rw [kid_none hn] at hk; cases hk
    · obtain ⟨i', hk', _, a2, a3, _⟩ := kid_some hn
      rw [hk] at hk'
      obtain rfl : i = i' := Option.some.inj hk'
      exact ⟨a2, a3⟩
/-- a segment with a byte that is no sign of a name is nobody's. -/
theorem kid_bad {ds : List Gr} (ht : treeB ds = true) {o : Option Nat} {s : List UInt8} (h : ∃ b ∈ s, sgB (b.toNat : Int) = false) : (o.bind fun j => kidM ds j s) = none := by
  cases o with
  | none => rfl
  | some j =>
    show kidM ds j s = none
    cases hn : namesTo ds j s 8
    · exact kid_none hn
    · obtain ⟨i, _, a1, a2, a3, _, a5⟩ := kid_some hn
      have hg := (tree_hung ht i a1 a2 a3).2.1
      unfold nameB at hg
      simp only [Bool.and_eq_true] at hg
      have hall := hg.2.2
      unfold goodFrom at hall
      rw [List.drop_zero, a5] at hall
      obtain ⟨b, hb, hf⟩ := h
      have := List.all_eq_true.1 hall b hb
      rw [hf] at this; cases this
/-- how far find has come: the names ahead of 'fr' are walked, those from there up to 'pos' looked at. -/
def FS (ds : List Gr) (nm : List UInt8) (o : Option Nat) (fr pos : Nat) : Prop :=
  (wk ds (some 0) (splitS nm) = wk ds o (splitS (nm.drop fr)) ∧ ∀ b ∈ (nm.drop fr).take (pos - fr), b ≠ 47) ∨
  (wk ds (some 0) (splitS nm) = none ∧ (o = none ∨ ∃ b ∈ (nm.drop fr).take (pos - fr), sgB (b.toNat : Int) = false))
theorem drop_split {nm : List UInt8} {fr pos : Nat} (h1 : fr ≤ pos) (h2 : pos < nm.length) : nm.drop fr = (nm.drop fr).take (pos - fr) ++ nm[pos] :: nm.drop (pos + 1) := by
  have e : nm.drop pos = nm[pos] :: nm.drop (pos + 1) := List.drop_eq_getElem_cons h2
  have e2 : nm.drop fr = (nm.drop fr).take (pos - fr) ++ (nm.drop fr).drop (pos - fr) := (List.take_append_drop _ _).symm
  rw [List.drop_drop, show fr + (pos - fr) = pos by omega, e] at e2
  exact e2
theorem take_more {nm : List UInt8} {fr pos : Nat} (h1 : fr ≤ pos) (h2 : pos < nm.length) : (nm.drop fr).take (pos + 1 - fr) = (nm.drop fr).take (pos - fr) ++ [nm[pos]] := by
  have e : pos + 1 - fr = (pos - fr) + 1 := by omega
  rw [e, List.take_add_one]
  congr 1
  rw [List.getElem?_drop, show fr + (pos - fr) = pos by omega, List.getElem?_eq_getElem h2]
  rfl
/-- a stroke. -/
theorem FS.stroke {ds : List Gr} (ht : treeB ds = true) {nm : List UInt8} {o : Option Nat} {fr pos : Nat} (h : FS ds nm o fr pos) (h1 : fr ≤ pos) (h2 : pos < nm.length) (hb : nm[pos] = 47) :
    FS ds nm (o.bind fun j => kidM ds j ((nm.drop fr).take (pos - fr))) (pos + 1) (pos + 1) := by
  have hd := drop_split h1 h2
  rw [hb] at hd
  rcases h with ⟨hr, hc⟩ | ⟨hr, ho⟩
  · refine .inl ⟨?_, by simp⟩
    rw [hr, (congrArg splitS hd).trans (split_seg hc _)]
    rfl
  · refine .inr ⟨hr, .inl ?_⟩
    rcases ho with rfl | hbad
    · rfl
    · exact kid_bad ht hbad
theorem FS.sign {ds : List Gr} {nm : List UInt8} {o : Option Nat} {fr pos : Nat} (h : FS ds nm o fr pos) (h1 : fr ≤ pos) (h2 : pos < nm.length) (hb : nm[pos] ≠ 47) : FS ds nm o fr (pos + 1) := by
  have ht := take_more h1 h2
  rcases h with ⟨hr, hc⟩ | ⟨hr, ho⟩
  · refine .inl ⟨hr, ?_⟩
    rw [ht]
    intro b hbm
    rcases List.mem_append.1 hbm with h' | h'
    · exact hc b h'
    · obtain rfl : b = nm[pos] := by simpa using h'
      exact hb
  · refine .inr ⟨hr, ?_⟩
    rcases ho with rfl | ⟨b, hbm, hf⟩
    · exact .inl rfl
    · refine .inr ⟨b, ?_, hf⟩
      rw [ht]
      exact List.mem_append_left _ hbm
/-- a sign of more than one byte. -/
theorem FS.wide {ds : List Gr} (ht : treeB ds = true) {nm : List UInt8} {o : Option Nat} {fr pos w : Nat} (h : FS ds nm o fr pos) (h1 : fr ≤ pos) (h2 : pos < nm.length) (hw : 1 ≤ w) (hb : 128 ≤ nm[pos].toNat) : FS ds nm o fr (pos + w) := by
  have ht1 := take_more h1 h2
  have hsg : sgB (nm[pos].toNat : Int) = false := by unfold sgB; simp; omega
  have hmem : nm[pos] ∈ (nm.drop fr).take (pos + w - fr) := by
    have hp : (nm.drop fr).take (pos + 1 - fr) <+: (nm.drop fr).take (pos + w - fr) := List.take_prefix_take_left (by omega)
    refine hp.subset ?_
    rw [ht1]; simp
  have hnone : wk ds (some 0) (splitS nm) = none := by
    rcases h with ⟨hr, hc⟩ | ⟨hr, _⟩
    · rw [hr]
      have hd := drop_split h1 h2
      have hj := join_split (nm.drop fr)
      obtain ⟨s, t, hs⟩ := split_ne (nm.drop fr)
      have hs1 : ∃ b ∈ s, sgB (b.toNat : Int) = false := by
        have hj2 : joinS (s :: t) = 47 :: (s ++ joinS t) := by simp [joinS]
        rw [hs, hj2] at hj
        have he : s ++ joinS t = nm.drop fr := (List.cons.inj hj).2
        refine ⟨nm[pos], ?_, hsg⟩
        -- the first segment reaches beyond the byte: all ahead of it are no strokes
        have hlen : pos - fr < s.length := by
          rcases Nat.lt_or_ge (pos - fr) s.length with h' | h'
          · exact h'
          · exfalso
            cases t with
            | nil =>
              have : joinS ([] : List (List UInt8)) = [] := rfl
              rw [this, List.append_nil] at he
              have := congrArg List.length he
              simp at this
              omega
            | cons s' t' =>
              have hj3 : joinS (s' :: t') = 47 :: (s' ++ joinS t') := by simp [joinS]
              rw [hj3] at he
              have hx : (nm.drop fr)[s.length]? = some 47 := by rw [← he]; simp
              rcases Nat.lt_or_ge s.length (pos - fr) with h'' | h''
              · have : (47 : UInt8) ∈ (nm.drop fr).take (pos - fr) := by
                  have h3 : ((nm.drop fr).take (pos - fr))[s.length]? = some 47 := by rw [List.getElem?_take, if_pos h'']; exact hx
                  exact List.mem_of_getElem? h3
                exact hc 47 this rfl
              · have e : s.length = pos - fr := by omega
                rw [e, List.getElem?_drop, show fr + (pos - fr) = pos by omega, List.getElem?_eq_getElem h2] at hx
                have hx' : nm[pos] = 47 := Option.some.inj hx
                rw [hx'] at hb
                exact absurd hb (by decide)
        have h3 : (s ++ joinS t)[pos - fr]? = some nm[pos] := by rw [he, List.getElem?_drop, show fr + (pos - fr) = pos by omega, List.getElem?_eq_getElem h2]
        rw [List.getElem?_append_left hlen] at h3
        exact List.mem_of_getElem? h3
      rw [hs]
      have := kid_bad (ds := ds) ht (o := o) hs1
      show wk ds (o.bind fun j => kidM ds j s) t = none
      rw [this, wk_none]
    · exact hr
  exact .inr ⟨hnone, .inr ⟨_, hmem, hsg⟩⟩
theorem FS.done {ds : List Gr} (ht : treeB ds = true) {nm : List UInt8} {o : Option Nat} {fr pos : Nat} (h : FS ds nm o fr pos) (h1 : nm.length ≤ pos) : (o.bind fun j => kidM ds j (nm.drop fr)) = wk ds (some 0) (splitS nm) := by
  have htk : (nm.drop fr).take (pos - fr) = nm.drop fr := List.take_of_length_le (by simp; omega)
  unfold FS at h
  rw [htk] at h
  rcases h with ⟨hr, hc⟩ | ⟨hr, ho⟩
  · rw [hr, split_one hc]; rfl
  · rw [hr]
    rcases ho with rfl | hbad
    · rfl
    · exact kid_bad ht hbad
end Go.Proofs.Ytcngkecnddhioaa
