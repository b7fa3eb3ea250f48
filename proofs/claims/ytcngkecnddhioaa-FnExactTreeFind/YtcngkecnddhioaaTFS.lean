/- TreeFind: of the specification and of the program. -/
import Derived.Test.YtcngkecnddhioaaTT
namespace Go.Proofs.Ytcngkecnddhioaa
set_option linter.unusedVariables false
set_option linter.unusedSimpArgs false
open Go.ChangeShapes Go.WideShapes Go.ChangeAt Go.RowKit

def findM (ds : List Gr) (s : ByteArray) : Int := if treeB ds = true then (match findO ds s with | some g => (g : Int) | none => -1) else -1
theorem findM_no {ds : List Gr} {s : ByteArray} (h : treeB ds = false) : findM ds s = -1 := by unfold findM; rw [h]; rfl
theorem findM_some {ds : List Gr} {s : ByteArray} {g : Nat} (h : treeB ds = true) (hf : findO ds s = some g) : findM ds s = g := by unfold findM; rw [h, hf]; rfl
theorem findM_none {ds : List Gr} {s : ByteArray} (h : treeB ds = true) (hf : findO ds s = none) : findM ds s = -1 := by unfold findM; rw [h, hf]; rfl
set_option maxHeartbeats 8000000 in
theorem spec_find (x : Value) (vs : List Gv) (s : ByteArray) (w : World) (hs : SlG w x vs) (hf : GsFit vs) :
    Calls Try.prog 18 #[x, .string s] w fun e w' => e = .returned (.int .i64 (findM (gsD vs) s)) ∧ Below w.heap.size w w' := by
  have HS : Hid (SlG w x vs) := hs
  have acc := Below.refl w.heap.size w
  cases ht : treeB (gsD vs)
  · rw [findM_no ht]
    go_enter Try.func18, Try.ntmps18
    go_wp2_with (go_at_call 10; refine (spec_tree _ vs _ (HS.out.below acc) hf).mono ?_; rintro e w1 ⟨rfl, hb1⟩; replace acc := acc.trans (hb1.mono acc.size); clear hb1)
    go_ret
    exact ⟨rfl, acc⟩
  · have hv8 : vs.length = 8 := by rw [← gsD_length]; exact (tree_facts ht).1
    obtain ⟨q, o, cap, rfl, hq, hrow⟩ := groups8 hs hv8
    have HRW : Hid (∀ W, Below w.heap.size w W → ∀ k, k < 8 → ∃ e, vs[k]? = some e ∧ W.rangeAt q (o + k * 14) (gvC e) ∧ Slices e) := hrow
    have HTB : Hid (treeB (gsD vs) = true) := ht
    clear hrow hs
    go_enter Try.func18, Try.ntmps18
    go_wp2_with (go_at_call 10; refine (spec_tree _ vs _ (HS.out.below acc) hf).mono ?_; rintro e w1 ⟨rfl, hb1⟩; replace acc := acc.trans (hb1.mono acc.size); clear hb1)
    have ACC : Hid (Below w.heap.size w _) := acc
    go_loopw [5] (fun i wr => ∃ k : Nat, k ≤ 8 ∧ i = .int .i64 (k : Int) ∧ Below w.heap.size w wr ∧ ∀ j, j < k → usAt (gsD vs) j = true → findO (gsD vs) s ≠ some j) (fun i _ => 8 - (intOf i).toNat)
    case atStart => exact ⟨0, by omega, rfl, ACC.out, fun j hj => by omega⟩
    case round =>
      clear ACC acc
      obtain ⟨k, hk, rfl, acc, hno⟩ := hrel
      have HNO : Hid (∀ j, j < k → usAt (gsD vs) j = true → findO (gsD vs) s ≠ some j) := hno
      clear hno
      by_cases hlt : k < 8
      · have hlt' : (k : Int) < 8 := by omega
        obtain ⟨e, he, hr, _⟩ := HRW.out _ acc k hlt
        obtain ⟨x0, _⟩ := gv_cells hr
        rw [← (gs_at he).1] at x0
        clear hr he
        cases hu : usAt (gsD vs) k
        · rw [hu] at x0
          go_wp2
          refine ⟨⟨k + 1, by omega, by go_num, acc, fun j hj huj => ?_⟩, by simp [intOf]; omega⟩
          rcases Nat.lt_or_ge j k with h' | h'
          · exact HNO.out j h' huj
          · obtain rfl : j = k := by omega
            rw [hu] at huj; cases huj
        · rw [hu] at x0
          have hfp := find_path HTB.out s hlt hu
          by_cases hfk : findO (gsD vs) s = some k
          · rw [decide_eq_true hfk] at hfp
            have HX : Hid (findM (gsD vs) s = (k : Int)) := findM_some HTB.out hfk
            clear hfk
            go_wp2_with (go_at_call 16; refine (spec_path _ vs _ _ (HS.out.below acc) hf).mono ?_; rintro e w2 ⟨rfl, hb2⟩; replace acc := acc.trans (hb2.mono acc.size); clear hb2)
            go_ret
            exact ⟨by rw [HX.out]; rfl, acc⟩
          · rw [decide_eq_false hfk] at hfp
            have HX : Hid (findO (gsD vs) s ≠ some k) := hfk
            clear hfk
            go_wp2_with (go_at_call 16; refine (spec_path _ vs _ _ (HS.out.below acc) hf).mono ?_; rintro e w2 ⟨rfl, hb2⟩; replace acc := acc.trans (hb2.mono acc.size); clear hb2)
            refine ⟨⟨k + 1, by omega, by go_num, acc, fun j hj huj => ?_⟩, by simp [intOf]; omega⟩
            rcases Nat.lt_or_ge j k with h' | h'
            · exact HNO.out j h' huj
            · obtain rfl : j = k := by omega
              exact HX.out
      · have hlt' : ¬ (k : Int) < 8 := by omega
        obtain rfl : k = 8 := by omega
        have HX : Hid (findM (gsD vs) s = -1) := by
          show findM _ _ = _
          cases hfo : findO (gsD vs) s with
          | none => exact findM_none HTB.out hfo
          | some g => exact absurd hfo (HNO.out g (find_used HTB.out hfo).1 (find_used HTB.out hfo).2)
        go_wp2
        go_ret
        exact ⟨by rw [HX.out]; rfl, acc⟩
set_option maxHeartbeats 4000000 in
theorem find_first (ds : List Gr) (nb : Nat → Nat) (n : Nat) (p : Option Addr) (h0 : tP ds nb n 0 = .pointer p) (s : ByteArray) (w : World) (hr : (s.toList == [47]) = true) :
    Calls Try.prog 40 #[.agg (tRow ds nb n), .string s] w fun e w' => e = .returned (.pointer p) ∧ Below w.heap.size w w' := by
  have hrow := heap_alloc_new w (.cells (tRow ds nb n) 56 (0, 0))
  have hc0 := cell_of_row _ w.heap.size 0 _ _ _ hrow
  rw [tRow_get ds nb n 0 (by omega), h0] at hc0
  clear hrow h0
  go_enter Try.func40, Try.ntmps40
  go_wp2
  go_ret
  exact ⟨rfl, by go_grown⟩
set_option maxHeartbeats 4000000 in
theorem find_nohead (ds : List Gr) (nb : Nat → Nat) (n : Nat) (s : ByteArray) (w : World) (hr : (s.toList == [47]) = false) (hh : headB s = false) :
    Calls Try.prog 40 #[.agg (tRow ds nb n), .string s] w fun e w' => e = .returned (.pointer none) ∧ Below w.heap.size w w' := by
  have hcut : ∀ W, Calls Try.prog 57 #[.string s, .string ⟨#[47]⟩] W fun e w' => e = .returned (.tuple #[.string s, .bool false]) ∧ w' = W := by
    intro W
    by_cases h1 : 1 ≤ s.size
    · exact cut_no s W h1 hh
    · exact cut_short s W (by omega)
  go_enter Try.func40, Try.ntmps40
  go_wp2_with (go_at_call 57; refine (hcut _).mono ?_; rintro e w1 ⟨rfl, rfl⟩)
  go_ret
  exact ⟨rfl, by go_grown⟩
theorem head_size {s : ByteArray} (hh : headB s = true) : 1 ≤ s.size := by
  have h := head_cons.1 hh
  have h0 : s.data.toList.length = s.size := by simp
  rw [h] at h0
  simp at h0
  omega
theorem find_notree (ds : List Gr) (nb : Nat → Nat) (s : ByteArray) (w : World) (hs : s.size ≤ 1048576) :
    Calls Try.prog 40 #[.agg (tRow ds nb 0), .string s] w fun e w' => e = .returned (.pointer none) ∧ Below w.heap.size w w' := by
  have h0 : tP ds nb 0 0 = .pointer none := tP_past (Nat.le_refl _)
  cases hr : (s.toList == [47])
  · cases hh : headB s
    · exact find_nohead ds nb 0 s w hr hh
    · refine (find_walk ds nb 0 none s w (fun o _ _ => o = none) h0 hs hr (head_size hh) hh ⟨?_, ?_, ?_, ?_⟩ rfl).mono ?_
      · rintro o fr pos _ _ _ rfl; rfl
      · rintro o fr pos _ _ _ h; exact h
      · rintro o fr pos k _ _ _ _ h; exact h
      · rintro o fr pos rfl W _ s' _; exact kid_nil ds nb 0 s' W
      · rintro e w' ⟨⟨o, fr, pos, rfl, _, rfl⟩, hb⟩
        exact ⟨rfl, hb⟩
  · exact find_first ds nb 0 none h0 s w hr
theorem find_tree (ds : List Gr) (nb mb : Nat → Nat) (Dm : Nat → DataW Unit) (B : Nat) (s : ByteArray) (w : World) (h : TR w ds nb mb Dm B) (hmo : MO ds 8 Dm) (ht : treeB ds = true) (hs : s.size ≤ 1048576) :
    Calls Try.prog 40 #[.agg (tRow ds nb 8), .string s] w fun e w' => e = .returned (ptrO nb (findO ds s)) ∧ Below w.heap.size w w' := by
  have h0 : tP ds nb 8 0 = ptrO nb (some 0) := tP_used (by omega) h.root
  cases hr : (s.toList == [47])
  · have hne : s.data.toList ≠ [47] := by rw [ByteArray.toList_eq] at hr; simpa using hr
    cases hh : headB s
    · rw [find_c hne hh]
      exact find_nohead ds nb 8 s w hr hh
    · rw [find_b hne hh]
      refine (find_walk ds nb 8 (some 0) s w (fun o fr pos => FS ds (s.extract 1 s.size).data.toList o fr pos ∧ ∀ j, o = some j → j < 8 ∧ usAt ds j = true) h0 hs hr (head_size hh) hh ⟨?_, ?_, ?_, ?_⟩ ⟨.inl ⟨rfl, by simp⟩, ?_⟩).mono ?_
      · rintro o fr pos a b c ⟨d, _⟩
        exact ⟨d.stroke ht a b c, kid_used⟩
      · rintro o fr pos a b c ⟨d, e⟩
        exact ⟨d.sign a b c, e⟩
      · rintro o fr pos k a b c c' ⟨d, e⟩
        exact ⟨d.wide ht a b c c', e⟩
      · rintro o fr pos ⟨_, e⟩ W hb s' hs'
        exact kid_any ds nb mb Dm B o s' W (h.below hb) hmo e hs'
      · intro j hj
        obtain rfl : 0 = j := Option.some.inj hj
        exact ⟨by omega, h.root⟩
      · rintro e w' ⟨⟨o, fr, pos, ⟨d, _⟩, hl, rfl⟩, hb⟩
        rw [d.done ht hl]
        exact ⟨rfl, hb⟩
  · have he : s.data.toList = [47] := by rw [ByteArray.toList_eq] at hr; simpa using hr
    rw [find_a he]
    exact find_first ds nb 8 _ h0 s w hr
set_option maxHeartbeats 4000000 in
theorem impl_find (x : Value) (vs : List Gv) (s : ByteArray) (w : World) (hs : SlG w x vs) (hf : GsFit vs) (hz : s.size ≤ 1048576) :
    Calls Try.prog 19 #[x, .string s] w fun e w' => e = .returned (.int .i64 (findM (gsD vs) s)) ∧ Below w.heap.size w w' := by
  go_enter Try.func19, Try.ntmps19
  go_wp2_with fail
  refine (treeOf_any x vs w hs hf).mono ?_
  rintro e w1 ⟨⟨ht, rfl⟩ | ⟨ht, nb, mb, Dm, rfl, htr, hmo⟩, hb1⟩
  · have HT : Hid (findM (gsD vs) s = -1) := findM_no ht
    clear ht
    simp only []
    go_at_K
    go_wp2_with fail
    refine (find_notree _ _ s _ hz).mono ?_
    rintro e w2 ⟨rfl, hb2⟩
    simp only []
    go_at_K
    go_wp2_with fail
    go_ret
    exact ⟨by rw [HT.out]; rfl, hb1.trans (hb2.mono hb1.size)⟩
  · have hcon := find_tree (gsD vs) nb mb Dm _ s w1 htr hmo ht hz
    cases hfo : findO (gsD vs) s with
    | none =>
      have HT : Hid (findM (gsD vs) s = -1) := findM_none ht hfo
      rw [hfo] at hcon
      clear ht htr hmo hfo
      simp only []
      go_at_K
      go_wp2_with fail
      refine hcon.mono ?_
      rintro e w2 ⟨rfl, hb2⟩
      clear hcon
      unfold ptrO
      dsimp only [Option.map]
      go_at_K
      go_wp2_with fail
      go_ret
      exact ⟨by rw [HT.out]; rfl, hb1.trans (hb2.mono hb1.size)⟩
    | some g =>
      have HT : Hid (findM (gsD vs) s = (g : Int)) := findM_some ht hfo
      obtain ⟨hg, ug⟩ := find_used ht hfo
      rw [hfo] at hcon
      have HTR : Hid (TR w1 (gsD vs) nb mb Dm w.heap.size) := htr
      clear ht htr hmo hfo
      simp only []
      go_at_K
      go_wp2_with fail
      refine hcon.mono ?_
      rintro e w2 ⟨rfl, hb2⟩
      clear hcon
      obtain ⟨a0, _⟩ := node_cells (HTR.out.below hb2).ns hg ug
      unfold ptrO
      dsimp only [Option.map]
      go_at_K
      go_wp2_with fail
      go_ret
      exact ⟨by rw [HT.out]; rfl, hb1.trans (hb2.mono hb1.size)⟩
end Go.Proofs.Ytcngkecnddhioaa
