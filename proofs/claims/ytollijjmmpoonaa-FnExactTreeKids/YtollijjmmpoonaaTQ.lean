/- The program's nodesOf. -/
import Derived.Test.YtollijjmmpoonaaTO
namespace Go.Proofs.Ytollijjmmpoonaa
set_option linter.unusedVariables false
set_option linter.unusedSimpArgs false
open Go.ChangeShapes Go.WideShapes Go.ChangeAt Go.RowKit

/-- what holds a group's rows are slices. -/
def Slices (e : Gv) : Prop := (∃ p l c, e.x = .slice p l c) ∧ (∃ p l c, e.y = .slice p l c) ∧ ∃ p l c, e.z = .slice p l c
theorem slices_of {W : World} {e : Gv} (h : GvOk W e) : Slices e := by
  obtain ⟨p, c, h1, _⟩ := h.1.1.form
  obtain ⟨p', c', h2, _⟩ := h.1.2.form
  obtain ⟨p'', c'', h3, _⟩ := h.2.form
  exact ⟨⟨_, _, _, h1⟩, ⟨_, _, _, h2⟩, _, _, _, h3⟩
/-- the cells of eight groups, in any world that grew out of the first. -/
theorem groups8 {w : World} {x : Value} {vs : List Gv} (hs : SlG w x vs) (h8 : vs.length = 8) : ∃ q o cap, x = .slice (some ⟨q, o, none⟩) 8 cap ∧ q < w.heap.size ∧ ∀ W, Below w.heap.size w W → ∀ k, k < 8 → ∃ e, vs[k]? = some e ∧ W.rangeAt q (o + k * 14) (gvC e) ∧ Slices e := by
  rcases hs.1 with ⟨rfl, a, cap, rfl⟩ | ⟨g, o, cap, rfl, hE, hl, hm⟩
  · simp at h8
  · refine ⟨g, o, cap, by rw [h8], ?_, fun W hb k hk => ?_⟩
    · obtain ⟨e, he⟩ := row_get (xs := vs) (k := 0) (by omega)
      obtain ⟨x0, _⟩ := gv_cells (hE 0 e he)
      exact block_lt_of_cell x0
    · obtain ⟨e, he⟩ := row_get (xs := vs) (k := k) (by omega)
      exact ⟨e, he, range_below (hE k e he) hb, slices_of (hs.2 e (List.mem_of_getElem? he))⟩
theorem gs_at {vs : List Gv} {k : Nat} {e : Gv} (he : vs[k]? = some e) : usAt (gsD vs) k = e.d.us ∧ paAt (gsD vs) k = e.d.pa ∧ naAt (gsD vs) k = e.d.na := by
  exact ⟨by simp [usAt, gsD, he], by simp [paAt, gsD, he], by simp [naAt, gsD, he]⟩

theorem Kept.setRow (w : World) (g : Nat) (cs : Array Value) : Kept (fun k => k = g) w (w.setRow g cs) := ⟨rfl, rfl, rfl, by simp [World.setRow], fun k _ hn => setRow_other w g k cs hn⟩
theorem tRow_zero (ds : List Gr) (nb nb' : Nat → Nat) : tRow ds nb 0 = tRow ds nb' 0 := by rw [tRow_none, tRow_none]
/-- a round of nodesOf that makes a node. -/
theorem nodes_step {w wr W : World} {ds : List Gr} {nb mb : Nat → Nat} {k : Nat} {na : ByteArray} (A : Obj) (acc : Below w.heap.size w wr) (hsz : w.heap.size + 1 < wr.heap.size)
    (h0 : wr.heap[w.heap.size]? = some (.cells (tRow ds nb 0) 56 (0, 0))) (h1 : wr.heap[w.heap.size + 1]? = some (.cells (tRow ds nb k) 56 (0, 0)))
    (hN : NS wr ds k nb mb (fun _ => none) (fun _ => .map []) 0 (w.heap.size + 2)) (hlt : k < 8) (hu : usAt ds k = true) (hna : naAt ds k = na)
    (hW : W = (((wr.alloc A).alloc (.map #[] 0)).alloc (.cells #[.int .i64 (k : Int), .string na, .pointer none, .map (some (wr.heap.size + 1))] 66 (0, 0))).setCell ⟨w.heap.size + 1, k, none⟩ (.pointer (some ⟨wr.heap.size + 1 + 1, 0, none⟩))) :
    Below w.heap.size w W ∧ w.heap.size + 1 < W.heap.size ∧ W.heap[w.heap.size]? = some (.cells (tRow ds (upd nb k (wr.heap.size + 1 + 1)) 0) 56 (0, 0)) ∧
      W.heap[w.heap.size + 1]? = some (.cells (tRow ds (upd nb k (wr.heap.size + 1 + 1)) (k + 1)) 56 (0, 0)) ∧
      NS W ds (k + 1) (upd nb k (wr.heap.size + 1 + 1)) (upd mb k (wr.heap.size + 1)) (fun _ => none) (fun _ => .map []) 0 (w.heap.size + 2) := by
  have e1 : (wr.alloc A).heap.size = wr.heap.size + 1 := by simp
  have e2 : ((wr.alloc A).alloc (.map #[] 0)).heap.size = wr.heap.size + 1 + 1 := by simp
  have hb3 : Below wr.heap.size wr (((wr.alloc A).alloc (.map #[] 0)).alloc (.cells #[.int .i64 (k : Int), .string na, .pointer none, .map (some (wr.heap.size + 1))] 66 (0, 0))) := (((Below.refl _ _).alloc (Nat.le_refl _) _).alloc (by simp) _).alloc (by simp; omega) _
  have hnode := heap_alloc_new ((wr.alloc A).alloc (.map #[] 0)) (.cells #[.int .i64 (k : Int), .string na, .pointer none, .map (some (wr.heap.size + 1))] 66 (0, 0))
  rw [e2] at hnode
  have hmap : (((wr.alloc A).alloc (.map #[] 0)).alloc (.cells #[.int .i64 (k : Int), .string na, .pointer none, .map (some (wr.heap.size + 1))] 66 (0, 0))).ownsMap Try.prog 9 (plainElem (H := Unit) Try.prog 3) (wr.heap.size + 1) 0 (.map []) := by
    have := (World.ownsMap_made (wr.alloc A) Try.prog 9 (plainElem (H := Unit) Try.prog 3)).alloc (.cells #[.int .i64 (k : Int), .string na, .pointer none, .map (some (wr.heap.size + 1))] 66 (0, 0))
    rwa [e1] at this
  have hsz3 := hb3.size
  generalize (((wr.alloc A).alloc (.map #[] 0)).alloc (.cells #[.int .i64 (k : Int), .string na, .pointer none, .map (some (wr.heap.size + 1))] 66 (0, 0))) = W3 at hW hb3 hnode hmap hsz3
  have hns3 := hN.push (b := wr.heap.size + 1 + 1) (m := wr.heap.size + 1) hb3 (by omega) (by omega) (by omega) (by omega) (by rw [hna]; exact hnode) hmap
  subst hW
  have hk := Kept.set W3 (w.heap.size + 1) k (.pointer (some ⟨wr.heap.size + 1 + 1, 0, none⟩))
  have acc3 := acc.trans (hb3.mono acc.size)
  refine ⟨acc3.trans (hk.toBelow acc3.size (by intro j hj; omega)), by simp only [World.size_setCell]; omega, ?_, ?_, hns3.kept hk (by intro g hg; omega)⟩
  · rw [hk.block _ (by omega) (by omega), hb3.block _ (by omega), h0, tRow_zero]
  · rw [heap_setCell_same _ _ _ _ _ _ ((hb3.block _ hsz).trans h1), tRow_put _ _ _ _ hlt hu]

set_option maxHeartbeats 16000000 in
theorem nodesOf_any (x : Value) (vs : List Gv) (w : World) (hs : SlG w x vs) (h8 : vs.length = 8) :
    Calls Try.prog 52 #[x] w fun e w' => ∃ nb mb, e = .returned (.agg (tRow (gsD vs) nb 8)) ∧ NS w' (gsD vs) 8 nb mb (fun _ => none) (fun _ => .map []) 0 (w.heap.size + 2) ∧ Below w.heap.size w w' := by
  obtain ⟨q, o, cap, rfl, hq, hrow⟩ := groups8 hs h8
  have HR : Hid (∀ W, Below w.heap.size w W → ∀ k, k < 8 → ∃ e, vs[k]? = some e ∧ W.rangeAt q (o + k * 14) (gvC e) ∧ Slices e) := hrow
  clear hrow hs
  go_enter Try.func52, Try.ntmps52
  go_wp2
  go_loopw [8] (fun i wr => ∃ (k : Nat) (nb mb : Nat → Nat), k ≤ 8 ∧ i = .int .i64 k ∧ Below w.heap.size w wr ∧ w.heap.size + 1 < wr.heap.size ∧ wr.heap[w.heap.size]? = some (.cells (tRow (gsD vs) nb 0) 56 (0, 0)) ∧
      wr.heap[w.heap.size + 1]? = some (.cells (tRow (gsD vs) nb k) 56 (0, 0)) ∧ NS wr (gsD vs) k nb mb (fun _ => none) (fun _ => .map []) 0 (w.heap.size + 2)) (fun i _ => 8 - (intOf i).toNat)
  case atStart => exact ⟨0, fun _ => 0, fun _ => 0, by omega, rfl, by go_grown, by simp, by rw [tRow_none]; exact heap_alloc2_old _ _ _, by rw [tRow_none]; exact heap_alloc2_new _ _ _, NS.empty _ _ _ _ _ _ _ _⟩
  case round =>
    obtain ⟨k, nb, mb, hk, rfl, acc, hsz, hg0, hg1, hns⟩ := hrel
    have H0 : Hid (wr.heap[w.heap.size]? = some (.cells (tRow (gsD vs) nb 0) 56 (0, 0))) := hg0
    have H1 : Hid (wr.heap[w.heap.size + 1]? = some (.cells (tRow (gsD vs) nb k) 56 (0, 0))) := hg1
    have HN : Hid (NS wr (gsD vs) k nb mb (fun _ => none) (fun _ => .map []) 0 (w.heap.size + 2)) := hns
    clear hns
    by_cases hlt : k < 8
    · have hlt' : (k : Int) < 8 := by omega
      obtain ⟨e, he, hr, ⟨p1, l1, c1, e1⟩, ⟨p2, l2, c2, e2⟩, p3, l3, c3, e3⟩ := HR.out wr acc k hlt
      obtain ⟨u1, u2, u3⟩ := gs_at he
      obtain ⟨x0, x1, x2, x3, x4, x5, x6, x7, x8, x9, x10, x11, x12, x13⟩ := gv_cells hr
      rw [e1] at x11
      rw [e2] at x12
      rw [e3] at x13
      clear e1 e2 e3
      have hc := cell_of_row wr _ k _ _ _ hg1
      rw [tRow_get _ _ _ k hlt, tP_past (Nat.le_refl _)] at hc
      have hf := frozen_of_row wr _ k _ _ hg1
      have U1 : Hid (usAt (gsD vs) k = e.d.us) := u1
      have U3 : Hid (naAt (gsD vs) k = e.d.na) := u3
      clear hg0 hg1 hr u1 u2 u3 he
      cases hu : e.d.us
      · rw [hu] at x0
        go_wp2
        go_roundw
        case rel => exact ⟨k + 1, nb, mb, by omega, by go_num, by go_grown, by simp; omega, by rw [heap_alloc_old _ _ (by omega)]; exact H0.out, by rw [heap_alloc_old _ _ (by omega), ← tRow_skip _ _ _ (U1.out.trans hu)]; exact H1.out, (HN.out.skip (U1.out.trans hu)).below ((Below.refl _ _).alloc (Nat.le_refl _) _)⟩
        case measure => simp [intOf]; omega
      · rw [hu] at x0
        have hmm : ∀ W : World, (Instr.makeMap 64 none).run Try.prog W = .ok (.map (some W.heap.size)) (W.alloc (.map #[] 0)) := fun W => rfl
        have hb3 : ∀ A M Q, Below wr.heap.size wr (((wr.alloc A).alloc M).alloc Q) := fun A M Q => (((Below.refl _ _).alloc (Nat.le_refl _) _).alloc (by simp) _).alloc (by simp; omega) _
        have hc3 : ∀ A M Q, (((wr.alloc A).alloc M).alloc Q).cell? ⟨w.heap.size + 1, k, none⟩ = some (.pointer none) := fun A M Q => ((hb3 A M Q).cell hsz).trans hc
        have hf3 : ∀ A M Q, (((wr.alloc A).alloc M).alloc Q).frozen? ⟨w.heap.size + 1, k, none⟩ = false := fun A M Q => (World.frozen?_of_block ((hb3 A M Q).block _ hsz)).trans hf
        have HB3 : Hid (∀ A M Q, Below wr.heap.size wr (((wr.alloc A).alloc M).alloc Q)) := hb3
        clear hb3
        go_wp2
        obtain ⟨r1, r2, r3, r4, r5⟩ := nodes_step _ acc hsz H0.out H1.out HN.out hlt (U1.out.trans hu) U3.out rfl
        exact ⟨⟨k + 1, _, _, by omega, by go_num, r1, r2, r3, r4, r5⟩, by simp [intOf]; omega⟩
    · have : k = 8 := by omega
      subst this
      go_wp2_with (first
        | refine wpList_load_row rfl 56 _ rfl (w.heap.size + 1) rfl 56 (tRow (gsD vs) nb 8) (0, 0) _ hg1 Try.underlying56 rfl (info_treeR _ _ _) ?_
        | refine wpList_store_row rfl 56 _ _ rfl w.heap.size (tRow (gsD vs) nb 8) rfl rfl 56 (tRow (gsD vs) nb 0) hg0 (info_treeR _ _ _) (by rw [tRow_size, tRow_size]) (tRow_one _ _ _) ?_)
      refine bodyPost_ret (results_cell_row rfl _ _ w.heap.size 56 (tRow (gsD vs) nb 8) (0, 0) _ rfl (setRow_heap _ _ _ _ _ _ hg0) Try.underlying56 rfl (info_treeR _ _ _)) rfl ?_
      exact ⟨nb, mb, rfl, HN.out.kept (Kept.setRow _ _ _) (by intro g hg; omega), below_setRow acc (Nat.le_refl _) _⟩
end Go.Proofs.Ytollijjmmpoonaa
