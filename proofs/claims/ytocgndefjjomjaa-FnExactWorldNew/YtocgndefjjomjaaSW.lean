/- WorldNew, of the specification. -/
import Derived.Test.YtocgndefjjomjaaIN
namespace Go.Proofs.Ytocgndefjjomjaa
set_option linter.unusedVariables false
set_option linter.unusedSimpArgs false
open Go.ChangeShapes Go.WideShapes Go.ChangeAt Go.RowKit

theorem info_task : (Try.prog.info? 55).map (fun i => (i.zero, i.size, i.bytes)) = some (some (.agg #[.int .i64 0, .int .i64 0, .int .i64 0, .int .i64 0, .int .i64 0, .int .i64 0, .int .i64 0, .int .i64 0, .int .i64 0]), 9, 72) := by kernel_rfl
theorem info_group : (Try.prog.info? 41).map (fun i => (i.zero, i.size, i.bytes)) = some (some (.agg #[.bool false, .int .i64 0, .string ⟨#[]⟩, .int .i64 0, .int .i64 0, .int .i64 0, .int .i64 0, .int .i64 0, .int .i64 0, .int .i64 0, .int .i64 0, .slice none 0 0, .slice none 0 0, .slice none 0 0]), 14, 168) := by kernel_rfl
theorem info_cpu : (Try.prog.info? 34).map (fun i => (i.zero, i.size, i.bytes)) = some (some (.agg #[.bool false, .int .i64 0, .int .i64 0, .int .i64 0, .int .i64 0]), 5, 40) := by kernel_rfl
theorem info_world : (Try.prog.info? 26).map (·.size) = some 4 := by kernel_rfl
def cp1 : Cp := ⟨true, -1, 0, 0, 0⟩
def cps (k : Nat) : List Value := (List.replicate k cp1).flatMap cpC
theorem cps_succ (k : Nat) : cps (k + 1) = cps k ++ [.bool true, .int .i64 (-1), .int .i64 0, .int .i64 0, .int .i64 0] := by
  unfold cps
  rw [List.replicate_succ', List.flatMap_append]
  rfl
/-- the world that is new, of n processors. -/
def newGs (n : Nat) (z : Value) : List Gv := newGv n (-1) ⟨#[]⟩ z :: List.replicate 7 gv0
def newD (n : Nat) (x y z zg : Value) : Wv := ⟨0, List.replicate n cp1, List.replicate 12 tk0, newGs n zg, x, y, z⟩
def zeroD : Wv := ⟨0, [], [], [], .slice none 0 0, .slice none 0 0, .slice none 0 0⟩
theorem zero_own (B : Nat) (W : World) : OwnW B W zeroD := ⟨.inl ⟨rfl, rfl⟩, .inl ⟨rfl, rfl⟩, ⟨.inl ⟨rfl, rfl⟩, fun e he => (by cases he), List.nodup_nil⟩, List.nodup_nil⟩
theorem Kept.narrow {S T : Nat → Prop} {w w1 : World} (h : Kept S w w1) (hs : ∀ k, k < w.heap.size → S k → T k) : Kept T w w1 :=
  ⟨h.os, h.tape, h.output, h.size, fun k hk hn => h.block k hk (fun x => hn (hs k hk x))⟩
theorem four_at (w : World) (A X Y Z : Obj) : ((((w.alloc A).alloc X).alloc Y).alloc Z).drew.heap[w.heap.size]? = some A ∧ ((((w.alloc A).alloc X).alloc Y).alloc Z).drew.heap[w.heap.size + 1]? = some X ∧ ((((w.alloc A).alloc X).alloc Y).alloc Z).drew.heap[w.heap.size + 1 + 1]? = some Y ∧ ((((w.alloc A).alloc X).alloc Y).alloc Z).drew.heap[w.heap.size + 1 + 1 + 1]? = some Z ∧ Below w.heap.size w ((((w.alloc A).alloc X).alloc Y).alloc Z).drew ∧ ((((w.alloc A).alloc X).alloc Y).alloc Z).drew.heap.size = w.heap.size + 1 + 1 + 1 + 1 := by
  obtain ⟨h2, h3, h4, h1⟩ := three_atA w A X Y
  have hs : (((w.alloc A).alloc X).alloc Y).heap.size = w.heap.size + 1 + 1 + 1 := by simp
  have e : ∀ b, b < w.heap.size + 1 + 1 + 1 → ((((w.alloc A).alloc X).alloc Y).alloc Z).drew.heap[b]? = (((w.alloc A).alloc X).alloc Y).heap[b]? := by
    intro b hb
    show ((((w.alloc A).alloc X).alloc Y).alloc Z).heap[b]? = _
    exact heap_alloc_old _ _ (by rw [hs]; exact hb)
  refine ⟨(e _ (by omega)).trans h2, (e _ (by omega)).trans h3, (e _ (by omega)).trans h4, ?_, (h1.alloc (by rw [hs]; omega) _).drew, ?_⟩
  · show ((((w.alloc A).alloc X).alloc Y).alloc Z).heap[w.heap.size + 1 + 1 + 1]? = _
    rw [← hs]; exact heap_alloc_new _ _
  · show ((((w.alloc A).alloc X).alloc Y).alloc Z).heap.size = _
    simp
theorem blkGs_new (n : Nat) (z : Value) : blkGs (newGs n z) = z.ownBlock.toList := by
  simp [blkGs, newGs, blkG, newGv, gv0, Value.ownBlock, List.replicate]
theorem mem_newGs {n : Nat} {z : Value} {e : Gv} (h : e ∈ newGs n z) : e = newGv n (-1) ⟨#[]⟩ z ∨ e = gv0 := by
  rcases List.mem_cons.1 h with h | h
  · exact .inl h
  · exact .inr (List.eq_of_mem_replicate h)
theorem new_own {B : Nat} {W : World} {n : Nat} {x y zz z : Value} (hx : OwnCp B W x (List.replicate n cp1)) (hy : OwnTk B W y (List.replicate 12 tk0)) (hg : OwnR gvC 14 B W zz (newGs n z)) (hz : OwnSh B W z (List.replicate n sh1))
    (a1 : ∀ g, x.ownBlock = some g → y.ownBlock ≠ some g) (a2 : ∀ g, x.ownBlock = some g → zz.ownBlock ≠ some g) (a3 : ∀ g, x.ownBlock = some g → z.ownBlock ≠ some g)
    (a4 : ∀ g, y.ownBlock = some g → zz.ownBlock ≠ some g) (a5 : ∀ g, y.ownBlock = some g → z.ownBlock ≠ some g) (a6 : ∀ g, zz.ownBlock = some g → z.ownBlock ≠ some g) : OwnW B W (newD n x y zz z) := by
  have one : ∀ o : Option Nat, o.toList.Nodup := fun o => by cases o <;> simp
  have n1 : (blksOf zz (newGs n z)).Nodup := by
    unfold blksOf
    rw [blkGs_new]
    refine List.nodup_append.2 ⟨one _, one _, fun a ha b hb e => ?_⟩
    subst e
    exact a6 a (by simpa using ha) (by simpa using hb)
  refine ⟨hx, hy, ⟨hg, fun e he => ?_, n1⟩, ?_⟩
  · rcases mem_newGs he with rfl | rfl
    · exact ⟨.inl ⟨rfl, rfl⟩, .inl ⟨rfl, rfl⟩, hz⟩
    · exact ⟨.inl ⟨rfl, rfl⟩, .inl ⟨rfl, rfl⟩, .inl ⟨rfl, rfl⟩⟩
  · unfold blkW
    refine List.nodup_append.2 ⟨one _, List.nodup_append.2 ⟨one _, n1, fun a ha b hb e => ?_⟩, fun a ha b hb e => ?_⟩
    · subst e
      unfold blksOf newD at hb
      dsimp only at hb
      rw [blkGs_new] at hb
      rcases List.mem_append.1 hb with hb | hb
      · exact a4 a (by simpa [newD] using ha) (by simpa using hb)
      · exact a5 a (by simpa [newD] using ha) (by simpa using hb)
    · subst e
      rcases List.mem_append.1 hb with hb | hb
      · exact a1 a (by simpa [newD] using ha) (by simpa [newD] using hb)
      · unfold blksOf newD at hb
        dsimp only at hb
        rw [blkGs_new] at hb
        rcases List.mem_append.1 hb with hb | hb
        · exact a2 a (by simpa [newD] using ha) (by simpa using hb)
        · exact a3 a (by simpa [newD] using ha) (by simpa using hb)
/-- what is made for a world that is new: rows of tasks and of groups, its box. -/
structure Made (w W : World) (bt bg bb : Nat) (bx : Array Value) : Prop where
  res : W.heap[w.heap.size]? = some (.cells #[.int .i64 0, .slice none 0 0, .slice none 0 0, .slice none 0 0] 26 (0, 0))
  box : W.heap[bb]? = some (.cells bx 26 (0, 0))
  ts : W.heap[bt]? = some (.cells (madeCells #[.int .i64 0, .int .i64 0, .int .i64 0, .int .i64 0, .int .i64 0, .int .i64 0, .int .i64 0, .int .i64 0, .int .i64 0] 108) 55 (0, 0))
  gs : W.heap[bg]? = some (.cells (madeCells #[.bool false, .int .i64 0, .string ⟨#[]⟩, .int .i64 0, .int .i64 0, .int .i64 0, .int .i64 0, .int .i64 0, .int .i64 0, .int .i64 0, .int .i64 0, .slice none 0 0, .slice none 0 0, .slice none 0 0] 112) 41 (0, 0))
  tg : bt ≠ bg
  tb : bt ≠ bb
  gb : bg ≠ bb
  lt : w.heap.size < bt
  lg : w.heap.size < bg
  lb : w.heap.size < bb
  acc : Below w.heap.size w W
theorem Made.under {w W : World} {bt bg bb : Nat} {bx : Array Value} (h : Made w W bt bg bb bx) : bt < W.heap.size ∧ bg < W.heap.size ∧ bb < W.heap.size ∧ w.heap.size < W.heap.size :=
  ⟨(Array.getElem?_eq_some_iff.1 h.ts).1, (Array.getElem?_eq_some_iff.1 h.gs).1, (Array.getElem?_eq_some_iff.1 h.box).1, (Array.getElem?_eq_some_iff.1 h.res).1⟩
theorem pre_cells {w2 : World} {bg : Nat} (hr : RowOf gvC 14 w2 bg 0 (List.replicate 8 gv0)) : w2.cell? ⟨bg, 0, none⟩ = some (.bool false) ∧ w2.cell? ⟨bg, 1, none⟩ = some (.int .i64 0) ∧ w2.cell? ⟨bg, 2, none⟩ = some (.string ⟨#[]⟩) ∧ w2.cell? ⟨bg, 3, none⟩ = some (.int .i64 0) ∧ w2.cell? ⟨bg, 4, none⟩ = some (.int .i64 0) ∧ w2.cell? ⟨bg, 5, none⟩ = some (.int .i64 0) ∧ w2.cell? ⟨bg, 6, none⟩ = some (.int .i64 0) ∧ w2.cell? ⟨bg, 7, none⟩ = some (.int .i64 0) ∧ w2.cell? ⟨bg, 8, none⟩ = some (.int .i64 0) ∧ w2.cell? ⟨bg, 9, none⟩ = some (.int .i64 0) ∧ w2.cell? ⟨bg, 10, none⟩ = some (.int .i64 0) ∧ w2.cell? ⟨bg, 11, none⟩ = some (.slice none 0 0) ∧ w2.cell? ⟨bg, 12, none⟩ = some (.slice none 0 0) ∧ w2.cell? ⟨bg, 13, none⟩ = some (.slice none 0 0) := by
  obtain ⟨x0, x1, x2, x3, x4, x5, x6, x7, x8, x9, x10, x11, x12, x13⟩ := gv_cells (hr 0 gv0 rfl)
  simp only [Nat.zero_mul, Nat.add_zero] at x0 x1 x2 x3 x4 x5 x6 x7 x8 x9 x10 x11 x12 x13
  exact ⟨x0, x1, x2, x3, x4, x5, x6, x7, x8, x9, x10, x11, x12, x13⟩
theorem pre_frozen {w2 : World} {bg : Nat} {cs : Array Value} {t : TypeId} (hB : w2.heap[bg]? = some (.cells cs t (0, 0))) : w2.frozen? ⟨bg, 0, none⟩ = false ∧ w2.frozen? ⟨bg, 1, none⟩ = false ∧ w2.frozen? ⟨bg, 2, none⟩ = false ∧ w2.frozen? ⟨bg, 3, none⟩ = false ∧ w2.frozen? ⟨bg, 4, none⟩ = false ∧ w2.frozen? ⟨bg, 5, none⟩ = false ∧ w2.frozen? ⟨bg, 6, none⟩ = false ∧ w2.frozen? ⟨bg, 7, none⟩ = false ∧ w2.frozen? ⟨bg, 8, none⟩ = false ∧ w2.frozen? ⟨bg, 9, none⟩ = false ∧ w2.frozen? ⟨bg, 10, none⟩ = false ∧ w2.frozen? ⟨bg, 11, none⟩ = false ∧ w2.frozen? ⟨bg, 12, none⟩ = false ∧ w2.frozen? ⟨bg, 13, none⟩ = false :=
  ⟨fbox hB 0, fbox hB 1, fbox hB 2, fbox hB 3, fbox hB 4, fbox hB 5, fbox hB 6, fbox hB 7, fbox hB 8, fbox hB 9, fbox hB 10, fbox hB 11, fbox hB 12, fbox hB 13⟩
theorem pre_kept (w2 : World) (bg : Nat) (pz : Option Addr) (lz cz : Nat) : Kept (fun g => g = bg) w2 ((((((((((((((w2.setCell ⟨bg, 0, none⟩ (.bool true)).setCell ⟨bg, 1, none⟩ (.int .i64 (-1))).setCell ⟨bg, 2, none⟩ (.string ⟨#[]⟩)).setCell ⟨bg, 3, none⟩ (.int .i64 10)).setCell ⟨bg, 4, none⟩ (.int .i64 15)).setCell ⟨bg, 5, none⟩ (.int .i64 0)).setCell ⟨bg, 6, none⟩ (.int .i64 0)).setCell ⟨bg, 7, none⟩ (.int .i64 0)).setCell ⟨bg, 8, none⟩ (.int .i64 0)).setCell ⟨bg, 9, none⟩ (.int .i64 0)).setCell ⟨bg, 10, none⟩ (.int .i64 0)).setCell ⟨bg, 11, none⟩ (.slice none 0 0)).setCell ⟨bg, 12, none⟩ (.slice none 0 0)).setCell ⟨bg, 13, none⟩ (.slice pz lz cz)) := Kept.setCells w2 bg 0 [.bool true, .int .i64 (-1), .string ⟨#[]⟩, .int .i64 10, .int .i64 15, .int .i64 0, .int .i64 0, .int .i64 0, .int .i64 0, .int .i64 0, .int .i64 0, .slice none 0 0, .slice none 0 0, .slice pz lz cz]
theorem pre_put {w2 : World} {bg k : Nat} {pz : Option Addr} {lz cz : Nat} (hr : RowOf gvC 14 w2 bg 0 (List.replicate 8 gv0)) (ht : w2.there bg 0 (8 * 14)) : ((((((((((((((w2.setCell ⟨bg, 0, none⟩ (.bool true)).setCell ⟨bg, 1, none⟩ (.int .i64 (-1))).setCell ⟨bg, 2, none⟩ (.string ⟨#[]⟩)).setCell ⟨bg, 3, none⟩ (.int .i64 10)).setCell ⟨bg, 4, none⟩ (.int .i64 15)).setCell ⟨bg, 5, none⟩ (.int .i64 0)).setCell ⟨bg, 6, none⟩ (.int .i64 0)).setCell ⟨bg, 7, none⟩ (.int .i64 0)).setCell ⟨bg, 8, none⟩ (.int .i64 0)).setCell ⟨bg, 9, none⟩ (.int .i64 0)).setCell ⟨bg, 10, none⟩ (.int .i64 0)).setCell ⟨bg, 11, none⟩ (.slice none 0 0)).setCell ⟨bg, 12, none⟩ (.slice none 0 0)).setCell ⟨bg, 13, none⟩ (.slice pz lz cz)).there bg 0 (8 * 14) ∧ RowOf gvC 14 ((((((((((((((w2.setCell ⟨bg, 0, none⟩ (.bool true)).setCell ⟨bg, 1, none⟩ (.int .i64 (-1))).setCell ⟨bg, 2, none⟩ (.string ⟨#[]⟩)).setCell ⟨bg, 3, none⟩ (.int .i64 10)).setCell ⟨bg, 4, none⟩ (.int .i64 15)).setCell ⟨bg, 5, none⟩ (.int .i64 0)).setCell ⟨bg, 6, none⟩ (.int .i64 0)).setCell ⟨bg, 7, none⟩ (.int .i64 0)).setCell ⟨bg, 8, none⟩ (.int .i64 0)).setCell ⟨bg, 9, none⟩ (.int .i64 0)).setCell ⟨bg, 10, none⟩ (.int .i64 0)).setCell ⟨bg, 11, none⟩ (.slice none 0 0)).setCell ⟨bg, 12, none⟩ (.slice none 0 0)).setCell ⟨bg, 13, none⟩ (.slice pz lz cz)) bg 0 (newGs k (.slice pz lz cz)) :=
  put_mid (c := gvC) (n := 14) (m := 8) (k := 0) (s := 0) (xs := []) (ys := List.replicate 7 gv0) (e := gv0) (e' := newGv k (-1) ⟨#[]⟩ (.slice pz lz cz)) (cs := [.bool true, .int .i64 (-1), .string ⟨#[]⟩, .int .i64 10, .int .i64 15, .int .i64 0, .int .i64 0, .int .i64 0, .int .i64 0, .int .i64 0, .int .i64 0, .slice none 0 0, .slice none 0 0, .slice pz lz cz]) ht (by omega) hr rfl gvC_len (by simp) rfl
theorem Kept.cell_of {S : Nat → Prop} {w w1 : World} {b o : Nat} (h : Kept S w w1) (hb : b < w.heap.size) (hn : ¬ S b) : w1.cell? ⟨b, o, none⟩ = w.cell? ⟨b, o, none⟩ := World.cell?_of_block (h.block b hb hn)

set_option maxHeartbeats 40000000 in
set_option maxRecDepth 20000 in
theorem spec_worldNew (n : Nat) (w : World) (h1 : 1 ≤ n) (hn : n ≤ 4) :
    Calls Try.prog 4 #[.int .i64 n] w fun e w' => ∃ x y z zg, e = .returned (.tuple #[wvV (newD n x y z zg), .bool true]) ∧ OwnW w.heap.size w' (newD n x y z zg) ∧ Below w.heap.size w w' := by
  obtain ⟨i0, hi, hz0, hz1, hz2⟩ := info_parts info_task
  obtain ⟨i0', hi', hz0', hz1', hz2'⟩ := info_parts info_group
  obtain ⟨j0, hj, hy0, hy1, hy2⟩ := info_parts info_cpu
  have hmk := fun w => run_make (P := Try.prog) w 23 55 i0 _ Try.underlying23 hi hz0 .i64 .i64 12 12 (by omega) (by omega) (by rw [hz2]; omega) (by omega)
  have hmk' := fun w => run_make (P := Try.prog) w 24 41 i0' _ Try.underlying24 hi' hz0' .i64 .i64 8 8 (by omega) (by omega) (by rw [hz2']; omega) (by omega)
  simp only [hz1, hz1'] at hmk hmk'
  have b1 : (1 : Int) ≤ (n : Int) := by omega
  have b2 : (n : Int) ≤ 4 := by omega
  go_enter Try.func4, Try.ntmps4
  go_wp2
  rename_i Q K hK
  have cont : ∀ (bt bg bb : Nat) (W : World), Made w W bt bg bb #[.int .i64 0, .slice none 0 0, .slice (some ⟨bt, 0, none⟩) 12 12, .slice (some ⟨bg, 0, none⟩) 8 8] → K ⟨#[.int .i64 n, undef, .pointer (some ⟨w.heap.size, 0, none⟩), .bool false, .pointer (some ⟨bb, 0, none⟩), undef, .int .i64 n, .bool true, .bool false, undef, .slice (some ⟨bt, 0, none⟩) 12 12, .slice (some ⟨bg, 0, none⟩) 8 8, .agg #[.int .i64 0, .slice none 0 0, .slice (some ⟨bt, 0, none⟩) 12 12, .slice (some ⟨bg, 0, none⟩) 8 8], undef, undef, undef, undef, undef, undef, undef, undef, undef, undef, undef, undef, undef, undef, undef, undef, undef], []⟩ W := by
    clear hmk hmk'
    intro bt bg bb W hM
    obtain ⟨u1, u2, u3, u4⟩ := hM.under
    refine hK _ _ ?_
    clear hK
    go_wp2
    go_loopw [5] (fun i wr => ∃ (k : Nat) (v : Value), k ≤ n ∧ i = .int .i64 k ∧ wr.ownsRow W.heap.size 34 5 v k (cps k) ∧ wr.heap[bb]? = some (.cells #[.int .i64 0, v, .slice (some ⟨bt, 0, none⟩) 12 12, .slice (some ⟨bg, 0, none⟩) 8 8] 26 (0, 0)) ∧ Kept (fun g => g = bb) W wr) (fun i _ => n - (intOf i).toNat)
    case atStart => exact ⟨0, _, by omega, rfl, World.ownsRow_nil _ _ _ _, hM.box, Kept.refl _ _⟩
    case round =>
      obtain ⟨k, v, hk, rfl, hown, hG, kp⟩ := hrel
      by_cases hlt : k < n
      · have hlt' : (k : Int) < (n : Int) := by omega
        obtain ⟨o0, o1, o2, o3⟩ := wbox hG
        clear o0 o2 o3
        have hmx : k + 1 ≤ maxLen := by unfold maxLen; omega
        have HK : Hid (cps (k + 1) = cps k ++ [.bool true, .int .i64 (-1), .int .i64 0, .int .i64 0, .int .i64 0]) := cps_succ k
        have HG : Hid (wr.heap[bb]? = some (.cells #[.int .i64 0, v, .slice (some ⟨bt, 0, none⟩) 12 12, .slice (some ⟨bg, 0, none⟩) 8 8] 26 (0, 0))) := hG
        have hvn := own_ne' hown (b := bb) (by omega)
        have hks := kp.size
        clear hG
        go_wp2_with (at_builtin; refine wpList_append_lies _ rfl _ _ 22 rfl W.heap.size 34 j0 _ 5 40 Try.underlying22 hj hy0 hy1 hy2 rfl (by decide) v k (cps k) rfl (hown.alloc _) ⟨wr.heap.size, 0, none⟩ 1 1 [.bool true, .int .i64 (-1), .int .i64 0, .int .i64 0, .int .i64 0] rfl rfl (World.news_of_block (cs := #[.bool true, .int .i64 (-1), .int .i64 0, .int .i64 0, .int .i64 0]) (t := 34) (fr := (0, 0)) (heap_alloc_new wr _)) (by simp [Value.oneCell']) (by decide) hmx (by omega) (by simp; omega) (wr.heap.size + 1) (by simp) ?_; intro gg cap2 w1 hown1 hgrow hat hlt1; have d := block_grownA HG.out hgrow hvn; have d1 := (wbox d).2.1; have d1f := fbox d 1; have HD : Hid (w1.heap[bb]? = some (.cells #[.int .i64 0, v, .slice (some ⟨bt, 0, none⟩) 12 12, .slice (some ⟨bg, 0, none⟩) 8 8] 26 (0, 0))) := d; clear d)
        have hgg := (hown1.lt gg rfl).1
        refine ⟨⟨k + 1, .slice (some ⟨gg, 0, none⟩) (k + 1) cap2, hlt, by go_num, ?_, ?_, ?_⟩, by simp [intOf]; omega⟩
        · rw [HK.out]
          exact ownsRow_setCell_other hown1 (by simp [Value.ownBlock]; omega) _
        · exact heap_setCell_same _ _ _ _ _ _ HD.out
        · refine (((kp.trans (Kept.ofBelow ((Below.refl _ _).alloc (Nat.le_refl _) _))).trans (Kept.ofGrown hgrow)).trans (Kept.set w1 bb 1 _)).narrow ?_
          intro g hg hh
          rcases hh with ((hh | hh) | hh) | hh
          · exact hh
          · exact hh.elim
          · have := (hown.lt g hh).1; omega
          · exact hh
      · have hlt' : ¬ (k : Int) < (n : Int) := by omega
        obtain rfl : k = n := by omega
        have HO : Hid (OwnCp W.heap.size wr v (List.replicate k cp1)) := own_of_rowR cpC_len hown (by simp)
        have hform : ∃ p l c, v = .slice p l c := by
          obtain ⟨p, q, h⟩ := HO.out.form
          exact ⟨_, _, _, h⟩
        obtain ⟨px, lx, cx, rfl⟩ := hform
        clear hown
        obtain ⟨mt1, mt2⟩ := made_rows (c := tkC) (e0 := tk0) (n := 12) (m := 9) rfl rfl (kp.block_of hM.ts hM.tb)
        obtain ⟨mg1, mg2⟩ := made_rows (c := gvC) (e0 := gv0) (n := 8) (m := 14) rfl rfl (kp.block_of hM.gs hM.gb)
        have hRes := kp.block_of hM.res (by have := hM.lb; omega)
        have hks := kp.size
        have hMt := hM.lt
        have hMg := hM.lg
        have xN : ∀ g, (.slice px lx cx : Value).ownBlock = some g → g ≠ bt ∧ g ≠ bg ∧ w.heap.size < g ∧ g < wr.heap.size := fun g hg => by
          have := HO.out.at g hg
          omega
        obtain ⟨o0, o1, o2, o3⟩ := wbox hG
        have hcall : ∀ W', Calls Try.prog 10 #[.int .i64 k, .int .i64 (-1), .string ⟨#[]⟩] W' fun e w' => ∃ pz lz cz, e = .returned (.agg #[.bool true, .int .i64 (-1), .string ⟨#[]⟩, .int .i64 10, .int .i64 15, .int .i64 0, .int .i64 0, .int .i64 0, .int .i64 0, .int .i64 0, .int .i64 0, .slice none 0 0, .slice none 0 0, .slice pz lz cz]) ∧ OwnSh (W'.heap.size + 2) w' (.slice pz lz cz) (List.replicate k sh1) ∧ Below W'.heap.size W' w' := fun W' => (spec_group k (-1) ⟨#[]⟩ W' hn).mono (fun e w' h => by
          obtain ⟨z, he, hz, hb⟩ := h
          obtain ⟨pz, cz, rfl⟩ := hz.form
          exact ⟨pz, _, cz, he, hz, hb⟩)
        have hGB := kp.block_of hM.gs hM.gb
        have HGB : Hid _ := hGB
        have HMG : Hid (RowOf gvC 14 wr bg 0 (List.replicate 8 gv0) ∧ wr.there bg 0 (8 * 14)) := ⟨mg1, mg2⟩
        have HMT : Hid (RowOf tkC 9 wr bt 0 (List.replicate 12 tk0) ∧ wr.there bt 0 (12 * 9)) := ⟨mt1, mt2⟩
        have HBX : Hid (wr.heap[bb]? = some (.cells #[.int .i64 0, .slice px lx cx, .slice (some ⟨bt, 0, none⟩) 12 12, .slice (some ⟨bg, 0, none⟩) 8 8] 26 (0, 0))) := hG
        have HRS : Hid (wr.heap[w.heap.size]? = some (.cells #[.int .i64 0, .slice none 0 0, .slice none 0 0, .slice none 0 0] 26 (0, 0))) := hRes
        clear hGB mg1 mg2 mt1 mt2 hG hRes o0 o1 o2
        have hpre : ∀ w2, Below wr.heap.size wr w2 → ∀ pz lz cz, w2.cell? ⟨bg, 0, none⟩ = some (.bool false) ∧ w2.cell? ⟨bg, 1, none⟩ = some (.int .i64 0) ∧ w2.cell? ⟨bg, 2, none⟩ = some (.string ⟨#[]⟩) ∧ w2.cell? ⟨bg, 3, none⟩ = some (.int .i64 0) ∧ w2.cell? ⟨bg, 4, none⟩ = some (.int .i64 0) ∧ w2.cell? ⟨bg, 5, none⟩ = some (.int .i64 0) ∧ w2.cell? ⟨bg, 6, none⟩ = some (.int .i64 0) ∧ w2.cell? ⟨bg, 7, none⟩ = some (.int .i64 0) ∧ w2.cell? ⟨bg, 8, none⟩ = some (.int .i64 0) ∧ w2.cell? ⟨bg, 9, none⟩ = some (.int .i64 0) ∧ w2.cell? ⟨bg, 10, none⟩ = some (.int .i64 0) ∧ w2.cell? ⟨bg, 11, none⟩ = some (.slice none 0 0) ∧ w2.cell? ⟨bg, 12, none⟩ = some (.slice none 0 0) ∧ w2.cell? ⟨bg, 13, none⟩ = some (.slice none 0 0) ∧ w2.frozen? ⟨bg, 0, none⟩ = false ∧ w2.frozen? ⟨bg, 1, none⟩ = false ∧ w2.frozen? ⟨bg, 2, none⟩ = false ∧ w2.frozen? ⟨bg, 3, none⟩ = false ∧ w2.frozen? ⟨bg, 4, none⟩ = false ∧ w2.frozen? ⟨bg, 5, none⟩ = false ∧ w2.frozen? ⟨bg, 6, none⟩ = false ∧ w2.frozen? ⟨bg, 7, none⟩ = false ∧ w2.frozen? ⟨bg, 8, none⟩ = false ∧ w2.frozen? ⟨bg, 9, none⟩ = false ∧ w2.frozen? ⟨bg, 10, none⟩ = false ∧ w2.frozen? ⟨bg, 11, none⟩ = false ∧ w2.frozen? ⟨bg, 12, none⟩ = false ∧ w2.frozen? ⟨bg, 13, none⟩ = false ∧ w2.cell? ⟨bb, 3, none⟩ = some (.slice (some ⟨bg, 0, none⟩) 8 8) ∧ ((((((((((((((w2.setCell ⟨bg, 0, none⟩ (.bool true)).setCell ⟨bg, 1, none⟩ (.int .i64 (-1))).setCell ⟨bg, 2, none⟩ (.string ⟨#[]⟩)).setCell ⟨bg, 3, none⟩ (.int .i64 10)).setCell ⟨bg, 4, none⟩ (.int .i64 15)).setCell ⟨bg, 5, none⟩ (.int .i64 0)).setCell ⟨bg, 6, none⟩ (.int .i64 0)).setCell ⟨bg, 7, none⟩ (.int .i64 0)).setCell ⟨bg, 8, none⟩ (.int .i64 0)).setCell ⟨bg, 9, none⟩ (.int .i64 0)).setCell ⟨bg, 10, none⟩ (.int .i64 0)).setCell ⟨bg, 11, none⟩ (.slice none 0 0)).setCell ⟨bg, 12, none⟩ (.slice none 0 0)).setCell ⟨bg, 13, none⟩ (.slice pz lz cz)).cell? ⟨bb, 3, none⟩ = some (.slice (some ⟨bg, 0, none⟩) 8 8) := by
          intro w2 hb3 pz lz cz
          have g0 := (hb3.cell (p := ⟨bb, 3, none⟩) (by show bb < _; omega)).trans o3
          have hB2 := (hb3.block bg (by omega)).trans HGB.out
          obtain ⟨x0, x1, x2, x3, x4, x5, x6, x7, x8, x9, x10, x11, x12, x13⟩ := pre_cells (HMG.out.1.below hb3)
          obtain ⟨f0, f1, f2, f3, f4, f5, f6, f7, f8, f9, f10, f11, f12, f13⟩ := pre_frozen hB2
          have z2 := hb3.size
          have g1 := (Kept.cell_of (o := 3) (pre_kept w2 bg pz lz cz) (b := bb) (by omega) (fun h => hM.gb h.symm)).trans g0
          exact ⟨x0, x1, x2, x3, x4, x5, x6, x7, x8, x9, x10, x11, x12, x13, f0, f1, f2, f3, f4, f5, f6, f7, f8, f9, f10, f11, f12, f13, g0, g1⟩
        have HPRE : Hid _ := hpre
        clear hpre
        go_wp2
        go_region_held3 (fun w' => w'.cell? ⟨bb, 3, none⟩ = some (.slice (some ⟨bg, 0, none⟩) 8 8)) (go_keep) (first | (go_at_call 10; refine (hcall _).mono ?_; rintro e w2 ⟨pz, lz, cz, rfl, hoz, hb2⟩; have hb3 := (Below.refl wr.heap.size wr).drew.trans hb2; obtain ⟨x0, x1, x2, x3, x4, x5, x6, x7, x8, x9, x10, x11, x12, x13, f0, f1, f2, f3, f4, f5, f6, f7, f8, f9, f10, f11, f12, f13, g0, g1⟩ := HPRE.out w2 hb3 pz lz cz; clear HPRE))
        clear hcall
        have z2 := hb3.size
        have hk3 := pre_kept w2 bg pz lz cz
        obtain ⟨p1, p2⟩ := pre_put (k := k) (pz := pz) (lz := lz) (cz := cz) (HMG.out.1.below hb3) (there_below HMG.out.2 hb3 (by omega))
        have HP1 : Hid (((((((((((((((w2.setCell ⟨bg, 0, none⟩ (.bool true)).setCell ⟨bg, 1, none⟩ (.int .i64 (-1))).setCell ⟨bg, 2, none⟩ (.string ⟨#[]⟩)).setCell ⟨bg, 3, none⟩ (.int .i64 10)).setCell ⟨bg, 4, none⟩ (.int .i64 15)).setCell ⟨bg, 5, none⟩ (.int .i64 0)).setCell ⟨bg, 6, none⟩ (.int .i64 0)).setCell ⟨bg, 7, none⟩ (.int .i64 0)).setCell ⟨bg, 8, none⟩ (.int .i64 0)).setCell ⟨bg, 9, none⟩ (.int .i64 0)).setCell ⟨bg, 10, none⟩ (.int .i64 0)).setCell ⟨bg, 11, none⟩ (.slice none 0 0)).setCell ⟨bg, 12, none⟩ (.slice none 0 0)).setCell ⟨bg, 13, none⟩ (.slice pz lz cz)).there bg 0 (8 * 14)) := p1
        have HP2 : Hid (RowOf gvC 14 ((((((((((((((w2.setCell ⟨bg, 0, none⟩ (.bool true)).setCell ⟨bg, 1, none⟩ (.int .i64 (-1))).setCell ⟨bg, 2, none⟩ (.string ⟨#[]⟩)).setCell ⟨bg, 3, none⟩ (.int .i64 10)).setCell ⟨bg, 4, none⟩ (.int .i64 15)).setCell ⟨bg, 5, none⟩ (.int .i64 0)).setCell ⟨bg, 6, none⟩ (.int .i64 0)).setCell ⟨bg, 7, none⟩ (.int .i64 0)).setCell ⟨bg, 8, none⟩ (.int .i64 0)).setCell ⟨bg, 9, none⟩ (.int .i64 0)).setCell ⟨bg, 10, none⟩ (.int .i64 0)).setCell ⟨bg, 11, none⟩ (.slice none 0 0)).setCell ⟨bg, 12, none⟩ (.slice none 0 0)).setCell ⟨bg, 13, none⟩ (.slice pz lz cz)) bg 0 (newGs k (.slice pz lz cz))) := p2
        have HK3 : Hid (Kept (fun g => g = bg) w2 ((((((((((((((w2.setCell ⟨bg, 0, none⟩ (.bool true)).setCell ⟨bg, 1, none⟩ (.int .i64 (-1))).setCell ⟨bg, 2, none⟩ (.string ⟨#[]⟩)).setCell ⟨bg, 3, none⟩ (.int .i64 10)).setCell ⟨bg, 4, none⟩ (.int .i64 15)).setCell ⟨bg, 5, none⟩ (.int .i64 0)).setCell ⟨bg, 6, none⟩ (.int .i64 0)).setCell ⟨bg, 7, none⟩ (.int .i64 0)).setCell ⟨bg, 8, none⟩ (.int .i64 0)).setCell ⟨bg, 9, none⟩ (.int .i64 0)).setCell ⟨bg, 10, none⟩ (.int .i64 0)).setCell ⟨bg, 11, none⟩ (.slice none 0 0)).setCell ⟨bg, 12, none⟩ (.slice none 0 0)).setCell ⟨bg, 13, none⟩ (.slice pz lz cz))) := hk3
        clear p1 p2 hk3 x0 x1 x2 x3 x4 x5 x6 x7 x8 x9 x10 x11 x12 x13 f0 f1 f2 f3 f4 f5 f6 f7 f8 f9 f10 f11 f12 f13 g0 g1 o3
        simp only [Exit.then]
        go_at_K
        generalize ((((((((((((((w2.setCell ⟨bg, 0, none⟩ (.bool true)).setCell ⟨bg, 1, none⟩ (.int .i64 (-1))).setCell ⟨bg, 2, none⟩ (.string ⟨#[]⟩)).setCell ⟨bg, 3, none⟩ (.int .i64 10)).setCell ⟨bg, 4, none⟩ (.int .i64 15)).setCell ⟨bg, 5, none⟩ (.int .i64 0)).setCell ⟨bg, 6, none⟩ (.int .i64 0)).setCell ⟨bg, 7, none⟩ (.int .i64 0)).setCell ⟨bg, 8, none⟩ (.int .i64 0)).setCell ⟨bg, 9, none⟩ (.int .i64 0)).setCell ⟨bg, 10, none⟩ (.int .i64 0)).setCell ⟨bg, 11, none⟩ (.slice none 0 0)).setCell ⟨bg, 12, none⟩ (.slice none 0 0)).setCell ⟨bg, 13, none⟩ (.slice pz lz cz)) = w3 at *
        have hB3 := HK3.out.block_of ((Kept.ofBelow hb3).block_of HBX.out (fun h => h)) (fun h => hM.gb h.symm)
        have hR3 := HK3.out.block_of ((Kept.ofBelow hb3).block_of HRS.out (fun h => h)) (fun h => by have := hM.lg; omega)
        obtain ⟨o0, o1, o2, o3⟩ := wbox hB3
        obtain ⟨r0, r1, r2, r3⟩ := wbox hR3
        have r0f := fbox hR3 0
        have r1f := fbox hR3 1
        have r2f := fbox hR3 2
        have r3f := fbox hR3 3
        have hth4 : w3.there w.heap.size 0 4 := there_of_block hR3
        have HTH : Hid (w3.there w.heap.size 0 4) := hth4
        clear hB3 hR3 hth4
        go_wp2_with fail
        have hk4 := Kept.setCells w3 w.heap.size 0 [.int .i64 0, .slice px lx cx, .slice (some ⟨bt, 0, none⟩) 12 12, .slice (some ⟨bg, 0, none⟩) 8 8]
        refine bodyPost_ret (results_mid2 rfl _ _ w.heap.size 0 [.int .i64 0, .slice px lx cx, .slice (some ⟨bt, 0, none⟩) 12 12, .slice (some ⟨bg, 0, none⟩) 8 8] _ rfl (World.rangeAt_setCells_same w3 w.heap.size 0 [.int .i64 0, .slice px lx cx, .slice (some ⟨bt, 0, none⟩) 12 12, .slice (some ⟨bg, 0, none⟩) 8 8] HTH.out) Try.underlying26 rfl info_world) rfl ?_
        have hk34 := HK3.out.trans hk4
        have hls := hM.lt
        have hgs := hM.lg
        have z3 := HK3.out.size
        have z4 := hk4.size
        have asz := hM.acc.size
        have hus := hM.under
        have zA := hoz.at
        have zsz : wr.drew.heap.size = wr.heap.size := rfl
        rw [zsz] at zA
        refine ⟨.slice px lx cx, .slice (some ⟨bt, 0, none⟩) 12 12, .slice (some ⟨bg, 0, none⟩) 8 8, .slice pz lz cz, rfl, new_own (((HO.out.below hb3).kept hk34 (fun g hg hh => ?_)).mono (by omega)) (.inr ⟨bt, 12, by omega, Nat.lt_of_lt_of_le (by omega) hk4.size, rfl, ?_, ?_, by simp, by unfold maxLen; omega⟩) (.inr ⟨bg, 8, by omega, Nat.lt_of_lt_of_le (by omega) hk4.size, rfl, HP2.out.kept hk4 (by omega), hk4.there (by omega) (by omega) HP1.out, by simp [newGs], by unfold maxLen; omega⟩) ((hoz.kept hk34 (fun g hg hh => ?_)).mono (by rw [zsz]; omega)) ?_ ?_ ?_ ?_ ?_ ?_, ?_⟩
        · obtain ⟨_, _, _, _⟩ := xN g hg; omega
        · exact (HMT.out.1.below hb3).kept hk34 (by have := hM.tg; omega)
        · exact hk34.there (by omega) (by have := hM.tg; omega) (there_below HMT.out.2 hb3 (by omega))
        · have := (zA g hg).1; omega
        · intro g hg hh; obtain ⟨_, _, _, _⟩ := xN g hg; simp [Value.ownBlock] at hh; omega
        · intro g hg hh; obtain ⟨_, _, _, _⟩ := xN g hg; simp [Value.ownBlock] at hh; omega
        · intro g hg hh; obtain ⟨_, _, _, _⟩ := xN g hg; have := (zA g hh).1; omega
        · intro g hg hh; simp [Value.ownBlock] at hg hh; have := hM.tg; omega
        · intro g hg hh; simp [Value.ownBlock] at hg; have := (zA g hh).1; omega
        · intro g hg hh; simp [Value.ownBlock] at hg; have := (zA g hh).1; omega
        · have a1 := hM.acc.trans (kp.toBelow asz (fun g hg => by have := hM.lb; omega))
          have a2 := a1.trans (hb3.mono a1.size)
          exact a2.trans (hk34.toBelow a2.size (fun g hg => by omega))

  go_region_with (fail)
  all_goals first | (obtain ⟨e0, e1, e2, e3, e4, e5⟩ := four_at w (.cells #[.int .i64 0, .slice none 0 0, .slice none 0 0, .slice none 0 0] 26 (0, 0)) (.cells (madeCells #[.int .i64 0, .int .i64 0, .int .i64 0, .int .i64 0, .int .i64 0, .int .i64 0, .int .i64 0, .int .i64 0, .int .i64 0] 108) 55 (0, 0)) (.cells (madeCells #[.bool false, .int .i64 0, .string ⟨#[]⟩, .int .i64 0, .int .i64 0, .int .i64 0, .int .i64 0, .int .i64 0, .int .i64 0, .int .i64 0, .int .i64 0, .slice none 0 0, .slice none 0 0, .slice none 0 0] 112) 41 (0, 0)) (.cells #[.int .i64 0, .slice none 0 0, .slice (some ⟨w.heap.size + 1, 0, none⟩) 12 12, .slice (some ⟨w.heap.size + 1 + 1, 0, none⟩) 8 8] 26 (0, 0)); exact cont (w.heap.size + 1) (w.heap.size + 1 + 1) (w.heap.size + 1 + 1 + 1) _ ⟨e0, e3, e1, e2, by omega, by omega, by omega, by omega, by omega, by omega, e4⟩) | (obtain ⟨e0, e1, e2, e3, e4, e5⟩ := four_at w (.cells #[.int .i64 0, .slice none 0 0, .slice none 0 0, .slice none 0 0] 26 (0, 0)) (.cells (madeCells #[.int .i64 0, .int .i64 0, .int .i64 0, .int .i64 0, .int .i64 0, .int .i64 0, .int .i64 0, .int .i64 0, .int .i64 0] 108) 55 (0, 0)) (.cells #[.int .i64 0, .slice none 0 0, .slice (some ⟨w.heap.size + 1, 0, none⟩) 12 12, .slice (some ⟨w.heap.size + 1 + 1 + 1, 0, none⟩) 8 8] 26 (0, 0)) (.cells (madeCells #[.bool false, .int .i64 0, .string ⟨#[]⟩, .int .i64 0, .int .i64 0, .int .i64 0, .int .i64 0, .int .i64 0, .int .i64 0, .int .i64 0, .int .i64 0, .slice none 0 0, .slice none 0 0, .slice none 0 0] 112) 41 (0, 0)); exact cont (w.heap.size + 1) (w.heap.size + 1 + 1 + 1) (w.heap.size + 1 + 1) _ ⟨e0, e2, e1, e3, by omega, by omega, by omega, by omega, by omega, by omega, e4⟩) | (obtain ⟨e0, e1, e2, e3, e4, e5⟩ := four_at w (.cells #[.int .i64 0, .slice none 0 0, .slice none 0 0, .slice none 0 0] 26 (0, 0)) (.cells (madeCells #[.bool false, .int .i64 0, .string ⟨#[]⟩, .int .i64 0, .int .i64 0, .int .i64 0, .int .i64 0, .int .i64 0, .int .i64 0, .int .i64 0, .int .i64 0, .slice none 0 0, .slice none 0 0, .slice none 0 0] 112) 41 (0, 0)) (.cells (madeCells #[.int .i64 0, .int .i64 0, .int .i64 0, .int .i64 0, .int .i64 0, .int .i64 0, .int .i64 0, .int .i64 0, .int .i64 0] 108) 55 (0, 0)) (.cells #[.int .i64 0, .slice none 0 0, .slice (some ⟨w.heap.size + 1 + 1, 0, none⟩) 12 12, .slice (some ⟨w.heap.size + 1, 0, none⟩) 8 8] 26 (0, 0)); exact cont (w.heap.size + 1 + 1) (w.heap.size + 1) (w.heap.size + 1 + 1 + 1) _ ⟨e0, e3, e2, e1, by omega, by omega, by omega, by omega, by omega, by omega, e4⟩) | (obtain ⟨e0, e1, e2, e3, e4, e5⟩ := four_at w (.cells #[.int .i64 0, .slice none 0 0, .slice none 0 0, .slice none 0 0] 26 (0, 0)) (.cells #[.int .i64 0, .slice none 0 0, .slice (some ⟨w.heap.size + 1 + 1, 0, none⟩) 12 12, .slice (some ⟨w.heap.size + 1 + 1 + 1, 0, none⟩) 8 8] 26 (0, 0)) (.cells (madeCells #[.int .i64 0, .int .i64 0, .int .i64 0, .int .i64 0, .int .i64 0, .int .i64 0, .int .i64 0, .int .i64 0, .int .i64 0] 108) 55 (0, 0)) (.cells (madeCells #[.bool false, .int .i64 0, .string ⟨#[]⟩, .int .i64 0, .int .i64 0, .int .i64 0, .int .i64 0, .int .i64 0, .int .i64 0, .int .i64 0, .int .i64 0, .slice none 0 0, .slice none 0 0, .slice none 0 0] 112) 41 (0, 0)); exact cont (w.heap.size + 1 + 1) (w.heap.size + 1 + 1 + 1) (w.heap.size + 1) _ ⟨e0, e1, e2, e3, by omega, by omega, by omega, by omega, by omega, by omega, e4⟩) | (obtain ⟨e0, e1, e2, e3, e4, e5⟩ := four_at w (.cells #[.int .i64 0, .slice none 0 0, .slice none 0 0, .slice none 0 0] 26 (0, 0)) (.cells (madeCells #[.bool false, .int .i64 0, .string ⟨#[]⟩, .int .i64 0, .int .i64 0, .int .i64 0, .int .i64 0, .int .i64 0, .int .i64 0, .int .i64 0, .int .i64 0, .slice none 0 0, .slice none 0 0, .slice none 0 0] 112) 41 (0, 0)) (.cells #[.int .i64 0, .slice none 0 0, .slice (some ⟨w.heap.size + 1 + 1 + 1, 0, none⟩) 12 12, .slice (some ⟨w.heap.size + 1, 0, none⟩) 8 8] 26 (0, 0)) (.cells (madeCells #[.int .i64 0, .int .i64 0, .int .i64 0, .int .i64 0, .int .i64 0, .int .i64 0, .int .i64 0, .int .i64 0, .int .i64 0] 108) 55 (0, 0)); exact cont (w.heap.size + 1 + 1 + 1) (w.heap.size + 1) (w.heap.size + 1 + 1) _ ⟨e0, e2, e3, e1, by omega, by omega, by omega, by omega, by omega, by omega, e4⟩) | (obtain ⟨e0, e1, e2, e3, e4, e5⟩ := four_at w (.cells #[.int .i64 0, .slice none 0 0, .slice none 0 0, .slice none 0 0] 26 (0, 0)) (.cells #[.int .i64 0, .slice none 0 0, .slice (some ⟨w.heap.size + 1 + 1 + 1, 0, none⟩) 12 12, .slice (some ⟨w.heap.size + 1 + 1, 0, none⟩) 8 8] 26 (0, 0)) (.cells (madeCells #[.bool false, .int .i64 0, .string ⟨#[]⟩, .int .i64 0, .int .i64 0, .int .i64 0, .int .i64 0, .int .i64 0, .int .i64 0, .int .i64 0, .int .i64 0, .slice none 0 0, .slice none 0 0, .slice none 0 0] 112) 41 (0, 0)) (.cells (madeCells #[.int .i64 0, .int .i64 0, .int .i64 0, .int .i64 0, .int .i64 0, .int .i64 0, .int .i64 0, .int .i64 0, .int .i64 0] 108) 55 (0, 0)); exact cont (w.heap.size + 1 + 1 + 1) (w.heap.size + 1 + 1) (w.heap.size + 1) _ ⟨e0, e1, e3, e2, by omega, by omega, by omega, by omega, by omega, by omega, e4⟩)
end Go.Proofs.Ytocgndefjjomjaa
