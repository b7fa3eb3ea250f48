/- Rows of groups: what copies, compares and measures them; such rows that came in, opened. -/
import Derived.Test.YtollijjmmpoonaaGR
namespace Go.Proofs.Ytollijjmmpoonaa
set_option linter.unusedVariables false
set_option linter.unusedSimpArgs false
open Go.ChangeShapes Go.WideShapes Go.ChangeAt Go.RowKit

/-- a slice that holds these groups, and theirs hold their rows. -/
def SlG (W : World) (x : Value) (vs : List Gv) : Prop := SlR gvC 14 W x vs ∧ ∀ v ∈ vs, GvOk W v
/-- such a slice and all rows in blocks of their own, not below B. -/
def NewG (B : Nat) (W : World) (x : Value) (vs : List Gv) : Prop := NewR gvC 14 B W x vs ∧ (∀ v ∈ vs, OwnGv B W v ∧ ∀ g, x.ownBlock = some g → OwnGv (g + 1) W v) ∧ (blkGs vs).Nodup
def GsFit (vs : List Gv) : Prop := vs.length ≤ 1048576 ∧ ∀ v ∈ vs, GrFit v.d
def gsD (vs : List Gv) : List Gr := vs.map (·.d)
theorem SlG.below {W W' : World} {x : Value} {vs : List Gv} (h : SlG W x vs) (hb : Below W.heap.size W W') : SlG W' x vs := ⟨h.1.below hb, fun v hv => (h.2 v hv).below hb⟩
theorem NewG.below {B : Nat} {W W' : World} {x : Value} {vs : List Gv} (h : NewG B W x vs) (hb : Below W.heap.size W W') : NewG B W' x vs :=
  ⟨h.1.below hb, fun v hv => ⟨(h.2.1 v hv).1.below hb, fun g hg => ((h.2.1 v hv).2 g hg).below hb⟩, h.2.2⟩
theorem NewG.sl {B : Nat} {W : World} {x : Value} {vs : List Gv} (h : NewG B W x vs) (hf : GsFit vs) : SlG W x vs := ⟨h.1.sl hf.1, fun v hv => (h.2.1 v hv).1.ok (hf.2 v hv)⟩
theorem GsFit.of_same {vs vs' : List Gv} (h : GsFit vs) (he : gsD vs' = gsD vs) : GsFit vs' := by
  have hl : vs'.length = vs.length := by simpa [gsD] using congrArg List.length he
  refine ⟨by rw [hl]; exact h.1, fun v hv => ?_⟩
  have hm : v.d ∈ gsD vs' := List.mem_map.2 ⟨v, hv, rfl⟩
  rw [he] at hm
  obtain ⟨u, hu, e⟩ := List.mem_map.1 hm
  rw [← e]
  exact h.2 u hu
theorem info_gv : (Try.prog.info? 50).map (fun i => (i.zero, i.size, i.bytes)) = some (some (.agg #[.bool false, .int .i64 0, .string ⟨#[]⟩, .int .i64 0, .int .i64 0, .int .i64 0, .int .i64 0, .int .i64 0, .int .i64 0, .int .i64 0, .int .i64 0, .slice none 0 0, .slice none 0 0, .slice none 0 0]), 14, 168) := by kernel_rfl
theorem setCells_fourteen (W : World) (b k : Nat) (e : Gv) : W.setCells b (k * 14) (gvC e) = ((((((((((((((W).setCell ⟨b, k * 14, none⟩ (.bool e.d.us)).setCell ⟨b, k * 14 + 1, none⟩ (.int .i64 e.d.pa)).setCell ⟨b, k * 14 + 2, none⟩ (.string e.d.na)).setCell ⟨b, k * 14 + 3, none⟩ (.int .i64 e.d.we)).setCell ⟨b, k * 14 + 4, none⟩ (.int .i64 e.d.cp)).setCell ⟨b, k * 14 + 5, none⟩ (.int .i64 e.d.pe)).setCell ⟨b, k * 14 + 6, none⟩ (.int .i64 e.d.ne)).setCell ⟨b, k * 14 + 7, none⟩ (.int .i64 e.d.su)).setCell ⟨b, k * 14 + 8, none⟩ (.int .i64 e.d.ba.qu)).setCell ⟨b, k * 14 + 9, none⟩ (.int .i64 e.d.ba.po)).setCell ⟨b, k * 14 + 10, none⟩ (.int .i64 e.d.ba.sp)).setCell ⟨b, k * 14 + 11, none⟩ (e.x)).setCell ⟨b, k * 14 + 12, none⟩ (e.y)).setCell ⟨b, k * 14 + 13, none⟩ (e.z) := rfl
theorem OwnGv.set {B : Nat} {W : World} {e : Gv} (h : OwnGv B W e) (b o : Nat) (vs : List Value) (hb : b < B) : OwnGv B (W.setCells b o vs) e := h.kept (Kept.setCells W b o vs) (fun g hg hh => by omega)

set_option maxHeartbeats 8000000 in
theorem toGroupS_any (sl : Value) (vs : List Gv) (w : World) (hs : SlG w sl vs) (hf : GsFit vs) :
    Calls Try.prog 11 #[sl] w fun e w' => ∃ sl' vs', e = .returned sl' ∧ gsD vs' = gsD vs ∧ NewG w.heap.size w' sl' vs' ∧ Below w.heap.size w w' := by
  obtain ⟨hn, hfe⟩ := hf
  obtain ⟨hs, hok⟩ := hs
  obtain ⟨i0, hi, hz0, hz1, hz2⟩ := info_parts info_gv
  have hmk := run_make (P := Try.prog) w 25 50 i0 _ Try.underlying25 hi hz0 .i64 .i64 vs.length vs.length (by omega) (by omega) (by rw [hz2]; omega) (by omega)
  rw [hz1] at hmk
  rcases hs with ⟨rfl, a, cap, rfl⟩ | ⟨g, o, cap, rfl, hE, hl, hm⟩
  · rw [show (((([] : List Gv).length : Nat)) : Int) = 0 from rfl] at hmk
    go_enter Try.func11, Try.ntmps11
    go_wp2
    refine wp_loop_rounds 1 ?_
    rw [rounds_succ]
    go_wp2
    go_ret
    exact ⟨_, [], rfl, rfl, ⟨⟨_, Nat.le_refl _, by simp, rfl, fun i e he => by simp at he, fun j hj => by simp at hj⟩, fun v hv => (by cases hv), List.nodup_nil⟩, (Below.refl _ _).alloc (Nat.le_refl _) _⟩
  · unfold maxLen at hm
    go_enter Try.func11, Try.ntmps11
    go_wp2
    clear hmk
    go_loopw [4] (fun i wr => ∃ (k : Nat) (us : List Gv), k ≤ vs.length ∧ i = .int .i64 k ∧ Below w.heap.size w wr ∧ w.heap.size < wr.heap.size ∧ wr.there w.heap.size 0 (vs.length * 14) ∧ RowOf gvC 14 wr w.heap.size 0 us ∧ gsD us = (gsD vs).take k ∧ (blkGs us).Nodup ∧ ∀ u ∈ us, OwnGv (w.heap.size + 1) wr u) (fun i _ => vs.length - (intOf i).toNat)
    case atStart => exact ⟨0, [], by omega, rfl, (Below.refl _ _).alloc (Nat.le_refl _) _, by simp, there_made _ _ _ (size_madeCells _ _), fun j e hj => by simp at hj, rfl, List.nodup_nil, fun u hu => by cases hu⟩
    case round =>
      obtain ⟨k, us, hk, rfl, acc, hwz, hth, hrow, hus, hnd, hown⟩ := hrel
      by_cases hlt : k < vs.length
      · have hlt' : (k : Int) < (vs.length : Int) := by omega
        obtain ⟨e, he⟩ := row_get hlt
        have hmem : e ∈ vs := List.mem_of_getElem? he
        have hoke := (hok e hmem).below acc
        have hfit := hfe e hmem
        obtain ⟨x0, x1, x2, x3, x4, x5, x6, x7, x8, x9, x10, x11, x12, x13⟩ := gv_cells (hE.below acc k e he)
        have hul : us.length = k := by
          have := congrArg List.length hus
          simp [gsD] at this
          omega
        have hnx : (gsD vs).take (k + 1) = (gsD vs).take k ++ [e.d] := by rw [List.take_add_one]; simp [gsD, he]
        have HR : Hid (RowOf gvC 14 wr w.heap.size 0 us) := hrow
        have HT : Hid (wr.there w.heap.size 0 (vs.length * 14)) := hth
        have HO : Hid (∀ u ∈ us, OwnGv (w.heap.size + 1) wr u) := hown
        have HU : Hid (gsD us = (gsD vs).take k) := hus
        have HX : Hid ((gsD vs).take (k + 1) = (gsD vs).take k ++ [e.d]) := hnx
        have HL : Hid (us.length = k) := hul
        have HND : Hid ((blkGs us).Nodup) := hnd
        clear he hrow hth hown hus hnx hul hok hfe hmem hnd
        go_wp2_with fail
        refine (toGroup_any e _ hoke hfit).mono ?_
        rintro e1 w2 ⟨e', rfl, hd, hown2, hb2⟩
        have hth2 := there_below HT.out hb2 hwz
        obtain ⟨c0, k0, f0⟩ := there_at hth2 hlt 0 (by omega)
        obtain ⟨c1, k1, f1⟩ := there_at hth2 hlt 1 (by omega)
        obtain ⟨c2, k2, f2⟩ := there_at hth2 hlt 2 (by omega)
        obtain ⟨c3, k3, f3⟩ := there_at hth2 hlt 3 (by omega)
        obtain ⟨c4, k4, f4⟩ := there_at hth2 hlt 4 (by omega)
        obtain ⟨c5, k5, f5⟩ := there_at hth2 hlt 5 (by omega)
        obtain ⟨c6, k6, f6⟩ := there_at hth2 hlt 6 (by omega)
        obtain ⟨c7, k7, f7⟩ := there_at hth2 hlt 7 (by omega)
        obtain ⟨c8, k8, f8⟩ := there_at hth2 hlt 8 (by omega)
        obtain ⟨c9, k9, f9⟩ := there_at hth2 hlt 9 (by omega)
        obtain ⟨c10, k10, f10⟩ := there_at hth2 hlt 10 (by omega)
        obtain ⟨c11, k11, f11⟩ := there_at hth2 hlt 11 (by omega)
        obtain ⟨c12, k12, f12⟩ := there_at hth2 hlt 12 (by omega)
        obtain ⟨c13, k13, f13⟩ := there_at hth2 hlt 13 (by omega)
        simp only [Nat.add_zero] at k0 f0
        have HT2 : Hid (w2.there w.heap.size 0 (vs.length * 14)) := hth2
        have HO2 : Hid (OwnGv wr.heap.size w2 e') := hown2
        obtain ⟨px, cx, ex⟩ := hown2.1.1.form
        obtain ⟨py, cy, ey⟩ := hown2.1.2.1.form
        obtain ⟨pz, cz, ez, _⟩ := (hown2.2.1.sl (by rw [hd]; exact hfit.2.2.2)).form
        have e14 := setCells_fourteen w2 w.heap.size k e'
        have HE14 : Hid (w2.setCells w.heap.size (k * 14) (gvC e') = _) := e14
        have HD : Hid (e'.d = e.d) := hd
        clear hth2 hown2 e14 hd
        unfold gvV
        rw [ex, ey, ez]
        simp only []
        go_at_K
        go_wp2_with fail
        obtain ⟨p1, p2⟩ := put_row (c := gvC) (x := e') HT2.out hlt (HR.out.below hb2) HL.out gvC_len
        rw [HE14.out, ex, ey, ez] at p1 p2
        have hown3 : ∀ u ∈ us ++ [e'], OwnGv (w.heap.size + 1) (w2.setCells w.heap.size (k * 14) (gvC e')) u := by
          intro u hu
          rcases List.mem_append.1 hu with h | h
          · exact (((HO.out u h).below hb2).set _ _ _ (by omega))
          · obtain rfl : u = e' := by simpa using h
            exact (HO2.out.mono hwz).set _ _ _ (by omega)
        rw [HE14.out, ex, ey, ez] at hown3
        refine ⟨⟨k + 1, us ++ [e'], hlt, by go_num, ?_, ?_, p1, p2, ?_, ?_, hown3⟩, by simp [intOf]; omega⟩
        · exact (((((((((((((((acc.trans (hb2.mono acc.size))).setCell (Nat.le_refl _) _).setCell (Nat.le_refl _) _).setCell (Nat.le_refl _) _).setCell (Nat.le_refl _) _).setCell (Nat.le_refl _) _).setCell (Nat.le_refl _) _).setCell (Nat.le_refl _) _).setCell (Nat.le_refl _) _).setCell (Nat.le_refl _) _).setCell (Nat.le_refl _) _).setCell (Nat.le_refl _) _).setCell (Nat.le_refl _) _).setCell (Nat.le_refl _) _).setCell (Nat.le_refl _) _
        · simp only [World.size_setCell]; exact Nat.lt_of_lt_of_le hwz hb2.size
        · rw [HX.out, ← HU.out]; simp [gsD, HD.out]
        · have e1 : blkGs (us ++ [e']) = blkGs us ++ blkG e' := by simp [blkGs]
          rw [e1]
          refine List.nodup_append.2 ⟨HND.out, HO2.out.nodup, fun a ha b hb e2 => ?_⟩
          subst e2
          obtain ⟨u, hu, ha⟩ := List.mem_flatMap.1 ha
          have h1 := ((HO.out u hu).at a ha).2
          have h2 := (HO2.out.at a hb).1
          omega
      · have hlt' : ¬ (k : Int) < (vs.length : Int) := by omega
        have hkk : k = (gsD vs).length := by simp [gsD]; omega
        have hul : us.length = vs.length := by
          have := congrArg List.length hus
          simp [gsD] at this
          omega
        rw [hkk, List.take_length] at hus
        clear hkk
        go_wp2
        go_ret
        refine ⟨_, rfl, us, hus, ⟨⟨w.heap.size, Nat.le_refl _, hwz, by rw [hul]; rfl, hrow, by rw [hul]; exact hth⟩, fun v hv => ⟨(hown v hv).mono (by omega), fun g hg => ?_⟩, hnd⟩, acc⟩
        obtain rfl : w.heap.size = g := by simpa [Value.ownBlock] using hg
        exact hown v hv

end Go.Proofs.Ytollijjmmpoonaa
