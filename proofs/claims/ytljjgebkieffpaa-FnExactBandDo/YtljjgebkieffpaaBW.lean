/- The specification's l5Wet; what is done with a pool, as plain data. -/
import Derived.Test.YtljjgebkieffpaaBX
namespace Go.Proofs.Ytljjgebkieffpaa
set_option linter.unusedVariables false
set_option linter.unusedSimpArgs false
open Go.ChangeShapes Go.WideShapes Go.ChangeAt Go.RowKit

def wetBa (b : Ba) : Ba := ⟨b.qu, b.po, b.sp, b.lo, List.replicate b.dr.length false⟩
theorem bools_zero {ws : List Bool} {W : World} {g : Nat} (h : BoolAt W g 0 ((List.replicate ws.length false).take 0 ++ ws.drop 0)) : BoolAt W g 0 ws := by simpa using h
/-- a bool put into a row. -/
theorem set_bool {W : World} {B k : Nat} {ws : List Bool} {u : Bool} (hth : W.there B 0 ws.length) (hrow : BoolAt W B 0 ws) (hk : k < ws.length) :
    (W.setCell ⟨B, k, none⟩ (.bool u)).there B 0 ws.length ∧ BoolAt (W.setCell ⟨B, k, none⟩ (.bool u)) B 0 (ws.set k u) := by
  refine ⟨there_set1 hth, ?_⟩
  intro i x hx
  rw [Nat.zero_add]
  by_cases hi : k = i
  · subst hi
    rw [List.getElem?_set_self hk] at hx
    obtain rfl := Option.some.inj hx
    obtain ⟨c, hc, _⟩ := there_one hth hk
    exact World.cell?_setCell_same _ _ _ (by rw [hc]; first | done | rfl)
  · rw [List.getElem?_set_ne hi] at hx
    rw [World.cell?_setCell_other _ _ _ _ (fun hh => hi (congrArg Addr.off hh))]
    have := hrow i x hx
    rwa [Nat.zero_add] at this
theorem set_int {W : World} {B k : Nat} {ws : List Int} {u : Int} (hth : W.there B 0 ws.length) (hrow : IntAt W B 0 ws) (hk : k < ws.length) :
    (W.setCell ⟨B, k, none⟩ (.int .i64 u)).there B 0 ws.length ∧ IntAt (W.setCell ⟨B, k, none⟩ (.int .i64 u)) B 0 (ws.set k u) := by
  refine ⟨there_set1 hth, ?_⟩
  intro i x hx
  rw [Nat.zero_add]
  by_cases hi : k = i
  · subst hi
    rw [List.getElem?_set_self hk] at hx
    obtain rfl := Option.some.inj hx
    obtain ⟨c, hc, _⟩ := there_one hth hk
    exact World.cell?_setCell_same _ _ _ (by rw [hc]; first | done | rfl)
  · rw [List.getElem?_set_ne hi] at hx
    rw [World.cell?_setCell_other _ _ _ _ (fun hh => hi (congrArg Addr.off hh))]
    have := hrow i x hx
    rwa [Nat.zero_add] at this

set_option maxHeartbeats 4000000 in
theorem l5Wet_any (b : Ba) (g cap : Nat) (p : Option Addr) (m cx : Nat) (w : World) (hg : g < w.heap.size) (hth : w.there g 0 b.dr.length) (hn : b.dr.length ≤ 4) :
    Calls Try.prog 42 #[baV b (.slice p m cx) (.slice (some ⟨g, 0, none⟩) b.dr.length cap)] w fun e w' => e = .returned (baV b (.slice p m cx) (.slice (some ⟨g, 0, none⟩) b.dr.length cap)) ∧ BoolAt w' g 0 (List.replicate b.dr.length false) ∧ w'.there g 0 b.dr.length ∧ Kept (fun k => k = g) w w' := by
  unfold baV
  go_enter Try.func42, Try.ntmps42
  go_wp2
  generalize hpar : Obj.cells #[Value.int .i64 b.qu, .int .i64 b.po, .int .i64 b.sp, .slice p m cx, .slice (some ⟨g, 0, none⟩) b.dr.length cap] 26 (0, 0) = par
  generalize hres : Obj.cells #[Value.int .i64 0, .int .i64 0, .int .i64 0, .slice none 0 0, .slice none 0 0] 26 (0, 0) = res
  go_loopw [3] (fun i wr => ∃ k : Nat, k ≤ b.dr.length ∧ i = .int .i64 k ∧ wr.heap[w.heap.size]? = some par ∧ wr.heap[w.heap.size + 1]? = some res ∧ wr.there g 0 b.dr.length ∧ BoolAt wr g 0 ((List.replicate b.dr.length false).take k) ∧ Kept (fun k => k = g) w wr) (fun i _ => b.dr.length - (intOf i).toNat)
  case atStart =>
    have hB : Below w.heap.size w ((w.alloc par).alloc res) := ((Below.refl _ _).alloc (Nat.le_refl _) _).alloc (by simp) _
    exact ⟨0, by omega, rfl, heap_alloc2_old _ _ _, heap_alloc2_new _ _ _, there_below hth hB hg, fun i e he => by simp at he, (Kept.ofBelow hB).mono (fun _ h => h.elim)⟩
  case round =>
    obtain ⟨k, hk, rfl, hbp, hbr, hth, hrow, acc⟩ := hrel
    have HBR : Hid (wr.heap[w.heap.size + 1]? = some res) := hbr
    have HBP : Hid (wr.heap[w.heap.size]? = some par) := hbp
    have hbp' := hbp
    rw [← hpar] at hbp'
    obtain ⟨p0, p1, p2, p3, p4⟩ := bbox hbp'
    have hbr' := hbr
    rw [← hres] at hbr'
    have HR : Hid (wr.heap[w.heap.size + 1]? = some (.cells #[Value.int .i64 0, .int .i64 0, .int .i64 0, .slice none 0 0, .slice none 0 0] 26 (0, 0))) := hbr'
    have HPAR : Hid (_ = par) := hpar
    have HRES : Hid (_ = res) := hres
    clear hpar hres hbp hbr hbp'
    by_cases hlt : k < b.dr.length
    · have hlt' : (k : Int) < (b.dr.length : Int) := by omega
      obtain ⟨c0, x0, f0⟩ := there_one hth hlt
      obtain ⟨q1, q2⟩ := put_bool (ws := List.replicate b.dr.length false) (u := false) hth hlt hrow (by simp [hlt])
      clear hbr'
      go_wp2
      have hK := Kept.set wr g k (.bool false)
      refine ⟨⟨k + 1, hlt, by go_num, ?_, ?_, q1, q2, (acc.trans hK).mono (by intro j hj; omega)⟩, by simp [intOf]; omega⟩
      · exact (hK.block _ (by have := (Array.getElem?_eq_some_iff.1 HBP.out).1; omega) (by omega)).trans HBP.out
      · exact (hK.block _ (by have := (Array.getElem?_eq_some_iff.1 HBR.out).1; omega) (by omega)).trans HBR.out
    · have hlt' : ¬ (k : Int) < (b.dr.length : Int) := by omega
      rw [List.take_of_length_le (by simp; omega)] at hrow
      obtain ⟨z0, z1, z2, z3, z4⟩ := bbox hbr'
      have z0f := fbox hbr' 0
      have z1f := fbox hbr' 1
      have z2f := fbox hbr' 2
      have z3f := fbox hbr' 3
      have z4f := fbox hbr' 4
      clear hbr'
      go_wp2
      have hK := Kept.five wr (w.heap.size + 1) (.int .i64 b.qu) (.int .i64 b.po) (.int .i64 b.sp) (.slice p m cx) (.slice (some ⟨g, 0, none⟩) b.dr.length cap)
      refine bodyPost_ret (results_mid rfl _ _ (w.heap.size + 1) 0 [.int .i64 b.qu, .int .i64 b.po, .int .i64 b.sp, .slice p m cx, .slice (some ⟨g, 0, none⟩) b.dr.length cap] _ rfl (range_of_block (five_set HR.out _ _ _ _ _)) Try.underlying26 rfl info_ba) rfl ?_
      have hgl : g < wr.heap.size := Nat.lt_of_lt_of_le hg acc.size
      refine ⟨rfl, hK.bools hgl (by omega) hrow, hK.there hgl (by omega) hth, ?_⟩
      exact ⟨hK.os.trans acc.os, hK.tape.trans acc.tape, hK.output.trans acc.output, Nat.le_trans acc.size hK.size, fun j hj hne => (hK.block j (Nat.lt_of_lt_of_le hj acc.size) (by omega)).trans (acc.block j hj hne)⟩
end Go.Proofs.Ytljjgebkieffpaa
