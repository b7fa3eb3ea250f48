/- BandNew of the specification and of the program. -/
import Derived.Test.YtljjgebkieffpaaBP
namespace Go.Proofs.Ytljjgebkieffpaa
set_option linter.unusedVariables false
set_option linter.unusedSimpArgs false
open Go.ChangeShapes Go.WideShapes Go.ChangeAt Go.RowKit

def newBOk (q c : Int) : Bool := l1in q 1 10000 && l1in c 1 4
def newBa (q c : Int) : Ba := if newBOk q c = true then ⟨q, q, 0, List.replicate c.toNat 0, List.replicate c.toNat false⟩ else ba0

theorem made_row {v : Value} {n : Nat} : madeCells #[v] n = (List.replicate n v).toArray := by
  apply Array.ext
  · simp [madeCells]
  · intro i h1 h2
    have : i % 1 = 0 := by omega
    simp [madeCells, this]
theorem made_ints {W : World} {g n : Nat} {t : TypeId} (h : W.heap[g]? = some (.cells (madeCells #[.int .i64 0] n) t (0, 0))) : IntAt W g 0 (List.replicate n 0) ∧ W.there g 0 n := by
  rw [made_row] at h
  refine ⟨fun i u hu => ?_, fun i hi => ?_⟩
  · rw [List.getElem?_replicate] at hu
    split at hu
    · rename_i hi
      have hu' := Option.some.inj hu
      subst hu'
      simp [World.cell?, h, hi]
    · cases hu
  · simp [World.cell?, World.frozen?, h, hi]
theorem made_bools {W : World} {g n : Nat} {t : TypeId} (h : W.heap[g]? = some (.cells (madeCells #[.bool false] n) t (0, 0))) : BoolAt W g 0 (List.replicate n false) ∧ W.there g 0 n := by
  rw [made_row] at h
  refine ⟨fun i u hu => ?_, fun i hi => ?_⟩
  · rw [List.getElem?_replicate] at hu
    split at hu
    · rename_i hi
      have hu' := Option.some.inj hu
      subst hu'
      simp [World.cell?, h, hi]
    · cases hu
  · simp [World.cell?, World.frozen?, h, hi]
theorem made_band {W : World} {B g h n : Nat} {q : Int} {t t' : TypeId} (hB : B ≤ g) (hB' : B ≤ h) (hgh : g ≠ h) (hg : W.heap[g]? = some (.cells (madeCells #[.int .i64 0] n) t (0, 0))) (hh : W.heap[h]? = some (.cells (madeCells #[.bool false] n) t' (0, 0))) (hn : n ≤ 4) :
    OwnBa B W (.slice (some ⟨g, 0, none⟩) n n) (.slice (some ⟨h, 0, none⟩) n n) ⟨q, q, 0, List.replicate n 0, List.replicate n false⟩ := by
  obtain ⟨a1, a2⟩ := made_ints hg
  obtain ⟨b1, b2⟩ := made_bools hh
  refine ⟨.inr ⟨g, n, hB, (Array.getElem?_eq_some_iff.1 hg).1, by simp, a1, by simpa using a2, by simp, by unfold maxLen; omega⟩, .inr ⟨h, n, hB', (Array.getElem?_eq_some_iff.1 hh).1, by simp, b1, by simpa using b2, by simp, by unfold maxLen; omega⟩, ?_⟩
  intro k hk hk'
  simp [Value.ownBlock] at hk hk'
  omega
theorem three_at (w : World) (A B C : Obj) : (((w.alloc A).alloc B).alloc C).drew.heap[w.heap.size]? = some A ∧ (((w.alloc A).alloc B).alloc C).drew.heap[w.heap.size + 1]? = some B ∧ (((w.alloc A).alloc B).alloc C).drew.heap[w.heap.size + 1 + 1]? = some C ∧ Below w.heap.size w (((w.alloc A).alloc B).alloc C).drew := by
  obtain ⟨h1, _, h2, h3, h4⟩ := three_box' (w := w) (A := A) (B := B) (C := C) ((Below.refl _ (((w.alloc A).alloc B).alloc C)).drew)
  exact ⟨h2, h3, h4, h1⟩
theorem newBa_no {q c : Int} (h : newBOk q c = false) : newBa q c = ba0 := by unfold newBa; rw [h]; rfl
theorem newBa_yes {q : Int} {n : Nat} (h : newBOk q n = true) : newBa q n = ⟨q, q, 0, List.replicate n 0, List.replicate n false⟩ := by unfold newBa; rw [h, if_pos rfl]; simp
theorem own_ba0 (B : Nat) (w : World) : OwnBa B w (.slice none 0 0) (.slice none 0 0) ba0 := ⟨.inl ⟨rfl, rfl⟩, .inl ⟨rfl, rfl⟩, fun g hg => by simp [Value.ownBlock] at hg⟩
set_option maxHeartbeats 4000000 in
theorem spec_bandNew (q c : Int) (w : World) :
    Calls Try.prog 22 #[.int .i64 q, .int .i64 c] w fun e w' => ∃ x y, e = .returned (.tuple #[baV (newBa q c) x y, .bool (newBOk q c)]) ∧ OwnBa w.heap.size w' x y (newBa q c) ∧ Below w.heap.size w w' := by
  cases h1 : l1in q 1 10000
  · have HO : Hid (newBOk q c = false) := by show _ = _; unfold newBOk; rw [h1]; simp
    go_enter Try.func22, Try.ntmps22
    go_wp2_with (go_at_call 43; refine (l1In_any _ _ _ _).mono ?_; rintro e w1 ⟨rfl, rfl⟩)
    rw [newBa_no HO.out, HO.out]
    go_returns
    exact ⟨_, _, rfl, own_ba0 _ _, (Below.refl _ _).alloc (Nat.le_refl _) _⟩
  · cases h2 : l1in c 1 4
    · have HO : Hid (newBOk q c = false) := by show _ = _; unfold newBOk; rw [h2]; simp
      go_enter Try.func22, Try.ntmps22
      go_wp2_with (go_at_call 43; refine (l1In_any _ _ _ _).mono ?_; rintro e w1 ⟨rfl, rfl⟩)
      rw [newBa_no HO.out, HO.out]
      go_returns
      exact ⟨_, _, rfl, own_ba0 _ _, (Below.refl _ _).alloc (Nat.le_refl _) _⟩
    · obtain ⟨c0, c1⟩ := l1in_iff.1 h2
      obtain ⟨n, rfl⟩ : ∃ n : Nat, c = n := ⟨c.toNat, by omega⟩
      have HO : Hid (newBOk q n = true) := by show _ = _; unfold newBOk; rw [h1, h2]; rfl
      obtain ⟨i0, hi, hz0, hz1, hz2⟩ := info_parts info_int
      obtain ⟨i0', hi', hz0', hz1', hz2'⟩ := info_parts info_bool
      have hmk := fun w => run_make (P := Try.prog) w 23 3 i0 _ Try.underlying23 hi hz0 .i64 .i64 n n (by omega) (by omega) (by rw [hz2]; omega) (by omega)
      have hmk' := fun w => run_make (P := Try.prog) w 24 4 i0' _ Try.underlying24 hi' hz0' .i64 .i64 n n (by omega) (by omega) (by rw [hz2']; omega) (by omega)
      simp only [hz1, hz1', Nat.mul_one, Int.toNat_natCast] at hmk hmk'
      go_enter Try.func22, Try.ntmps22
      go_wp2_with (go_at_call 43; refine (l1In_any _ _ _ _).mono ?_; rintro e w1 ⟨rfl, rfl⟩)
      go_region_with (fail)
      all_goals
        go_wp2
        rw [newBa_yes HO.out, HO.out]
      · obtain ⟨r1, r2, r3, r4⟩ := three_at w (.cells #[.int .i64 q, .int .i64 q, .int .i64 0, .slice (some ⟨w.heap.size + 1, 0, none⟩) n n, .slice (some ⟨w.heap.size + 1 + 1, 0, none⟩) n n] 26 (0, 0)) (.cells (madeCells #[.int .i64 0] n) 3 (0, 0)) (.cells (madeCells #[.bool false] n) 4 (0, 0))
        refine bodyPost_ret (results_mid2 rfl _ _ w.heap.size 0 [.int .i64 q, .int .i64 q, .int .i64 0, .slice (some ⟨w.heap.size + 1, 0, none⟩) n n, .slice (some ⟨w.heap.size + 1 + 1, 0, none⟩) n n] _ rfl (range_of_block r1) Try.underlying26 rfl info_ba) rfl ?_
        exact ⟨_, _, rfl, made_band (by omega) (by omega) (by omega) r2 r3 (by omega), r4⟩
      · obtain ⟨r1, r2, r3, r4⟩ := three_at w (.cells #[.int .i64 q, .int .i64 q, .int .i64 0, .slice (some ⟨w.heap.size + 1 + 1, 0, none⟩) n n, .slice (some ⟨w.heap.size + 1, 0, none⟩) n n] 26 (0, 0)) (.cells (madeCells #[.bool false] n) 4 (0, 0)) (.cells (madeCells #[.int .i64 0] n) 3 (0, 0))
        refine bodyPost_ret (results_mid2 rfl _ _ w.heap.size 0 [.int .i64 q, .int .i64 q, .int .i64 0, .slice (some ⟨w.heap.size + 1 + 1, 0, none⟩) n n, .slice (some ⟨w.heap.size + 1, 0, none⟩) n n] _ rfl (range_of_block r1) Try.underlying26 rfl info_ba) rfl ?_
        exact ⟨_, _, rfl, made_band (by omega) (by omega) (by omega) r3 r2 (by omega), r4⟩
set_option maxHeartbeats 4000000 in
theorem impl_bandNew (q c : Int) (w : World) :
    Calls Try.prog 23 #[.int .i64 q, .int .i64 c] w fun e w' => ∃ x y, e = .returned (.tuple #[baV (newBa q c) x y, .bool (newBOk q c)]) ∧ OwnBa w.heap.size w' x y (newBa q c) ∧ Below w.heap.size w w' := by
  cases h1 : l1in q 1 10000
  · have HO : Hid (newBOk q c = false) := by show _ = _; unfold newBOk; rw [h1]; simp
    go_enter Try.func23, Try.ntmps23
    go_wp2_with (first | (go_at_call 45; refine (isQuota_any _ _).mono ?_; rintro e w1 ⟨rfl, rfl⟩) | (go_at_call 46; refine (isCpuCount_any _ _).mono ?_; rintro e w1 ⟨rfl, rfl⟩))
    rw [newBa_no HO.out, HO.out]
    go_returns
    exact ⟨_, _, rfl, own_ba0 _ _, (Below.refl _ _).alloc (Nat.le_refl _) _⟩
  · cases h2 : l1in c 1 4
    · have HO : Hid (newBOk q c = false) := by show _ = _; unfold newBOk; rw [h2]; simp
      go_enter Try.func23, Try.ntmps23
      go_wp2_with (first | (go_at_call 45; refine (isQuota_any _ _).mono ?_; rintro e w1 ⟨rfl, rfl⟩) | (go_at_call 46; refine (isCpuCount_any _ _).mono ?_; rintro e w1 ⟨rfl, rfl⟩))
      rw [newBa_no HO.out, HO.out]
      go_returns
      exact ⟨_, _, rfl, own_ba0 _ _, (Below.refl _ _).alloc (Nat.le_refl _) _⟩
    · obtain ⟨c0, c1⟩ := l1in_iff.1 h2
      obtain ⟨n, rfl⟩ : ∃ n : Nat, c = n := ⟨c.toNat, by omega⟩
      have HO : Hid (newBOk q n = true) := by show _ = _; unfold newBOk; rw [h1, h2]; rfl
      obtain ⟨i0, hi, hz0, hz1, hz2⟩ := info_parts info_int
      obtain ⟨i0', hi', hz0', hz1', hz2'⟩ := info_parts info_bool
      have hmk := fun w => run_make (P := Try.prog) w 23 3 i0 _ Try.underlying23 hi hz0 .i64 .i64 n n (by omega) (by omega) (by rw [hz2]; omega) (by omega)
      have hmk' := fun w => run_make (P := Try.prog) w 24 4 i0' _ Try.underlying24 hi' hz0' .i64 .i64 n n (by omega) (by omega) (by rw [hz2']; omega) (by omega)
      simp only [hz1, hz1', Nat.mul_one, Int.toNat_natCast] at hmk hmk'
      go_enter Try.func23, Try.ntmps23
      go_wp2_with (first | (go_at_call 45; refine (isQuota_any _ _).mono ?_; rintro e w1 ⟨rfl, rfl⟩) | (go_at_call 46; refine (isCpuCount_any _ _).mono ?_; rintro e w1 ⟨rfl, rfl⟩))
      go_region_with (fail)
      all_goals
        go_wp2
        rw [newBa_yes HO.out, HO.out]
      · obtain ⟨r1, r2, r3, r4⟩ := three_at w (.cells #[.int .i64 q, .int .i64 q, .int .i64 0, .slice (some ⟨w.heap.size + 1, 0, none⟩) n n, .slice (some ⟨w.heap.size + 1 + 1, 0, none⟩) n n] 26 (0, 0)) (.cells (madeCells #[.int .i64 0] n) 3 (0, 0)) (.cells (madeCells #[.bool false] n) 4 (0, 0))
        refine bodyPost_ret (results_mid2 rfl _ _ w.heap.size 0 [.int .i64 q, .int .i64 q, .int .i64 0, .slice (some ⟨w.heap.size + 1, 0, none⟩) n n, .slice (some ⟨w.heap.size + 1 + 1, 0, none⟩) n n] _ rfl (range_of_block r1) Try.underlying26 rfl info_ba) rfl ?_
        exact ⟨_, _, rfl, made_band (by omega) (by omega) (by omega) r2 r3 (by omega), r4⟩
      · obtain ⟨r1, r2, r3, r4⟩ := three_at w (.cells #[.int .i64 q, .int .i64 q, .int .i64 0, .slice (some ⟨w.heap.size + 1 + 1, 0, none⟩) n n, .slice (some ⟨w.heap.size + 1, 0, none⟩) n n] 26 (0, 0)) (.cells (madeCells #[.bool false] n) 4 (0, 0)) (.cells (madeCells #[.int .i64 0] n) 3 (0, 0))
        refine bodyPost_ret (results_mid2 rfl _ _ w.heap.size 0 [.int .i64 q, .int .i64 q, .int .i64 0, .slice (some ⟨w.heap.size + 1 + 1, 0, none⟩) n n, .slice (some ⟨w.heap.size + 1, 0, none⟩) n n] _ rfl (range_of_block r1) Try.underlying26 rfl info_ba) rfl ?_
        exact ⟨_, _, rfl, made_band (by omega) (by omega) (by omega) r3 r2 (by omega), r4⟩
end Go.Proofs.Ytljjgebkieffpaa
