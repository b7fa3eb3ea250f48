/- The program: whether a world is ok. -/
import Derived.Test.YtnmmglkigiakaaaGreatD24
import Derived.Test.YtnmmglkigiakaaaGreatD25
import Derived.WalkMore
import Derived.Laws.EntriesVeiled
namespace Go.Proofs.YtnmmglkigiakaaaGreat
set_option maxRecDepth 100000
set_option maxHeartbeats 32000000
set_option linter.unusedVariables false
set_option linter.unusedSimpArgs false
open Go.ChangeShapes Go.WideShapes Go.ChangeAt Go.RowKit Go.Shelf Go.Sort
attribute [local go_sem] Oper.semAt_some
def shelfNAt (u : Wv) (k : Nat) : Bool := (u.gs[k]?).any (fun e => e.d.sh.all (shelfNB k))
def queuesAt (u : Wv) (c : Nat) : Bool := (inners (gsD u.gs)).all (qkB u.ts (gsD u.gs) c)
def cpuPAt (u : Wv) (c : Nat) : Bool := (u.cs[c]?).any (cpuOkB u c)
def shelvesN (u : Wv) : Bool := (List.range u.gs.length).all (shelfNAt u)
def queuesB (u : Wv) : Bool := (List.range u.cs.length).all (queuesAt u)
def cpusP (u : Wv) : Bool := (List.range u.cs.length).all (cpuPAt u)
def okP (u : Wv) : Bool := placesB u && (groupsB u && (shelvesN u && (tasksB u && (queuesB u && cpusP u))))
def upR (u : Wv) (r : Nat) : Prop := (0 < r → placesB u = true) ∧ (1 < r → groupsB u = true) ∧ (2 < r → shelvesN u = true) ∧ (3 < r → tasksB u = true) ∧ (4 < r → queuesB u = true) ∧ (5 < r → cpusP u = true)
theorem implWorldOk_any (u : Wv) (w : World) (hs : SlW w u) (hf : GsFit u.gs) :
    Calls Tryz.prog 27 #[wvV u] w fun e' w' => e' = .returned (.bool (okP u)) ∧ Below w.heap.size w w' := by
  have hl1 : u.cs.length ≤ 9223372036854775807 := (SlR.form hs.1).choose_spec.choose_spec.2
  have hl2 : u.ts.length ≤ 9223372036854775807 := (SlR.form hs.2.1).choose_spec.choose_spec.2
  have hl3 : u.gs.length ≤ 9223372036854775807 := (SlR.form hs.2.2.1).choose_spec.choose_spec.2
  obtain ⟨p1, l1, c1, p2, l2, c2, p3, l3, c3, e1, e2, e3, hv⟩ := wv_form hs
  rw [hv]
  obtain ⟨W1, hW1⟩ : ∃ W1, w.alloc (.cells #[.int .i64 u.now, .slice p1 l1 c1, .slice p2 l2 c2, .slice p3 l3 c3] 33) = W1 := ⟨_, rfl⟩
  obtain ⟨hA, acc, lw⟩ := boxed_w hs e1 e2 e3 hW1
  have HA : Hid (AtW W1 w.heap.size u) := hA
  have HF : Hid (GsFit u.gs) := hf
  have ACC : Hid (Below w.heap.size w W1) := acc
  clear hA hs hf e1 e2 e3 hv acc
  go_enter Tryz.func27, Tryz.ntmps27
  go_wp2
  go_step3
  go_wp2
  go_step3
  go_wp2_with (go_at_call 68; refine (worldRules_any w.heap.size u _ HA.out).mono ?_; rintro e' V ⟨b, rfl, hrow, hbl, hbV⟩)
  have HV : Hid (Below W1.heap.size W1 V) := hbV
  have HR : Hid (V.rangeAt b 0 (rulesC u)) := hrow
  clear hrow hbV hbl hW1
  go_loopw [3, 9] (fun tk tt wr => ∃ r : Nat, r ≤ 6 ∧ tk = .bool true ∧ tt = .int .i64 (r : Int) ∧ Below V.heap.size V wr ∧ upR u r) (fun _ tt _ => 6 - (intOf tt).toNat)
  case atStart => exact ⟨0, Nat.zero_le _, rfl, rfl, Below.refl _ _, fun h => absurd h (by omega), fun h => absurd h (by omega), fun h => absurd h (by omega), fun h => absurd h (by omega), fun h => absurd h (by omega), fun h => absurd h (by omega)⟩
  case round =>
    obtain ⟨r, hr, rfl, rfl, hb, hup⟩ := hrel
    obtain ⟨wo, hwo⟩ : ∃ W, W = wr := ⟨_, rfl⟩
    subst hwo
    have HRW := range_below HR.out hb
    have HUP : Hid (upR u r) := hup
    clear hup
    have hr6 : r = 0 ∨ r = 1 ∨ r = 2 ∨ r = 3 ∨ r = 4 ∨ r = 5 ∨ r = 6 := by omega
    rcases hr6 with rfl | rfl | rfl | rfl | rfl | rfl | rfl
    · have r0 : wo.cell? ⟨b, 0, none⟩ = some (.int .i64 1) := HRW 0 _ rfl
      have r1 : wo.cell? ⟨b, 1, none⟩ = some (.func (.func 108) #[] #[]) := HRW 1 _ rfl
      obtain ⟨X, hX⟩ : ∃ X, wo.alloc (.cells #[.int .i64 1, .func (.func 108) #[] #[]] 89) = X := ⟨_, rfl⟩
      have BX : Below wo.heap.size wo X := by rw [← hX]; exact (Below.refl _ _).alloc (Nat.le_refl _) _
      have hrx : X.rangeAt wo.heap.size 0 [.int .i64 1, .func (.func 108) #[] #[]] := range_of_block (by rw [← hX]; exact World.alloc_heap_new wo _)
      have x0 : X.cell? ⟨wo.heap.size, 0, none⟩ = some (.int .i64 1) := hrx 0 _ rfl
      have x1 : X.cell? ⟨wo.heap.size, 1, none⟩ = some (.func (.func 108) #[] #[]) := hrx 1 _ rfl
      have lx : wo.heap.size < X.heap.size := block_lt_of_cell x0
      clear hrx HRW
      go_wp2
      clear hX r0 r1
      go_loopw [3, 15] (fun tk tt wr => ∃ k : Nat, k ≤ 1 ∧ tk = .bool true ∧ tt = .int .i64 (k : Int) ∧ Below X.heap.size X wr ∧ ∀ i, i < k → (fun _ => placesB u) i = true) (fun _ tt _ => 1 - (intOf tt).toNat)
      case atStart => exact ⟨0, Nat.zero_le _, rfl, rfl, Below.refl _ _, fun i hi => absurd hi (Nat.not_lt_zero _)⟩
      case round =>
        obtain ⟨k, hk, rfl, rfl, hd, hall⟩ := hrel
        have HALL : Hid (∀ i, i < k → (fun _ => placesB u) i = true) := hall
        clear hall
        have y1 := (hd.cell (p := ⟨wo.heap.size, 1, none⟩) lx).trans x1
        have hVX : Below V.heap.size V wr := hb.trans ((BX.trans (hd.mono BX.size)).mono hb.size)
        have HQ : Hid (AtW wr w.heap.size u) := (HA.out.below HV.out).below hVX
        have HWQ : Hid (Below w.heap.size w wr) := ACC.out.trans ((HV.out.trans (hVX.mono HV.out.size)).mono ACC.out.size)
        have HVX : Hid (Below V.heap.size V wr) := hVX
        clear hVX
        by_cases hlk : k < 1
        · have hlk' : (k : Int) < 1 := by omega
          obtain ⟨gb, hgb⟩ : ∃ b, (fun _ => placesB u) k = b := ⟨_, rfl⟩
          have hq := hasPlaces_any w.heap.size (k : Int) u wr HQ.out HF.out
          rw [show placesB u = gb from hgb] at hq
          unfold ptr at hq
          have HG : Hid ((fun _ => placesB u) k = gb) := hgb
          clear hgb
          cases gb
          · go_wp2_with (go_at_call 108; refine hq.mono ?_; rintro e' w' ⟨rfl, hb2⟩)
            (try rw [Exit.noGoto_ret])
            go_ret
            refine ⟨?_, HWQ.out.trans (hb2.mono HWQ.out.size)⟩
            have HX : Hid (okP u = false) := by
              unfold Hid okP
              have hno : placesB u = false := HG.out
              rw [hno]; simp
            rw [HX.out]; rfl
          · go_wp2_with (go_at_call 108; refine hq.mono ?_; rintro e' w' ⟨rfl, hb2⟩; have y1 := ((hd.trans (hb2.mono hd.size)).cell (p := ⟨wo.heap.size, 1, none⟩) lx).trans x1)
            have NX : ∀ i, i < k + 1 → (fun _ => placesB u) i = true := fun i hi => (Nat.lt_succ_iff_lt_or_eq.1 hi).elim (HALL.out i) (fun h => h ▸ HG.out)
            have hbn := hd.trans (hb2.mono hd.size)
            have HM : 1 - ((k : Int) + 1).toNat < 1 - (k : Int).toNat := by omega
            first
            | exact ⟨⟨k + 1, hlk, rfl, by go_num, hbn, NX⟩, HM⟩
            | (refine ⟨?_, HM⟩
               repeat apply Exists.intro
               refine ⟨⟨k + 1, hlk, rfl, by go_num, hbn, NX⟩, rfl⟩)
        · have hlk' : ¬ (k : Int) < 1 := by omega
          obtain rfl : k = 1 := by omega
          have HNOW : Hid (placesB u = true) := HALL.out 0 (by decide)
          clear HALL y1
          go_wp2
          refine ⟨⟨1, by decide, rfl, by first | rfl | go_num, HVX.out, fun _ => HNOW.out, fun h => absurd h (by decide), fun h => absurd h (by decide), fun h => absurd h (by decide), fun h => absurd h (by decide), fun h => absurd h (by decide)⟩, by simp [intOf]⟩
    · have r0 : wo.cell? ⟨b, 2, none⟩ = some (.int .i64 (u.gs.length : Int)) := HRW 2 _ rfl
      have r1 : wo.cell? ⟨b, 3, none⟩ = some (.func (.func 109) #[] #[]) := HRW 3 _ rfl
      have HP0 : Hid (placesB u = true) := HUP.out.1 (by decide)
      obtain ⟨X, hX⟩ : ∃ X, wo.alloc (.cells #[.int .i64 (u.gs.length : Int), .func (.func 109) #[] #[]] 89) = X := ⟨_, rfl⟩
      have BX : Below wo.heap.size wo X := by rw [← hX]; exact (Below.refl _ _).alloc (Nat.le_refl _) _
      have hrx : X.rangeAt wo.heap.size 0 [.int .i64 (u.gs.length : Int), .func (.func 109) #[] #[]] := range_of_block (by rw [← hX]; exact World.alloc_heap_new wo _)
      have x0 : X.cell? ⟨wo.heap.size, 0, none⟩ = some (.int .i64 (u.gs.length : Int)) := hrx 0 _ rfl
      have x1 : X.cell? ⟨wo.heap.size, 1, none⟩ = some (.func (.func 109) #[] #[]) := hrx 1 _ rfl
      have lx : wo.heap.size < X.heap.size := block_lt_of_cell x0
      clear hrx HRW
      go_wp2
      clear hX r0 r1
      go_loopw [3, 15] (fun tk tt wr => ∃ k : Nat, k ≤ u.gs.length ∧ tk = .bool true ∧ tt = .int .i64 (k : Int) ∧ Below X.heap.size X wr ∧ ∀ i, i < k → groupAt u i = true) (fun _ tt _ => u.gs.length - (intOf tt).toNat)
      case atStart => exact ⟨0, Nat.zero_le _, rfl, rfl, Below.refl _ _, fun i hi => absurd hi (Nat.not_lt_zero _)⟩
      case round =>
        obtain ⟨k, hk, rfl, rfl, hd, hall⟩ := hrel
        have HALL : Hid (∀ i, i < k → groupAt u i = true) := hall
        clear hall
        have y1 := (hd.cell (p := ⟨wo.heap.size, 1, none⟩) lx).trans x1
        have hVX : Below V.heap.size V wr := hb.trans ((BX.trans (hd.mono BX.size)).mono hb.size)
        have HQ : Hid (AtW wr w.heap.size u) := (HA.out.below HV.out).below hVX
        have HWQ : Hid (Below w.heap.size w wr) := ACC.out.trans ((HV.out.trans (hVX.mono HV.out.size)).mono ACC.out.size)
        have HVX : Hid (Below V.heap.size V wr) := hVX
        clear hVX
        by_cases hlk : k < u.gs.length
        · have hlk' : (k : Int) < (u.gs.length : Int) := by omega
          obtain ⟨gb, hgb⟩ : ∃ b, groupAt u k = b := ⟨_, rfl⟩
          have hq := (show Calls Tryz.prog 109 #[ptr w.heap.size, .int .i64 (k : Int)] wr _ from by obtain ⟨e, he⟩ : ∃ e, u.gs[k]? = some e := ⟨_, List.getElem?_eq_getElem hlk⟩; have h0 := isGroupOk_any w.heap.size k u e wr HQ.out he; have : groupAt u k = groupB u.now u.cs.length k e.d := (by unfold groupAt; rw [he]; rfl); rw [← this] at h0; exact h0)
          rw [hgb] at hq
          unfold ptr at hq
          have HG : Hid (groupAt u k = gb) := hgb
          clear hgb
          cases gb
          · go_wp2_with (go_at_call 109; refine hq.mono ?_; rintro e' w' ⟨rfl, hb2⟩)
            (try rw [Exit.noGoto_ret])
            go_ret
            refine ⟨?_, HWQ.out.trans (hb2.mono HWQ.out.size)⟩
            have HX : Hid (okP u = false) := by
              unfold Hid okP
              have hno : groupsB u = false := all_range_no hlk HG.out
              rw [hno]; simp
            rw [HX.out]; rfl
          · go_wp2_with (go_at_call 109; refine hq.mono ?_; rintro e' w' ⟨rfl, hb2⟩; have y1 := ((hd.trans (hb2.mono hd.size)).cell (p := ⟨wo.heap.size, 1, none⟩) lx).trans x1)
            have NX : ∀ i, i < k + 1 → groupAt u i = true := fun i hi => (Nat.lt_succ_iff_lt_or_eq.1 hi).elim (HALL.out i) (fun h => h ▸ HG.out)
            have hbn := hd.trans (hb2.mono hd.size)
            have HM : u.gs.length - ((k : Int) + 1).toNat < u.gs.length - (k : Int).toNat := by omega
            first
            | exact ⟨⟨k + 1, hlk, rfl, by go_num, hbn, NX⟩, HM⟩
            | (refine ⟨?_, HM⟩
               repeat apply Exists.intro
               refine ⟨⟨k + 1, hlk, rfl, by go_num, hbn, NX⟩, rfl⟩)
        · have hlk' : ¬ (k : Int) < (u.gs.length : Int) := by omega
          obtain rfl : k = u.gs.length := by omega
          have HNOW : Hid (groupsB u = true) := all_range.2 HALL.out
          clear HALL y1
          go_wp2
          refine ⟨⟨2, by decide, rfl, by first | rfl | go_num, HVX.out, fun _ => HP0.out, fun _ => HNOW.out, fun h => absurd h (by decide), fun h => absurd h (by decide), fun h => absurd h (by decide), fun h => absurd h (by decide)⟩, by simp [intOf]⟩
    · have r0 : wo.cell? ⟨b, 4, none⟩ = some (.int .i64 (u.gs.length : Int)) := HRW 4 _ rfl
      have r1 : wo.cell? ⟨b, 5, none⟩ = some (.func (.func 110) #[] #[]) := HRW 5 _ rfl
      have HP0 : Hid (placesB u = true) := HUP.out.1 (by decide)
      have HP1 : Hid (groupsB u = true) := HUP.out.2.1 (by decide)
      obtain ⟨X, hX⟩ : ∃ X, wo.alloc (.cells #[.int .i64 (u.gs.length : Int), .func (.func 110) #[] #[]] 89) = X := ⟨_, rfl⟩
      have BX : Below wo.heap.size wo X := by rw [← hX]; exact (Below.refl _ _).alloc (Nat.le_refl _) _
      have hrx : X.rangeAt wo.heap.size 0 [.int .i64 (u.gs.length : Int), .func (.func 110) #[] #[]] := range_of_block (by rw [← hX]; exact World.alloc_heap_new wo _)
      have x0 : X.cell? ⟨wo.heap.size, 0, none⟩ = some (.int .i64 (u.gs.length : Int)) := hrx 0 _ rfl
      have x1 : X.cell? ⟨wo.heap.size, 1, none⟩ = some (.func (.func 110) #[] #[]) := hrx 1 _ rfl
      have lx : wo.heap.size < X.heap.size := block_lt_of_cell x0
      clear hrx HRW
      go_wp2
      clear hX r0 r1
      go_loopw [3, 15] (fun tk tt wr => ∃ k : Nat, k ≤ u.gs.length ∧ tk = .bool true ∧ tt = .int .i64 (k : Int) ∧ Below X.heap.size X wr ∧ ∀ i, i < k → shelfNAt u i = true) (fun _ tt _ => u.gs.length - (intOf tt).toNat)
      case atStart => exact ⟨0, Nat.zero_le _, rfl, rfl, Below.refl _ _, fun i hi => absurd hi (Nat.not_lt_zero _)⟩
      case round =>
        obtain ⟨k, hk, rfl, rfl, hd, hall⟩ := hrel
        have HALL : Hid (∀ i, i < k → shelfNAt u i = true) := hall
        clear hall
        have y1 := (hd.cell (p := ⟨wo.heap.size, 1, none⟩) lx).trans x1
        have hVX : Below V.heap.size V wr := hb.trans ((BX.trans (hd.mono BX.size)).mono hb.size)
        have HQ : Hid (AtW wr w.heap.size u) := (HA.out.below HV.out).below hVX
        have HWQ : Hid (Below w.heap.size w wr) := ACC.out.trans ((HV.out.trans (hVX.mono HV.out.size)).mono ACC.out.size)
        have HVX : Hid (Below V.heap.size V wr) := hVX
        clear hVX
        by_cases hlk : k < u.gs.length
        · have hlk' : (k : Int) < (u.gs.length : Int) := by omega
          obtain ⟨gb, hgb⟩ : ∃ b, shelfNAt u k = b := ⟨_, rfl⟩
          have hq := (show Calls Tryz.prog 110 #[ptr w.heap.size, .int .i64 (k : Int)] wr _ from by obtain ⟨e, he⟩ : ∃ e, u.gs[k]? = some e := ⟨_, List.getElem?_eq_getElem hlk⟩; have h0 := areShelvesOk_any w.heap.size k u e wr HQ.out he; have : shelfNAt u k = e.d.sh.all (shelfNB k) := (by unfold shelfNAt; rw [he]; rfl); rw [← this] at h0; exact h0)
          rw [hgb] at hq
          unfold ptr at hq
          have HG : Hid (shelfNAt u k = gb) := hgb
          clear hgb
          cases gb
          · go_wp2_with (go_at_call 110; refine hq.mono ?_; rintro e' w' ⟨rfl, hb2⟩)
            (try rw [Exit.noGoto_ret])
            go_ret
            refine ⟨?_, HWQ.out.trans (hb2.mono HWQ.out.size)⟩
            have HX : Hid (okP u = false) := by
              unfold Hid okP
              have hno : shelvesN u = false := all_range_no hlk HG.out
              rw [hno]; simp
            rw [HX.out]; rfl
          · go_wp2_with (go_at_call 110; refine hq.mono ?_; rintro e' w' ⟨rfl, hb2⟩; have y1 := ((hd.trans (hb2.mono hd.size)).cell (p := ⟨wo.heap.size, 1, none⟩) lx).trans x1)
            have NX : ∀ i, i < k + 1 → shelfNAt u i = true := fun i hi => (Nat.lt_succ_iff_lt_or_eq.1 hi).elim (HALL.out i) (fun h => h ▸ HG.out)
            have hbn := hd.trans (hb2.mono hd.size)
            have HM : u.gs.length - ((k : Int) + 1).toNat < u.gs.length - (k : Int).toNat := by omega
            first
            | exact ⟨⟨k + 1, hlk, rfl, by go_num, hbn, NX⟩, HM⟩
            | (refine ⟨?_, HM⟩
               repeat apply Exists.intro
               refine ⟨⟨k + 1, hlk, rfl, by go_num, hbn, NX⟩, rfl⟩)
        · have hlk' : ¬ (k : Int) < (u.gs.length : Int) := by omega
          obtain rfl : k = u.gs.length := by omega
          have HNOW : Hid (shelvesN u = true) := all_range.2 HALL.out
          clear HALL y1
          go_wp2
          refine ⟨⟨3, by decide, rfl, by first | rfl | go_num, HVX.out, fun _ => HP0.out, fun _ => HP1.out, fun _ => HNOW.out, fun h => absurd h (by decide), fun h => absurd h (by decide), fun h => absurd h (by decide)⟩, by simp [intOf]⟩
    · have r0 : wo.cell? ⟨b, 6, none⟩ = some (.int .i64 (u.ts.length : Int)) := HRW 6 _ rfl
      have r1 : wo.cell? ⟨b, 7, none⟩ = some (.func (.func 111) #[] #[]) := HRW 7 _ rfl
      have HP0 : Hid (placesB u = true) := HUP.out.1 (by decide)
      have HP1 : Hid (groupsB u = true) := HUP.out.2.1 (by decide)
      have HP2 : Hid (shelvesN u = true) := HUP.out.2.2.1 (by decide)
      obtain ⟨X, hX⟩ : ∃ X, wo.alloc (.cells #[.int .i64 (u.ts.length : Int), .func (.func 111) #[] #[]] 89) = X := ⟨_, rfl⟩
      have BX : Below wo.heap.size wo X := by rw [← hX]; exact (Below.refl _ _).alloc (Nat.le_refl _) _
      have hrx : X.rangeAt wo.heap.size 0 [.int .i64 (u.ts.length : Int), .func (.func 111) #[] #[]] := range_of_block (by rw [← hX]; exact World.alloc_heap_new wo _)
      have x0 : X.cell? ⟨wo.heap.size, 0, none⟩ = some (.int .i64 (u.ts.length : Int)) := hrx 0 _ rfl
      have x1 : X.cell? ⟨wo.heap.size, 1, none⟩ = some (.func (.func 111) #[] #[]) := hrx 1 _ rfl
      have lx : wo.heap.size < X.heap.size := block_lt_of_cell x0
      clear hrx HRW
      go_wp2
      clear hX r0 r1
      go_loopw [3, 15] (fun tk tt wr => ∃ k : Nat, k ≤ u.ts.length ∧ tk = .bool true ∧ tt = .int .i64 (k : Int) ∧ Below X.heap.size X wr ∧ ∀ i, i < k → taskAt u i = true) (fun _ tt _ => u.ts.length - (intOf tt).toNat)
      case atStart => exact ⟨0, Nat.zero_le _, rfl, rfl, Below.refl _ _, fun i hi => absurd hi (Nat.not_lt_zero _)⟩
      case round =>
        obtain ⟨k, hk, rfl, rfl, hd, hall⟩ := hrel
        have HALL : Hid (∀ i, i < k → taskAt u i = true) := hall
        clear hall
        have y1 := (hd.cell (p := ⟨wo.heap.size, 1, none⟩) lx).trans x1
        have hVX : Below V.heap.size V wr := hb.trans ((BX.trans (hd.mono BX.size)).mono hb.size)
        have HQ : Hid (AtW wr w.heap.size u) := (HA.out.below HV.out).below hVX
        have HWQ : Hid (Below w.heap.size w wr) := ACC.out.trans ((HV.out.trans (hVX.mono HV.out.size)).mono ACC.out.size)
        have HVX : Hid (Below V.heap.size V wr) := hVX
        clear hVX
        by_cases hlk : k < u.ts.length
        · have hlk' : (k : Int) < (u.ts.length : Int) := by omega
          obtain ⟨gb, hgb⟩ : ∃ b, taskAt u k = b := ⟨_, rfl⟩
          have hq := (show Calls Tryz.prog 111 #[ptr w.heap.size, .int .i64 (k : Int)] wr _ from by obtain ⟨t, ht⟩ : ∃ t, u.ts[k]? = some t := ⟨_, List.getElem?_eq_getElem hlk⟩; have h0 := isTaskOk_any w.heap.size k u t wr HQ.out (fit_of HP0.out HP1.out).1 (fit_of HP0.out HP1.out).2 ht; have : taskAt u k = taskOkB u t := (by unfold taskAt; rw [ht]; rfl); rw [← this] at h0; exact h0)
          rw [hgb] at hq
          unfold ptr at hq
          have HG : Hid (taskAt u k = gb) := hgb
          clear hgb
          cases gb
          · go_wp2_with (go_at_call 111; refine hq.mono ?_; rintro e' w' ⟨rfl, hb2⟩)
            (try rw [Exit.noGoto_ret])
            go_ret
            refine ⟨?_, HWQ.out.trans (hb2.mono HWQ.out.size)⟩
            have HX : Hid (okP u = false) := by
              unfold Hid okP
              have hno : tasksB u = false := all_range_no hlk HG.out
              rw [hno]; simp
            rw [HX.out]; rfl
          · go_wp2_with (go_at_call 111; refine hq.mono ?_; rintro e' w' ⟨rfl, hb2⟩; have y1 := ((hd.trans (hb2.mono hd.size)).cell (p := ⟨wo.heap.size, 1, none⟩) lx).trans x1)
            have NX : ∀ i, i < k + 1 → taskAt u i = true := fun i hi => (Nat.lt_succ_iff_lt_or_eq.1 hi).elim (HALL.out i) (fun h => h ▸ HG.out)
            have hbn := hd.trans (hb2.mono hd.size)
            have HM : u.ts.length - ((k : Int) + 1).toNat < u.ts.length - (k : Int).toNat := by omega
            first
            | exact ⟨⟨k + 1, hlk, rfl, by go_num, hbn, NX⟩, HM⟩
            | (refine ⟨?_, HM⟩
               repeat apply Exists.intro
               refine ⟨⟨k + 1, hlk, rfl, by go_num, hbn, NX⟩, rfl⟩)
        · have hlk' : ¬ (k : Int) < (u.ts.length : Int) := by omega
          obtain rfl : k = u.ts.length := by omega
          have HNOW : Hid (tasksB u = true) := all_range.2 HALL.out
          clear HALL y1
          go_wp2
          refine ⟨⟨4, by decide, rfl, by first | rfl | go_num, HVX.out, fun _ => HP0.out, fun _ => HP1.out, fun _ => HP2.out, fun _ => HNOW.out, fun h => absurd h (by decide), fun h => absurd h (by decide)⟩, by simp [intOf]⟩
    · have r0 : wo.cell? ⟨b, 8, none⟩ = some (.int .i64 (u.cs.length : Int)) := HRW 8 _ rfl
      have r1 : wo.cell? ⟨b, 9, none⟩ = some (.func (.func 112) #[] #[]) := HRW 9 _ rfl
      have HP0 : Hid (placesB u = true) := HUP.out.1 (by decide)
      have HP1 : Hid (groupsB u = true) := HUP.out.2.1 (by decide)
      have HP2 : Hid (shelvesN u = true) := HUP.out.2.2.1 (by decide)
      have HP3 : Hid (tasksB u = true) := HUP.out.2.2.2.1 (by decide)
      obtain ⟨X, hX⟩ : ∃ X, wo.alloc (.cells #[.int .i64 (u.cs.length : Int), .func (.func 112) #[] #[]] 89) = X := ⟨_, rfl⟩
      have BX : Below wo.heap.size wo X := by rw [← hX]; exact (Below.refl _ _).alloc (Nat.le_refl _) _
      have hrx : X.rangeAt wo.heap.size 0 [.int .i64 (u.cs.length : Int), .func (.func 112) #[] #[]] := range_of_block (by rw [← hX]; exact World.alloc_heap_new wo _)
      have x0 : X.cell? ⟨wo.heap.size, 0, none⟩ = some (.int .i64 (u.cs.length : Int)) := hrx 0 _ rfl
      have x1 : X.cell? ⟨wo.heap.size, 1, none⟩ = some (.func (.func 112) #[] #[]) := hrx 1 _ rfl
      have lx : wo.heap.size < X.heap.size := block_lt_of_cell x0
      clear hrx HRW
      go_wp2
      clear hX r0 r1
      go_loopw [3, 15] (fun tk tt wr => ∃ k : Nat, k ≤ u.cs.length ∧ tk = .bool true ∧ tt = .int .i64 (k : Int) ∧ Below X.heap.size X wr ∧ ∀ i, i < k → queuesAt u i = true) (fun _ tt _ => u.cs.length - (intOf tt).toNat)
      case atStart => exact ⟨0, Nat.zero_le _, rfl, rfl, Below.refl _ _, fun i hi => absurd hi (Nat.not_lt_zero _)⟩
      case round =>
        obtain ⟨k, hk, rfl, rfl, hd, hall⟩ := hrel
        have HALL : Hid (∀ i, i < k → queuesAt u i = true) := hall
        clear hall
        have y1 := (hd.cell (p := ⟨wo.heap.size, 1, none⟩) lx).trans x1
        have hVX : Below V.heap.size V wr := hb.trans ((BX.trans (hd.mono BX.size)).mono hb.size)
        have HQ : Hid (AtW wr w.heap.size u) := (HA.out.below HV.out).below hVX
        have HWQ : Hid (Below w.heap.size w wr) := ACC.out.trans ((HV.out.trans (hVX.mono HV.out.size)).mono ACC.out.size)
        have HVX : Hid (Below V.heap.size V wr) := hVX
        clear hVX
        by_cases hlk : k < u.cs.length
        · have hlk' : (k : Int) < (u.cs.length : Int) := by omega
          obtain ⟨gb, hgb⟩ : ∃ b, queuesAt u k = b := ⟨_, rfl⟩
          have hq := areQueuesOk_any w.heap.size k u wr HQ.out (fit_of HP0.out HP1.out).1 hlk
          rw [show (inners (gsD u.gs)).all (qkB u.ts (gsD u.gs) k) = gb from hgb] at hq
          unfold ptr at hq
          have HG : Hid (queuesAt u k = gb) := hgb
          clear hgb
          cases gb
          · go_wp2_with (go_at_call 112; refine hq.mono ?_; rintro e' w' ⟨rfl, hb2⟩)
            (try rw [Exit.noGoto_ret])
            go_ret
            refine ⟨?_, HWQ.out.trans (hb2.mono HWQ.out.size)⟩
            have HX : Hid (okP u = false) := by
              unfold Hid okP
              have hno : queuesB u = false := all_range_no hlk HG.out
              rw [hno]; simp
            rw [HX.out]; rfl
          · go_wp2_with (go_at_call 112; refine hq.mono ?_; rintro e' w' ⟨rfl, hb2⟩; have y1 := ((hd.trans (hb2.mono hd.size)).cell (p := ⟨wo.heap.size, 1, none⟩) lx).trans x1)
            have NX : ∀ i, i < k + 1 → queuesAt u i = true := fun i hi => (Nat.lt_succ_iff_lt_or_eq.1 hi).elim (HALL.out i) (fun h => h ▸ HG.out)
            have hbn := hd.trans (hb2.mono hd.size)
            have HM : u.cs.length - ((k : Int) + 1).toNat < u.cs.length - (k : Int).toNat := by omega
            first
            | exact ⟨⟨k + 1, hlk, rfl, by go_num, hbn, NX⟩, HM⟩
            | (refine ⟨?_, HM⟩
               repeat apply Exists.intro
               refine ⟨⟨k + 1, hlk, rfl, by go_num, hbn, NX⟩, rfl⟩)
        · have hlk' : ¬ (k : Int) < (u.cs.length : Int) := by omega
          obtain rfl : k = u.cs.length := by omega
          have HNOW : Hid (queuesB u = true) := all_range.2 HALL.out
          clear HALL y1
          go_wp2
          refine ⟨⟨5, by decide, rfl, by first | rfl | go_num, HVX.out, fun _ => HP0.out, fun _ => HP1.out, fun _ => HP2.out, fun _ => HP3.out, fun _ => HNOW.out, fun h => absurd h (by decide)⟩, by simp [intOf]⟩
    · have r0 : wo.cell? ⟨b, 10, none⟩ = some (.int .i64 (u.cs.length : Int)) := HRW 10 _ rfl
      have r1 : wo.cell? ⟨b, 11, none⟩ = some (.func (.func 113) #[] #[]) := HRW 11 _ rfl
      have HP0 : Hid (placesB u = true) := HUP.out.1 (by decide)
      have HP1 : Hid (groupsB u = true) := HUP.out.2.1 (by decide)
      have HP2 : Hid (shelvesN u = true) := HUP.out.2.2.1 (by decide)
      have HP3 : Hid (tasksB u = true) := HUP.out.2.2.2.1 (by decide)
      have HP4 : Hid (queuesB u = true) := HUP.out.2.2.2.2.1 (by decide)
      obtain ⟨X, hX⟩ : ∃ X, wo.alloc (.cells #[.int .i64 (u.cs.length : Int), .func (.func 113) #[] #[]] 89) = X := ⟨_, rfl⟩
      have BX : Below wo.heap.size wo X := by rw [← hX]; exact (Below.refl _ _).alloc (Nat.le_refl _) _
      have hrx : X.rangeAt wo.heap.size 0 [.int .i64 (u.cs.length : Int), .func (.func 113) #[] #[]] := range_of_block (by rw [← hX]; exact World.alloc_heap_new wo _)
      have x0 : X.cell? ⟨wo.heap.size, 0, none⟩ = some (.int .i64 (u.cs.length : Int)) := hrx 0 _ rfl
      have x1 : X.cell? ⟨wo.heap.size, 1, none⟩ = some (.func (.func 113) #[] #[]) := hrx 1 _ rfl
      have lx : wo.heap.size < X.heap.size := block_lt_of_cell x0
      clear hrx HRW
      go_wp2
      clear hX r0 r1
      go_loopw [3, 15] (fun tk tt wr => ∃ k : Nat, k ≤ u.cs.length ∧ tk = .bool true ∧ tt = .int .i64 (k : Int) ∧ Below X.heap.size X wr ∧ ∀ i, i < k → cpuPAt u i = true) (fun _ tt _ => u.cs.length - (intOf tt).toNat)
      case atStart => exact ⟨0, Nat.zero_le _, rfl, rfl, Below.refl _ _, fun i hi => absurd hi (Nat.not_lt_zero _)⟩
      case round =>
        obtain ⟨k, hk, rfl, rfl, hd, hall⟩ := hrel
        have HALL : Hid (∀ i, i < k → cpuPAt u i = true) := hall
        clear hall
        have y1 := (hd.cell (p := ⟨wo.heap.size, 1, none⟩) lx).trans x1
        have hVX : Below V.heap.size V wr := hb.trans ((BX.trans (hd.mono BX.size)).mono hb.size)
        have HQ : Hid (AtW wr w.heap.size u) := (HA.out.below HV.out).below hVX
        have HWQ : Hid (Below w.heap.size w wr) := ACC.out.trans ((HV.out.trans (hVX.mono HV.out.size)).mono ACC.out.size)
        have HVX : Hid (Below V.heap.size V wr) := hVX
        clear hVX
        by_cases hlk : k < u.cs.length
        · have hlk' : (k : Int) < (u.cs.length : Int) := by omega
          obtain ⟨gb, hgb⟩ : ∃ b, cpuPAt u k = b := ⟨_, rfl⟩
          have hq := (show Calls Tryz.prog 113 #[ptr w.heap.size, .int .i64 (k : Int)] wr _ from by obtain ⟨x, hx⟩ : ∃ x, u.cs[k]? = some x := ⟨_, List.getElem?_eq_getElem hlk⟩; have h0 := isProcessorOk_any w.heap.size k u x wr HQ.out (fit_of HP0.out HP1.out).1 (tfit_of (fit_of HP0.out HP1.out).1 (fit_of HP0.out HP1.out).2 HP3.out) hx; have : cpuPAt u k = cpuOkB u k x := (by unfold cpuPAt; rw [hx]; rfl); rw [← this] at h0; exact h0)
          rw [hgb] at hq
          unfold ptr at hq
          have HG : Hid (cpuPAt u k = gb) := hgb
          clear hgb
          cases gb
          · go_wp2_with (go_at_call 113; refine hq.mono ?_; rintro e' w' ⟨rfl, hb2⟩)
            (try rw [Exit.noGoto_ret])
            go_ret
            refine ⟨?_, HWQ.out.trans (hb2.mono HWQ.out.size)⟩
            have HX : Hid (okP u = false) := by
              unfold Hid okP
              have hno : cpusP u = false := all_range_no hlk HG.out
              rw [hno]; simp
            rw [HX.out]; rfl
          · go_wp2_with (go_at_call 113; refine hq.mono ?_; rintro e' w' ⟨rfl, hb2⟩; have y1 := ((hd.trans (hb2.mono hd.size)).cell (p := ⟨wo.heap.size, 1, none⟩) lx).trans x1)
            have NX : ∀ i, i < k + 1 → cpuPAt u i = true := fun i hi => (Nat.lt_succ_iff_lt_or_eq.1 hi).elim (HALL.out i) (fun h => h ▸ HG.out)
            have hbn := hd.trans (hb2.mono hd.size)
            have HM : u.cs.length - ((k : Int) + 1).toNat < u.cs.length - (k : Int).toNat := by omega
            first
            | exact ⟨⟨k + 1, hlk, rfl, by go_num, hbn, NX⟩, HM⟩
            | (refine ⟨?_, HM⟩
               repeat apply Exists.intro
               refine ⟨⟨k + 1, hlk, rfl, by go_num, hbn, NX⟩, rfl⟩)
        · have hlk' : ¬ (k : Int) < (u.cs.length : Int) := by omega
          obtain rfl : k = u.cs.length := by omega
          have HNOW : Hid (cpusP u = true) := all_range.2 HALL.out
          clear HALL y1
          go_wp2
          refine ⟨⟨6, by decide, rfl, by first | rfl | go_num, HVX.out, fun _ => HP0.out, fun _ => HP1.out, fun _ => HP2.out, fun _ => HP3.out, fun _ => HP4.out, fun _ => HNOW.out⟩, by simp [intOf]⟩
    · have HX : Hid (okP u = true) := by unfold Hid okP; rw [HUP.out.1 (by decide), HUP.out.2.1 (by decide), HUP.out.2.2.1 (by decide), HUP.out.2.2.2.1 (by decide), HUP.out.2.2.2.2.1 (by decide), HUP.out.2.2.2.2.2 (by decide)]; rfl
      have HWR : Hid (Below w.heap.size w wo) := ACC.out.trans ((HV.out.trans (hb.mono HV.out.size)).mono ACC.out.size)
      clear HRW
      go_wp2
      (try rw [Exit.noGoto_ret])
      go_ret
      exact ⟨by rw [HX.out]; rfl, HWR.out⟩
end Go.Proofs.YtnmmglkigiakaaaGreat
