/- What the program asks of a world and what the specification asks come to the same. Two worlds that tell the same are both ok, or neither is. WorldDry, the program's and the specification's. -/
import Derived.Test.YtnmmglkigiakaaaGreatC39
import Derived.Test.YtnmmglkigiakaaaGreatC45
namespace Go.Proofs.YtnmmglkigiakaaaGreat
set_option linter.unusedVariables false
set_option linter.unusedSimpArgs false
open Go.ChangeShapes Go.WideShapes Go.ChangeAt Go.RowKit Go.Shelf Go.Sort

theorem bool_eq {a b : Bool} (h : a = true ↔ b = true) : a = b := by cases a <;> cases b <;> simp_all
theorem shAt_of {u : Wv} {k c : Nat} {e : Gv} {s : Sh} (he : u.gs[k]? = some e) (hs : e.d.sh[c]? = some s) : shAt (gsD u.gs) k c = s := by unfold shAt; rw [gsD_at he]; simp [hs]
theorem used_at {u : Wv} {k : Nat} {e : Gv} (he : u.gs[k]? = some e) : usAt (gsD u.gs) k = e.d.us := by
  obtain ⟨e', he', q0, _⟩ := gs_get (vs := u.gs) (k := k) (List.getElem?_eq_some_iff.1 he).1
  rw [he] at he'; cases he'; exact q0
theorem inner_of {u : Wv} {k : Nat} {e : Gv} (he : u.gs[k]? = some e) (hu : e.d.us = true) (h0 : k ≠ 0) : k ∈ inners (gsD u.gs) := by
  unfold inners innerTo
  rw [List.mem_filter, List.mem_range]
  refine ⟨by rw [gsD_length]; exact (List.getElem?_eq_some_iff.1 he).1, ?_⟩
  rw [used_at he, hu]; simp [h0]
theorem shelves_eq {u : Wv} (hF : Fit u) (hG : groupsB u = true) : shelvesB u = (shelvesN u && queuesB u) := by
  refine bool_eq ?_
  rw [Bool.and_eq_true]
  unfold shelvesB shelvesN queuesB
  rw [all_range, all_range, all_range]
  constructor
  · intro h
    have key : ∀ (k c : Nat) (e : Gv) (s : Sh), u.gs[k]? = some e → e.d.sh[c]? = some s → shelfB u k c s = true := by
      intro k c e s he hs
      have h1 := h k (List.getElem?_eq_some_iff.1 he).1
      unfold shelvesAt at h1
      rw [he] at h1
      have h2 := all_range.1 h1 c (List.getElem?_eq_some_iff.1 hs).1
      unfold shelfAt at h2
      rw [he] at h2
      have h3 : ((e.d.sh[c]?).any (shelfB u k c)) = true := h2
      rw [hs] at h3; exact h3
    refine ⟨fun k hk => ?_, fun c hc => ?_⟩
    · obtain ⟨e, he⟩ : ∃ e, u.gs[k]? = some e := ⟨_, List.getElem?_eq_getElem hk⟩
      unfold shelfNAt
      rw [he]
      show e.d.sh.all (shelfNB k) = true
      rw [List.all_eq_true]
      intro s hs
      obtain ⟨c, hc⟩ := List.getElem?_of_mem hs
      have := key k c e s he hc
      unfold shelfB at this
      rw [Bool.and_eq_true] at this
      exact this.1
    · unfold queuesAt
      rw [List.all_eq_true]
      intro k hk
      obtain ⟨h1, h2, h3⟩ := in_inners hk
      rw [gsD_length] at h1
      obtain ⟨e, he⟩ : ∃ e, u.gs[k]? = some e := ⟨_, List.getElem?_eq_getElem h1⟩
      obtain ⟨s, hs⟩ := hF.ok hc k e.d (gsD_at he) (by rw [← used_at he]; exact h2)
      have := key k c e s he hs
      unfold shelfB at this
      simp only [Bool.and_eq_true, Bool.or_eq_true, decide_eq_true_eq] at this
      unfold qkB
      rw [shAt_of he hs]
      exact this.2.resolve_left h3
  · rintro ⟨hN, hQ⟩ k hk
    obtain ⟨e, he⟩ : ∃ e, u.gs[k]? = some e := ⟨_, List.getElem?_eq_getElem hk⟩
    unfold shelvesAt
    rw [he]
    show (List.range e.d.sh.length).all (shelfAt u k) = true
    rw [all_range]
    intro c hc
    obtain ⟨s, hs⟩ : ∃ s, e.d.sh[c]? = some s := ⟨_, List.getElem?_eq_getElem hc⟩
    unfold shelfAt
    rw [he]
    show ((e.d.sh[c]?).any (shelfB u k c)) = true
    rw [hs]
    show shelfB u k c s = true
    have h1 := hN k hk
    unfold shelfNAt at h1
    rw [he] at h1
    have h2 := (List.all_eq_true.1 (show e.d.sh.all (shelfNB k) = true from h1)) s (List.mem_of_getElem? hs)
    unfold shelfB
    rw [h2, Bool.true_and]
    by_cases h0 : k = 0
    · simp [h0]
    · have hu : e.d.us = true := by
        cases hu : e.d.us
        · have := (group_free (groups_at hG he) hu).2; omega
        · rfl
      have hcn : c < u.cs.length := by rw [← hF.sh k e he hu]; exact hc
      have h3 := hQ c hcn
      unfold queuesAt at h3
      have h4 := (List.all_eq_true.1 h3) k (inner_of he hu h0)
      unfold qkB at h4
      rw [shAt_of he hs] at h4
      rw [h4, Bool.or_true]
theorem low_within {v f m : Int} (h : f ≤ v) : withinB v f m = lowB v f m := by unfold withinB lowB; rw [decide_eq_true h, Bool.true_and]
theorem cpu_eq {u : Wv} (hF : Fit u) (hC : CpIn (gsD u.gs)) (hT : tasksB u = true) (hQ : queuesB u = true) {c : Nat} {x : Cp} (hx : u.cs[c]? = some x) : cpuOkB u c x = cpuSB u c x := by
  have hc : c < u.cs.length := (List.getElem?_eq_some_iff.1 hx).1
  unfold cpuOkB cpuSB
  congr 1
  congr 1
  unfold stayB
  by_cases h0 : x.cur = -1
  · rw [if_pos h0, if_pos h0, h0]
    have : l1in (-1) (-1) 11 = true := rfl
    rw [this, Bool.true_and]
  · rw [if_neg h0, if_neg h0]
    cases hr : l1in x.cur (-1) 11
    · have htb : taskB u.ts x.cur = false := by
        unfold taskB
        rw [hF.nt]
        cases h1 : decide (0 ≤ x.cur)
        · rfl
        · have h1' := of_decide_eq_true h1
          have : ¬ x.cur < ((12 : Nat) : Int) := by
            intro h2
            rw [l1in_iff.2 ⟨by omega, by omega⟩] at hr; cases hr
          rw [decide_eq_false this]; rfl
      unfold inlT
      rw [htb]; simp
    · obtain ⟨r1, r2⟩ := l1in_iff.1 hr
      obtain ⟨k, hk⟩ := Int.eq_ofNat_of_zero_le (show 0 ≤ x.cur by omega)
      obtain ⟨t, ht⟩ : ∃ t, u.ts[k]? = some t := ⟨_, List.getElem?_eq_getElem (by rw [hF.nt]; omega)⟩
      rw [Bool.true_and, hk]
      unfold inlT
      rw [Int.toNat_natCast, ht]
      show (x.up && (decide (1 ≤ x.ran) && (decide (x.ran ≤ 149) && ((taskB u.ts (k : Int) && (decide (t.cpu = (c : Int)) && inlineB (gsD u.gs) t.st t.gr.toNat c)) && stay2 u c x.ran t)))) = (x.up && (l1in x.ran 1 149 && (decide (t.cpu = (c : Int)) && (inlineB (gsD u.gs) t.st t.gr.toNat c && stayS (gsD u.gs) c x.ran t t.gr.toNat))))
      have hl : l1in x.ran 1 149 = (decide (1 ≤ x.ran) && decide (x.ran ≤ 149)) := by unfold l1in; rw [Bool.decide_and]
      have key : ((taskB u.ts (k : Int) && (decide (t.cpu = (c : Int)) && inlineB (gsD u.gs) t.st t.gr.toNat c)) && stay2 u c x.ran t) = (decide (t.cpu = (c : Int)) && (inlineB (gsD u.gs) t.st t.gr.toNat c && stayS (gsD u.gs) c x.ran t t.gr.toNat)) := by
        by_cases hcp : t.cpu = (c : Int)
        · rw [decide_eq_true hcp, Bool.true_and, Bool.true_and]
          cases hi : inlineB (gsD u.gs) t.st t.gr.toNat c
          · simp
          · have hi2 := hi
            unfold inlineB at hi2
            rw [Bool.and_eq_true] at hi2
            have hst := of_decide_eq_true hi2.1
            have hon := List.all_eq_true.1 hi2.2
            have htk : taskB u.ts (k : Int) = true := by
              unfold taskB
              rw [Int.toNat_natCast, ht, decide_eq_true (by omega : (0 : Int) ≤ (k : Int)), decide_eq_true (by rw [hF.nt]; omega)]
              simp [hst]
            rw [htk]
            simp only [Bool.true_and]
            obtain ⟨h1, h2, h3, h4⟩ := task_there (tasks_at hT ht) (by rw [hst]; decide)
            obtain ⟨g, hg, hg8, hug⟩ := used_nat hF h1
            have hw := h4 hst
            unfold taskWellB at hw
            rw [hcp, hg, Int.toNat_natCast, Int.toNat_natCast] at hw
            have hfl : (shAt (gsD u.gs) g c).fl ≤ t.v := by unfold withinB at hw; rw [Bool.and_eq_true] at hw; exact of_decide_eq_true hw.1
            unfold stay2 stayS tskInB
            rw [hg, Int.toNat_natCast, low_within hfl, Bool.and_comm]
            congr 1
            rw [hg, Int.toNat_natCast] at hon
            have hall : ∀ j, j ∈ outs (gsD u.gs) g → grpInB (gsD u.gs) x.ran c j = lowG (gsD u.gs) x.ran c j := by
              intro j hj
              obtain ⟨j8, uj, j0⟩ := outs_used hF.tree hg8 hug hj
              obtain ⟨e, he⟩ : ∃ e, u.gs[j]? = some e := ⟨_, List.getElem?_eq_getElem (by rw [hF.g8]; exact j8)⟩
              have hq := all_range.1 hQ c hc
              unfold queuesAt at hq
              have hq2 := (List.all_eq_true.1 hq) j (inner_of he (by rw [← used_at he]; exact uj) j0)
              unfold qkB queueB at hq2
              rw [Bool.and_eq_true, hon j hj] at hq2
              have hq3 := hq2.2
              simp only [Bool.not_true, Bool.false_or] at hq3
              unfold withinB at hq3
              rw [Bool.and_eq_true] at hq3
              unfold grpInB lowG
              exact low_within (of_decide_eq_true hq3.1)
            refine bool_eq ?_
            rw [List.all_eq_true, List.all_eq_true]
            exact ⟨fun h j hj => by rw [← hall j hj]; exact h j hj, fun h j hj => by rw [hall j hj]; exact h j hj⟩
        · rw [decide_eq_false hcp]; simp
      rw [key, hl]
      simp only [Bool.and_assoc]
theorem ok_eq (u : Wv) : okP u = okS u := by
  unfold okP okS
  cases hp : placesB u
  · rfl
  · cases hg : groupsB u
    · rfl
    · obtain ⟨hF, hC⟩ := fit_of hp hg
      rw [shelves_eq hF hg]
      simp only [Bool.true_and]
      cases hn : shelvesN u
      · cases tasksB u <;> rfl
      · cases ht : tasksB u
        · rfl
        · cases hq : queuesB u
          · rfl
          · simp only [Bool.true_and]
            refine bool_eq ?_
            unfold cpusP cpusB
            rw [all_range, all_range]
            have key : ∀ c, c < u.cs.length → cpuPAt u c = cpuAt u c := by
              intro c hc
              obtain ⟨x, hx⟩ : ∃ x, u.cs[c]? = some x := ⟨_, List.getElem?_eq_getElem hc⟩
              unfold cpuPAt cpuAt
              rw [hx]
              exact cpu_eq hF hC ht hq hx
            exact ⟨fun h c hc => by rw [← key c hc]; exact h c hc, fun h c hc => by rw [key c hc]; exact h c hc⟩
theorem implWorldOk_eq (u : Wv) (w : World) (hs : SlW w u) (hf : GsFit u.gs) :
    Calls Tryz.prog 27 #[wvV u] w fun e' w' => e' = .returned (.bool (okS u)) ∧ Below w.heap.size w w' := by
  have h := implWorldOk_any u w hs hf
  rw [ok_eq] at h
  exact h
end Go.Proofs.YtnmmglkigiakaaaGreat
namespace Go.Proofs.YtnmmglkigiakaaaGreat
set_option linter.unusedVariables false
set_option linter.unusedSimpArgs false
open Go.ChangeShapes Go.WideShapes Go.ChangeAt Go.RowKit Go.Shelf Go.Sort

theorem WFit.same {u v : Wv} (h : WFit u) (d : SameW u v) : WFit v := ⟨by rw [d.cs]; exact h.1, by rw [d.ts]; exact h.2.1, h.2.2.of_same d.gs⟩
theorem any_gs (gs : List Gv) (k : Nat) (f : Gr → Bool) : (gs[k]?).any (fun e => f e.d) = ((gsD gs)[k]?).any f := by
  unfold gsD
  rw [List.getElem?_map]
  cases gs[k]? <;> rfl
theorem okS_same {u v : Wv} (h : SameW u v) : okS v = okS u := by
  obtain ⟨n1, cs1, ts1, gs1, x1, y1, z1⟩ := u
  obtain ⟨n2, cs2, ts2, gs2, x2, y2, z2⟩ := v
  obtain ⟨e1, e2, e3, hg⟩ := h
  dsimp only at e1 e2 e3 hg
  subst e1 e2 e3
  have hl : gs2.length = gs1.length := by have := congrArg List.length hg; rwa [gsD_length, gsD_length] at this
  have t1 : taskOkB ⟨n2, cs2, ts2, gs2, x2, y2, z2⟩ = taskOkB ⟨n2, cs2, ts2, gs1, x1, y1, z1⟩ := by funext t; unfold taskOkB whereB; dsimp only; rw [hg]
  have t2 : ∀ k c, shelfB ⟨n2, cs2, ts2, gs2, x2, y2, z2⟩ k c = shelfB ⟨n2, cs2, ts2, gs1, x1, y1, z1⟩ k c := by intro k c; funext s; unfold shelfB; dsimp only; rw [hg]
  have t3 : ∀ c, cpuSB ⟨n2, cs2, ts2, gs2, x2, y2, z2⟩ c = cpuSB ⟨n2, cs2, ts2, gs1, x1, y1, z1⟩ c := by intro c; funext x; unfold cpuSB; dsimp only; rw [hg]
  have g1 : groupAt ⟨n2, cs2, ts2, gs2, x2, y2, z2⟩ = groupAt ⟨n2, cs2, ts2, gs1, x1, y1, z1⟩ := by
    funext k; unfold groupAt; dsimp only
    rw [any_gs gs2 k (fun d => groupB n2 cs2.length k d), any_gs gs1 k (fun d => groupB n2 cs2.length k d), hg]
  have g2 : taskAt ⟨n2, cs2, ts2, gs2, x2, y2, z2⟩ = taskAt ⟨n2, cs2, ts2, gs1, x1, y1, z1⟩ := by funext k; unfold taskAt; rw [t1]
  have g3 : ∀ k, shelfAt ⟨n2, cs2, ts2, gs2, x2, y2, z2⟩ k = shelfAt ⟨n2, cs2, ts2, gs1, x1, y1, z1⟩ k := by
    intro k; funext c; unfold shelfAt; dsimp only
    rw [t2]
    rw [any_gs gs2 k (fun d => (d.sh[c]?).any (shelfB ⟨n2, cs2, ts2, gs1, x1, y1, z1⟩ k c)), any_gs gs1 k (fun d => (d.sh[c]?).any (shelfB ⟨n2, cs2, ts2, gs1, x1, y1, z1⟩ k c)), hg]
  have g4 : shelvesAt ⟨n2, cs2, ts2, gs2, x2, y2, z2⟩ = shelvesAt ⟨n2, cs2, ts2, gs1, x1, y1, z1⟩ := by
    funext k; unfold shelvesAt; dsimp only
    rw [g3]
    rw [any_gs gs2 k (fun d => (List.range d.sh.length).all (shelfAt ⟨n2, cs2, ts2, gs1, x1, y1, z1⟩ k)), any_gs gs1 k (fun d => (List.range d.sh.length).all (shelfAt ⟨n2, cs2, ts2, gs1, x1, y1, z1⟩ k)), hg]
  have g5 : cpuAt ⟨n2, cs2, ts2, gs2, x2, y2, z2⟩ = cpuAt ⟨n2, cs2, ts2, gs1, x1, y1, z1⟩ := by funext c; unfold cpuAt; rw [t3]
  unfold okS groupsB tasksB shelvesB cpusB placesB
  rw [g1, g2, g4, g5]
  dsimp only
  rw [hg, hl]
end Go.Proofs.YtnmmglkigiakaaaGreat
namespace Go.Proofs.YtnmmglkigiakaaaGreat
set_option linter.unusedVariables false
set_option linter.unusedSimpArgs false
open Go.ChangeShapes Go.WideShapes Go.ChangeAt Go.RowKit Go.Shelf Go.Sort
attribute [local go_sem] Oper.semAt_some
/-- an ok world fits. -/
theorem okS_fit {u : Wv} (h : okS u = true) : placesB u = true ∧ groupsB u = true ∧ tasksB u = true ∧ Fit u ∧ CpIn (gsD u.gs) := by
  unfold okS at h
  simp only [Bool.and_eq_true] at h
  obtain ⟨h1, h2, h3, _⟩ := h
  exact ⟨h1, h2, h3, (fit_of h1 h2).1, (fit_of h1 h2).2⟩
def dryAt (u : Wv) (g c : Int) : Bool := usedB (gsD u.gs) g && (cpuB u.cs c && (u.gs[g.toNat]?).any (fun e => dryB e.d.ba c.toNat))
def dryS (u : Wv) (g c : Int) : Bool := okS u && dryAt u g c
theorem cpuB_nat {cs : List Cp} {c : Int} (h : cpuB cs c = true) : ∃ k : Nat, c = (k : Int) ∧ k < cs.length := by
  unfold cpuB at h
  simp only [Bool.and_eq_true, decide_eq_true_eq] at h
  obtain ⟨k, rfl⟩ := Int.eq_ofNat_of_zero_le h.1
  exact ⟨k, rfl, by omega⟩
end Go.Proofs.YtnmmglkigiakaaaGreat
