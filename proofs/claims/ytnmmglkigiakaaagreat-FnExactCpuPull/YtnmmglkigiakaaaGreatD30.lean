/- What the program asks of a world and what the specification asks come to the same. Two worlds that tell the same are both ok, or neither is. WorldDry, the program's and the specification's. What an ok world shows to who reads it. Chapter 12 as plain functions: who could run elsewhere, who would be taken over. The program: whether a task could run on a processor. The program: the processors that have somebody to give. The specification: what a world shows to a walk; the load of a processor. Chapter 12: what its functions tell; the specification: how many wait. -/
import Derived.Test.YtnmmglkigiakaaaGreatD26
import Derived.Test.YtnmmglkigiakaaaGreatD29
namespace Go.Proofs.YtnmmglkigiakaaaGreat
set_option maxRecDepth 100000
set_option maxHeartbeats 32000000
set_option linter.unusedVariables false
set_option linter.unusedSimpArgs false
open Go.ChangeShapes Go.WideShapes Go.ChangeAt Go.RowKit Go.Shelf Go.Sort
theorem bool_eq {a b : Bool} (h : a = true ↔ b = true) : a = b := by cases a <;> cases b <;> simp_all
theorem shAt_of {u : Wv} {k c : Nat} {e : Gv} {s : Sh} (he : u.gs[k]? = some e) (hs : e.d.sh[c]? = some s) : shAt (gsD u.gs) k c = s := by unfold shAt; rw [gsD_at he]; simp [hs]
theorem used_at {u : Wv} {k : Nat} {e : Gv} (he : u.gs[k]? = some e) : usAt (gsD u.gs) k = e.d.us := by
  obtain ⟨e', he', q0, _⟩ := gs_get (vs := u.gs) (k := k) (List.getElem?_eq_some_iff.1 he).1
  rw [he] at he'; cases he'; exact q0
theorem inner_of {u : Wv} {k : Nat} {e : Gv} (he : u.gs[k]? = some e) (hu : e.d.us = true) (h0 : k ≠ 0) : k ∈ inners (gsD u.gs) := by
  unfold inners innerTo
  rw [List.mem_filter, List.mem_range]
  refine ⟨by rw [gsD_length]; exact (List.getElem?_eq_some_iff.1 he).1, ?_⟩
  rw [used_at he, hu]; simp [h0]
theorem shelves_eq {u : Wv} (hF : Fit u) (hG : groupsB u = true) : shelvesB u = (shelvesN u && queuesB u) := by
  refine bool_eq ?_
  rw [Bool.and_eq_true]
  unfold shelvesB shelvesN queuesB
  rw [all_range, all_range, all_range]
  constructor
  · intro h
    have key : ∀ (k c : Nat) (e : Gv) (s : Sh), u.gs[k]? = some e → e.d.sh[c]? = some s → shelfB u k c s = true := by
      intro k c e s he hs
      have h1 := h k (List.getElem?_eq_some_iff.1 he).1
      unfold shelvesAt at h1
      rw [he] at h1
      have h2 := all_range.1 h1 c (List.getElem?_eq_some_iff.1 hs).1
      unfold shelfAt at h2
      rw [he] at h2
      have h3 : ((e.d.sh[c]?).any (shelfB u k c)) = true := h2
      rw [hs] at h3; exact h3
    refine ⟨fun k hk => ?_, fun c hc => ?_⟩
    · obtain ⟨e, he⟩ : ∃ e, u.gs[k]? = some e := ⟨_, List.getElem?_eq_getElem hk⟩
      unfold shelfNAt
      rw [he]
      show e.d.sh.all (shelfNB k) = true
      rw [List.all_eq_true]
      intro s hs
      obtain ⟨c, hc⟩ := List.getElem?_of_mem hs
      have := key k c e s he hc
      unfold shelfB at this
      rw [Bool.and_eq_true] at this
      exact this.1
    · unfold queuesAt
      rw [List.all_eq_true]
      intro k hk
      obtain ⟨h1, h2, h3⟩ := in_inners hk
      rw [gsD_length] at h1
      obtain ⟨e, he⟩ : ∃ e, u.gs[k]? = some e := ⟨_, List.getElem?_eq_getElem h1⟩
      obtain ⟨s, hs⟩ := hF.ok hc k e.d (gsD_at he) (by rw [← used_at he]; exact h2)
      have := key k c e s he hs
      unfold shelfB at this
      simp only [Bool.and_eq_true, Bool.or_eq_true, decide_eq_true_eq] at this
      unfold qkB
      rw [shAt_of he hs]
      exact this.2.resolve_left h3
  · rintro ⟨hN, hQ⟩ k hk
    obtain ⟨e, he⟩ : ∃ e, u.gs[k]? = some e := ⟨_, List.getElem?_eq_getElem hk⟩
    unfold shelvesAt
    rw [he]
    show (List.range e.d.sh.length).all (shelfAt u k) = true
    rw [all_range]
    intro c hc
    obtain ⟨s, hs⟩ : ∃ s, e.d.sh[c]? = some s := ⟨_, List.getElem?_eq_getElem hc⟩
    unfold shelfAt
    rw [he]
    show ((e.d.sh[c]?).any (shelfB u k c)) = true
    rw [hs]
    show shelfB u k c s = true
    have h1 := hN k hk
    unfold shelfNAt at h1
    rw [he] at h1
    have h2 := (List.all_eq_true.1 (show e.d.sh.all (shelfNB k) = true from h1)) s (List.mem_of_getElem? hs)
    unfold shelfB
    rw [h2, Bool.true_and]
    by_cases h0 : k = 0
    · simp [h0]
    · have hu : e.d.us = true := by
        cases hu : e.d.us
        · have := (group_free (groups_at hG he) hu).2; omega
        · rfl
      have hcn : c < u.cs.length := by rw [← hF.sh k e he hu]; exact hc
      have h3 := hQ c hcn
      unfold queuesAt at h3
      have h4 := (List.all_eq_true.1 h3) k (inner_of he hu h0)
      unfold qkB at h4
      rw [shAt_of he hs] at h4
      rw [h4, Bool.or_true]
theorem low_within {v f m : Int} (h : f ≤ v) : withinB v f m = lowB v f m := by unfold withinB lowB; rw [decide_eq_true h, Bool.true_and]
theorem cpu_eq {u : Wv} (hF : Fit u) (hC : CpIn (gsD u.gs)) (hT : tasksB u = true) (hQ : queuesB u = true) {c : Nat} {x : Cp} (hx : u.cs[c]? = some x) : cpuOkB u c x = cpuSB u c x := by
  have hc : c < u.cs.length := (List.getElem?_eq_some_iff.1 hx).1
  unfold cpuOkB cpuSB
  congr 1
  congr 1
  unfold stayB
  by_cases h0 : x.cur = -1
  · rw [if_pos h0, if_pos h0, h0]
    have : l1in (-1) (-1) 11 = true := rfl
    rw [this, Bool.true_and]
  · rw [if_neg h0, if_neg h0]
    cases hr : l1in x.cur (-1) 11
    · have htb : taskB u.ts x.cur = false := by
        unfold taskB
        rw [hF.nt]
        cases h1 : decide (0 ≤ x.cur)
        · rfl
        · have h1' := of_decide_eq_true h1
          have : ¬ x.cur < ((12 : Nat) : Int) := by
            intro h2
            rw [l1in_iff.2 ⟨by omega, by omega⟩] at hr; cases hr
          rw [decide_eq_false this]; rfl
      unfold inlT
      rw [htb]; simp
    · obtain ⟨r1, r2⟩ := l1in_iff.1 hr
      obtain ⟨k, hk⟩ := Int.eq_ofNat_of_zero_le (show 0 ≤ x.cur by omega)
      obtain ⟨t, ht⟩ : ∃ t, u.ts[k]? = some t := ⟨_, List.getElem?_eq_getElem (by rw [hF.nt]; omega)⟩
      rw [Bool.true_and, hk]
      unfold inlT
      rw [Int.toNat_natCast, ht]
      show (x.up && (decide (1 ≤ x.ran) && (decide (x.ran ≤ 149) && ((taskB u.ts (k : Int) && (decide (t.cpu = (c : Int)) && inlineB (gsD u.gs) t.st t.gr.toNat c)) && stay2 u c x.ran t)))) = (x.up && (l1in x.ran 1 149 && (decide (t.cpu = (c : Int)) && (inlineB (gsD u.gs) t.st t.gr.toNat c && stayS (gsD u.gs) c x.ran t t.gr.toNat))))
      have hl : l1in x.ran 1 149 = (decide (1 ≤ x.ran) && decide (x.ran ≤ 149)) := by unfold l1in; rw [Bool.decide_and]
      have key : ((taskB u.ts (k : Int) && (decide (t.cpu = (c : Int)) && inlineB (gsD u.gs) t.st t.gr.toNat c)) && stay2 u c x.ran t) = (decide (t.cpu = (c : Int)) && (inlineB (gsD u.gs) t.st t.gr.toNat c && stayS (gsD u.gs) c x.ran t t.gr.toNat)) := by
        by_cases hcp : t.cpu = (c : Int)
        · rw [decide_eq_true hcp, Bool.true_and, Bool.true_and]
          cases hi : inlineB (gsD u.gs) t.st t.gr.toNat c
          · simp
          · have hi2 := hi
            unfold inlineB at hi2
            rw [Bool.and_eq_true] at hi2
            have hst := of_decide_eq_true hi2.1
            have hon := List.all_eq_true.1 hi2.2
            have htk : taskB u.ts (k : Int) = true := by
              unfold taskB
              rw [Int.toNat_natCast, ht, decide_eq_true (by omega : (0 : Int) ≤ (k : Int)), decide_eq_true (by rw [hF.nt]; omega)]
              simp [hst]
            rw [htk]
            simp only [Bool.true_and]
            obtain ⟨h1, h2, h3, h4⟩ := task_there (tasks_at hT ht) (by rw [hst]; decide)
            obtain ⟨g, hg, hg8, hug⟩ := used_nat hF h1
            have hw := h4 hst
            unfold taskWellB at hw
            rw [hcp, hg, Int.toNat_natCast, Int.toNat_natCast] at hw
            have hfl : (shAt (gsD u.gs) g c).fl ≤ t.v := by unfold withinB at hw; rw [Bool.and_eq_true] at hw; exact of_decide_eq_true hw.1
            unfold stay2 stayS tskInB
            rw [hg, Int.toNat_natCast, low_within hfl, Bool.and_comm]
            congr 1
            rw [hg, Int.toNat_natCast] at hon
            have hall : ∀ j, j ∈ outs (gsD u.gs) g → grpInB (gsD u.gs) x.ran c j = lowG (gsD u.gs) x.ran c j := by
              intro j hj
              obtain ⟨j8, uj, j0⟩ := outs_used hF.tree hg8 hug hj
              obtain ⟨e, he⟩ : ∃ e, u.gs[j]? = some e := ⟨_, List.getElem?_eq_getElem (by rw [hF.g8]; exact j8)⟩
              have hq := all_range.1 hQ c hc
              unfold queuesAt at hq
              have hq2 := (List.all_eq_true.1 hq) j (inner_of he (by rw [← used_at he]; exact uj) j0)
              unfold qkB queueB at hq2
              rw [Bool.and_eq_true, hon j hj] at hq2
              have hq3 := hq2.2
              simp only [Bool.not_true, Bool.false_or] at hq3
              unfold withinB at hq3
              rw [Bool.and_eq_true] at hq3
              unfold grpInB lowG
              exact low_within (of_decide_eq_true hq3.1)
            refine bool_eq ?_
            rw [List.all_eq_true, List.all_eq_true]
            exact ⟨fun h j hj => by rw [← hall j hj]; exact h j hj, fun h j hj => by rw [hall j hj]; exact h j hj⟩
        · rw [decide_eq_false hcp]; simp
      rw [key, hl]
      simp only [Bool.and_assoc]
theorem ok_eq (u : Wv) : okP u = okS u := by
  unfold okP okS
  cases hp : placesB u
  · rfl
  · cases hg : groupsB u
    · rfl
    · obtain ⟨hF, hC⟩ := fit_of hp hg
      rw [shelves_eq hF hg]
      simp only [Bool.true_and]
      cases hn : shelvesN u
      · cases tasksB u <;> rfl
      · cases ht : tasksB u
        · rfl
        · cases hq : queuesB u
          · rfl
          · simp only [Bool.true_and]
            refine bool_eq ?_
            unfold cpusP cpusB
            rw [all_range, all_range]
            have key : ∀ c, c < u.cs.length → cpuPAt u c = cpuAt u c := by
              intro c hc
              obtain ⟨x, hx⟩ : ∃ x, u.cs[c]? = some x := ⟨_, List.getElem?_eq_getElem hc⟩
              unfold cpuPAt cpuAt
              rw [hx]
              exact cpu_eq hF hC ht hq hx
            exact ⟨fun h c hc => by rw [← key c hc]; exact h c hc, fun h c hc => by rw [key c hc]; exact h c hc⟩
theorem implWorldOk_eq (u : Wv) (w : World) (hs : SlW w u) (hf : GsFit u.gs) :
    Calls Tryz.prog 27 #[wvV u] w fun e' w' => e' = .returned (.bool (okS u)) ∧ Below w.heap.size w w' := by
  have h := implWorldOk_any u w hs hf
  rw [ok_eq] at h
  exact h
theorem WFit.same {u v : Wv} (h : WFit u) (d : SameW u v) : WFit v := ⟨by rw [d.cs]; exact h.1, by rw [d.ts]; exact h.2.1, h.2.2.of_same d.gs⟩
theorem any_gs (gs : List Gv) (k : Nat) (f : Gr → Bool) : (gs[k]?).any (fun e => f e.d) = ((gsD gs)[k]?).any f := by
  unfold gsD
  rw [List.getElem?_map]
  cases gs[k]? <;> rfl
theorem okS_same {u v : Wv} (h : SameW u v) : okS v = okS u := by
  obtain ⟨n1, cs1, ts1, gs1, x1, y1, z1⟩ := u
  obtain ⟨n2, cs2, ts2, gs2, x2, y2, z2⟩ := v
  obtain ⟨e1, e2, e3, hg⟩ := h
  dsimp only at e1 e2 e3 hg
  subst e1 e2 e3
  have hl : gs2.length = gs1.length := by have := congrArg List.length hg; rwa [gsD_length, gsD_length] at this
  have t1 : taskOkB ⟨n2, cs2, ts2, gs2, x2, y2, z2⟩ = taskOkB ⟨n2, cs2, ts2, gs1, x1, y1, z1⟩ := by funext t; unfold taskOkB whereB; dsimp only; rw [hg]
  have t2 : ∀ k c, shelfB ⟨n2, cs2, ts2, gs2, x2, y2, z2⟩ k c = shelfB ⟨n2, cs2, ts2, gs1, x1, y1, z1⟩ k c := by intro k c; funext s; unfold shelfB; dsimp only; rw [hg]
  have t3 : ∀ c, cpuSB ⟨n2, cs2, ts2, gs2, x2, y2, z2⟩ c = cpuSB ⟨n2, cs2, ts2, gs1, x1, y1, z1⟩ c := by intro c; funext x; unfold cpuSB; dsimp only; rw [hg]
  have g1 : groupAt ⟨n2, cs2, ts2, gs2, x2, y2, z2⟩ = groupAt ⟨n2, cs2, ts2, gs1, x1, y1, z1⟩ := by
    funext k; unfold groupAt; dsimp only
    rw [any_gs gs2 k (fun d => groupB n2 cs2.length k d), any_gs gs1 k (fun d => groupB n2 cs2.length k d), hg]
  have g2 : taskAt ⟨n2, cs2, ts2, gs2, x2, y2, z2⟩ = taskAt ⟨n2, cs2, ts2, gs1, x1, y1, z1⟩ := by funext k; unfold taskAt; rw [t1]
  have g3 : ∀ k, shelfAt ⟨n2, cs2, ts2, gs2, x2, y2, z2⟩ k = shelfAt ⟨n2, cs2, ts2, gs1, x1, y1, z1⟩ k := by
    intro k; funext c; unfold shelfAt; dsimp only
    rw [t2]
    rw [any_gs gs2 k (fun d => (d.sh[c]?).any (shelfB ⟨n2, cs2, ts2, gs1, x1, y1, z1⟩ k c)), any_gs gs1 k (fun d => (d.sh[c]?).any (shelfB ⟨n2, cs2, ts2, gs1, x1, y1, z1⟩ k c)), hg]
  have g4 : shelvesAt ⟨n2, cs2, ts2, gs2, x2, y2, z2⟩ = shelvesAt ⟨n2, cs2, ts2, gs1, x1, y1, z1⟩ := by
    funext k; unfold shelvesAt; dsimp only
    rw [g3]
    rw [any_gs gs2 k (fun d => (List.range d.sh.length).all (shelfAt ⟨n2, cs2, ts2, gs1, x1, y1, z1⟩ k)), any_gs gs1 k (fun d => (List.range d.sh.length).all (shelfAt ⟨n2, cs2, ts2, gs1, x1, y1, z1⟩ k)), hg]
  have g5 : cpuAt ⟨n2, cs2, ts2, gs2, x2, y2, z2⟩ = cpuAt ⟨n2, cs2, ts2, gs1, x1, y1, z1⟩ := by funext c; unfold cpuAt; rw [t3]
  unfold okS groupsB tasksB shelvesB cpusB placesB
  rw [g1, g2, g4, g5]
  dsimp only
  rw [hg, hl]
end Go.Proofs.YtnmmglkigiakaaaGreat
namespace Go.Proofs.YtnmmglkigiakaaaGreat
set_option maxRecDepth 100000
set_option maxHeartbeats 32000000
set_option linter.unusedVariables false
set_option linter.unusedSimpArgs false
open Go.ChangeShapes Go.WideShapes Go.ChangeAt Go.RowKit Go.Shelf Go.Sort
attribute [local go_sem] Oper.semAt_some
theorem okS_fit {u : Wv} (h : okS u = true) : placesB u = true ∧ groupsB u = true ∧ tasksB u = true ∧ Fit u ∧ CpIn (gsD u.gs) := by
  unfold okS at h
  simp only [Bool.and_eq_true] at h
  obtain ⟨h1, h2, h3, _⟩ := h
  exact ⟨h1, h2, h3, (fit_of h1 h2).1, (fit_of h1 h2).2⟩
theorem cpuB_nat {cs : List Cp} {c : Int} (h : cpuB cs c = true) : ∃ k : Nat, c = (k : Int) ∧ k < cs.length := by
  unfold cpuB at h
  simp only [Bool.and_eq_true, decide_eq_true_eq] at h
  obtain ⟨k, rfl⟩ := Int.eq_ofNat_of_zero_le h.1
  exact ⟨k, rfl, by omega⟩
end Go.Proofs.YtnmmglkigiakaaaGreat
namespace Go.Proofs.YtnmmglkigiakaaaGreat
set_option maxRecDepth 100000
set_option maxHeartbeats 32000000
set_option linter.unusedVariables false
set_option linter.unusedSimpArgs false
open Go.ChangeShapes Go.WideShapes Go.ChangeAt Go.RowKit Go.Shelf Go.Sort
theorem okS_read {u : Wv} (h : okS u = true) : Fit u ∧ CpIn (gsD u.gs) ∧ TFit u ∧ TGr u := by
  obtain ⟨h1, h2, h3, hF, hC⟩ := okS_fit h
  exact ⟨hF, hC, tfit_of hF hC h3, tgr_of hF h3⟩
def dryG (u : Wv) (c g : Nat) : Bool := (u.gs[g]?).any fun e => dryB e.d.ba c
def couldB (u : Wv) (c t : Nat) : Bool := (u.ts[t]?).any fun e => decide (e.cpu ≠ (c : Int)) && (inlineB (gsD u.gs) e.st e.gr.toNat e.cpu.toNat && (decide (curAt u e.cpu.toNat ≠ (t : Int)) && (Msk.hasB (whereM u.cs (gsD u.gs) e.gr.toNat e.ma) (c : Int) && (outs (gsD u.gs) e.gr.toNat).all fun g => !dryG u c g)))
theorem couldB_at {u : Wv} {c t : Nat} {e : Tk} (he : u.ts[t]? = some e) : couldB u c t = (decide (e.cpu ≠ (c : Int)) && (inlineB (gsD u.gs) e.st e.gr.toNat e.cpu.toNat && (decide (curAt u e.cpu.toNat ≠ (t : Int)) && (Msk.hasB (whereM u.cs (gsD u.gs) e.gr.toNat e.ma) (c : Int) && (outs (gsD u.gs) e.gr.toNat).all fun g => !dryG u c g)))) := by unfold couldB; rw [he]; rfl
theorem task_is {u : Wv} (ho : okS u = true) {t : Nat} {e : Tk} (he : u.ts[t]? = some e) : ∃ g c' : Nat, e.gr = (g : Int) ∧ g < 8 ∧ usAt (gsD u.gs) g = true ∧ e.cpu = (c' : Int) ∧ c' < u.cs.length ∧ (e.st ≠ 0 → SetIn (whereM u.cs (gsD u.gs) g e.ma) ∧ whereS u.cs (gsD u.gs) g e.ma = whereM u.cs (gsD u.gs) g e.ma) := by
  obtain ⟨h1, h2, h3, hF, hC⟩ := okS_fit ho
  have hTG := tgr_of hF h3
  have hTF := tfit_of hF hC h3
  obtain ⟨g, hg, hg8, hug⟩ := hTG t e he
  by_cases hs : e.st = 0
  · have hz := tasks_at h3 he
    unfold taskOkB at hz
    rw [if_pos hs] at hz
    unfold zeroTB at hz
    simp only [Bool.and_eq_true, decide_eq_true_eq] at hz
    exact ⟨g, 0, hg, hg8, hug, by rw [hz.2.1]; rfl, hF.n1, fun h => absurd hs h⟩
  · obtain ⟨g', c', hg', _, _, hc', hcl⟩ := hTF t e he hs
    have hw := where_eq hF.n4 hF.tree hC hg8 hug (num_set (task_there (tasks_at h3 he) hs).2.1)
    exact ⟨g, c', hg, hg8, hug, hc', hcl, fun _ => ⟨hw.2.1, hw.1⟩⟩
theorem curAt_at {u : Wv} {c : Nat} {x : Cp} (h : u.cs[c]? = some x) : curAt u c = x.cur := by unfold curAt; rw [h]; rfl
theorem dryG_at {u : Wv} {c g : Nat} {e : Gv} (h : u.gs[g]? = some e) : dryG u c g = dryB e.d.ba c := by unfold dryG; rw [h]; rfl
def giveTo (u : Wv) (c b k : Nat) : Bool := (List.range k).any fun t => (u.ts[t]?).any (fun e => decide (e.cpu = (b : Int))) && couldB u c t
def giveB (u : Wv) (c b : Nat) : Bool := giveTo u c b u.ts.length
theorem giveTo_zero (u : Wv) (c b : Nat) : giveTo u c b 0 = false := rfl
theorem giveTo_succ (u : Wv) (c b k : Nat) : giveTo u c b (k + 1) = (giveTo u c b k || ((u.ts[k]?).any (fun e => decide (e.cpu = (b : Int))) && couldB u c k)) := by
  unfold giveTo
  rw [List.range_succ, List.any_append]
  simp
theorem could_not_here {u : Wv} {c t : Nat} {e : Tk} (he : u.ts[t]? = some e) (h : e.cpu = (c : Int)) : couldB u c t = false := by
  rw [couldB_at he, decide_eq_false (by omega)]; rfl
theorem giveB_self (u : Wv) (c : Nat) : giveB u c c = false := by
  unfold giveB giveTo
  rw [List.any_eq_false]
  intro t ht
  have hl := List.mem_range.1 ht
  obtain ⟨e, he⟩ := row_get hl
  rw [he]
  show ¬ ((decide (e.cpu = (c : Int))) && couldB u c t) = true
  by_cases h : e.cpu = (c : Int)
  · rw [could_not_here he h]; simp
  · rw [decide_eq_false h]; simp
def bestTo (u : Wv) (c : Nat) (m : Int) : Nat → Int
  | 0 => -1
  | k + 1 => if (Msk.hasB m (k : Int) && (giveB u c k && (decide (bestTo u c m k < 0) || decide (loadN u (bestTo u c m k).toNat < loadN u k)))) = true then (k : Int) else bestTo u c m k
def bestM (u : Wv) (c : Nat) (m : Int) : Int := bestTo u c m u.cs.length
theorem bestTo_range (u : Wv) (c : Nat) (m : Int) (k : Nat) : bestTo u c m k = -1 ∨ ∃ b : Nat, bestTo u c m k = (b : Int) ∧ b < k := by
  induction k with
  | zero => exact .inl rfl
  | succ k ih =>
    unfold bestTo
    split
    · exact .inr ⟨k, rfl, by omega⟩
    · rcases ih with h | ⟨b, hb, hk⟩
      · exact .inl h
      · exact .inr ⟨b, hb, by omega⟩
end Go.Proofs.YtnmmglkigiakaaaGreat
namespace Go.Proofs.YtnmmglkigiakaaaGreat
set_option maxRecDepth 100000
set_option maxHeartbeats 32000000
set_option linter.unusedVariables false
set_option linter.unusedSimpArgs false
open Go.ChangeShapes Go.WideShapes Go.ChangeAt Go.RowKit Go.Shelf Go.Sort
attribute [local go_sem] Oper.semAt_some
theorem could_one (pw c pg po t g c' : Nat) (st ni ma v su us lo : Int) (x : Cp) (u : Wv) (w : World) (hA : AtW w pw u) (ho : okS u = true) (hc : c < u.cs.length) (he : u.ts[t]? = some ⟨st, (g : Int), (c' : Int), ni, ma, v, su, us, lo⟩) (hg8 : g < 8) (hug : usAt (gsD u.gs) g = true) (hc' : c' < u.cs.length) (hx : u.cs[c']? = some x) (hset : st ≠ 0 → SetIn (whereM u.cs (gsD u.gs) g ma)) :
    Calls Tryz.prog 128 #[prV pw (c : Int) pg po, .int .i64 (t : Int)] w fun e w' => e = .returned (.bool (couldB u c t)) ∧ Below w.heap.size w w' := by
  have mixed : Tryz.prog.follows Departure.mixedOrders = true := by kernel_rfl
  have hfn : ∀ f, Fence.wide.fn f := fun _ => trivial
  obtain ⟨hF, hCP, hTF, hTG⟩ := okS_read ho
  have hcb := couldB_at (c := c) he
  dsimp only at hcb
  rw [Int.toNat_natCast, Int.toNat_natCast] at hcb
  obtain ⟨il, hil⟩ : ∃ b, inlineB (gsD u.gs) st g c' = b := ⟨_, rfl⟩
  obtain ⟨hs9, hhs⟩ : ∃ b, Msk.hasB (whereM u.cs (gsD u.gs) g ma) (c : Int) = b := ⟨_, rfl⟩
  have hcb2 : couldB u c t = (decide ((c' : Int) ≠ (c : Int)) && (il && (decide (x.cur ≠ (t : Int)) && (hs9 && (outs (gsD u.gs) g).all fun g => !dryG u c g)))) := by rw [hcb, curAt_at hx, hil, hhs]
  clear hcb
  have htl := (List.getElem?_eq_some_iff.1 he).1
  have htl' : (t : Int) < (u.ts.length : Int) := by omega
  have hcl' : (c' : Int) < (u.cs.length : Int) := by omega
  unfold prV ptr ptrO
  obtain ⟨W1, hW1⟩ : ∃ W1, ((w.alloc (.cells #[.pointer (some ⟨pw, 0, none⟩), .int .i64 (c : Int), .pointer (some ⟨pg, po, none⟩)] 56)).alloc (.cells #[.bool false] 4)).alloc (.cells #[.int .i64 st, .int .i64 (g : Int), .int .i64 (c' : Int), .int .i64 ni, .int .i64 ma, .int .i64 v, .int .i64 su, .int .i64 us, .int .i64 lo] 68) = W1 := ⟨_, rfl⟩
  obtain ⟨z0, z1, z2, z3, z4⟩ := blocks3 hW1
  obtain ⟨tg, to, tcap, m2, hr, _, htlen⟩ := hA.cellsT he
  obtain ⟨x0, x1, x2, x3, x4, x5, x6, x7, x8⟩ := tk_cells hr
  dsimp only at x0 x1 x2 x3 x4 x5 x6 x7 x8
  have ltg : tg < w.heap.size := block_lt_of_cell x0
  have ltp := hA.lt
  have hA1 := hA.below z4
  obtain ⟨cg, co, ccap, m1, hcr, _, hclen⟩ := hA1.cellsC hx
  obtain ⟨y0, y1, y2, y3, y4⟩ := cp_cells hcr
  have hpr := range_of_block (cs := [.pointer (some ⟨pw, 0, none⟩), .int .i64 (c : Int), .pointer (some ⟨pg, po, none⟩)]) z0
  have p0 : W1.cell? ⟨w.heap.size, 0, none⟩ = some (.pointer (some ⟨pw, 0, none⟩)) := by simpa using hpr 0 _ rfl
  have p1 : W1.cell? ⟨w.heap.size, 1, none⟩ = some (.int .i64 (c : Int)) := by simpa using hpr 1 _ rfl
  have p2 : W1.cell? ⟨w.heap.size, 2, none⟩ = some (.pointer (some ⟨pg, po, none⟩)) := by simpa using hpr 2 _ rfl
  have htk := range_of_block (cs := [.int .i64 st, .int .i64 (g : Int), .int .i64 (c' : Int), .int .i64 ni, .int .i64 ma, .int .i64 v, .int .i64 su, .int .i64 us, .int .i64 lo]) z3
  have n0 : W1.cell? ⟨w.heap.size + 1 + 1, 0, none⟩ = some (.int .i64 st) := by simpa using htk 0 _ rfl
  have n1 : W1.cell? ⟨w.heap.size + 1 + 1, 1, none⟩ = some (.int .i64 (g : Int)) := by simpa using htk 1 _ rfl
  have n2 : W1.cell? ⟨w.heap.size + 1 + 1, 2, none⟩ = some (.int .i64 (c' : Int)) := by simpa using htk 2 _ rfl
  have n3 : W1.cell? ⟨w.heap.size + 1 + 1, 3, none⟩ = some (.int .i64 ni) := by simpa using htk 3 _ rfl
  have n4 : W1.cell? ⟨w.heap.size + 1 + 1, 4, none⟩ = some (.int .i64 ma) := by simpa using htk 4 _ rfl
  have n5 : W1.cell? ⟨w.heap.size + 1 + 1, 5, none⟩ = some (.int .i64 v) := by simpa using htk 5 _ rfl
  have n6 : W1.cell? ⟨w.heap.size + 1 + 1, 6, none⟩ = some (.int .i64 su) := by simpa using htk 6 _ rfl
  have n7 : W1.cell? ⟨w.heap.size + 1 + 1, 7, none⟩ = some (.int .i64 us) := by simpa using htk 7 _ rfl
  have n8 : W1.cell? ⟨w.heap.size + 1 + 1, 8, none⟩ = some (.int .i64 lo) := by simpa using htk 8 _ rfl
  have k0 := cell_regrown p0
  have k1 := cell_regrown p1
  have k2 := cell_regrown p2
  have j0 := cell_regrown n0
  have j1 := cell_regrown n1
  have j2 := cell_regrown n2
  have j3 := cell_regrown n3
  have j4 := cell_regrown n4
  have j5 := cell_regrown n5
  have j6 := cell_regrown n6
  have j7 := cell_regrown n7
  have j8 := cell_regrown n8
  have i1 := cell_regrown y1
  have i2 := cell_regrown m1
  have HZ : Hid (W1.heap[w.heap.size + 1]? = some (.cells #[.bool false] 4 (0, 0)) ∧ Below w.heap.size w W1 ∧ AtW W1 pw u ∧ W1.heap[w.heap.size]? = some (.cells #[.pointer (some ⟨pw, 0, none⟩), .int .i64 (c : Int), .pointer (some ⟨pg, po, none⟩)] 56 (0, 0)) ∧ W1.heap.size = w.heap.size + 3) := ⟨z2, z4, hA1, z0, z1⟩
  clear hr hpr htk p0 p1 p2 n0 n1 n2 n3 n4 n5 n6 n7 n8 y0 y1 y2 y3 y4 hcr m1 z0 z2 z3 z4 hx
  refine (callsIn_wide (n := 9)).1 ?_
  refine callsIn_of_wp_marks Tryz.func128 rfl trivial ?_ rfl
  simp only [Tryz.ntmps128, List.size_toArray, List.length_cons, List.length_nil, Nat.reduceAdd, Nat.reduceSub, Array.replicate_succ, Array.replicate_zero, List.push_toArray, List.append_toArray, List.nil_append, List.cons_append]
  gi_wp2
  try simp only [World.size_alloc, hW1]
  clear hW1 x0 x1 x2 x3 x4 x5 x6 x7 x8 m2
  by_cases hh : (c' : Int) = (c : Int)
  · rw [hh] at j2
    have HR : Hid (couldB u c t = false) := by unfold Hid; rw [hcb2, hh]; simp
    clear hh hA hA1
    refine region_quiet_rg mixed (by kernel_rfl) ?_
    repeat (gi_big_quiet_step (fail))
    refine wpQuietIn_nil ?_
    rintro _ ⟨⟨dq, osq⟩, rfl⟩
    obtain ⟨z2, z4, hA1, z0, z1⟩ := HZ.out
    have h3' := below_block dq osq z2
    have hc3 := (Msk.cell_of_box_l h3').1
    have hf3 := (Msk.cell_of_box_l h3').2
    have hbr := below_regrown W1 dq osq
    clear k0 k1 k2 j0 j1 j2 j3 j4 j5 j6 j7 j8 i1 i2
    gi_wp2
    have hb' := (show Boxed _ _ _ _ from h3').set (.bool false)
    have hcr := hb'.cell
    refine ⟨.bool false, ?_, by rw [HR.out], (z4.trans (hbr.mono z4.size)).setCell (p := ⟨w.heap.size + 1, 0, none⟩) (by simp) _⟩
    simp [results, Tryz.f128, go_sem, hcr]
  · cases il
    · have cI : ∀ d os, CallsIn Fence.wide (9 - 1) Tryz.prog 162 #[.pointer (some ⟨pw, 0, none⟩), .agg #[.int .i64 st, .int .i64 (g : Int), .int .i64 (c' : Int), .int .i64 ni, .int .i64 ma, .int .i64 v, .int .i64 su, .int .i64 us, .int .i64 lo]] (grow (redrawn W1 d) os) fun e' w'' => e' = .returned (.bool false) ∧ ∃ p : Regrown, w'' = grow (redrawn W1 p.d) p.os := fun d os => by
        have h0 := inLine_any pw g c' ⟨st, (g : Int), (c' : Int), ni, ma, v, su, us, lo⟩ u _ (hA1.below (below_regrown W1 d os)) hF.tree hg8 hug (hF.ok hc') rfl rfl
        unfold tkV ptr at h0
        rw [hil] at h0
        exact calls_fw (Calls.regrown_of h0)
      have hne : ((c' : Int) == (c : Int)) = false := by simpa using hh
      have HR : Hid (couldB u c t = false) := by unfold Hid; rw [hcb2]; simp
      clear hA hA1
      refine region_quiet_rg mixed (by kernel_rfl) ?_
      repeat (gi_big_quiet_step (exact cI _ _))
      refine wpQuietIn_nil ?_
      rintro _ ⟨⟨dq, osq⟩, rfl⟩
      obtain ⟨z2, z4, hA1, z0, z1⟩ := HZ.out
      have h3' := below_block dq osq z2
      have hc3 := (Msk.cell_of_box_l h3').1
      have hf3 := (Msk.cell_of_box_l h3').2
      have hbr := below_regrown W1 dq osq
      clear cI k0 k1 k2 j0 j1 j2 j3 j4 j5 j6 j7 j8 i1 i2
      gi_wp2
      have hb' := (show Boxed _ _ _ _ from h3').set (.bool false)
      have hcr := hb'.cell
      refine ⟨.bool false, ?_, by rw [HR.out], (z4.trans (hbr.mono z4.size)).setCell (p := ⟨w.heap.size + 1, 0, none⟩) (by simp) _⟩
      simp [results, Tryz.f128, go_sem, hcr]
    · have cI : ∀ d os, CallsIn Fence.wide (9 - 1) Tryz.prog 162 #[.pointer (some ⟨pw, 0, none⟩), .agg #[.int .i64 st, .int .i64 (g : Int), .int .i64 (c' : Int), .int .i64 ni, .int .i64 ma, .int .i64 v, .int .i64 su, .int .i64 us, .int .i64 lo]] (grow (redrawn W1 d) os) fun e' w'' => e' = .returned (.bool true) ∧ ∃ p : Regrown, w'' = grow (redrawn W1 p.d) p.os := fun d os => by
        have h0 := inLine_any pw g c' ⟨st, (g : Int), (c' : Int), ni, ma, v, su, us, lo⟩ u _ (hA1.below (below_regrown W1 d os)) hF.tree hg8 hug (hF.ok hc') rfl rfl
        unfold tkV ptr at h0
        rw [hil] at h0
        exact calls_fw (Calls.regrown_of h0)
      by_cases hcu : x.cur = (t : Int)
      · have hne : ((c' : Int) == (c : Int)) = false := by simpa using hh
        have HR : Hid (couldB u c t = false) := by unfold Hid; rw [hcb2, hcu]; simp
        rw [hcu] at i1
        clear hcu hA hA1
        refine region_quiet_rg mixed (by kernel_rfl) ?_
        repeat (gi_big_quiet_step (exact cI _ _))
        refine wpQuietIn_nil ?_
        rintro _ ⟨⟨dq, osq⟩, rfl⟩
        obtain ⟨z2, z4, hA1, z0, z1⟩ := HZ.out
        have h3' := below_block dq osq z2
        have hc3 := (Msk.cell_of_box_l h3').1
        have hf3 := (Msk.cell_of_box_l h3').2
        have hbr := below_regrown W1 dq osq
        clear cI k0 k1 k2 j0 j1 j2 j3 j4 j5 j6 j7 j8 i1 i2
        gi_wp2
        have hb' := (show Boxed _ _ _ _ from h3').set (.bool false)
        have hcr := hb'.cell
        refine ⟨.bool false, ?_, by rw [HR.out], (z4.trans (hbr.mono z4.size)).setCell (p := ⟨w.heap.size + 1, 0, none⟩) (by simp) _⟩
        simp [results, Tryz.f128, go_sem, hcr]
      · have hset := hset (by have := inline_ready hil; omega)
        cases hs9
        · have cW : ∀ d os, CallsIn Fence.wide (9 - 1) Tryz.prog 146 #[.pointer (some ⟨pw, 0, none⟩), .agg #[.int .i64 st, .int .i64 (g : Int), .int .i64 (c' : Int), .int .i64 ni, .int .i64 ma, .int .i64 v, .int .i64 su, .int .i64 us, .int .i64 lo]] (grow (redrawn W1 d) os) fun e' w'' => e' = .returned (.int .i64 (whereM u.cs (gsD u.gs) g ma)) ∧ ∃ p : Regrown, w'' = grow (redrawn W1 p.d) p.os := fun d os => by
            have h0 := whereOf_any pw g ⟨st, (g : Int), (c' : Int), ni, ma, v, su, us, lo⟩ u _ (hA1.below (below_regrown W1 d os)) hF.n4 hF.tree hg8 hug rfl
            unfold tkV ptr at h0
            exact calls_fw (Calls.regrown_of h0)
          have cS : ∀ d os, CallsIn Fence.wide (9 - 1) Tryz.prog 47 #[.int .i64 (whereM u.cs (gsD u.gs) g ma), .int .i64 (c : Int)] (grow (redrawn W1 d) os) fun e' w'' => e' = .returned (.bool false) ∧ ∃ p : Regrown, w'' = grow (redrawn W1 p.d) p.os := fun d os => by
            have h0 := Msk.set_has (whereM u.cs (gsD u.gs) g ma) (c : Int) (grow (redrawn W1 d) os) hset.1 hset.2
            rw [hhs] at h0
            exact calls_fw (Calls.regrown_of (h0.mono fun e' w' h => ⟨h.1, h.2 ▸ Below.refl _ _⟩))
          have hne : ((c' : Int) == (c : Int)) = false := by simpa using hh
          have hcn : (x.cur == (t : Int)) = false := by simpa using hcu
          have HR : Hid (couldB u c t = false) := by unfold Hid; rw [hcb2]; simp
          clear hA hA1
          refine region_quiet_rg mixed (by kernel_rfl) ?_
          repeat (gi_big_quiet_step (first | exact cI _ _ | exact cW _ _ | exact cS _ _))
          refine wpQuietIn_nil ?_
          rintro _ ⟨⟨dq, osq⟩, rfl⟩
          obtain ⟨z2, z4, hA1, z0, z1⟩ := HZ.out
          have h3' := below_block dq osq z2
          have hc3 := (Msk.cell_of_box_l h3').1
          have hf3 := (Msk.cell_of_box_l h3').2
          have hbr := below_regrown W1 dq osq
          clear cI cW cS k0 k1 k2 j0 j1 j2 j3 j4 j5 j6 j7 j8 i1 i2
          gi_wp2
          have hb' := (show Boxed _ _ _ _ from h3').set (.bool false)
          have hcr := hb'.cell
          refine ⟨.bool false, ?_, by rw [HR.out], (z4.trans (hbr.mono z4.size)).setCell (p := ⟨w.heap.size + 1, 0, none⟩) (by simp) _⟩
          simp [results, Tryz.f128, go_sem, hcr]
        · have cW : ∀ d os, CallsIn Fence.wide (9 - 1) Tryz.prog 146 #[.pointer (some ⟨pw, 0, none⟩), .agg #[.int .i64 st, .int .i64 (g : Int), .int .i64 (c' : Int), .int .i64 ni, .int .i64 ma, .int .i64 v, .int .i64 su, .int .i64 us, .int .i64 lo]] (grow (redrawn W1 d) os) fun e' w'' => e' = .returned (.int .i64 (whereM u.cs (gsD u.gs) g ma)) ∧ ∃ p : Regrown, w'' = grow (redrawn W1 p.d) p.os := fun d os => by
            have h0 := whereOf_any pw g ⟨st, (g : Int), (c' : Int), ni, ma, v, su, us, lo⟩ u _ (hA1.below (below_regrown W1 d os)) hF.n4 hF.tree hg8 hug rfl
            unfold tkV ptr at h0
            exact calls_fw (Calls.regrown_of h0)
          have cS : ∀ d os, CallsIn Fence.wide (9 - 1) Tryz.prog 47 #[.int .i64 (whereM u.cs (gsD u.gs) g ma), .int .i64 (c : Int)] (grow (redrawn W1 d) os) fun e' w'' => e' = .returned (.bool true) ∧ ∃ p : Regrown, w'' = grow (redrawn W1 p.d) p.os := fun d os => by
            have h0 := Msk.set_has (whereM u.cs (gsD u.gs) g ma) (c : Int) (grow (redrawn W1 d) os) hset.1 hset.2
            rw [hhs] at h0
            exact calls_fw (Calls.regrown_of (h0.mono fun e' w' h => ⟨h.1, h.2 ▸ Below.refl _ _⟩))
          have hne : ((c' : Int) == (c : Int)) = false := by simpa using hh
          have hcn : (x.cur == (t : Int)) = false := by simpa using hcu
          clear hA1
          refine region_quiet_rg mixed (by kernel_rfl) ?_
          repeat (gi_big_quiet_step (first | exact cI _ _ | exact cW _ _ | exact cS _ _))
          refine wpQuietIn_nil ?_
          rintro _ ⟨⟨dq, osq⟩, rfl⟩
          obtain ⟨z2, z4, hA1, z0, z1⟩ := HZ.out
          obtain ⟨V, hV⟩ : ∃ V, grow (redrawn W1 dq) osq = V := ⟨_, rfl⟩
          have bV : Below W1.heap.size W1 V := by rw [← hV]; exact below_regrown _ _ _
          rw [hV]
          have k0 := k0 dq osq
          have k1 := k1 dq osq
          have j1 := j1 dq osq
          rw [hV] at k0 k1 j1
          clear hV
          have B9 := z4.trans (bV.mono z4.size)
          have AV := hA.below B9
          have v2 := (bV.block (w.heap.size + 1) (by omega)).trans z2
          have v0 := (bV.block w.heap.size (by omega)).trans z0
          have hlv : w.heap.size + 3 ≤ V.heap.size := by have := bV.size; omega
          clear cI cW cS k2 j0 j2 j3 j4 j5 j6 j7 j8 i1 i2
          gi_wp2_with (gi_at_call 132; refine (calls_fw (mk_outward pw (g : Int) _)).mono ?_; rintro e' w' ⟨rfl, rfl⟩; simp only [ptr])
          try simp only [World.size_alloc]
          obtain ⟨w1, hw1⟩ : ∃ w1, ((V.alloc (.cells #[.pointer (some ⟨pw, 0, none⟩)] 51)).alloc (.cells #[.int .i64 (g : Int)] 3)) = w1 := ⟨_, rfl⟩
          have a1 : w1.heap[V.heap.size]? = some (.cells #[.pointer (some ⟨pw, 0, none⟩)] 51 (0, 0)) := by rw [← hw1]; exact (Below.heap_alloc _ _ _ (by simp)).trans (heap_alloc_new V _)
          have a2 : IBox w1 (V.heap.size + 1) (g : Int) := by rw [← hw1]; have := heap_alloc_new (V.alloc (.cells #[.pointer (some ⟨pw, 0, none⟩)] 51)) (.cells #[.int .i64 (g : Int)] 3); rwa [World.size_alloc] at this
          have a3 : Below V.heap.size V w1 := by rw [← hw1]; exact ((Below.refl _ _).alloc (Nat.le_refl _) _).alloc (by simp) _
          have a4 : w1.heap.size = V.heap.size + 1 + 1 := by rw [← hw1]; simp
          have a5 := (a3.block (w.heap.size + 1) (by omega)).trans v2
          have a6 := (a3.block w.heap.size (by omega)).trans v0
          have a7 : Below w.heap.size w w1 := B9.trans (a3.mono B9.size)
          try simp only [hw1]
          clear hw1 v0 v2 z0 z2 k0 k1 j1
          have HD : Hid (∀ k ∈ outs (gsD u.gs) g, ∀ W, AtW W pw u → Calls Tryz.prog 166 #[.pointer (some ⟨pw, 0, none⟩), .int .i64 (k : Int), .int .i64 (c : Int)] W fun e' w' => e' = .returned (.bool (dryG u c k)) ∧ Below W.heap.size W w') := by
            intro k hk W hW
            obtain ⟨h8, hu, _⟩ := outs_used hF.tree hg8 hug hk
            obtain ⟨e', he', _⟩ := gs_get (vs := u.gs) (k := k) (by rw [hF.g8]; exact h8)
            rw [dryG_at he']
            exact isDry_any pw k c u e' W hW he' (fun hq => by rw [hF.dr k e' he' hq]; exact hc)
          refine range_own_j (xs := outs (gsD u.gs) g) (encs := encN) (gf := 167) (lb := #[ptr (V.heap.size + 1), ptr V.heap.size]) (W0 := w) (G := fun W' => W'.cell? ⟨V.heap.size + 1, 0, none⟩ = some (.int .i64 (g : Int)) ∧ W'.cell? ⟨V.heap.size, 0, none⟩ = some (.pointer (some ⟨pw, 0, none⟩)) ∧ GroupsAt W' pw u.z (gsD u.gs))
            (outward_gives pw V.heap.size (V.heap.size + 1) u.z (gsD u.gs) g hF.tree hg8 hug _ w (fun W' h => h)) (by omega) rfl (enters_of Tryz.func167 (by kernel_rfl) rfl) (fun _ => rfl)
            (fun pre W' => (∀ k ∈ pre, dryG u c k = false) ∧ W'.heap[w.heap.size]? = some (.cells #[.pointer (some ⟨pw, 0, none⟩), .int .i64 (c : Int), .pointer (some ⟨pg, po, none⟩)] 56 (0, 0)) ∧ W'.heap[w.heap.size + 1]? = some (.cells #[.bool false] 4 (0, 0)) ∧ W'.heap[V.heap.size]? = some (.cells #[.pointer (some ⟨pw, 0, none⟩)] 51 (0, 0)) ∧ IBox W' (V.heap.size + 1) (g : Int) ∧ Below w.heap.size w W')
            (fun cc pre W' => cc = .ret ∧ (∃ k ∈ outs (gsD u.gs) g, dryG u c k = true) ∧ W'.heap[w.heap.size + 1]? = some (.cells #[.bool false] 4 (0, 0)) ∧ Below w.heap.size w W')
            (fun pre W' hi => ⟨hi.2.2.2.2.1.cell, (Msk.cell_of_box_l hi.2.2.2.1).1, (hA.below hi.2.2.2.2.2).groups⟩)
            ?hI ?hIx ⟨fun k hk => (by cases hk), a6, a5, a1, a2, a7⟩ ?hround ?hdone ?hstop
          case hI => exact OwnFrom.and (ownFrom_pure _ _) (OwnFrom.and (own_block _ _ _ rfl) (OwnFrom.and (own_block _ _ _ rfl) (OwnFrom.and (own_block _ _ _ rfl) (OwnFrom.and (own_block _ _ _ rfl) (ownFrom_below (Nat.le_refl _) (by omega))))))
          case hIx => exact fun cc => OwnFrom.and (ownFrom_pure _ _) (OwnFrom.and (ownFrom_pure _ _) (OwnFrom.and (own_block _ _ _ rfl) (ownFrom_below (Nat.le_refl _) (by omega))))
          case hround =>
            intro l' pre k post W0' hx' hi
            unfold encN
            have HI0 : Hid ((∀ k ∈ pre, dryG u c k = false) ∧ W0'.heap[w.heap.size]? = some (.cells #[.pointer (some ⟨pw, 0, none⟩), .int .i64 (c : Int), .pointer (some ⟨pg, po, none⟩)] 56 (0, 0)) ∧ W0'.heap[w.heap.size + 1]? = some (.cells #[.bool false] 4 (0, 0)) ∧ W0'.heap[V.heap.size]? = some (.cells #[.pointer (some ⟨pw, 0, none⟩)] 51 (0, 0)) ∧ IBox W0' (V.heap.size + 1) (g : Int) ∧ Below w.heap.size w W0') := hi
            have hin : k ∈ outs (gsD u.gs) g := by rw [hx']; simp
            clear hi hx' a1 a2 a5 a6
            gi_wp2
            refine ⟨KeepsUp.refl _ _, HI0.out, ?_⟩
            clear HI0 W0'
            rintro l'' W' hl' ⟨hp, h1, h2, h3, h4, h6⟩
            have hpr := range_of_block (cs := [.pointer (some ⟨pw, 0, none⟩), .int .i64 (c : Int), .pointer (some ⟨pg, po, none⟩)]) h1
            have p0 : W'.cell? ⟨w.heap.size, 0, none⟩ = some (.pointer (some ⟨pw, 0, none⟩)) := by simpa using hpr 0 _ rfl
            have p1 : W'.cell? ⟨w.heap.size, 1, none⟩ = some (.int .i64 (c : Int)) := by simpa using hpr 1 _ rfl
            have hq := HD.out k hin W' (hA.below h6)
            have HB : Hid (W'.heap[w.heap.size]? = some (.cells #[.pointer (some ⟨pw, 0, none⟩), .int .i64 (c : Int), .pointer (some ⟨pg, po, none⟩)] 56 (0, 0)) ∧ W'.heap[w.heap.size + 1]? = some (.cells #[.bool false] 4 (0, 0)) ∧ W'.heap[V.heap.size]? = some (.cells #[.pointer (some ⟨pw, 0, none⟩)] 51 (0, 0)) ∧ IBox W' (V.heap.size + 1) (g : Int) ∧ Below w.heap.size w W') := ⟨h1, h2, h3, h4, h6⟩
            have HP : Hid (∀ k ∈ pre, dryG u c k = false) := hp
            clear h1 h2 h3 h4 h6 hp hpr
            cases hd : dryG u c k
            · rw [hd] at hq
              gi_wp2_with (gi_at_call 166; refine (calls_fw hq).mono ?_; rintro e1 V1 ⟨rfl, hb1⟩)
              obtain ⟨h1, h2, h3, h4, h6⟩ := HB.out
              refine ⟨KeepsUp.below hb1, fun k' hk' => ?_, below_at hb1 h1, below_at hb1 h2, below_at hb1 h3, below_at hb1 h4, h6.trans (hb1.mono h6.size)⟩
              rcases List.mem_append.1 hk' with hk' | hk'
              · exact HP.out k' hk'
              · obtain rfl : k' = k := by simpa using hk'
                exact hd
            · rw [hd] at hq
              gi_wp2_with (gi_at_call 166; refine (calls_fw hq).mono ?_; rintro e1 V1 ⟨rfl, hb1⟩; have h2' := below_at hb1 HB.out.2.1; have hc3 := (Msk.cell_of_box_l h2').1; have hf3 := (Msk.cell_of_box_l h2').2)
              obtain ⟨h1, h2, h3, h4, h6⟩ := HB.out
              exact ⟨(KeepsUp.below hb1).trans (KeepsUp.set _ _ _ (by omega)), rfl, ⟨k, hin, hd⟩, (show Boxed _ _ _ _ from h2').set _, (h6.trans (hb1.mono h6.size)).setCell (p := ⟨w.heap.size + 1, 0, none⟩) (by simp) _⟩
          case hdone =>
            rintro D W' hD ⟨hp, h1, h3, h4, h5, h6⟩ hK
            have hc3 := (Msk.cell_of_box_l h3).1
            have hf3 := (Msk.cell_of_box_l h3).2
            have HP : Hid (couldB u c t = true) := by
              unfold Hid; rw [hcb2, decide_eq_true hh, decide_eq_true hcu]
              simp only [Bool.true_and]
              rw [List.all_eq_true]
              intro k hk
              rw [hp k hk]; rfl
            have hD' : w.heap.size ≤ D := by omega
            have hne' : D ≠ w.heap.size + 1 := by omega
            have hK' : (W'.setCell ⟨w.heap.size + 1, 0, none⟩ (.bool true)).heap[D]? = some (.deferred (some [])) := by rw [Deep.blk_setCell_other _ _ _ _ hne']; exact hK
            have hb' : Boxed ((W'.setCell ⟨w.heap.size + 1, 0, none⟩ (.bool true)).putObj D (.deferred none)) (w.heap.size + 1) 4 (.bool true) := (World.putObj_heap_other (Ne.symm hne')).trans ((show Boxed _ _ _ _ from h3).set _)
            have hcr := hb'.cell
            clear hp h1 h4 h5 a1 a2 a5 a6
            gi_wp2
            refine ⟨by simp, .inl ⟨_, _, rfl, run_takeDeferred hK', ?_⟩⟩
            refine ⟨.bool true, ?_, by rw [HP.out], (h6.setCell (p := ⟨w.heap.size + 1, 0, none⟩) (by simp) _).trans (belowK_b (w := w) (Nat.le_refl _) _ D _ _ hD' hK' rfl rfl)⟩
            simp [results, Tryz.f128, go_sem, hcr]
          case hstop =>
            rintro D cc pre W' hD ⟨rfl, ⟨k, hk, hoff⟩, h3, h6⟩ hK
            have hD' : w.heap.size ≤ D := by omega
            have hne' : D ≠ w.heap.size + 1 := by omega
            have HP : Hid (couldB u c t = false) := by
              unfold Hid
              rw [← Bool.not_eq_true, hcb2]
              intro hal
              simp only [Bool.and_eq_true, List.all_eq_true] at hal
              have := hal.2.2.2.2 k hk
              rw [hoff] at this; cases this
            have hb' : Boxed (W'.putObj D (.deferred none)) (w.heap.size + 1) 4 (.bool false) := (World.putObj_heap_other (Ne.symm hne')).trans h3
            have hcr := hb'.cell
            clear a1 a2 a5 a6
            gi_wp2
            refine ⟨by simp, .inl ⟨_, _, rfl, run_takeDeferred hK, ?_⟩⟩
            refine ⟨.bool false, ?_, by rw [HP.out], h6.trans (belowK_b (w := w) (Nat.le_refl _) _ D _ _ hD' hK rfl rfl)⟩
            simp [results, Tryz.f128, go_sem, hcr]
theorem couldRun_any (pw c pg po t : Nat) (e : Tk) (u : Wv) (w : World) (hA : AtW w pw u) (ho : okS u = true) (hc : c < u.cs.length) (he : u.ts[t]? = some e) :
    Calls Tryz.prog 128 #[prV pw (c : Int) pg po, .int .i64 (t : Int)] w fun e w' => e = .returned (.bool (couldB u c t)) ∧ Below w.heap.size w w' := by
  obtain ⟨g, c', hg, hg8, hug, hcc, hcl, hset⟩ := task_is ho he
  obtain ⟨st, gr, cpu, ni, ma, v, su, us, lo⟩ := e
  dsimp only at hg hcc hset
  subst hg hcc
  obtain ⟨x, hx⟩ := row_get hcl
  exact could_one pw c pg po t g c' st ni ma v su us lo x u w hA ho hc he hg8 hug hcl hx (fun h => (hset h).1)
theorem orb_fin : ∀ a : Fin 16, ∀ k : Fin 4, (0 ≤ bits BinOp.or IntKind.i64 (a.val : Int) ((2 : Int) ^ k.val) ∧ bits BinOp.or IntKind.i64 (a.val : Int) ((2 : Int) ^ k.val) ≤ 15) ∧ ∀ b : Fin 4, Msk.hasB (bits BinOp.or IntKind.i64 (a.val : Int) ((2 : Int) ^ k.val)) (b.val : Int) = (Msk.hasB (a.val : Int) (b.val : Int) || decide (b.val = k.val)) := by decide +kernel
theorem or_bit {m : Int} (hm : SetIn m) {k : Nat} (hk : k < 4) : SetIn (bits BinOp.or IntKind.i64 m ((2 : Int) ^ k)) ∧ ∀ b : Nat, b < 4 → Msk.hasB (bits BinOp.or IntKind.i64 m ((2 : Int) ^ k)) (b : Int) = (Msk.hasB m (b : Int) || decide (b = k)) := by
  obtain ⟨a, rfl⟩ := Int.eq_ofNat_of_zero_le hm.1
  have ha : a < 16 := by have := hm.2; omega
  obtain ⟨h1, h2⟩ := orb_fin ⟨a, ha⟩ ⟨k, hk⟩
  exact ⟨h1, fun b hb => h2 ⟨b, hb⟩⟩
theorem set_zero : SetIn 0 ∧ ∀ b : Nat, b < 4 → Msk.hasB 0 ((b : Nat) : Int) = false := by
  refine ⟨by unfold SetIn; omega, fun b hb => ?_⟩
  have : b = 0 ∨ b = 1 ∨ b = 2 ∨ b = 3 := by omega
  rcases this with rfl | rfl | rfl | rfl <;> decide
theorem task_new2 (W : World) (a0 a1 a2 a3 a4 a5 a6 a7 a8 : Value) : (W.alloc (.cells #[a0, a1, a2, a3, a4, a5, a6, a7, a8] 68)).cell? ⟨W.heap.size, 2, none⟩ = some a2 := by
  simp
theorem givers_any (pw c pg po : Nat) (u : Wv) (w : World) (hA : AtW w pw u) (ho : okS u = true) (hc : c < u.cs.length) :
    Calls Tryz.prog 90 #[prV pw (c : Int) pg po] w fun e w' => ∃ m : Int, e = .returned (.int .i64 m) ∧ SetIn m ∧ (∀ b, b < 4 → Msk.hasB m ((b : Nat) : Int) = giveB u c b) ∧ Below w.heap.size w w' := by
  unfold prV ptr ptrO
  obtain ⟨W1, hW1⟩ : ∃ W1, w.alloc (.cells #[.pointer (some ⟨pw, 0, none⟩), .int .i64 (c : Int), .pointer (some ⟨pg, po, none⟩)] 56) = W1 := ⟨_, rfl⟩
  obtain ⟨B1, q0, q1, q2, l1⟩ := boxed_pr hW1
  obtain ⟨p1, c1, p2, c2, p3, c3, e1, e2, e3, hl1, hl2, hl3⟩ := slw_forms hA.2
  have hA1 := hA.below B1
  obtain ⟨HC, HTT, HCC, HGG⟩ := rows_at hA1 e1 e2 e3
  obtain ⟨o0, o1, o2, o3⟩ := HC.out _ (Below.refl _ _)
  have HO : Hid (okS u = true) := ho
  have hF := (okS_read ho).1
  have HL : Hid (u.ts.length = 12) := hF.nt
  have HN4 : Hid (u.cs.length ≤ 4) := hF.n4
  have HB1 : Hid (Below w.heap.size w W1) := B1
  have HQ : Hid (∀ wr, Below W1.heap.size W1 wr → wr.cell? ⟨w.heap.size, 0, none⟩ = some (.pointer (some ⟨pw, 0, none⟩)) ∧ wr.cell? ⟨w.heap.size, 1, none⟩ = some (.int .i64 (c : Int)) ∧ wr.cell? ⟨w.heap.size, 2, none⟩ = some (.pointer (some ⟨pg, po, none⟩))) := fun wr hb => ⟨(hb.cell (p := ⟨w.heap.size, 0, none⟩) l1).trans q0, (hb.cell (p := ⟨w.heap.size, 1, none⟩) l1).trans q1, (hb.cell (p := ⟨w.heap.size, 2, none⟩) l1).trans q2⟩
  have HI : Hid (∀ (k : Nat) (e : Tk), u.ts[k]? = some e → ∀ W, Below W1.heap.size W1 W → Calls Tryz.prog 128 #[.agg #[.pointer (some ⟨pw, 0, none⟩), .int .i64 (c : Int), .pointer (some ⟨pg, po, none⟩)], .int .i64 (k : Int)] W fun e' w' => e' = .returned (.bool (couldB u c k)) ∧ Below W.heap.size W w') := by
    intro k e he W hW
    exact couldRun_any pw c pg po k e u W (hA1.below hW) ho hc he
  clear hA hA1 e1 e2 e3 hF ho B1
  go_enter Tryz.func90, Tryz.ntmps90
  go_wp2
  clear o0 o1 o2 o3 q0 q1 q2
  go_loopw [3, 13] (fun x t wr => ∃ (k : Nat) (m : Int), k ≤ u.ts.length ∧ x = .int .i64 m ∧ t = .int .i64 (k : Int) ∧ SetIn m ∧ (∀ b, b < 4 → Msk.hasB m ((b : Nat) : Int) = giveTo u c b k) ∧ Below W1.heap.size W1 wr) (fun _ t _ => u.ts.length - (intOf t).toNat)
  case atStart => exact ⟨0, 0, Nat.zero_le _, rfl, rfl, set_zero.1, fun b hb => by rw [set_zero.2 b hb, giveTo_zero], Below.refl _ _⟩
  case round =>
    obtain ⟨k, m, hk, rfl, rfl, hm, hbits, hb⟩ := hrel
    have hk12 : (k : Int) ≤ 12 := by have := HL.out; omega
    obtain ⟨o0, o1, o2, o3⟩ := HC.out _ hb
    obtain ⟨q0, q1, q2⟩ := HQ.out _ hb
    have lw : w.heap.size < wr.heap.size := Nat.lt_of_lt_of_le l1 hb.size
    have HM : Hid (SetIn m ∧ ∀ b, b < 4 → Msk.hasB m ((b : Nat) : Int) = giveTo u c b k) := ⟨hm, hbits⟩
    clear hm hbits
    by_cases hlt : k < u.ts.length
    · have hlt' : (k : Int) < (u.ts.length : Int) := by omega
      obtain ⟨e, he⟩ := row_get hlt
      obtain ⟨tg, to, rfl, hr, ltg⟩ := HTT.out _ k e hb he
      obtain ⟨x0, x1, x2, x3, x4, x5, x6, x7, x8⟩ := tk_cells hr
      clear hr
      obtain ⟨g, c', _, _, _, hcc, hcl, _⟩ := task_is HO.out he
      have HE : Hid (u.ts[k]? = some e) := he
      have HLT : Hid (k < u.ts.length) := hlt
      have HCC2 : Hid (e.cpu = (c' : Int)) := hcc
      have hc4 : c' < 4 := by have := HN4.out; omega
      have HB2 : Hid (∀ A, Below W1.heap.size W1 (wr.alloc A)) := fun A => hb.alloc hb.size A
      have hq := HI.out k e he
      rw [hcc] at x2
      have ltw : tg < wr.heap.size := Nat.lt_of_lt_of_le ltg hb.size
      clear he hlt hcc
      cases hcb : couldB u c k
      · have HX : Hid (∀ b, b < 4 → Msk.hasB m ((b : Nat) : Int) = giveTo u c b (k + 1)) := fun b hb4 => by rw [HM.out.2 b hb4, giveTo_succ, hcb, Bool.and_false, Bool.or_false]
        rw [hcb] at hq
        clear hcb
        go_wp2_with (go_at_call 128; refine (hq _ (HB2.out _)).mono ?_; rintro e1 V1 ⟨rfl, hb1⟩)
        exact ⟨⟨k + 1, m, HLT.out, rfl, by go_num, HM.out.1, HX.out, (HB2.out _).trans (hb1.mono (HB2.out _).size)⟩, by simp [intOf]; omega⟩
      · have HX : Hid (SetIn (bits BinOp.or IntKind.i64 m ((2 : Int) ^ c')) ∧ ∀ b, b < 4 → Msk.hasB (bits BinOp.or IntKind.i64 m ((2 : Int) ^ c')) ((b : Nat) : Int) = giveTo u c b (k + 1)) := by
          obtain ⟨h1, h2⟩ := or_bit HM.out.1 hc4
          refine ⟨h1, fun b hb4 => ?_⟩
          rw [h2 b hb4, HM.out.2 b hb4, giveTo_succ, hcb, HE.out, Bool.and_true]
          show (_ || decide (b = c')) = (_ || decide (e.cpu = (b : Int)))
          rw [HCC2.out]
          congr 1
          exact decide_eq_decide.2 (by omega)
        rw [hcb] at hq
        have hkk : c' = 0 ∨ c' = 1 ∨ c' = 2 ∨ c' = 3 := by omega
        have hw : wrap64 ((2 : Int) ^ c') = (2 : Int) ^ c' := by rcases hkk with rfl | rfl | rfl | rfl <;> decide +kernel
        clear hcb hkk
        go_wp2_with (go_at_call 128; refine (hq _ (HB2.out _)).mono ?_; rintro e1 V1 ⟨rfl, hb1⟩; have n2 := (hb1.cell (p := ⟨wr.heap.size, 2, none⟩) (by simp)).trans (task_new2 _ _ _ _ _ _ _ _ _ _))
        exact ⟨⟨k + 1, _, HLT.out, rfl, by go_num, HX.out.1, HX.out.2, (HB2.out _).trans (hb1.mono (HB2.out _).size)⟩, by simp [intOf]; omega⟩
    · have hlt' : ¬ (k : Int) < (u.ts.length : Int) := by omega
      have HX : Hid (∀ b, b < 4 → Msk.hasB m ((b : Nat) : Int) = giveB u c b) := fun b hb4 => by rw [HM.out.2 b hb4]; unfold giveB; rw [show u.ts.length = k by omega]
      clear hlt
      go_wp2
      go_ret
      exact ⟨m, rfl, HM.out.1, HX.out, HB1.out.trans (hb.mono HB1.out.size)⟩
theorem spec_line (k c : Nat) (u : Wv) (e : Tk) (W : World) (hW : SlW W u) (hF : Fit u) (hTG : TGr u) (hc : c < u.cs.length) (he : u.ts[k]? = some e) (hcp : e.cpu = (c : Int)) :
    Calls Tryz.prog 49 #[wvV u, .int .i64 (k : Int)] W fun e' w' => e' = .returned (.bool (lineB u c k)) ∧ Below W.heap.size W w' := by
  obtain ⟨g, hg, hg8, hug⟩ := hTG k e he
  have h0 := l8InLine_any k g c u e W hW hF.tree he hg8 hug (hF.ok hc) hg hcp
  have : lineB u c k = inlineB (gsD u.gs) e.st g c := by rw [lineB_at he, hcp, decide_eq_true rfl, Bool.true_and, hg, Int.toNat_natCast]
  rw [this]; exact h0
theorem l12Load_any (c : Nat) (u : Wv) (w : World) (hs : SlW w u) (ho : okS u = true) (hc : c < u.cs.length) :
    Calls Tryz.prog 34 #[wvV u, .int .i64 (c : Int)] w fun e' w' => e' = .returned (.int .i64 (loadN u c)) ∧ Below w.heap.size w w' := by
  obtain ⟨p1, c1, p2, c2, p3, c3, e1, e2, e3, hl1, hl2, hl3⟩ := hs.forms
  have hv : wvV u = .agg #[.int .i64 u.now, .slice p1 u.cs.length c1, .slice p2 u.ts.length c2, .slice p3 u.gs.length c3] := by unfold wvV; rw [e1, e2, e3]
  obtain ⟨W1, hW1⟩ : ∃ W1, w.alloc (.cells #[.int .i64 u.now, .slice p1 u.cs.length c1, .slice p2 u.ts.length c2, .slice p3 u.gs.length c3] 33) = W1 := ⟨_, rfl⟩
  obtain ⟨hA, acc, lw⟩ := boxed_w hs e1 e2 e3 hW1
  have HS : Hid (SlW w u) := hs
  obtain ⟨HC, HTT, HCC, HGG⟩ := rows_at hA e1 e2 e3
  obtain ⟨o0, o1, o2, o3⟩ := HC.out _ (Below.refl _ _)
  have ACC : Hid (Below w.heap.size w W1) := acc
  obtain ⟨hF, hCP, hTF, hTG⟩ := okS_read ho
  have HL : Hid (u.ts.length = 12) := hF.nt
  have hI : ∀ (k : Nat) (e : Tk), u.ts[k]? = some e → e.cpu = (c : Int) → ∀ W, SlW W u → Calls Tryz.prog 49 #[wvV u, .int .i64 (k : Int)] W fun e' w' => e' = .returned (.bool (lineB u c k)) ∧ Below W.heap.size W w' := fun (k : Nat) (e : Tk) he hcp W hW => spec_line k c u e W hW hF hTG hc he hcp
  rw [hv] at hI ⊢
  have HI : Hid (∀ (k : Nat) (e : Tk), u.ts[k]? = some e → e.cpu = (c : Int) → ∀ W, SlW W u → Calls Tryz.prog 49 #[.agg #[.int .i64 u.now, .slice p1 u.cs.length c1, .slice p2 u.ts.length c2, .slice p3 u.gs.length c3], .int .i64 (k : Int)] W fun e' w' => e' = .returned (.bool (lineB u c k)) ∧ Below W.heap.size W w') := hI
  clear hA hs e1 e2 e3 hv hI hF hCP hTF hTG ho acc
  go_enter Tryz.func34, Tryz.ntmps34
  go_wp2
  clear o0 o1 o2 o3
  go_loopw [5, 6] (fun n t wr => ∃ k : Nat, k ≤ u.ts.length ∧ n = .int .i64 (sumW u (pickTo (lineB u c) k)) ∧ t = .int .i64 (k : Int) ∧ Below W1.heap.size W1 wr) (fun _ t _ => u.ts.length - (intOf t).toNat)
  case atStart => exact ⟨0, Nat.zero_le _, rfl, rfl, Below.refl _ _⟩
  case round =>
    obtain ⟨k, hk, rfl, rfl, hb⟩ := hrel
    obtain ⟨n, hn⟩ : ∃ n, sumW u (pickTo (lineB u c) k) = n := ⟨_, rfl⟩
    have hnr := sumW_pick u (lineB u c) k
    rw [hn] at hnr ⊢
    have HN : Hid (sumW u (pickTo (lineB u c) k) = n) := hn
    have hk12 : (k : Int) ≤ 12 := by have := HL.out; omega
    clear hn
    obtain ⟨o0, o1, o2, o3⟩ := HC.out _ hb
    have lwr : w.heap.size < wr.heap.size := Nat.lt_of_lt_of_le lw hb.size
    by_cases hlt : k < u.ts.length
    · have hlt' : (k : Int) < (u.ts.length : Int) := by omega
      obtain ⟨e, he⟩ := row_get hlt
      obtain ⟨tg, to, rfl, hr, ltg⟩ := HTT.out _ k e hb he
      obtain ⟨x0, x1, x2, x3, x4, x5, x6, x7, x8⟩ := tk_cells hr
      clear hr
      have HE : Hid (u.ts[k]? = some e) := he
      have HLT : Hid (k < u.ts.length) := hlt
      have HNO : Hid (lineB u c k = false → sumW u (pickTo (lineB u c) (k + 1)) = n) := fun h => by rw [pickTo_no h]; exact HN.out
      clear he hlt
      by_cases s1 : e.st = 1
      · rw [s1] at x0
        by_cases s2 : e.cpu = (c : Int)
        · have hq := HI.out k e HE.out s2
          rw [s2] at x2
          cases hln : lineB u c k
          · have HNN := HNO.out hln
            rw [hln] at hq
            have HX : Hid (sumW u (pickTo (lineB u c) (k + 1)) = n) := HNN
            clear HNN hln s1 s2
            go_wp2_with (go_at_call 49; refine (hq _ (HS.out.below (ACC.out.trans (hb.mono ACC.out.size)))).mono ?_; rintro e1 V1 ⟨rfl, hb1⟩; have hbn := hb.trans (hb1.mono hb.size); have o0 := (HC.out _ hbn).1; have o1 := (HC.out _ hbn).2.1; have o2 := (HC.out _ hbn).2.2.1; have o3 := (HC.out _ hbn).2.2.2; have x0 := (hb1.cell (p := ⟨tg, to + k * 9, none⟩) (Nat.lt_of_lt_of_le ltg hb.size)).trans x0; have x1 := (hb1.cell (p := ⟨tg, to + k * 9 + 1, none⟩) (Nat.lt_of_lt_of_le ltg hb.size)).trans x1; have x2 := (hb1.cell (p := ⟨tg, to + k * 9 + 2, none⟩) (Nat.lt_of_lt_of_le ltg hb.size)).trans x2; have x3 := (hb1.cell (p := ⟨tg, to + k * 9 + 3, none⟩) (Nat.lt_of_lt_of_le ltg hb.size)).trans x3; have x4 := (hb1.cell (p := ⟨tg, to + k * 9 + 4, none⟩) (Nat.lt_of_lt_of_le ltg hb.size)).trans x4; have x5 := (hb1.cell (p := ⟨tg, to + k * 9 + 5, none⟩) (Nat.lt_of_lt_of_le ltg hb.size)).trans x5; have x6 := (hb1.cell (p := ⟨tg, to + k * 9 + 6, none⟩) (Nat.lt_of_lt_of_le ltg hb.size)).trans x6; have x7 := (hb1.cell (p := ⟨tg, to + k * 9 + 7, none⟩) (Nat.lt_of_lt_of_le ltg hb.size)).trans x7; have x8 := (hb1.cell (p := ⟨tg, to + k * 9 + 8, none⟩) (Nat.lt_of_lt_of_le ltg hb.size)).trans x8; replace hb := hbn; clear hb1 hbn)
            exact ⟨⟨k + 1, HLT.out, by rw [HX.out] <;> rfl, by go_num, hb⟩, by simp [intOf]; omega⟩
          · have HX : Hid (sumW u (pickTo (lineB u c) (k + 1)) = n + wof e.ni) := by unfold Hid; rw [pickTo_yes hln, sumW_one, HN.out, niK_at HE.out]
            have hwr := wof_range e.ni
            rw [hln] at hq
            clear hln s1 s2
            go_wp2_with (first | (go_at_call 49; refine (hq _ (HS.out.below (ACC.out.trans (hb.mono ACC.out.size)))).mono ?_; rintro e1 V1 ⟨rfl, hb1⟩; have hbn := hb.trans (hb1.mono hb.size); have o0 := (HC.out _ hbn).1; have o1 := (HC.out _ hbn).2.1; have o2 := (HC.out _ hbn).2.2.1; have o3 := (HC.out _ hbn).2.2.2; have x0 := (hb1.cell (p := ⟨tg, to + k * 9, none⟩) (Nat.lt_of_lt_of_le ltg hb.size)).trans x0; have x1 := (hb1.cell (p := ⟨tg, to + k * 9 + 1, none⟩) (Nat.lt_of_lt_of_le ltg hb.size)).trans x1; have x2 := (hb1.cell (p := ⟨tg, to + k * 9 + 2, none⟩) (Nat.lt_of_lt_of_le ltg hb.size)).trans x2; have x3 := (hb1.cell (p := ⟨tg, to + k * 9 + 3, none⟩) (Nat.lt_of_lt_of_le ltg hb.size)).trans x3; have x4 := (hb1.cell (p := ⟨tg, to + k * 9 + 4, none⟩) (Nat.lt_of_lt_of_le ltg hb.size)).trans x4; have x5 := (hb1.cell (p := ⟨tg, to + k * 9 + 5, none⟩) (Nat.lt_of_lt_of_le ltg hb.size)).trans x5; have x6 := (hb1.cell (p := ⟨tg, to + k * 9 + 6, none⟩) (Nat.lt_of_lt_of_le ltg hb.size)).trans x6; have x7 := (hb1.cell (p := ⟨tg, to + k * 9 + 7, none⟩) (Nat.lt_of_lt_of_le ltg hb.size)).trans x7; have x8 := (hb1.cell (p := ⟨tg, to + k * 9 + 8, none⟩) (Nat.lt_of_lt_of_le ltg hb.size)).trans x8; replace hb := hbn; clear hb1 hbn) | (go_at_call 72; refine (spec_wof _ _).mono ?_; rintro e1 V1 ⟨rfl, rfl⟩))
            exact ⟨⟨k + 1, HLT.out, by rw [HX.out] <;> go_num, by go_num, hb⟩, by simp [intOf]; omega⟩
        · have HX : Hid (sumW u (pickTo (lineB u c) (k + 1)) = n) := HNO.out (by rw [lineB_at HE.out, decide_eq_false s2]; rfl)
          clear s1
          go_wp2
          exact ⟨⟨k + 1, HLT.out, by rw [HX.out] <;> rfl, by go_num, hb⟩, by simp [intOf]; omega⟩
      · have HX : Hid (sumW u (pickTo (lineB u c) (k + 1)) = n) := HNO.out (by rw [lineB_at HE.out, Bool.and_eq_false_iff]; right; cases h : inlineB (gsD u.gs) e.st e.gr.toNat c; rfl; exact absurd (inline_ready h) s1)
        go_wp2
        exact ⟨⟨k + 1, HLT.out, by rw [HX.out] <;> rfl, by go_num, hb⟩, by simp [intOf]; omega⟩
    · have hlt' : ¬ (k : Int) < (u.ts.length : Int) := by omega
      have HX : Hid (loadN u c = n) := by unfold Hid loadN lineL; rw [show u.ts.length = k by omega]; exact HN.out
      clear hlt
      go_wp2
      go_ret
      exact ⟨by rw [HX.out] <;> rfl, ACC.out.trans (hb.mono ACC.out.size)⟩
theorem cpu_cases {cs : List Cp} {c : Int} : cpuB cs c = false ∨ ∃ k : Nat, c = (k : Int) ∧ k < cs.length := by
  cases h : cpuB cs c
  · exact .inl rfl
  · exact .inr (cpuB_nat h)
end Go.Proofs.YtnmmglkigiakaaaGreat
