/- Rows of groups: what copies, compares and measures them; such rows that came in, opened. -/
import Derived.Test.YtocgndefjjomjaaGR
namespace Go.Proofs.Ytocgndefjjomjaa
set_option linter.unusedVariables false
set_option linter.unusedSimpArgs false
open Go.ChangeShapes Go.WideShapes Go.ChangeAt Go.RowKit

/-- a slice that holds these groups, and theirs hold their rows. -/
def SlG (W : World) (x : Value) (vs : List Gv) : Prop := SlR gvC 14 W x vs ∧ ∀ v ∈ vs, GvOk W v
/-- such a slice and all rows in blocks of their own, not below B. -/
def NewG (B : Nat) (W : World) (x : Value) (vs : List Gv) : Prop := NewR gvC 14 B W x vs ∧ (∀ v ∈ vs, OwnGv B W v ∧ ∀ g, x.ownBlock = some g → OwnGv (g + 1) W v) ∧ (blkGs vs).Nodup
def GsFit (vs : List Gv) : Prop := vs.length ≤ 1048576 ∧ ∀ v ∈ vs, GrFit v.d
def gsD (vs : List Gv) : List Gr := vs.map (·.d)
theorem SlG.below {W W' : World} {x : Value} {vs : List Gv} (h : SlG W x vs) (hb : Below W.heap.size W W') : SlG W' x vs := ⟨h.1.below hb, fun v hv => (h.2 v hv).below hb⟩
theorem NewG.below {B : Nat} {W W' : World} {x : Value} {vs : List Gv} (h : NewG B W x vs) (hb : Below W.heap.size W W') : NewG B W' x vs :=
  ⟨h.1.below hb, fun v hv => ⟨(h.2.1 v hv).1.below hb, fun g hg => ((h.2.1 v hv).2 g hg).below hb⟩, h.2.2⟩
theorem NewG.sl {B : Nat} {W : World} {x : Value} {vs : List Gv} (h : NewG B W x vs) (hf : GsFit vs) : SlG W x vs := ⟨h.1.sl hf.1, fun v hv => (h.2.1 v hv).1.ok (hf.2 v hv)⟩
theorem GsFit.of_same {vs vs' : List Gv} (h : GsFit vs) (he : gsD vs' = gsD vs) : GsFit vs' := by
  have hl : vs'.length = vs.length := by simpa [gsD] using congrArg List.length he
  refine ⟨by rw [hl]; exact h.1, fun v hv => ?_⟩
  have hm : v.d ∈ gsD vs' := List.mem_map.2 ⟨v, hv, rfl⟩
  rw [he] at hm
  obtain ⟨u, hu, e⟩ := List.mem_map.1 hm
  rw [← e]
  exact h.2 u hu
theorem info_gv : (Try.prog.info? 41).map (fun i => (i.zero, i.size, i.bytes)) = some (some (.agg #[.bool false, .int .i64 0, .string ⟨#[]⟩, .int .i64 0, .int .i64 0, .int .i64 0, .int .i64 0, .int .i64 0, .int .i64 0, .int .i64 0, .int .i64 0, .slice none 0 0, .slice none 0 0, .slice none 0 0]), 14, 168) := by kernel_rfl
theorem setCells_fourteen (W : World) (b k : Nat) (e : Gv) : W.setCells b (k * 14) (gvC e) = ((((((((((((((W).setCell ⟨b, k * 14, none⟩ (.bool e.d.us)).setCell ⟨b, k * 14 + 1, none⟩ (.int .i64 e.d.pa)).setCell ⟨b, k * 14 + 2, none⟩ (.string e.d.na)).setCell ⟨b, k * 14 + 3, none⟩ (.int .i64 e.d.we)).setCell ⟨b, k * 14 + 4, none⟩ (.int .i64 e.d.cp)).setCell ⟨b, k * 14 + 5, none⟩ (.int .i64 e.d.pe)).setCell ⟨b, k * 14 + 6, none⟩ (.int .i64 e.d.ne)).setCell ⟨b, k * 14 + 7, none⟩ (.int .i64 e.d.su)).setCell ⟨b, k * 14 + 8, none⟩ (.int .i64 e.d.ba.qu)).setCell ⟨b, k * 14 + 9, none⟩ (.int .i64 e.d.ba.po)).setCell ⟨b, k * 14 + 10, none⟩ (.int .i64 e.d.ba.sp)).setCell ⟨b, k * 14 + 11, none⟩ (e.x)).setCell ⟨b, k * 14 + 12, none⟩ (e.y)).setCell ⟨b, k * 14 + 13, none⟩ (e.z) := rfl
theorem OwnGv.set {B : Nat} {W : World} {e : Gv} (h : OwnGv B W e) (b o : Nat) (vs : List Value) (hb : b < B) : OwnGv B (W.setCells b o vs) e := h.kept (Kept.setCells W b o vs) (fun g hg hh => by omega)

end Go.Proofs.Ytocgndefjjomjaa
