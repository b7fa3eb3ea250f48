/- The text of a mark. -/
import Derived.Test.YtocgndefjjomjaaOR
import Derived.Laws.BytesArg
namespace Go.Proofs.Ytocgndefjjomjaa
set_option linter.unusedVariables false
set_option linter.unusedSimpArgs false
open Go.ChangeShapes Go.WideShapes Go.ChangeAt Go.RowKit

def dgt (k : Nat) : ByteArray := ⟨#[UInt8.ofNat (48 + k % 10)]⟩
/-- the digits of a number, ahead of what is there. -/
def mtR (k : Nat) (s : ByteArray) : ByteArray := if h : k = 0 then s else mtR (k / 10) (dgt k ++ s)
termination_by k
decreasing_by omega
def mtxt (k : Int) : ByteArray := if k ≤ 0 then ⟨#[109, 48]⟩ else ⟨#[109]⟩ ++ mtR k.toNat ⟨#[]⟩
theorem mtR_zero (s : ByteArray) : mtR 0 s = s := by rw [mtR]; simp
theorem mtR_pos {k : Nat} (h : 0 < k) (s : ByteArray) : mtR k s = mtR (k / 10) (dgt k ++ s) := by rw [mtR]; simp [Nat.pos_iff_ne_zero.1 h]
set_option maxHeartbeats 4000000 in
set_option maxRecDepth 20000 in
theorem markText_any (k : Int) (w : World) (h0 : 0 ≤ k) (h1 : k ≤ 4000000000) :
    Calls Try.prog 25 #[.int .i64 k] w fun e w' => e = .returned (.string (mtxt k)) ∧ Below w.heap.size w w' := by
  by_cases hk : k ≤ 0
  · obtain rfl : k = 0 := by omega
    have HE : Hid (mtxt 0 = ⟨#[109, 48]⟩) := if_pos hk
    go_enter Try.func25, Try.ntmps25
    go_wp2
    go_ret
    exact ⟨by rw [HE.out]; rfl, Below.refl _ _⟩
  · have HE : Hid (mtxt k = ⟨#[109]⟩ ++ mtR k.toNat ⟨#[]⟩) := if_neg hk
    go_enter Try.func25, Try.ntmps25
    go_wp2
    go_loopw [0, 3] (fun c t wr => ∃ (n : Nat) (s : ByteArray), n ≤ 4000000000 ∧ c = .int .i64 n ∧ t = .string s ∧ mtR n s = mtR k.toNat ⟨#[]⟩ ∧ s.size + n ≤ 4000000000 ∧ Below w.heap.size w wr) (fun c _ _ => (intOf c).toNat)
    case atStart => exact ⟨k.toNat, ⟨#[]⟩, by omega, by rw [Int.toNat_of_nonneg h0], rfl, rfl, by show 0 + _ ≤ _; omega, Below.refl _ _⟩
    case round =>
      obtain ⟨n, s, hn, rfl, rfl, hs, hz, acc⟩ := hrel
      by_cases hp : 0 < n
      · have hp' : (0 : Int) < (n : Int) := by omega
        have hd : strOfNums [48 + (n : Int) % 10] = dgt n := by
          unfold strOfNums dgt
          have : (48 + (n : Int) % 10).toNat = 48 + n % 10 := by omega
          simp [this]
        have hcv := run_convert_bytes_arg (P := Try.prog) (wr.alloc (.cells #[.int .u8 (48 + (n : Int) % 10)] 5)) 63 5 Try.underlying63 Try.underlying5 wr.heap.size 0 1 1 [48 + (n : Int) % 10] rfl (by
          intro i hi
          obtain rfl : i = 0 := by omega
          unfold World.cell? World.alloc
          simp) 9 Try.underlying9
        rw [hd] at hcv
        clear hd
        have HS : Hid (mtR n s = mtR k.toNat ⟨#[]⟩) := hs
        have HZ : Hid (s.size + n ≤ 4000000000) := hz
        have hz' : (dgt n ++ s).size = 1 + s.size := by rw [ByteArray.size_append]; rfl
        clear hs
        go_wp2
        · have := HZ.out
          have hm : maxLen = 9223372036854775807 := rfl
          have hd1 : (dgt n).size = 1 := rfl
          omega
        · exact ⟨⟨n / 10, dgt n ++ s, by omega, by go_num, rfl, (by rw [← mtR_pos hp]; exact HS.out), (by have := HZ.out; rw [hz']; omega), acc.alloc acc.size _⟩, by simp [intOf]; omega⟩
      · have hp' : ¬ (0 : Int) < (n : Int) := by omega
        obtain rfl : n = 0 := by omega
        have HS : Hid (s = mtR k.toNat ⟨#[]⟩) := by show _ = _; rw [← hs, mtR_zero]
        clear hs
        go_wp2
        go_ret
        exact ⟨by rw [HE.out, ← HS.out]; rfl, acc⟩
end Go.Proofs.Ytocgndefjjomjaa
