/- The numbers under which this program holds the mutex of package sync. -/
import Derived.Test.YtljjgebkieffpaaProg
import Derived.Conc.RwLib
import Derived.Conc.MuData
import Derived.KernelRfl
namespace Go.Proofs.Ytljjgebkieffpaa
abbrev Try.muLink : Go.Conc.Locks.MuLink := { lock := 61, unlock := 62, ilock := 68, iunlock := 69, lockSlow := 93, unlockSlow := 95, disable := 75, enable := 76, acquire := 87, relMerge := 74, cas32 := 92, add32 := 94, tMutex := 71, tIMutex := 69, tPMutex := 99, tPIMutex := 120, tPI32 := 122, tUP := 105, tNoCopy := 66, tU32 := 67 }
theorem Try.muLib : Go.Conc.Locks.MuLib Try.prog Try.muLink :=
  ⟨Try.func61, Try.func62, Try.func68, Try.func69, Try.func75, Try.func76, Try.func87, Try.func74, Try.func92, Try.func94, Try.underlying69, Try.runUnderlying69, Try.sizeOf69, Try.isAgg69, Try.zeroValue69, Try.underlying71, Try.runUnderlying71, Try.sizeOf71, Try.isAgg71, Try.zeroValue71, Try.underlying99, Try.runUnderlying99, Try.sizeOf99, Try.isAgg99, Try.zeroValue99, Try.underlying120, Try.runUnderlying120, Try.sizeOf120, Try.isAgg120, Try.zeroValue120, Try.underlying122, Try.runUnderlying122, Try.sizeOf122, Try.isAgg122, Try.zeroValue122, Try.underlying105, Try.runUnderlying105, Try.sizeOf105, Try.isAgg105, Try.zeroValue105, Try.underlying66, Try.runUnderlying66, Try.sizeOf66, Try.isAgg66, Try.zeroValue66, Try.underlying21, Try.runUnderlying21, Try.sizeOf21, Try.isAgg21, Try.zeroValue21, (by kernel_rfl)⟩
end Go.Proofs.Ytljjgebkieffpaa
