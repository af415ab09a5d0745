import Derived.Test.YtfgfpggjcfhccaaGreatProg
import Derived.Conc.RwLib
import Derived.Conc.MuData
import Derived.KernelRfl
namespace Go.Proofs
abbrev Tryz.muLink : Go.Conc.Locks.MuLink := { lock := 25, unlock := 26, ilock := 43, iunlock := 44, lockSlow := 62, unlockSlow := 65, disable := 58, enable := 60, acquire := 61, relMerge := 63, cas32 := 59, add32 := 64, tMutex := 75, tIMutex := 73, tPMutex := 117, tPIMutex := 128, tPI32 := 130, tUP := 132, tNoCopy := 70, tU32 := 71 }
theorem Tryz.muLib : Go.Conc.Locks.MuLib Tryz.prog Tryz.muLink :=
  ⟨Tryz.func25, Tryz.func26, Tryz.func43, Tryz.func44, Tryz.func58, Tryz.func60, Tryz.func61, Tryz.func63, Tryz.func59, Tryz.func64, Tryz.underlying73, Tryz.runUnderlying73, Tryz.sizeOf73, Tryz.isAgg73, Tryz.zeroValue73, Tryz.underlying75, Tryz.runUnderlying75, Tryz.sizeOf75, Tryz.isAgg75, Tryz.zeroValue75, Tryz.underlying117, Tryz.runUnderlying117, Tryz.sizeOf117, Tryz.isAgg117, Tryz.zeroValue117, Tryz.underlying128, Tryz.runUnderlying128, Tryz.sizeOf128, Tryz.isAgg128, Tryz.zeroValue128, Tryz.underlying130, Tryz.runUnderlying130, Tryz.sizeOf130, Tryz.isAgg130, Tryz.zeroValue130, Tryz.underlying132, Tryz.runUnderlying132, Tryz.sizeOf132, Tryz.isAgg132, Tryz.zeroValue132, Tryz.underlying70, Tryz.runUnderlying70, Tryz.sizeOf70, Tryz.isAgg70, Tryz.zeroValue70, Tryz.underlying21, Tryz.runUnderlying21, Tryz.sizeOf21, Tryz.isAgg21, Tryz.zeroValue21, (by kernel_rfl)⟩
end Go.Proofs
