/- Carried over from an earlier seat. -/
import Derived.Test.YtebkkjfeikpfgaaBXA
import Derived.Test.YtebkkjfeikpfgaaBNW
namespace Go.Proofs.Ytebkkjfeikpfgaa
set_option maxRecDepth 100000
set_option maxRecDepth 100000
open Go.RowKit

end Go.Proofs.Ytebkkjfeikpfgaa

namespace Go.Proofs.Ytebkkjfeikpfgaa
set_option maxRecDepth 100000
open Go.RowKit Go.Sort
set_option maxRecDepth 100000

/-- The copy of a thing. -/
def cP (p : ByteArray × V) : ByteArray × V := (p.1, copyV 12 p.2)
def cT (t : TV) : TV := ⟨t.id, t.label, t.o, t.i, t.l.map cP⟩
theorem ckv_eq (l : List PA) : l.map PA.ckv = (l.map PA.kv).map cP := by simp [PA.ckv, PA.kv, cP]
theorem ctv_eq (t : TA) : t.ctv = cT t.tv' := by simp [TA.ctv, TA.tv', cT, ckv_eq]
theorem ctvs_eq (l : List TA) : l.map TA.ctv = (l.map TA.tv').map cT := by simp [ctv_eq]
end Go.Proofs.Ytebkkjfeikpfgaa

