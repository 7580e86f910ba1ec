/- Carried over from an earlier seat. -/
import Derived.Test.YthjbmlgjlndihaaLN
import GoSem.Op.String
import Derived.WalkKit
import Derived.WalkLawsBesides
import Derived.LoopTactic
import Derived.Lib.Hide
import Derived.Below
import Derived.StillTailTactics
namespace Go.Proofs.Ythjbmlgjlndihaa
set_option maxRecDepth 100000
set_option maxRecDepth 100000

inductive V where
  | mk (k n : Int) (s : ByteArray) (l m : List V)

end Go.Proofs.Ythjbmlgjlndihaa

namespace Go.Proofs.Ythjbmlgjlndihaa
set_option maxRecDepth 100000
set_option maxRecDepth 100000
open Go.RowKit

end Go.Proofs.Ythjbmlgjlndihaa

namespace Go.Proofs.Ythjbmlgjlndihaa
set_option maxRecDepth 100000
set_option maxRecDepth 100000
open Go.RowKit

end Go.Proofs.Ythjbmlgjlndihaa

namespace Go.Proofs.Ythjbmlgjlndihaa
set_option maxRecDepth 100000
set_option maxRecDepth 100000
open Go.RowKit

end Go.Proofs.Ythjbmlgjlndihaa


