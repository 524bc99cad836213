/-
  porticobook.Within; porticokeep's Words, pick.
-/
import Derived.Test.YtnnmbpghkflepaaDoorBase
import Derived.Deep.RegionHeld3
namespace Go.Proofs.YtnnmbpghkflepaaDoor
open Go.RowKit Go.PlainAid
set_option maxRecDepth 100000

end Go.Proofs.YtnnmbpghkflepaaDoor
