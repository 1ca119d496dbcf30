/-
  errors.As where the target is a variable of type *fault.Fault: nil gives false; an error that is a *fault.Fault is written into the target. rv: a reflectlite.Value over a variable of type ty at a; rt: reflectlite's name of the type ty. 94: *fault.Fault · 100: a pointer to one · 40: error · 128: reflectlite's rtype · 115: reflectlite.Value.
-/
import Derived.Test.YtadinjaocnlglaaGreatDoorProg
import Derived.WalkKit
import Derived.LaidEql
import Derived.Stop.Asserts
import Derived.RowKitTokens
namespace Go.Proofs.YtadinjaocnlglaaGreatDoor
open Go.RowKit Go.Extern.Stop Go.Stop Go.Extern

end Go.Proofs.YtadinjaocnlglaaGreatDoor
