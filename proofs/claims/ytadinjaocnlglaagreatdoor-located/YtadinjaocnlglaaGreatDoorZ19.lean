/-
  errors.As where the target is a variable of type *fault.Fault: nil gives false; an error that is a *fault.Fault is written into the target. rv: a reflectlite.Value over a variable of type ty at a; rt: reflectlite's name of the type ty. 94: *fault.Fault · 100: a pointer to one · 40: error · 128: reflectlite's rtype · 115: reflectlite.Value.
-/
import Derived.Test.YtadinjaocnlglaaGreatDoorProg
import Derived.WalkKit
import Derived.LaidEql
import Derived.Stop.Asserts
import Derived.RowKitTokens
namespace Go.Proofs.YtadinjaocnlglaaGreatDoor
open Go.RowKit Go.Extern.Stop Go.Stop Go.Extern

theorem as_nil (t : Value) (w : World) :
    Calls Tryz.prog 189 #[.nilIface, t] w fun e w' => e = .returned (.bool false) ∧ w' = w := by
  go_enter Tryz.func189, Tryz.ntmps189
  go_wp2
  go_ret
  exact ⟨rfl, rfl⟩

abbrev rt (ty : Nat) : Value := .agg #[.pointer (some ⟨7, ty, none⟩)]
abbrev rv (ty : Nat) (a : Addr) (fl : Int) : Value := .agg #[.pointer (some ⟨7, ty, none⟩), .pointer (some a), .int .u64 fl]

end Go.Proofs.YtadinjaocnlglaaGreatDoor
