/-
  A reader of values. No condition.
-/
import Derived.Test.YtcabljgghammoaaGreatDoorKeyE
set_option linter.unusedSimpArgs false
set_option linter.unusedVariables false
set_option linter.unusedSectionVars false
section
namespace Go.Proofs.YtcabljgghammoaaGreatDoor
open Go Go.Eng


/-! ### the reader -/
def cC (s : List UInt8) (p : Int) (a b : AV) : List AV := [str s, i64 p, a, b]
section
variable {s : List UInt8} {p : Int} {a b x y : AV} {K : AV → Prop} {KS : AV → Store → Prop} {σ : Store} {t e : TypeId} {id : Nat}
end
end Go.Proofs.YtcabljgghammoaaGreatDoor
end

section
namespace Go.Proofs.YtcabljgghammoaaGreatDoor
open Go Go.Eng


/-! ### a text that is read -/
end Go.Proofs.YtcabljgghammoaaGreatDoor
end

section
namespace Go.Proofs.YtcabljgghammoaaGreatDoor
open Go Go.Eng
end Go.Proofs.YtcabljgghammoaaGreatDoor
end

section
namespace Go.Proofs.YtcabljgghammoaaGreatDoor
open Go Go.Eng


end Go.Proofs.YtcabljgghammoaaGreatDoor
end

section
namespace Go.Proofs.YtcabljgghammoaaGreatDoor
open Go Go.Eng


/-! ### a node that is read -/
end Go.Proofs.YtcabljgghammoaaGreatDoor
end

section
namespace Go.Proofs.YtcabljgghammoaaGreatDoor
open Go Go.Eng


section
variable {s : List UInt8} {K : AV → Prop} {KS : AV → Store → Prop} {σ : Store} {t e : TypeId} {id : Nat}
end
end Go.Proofs.YtcabljgghammoaaGreatDoor
end

