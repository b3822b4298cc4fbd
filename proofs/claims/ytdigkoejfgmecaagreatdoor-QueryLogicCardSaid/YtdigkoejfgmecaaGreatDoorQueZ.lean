/-
  The row's closed facts. No condition.
-/
import Derived.Test.YtdigkoejfgmecaaGreatDoorQueE
import Derived.Test.YtdigkoejfgmecaaGreatDoorCards
import Derived.Test.YtdigkoejfgmecaaGreatDoorTie
import Derived.SevenTiedAt
import Derived.WalkKit
import Derived.JoinedOf
set_option linter.unusedSimpArgs false
set_option linter.unusedVariables false
set_option linter.unusedSectionVars false
section
namespace Go.Proofs.YtdigkoejfgmecaaGreatDoor
open Go
set_option maxRecDepth 100000
theorem jfa:(Rows.queryLogicRow.inPlace == Tryz.pinned.checked.prog.inPlace 4)=true:=by kernel_rfl
theorem jfb:(Rows.queryLogicRow.unfollowed == Tryz.pinned.checked.prog.unfollowed 4)=true:=by kernel_rfl
theorem jfc:(Rows.queryLogicRow.recurses == Tryz.pinned.checked.prog.recurses 4)=true:=by kernel_rfl
theorem jfd:(Rows.queryLogicRow.named == Tryz.pinned.checked.prog.varsNamed 4)=true:=by kernel_rfl
theorem jfz:joinedFacts Tryz.pinned.checked.prog 4 Tryz.f4 Rows.queryLogicSpec Rows.queryLogicRow=true:=by
 unfold joinedFacts
 rw [jfa,jfb,jfc,jfd]
 kernel_rfl
end Go.Proofs.YtdigkoejfgmecaaGreatDoor
end

