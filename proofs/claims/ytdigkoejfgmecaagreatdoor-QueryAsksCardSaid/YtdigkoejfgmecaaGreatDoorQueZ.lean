/-
  The row's closed facts. No condition.
-/
import Derived.Test.YtdigkoejfgmecaaGreatDoorQueE
import Derived.Test.YtdigkoejfgmecaaGreatDoorCards
import Derived.Test.YtdigkoejfgmecaaGreatDoorTie
import Derived.SevenTiedAt
import Derived.WalkKit
import Derived.JoinedOf
set_option linter.unusedSimpArgs false
set_option linter.unusedVariables false
set_option linter.unusedSectionVars false
section
namespace Go.Proofs.YtdigkoejfgmecaaGreatDoor
open Go
set_option maxRecDepth 100000
theorem jfa:(Rows.queryAsksRow.inPlace == Tryz.pinned.checked.prog.inPlace 3)=true:=by kernel_rfl
theorem jfb:(Rows.queryAsksRow.unfollowed == Tryz.pinned.checked.prog.unfollowed 3)=true:=by kernel_rfl
theorem jfc:(Rows.queryAsksRow.recurses == Tryz.pinned.checked.prog.recurses 3)=true:=by kernel_rfl
theorem jfd:(Rows.queryAsksRow.named == Tryz.pinned.checked.prog.varsNamed 3)=true:=by kernel_rfl
theorem jfz:joinedFacts Tryz.pinned.checked.prog 3 Tryz.f3 Rows.queryAsksSpec Rows.queryAsksRow=true:=by
 unfold joinedFacts
 rw [jfa,jfb,jfc,jfd]
 kernel_rfl
end Go.Proofs.YtdigkoejfgmecaaGreatDoor
end

