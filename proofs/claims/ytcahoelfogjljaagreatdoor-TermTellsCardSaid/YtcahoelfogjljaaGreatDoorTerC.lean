/-
  The reader's parts. No condition.
-/
import Derived.Test.YtcahoelfogjljaaGreatDoorTerB
set_option linter.unusedSimpArgs false
set_option linter.unusedVariables false
set_option linter.unusedSectionVars false
section
namespace Go.Proofs.YtcahoelfogjljaaGreatDoor
open Go Go.Eng
section
variable {s : List UInt8} {p : Int} {a b x y : AV} {K : AV → Prop} {KS : AV → zaa → Prop} {σ : zaa} {t e : TypeId} {id : Nat}
end
end Go.Proofs.YtcahoelfogjljaaGreatDoor
end

section
namespace Go.Proofs.YtcahoelfogjljaaGreatDoor
open Go Go.Eng
def rdT:List UInt8→Option (List UInt8 × Nat)
 | []=>none
 | [_]=>none
 | c::b::r=>if c=0 then (if b=0 then some ([],2) else if b=255 then (rdT r).map fun x=>(0::x.1,x.2+2) else none) else (rdT (b::r)).map fun x=>(c::x.1,x.2+1)
end Go.Proofs.YtcahoelfogjljaaGreatDoor
end

section
namespace Go.Proofs.YtcahoelfogjljaaGreatDoor
open Go Go.Eng
end Go.Proofs.YtcahoelfogjljaaGreatDoor
end

section
namespace Go.Proofs.YtcahoelfogjljaaGreatDoor
open Go Go.Eng
end Go.Proofs.YtcahoelfogjljaaGreatDoor
end

section
namespace Go.Proofs.YtcahoelfogjljaaGreatDoor
open Go Go.Eng
def nodR (s:List UInt8) (p:Nat):Option (Nd × Nat):=match s.drop p with
 | []=>none
 | c::r =>
  if c.toNat=1∨c.toNat=5∨c.toNat=6 then some (⟨(c.toNat:Int) - 1,0,[],0⟩,p+1)
  else if c.toNat=2 then (match r with
   | []=>none
   | b::_=>if b.toNat≤1 then some (⟨1,b.toNat,[],0⟩,p+2) else none)
  else if c.toNat=3 then (if r.length < 8 then none else some (⟨2,IntKind.i64.wrap (readBigL (r.take 8) ^^^ 9223372036854775808#64).toNat,[],0⟩,p+9))
  else if c.toNat=4 then (rdT r).map fun x=>(⟨3,0,x.1,0⟩,p+1+x.2)
  else none
end Go.Proofs.YtcahoelfogjljaaGreatDoor
end

section
namespace Go.Proofs.YtcahoelfogjljaaGreatDoor
open Go Go.Eng
section
variable {s : List UInt8} {K : AV → Prop} {KS : AV → zaa → Prop} {σ : zaa} {t e : TypeId} {id : Nat}
end
end Go.Proofs.YtcahoelfogjljaaGreatDoor
end

section
namespace Go.Proofs.YtcahoelfogjljaaGreatDoor
open Go Go.Eng
end Go.Proofs.YtcahoelfogjljaaGreatDoor
end

section
namespace Go.Proofs.YtcahoelfogjljaaGreatDoor
open Go Go.Eng
theorem zaM (id off len:Nat) (n:Int) {K:AV→Prop}:ia3 (some tyNd) (.ref id off len 4) n K=(0≤n∧n < len∧K (.ptr id (off+n.toNat * 4))):=by
 rw [ia3_ref]
 simp [tyNd]
end Go.Proofs.YtcahoelfogjljaaGreatDoor
end

section
namespace Go.Proofs.YtcahoelfogjljaaGreatDoor
open Go Go.Eng
end Go.Proofs.YtcahoelfogjljaaGreatDoor
end

section
namespace Go.Proofs.YtcahoelfogjljaaGreatDoor
open Go Go.Eng
end Go.Proofs.YtcahoelfogjljaaGreatDoor
end

