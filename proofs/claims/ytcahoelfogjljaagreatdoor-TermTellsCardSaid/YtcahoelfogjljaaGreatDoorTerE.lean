/-
  What is put is read again, and nothing else. No condition.
-/
import Derived.Test.YtcahoelfogjljaaGreatDoorTerD
set_option linter.unusedSimpArgs false
set_option linter.unusedVariables false
set_option linter.unusedSectionVars false
section
namespace Go.Proofs.YtcahoelfogjljaaGreatDoor
open Go Go.Eng
end Go.Proofs.YtcahoelfogjljaaGreatDoor
end

section
namespace Go.Proofs.YtcahoelfogjljaaGreatDoor
open Go Go.Eng
def kidsP (V:List UInt8→Option (List Nd × Nat)) (mp:Bool):Nat→Nat→List UInt8→List UInt8→Option (List Nd × Nat × Nat)
 | 0,_,_,_=>none
 | _+1,_,_,[]=>none
 | g+1,c,last,b::r =>
  if b=0 then some ([],0,1)
  else if mp=true then
   if b=1 then match rdT r with
    | none=>none
    | some (t,m)=>if 0 < c∧leB t last=true then none else match V (r.drop m) with
     | none=>none
     | some (l,e)=>(kidsP V mp g (c+1) t (r.drop (m+e))).map fun x=>(⟨3,0,t,0⟩::(l++x.1),x.2.1+1,1+m+e+x.2.2)
   else none
  else match V (b::r) with
   | none=>none
   | some (l,e)=>(kidsP V mp g (c+1) last ((b::r).drop e)).map fun x=>(l++x.1,x.2.1+1,e+x.2.2)
def valP:Nat→List UInt8→Option (List Nd × Nat)
 | 0,_=>none
 | f+1,s=>match nodR s 0 with
  | none=>none
  | some (n,e)=>if n.kind=4∨n.kind=5 then (kidsP (valP f) (decide (n.kind=5)) f 0 [] (s.drop e)).map fun x=>(⟨n.kind,n.num,n.text,(x.2.1:Int)⟩::x.1,e+x.2.2) else some ([n],e)
end Go.Proofs.YtcahoelfogjljaaGreatDoor
end

section
namespace Go.Proofs.YtcahoelfogjljaaGreatDoor
open Go Go.Eng
def RUN (s:List UInt8) (x:RS):Option RS:=runR s s.length x
structure PreR (s:List UInt8) (x:RS):Prop where
 hp:x.p≤s.length
 hl:x.l.length≤x.p
 ho:∀ q∈x.o,q.1 < x.l.length∧0≤(x.l.getD q.1 n0d).kids∧(x.l.getD q.1 n0d).kids≤x.p+1
def VOK (s:List UInt8) (f:Nat):Prop:=∀ x:RS,PreR s x→s.length - x.p≤f→(beginR s x).bind (RUN s)=match valP f (s.drop x.p) with
 | none=>none
 | some (l,e)=>RUN s ⟨x.p+e,x.l++l,x.o⟩
end Go.Proofs.YtcahoelfogjljaaGreatDoor
end

section
namespace Go.Proofs.YtcahoelfogjljaaGreatDoor
open Go Go.Eng
end Go.Proofs.YtcahoelfogjljaaGreatDoor
end

section
namespace Go.Proofs.YtcahoelfogjljaaGreatDoor
open Go Go.Eng
end Go.Proofs.YtcahoelfogjljaaGreatDoor
end

section
namespace Go.Proofs.YtcahoelfogjljaaGreatDoor
open Go Go.Eng
theorem errOf_val {l:List Nd} (h:zaz l=0):∃ d,vl l 0=some (l.length,d)∧l.length≤120∧zbY l=false:=by
 rw [zaz] at h
 split at h
 ·cases h
 ·rename_i h1
  cases hv:vl l 0 with
  | none=>rw [hv] at h;cases h
  | some r =>
   obtain⟨r1,d⟩:=r
   rw [hv] at h
   dsimp only at h
   split at h
   ·rename_i h2
    subst h2
    refine⟨d,rfl,by omega,?_⟩
    cases ha:zbY l with
    | false=>rfl
    | true=>exact absurd (.inr ha) h1
   ·cases h
abbrev enc (l:List Nd):List UInt8:=encF l.length l 0
def numsI (l:List Nd):Prop:=∀ m∈l,inI m.num
end Go.Proofs.YtcahoelfogjljaaGreatDoor
end

