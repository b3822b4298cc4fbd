/-
  What is read; texts in a row. No condition.
-/
import Derived.Test.YtcahoelfogjljaaGreatDoorTerC
set_option linter.unusedSimpArgs false
set_option linter.unusedVariables false
set_option linter.unusedSectionVars false
section
namespace Go.Proofs.YtcahoelfogjljaaGreatDoor
open Go Go.Eng
end Go.Proofs.YtcahoelfogjljaaGreatDoor
end

section
namespace Go.Proofs.YtcahoelfogjljaaGreatDoor
open Go Go.Eng
def incK (l:List Nd) (a:Nat):List Nd:=l.set a ⟨(l.getD a n0d).kind,(l.getD a n0d).num,(l.getD a n0d).text,(l.getD a n0d).kids+1⟩
end Go.Proofs.YtcahoelfogjljaaGreatDoor
end

section
namespace Go.Proofs.YtcahoelfogjljaaGreatDoor
open Go Go.Eng
end Go.Proofs.YtcahoelfogjljaaGreatDoor
end

section
namespace Go.Proofs.YtcahoelfogjljaaGreatDoor
open Go Go.Eng
end Go.Proofs.YtcahoelfogjljaaGreatDoor
end

section
namespace Go.Proofs.YtcahoelfogjljaaGreatDoor
open Go Go.Eng
structure RS where
 p:Nat
 l:List Nd
 o:List (Nat × List UInt8)
def beginR (s:List UInt8) (x:RS):Option RS:=match nodR s x.p with
 | none=>none
 | some (n,e)=>if n.kind=4∨n.kind=5 then some ⟨e,x.l++[n],x.o++[(x.l.length,[])]⟩ else some ⟨e,x.l++[n],x.o⟩
def kidR (s:List UInt8) (x:RS) (a:Nat) (last:List UInt8):Option RS :=
 if s.length≤x.p then none
 else if s.getD x.p 0=0 then some ⟨x.p+1,x.l,x.o.dropLast⟩
 else if (x.l.getD a n0d).kind=5 then
  if s.getD x.p 0=1 then match rdT (s.drop (x.p+1)) with
   | none=>none
   | some (t,n)=>if 0 < (x.l.getD a n0d).kids∧leB t last=true then none
    else beginR s ⟨x.p+1+n,incK (x.l++[⟨3,0,t,0⟩]) a,x.o.dropLast++[(a,t)]⟩
  else none
 else beginR s ⟨x.p,incK x.l a,x.o⟩
end Go.Proofs.YtcahoelfogjljaaGreatDoor
end

section
namespace Go.Proofs.YtcahoelfogjljaaGreatDoor
open Go Go.Eng
end Go.Proofs.YtcahoelfogjljaaGreatDoor
end

section
namespace Go.Proofs.YtcahoelfogjljaaGreatDoor
open Go Go.Eng
structure InvR (s:List UInt8) (x:RS):Prop where
 hp:x.p≤s.length
 hl:x.l.length≤x.p
 ho:∀ q∈x.o,q.1 < x.l.length∧0≤(x.l.getD q.1 n0d).kids∧(x.l.getD q.1 n0d).kids≤x.p
def runR (s:List UInt8):Nat→RS→Option RS
 | 0,x=>if x.o=[] then some x else none
 | f+1,x=>match x.o.getLast? with
  | none=>some x
  | some (a,last)=>(kidR s x a last).bind (runR s f)
end Go.Proofs.YtcahoelfogjljaaGreatDoor
end

section
namespace Go.Proofs.YtcahoelfogjljaaGreatDoor
open Go Go.Eng
end Go.Proofs.YtcahoelfogjljaaGreatDoor
end

section
namespace Go.Proofs.YtcahoelfogjljaaGreatDoor
open Go Go.Eng
end Go.Proofs.YtcahoelfogjljaaGreatDoor
end

section
namespace Go.Proofs.YtcahoelfogjljaaGreatDoor
open Go Go.Eng
def slS (l:List (List UInt8)):AV:=.sl (l.map str) l.length
theorem ren_slS (q:List Nat) (l:List (List UInt8)):(slS l).ren q=some (slS l):=by simp [slS,AV.ren,zas str zah]
end Go.Proofs.YtcahoelfogjljaaGreatDoor
end

section
namespace Go.Proofs.YtcahoelfogjljaaGreatDoor
open Go Go.Eng
theorem joinL_cons (s:List UInt8) (l:List (List UInt8)):zbJ (s::l)=zbh 3::(escT s++zbJ l):=by
 simp [zbJ]
end Go.Proofs.YtcahoelfogjljaaGreatDoor
end

section
namespace Go.Proofs.YtcahoelfogjljaaGreatDoor
open Go Go.Eng
end Go.Proofs.YtcahoelfogjljaaGreatDoor
end

