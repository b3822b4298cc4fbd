/-
  The document's example, the law's walk, what comes in, and what the listed variables hold. No condition.
-/
import Derived.Test.YtamcppdhkeiaiaaGreatDoorPatH
import Derived.WalkKit
import Derived.ProofKit
import Derived.OpenShut
import Derived.ShutString
import Derived.SliceStrings
import Derived.LaidMore
import Derived.Lay
import Derived.LaidHandle
import Derived.Stop.LaidErr
import Derived.Lib.LaidTab
import Derived.Stop.Joined
import Derived.HandedShaped
import Derived.Shelf.Strings.Shaped
set_option linter.unusedSimpArgs false
set_option linter.unusedVariables false
set_option linter.unusedSectionVars false
section
namespace Go.Proofs.YtamcppdhkeiaiaaGreatDoor
open Go Go.Eng
def c11a:List UInt8:=[123,34,97,34,58,91,123,34,98,34,58,49,125,44,123,34,98,34,58,50,125,93,125]
def c11b:List UInt8:=[123,34,97,34,58,91,50,93,125]
def s11a:List UInt8:=[97,91,49,93,46,98]
def s11b:List UInt8:=[97,46,98]
def s11c:List UInt8:=[97,91,48,93]
def s11d:List UInt8:=[97,91,49,93]
def s11e:List UInt8:=[97,91,50,93]
def s11f:List UInt8:=[97,46,46,98]
def v11:List Nd:=[⟨5,0,[],1⟩,⟨3,0,[97],0⟩,⟨4,0,[],2⟩,⟨5,0,[],1⟩,⟨3,0,[98],0⟩,⟨2,1,[],0⟩,⟨5,0,[],1⟩,⟨3,0,[98],0⟩,⟨2,2,[],0⟩]
def x11:List Nd:=[⟨2,2,[],0⟩]
def y11:List Nd:=[⟨5,0,[],1⟩,⟨3,0,[97],0⟩,⟨4,0,[],2⟩,⟨2,2,[],0⟩,⟨5,0,[],1⟩,⟨3,0,[98],0⟩,⟨2,2,[],0⟩]
def w11:List Nd:=[⟨5,0,[],1⟩,⟨3,0,[97],0⟩,⟨4,0,[],1⟩,⟨2,2,[],0⟩]
def l11:List Pt:=[⟨[97],-1⟩,⟨[],1⟩,⟨[98],-1⟩]
theorem p11a:parR c11a=(v11,23,0):=by decide +kernel
theorem p11b:parR c11b=(w11,9,0):=by decide +kernel
theorem q11a:zbV s11a=(l11,0):=by decide +kernel
theorem g11a:getR v11 s11a=(x11,0):=by decide +kernel
theorem g11b:eachR v11 s11b=([[⟨2,1,[],0⟩],[⟨2,2,[],0⟩]],0):=by decide +kernel
theorem g11c:setR v11 s11c x11=(y11,0):=by decide +kernel
theorem g11d:delR y11 s11d=(w11,0):=by decide +kernel
theorem g11e:getR v11 s11e=([],6):=by decide +kernel
theorem g11f:getR v11 s11f=([],9):=by decide +kernel
theorem b11:∀ k,k≤(za0 v11 s11b).1.length→(zc6 v11 ((za0 v11 s11b).1.take k)).length≤1000:=by decide +kernel
theorem a11a:parA c11a=.tup [slN v11,i64 23,i64 0]:=by
 rw [parA,p11a]
 rfl
theorem a11b:parA c11b=.tup [slN w11,i64 9,i64 0]:=by
 rw [parA,p11b]
 rfl
theorem works11_ok:ACalls Tryz.prog 6 [] [] (fun y _=>y=.ret (bl true)):=by
 have hp1:=Parse_ok c11a 20 (by decide) sort20 (by decide)
 have hp2:=Parse_ok c11b 20 (by decide) sort20 (by decide)
 rw [a11a] at hp1
 rw [a11b] at hp2
 have hg1:=PGet_ok v11 s11a (by decide) (by decide)
 rw [g11a] at hg1
 have he1:=PEach_ok v11 s11b (by decide) (by decide) b11
 rw [g11b] at he1
 have hs1:=PSet_ok v11 x11 s11c (by decide) (by decide) (by decide)
 rw [g11c] at hs1
 have hd1:=PDel_ok y11 s11d (by decide) (by decide)
 rw [g11d] at hd1
 have hg2:=PGet_ok v11 s11e (by decide) (by decide)
 rw [g11e] at hg2
 have hg3:=PGet_ok v11 s11f (by decide) (by decide)
 rw [g11f] at hg3
 have hP:=zdQ s11a (by decide)
 rw [q11a] at hP
 have hS:=zho l11 (by decide) (fun x hx=>by
  simp only [l11,List.mem_cons,List.not_mem_nil,or_false] at hx
  rcases hx with rfl | rfl | rfl <;> exact⟨by unfold inI;decide,by decide⟩)
 rw [zi9 q11a] at hS
 have hSa:=Same_ok w11 w11 (by decide)
 unfold slN at hp1 hp2 hg1 hs1 hd1 hg2 hg3
 refine ACalls.body T_ok Tryz.func6 (by kernel_rfl) rfl Tryz.ntmps6 (congrArg Array.toList Tryz.results6) ?_
 unfold c11a at hp1
 unfold c11b at hp2
 unfold s11a at hg1 hP hS
 unfold s11b at he1
 unfold s11c at hs1
 unfold s11d at hd1
 unfold s11e at hg2
 unfold s11f at hg3
 try simp -implicitDefEqProofs only [LM4,eq_self,zaa,zab,Nat.zero_mul,lzS,TB,SB,Int.reduceToNat,Nat.reduceAdd,Nat.reduceEqDiff,Nat.reduceLT,Nat.reduceMod,Nat.reducePow,Nat.reduceSub,if_true,reduceIte]
 refine hp1.pure (by simp [renL,AV.ren,zat,zaR,zai]) ?_
 rintro _ σ rfl
 refine⟨by simp [AEnd.noid,AV.ren,renL,zat,zco,zbs,zaT,zag,zai],?_⟩
 try simp -implicitDefEqProofs only [LM4,eq_self,zaa,zab,Nat.zero_mul,lzS,TB,SB,Int.reduceToNat,Nat.reduceAdd,Nat.reduceEqDiff,Nat.reduceLT,Nat.reduceMod,Nat.reducePow,Nat.reduceSub,if_true,reduceIte]
 refine hg1.pure (by simp [renL,AV.ren,zat,zaR,zai]) ?_
 rintro _ σ rfl
 refine⟨by simp [AEnd.noid,AV.ren,renL,zat,zco,zbs,zaT,zag,zai],?_⟩
 try simp -implicitDefEqProofs only [LM4,eq_self,zaa,zab,Nat.zero_mul,lzS,TB,SB,Int.reduceToNat,Nat.reduceAdd,Nat.reduceEqDiff,Nat.reduceLT,Nat.reduceMod,Nat.reducePow,Nat.reduceSub,if_true,reduceIte]
 refine he1.pure (by simp [renL,AV.ren,zat,zaR,zai]) ?_
 rintro _ σ rfl
 refine⟨by simp [AEnd.noid,AV.ren,renL,zat,zco,zbs,zaT,zag,zai],?_⟩
 try simp -implicitDefEqProofs only [LM4,eq_self,zaa,zab,Nat.zero_mul,lzS,TB,SB,Int.reduceToNat,Nat.reduceAdd,Nat.reduceEqDiff,Nat.reduceLT,Nat.reduceMod,Nat.reducePow,Nat.reduceSub,if_true,reduceIte]
 refine hs1.pure (by simp [renL,AV.ren,zat,zaR,zai]) ?_
 rintro _ σ rfl
 refine⟨by simp [AEnd.noid,AV.ren,renL,zat,zco,zbs,zaT,zag,zai],?_⟩
 try simp -implicitDefEqProofs only [LM4,eq_self,zaa,zab,Nat.zero_mul,lzS,TB,SB,Int.reduceToNat,Nat.reduceAdd,Nat.reduceEqDiff,Nat.reduceLT,Nat.reduceMod,Nat.reducePow,Nat.reduceSub,if_true,reduceIte]
 refine hd1.pure (by simp [renL,AV.ren,zat,zaR,zai]) ?_
 rintro _ σ rfl
 refine⟨by simp [AEnd.noid,AV.ren,renL,zat,zco,zbs,zaT,zag,zai],?_⟩
 try simp -implicitDefEqProofs only [LM4,eq_self,zaa,zab,Nat.zero_mul,lzS,TB,SB,Int.reduceToNat,Nat.reduceAdd,Nat.reduceEqDiff,Nat.reduceLT,Nat.reduceMod,Nat.reducePow,Nat.reduceSub,if_true,reduceIte]
 refine hg2.pure (by simp [renL,AV.ren,zat,zaR,zai]) ?_
 rintro _ σ rfl
 refine⟨by simp [AEnd.noid,AV.ren,renL,zat,zco,zbs,zaT,zag,zai],?_⟩
 try simp -implicitDefEqProofs only [LM4,eq_self,zaa,zab,Nat.zero_mul,lzS,TB,SB,Int.reduceToNat,Nat.reduceAdd,Nat.reduceEqDiff,Nat.reduceLT,Nat.reduceMod,Nat.reducePow,Nat.reduceSub,if_true,reduceIte]
 refine hg3.pure (by simp [renL,AV.ren,zat,zaR,zai]) ?_
 rintro _ σ rfl
 refine⟨by simp [AEnd.noid,AV.ren,renL,zat,zco,zbs,zaT,zag,zai],?_⟩
 try simp -implicitDefEqProofs only [LM4,eq_self,zaa,zab,Nat.zero_mul,lzS,TB,SB,Int.reduceToNat,Nat.reduceAdd,Nat.reduceEqDiff,Nat.reduceLT,Nat.reduceMod,Nat.reducePow,Nat.reduceSub,if_true,reduceIte]
 refine hp2.pure (by simp [renL,AV.ren,zat,zaR,zai]) ?_
 rintro _ σ rfl
 refine⟨by simp [AEnd.noid,AV.ren,renL,zat,zco,zbs,zaT,zag,zai],?_⟩
 try simp -implicitDefEqProofs only [LM4,eq_self,zaa,zab,Nat.zero_mul,lzS,TB,SB,Int.reduceToNat,Nat.reduceAdd,Nat.reduceEqDiff,Nat.reduceLT,Nat.reduceMod,Nat.reducePow,Nat.reduceSub,if_true,reduceIte]
 refine hP.pure (by simp [renL,AV.ren,zat,zaR,zai]) ?_
 rintro _ σ rfl
 refine⟨by simp [AEnd.noid,AV.ren,renL,zat,zco,zbs,zaT,zag,zai],?_⟩
 try simp -implicitDefEqProofs only [LM4,eq_self,zaa,zab,Nat.zero_mul,lzS,TB,SB,Int.reduceToNat,Nat.reduceAdd,Nat.reduceEqDiff,Nat.reduceLT,Nat.reduceMod,Nat.reducePow,Nat.reduceSub,if_true,reduceIte]
 refine hS.pure (by simp [renL,AV.ren,zat,zaR,zai]) ?_
 rintro _ σ rfl
 refine⟨by simp [AEnd.noid,AV.ren,renL,zat,zco,zbs,zaT,zag,zai],?_⟩
 try simp -implicitDefEqProofs only [LM4,eq_self,zaa,zab,Nat.zero_mul,lzS,TB,SB,Int.reduceToNat,Nat.reduceAdd,Nat.reduceEqDiff,Nat.reduceLT,Nat.reduceMod,Nat.reducePow,Nat.reduceSub,if_true,reduceIte]
 rw [show decide ((x11.length:Int)=1)=true by decide]
 try simp -implicitDefEqProofs only [LM4,eq_self,zaa,zab,Nat.zero_mul,lzS,TB,SB,Int.reduceToNat,Nat.reduceAdd,Nat.reduceEqDiff,Nat.reduceLT,Nat.reduceMod,Nat.reducePow,Nat.reduceSub,if_true,reduceIte]
 refine⟨by decide,by decide,Nat.le_refl _,?_⟩
 rw [show (x11.flatMap nC).drop 1=[i64 2,str [],i64 0] from rfl]
 try simp -implicitDefEqProofs only [LM4,eq_self,zaa,zab,Nat.zero_mul,lzS,TB,SB,Int.reduceToNat,Nat.reduceAdd,Nat.reduceEqDiff,Nat.reduceLT,Nat.reduceMod,Nat.reducePow,Nat.reduceSub,if_true,reduceIte]
 rw [show decide (((2:Nat):Int)=2)=true by decide]
 try simp -implicitDefEqProofs only [LM4,eq_self,zaa,zab,Nat.zero_mul,lzS,TB,SB,Int.reduceToNat,Nat.reduceAdd,Nat.reduceEqDiff,Nat.reduceLT,Nat.reduceMod,Nat.reducePow,Nat.reduceSub,if_true,reduceIte]
 refine hSa.pure (by simp [renL,AV.ren,zat]) ?_
 rintro _ σ ⟨rfl,rfl⟩
 refine⟨zap _ _,?_⟩
 rw [decide_eq_true (rfl:w11=w11)]
 try simp -implicitDefEqProofs only [LM4,eq_self,zaa,zab,Nat.zero_mul,lzS,TB,SB,Int.reduceToNat,Nat.reduceAdd,Nat.reduceEqDiff,Nat.reduceLT,Nat.reduceMod,Nat.reducePow,Nat.reduceSub,if_true,reduceIte]
 rw [zfc]
 try simp -implicitDefEqProofs only [LM4,eq_self,zaa,zab,Nat.zero_mul,lzS,TB,SB,Int.reduceToNat,Nat.reduceAdd,Nat.reduceEqDiff,Nat.reduceLT,Nat.reduceMod,Nat.reducePow,Nat.reduceSub,if_true,reduceIte]
 rw [show decide ((l11.length:Int)=3)=true by decide]
 try simp -implicitDefEqProofs only [LM4,eq_self,zaa,zab,Nat.zero_mul,lzS,TB,SB,Int.reduceToNat,Nat.reduceAdd,Nat.reduceEqDiff,Nat.reduceLT,Nat.reduceMod,Nat.reducePow,Nat.reduceSub,if_true,reduceIte]
 exact zaS rfl
end Go.Proofs.YtamcppdhkeiaiaaGreatDoor
end

section
namespace Go.Proofs.YtamcppdhkeiaiaaGreatDoor
open Go Go.Eng
theorem key_le:∀ (l:List Pt) (f:Bool),(∀ x∈l,okP x=true)→∀ x∈l,x.key.length≤(shP f l).length
 | [],_,_,x,h=>by cases h
 | y::l,f,ho,x,h=>by
  rw [shP,List.length_append]
  rcases List.mem_cons.1 h with rfl | h
  ·have hx:=ho x (List.mem_cons_self ..)
   unfold okP at hx
   rw [Bool.or_eq_true] at hx
   rcases hx with hx | hx
   ·rw [Bool.and_eq_true] at hx
    rw [of_decide_eq_true hx.1]
    exact Nat.zero_le _
   ·rw [Bool.and_eq_true] at hx
    have hp:=of_decide_eq_true hx.1
    have:x.key.length≤(ptX f x).length:=by
     unfold ptX
     rw [if_neg (fun h=>h hp)]
     split
     ·exact Nat.le_refl _
     ·simp
    omega
  ·have:=key_le l false (fun z hz=>ho z (List.mem_cons_of_mem _ hz)) x h
   omega
theorem pathV_in (s:List UInt8):∀ x∈(zbV s).1,inI x.pos∧x.key.length≤100000:=by
 by_cases h:(zbV s).2=0
 ·have hp:zbV s=((zbV s).1,0):=Prod.ext rfl h
  obtain⟨g1,g2,g3⟩:=zc3 hp
  generalize (zbV s).1=l at g1 g2
  intro x hx
  have ho:=List.all_eq_true.1 g2
  refine⟨?_,?_⟩
  ·have hx:=ho x hx
   unfold okP at hx
   simp only [Bool.or_eq_true,Bool.and_eq_true,decide_eq_true_eq] at hx
   unfold inI
   rcases hx with ⟨_,h1⟩ | ⟨h1,_⟩ <;> omega
  ·have:=key_le l true ho x hx
   rw [← g1] at this
   omega
 ·rw [zix h]
  intro x hx
  cases hx
theorem few_in {l:List Pt} (hi:∀ x∈l,inI x.pos) (h:fewP l):∀ x∈l,inI x.pos∧x.key.length≤100000:=fun x hx=>⟨hi x hx,by have:=h.2 x hx;omega⟩
theorem PathBack_ok (s:List UInt8) (l:List Pt) (hl:l.length≤9223372036854775807) (hi:∀ x∈l,inI x.pos):ACalls Tryz.prog 4 [str s,.sl (l.flatMap ptC) l.length] [] (fun y _=>y=.ret (bl true)):=by
 refine ACalls.body T_ok Tryz.func4 (by kernel_rfl) rfl Tryz.ntmps4 (congrArg Array.toList Tryz.results4) ?_
 try simp -implicitDefEqProofs only [LM4,eq_self,zaa,zab,Nat.zero_mul,lzS,TB,SB,Int.reduceToNat,Nat.reduceAdd,Nat.reduceEqDiff,Nat.reduceLT,Nat.reduceMod,Nat.reducePow,Nat.reduceSub,if_true,reduceIte]
 refine works11_ok.pure rfl ?_
 rintro _ σ rfl
 refine⟨zap _ _,?_⟩
 try simp -implicitDefEqProofs only [LM4,eq_self,zaa,zab,Nat.zero_mul,lzS,TB,SB,Int.reduceToNat,Nat.reduceAdd,Nat.reduceEqDiff,Nat.reduceLT,Nat.reduceMod,Nat.reducePow,Nat.reduceSub,if_true,reduceIte]
 refine(fewP_ok l hl).pure (by simp [renL,AV.ren,zaR]) ?_
 rintro _ σ ⟨b,rfl,hb⟩
 refine⟨zap _ _,?_⟩
 cases b with
 | false =>
  try simp -implicitDefEqProofs only [LM4,eq_self,zaa,zab,Nat.zero_mul,lzS,TB,SB,Int.reduceToNat,Nat.reduceAdd,Nat.reduceEqDiff,Nat.reduceLT,Nat.reduceMod,Nat.reducePow,Nat.reduceSub,if_true,reduceIte]
  exact zaS rfl
 | true =>
  have hf:=hb rfl
  have hin:=few_in hi hf
  have hf1:=hf.1
  by_cases h140:140 < (s.length:Int)
  ·have d:=decide_eq_true h140
   try simp -implicitDefEqProofs only [LM4,eq_self,zaa,zab,Nat.zero_mul,lzS,d,TB,SB,Int.reduceToNat,Nat.reduceAdd,Nat.reduceEqDiff,Nat.reduceLT,Nat.reduceMod,Nat.reducePow,Nat.reduceSub,if_true,reduceIte]
   exact zaS rfl
  ·have d:=decide_eq_false h140
   have hs:s.length≤9223372036854775807:=by omega
   have hpl:=zff s
   have hpi:=pathV_in s
   try simp -implicitDefEqProofs only [LM4,eq_self,zaa,zab,Nat.zero_mul,lzS,d,TB,SB,Int.reduceToNat,Nat.reduceAdd,Nat.reduceEqDiff,Nat.reduceLT,Nat.reduceMod,Nat.reducePow,Nat.reduceSub,if_true,reduceIte]
   refine(zdQ s hs).pure (by simp [renL,zai]) ?_
   rintro _ σ rfl
   refine⟨by simp [AEnd.noid,AV.ren,renL,zaT,zag],?_⟩
   try simp -implicitDefEqProofs only [LM4,eq_self,zaa,zab,Nat.zero_mul,lzS,TB,SB,Int.reduceToNat,Nat.reduceAdd,Nat.reduceEqDiff,Nat.reduceLT,Nat.reduceMod,Nat.reducePow,Nat.reduceSub,if_true,reduceIte]
   refine(zho (zbV s).1 (by omega) hpi).pure (by simp [renL,AV.ren,zaR,zaT]) ?_
   rintro _ σ rfl
   refine⟨by simp [AEnd.noid,AV.ren,renL,zai,zag],?_⟩
   rw [zfc]
   by_cases he:(zbV s).2=0
   ·have hb1:=zi9 (s:=s) (l:=(zbV s).1) (Prod.ext rfl he)
    rw [hb1]
    have de:=decide_eq_true he
    try simp -implicitDefEqProofs only [LM4,eq_self,zaa,zab,Nat.zero_mul,lzS,de,TB,SB,Int.reduceToNat,Nat.reduceAdd,Nat.reduceEqDiff,Nat.reduceLT,Nat.reduceMod,Nat.reducePow,Nat.reduceSub,if_true,reduceIte]
    refine(zho l hl hin).pure (by simp [renL,AV.ren,zaR]) ?_
    rintro _ σ rfl
    refine⟨by simp [AEnd.noid,AV.ren,renL,zai,zag],?_⟩
    by_cases hq:zbV (shP true l)=(l,0)
    ·have hsh:ziw l=(shP true l,0):=by rw [zgr,if_pos hq]
     have hle:=(zc3 hq).2.2
     rw [hsh]
     try simp -implicitDefEqProofs only [LM4,eq_self,zaa,zab,Nat.zero_mul,lzS,TB,SB,Int.reduceToNat,Nat.reduceAdd,Nat.reduceEqDiff,Nat.reduceLT,Nat.reduceMod,Nat.reducePow,Nat.reduceSub,if_true,reduceIte]
     refine(zdQ (shP true l) (by omega)).pure (by simp [renL,zai]) ?_
     rintro _ σ rfl
     rw [hq]
     refine⟨by simp [AEnd.noid,AV.ren,renL,zaT,zag],?_⟩
     rw [zfc]
     try simp -implicitDefEqProofs only [LM4,eq_self,zaa,zab,Nat.zero_mul,lzS,TB,SB,Int.reduceToNat,Nat.reduceAdd,Nat.reduceEqDiff,Nat.reduceLT,Nat.reduceMod,Nat.reducePow,Nat.reduceSub,if_true,reduceIte]
     refine(zg5 l (by omega)).pure (by simp [renL,AV.ren,zaR]) ?_
     rintro _ σ rfl
     refine⟨zaT _ _,?_⟩
     try simp -implicitDefEqProofs only [LM4,eq_self,zaa,zab,Nat.zero_mul,lzS,TB,SB,Int.reduceToNat,Nat.reduceAdd,Nat.reduceEqDiff,Nat.reduceLT,Nat.reduceMod,Nat.reducePow,Nat.reduceSub,if_true,reduceIte]
     refine(zg5 l (by omega)).pure (by simp [renL,AV.ren,zaR,zaT]) ?_
     rintro _ σ rfl
     refine⟨zaT _ _,?_⟩
     try simp -implicitDefEqProofs only [LM4,eq_self,zaa,zab,Nat.zero_mul,lzS,TB,SB,Int.reduceToNat,Nat.reduceAdd,Nat.reduceEqDiff,Nat.reduceLT,Nat.reduceMod,Nat.reducePow,Nat.reduceSub,if_true,reduceIte]
     refine(zfu l l (by omega)).pure (by simp [renL,AV.ren,zaR,zaT]) ?_
     rintro _ σ rfl
     refine⟨zap _ _,?_⟩
     rw [decide_eq_true (rfl:l=l)]
     try simp -implicitDefEqProofs only [LM4,eq_self,zaa,zab,Nat.zero_mul,lzS,TB,SB,Int.reduceToNat,Nat.reduceAdd,Nat.reduceEqDiff,Nat.reduceLT,Nat.reduceMod,Nat.reducePow,Nat.reduceSub,if_true,reduceIte]
     exact zaS rfl
    ·have hsh:ziw l=([],9):=by rw [zgr,if_neg hq]
     have hle:=zff []
     rw [hsh]
     try simp -implicitDefEqProofs only [LM4,eq_self,zaa,zab,Nat.zero_mul,lzS,TB,SB,Int.reduceToNat,Nat.reduceAdd,Nat.reduceEqDiff,Nat.reduceLT,Nat.reduceMod,Nat.reducePow,Nat.reduceSub,if_true,reduceIte]
     refine(zdQ [] (by decide)).pure (by simp [renL,zai]) ?_
     rintro _ σ rfl
     refine⟨by simp [AEnd.noid,AV.ren,renL,zaT,zag],?_⟩
     rw [zfc]
     try simp -implicitDefEqProofs only [LM4,eq_self,zaa,zab,Nat.zero_mul,lzS,TB,SB,Int.reduceToNat,Nat.reduceAdd,Nat.reduceEqDiff,Nat.reduceLT,Nat.reduceMod,Nat.reducePow,Nat.reduceSub,if_true,reduceIte]
     refine(zg5 (zbV []).1 (by omega)).pure (by simp [renL,AV.ren,zaR]) ?_
     rintro _ σ rfl
     refine⟨zaT _ _,?_⟩
     try simp -implicitDefEqProofs only [LM4,eq_self,zaa,zab,Nat.zero_mul,lzS,TB,SB,Int.reduceToNat,Nat.reduceAdd,Nat.reduceEqDiff,Nat.reduceLT,Nat.reduceMod,Nat.reducePow,Nat.reduceSub,if_true,reduceIte]
     refine(zg5 l (by omega)).pure (by simp [renL,AV.ren,zaR,zaT]) ?_
     rintro _ σ rfl
     refine⟨zaT _ _,?_⟩
     try simp -implicitDefEqProofs only [LM4,eq_self,zaa,zab,Nat.zero_mul,lzS,TB,SB,Int.reduceToNat,Nat.reduceAdd,Nat.reduceEqDiff,Nat.reduceLT,Nat.reduceMod,Nat.reducePow,Nat.reduceSub,if_true,reduceIte]
     refine(zfu (zbV []).1 l (by omega)).pure (by simp [renL,AV.ren,zaR,zaT]) ?_
     rintro _ σ rfl
     refine⟨zap _ _,?_⟩
     try simp -implicitDefEqProofs only [LM4,eq_self,zaa,zab,Nat.zero_mul,lzS,TB,SB,Int.reduceToNat,Nat.reduceAdd,Nat.reduceEqDiff,Nat.reduceLT,Nat.reduceMod,Nat.reducePow,Nat.reduceSub,if_true,reduceIte]
     rw [show (!decide ((9:Int)=0))=true from rfl]
     try simp -implicitDefEqProofs only [LM4,eq_self,zaa,zab,Nat.zero_mul,lzS,TB,SB,Int.reduceToNat,Nat.reduceAdd,Nat.reduceEqDiff,Nat.reduceLT,Nat.reduceMod,Nat.reducePow,Nat.reduceSub,if_true,reduceIte]
     exact zaS rfl
   ·have de:=decide_eq_false he
    rw [zix he]
    try simp -implicitDefEqProofs only [LM4,eq_self,zaa,zab,Nat.zero_mul,lzS,TB,SB,Int.reduceToNat,Nat.reduceAdd,Nat.reduceEqDiff,Nat.reduceLT,Nat.reduceMod,Nat.reducePow,Nat.reduceSub,if_true,reduceIte]
    rw [show decide ((9:Int)=0)=false from rfl]
    try simp -implicitDefEqProofs only [LM4,eq_self,zaa,zab,Nat.zero_mul,lzS,TB,SB,Int.reduceToNat,Nat.reduceAdd,Nat.reduceEqDiff,Nat.reduceLT,Nat.reduceMod,Nat.reducePow,Nat.reduceSub,if_true,reduceIte]
    rw [show (!decide ((9:Int)=0))=true from rfl]
    try simp -implicitDefEqProofs only [LM4,eq_self,zaa,zab,Nat.zero_mul,lzS,TB,SB,Int.reduceToNat,Nat.reduceAdd,Nat.reduceEqDiff,Nat.reduceLT,Nat.reduceMod,Nat.reducePow,Nat.reduceSub,if_true,reduceIte]
    refine⟨fun h=>absurd h (by decide),fun _=>?_⟩
    refine(zho l hl hin).pure (by simp [renL,AV.ren,zaR]) ?_
    rintro _ σ rfl
    refine⟨by simp [AEnd.noid,AV.ren,renL,zai,zag],?_⟩
    by_cases hq:zbV (shP true l)=(l,0)
    ·have hsh:ziw l=(shP true l,0):=by rw [zgr,if_pos hq]
     have hle:=(zc3 hq).2.2
     rw [hsh]
     try simp -implicitDefEqProofs only [LM4,eq_self,zaa,zab,Nat.zero_mul,lzS,TB,SB,Int.reduceToNat,Nat.reduceAdd,Nat.reduceEqDiff,Nat.reduceLT,Nat.reduceMod,Nat.reducePow,Nat.reduceSub,if_true,reduceIte]
     refine(zdQ (shP true l) (by omega)).pure (by simp [renL,zai]) ?_
     rintro _ σ rfl
     rw [hq]
     refine⟨by simp [AEnd.noid,AV.ren,renL,zaT,zag],?_⟩
     rw [zfc]
     try simp -implicitDefEqProofs only [LM4,eq_self,zaa,zab,Nat.zero_mul,lzS,TB,SB,Int.reduceToNat,Nat.reduceAdd,Nat.reduceEqDiff,Nat.reduceLT,Nat.reduceMod,Nat.reducePow,Nat.reduceSub,if_true,reduceIte]
     refine(zg5 l (by omega)).pure (by simp [renL,AV.ren,zaR]) ?_
     rintro _ σ rfl
     refine⟨zaT _ _,?_⟩
     try simp -implicitDefEqProofs only [LM4,eq_self,zaa,zab,Nat.zero_mul,lzS,TB,SB,Int.reduceToNat,Nat.reduceAdd,Nat.reduceEqDiff,Nat.reduceLT,Nat.reduceMod,Nat.reducePow,Nat.reduceSub,if_true,reduceIte]
     refine(zg5 l (by omega)).pure (by simp [renL,AV.ren,zaR,zaT]) ?_
     rintro _ σ rfl
     refine⟨zaT _ _,?_⟩
     try simp -implicitDefEqProofs only [LM4,eq_self,zaa,zab,Nat.zero_mul,lzS,TB,SB,Int.reduceToNat,Nat.reduceAdd,Nat.reduceEqDiff,Nat.reduceLT,Nat.reduceMod,Nat.reducePow,Nat.reduceSub,if_true,reduceIte]
     refine(zfu l l (by omega)).pure (by simp [renL,AV.ren,zaR,zaT]) ?_
     rintro _ σ rfl
     refine⟨zap _ _,?_⟩
     rw [decide_eq_true (rfl:l=l)]
     try simp -implicitDefEqProofs only [LM4,eq_self,zaa,zab,Nat.zero_mul,lzS,TB,SB,Int.reduceToNat,Nat.reduceAdd,Nat.reduceEqDiff,Nat.reduceLT,Nat.reduceMod,Nat.reducePow,Nat.reduceSub,if_true,reduceIte]
     exact zaS rfl
    ·have hsh:ziw l=([],9):=by rw [zgr,if_neg hq]
     have hle:=zff []
     rw [hsh]
     try simp -implicitDefEqProofs only [LM4,eq_self,zaa,zab,Nat.zero_mul,lzS,TB,SB,Int.reduceToNat,Nat.reduceAdd,Nat.reduceEqDiff,Nat.reduceLT,Nat.reduceMod,Nat.reducePow,Nat.reduceSub,if_true,reduceIte]
     refine(zdQ [] (by decide)).pure (by simp [renL,zai]) ?_
     rintro _ σ rfl
     refine⟨by simp [AEnd.noid,AV.ren,renL,zaT,zag],?_⟩
     rw [zfc]
     try simp -implicitDefEqProofs only [LM4,eq_self,zaa,zab,Nat.zero_mul,lzS,TB,SB,Int.reduceToNat,Nat.reduceAdd,Nat.reduceEqDiff,Nat.reduceLT,Nat.reduceMod,Nat.reducePow,Nat.reduceSub,if_true,reduceIte]
     refine(zg5 (zbV []).1 (by omega)).pure (by simp [renL,AV.ren,zaR]) ?_
     rintro _ σ rfl
     refine⟨zaT _ _,?_⟩
     try simp -implicitDefEqProofs only [LM4,eq_self,zaa,zab,Nat.zero_mul,lzS,TB,SB,Int.reduceToNat,Nat.reduceAdd,Nat.reduceEqDiff,Nat.reduceLT,Nat.reduceMod,Nat.reducePow,Nat.reduceSub,if_true,reduceIte]
     refine(zg5 l (by omega)).pure (by simp [renL,AV.ren,zaR,zaT]) ?_
     rintro _ σ rfl
     refine⟨zaT _ _,?_⟩
     try simp -implicitDefEqProofs only [LM4,eq_self,zaa,zab,Nat.zero_mul,lzS,TB,SB,Int.reduceToNat,Nat.reduceAdd,Nat.reduceEqDiff,Nat.reduceLT,Nat.reduceMod,Nat.reducePow,Nat.reduceSub,if_true,reduceIte]
     refine(zfu (zbV []).1 l (by omega)).pure (by simp [renL,AV.ren,zaR,zaT]) ?_
     rintro _ σ rfl
     refine⟨zap _ _,?_⟩
     try simp -implicitDefEqProofs only [LM4,eq_self,zaa,zab,Nat.zero_mul,lzS,TB,SB,Int.reduceToNat,Nat.reduceAdd,Nat.reduceEqDiff,Nat.reduceLT,Nat.reduceMod,Nat.reducePow,Nat.reduceSub,if_true,reduceIte]
     rw [show (!decide ((9:Int)=0))=true from rfl]
     try simp -implicitDefEqProofs only [LM4,eq_self,zaa,zab,Nat.zero_mul,lzS,TB,SB,Int.reduceToNat,Nat.reduceAdd,Nat.reduceEqDiff,Nat.reduceLT,Nat.reduceMod,Nat.reducePow,Nat.reduceSub,if_true,reduceIte]
     exact zaS rfl
end Go.Proofs.YtamcppdhkeiaiaaGreatDoor
end

section
namespace Go.Proofs.YtamcppdhkeiaiaaGreatDoor
open Go Go.Eng
theorem two {cs:List Value} (h:cs.length=2):∃ a b,cs=[a,b]:=by
 match cs,h with
 | [a,b],_=>exact⟨a,b,rfl⟩
theorem no_own (b:Nat):¬ own (fun _=>False) [] [] b:=by
 rintro(hb | ⟨i,cs,hi,_⟩)
 ·exact hb
 ·simp at hi
def IsPts (w:World) (v:Value):Prop:=∃ (ad:Option Addr) (len cap:Nat) (l:List Pt),v=.slice ad len cap∧len≤cap∧cap≤maxLen∧l.length=len∧(∀ n,n∈l→inI n.pos)∧(len=0∨∃ b off,ad=some ⟨b,off,none⟩∧b < w.heap.size∧zaW w (own (fun _=>False) [] []) [] b (l.flatMap ptC) off)
theorem rep_pts {w:World} {v:Value} (h:IsPts w v):∃ l:List Pt,l.length≤maxLen∧(∀ n,n∈l→inI n.pos)∧rep w (own (fun _=>False) [] []) [] (slP l) v:=by
 obtain⟨ad,len,cap,l,rfl,h1,h2,h3,h4,h5⟩:=h
 refine⟨l,by omega,h4,?_⟩
 simp only [slP,rep]
 rw [h3]
 refine⟨ad,cap,rfl,h1,h2,?_⟩
 rcases h5 with h5 | ⟨b,off,rfl,hb,hat⟩
 ·refine .inl ?_
  have:l=[]:=by rw [h5] at h3;exact List.eq_nil_of_length_eq_zero h3
  subst this
  rfl
 ·exact .inr ⟨b,off,rfl,no_own b,hb,hat⟩
theorem repAt_app {w:World} {O:Nat→Prop} {m:Ids} {b:Nat}:∀ (l r:List AV) (off:Nat),zaW w O m b l off→zaW w O m b r (off+l.length)→zaW w O m b (l++r) off
 | [],r,off,_,h=>by simpa using h
 | a::l,r,off,h,g=>by
  simp only [List.cons_append,zaW] at h ⊢
  exact⟨h.1,repAt_app l r (off+1) h.2 (by rwa [List.length_cons,show off+(l.length+1)=off+1+l.length by omega] at g)⟩
theorem add_none (b off n:Nat):(⟨b,off,none⟩:Addr).add n=⟨b,off+n,none⟩:=by
 by_cases h:n=0
 ·subst h
  simp [Addr.add]
 ·simp [Addr.add,h]
theorem rep_row2 {w:World} {O:Nat→Prop} {m:Ids} {b off:Nat}:∀ (n:Nat),(∀ i,i < n→∃ a:Pt,inI a.pos∧zaW w O m b (ptC a) (off+i * 2))→∃ l:List Pt,l.length=n∧(∀ n,n∈l→inI n.pos)∧zaW w O m b (l.flatMap ptC) off
 | 0,_=>⟨[],rfl,by simp,by simp [zaW]⟩
 | n+1,h=>by
  obtain⟨l,h1,h2,h3⟩:=rep_row2 n fun i hi=>h i (by omega)
  obtain⟨a,h4,h5⟩:=h n (by omega)
  refine⟨l++[a],by simp [h1],fun x hx=>?_,?_⟩
  ·rcases List.mem_append.1 hx with hx | hx
   ·exact h2 x hx
   ·rw [List.mem_singleton.1 hx]
    exact h4
  rw [List.flatMap_append]
  refine repAt_app _ _ _ h3 ?_
  rw [ptF.flen,h1,List.flatMap_cons,List.flatMap_nil,List.append_nil]
  exact h5
section
open Go.ChangeShapes Go.WideShapes Go.ChangeAt Go.RowKit
variable {H : Type} {enc : TypeId × Value → H} {P : Program} {w : World} {base : Nat} {sp : Nat → Bool} {held : Bool}
theorem open_pts {r:Reach} {b0:Nat} {t0 t ts ti:TypeId} {f0 f1:Field} {v:Value} {d:DataW H} {ps:List MemPlace} (ht0:P.underlying t0=some (.slice t)) (ht:P.underlying t=some (.struct #[f0,f1])) (h0:f0.type=ts∧f0.offset=0) (h1:f1.type=ti∧f1.offset=1)
  (hts:P.underlying ts=some .string) (hti:P.underlying ti=some (.int .i64)) (c0:P.cellsOf ts=1) (c1:P.cellsOf ti=1) (c4:P.cellsOf t=2)
  (hval:Value.okWide P w r b0 t0 v) (hd:DataW.Trod enc P w base (fun _=>true) held t0 v d ps):IsPts w v:=by
 obtain⟨a,len,cap,rfl⟩:=okWide_slice ht0 hval
 obtain⟨fuel,hf⟩:=hd
 rcases DataW.trod_slice ht0 hf with ⟨hcs,_⟩ | ⟨x,l,c,elems,rest,n,_,hcs,_,_,hl,hm,hlen,hel,_,_⟩
 ·simp [Value.cells] at hcs
  obtain⟨rfl,rfl,rfl⟩:=hcs
  exact⟨none,0,0,[],rfl,Nat.le_refl _,by simp [maxLen],rfl,by simp,.inl rfl⟩
 ·simp [Value.cells] at hcs
  obtain⟨rfl,rfl,rfl⟩:=hcs
  by_cases hz:len=0
  ·exact⟨_,len,cap,[],rfl,hl,hm,hz.symm,by simp,.inl hz⟩
  rw [c4] at hel
  have each:∀ i,i < len→∃ y:Pt,∃ v0 v1,inI y.pos∧w.cell? ((x.add (i * 2)).add 0)=some v0∧w.cell? ((x.add (i * 2)).add 1)=some v1∧rep w (own (fun _=>False) [] []) [] (str y.key) v0∧rep w (own (fun _=>False) [] []) [] (i64 y.pos) v1:=by
   intro i hi
   have hi':=hel i hi
   rw [List.getElem?_eq_getElem (by omega),Option.bind_eq_some_iff] at hi'
   obtain⟨cs,hcs,hy⟩:=hi'
   obtain⟨xs,m,_,_,hcl,hxl,hx⟩:=DataW.trod_struct ht hy
   rw [c4] at hcl
   obtain⟨v0,v1,rfl⟩:=two hcl
   have g0:=hx 0 f0 rfl
   have g1:=hx 1 f1 rfl
   rw [h0.1,h0.2,c0] at g0
   rw [h1.1,h1.2,c1] at g1
   match xs,hxl with
   | [x0,x1],_ =>
    obtain⟨s,e0,_,w0⟩:=DataW.trod_string hts g0
    obtain⟨p,e1,_,w1⟩:=DataW.trod_int hti g1
    simp at e0 e1
    subst e0 e1
    obtain⟨_,_,hc⟩:=World.cells?_some hcs
    have hI:inI p:=by simp [Lit.wf,IntKind.min,IntKind.max,IntKind.signed,IntKind.bits] at w1;unfold inI;omega
    exact⟨⟨s.data.toList,p⟩,_,_,hI,hc 0 (by omega),hc 1 (by omega),rep_str _,rep_i64 _⟩
  obtain⟨y,v0,_,_,hv0,_⟩:=each 0 (by omega)
  obtain⟨b,off,spot⟩:=x
  have hspot:spot=none:=by simpa [Addr.add] using World.cell?_spot hv0
  subst hspot
  obtain⟨l,hl1,hl2,hl3⟩:=rep_row2 (w:=w) (O:=own (fun _=>False) [] []) (m:=[]) (b:=b) (off:=off) len fun i hi=>by
   obtain⟨y,v0,v1,qI,q0,q1,r0,r1⟩:=each i hi
   rw [add_none,add_none] at q0 q1
   refine⟨y,qI,?_⟩
   simp only [ptC,zaW]
   exact⟨⟨_,q0,r0⟩,⟨_,q1,r1⟩,trivial⟩
  have hne:l.flatMap ptC≠[]:=by
   intro h
   have:=ptF.flen l
   rw [h,hl1] at this
   simp at this
   omega
  exact⟨_,len,cap,l,rfl,hl,hm,hl1,hl2,.inr ⟨b,off,rfl,zcm hl3 hne,hl3⟩⟩
end
end Go.Proofs.YtamcppdhkeiaiaaGreatDoor
end

section
namespace Go.Eng
open Go
theorem Glob.of_vars3 [Globs] {w:World} (h:∀ g cs,Globs.tab g=some cs→∃ (P:Program) (n:String),P.globalNamed n=some g∧w.var? P n=some cs.toArray) (hi:∀ g,g∈Globs.ints→∃ n:Int,w.cell? ⟨g,0,none⟩=some (.int .i64 n)) (he:∀ g,g∈Globs.errs→∃ (t:TypeId) (v:Value),w.cell? ⟨g,0,none⟩=some (.iface t v)):Glob w (Go.Eng.own (fun _=>False) [] []):=by
 have no:∀ g,¬ Go.Eng.own (fun _=>False) [] [] g:=by
  rintro g (hb | ⟨i,cs,hi,_⟩)
  ·exact hb
  ·simp at hi
 refine⟨fun g cs hg=>?_,fun g hg=>?_,fun g hg=>?_⟩
 ·obtain⟨P,n,h1,h2⟩:=h g cs hg
  have hb:∃ e f,w.heap[g]?=some (.cells cs.toArray e f):=by
   have h3:=h2
   simp only [World.var?,h1,Option.bind_some] at h3
   split at h3
   ·rename_i cs' e' f' e
    cases Option.some.inj h3
    exact⟨_,_,e⟩
   ·cases h3
  refine⟨no g,?_,hb,fun j v hv=>?_⟩
  ·obtain⟨_,_,e⟩:=hb
   rcases Nat.lt_or_ge g w.heap.size with hlt | hge
   ·exact hlt
   ·rw [Array.getElem?_eq_none hge] at e;cases e
  ·rw [World.var?_cell h1 h2 j,List.getElem?_toArray,hv]
 ·obtain⟨n,hn⟩:=hi g hg
  refine⟨no g,?_,n,hn⟩
  rcases Nat.lt_or_ge g w.heap.size with hlt | hge
  ·exact hlt
  ·simp [World.cell?,Array.getElem?_eq_none hge] at hn
 ·obtain⟨t,v,hn⟩:=he g hg
  refine⟨no g,?_,t,v,hn⟩
  rcases Nat.lt_or_ge g w.heap.size with hlt | hge
  ·exact hlt
  ·simp [World.cell?,Array.getElem?_eq_none hge] at hn
theorem wrap_and_shaped {H:Type} {enc:TypeId × Value→H} {a:Assume} {C:Checked} {os:Os} {f:FuncId} {fn:Func} {s:ChangeSpec} {conds:List PathCond} {apart fresh handsOn again:Bool} {X:World→Array Value→Prop}
  (hX:∀ (w w':World) (args:Array Value),w.heap=w'.heap→X w args→X w' args)
  (h1:ownKnob C.prog.godebug=none) (h2:os.Started) (h3:C.prog.inits.idxOf? f=none) (hfn:C.prog.funcs[f]?=some fn)
  (h4:∃ (w:World) (tape:Tape) (i:Input),w.os=os∧(w.forCall tape i).Shaped C.prog∧i.vars=[]∧Input.okWide C.prog (w.forCall tape i) .any w.heap.size f i ∧
   ((s.pre enc C.prog fn conds apart (w.forCall tape i).memory i.args∧X (w.forCall tape i).memory i.args)∧sizedMet enc C.prog fn (OpenSpec.ofChange s) apart (w.forCall tape i).memory i.args)∧a.holds C.prog (lone (Frame.enter C.prog f i.args .normal) [] (w.forCall tape i)))
  (h5:∀ (W:World) (base:Nat) (args:Array Value) (ds gs:List (DataW H)) (before:List MemPlace),
   (∀ (j:Nat) t v,fn.params[j]?=some t→args[j]?=some v→Value.okWide C.prog W .any base t v) →
   DataW.Whole enc C.prog fn.params.toList s.vars apart W args.toList ds gs before →
   conds.all (PathCond.test C.prog ⟨fn.params.toList,ds,s.plain.varTypes C.prog,gs⟩)=true →
   (DataW.weightsEach C.prog (fn.params.toList++s.plain.varTypes C.prog) (ds++gs)).all (·≤reachBytes)=true→X W args→W.ShapedOpen C.prog →
   a.holds C.prog (lone (Frame.enter C.prog f args .normal) [] W) →
   Calls C.prog f args W fun e W'=>∃ v,e=.returned v∧s.post enc C.prog fn apart fresh handsOn again W args v W') :
  ReturnsInHanded a C os f .any (fun w args=>(s.pre enc C.prog fn conds apart w args∧X w args)∧sizedMet enc C.prog fn (OpenSpec.ofChange s) apart w args) (s.post enc C.prog fn apart fresh handsOn again):=by
 refine returnsInHanded_of_calls h1 h2 h3 h4 ?_
 intro w tape i _ hsh _ hok hpre hh
 have hval:∀ (j:Nat) t v,fn.params[j]?=some t→i.args[j]?=some v→Value.okWide C.prog (w.forCall tape i) .any w.heap.size t v:=by
  obtain⟨_,_,_,fn',hfn',_,_,_,_,hv⟩:=hok
  cases Option.some.inj (hfn'.symm.trans hfn)
  exact hv
 obtain⟨⟨⟨ds,gs,bf,hw,hc⟩,hx⟩,hz⟩:=hpre
 have key:=h5 (w.forCall tape i) w.heap.size i.args ds gs bf hval (DataW.Whole.of_heap (w':=w.forCall tape i) (by rfl) hw) hc (hz.weights hw) (hX _ _ _ (by rfl) hx) hsh hh
 refine key.mono ?_
 rintro e W' ⟨v,rfl,hp⟩
 exact ChangeSpec.post_blind hp
end Go.Eng
namespace Go.Proofs.YtamcppdhkeiaiaaGreatDoor
open Go Go.Eng
def zko:List (String × DataW Unit):=Rows.pathStepsRow.laid
def nm (i : Nat) : String := (zko[i]?.map (·.1)).getD ""
def dt (i:Nat):DataW Unit:=(zko[i]?.map (·.2)).getD .nil
theorem ownK:ownKnob Tryz.prog.godebug=none:=by kernel_rfl
theorem laidOut:laidOutB Tryz.prog=true:=by kernel_rfl
theorem oneRow:((List.range Tryz.prog.types.size).filter fun t=>Tryz.prog.rowNamed t [101,114,114,111,114])=[65]:=by kernel_rfl
def plain5:List (String × DataW Unit):=[(nm 0,dt 0),(nm 1,dt 1),(nm 2,dt 2),(nm 4,dt 4),(nm 5,dt 5)]
theorem star : "*" ++ "errors.errorString" = "*errors.errorString" := by decide
theorem rowErr (u : TypeId) (h : Tryz.prog.typeName? 3 u = some "*errors.errorString") : u = 213 :=
 typeName_ptr_named (nm := "errors.errorString") (by rw [star]; kernel_rfl) (by kernel_rfl) (by decide) u (by rw [star]; exact h)
theorem gRange:Tryz.prog.globalNamed (nm 4)=some 3:=by kernel_rfl
theorem gSyntax:Tryz.prog.globalNamed (nm 5)=some 2:=by kernel_rfl
theorem tRange:(Tryz.prog.globals[3]?).map (·.type)=some 65:=by kernel_rfl
theorem tSyntax:(Tryz.prog.globals[2]?).map (·.type)=some 65:=by kernel_rfl
theorem cellsE:Tryz.prog.cellsOf 215=1:=by kernel_rfl
theorem cellsS:Tryz.prog.cellsOf 9=1:=by kernel_rfl
theorem glob_of_laid {w:World} (h:laidMetH Tryz.prog zko w) (hsh:w.ShapedOpen Tryz.prog):Glob w (Go.Eng.own (fun _=>False) [] []):=by
 have h':laidMet Tryz.prog plain5 w∧handlesMet Tryz.prog [(nm 3,dt 3)] w:=h
 have hL:=h'.1.tail.tail.tail
 obtain⟨a0,s0,hv0,_,_,_⟩:=laid_sentinel hL gRange tRange Tryz.underlying65 rowErr Tryz.underlying213 Tryz.underlying215 rfl rfl Tryz.underlying9 cellsE cellsS
 obtain⟨a1,s1,hv1,_,_,_⟩:=laid_sentinel hL.tail gSyntax tSyntax Tryz.underlying65 rowErr Tryz.underlying213 Tryz.underlying215 rfl rfl Tryz.underlying9 cellsE cellsS
 obtain⟨name,u,ty,e1,e2,e3,e4,e5⟩:=h'.2 _ (List.mem_singleton.2 rfl)
 have en:name=[101,114,114,111,114]:=(Option.some.inj e1).symm
 subst en
 obtain rfl:u=154:=Option.some.inj (e2.symm.trans (by kernel_rfl))
 have hm:ty∈(List.range Tryz.prog.types.size).filter fun t=>Tryz.prog.rowNamed t [101,114,114,111,114]:=List.mem_filter.2 ⟨List.mem_range.2 e3,e4⟩
 rw [oneRow] at hm
 obtain rfl:=List.mem_singleton.1 hm
 have hh:typeHandle Tryz.prog 65=.pointer (some ⟨7,65,none⟩):=by kernel_rfl
 rw [hh] at e5
 have hpw:=Go.Lib.tabIs_of_head (P:=Tryz.prog) (W:=w) (zs:=Go.Lib.pow10Tab) (k:=.u64) (g:=4) (t:=201) (e:=118) (n:=20) (by kernel_rfl) (by kernel_rfl) (by kernel_rfl) (by kernel_rfl) (by kernel_rfl) (by kernel_rfl) (h'.1.tail.tail)
 refine Glob.of_vars3 (fun g cs hg=>?_) (fun g hg=>?_) (fun g hg=>?_)
 ·by_cases hgg:g=0
  ·subst hgg
   obtain rfl:=Option.some.inj (show some [zbZ 7 65]=some cs from hg)
   exact⟨_,_,(by kernel_rfl:Tryz.prog.globalNamed (nm 3)=some 0),e5⟩
  ·by_cases hgp:g=4
   ·subst hgp
    obtain rfl:=Option.some.inj (show some powT=some cs from hg)
    exact⟨_,_,(by kernel_rfl:Tryz.prog.globalNamed (nm 2)=some 4),hpw⟩
   ·exact absurd hg (by
     intro hg
     have:(none:Option (List Value))=some cs:=by
      rw [← hg]
      symm
      show (match g with | 0=>some [zbZ 7 65] | 4=>some powT | _=>none)=none
      split
      ·exact absurd rfl hgg
      ·exact absurd rfl hgp
      ·rfl
     cases this)
 ·have hg':g=1:=by
   have:g∈[1]:=hg
   simpa using this
  subst hg'
  exact Go.Proofs.cell_of_shapedOpen_int (zero:=#[.int .i64 0]) (t:=3) hsh (of_decide_eq_true (by kernel_rfl)) (by kernel_rfl) rfl (by kernel_rfl) (by kernel_rfl) Tryz.underlying3
 ·have hg':g=3∨g=2:=by
   have:g∈[3,2]:=hg
   simpa using this
  rcases hg' with rfl | rfl
  ·exact⟨_,_,World.var?_cell gRange hv0 0⟩
  ·exact⟨_,_,World.var?_cell gSyntax hv1 0⟩
theorem door_met (os:Os) (args:Array Value):laidMetH Tryz.prog zko ((World.doorLaid Tryz.prog 4000 os).forCall (fun _ _=>0) ⟨#[],args,[]⟩).memory :=
 laidMetH_of_parts3 (fuel:=8) (laidMet_of_run' 8 (by kernel_rfl) (by kernel_rfl)) (by kernel_rfl) (by kernel_rfl)
end Go.Proofs.YtamcppdhkeiaiaaGreatDoor
end

