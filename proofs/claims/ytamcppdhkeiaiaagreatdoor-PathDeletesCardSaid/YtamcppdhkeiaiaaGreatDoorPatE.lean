/-
  Steps, names, numbers: a path is read. No condition.
-/
import Derived.Test.YtamcppdhkeiaiaaGreatDoorPatD
import Derived.Test.YtamcppdhkeiaiaaGreatDoorLib
set_option linter.unusedSimpArgs false
set_option linter.unusedVariables false
set_option linter.unusedSectionVars false
section
namespace Go.Proofs.YtamcppdhkeiaiaaGreatDoor
open Go Go.Eng
structure Pt where
 key:List UInt8
 pos:Int
 deriving DecidableEq
def pt0:Pt:=⟨[],0⟩
def ptC (x:Pt):List AV:=[str x.key,i64 x.pos]
def ptA (x:Pt):AV:=.agg (ptC x)
def slP (l:List Pt):AV:=.sl (l.flatMap ptC) l.length
theorem ptF:RowF ptC 2:=⟨fun _=>rfl,fun _=>rfl,fun q a=>by simp [ptC,renL,zai,zag]⟩
theorem zep (x:Pt):ptC x=[str x.key,i64 x.pos]:=rfl
theorem zeV (x:Pt):ptA x=.agg [str x.key,i64 x.pos]:=rfl
theorem ziy (l:List Pt):slP l=.sl (l.flatMap ptC) l.length:=rfl
theorem zbv (q:List Nat) (l:List Pt):renL q (l.flatMap ptC)=some (l.flatMap ptC):=ptF.fren q l
theorem zb8 (q:List Nat) (l:List Pt):(slP l).ren q=some (slP l):=ptF.fsl q l _
theorem ren_ptA (q:List Nat) (x:Pt):(ptA x).ren q=some (ptA x):=by simp [ptA,ptC,AV.ren,renL,zag,zai]
section
variable {σ : zad} {K : AV → Prop} {KS : AV → zad → Prop} {t : TypeId} {id : Nat}
theorem ia_P (l:List Pt) (m:Nat) (k:Int):ia3 (some tyPt) (.sl (l.flatMap ptC) m) k K=(0≤k∧k < m∧m≤l.length∧K (.rp ((l.drop k.toNat).flatMap ptC))):=ptF.ia rfl (by decide) l m k
theorem ld_P (l:List Pt) (k:Nat):ld2 (some tyPt) (some ((l.drop k).flatMap ptC)) 0 K=(k < l.length∧K (.agg (ptC (l.getD k pt0)))):=ptF.ld rfl (by decide) rfl pt0 l k
theorem zfk (l:List Pt) (k:Nat):ld2 (some zaW) (some (((l.drop k).flatMap ptC).drop 1)) 0 K=(k < l.length∧K (i64 (l.getD k pt0).pos)):=ptF.ldf rfl rfl 1 (by decide) pt0 l k
theorem ziz (o:Nat):zaq T 43 (.ptr id o) 0 K=K (.ptr id (o+0)):=fzP T43 rfl rfl T9 (by decide) id o
theorem ziA (o:Nat):zaq T 43 (.ptr id o) 1 K=K (.ptr id (o+1)):=fzP T43 rfl rfl T3 (by decide) id o
theorem ziB (cs:List AV):zaq T 43 (.rp cs) 1 K=K (.rp (cs.drop 1)):=fzR T43 rfl rfl T3 (by decide) cs
theorem ziC (a:AV) (r:List AV):ld2 (some zaW) (some (a::r)) 0 K=K a:=lz0 rfl rfl a r
theorem ziD (a:AV) (r:List AV):ld2 (some tyStr) (some (a::r)) 0 K=K a:=lz0 rfl rfl a r
theorem lw_P (a b:AV):ld2 (some tyPt) (some [a,b]) 0 K=K (.agg [a,b]):=lzW rfl rfl
theorem sw_P (p q:AV) (a:List UInt8) (b:Int):st2 (some tyPt) (some (.rw [p,q])) id 0 (.agg [str a,i64 b]) σ KS=KS (.lit undef) (σ.set id (.rw [str a,i64 b])):=szW rfl rfl rfl id
theorem bx_P (e:TypeId) (a:List UInt8) (b:Int):wbox e (.agg [str a,i64 b]) σ KS=KS (.ptr σ.length 0) (σ++[.rw [str a,i64 b]]):=bxW rfl rfl e
theorem al_P (e:TypeId):al1 T e (some tyPt) σ KS=KS (.ptr σ.length 0) (σ++[.rw [str [],i64 0]]):=rfl
theorem ziE:zbl T 43 [] K=K (.agg [str [],i64 0]):=by
 simp [zbl,T43,T9,T3,tyPt,zb9,zaS,tyStr,zaW]
 rfl
theorem bd_P (a:List UInt8) (b:Int):zbl T 43 [(0,str a),(1,i64 b)] K=K (.agg [str a,i64 b]):=by
 simp [zbl,T43,T9,T3,tyPt,zb9,zaS,zgQ,zd5,zc8,zcl,zbf,tyStr,zaW]
end
def isNm (b:UInt8):Bool:=decide ((97≤b.toNat∧b.toNat≤122)∨(65≤b.toNat∧b.toNat≤90)∨(48≤b.toNat∧b.toNat≤57)∨b.toNat=95)
theorem letter_ok (b:UInt8):ACalls Tryz.prog 58 [u8 b] [] (fun y _=>y=.ret (bl (isNm b))):=by
 refine ACalls.body T_ok Tryz.func58 (by kernel_rfl) rfl Tryz.ntmps58 (congrArg Array.toList Tryz.results58) ?_
 try simp -implicitDefEqProofs only [LM0,LB17,eq_self,zaa,zab,Nat.zero_mul,ia_P,ld_P,zfk,zep,ziz,ziA,ziB,ziC,ziD,lzS,lw_P,sw_P,bx_P,al_P,ziE,bd_P,TB,SB,Int.reduceToNat,Nat.reduceAdd,Nat.reduceEqDiff,Nat.reduceLT,Nat.reduceMod,Nat.reducePow,Nat.reduceSub,if_true,reduceIte]
 have e97:((UInt8.ofNat 97).toNat:Int)=97:=rfl
 have e122:((UInt8.ofNat 122).toNat:Int)=122:=rfl
 have e65:((UInt8.ofNat 65).toNat:Int)=65:=rfl
 have e90:((UInt8.ofNat 90).toNat:Int)=90:=rfl
 have e48:((UInt8.ofNat 48).toNat:Int)=48:=rfl
 have e57:((UInt8.ofNat 57).toNat:Int)=57:=rfl
 have e95:(UInt8.ofNat 95).toNat=95:=rfl
 by_cases h0:b.toNat≤47
 ·have d0:decide (((UInt8.ofNat 97).toNat:Int)≤b.toNat)=false:=decide_eq_false (by omega)
  have d1:decide ((b.toNat:Int)≤(UInt8.ofNat 122).toNat)=true:=decide_eq_true (by omega)
  have d2:decide (((UInt8.ofNat 65).toNat:Int)≤b.toNat)=false:=decide_eq_false (by omega)
  have d3:decide ((b.toNat:Int)≤(UInt8.ofNat 90).toNat)=true:=decide_eq_true (by omega)
  have d4:decide (((UInt8.ofNat 48).toNat:Int)≤b.toNat)=false:=decide_eq_false (by omega)
  have d5:decide ((b.toNat:Int)≤(UInt8.ofNat 57).toNat)=true:=decide_eq_true (by omega)
  have d6:decide (b=UInt8.ofNat 95)=false:=decide_eq_false (fun h=>absurd (congrArg UInt8.toNat h) (by rw [e95];omega))
  try simp -implicitDefEqProofs only [LM0,LB17,eq_self,zaa,zab,Nat.zero_mul,ia_P,ld_P,zfk,zep,ziz,ziA,ziB,ziC,ziD,lzS,lw_P,sw_P,bx_P,al_P,ziE,bd_P,d0,d1,d2,d3,d4,d5,d6,TB,SB,Int.reduceToNat,Nat.reduceAdd,Nat.reduceEqDiff,Nat.reduceLT,Nat.reduceMod,Nat.reducePow,Nat.reduceSub,if_true,reduceIte]
  exact zaR (by rw [isNm,decide_eq_false (by omega)])
 by_cases h1:b.toNat≤57
 ·have d0:decide (((UInt8.ofNat 97).toNat:Int)≤b.toNat)=false:=decide_eq_false (by omega)
  have d1:decide ((b.toNat:Int)≤(UInt8.ofNat 122).toNat)=true:=decide_eq_true (by omega)
  have d2:decide (((UInt8.ofNat 65).toNat:Int)≤b.toNat)=false:=decide_eq_false (by omega)
  have d3:decide ((b.toNat:Int)≤(UInt8.ofNat 90).toNat)=true:=decide_eq_true (by omega)
  have d4:decide (((UInt8.ofNat 48).toNat:Int)≤b.toNat)=true:=decide_eq_true (by omega)
  have d5:decide ((b.toNat:Int)≤(UInt8.ofNat 57).toNat)=true:=decide_eq_true (by omega)
  have d6:decide (b=UInt8.ofNat 95)=false:=decide_eq_false (fun h=>absurd (congrArg UInt8.toNat h) (by rw [e95];omega))
  try simp -implicitDefEqProofs only [LM0,LB17,eq_self,zaa,zab,Nat.zero_mul,ia_P,ld_P,zfk,zep,ziz,ziA,ziB,ziC,ziD,lzS,lw_P,sw_P,bx_P,al_P,ziE,bd_P,d0,d1,d2,d3,d4,d5,d6,TB,SB,Int.reduceToNat,Nat.reduceAdd,Nat.reduceEqDiff,Nat.reduceLT,Nat.reduceMod,Nat.reducePow,Nat.reduceSub,if_true,reduceIte]
  exact zaR (by rw [isNm,decide_eq_true (by omega)])
 by_cases h2:b.toNat≤64
 ·have d0:decide (((UInt8.ofNat 97).toNat:Int)≤b.toNat)=false:=decide_eq_false (by omega)
  have d1:decide ((b.toNat:Int)≤(UInt8.ofNat 122).toNat)=true:=decide_eq_true (by omega)
  have d2:decide (((UInt8.ofNat 65).toNat:Int)≤b.toNat)=false:=decide_eq_false (by omega)
  have d3:decide ((b.toNat:Int)≤(UInt8.ofNat 90).toNat)=true:=decide_eq_true (by omega)
  have d4:decide (((UInt8.ofNat 48).toNat:Int)≤b.toNat)=true:=decide_eq_true (by omega)
  have d5:decide ((b.toNat:Int)≤(UInt8.ofNat 57).toNat)=false:=decide_eq_false (by omega)
  have d6:decide (b=UInt8.ofNat 95)=false:=decide_eq_false (fun h=>absurd (congrArg UInt8.toNat h) (by rw [e95];omega))
  try simp -implicitDefEqProofs only [LM0,LB17,eq_self,zaa,zab,Nat.zero_mul,ia_P,ld_P,zfk,zep,ziz,ziA,ziB,ziC,ziD,lzS,lw_P,sw_P,bx_P,al_P,ziE,bd_P,d0,d1,d2,d3,d4,d5,d6,TB,SB,Int.reduceToNat,Nat.reduceAdd,Nat.reduceEqDiff,Nat.reduceLT,Nat.reduceMod,Nat.reducePow,Nat.reduceSub,if_true,reduceIte]
  exact zaR (by rw [isNm,decide_eq_false (by omega)])
 by_cases h3:b.toNat≤90
 ·have d0:decide (((UInt8.ofNat 97).toNat:Int)≤b.toNat)=false:=decide_eq_false (by omega)
  have d1:decide ((b.toNat:Int)≤(UInt8.ofNat 122).toNat)=true:=decide_eq_true (by omega)
  have d2:decide (((UInt8.ofNat 65).toNat:Int)≤b.toNat)=true:=decide_eq_true (by omega)
  have d3:decide ((b.toNat:Int)≤(UInt8.ofNat 90).toNat)=true:=decide_eq_true (by omega)
  have d4:decide (((UInt8.ofNat 48).toNat:Int)≤b.toNat)=true:=decide_eq_true (by omega)
  have d5:decide ((b.toNat:Int)≤(UInt8.ofNat 57).toNat)=false:=decide_eq_false (by omega)
  have d6:decide (b=UInt8.ofNat 95)=false:=decide_eq_false (fun h=>absurd (congrArg UInt8.toNat h) (by rw [e95];omega))
  try simp -implicitDefEqProofs only [LM0,LB17,eq_self,zaa,zab,Nat.zero_mul,ia_P,ld_P,zfk,zep,ziz,ziA,ziB,ziC,ziD,lzS,lw_P,sw_P,bx_P,al_P,ziE,bd_P,d0,d1,d2,d3,d4,d5,d6,TB,SB,Int.reduceToNat,Nat.reduceAdd,Nat.reduceEqDiff,Nat.reduceLT,Nat.reduceMod,Nat.reducePow,Nat.reduceSub,if_true,reduceIte]
  exact zaR (by rw [isNm,decide_eq_true (by omega)])
 by_cases h4:b.toNat≤94
 ·have d0:decide (((UInt8.ofNat 97).toNat:Int)≤b.toNat)=false:=decide_eq_false (by omega)
  have d1:decide ((b.toNat:Int)≤(UInt8.ofNat 122).toNat)=true:=decide_eq_true (by omega)
  have d2:decide (((UInt8.ofNat 65).toNat:Int)≤b.toNat)=true:=decide_eq_true (by omega)
  have d3:decide ((b.toNat:Int)≤(UInt8.ofNat 90).toNat)=false:=decide_eq_false (by omega)
  have d4:decide (((UInt8.ofNat 48).toNat:Int)≤b.toNat)=true:=decide_eq_true (by omega)
  have d5:decide ((b.toNat:Int)≤(UInt8.ofNat 57).toNat)=false:=decide_eq_false (by omega)
  have d6:decide (b=UInt8.ofNat 95)=false:=decide_eq_false (fun h=>absurd (congrArg UInt8.toNat h) (by rw [e95];omega))
  try simp -implicitDefEqProofs only [LM0,LB17,eq_self,zaa,zab,Nat.zero_mul,ia_P,ld_P,zfk,zep,ziz,ziA,ziB,ziC,ziD,lzS,lw_P,sw_P,bx_P,al_P,ziE,bd_P,d0,d1,d2,d3,d4,d5,d6,TB,SB,Int.reduceToNat,Nat.reduceAdd,Nat.reduceEqDiff,Nat.reduceLT,Nat.reduceMod,Nat.reducePow,Nat.reduceSub,if_true,reduceIte]
  exact zaR (by rw [isNm,decide_eq_false (by omega)])
 by_cases h5:b.toNat≤95
 ·have d0:decide (((UInt8.ofNat 97).toNat:Int)≤b.toNat)=false:=decide_eq_false (by omega)
  have d1:decide ((b.toNat:Int)≤(UInt8.ofNat 122).toNat)=true:=decide_eq_true (by omega)
  have d2:decide (((UInt8.ofNat 65).toNat:Int)≤b.toNat)=true:=decide_eq_true (by omega)
  have d3:decide ((b.toNat:Int)≤(UInt8.ofNat 90).toNat)=false:=decide_eq_false (by omega)
  have d4:decide (((UInt8.ofNat 48).toNat:Int)≤b.toNat)=true:=decide_eq_true (by omega)
  have d5:decide ((b.toNat:Int)≤(UInt8.ofNat 57).toNat)=false:=decide_eq_false (by omega)
  have d6:decide (b=UInt8.ofNat 95)=true:=decide_eq_true (UInt8.toNat_inj.1 (by rw [e95];omega))
  try simp -implicitDefEqProofs only [LM0,LB17,eq_self,zaa,zab,Nat.zero_mul,ia_P,ld_P,zfk,zep,ziz,ziA,ziB,ziC,ziD,lzS,lw_P,sw_P,bx_P,al_P,ziE,bd_P,d0,d1,d2,d3,d4,d5,d6,TB,SB,Int.reduceToNat,Nat.reduceAdd,Nat.reduceEqDiff,Nat.reduceLT,Nat.reduceMod,Nat.reducePow,Nat.reduceSub,if_true,reduceIte]
  exact zaR (by rw [isNm,decide_eq_true (by omega)])
 by_cases h6:b.toNat≤96
 ·have d0:decide (((UInt8.ofNat 97).toNat:Int)≤b.toNat)=false:=decide_eq_false (by omega)
  have d1:decide ((b.toNat:Int)≤(UInt8.ofNat 122).toNat)=true:=decide_eq_true (by omega)
  have d2:decide (((UInt8.ofNat 65).toNat:Int)≤b.toNat)=true:=decide_eq_true (by omega)
  have d3:decide ((b.toNat:Int)≤(UInt8.ofNat 90).toNat)=false:=decide_eq_false (by omega)
  have d4:decide (((UInt8.ofNat 48).toNat:Int)≤b.toNat)=true:=decide_eq_true (by omega)
  have d5:decide ((b.toNat:Int)≤(UInt8.ofNat 57).toNat)=false:=decide_eq_false (by omega)
  have d6:decide (b=UInt8.ofNat 95)=false:=decide_eq_false (fun h=>absurd (congrArg UInt8.toNat h) (by rw [e95];omega))
  try simp -implicitDefEqProofs only [LM0,LB17,eq_self,zaa,zab,Nat.zero_mul,ia_P,ld_P,zfk,zep,ziz,ziA,ziB,ziC,ziD,lzS,lw_P,sw_P,bx_P,al_P,ziE,bd_P,d0,d1,d2,d3,d4,d5,d6,TB,SB,Int.reduceToNat,Nat.reduceAdd,Nat.reduceEqDiff,Nat.reduceLT,Nat.reduceMod,Nat.reducePow,Nat.reduceSub,if_true,reduceIte]
  exact zaR (by rw [isNm,decide_eq_false (by omega)])
 by_cases h7:b.toNat≤122
 ·have d0:decide (((UInt8.ofNat 97).toNat:Int)≤b.toNat)=true:=decide_eq_true (by omega)
  have d1:decide ((b.toNat:Int)≤(UInt8.ofNat 122).toNat)=true:=decide_eq_true (by omega)
  have d2:decide (((UInt8.ofNat 65).toNat:Int)≤b.toNat)=true:=decide_eq_true (by omega)
  have d3:decide ((b.toNat:Int)≤(UInt8.ofNat 90).toNat)=false:=decide_eq_false (by omega)
  have d4:decide (((UInt8.ofNat 48).toNat:Int)≤b.toNat)=true:=decide_eq_true (by omega)
  have d5:decide ((b.toNat:Int)≤(UInt8.ofNat 57).toNat)=false:=decide_eq_false (by omega)
  have d6:decide (b=UInt8.ofNat 95)=false:=decide_eq_false (fun h=>absurd (congrArg UInt8.toNat h) (by rw [e95];omega))
  try simp -implicitDefEqProofs only [LM0,LB17,eq_self,zaa,zab,Nat.zero_mul,ia_P,ld_P,zfk,zep,ziz,ziA,ziB,ziC,ziD,lzS,lw_P,sw_P,bx_P,al_P,ziE,bd_P,d0,d1,d2,d3,d4,d5,d6,TB,SB,Int.reduceToNat,Nat.reduceAdd,Nat.reduceEqDiff,Nat.reduceLT,Nat.reduceMod,Nat.reducePow,Nat.reduceSub,if_true,reduceIte]
  exact zaR (by rw [isNm,decide_eq_true (by omega)])
 have d0:decide (((UInt8.ofNat 97).toNat:Int)≤b.toNat)=true:=decide_eq_true (by omega)
 have d1:decide ((b.toNat:Int)≤(UInt8.ofNat 122).toNat)=false:=decide_eq_false (by omega)
 have d2:decide (((UInt8.ofNat 65).toNat:Int)≤b.toNat)=true:=decide_eq_true (by omega)
 have d3:decide ((b.toNat:Int)≤(UInt8.ofNat 90).toNat)=false:=decide_eq_false (by omega)
 have d4:decide (((UInt8.ofNat 48).toNat:Int)≤b.toNat)=true:=decide_eq_true (by omega)
 have d5:decide ((b.toNat:Int)≤(UInt8.ofNat 57).toNat)=false:=decide_eq_false (by omega)
 have d6:decide (b=UInt8.ofNat 95)=false:=decide_eq_false (fun h=>absurd (congrArg UInt8.toNat h) (by rw [e95];omega))
 try simp -implicitDefEqProofs only [LM0,LB17,eq_self,zaa,zab,Nat.zero_mul,ia_P,ld_P,zfk,zep,ziz,ziA,ziB,ziC,ziD,lzS,lw_P,sw_P,bx_P,al_P,ziE,bd_P,d0,d1,d2,d3,d4,d5,d6,TB,SB,Int.reduceToNat,Nat.reduceAdd,Nat.reduceEqDiff,Nat.reduceLT,Nat.reduceMod,Nat.reducePow,Nat.reduceSub,if_true,reduceIte]
 exact zaR (by rw [isNm,decide_eq_false (by omega)])
end Go.Proofs.YtamcppdhkeiaiaaGreatDoor
end

section
namespace Go.Proofs.YtamcppdhkeiaiaaGreatDoor
open Go Go.Eng
set_option linter.defProp false in
def LB18:=And.intro @ia_P (And.intro @ld_P (And.intro @zfk (And.intro @zep (And.intro @ziz (And.intro @ziA (And.intro @ziB (And.intro @ziC (And.intro @ziD (And.intro @lw_P (And.intro @sw_P (And.intro @bx_P (And.intro @al_P (And.intro @ziE (@bd_P))))))))))))))
set_option linter.defProp false in
def LM4:=And.intro LM0 (And.intro LB17 (LB18))
theorem runL_step (p:UInt8→Bool):∀ (l:List UInt8) (k:Nat),k≤runL p l→k < l.length→p (l.getD k 0)=decide (k < runL p l)
 | [],k,_,h=>absurd h (Nat.not_lt_zero _)
 | c::r,0,_,_=>by
  rw [List.getD_cons_zero,runL]
  cases hc:p c with
  | true=>simp
  | false=>simp
 | c::r,k+1,h,hl=>by
  rw [runL] at h ⊢
  cases hc:p c with
  | false =>
   rw [hc] at h
   simp at h
  | true =>
   rw [hc] at h
   simp only [if_true] at h ⊢
   rw [List.getD_cons_succ,runL_step p r k (by omega) (by simpa using hl)]
   exact decide_eq_decide.2 (by omega)
def nmL (s:List UInt8):Nat:=runL isNm s
theorem nmL_le (s:List UInt8):nmL s≤s.length:=zjT _ s
def zg0 (s:List UInt8):Pt × List UInt8 × Bool:=(⟨s.take (nmL s),-1⟩,s.drop (nmL s),decide (0 < nmL s))
def tupP (x:Pt × List UInt8 × Bool):AV:=.tup [ptA x.1,str x.2.1,bl x.2.2]
theorem zf2 (x:Pt × List UInt8 × Bool):tupP x=.tup [.agg [str x.1.key,i64 x.1.pos],str x.2.1,bl x.2.2]:=rfl
theorem zfA (q:List Nat) (x:Pt × List UInt8 × Bool):(tupP x).ren q=some (tupP x):=by simp [tupP,ptA,ptC,AV.ren,renL,zag,zai,zao]
theorem zcv {x:Pt × List UInt8 × Bool} {a b c:AV} {σ:zad} {K:AV→zad→Prop} (h0:AV.tup [a,b,c]=tupP x) (h:K (tupP x) []):endQ 0 (.tup [a,b,c]) σ K:=by
 rw [h0]
 exact zax (zfA _ _) h
theorem name_ok (s:List UInt8) (hs:s.length≤1000000000):ACalls Tryz.prog 41 [str s] [] (fun y _=>y=.ret (tupP (zg0 s))):=by
 refine ACalls.body T_ok Tryz.func41 (by kernel_rfl) rfl Tryz.ntmps41 (congrArg Array.toList Tryz.results41) ?_
 try simp -implicitDefEqProofs only [LM4,eq_self,zaa,zab,Nat.zero_mul,lzS,TB,SB,Int.reduceToNat,Nat.reduceAdd,Nat.reduceEqDiff,Nat.reduceLT,Nat.reduceMod,Nat.reducePow,Nat.reduceSub,if_true,reduceIte]
 rw [zbe]
 refine⟨Nat,fun k=>k≤nmL s,fun k=>[str s,.bot,.ptr 0 0,str [],bl false,i64 k,.bot,.bot,.bot,.bot,.bot,.bot,.bot,.bot,.bot,.bot,.bot,.bot,.bot,.bot,.bot,.bot,.bot,.bot,.bot,.bot,.bot],fun k=>[.rw [str [],i64 0]],fun k=>s.length - k,0,Nat.zero_le _,zaj (q:=[0]) rfl rfl (by decide) ?_ ?_,?_⟩
 ·try simp only [FB,AV.ren,Nat.reduceAdd,reduceCtorEq]
  exact .inr rfl
 ·simp [zah,Blk.ren,renL,zag,zai]
 intro k hk
 have hle:=nmL_le s
 have hend:k=nmL s→zg0 s=(⟨s.take k,-1⟩,s.drop k,decide (0 < k)):=fun h=>by rw [h];rfl
 by_cases hl:k < s.length
 ·have d0:decide ((k:Int) < (s.length:Int))=true:=decide_eq_true (by omega)
  have hst:=runL_step isNm s k hk hl
  try simp -implicitDefEqProofs only [LM4,eq_self,zaa,zab,Nat.zero_mul,lzS,d0,TB,SB,Int.reduceToNat,Nat.reduceAdd,Nat.reduceEqDiff,Nat.reduceLT,Nat.reduceMod,Nat.reducePow,Nat.reduceSub,if_true,reduceIte]
  refine⟨by omega,by omega,?_⟩
  refine(letter_ok _).pure (by simp [renL,zaA]) ?_
  rintro _ σ rfl
  refine⟨zao _ _,?_⟩
  rw [hst]
  by_cases hn:k < runL isNm s
  ·try simp -implicitDefEqProofs only [LM4,eq_self,zaa,zab,Nat.zero_mul,lzS,decide_eq_true hn,TB,SB,Int.reduceToNat,Nat.reduceAdd,Nat.reduceEqDiff,Nat.reduceLT,Nat.reduceMod,Nat.reducePow,Nat.reduceSub,if_true,reduceIte]
   refine⟨by unfold inI;omega,?_⟩
   rw [zal]
   refine⟨k+1,hn,by (show s.length - (k+1) < s.length - k);omega,?_⟩
   refine zaj (q:=[0]) rfl rfl (by decide) ?_ ?_
   ·try simp only [FB,AV.ren,Nat.reduceAdd,reduceCtorEq]
    exact .inr (by omega)
   ·simp [zah,Blk.ren,renL,zag,zai]
  ·try simp -implicitDefEqProofs only [LM4,eq_self,zaa,zab,Nat.zero_mul,lzS,decide_eq_false hn,TB,SB,Int.reduceToNat,Nat.reduceAdd,Nat.reduceEqDiff,Nat.reduceLT,Nat.reduceMod,Nat.reducePow,Nat.reduceSub,if_true,reduceIte]
   have hk2:k=nmL s:=by unfold nmL at hk ⊢;omega
   refine zjG [9] (by kernel_rfl) (by kernel_rfl) (by kernel_rfl) ?_
   try simp -implicitDefEqProofs only [LM4,eq_self,zaa,zab,Nat.zero_mul,lzS,TB,SB,Int.reduceToNat,Nat.reduceAdd,Nat.reduceEqDiff,Nat.reduceLT,Nat.reduceMod,Nat.reducePow,Nat.reduceSub,if_true,reduceIte]
   refine⟨by omega,by omega,by omega,by omega,?_⟩
   refine zcv (x:=zg0 s) ?_ rfl
   rw [hend hk2,zf2]
   exact congrArg (fun z=>AV.tup [_,_,bl z]) (decide_eq_decide.2 (by omega))
 ·have d0:decide ((k:Int) < (s.length:Int))=false:=decide_eq_false (by omega)
  try simp -implicitDefEqProofs only [LM4,eq_self,zaa,zab,Nat.zero_mul,lzS,d0,TB,SB,Int.reduceToNat,Nat.reduceAdd,Nat.reduceEqDiff,Nat.reduceLT,Nat.reduceMod,Nat.reducePow,Nat.reduceSub,if_true,reduceIte]
  have hk2:k=nmL s:=by omega
  refine zjG [9] (by kernel_rfl) (by kernel_rfl) (by kernel_rfl) ?_
  try simp -implicitDefEqProofs only [LM4,eq_self,zaa,zab,Nat.zero_mul,lzS,TB,SB,Int.reduceToNat,Nat.reduceAdd,Nat.reduceEqDiff,Nat.reduceLT,Nat.reduceMod,Nat.reducePow,Nat.reduceSub,if_true,reduceIte]
  refine⟨by omega,by omega,by omega,by omega,?_⟩
  refine zcv (x:=zg0 s) ?_ rfl
  rw [hend hk2,zf2]
  exact congrArg (fun z=>AV.tup [_,_,bl z]) (decide_eq_decide.2 (by omega))
end Go.Proofs.YtamcppdhkeiaiaaGreatDoor
end

section
namespace Go.Proofs.YtamcppdhkeiaiaaGreatDoor
open Go Go.Eng
theorem dec_one {u:Nat} (h:u < 10):Lib.decDigits u=[UInt8.ofNat (48+u)]:=by rw [Lib.decDigits,dif_pos h]
theorem dec_step {u:Nat} (h:10≤u):Lib.decDigits u=Lib.decDigits (u / 10)++[UInt8.ofNat (48+u % 10)]:=by rw [Lib.decDigits,dif_neg (by omega)]
theorem zhi {c:UInt8} (h:isDg c=true):∃ x,x < 10∧c=UInt8.ofNat (48+x):=by
 have:=isDg_iff.1 h
 refine⟨c.toNat - 48,by omega,?_⟩
 rw [show 48+(c.toNat - 48)=c.toNat by omega,UInt8.ofNat_toNat]
theorem zhr {x:Nat} (h:x < 10):(UInt8.ofNat (48+x)).toNat=48+x:=by
 rw [UInt8.toNat_ofNat'];omega
theorem zg1 {x:Nat} (h:x < 10):isDg (UInt8.ofNat (48+x))=true:=isDg_iff.2 (by rw [zhr h];omega)
theorem digV_cons (n:Nat) (c:UInt8) (r:List UInt8):digV n (c::r)=digV (10 * n+(c.toNat - 48)) r:=by
 have e:digV n (c::r)=digV (10 * n+(c.toNat - 48)) r:=rfl
 exact e
theorem zhs (n:Nat):digV n []=n:=by
 have e:digV n []=n:=rfl
 exact e
theorem zg2 (n:Nat) {x:Nat} (h:x < 10) (r:List UInt8):digV n (UInt8.ofNat (48+x)::r)=digV (10 * n+x) r:=by
 rw [digV_cons,zhr h,Nat.add_sub_cancel_left]
theorem digV_1 {x:Nat} (h:x < 10):digV 0 [UInt8.ofNat (48+x)]=x:=by
 rw [zg2 _ h,zhs,Nat.mul_zero,Nat.zero_add]
theorem digV_2 {x y:Nat} (h:x < 10) (g:y < 10):digV 0 [UInt8.ofNat (48+x),UInt8.ofNat (48+y)]=10 * x+y:=by
 rw [zg2 _ h,zg2 _ g,zhs,Nat.mul_zero,Nat.zero_add]
theorem digV_3 {x y z:Nat} (h:x < 10) (g:y < 10) (k:z < 10):digV 0 [UInt8.ofNat (48+x),UInt8.ofNat (48+y),UInt8.ofNat (48+z)]=100 * x+10 * y+z:=by
 rw [zg2 _ h,zg2 _ g,zg2 _ k,zhs,Nat.mul_zero,Nat.zero_add]
 omega
theorem dec_2 {x y:Nat} (h:0 < x) (hx:x < 10) (hy:y < 10):Lib.decDigits (10 * x+y)=[UInt8.ofNat (48+x),UInt8.ofNat (48+y)]:=by
 rw [dec_step (by omega),show (10 * x+y) / 10=x by omega,show (10 * x+y) % 10=y by omega,dec_one hx];rfl
theorem dec_3 {x y z:Nat} (h:0 < x) (hx:x < 10) (hy:y < 10) (hz:z < 10):Lib.decDigits (100 * x+10 * y+z)=[UInt8.ofNat (48+x),UInt8.ofNat (48+y),UInt8.ofNat (48+z)]:=by
 rw [dec_step (by omega),show (100 * x+10 * y+z) / 10=10 * x+y by omega,show (100 * x+10 * y+z) % 10=z by omega,dec_2 h hx hy];rfl
def numB (d:List UInt8):Bool:=decide (d≠[]∧d.length≤3∧¬ (1 < d.length∧d.head?=some 48)) && d.all isDg
def numD (d:List UInt8):Option Nat:=if numB d then some (digV 0 d) else none
theorem zjm {d:List UInt8} {u:Nat} (h:numD d=some u):u≤999∧d=Lib.decDigits u:=by
 unfold numD at h
 split at h
 ·rename_i hb
  simp only [numB,Bool.and_eq_true,decide_eq_true_eq,List.all_eq_true] at hb
  obtain⟨⟨h1,h2,h3⟩,h4⟩:=hb
  cases h
  match d,h1,h2,h3,h4 with
  | [a],_,_,_,h4 =>
   obtain⟨x,hx,rfl⟩:=zhi (h4 a (by simp))
   rw [digV_1 hx,dec_one hx]
   exact⟨by omega,rfl⟩
  | [a,b],_,_,h3,h4 =>
   obtain⟨x,hx,rfl⟩:=zhi (h4 a (by simp))
   obtain⟨y,hy,rfl⟩:=zhi (h4 b (by simp))
   have h0:0 < x:=by
    rcases Nat.eq_zero_or_pos x with rfl | h
    ·exact absurd ⟨by simp,rfl⟩ h3
    ·exact h
   rw [digV_2 hx hy,dec_2 h0 hx hy]
   exact⟨by omega,rfl⟩
  | [a,b,c],_,_,h3,h4 =>
   obtain⟨x,hx,rfl⟩:=zhi (h4 a (by simp))
   obtain⟨y,hy,rfl⟩:=zhi (h4 b (by simp))
   obtain⟨z,hz,rfl⟩:=zhi (h4 c (by simp))
   have h0:0 < x:=by
    rcases Nat.eq_zero_or_pos x with rfl | h
    ·exact absurd ⟨by simp,rfl⟩ h3
    ·exact h
   rw [digV_3 hx hy hz,dec_3 h0 hx hy hz]
   exact⟨by omega,rfl⟩
  | a::b::c::e::r,_,h2,_,_=>simp at h2
 ·cases h
theorem zj5 {u:Nat} (h:u≤999):(∃ x,x < 10∧u=x∧Lib.decDigits u=[UInt8.ofNat (48+x)])∨(∃ x y,0 < x∧x < 10∧y < 10∧u=10 * x+y∧Lib.decDigits u=[UInt8.ofNat (48+x),UInt8.ofNat (48+y)])∨(∃ x y z,0 < x∧x < 10∧y < 10∧z < 10∧u=100 * x+10 * y+z∧Lib.decDigits u=[UInt8.ofNat (48+x),UInt8.ofNat (48+y),UInt8.ofNat (48+z)]):=by
 rcases Nat.lt_or_ge u 10 with h1 | h1
 ·exact .inl ⟨u,h1,rfl,dec_one h1⟩
 rcases Nat.lt_or_ge u 100 with h2 | h2
 ·refine .inr (.inl ⟨u / 10,u % 10,by omega,by omega,by omega,by omega,?_⟩)
  rw [← dec_2 (by omega) (by omega) (by omega),show 10 * (u / 10)+u % 10=u by omega]
 ·refine .inr (.inr ⟨u / 100,u / 10 % 10,u % 10,by omega,by omega,by omega,by omega,by omega,?_⟩)
  rw [← dec_3 (by omega) (by omega) (by omega) (by omega),show 100 * (u / 100)+10 * (u / 10 % 10)+u % 10=u by omega]
theorem numD_dec {u:Nat} (h:u≤999):numD (Lib.decDigits u)=some u:=by
 have n48:∀ {x:Nat},0 < x→x < 10→¬ (some (UInt8.ofNat (48+x))=some (48:UInt8)):=fun h0 hx e=>by
  have:=congrArg UInt8.toNat (Option.some.inj e)
  rw [zhr hx] at this
  have e2:(48:UInt8).toNat=48:=rfl
  omega
 have nb:∀ d:List UInt8,d≠[]→d.length≤3→¬ (1 < d.length∧d.head?=some 48)→(∀ c∈d,isDg c=true)→numB d=true:=fun d h1 h2 h3 h4=>by
  rw [numB,Bool.and_eq_true,decide_eq_true_eq,List.all_eq_true]
  exact⟨⟨h1,h2,h3⟩,h4⟩
 rcases zj5 h with ⟨x,hx,rfl,e⟩ | ⟨x,y,h0,hx,hy,rfl,e⟩ | ⟨x,y,z,h0,hx,hy,hz,rfl,e⟩
 ·rw [e,numD,if_pos (nb _ (List.cons_ne_nil _ _) (by simp only [List.length_cons,List.length_nil];omega) (fun h=>absurd h.1 (by simp only [List.length_cons,List.length_nil];omega)) fun c hc=>?_),digV_1 hx]
  simp only [List.mem_cons,List.not_mem_nil,or_false] at hc
  rw [hc];exact zg1 hx
 ·rw [e,numD,if_pos (nb _ (List.cons_ne_nil _ _) (by simp only [List.length_cons,List.length_nil];omega) (fun h=>n48 h0 hx h.2) fun c hc=>?_),digV_2 hx hy]
  simp only [List.mem_cons,List.not_mem_nil,or_false] at hc
  rcases hc with rfl | rfl
  ·exact zg1 hx
  ·exact zg1 hy
 ·rw [e,numD,if_pos (nb _ (List.cons_ne_nil _ _) (by simp only [List.length_cons,List.length_nil];omega) (fun h=>n48 h0 hx h.2) fun c hc=>?_),digV_3 hx hy hz]
  simp only [List.mem_cons,List.not_mem_nil,or_false] at hc
  rcases hc with rfl | rfl | rfl
  ·exact zg1 hx
  ·exact zg1 hy
  ·exact zg1 hz
theorem dec_no93 {u:Nat} (h:u≤999):∀ c∈Lib.decDigits u,(c != 93)=true:=by
 have n93:∀ {x:Nat},x < 10→(UInt8.ofNat (48+x) != 93)=true:=fun hx=>by
  rw [bne_iff_ne]
  intro e
  have:=congrArg UInt8.toNat e
  rw [zhr hx] at this
  have e2:(93:UInt8).toNat=93:=rfl
  omega
 intro c hc
 rcases zj5 h with ⟨x,hx,rfl,e⟩ | ⟨x,y,h0,hx,hy,rfl,e⟩ | ⟨x,y,z,h0,hx,hy,hz,rfl,e⟩ <;> rw [e] at hc <;> simp only [List.mem_cons,List.not_mem_nil,or_false] at hc
 ·rw [hc];exact n93 hx
 ·rcases hc with rfl | rfl
  ·exact n93 hx
  ·exact n93 hy
 ·rcases hc with rfl | rfl | rfl
  ·exact n93 hx
  ·exact n93 hy
  ·exact n93 hz
end Go.Proofs.YtamcppdhkeiaiaaGreatDoor
end

section
namespace Go.Proofs.YtamcppdhkeiaiaaGreatDoor
open Go Go.Eng
theorem zf3 (p:UInt8→Bool):∀ (a b:List UInt8),(∀ c,c∈a→p c=true)→(∀ c,b.head?=some c→p c=false)→runL p (a++b)=a.length
 | [],[],_,_=>rfl
 | [],c::b,_,h=>by
  rw [List.nil_append,runL,h c rfl]
  rfl
 | x::a,b,h,g=>by
  rw [List.cons_append,runL,h x (List.mem_cons_self ..),if_pos rfl,zf3 p a b (fun c hc=>h c (List.mem_cons_of_mem _ hc)) g]
  rfl
theorem runL_end (p:UInt8→Bool):∀ (l:List UInt8) (c:UInt8),(l.drop (runL p l)).head?=some c→p c=false
 | [],c,h=>by simp [runL] at h
 | x::l,c,h=>by
  rw [runL] at h
  cases hx:p x with
  | false =>
   rw [hx] at h
   simp only [Bool.false_eq_true,if_false,List.drop_zero,List.head?_cons,Option.some.injEq] at h
   rw [← h,hx]
  | true =>
   rw [hx,if_pos rfl,List.drop_succ_cons] at h
   exact runL_end p l c h
theorem runL_lt (p:UInt8→Bool) {l:List UInt8} (h:runL p l < l.length):∃ c r,l.drop (runL p l)=c::r∧p c=false∧l.drop (runL p l+1)=r:=by
 cases hd:l.drop (runL p l) with
 | nil=>rw [List.drop_eq_nil_iff] at hd;omega
 | cons c r =>
  refine⟨c,r,rfl,runL_end p l c (by rw [hd];rfl),?_⟩
  rw [← List.drop_drop,hd]
  rfl
def clL (s:List UInt8):Nat:=runL (fun c=>c != 93) s
def numV (s:List UInt8):Option (Pt × List UInt8):=if clL s < s.length then (numD (s.take (clL s))).map fun (u:Nat)=>((⟨[],(u:Int)⟩:Pt),s.drop (clL s+1)) else none
def zhj (s:List UInt8):Option (Pt × List UInt8):=if 0 < nmL s then some (⟨s.take (nmL s),-1⟩,s.drop (nmL s)) else none
def zf4 (s:List UInt8) (first:Bool):Option (Pt × List UInt8):=match s with
 | []=>none
 | c::r=>if c=91 then numV r else if first then zhj (c::r) else if c=46 then zhj r else none
def parP:Nat→Bool→List UInt8→Option (List Pt)
 | 0,_,s=>if s=[] then some [] else none
 | n+1,first,s=>if s=[] then some [] else match zf4 s first with
  | none=>none
  | some x=>(parP n false x.2).map (x.1::·)
def zcz (s:List UInt8):List Pt × Int:=if 120 < s.length then ([],9) else match parP s.length true s with
 | some l=>(l,0)
 | none=>([],9)
def okP (x:Pt):Bool:=(decide (x.key=[]) && decide (0≤x.pos∧x.pos≤999)) || (decide (x.pos=-1) && (decide (x.key≠[]) && x.key.all isNm))
def ptX (first:Bool) (x:Pt):List UInt8:=if x.pos≠-1 then 91::(Lib.itoa x.pos++[93]) else if first then x.key else 46::x.key
def shP:Bool→List Pt→List UInt8
 | _,[]=>[]
 | f,x::r=>ptX f x++shP false r
def zkP (l:List Pt):List UInt8 × Int:=if l.all okP=true∧(shP true l).length≤120 then (shP true l,0) else ([],9)
theorem numV_lt {s:List UInt8} {x:Pt × List UInt8} (h:numV s=some x):x.2.length < s.length:=by
 unfold numV at h
 split at h
 ·rename_i hk
  cases hn:numD (s.take (clL s)) with
  | none=>rw [hn] at h;cases h
  | some u =>
   rw [hn] at h
   cases h
   simp only [List.length_drop]
   omega
 ·cases h
theorem nameO_lt {s:List UInt8} {x:Pt × List UInt8} (h:zhj s=some x):x.2.length < s.length:=by
 unfold zhj at h
 split at h
 ·cases h
  have:=nmL_le s
  simp only [List.length_drop]
  omega
 ·cases h
theorem zj6 {s:List UInt8} {f:Bool} {x:Pt × List UInt8} (h:zf4 s f=some x):x.2.length < s.length:=by
 cases s with
 | nil=>cases h
 | cons c r =>
  simp only [zf4] at h
  split at h
  ·have:=numV_lt h;simp only [List.length_cons];omega
  ·split at h
   ·exact nameO_lt h
   ·split at h
    ·have:=nameO_lt h;simp only [List.length_cons];omega
    ·cases h
theorem parP_fuel:∀ (n m:Nat) (f:Bool) (s:List UInt8),s.length≤n→s.length≤m→parP n f s=parP m f s
 | 0,0,_,_,_,_=>rfl
 | 0,m+1,f,s,h,_=>by
  have:s=[]:=List.eq_nil_of_length_eq_zero (by omega)
  simp [parP,this]
 | n+1,0,f,s,_,h=>by
  have:s=[]:=List.eq_nil_of_length_eq_zero (by omega)
  simp [parP,this]
 | n+1,m+1,f,s,h,g=>by
  simp only [parP]
  split
  ·rfl
  ·cases hx:zf4 s f with
   | none=>rfl
   | some x =>
    have:=zj6 hx
    simp only
    rw [parP_fuel n m false x.2 (by omega) (by omega)]
theorem itoa_nat (u:Nat):Lib.itoa (u:Int)=Lib.decDigits u:=by
 rw [Lib.itoa,if_neg (by omega),Int.toNat_natCast]
theorem numV_back {s:List UInt8} {x:Pt × List UInt8} (h:numV s=some x):okP x.1=true∧91::s=ptX true x.1++x.2∧ptX false x.1=ptX true x.1∧x.1.pos≠-1:=by
 unfold numV at h
 split at h
 ·rename_i hk
  obtain⟨c,r,h1,h2,h3⟩:=runL_lt (fun c=>c != 93) hk
  have hc:c=93:=by simpa using h2
  subst hc
  cases hn:numD (s.take (clL s)) with
  | none=>rw [hn] at h;cases h
  | some u =>
   rw [hn] at h
   cases h
   obtain⟨g1,g2⟩:=zjm hn
   have hp:((u:Nat):Int)≠-1:=by omega
   refine⟨?_,?_,?_,hp⟩
   ·simp only [okP,Bool.or_eq_true,Bool.and_eq_true,decide_eq_true_eq]
    exact .inl ⟨trivial,by omega,by omega⟩
   ·have hs:s=s.take (clL s)++s.drop (clL s):=(List.take_append_drop _ _).symm
    rw [show s.drop (clL s)=93::r from h1,g2] at hs
    simp only [ptX,if_pos hp,itoa_nat]
    rw [show s.drop (clL s+1)=r from h3]
    rw [List.cons_append,List.append_assoc]
    exact congrArg _ hs
   ·simp only [ptX,if_pos hp]
 ·cases h
theorem zjn {s:List UInt8} {x:Pt × List UInt8} (h:zhj s=some x):okP x.1=true∧s=x.1.key++x.2∧x.1.pos=-1:=by
 unfold zhj at h
 split at h
 ·rename_i hk
  cases h
  refine⟨?_,(List.take_append_drop _ _).symm,rfl⟩
  simp only [okP,Bool.or_eq_true,Bool.and_eq_true,decide_eq_true_eq,List.all_eq_true]
  refine .inr ⟨trivial,fun e=>?_,zjX isNm s _ (Nat.le_refl _)⟩
  have:=nmL_le s
  have e2:=congrArg List.length e
  rw [List.length_take] at e2
  simp only [List.length_nil] at e2
  omega
 ·cases h
theorem nextO_back {s:List UInt8} {f:Bool} {x:Pt × List UInt8} (h:zf4 s f=some x):okP x.1=true∧s=ptX f x.1++x.2:=by
 cases s with
 | nil=>cases h
 | cons c r =>
  simp only [zf4] at h
  split at h
  ·rename_i hc
   subst hc
   obtain⟨g1,g2,g3,-⟩:=numV_back h
   refine⟨g1,?_⟩
   cases f
   ·rw [g3];exact g2
   ·exact g2
  ·split at h
   ·rename_i hf
    subst hf
    obtain⟨g1,g2,g3⟩:=zjn h
    exact⟨g1,by rw [ptX,if_neg (fun k=>k g3),if_pos rfl];exact g2⟩
   ·rename_i hf
    split at h
    ·rename_i hc
     subst hc
     obtain⟨g1,g2,g3⟩:=zjn h
     exact⟨g1,by rw [ptX,if_neg (fun k=>k g3),if_neg hf,List.cons_append,← g2]⟩
    ·cases h
theorem numV_put {u:Nat} (h:u≤999) (r:List UInt8):numV (Lib.decDigits u++93::r)=some (⟨[],u⟩,r):=by
 have hk:clL (Lib.decDigits u++93::r)=(Lib.decDigits u).length:=zf3 _ _ _ (dec_no93 h) (fun c hc=>by
  cases hc
  rfl)
 have e:(Lib.decDigits u++93::r).drop ((Lib.decDigits u).length+1)=r:=by
  rw [← List.drop_drop,List.drop_left' rfl]
  rfl
 rw [numV,hk,if_pos (by simp),List.take_left' rfl,numD_dec h,e]
 rfl
theorem nameO_put {k r:List UInt8} (h0:k≠[]) (h:∀ c∈k,isNm c=true) (hr:∀ c,r.head?=some c→isNm c=false):zhj (k++r)=some (⟨k,-1⟩,r):=by
 have hk:nmL (k++r)=k.length:=zf3 _ _ _ h hr
 have:=List.length_pos_iff.2 h0
 rw [zhj,hk,if_pos this,List.take_left' rfl,List.drop_left' rfl]
theorem isNm_91:isNm 91=false:=by decide
theorem isNm_46:isNm 46=false:=by decide
theorem nextO_put {x:Pt} {f:Bool} {r:List UInt8} (h:okP x=true) (hr:∀ c,r.head?=some c→isNm c=false):zf4 (ptX f x++r) f=some (x,r):=by
 obtain⟨k,p⟩:=x
 simp only [okP,Bool.or_eq_true,Bool.and_eq_true,decide_eq_true_eq,List.all_eq_true] at h
 rcases h with ⟨h1,h2,h3⟩ | ⟨h1,h2,h3⟩
 ·subst h1
  obtain⟨u,rfl⟩:∃ u:Nat,p=u:=⟨p.toNat,by omega⟩
  have hp:((u:Nat):Int)≠-1:=by omega
  simp only [ptX,if_pos hp,itoa_nat]
  rw [List.cons_append,List.append_assoc]
  show (if (91:UInt8)=91 then numV (Lib.decDigits u++93::r) else if f=true then zhj (91::(Lib.decDigits u++93::r)) else if (91:UInt8)=46 then zhj (Lib.decDigits u++93::r) else none)=_
  rw [if_pos rfl]
  exact numV_put (by omega) r
 ·subst h1
  simp only [ptX,ne_eq,not_true_eq_false,if_false]
  cases f with
  | true =>
   cases k with
   | nil=>exact absurd rfl h2
   | cons c k =>
    have hc:=h3 c (List.mem_cons_self ..)
    have:c≠91:=fun e=>by rw [e,isNm_91] at hc;cases hc
    simp only [if_true]
    rw [List.cons_append]
    simp only [zf4,if_neg this,if_true]
    rw [← List.cons_append]
    exact nameO_put h2 h3 hr
  | false =>
   simp only [Bool.false_eq_true,if_false]
   rw [List.cons_append]
   simp only [zf4,if_neg (show ¬ ((46:UInt8)=91) by decide),Bool.false_eq_true,if_false,if_true]
   exact nameO_put h2 h3 hr
theorem ptX_ne {x:Pt} (f:Bool) (h:okP x=true):0 < (ptX f x).length:=by
 obtain⟨k,p⟩:=x
 simp only [okP,Bool.or_eq_true,Bool.and_eq_true,decide_eq_true_eq] at h
 unfold ptX
 split
 ·simp
 ·rename_i hp
  rcases h with ⟨-,h2,-⟩ | ⟨-,h2,-⟩
  ·exact absurd (Decidable.not_not.1 hp) (show ¬ p=-1 by omega)
  ·split
   ·exact List.length_pos_iff.2 h2
   ·simp
theorem ptX_head {x:Pt}:∃ c t,ptX false x=c::t∧isNm c=false:=by
 unfold ptX
 split
 ·exact⟨91,_,rfl,isNm_91⟩
 ·exact⟨46,_,rfl,isNm_46⟩
theorem shP_head (l:List Pt):∀ c,(shP false l).head?=some c→isNm c=false:=by
 intro c hc
 cases l with
 | nil=>cases hc
 | cons x r =>
  obtain⟨d,t,e,h⟩:=@ptX_head x
  rw [shP,e] at hc
  cases hc
  exact h
theorem shP_len:∀ (l:List Pt) (f:Bool),(∀ x∈l,okP x=true)→l.length≤(shP f l).length
 | [],_,_=>Nat.zero_le _
 | x::r,f,h=>by
  have h1:=ptX_ne f (h x (List.mem_cons_self ..))
  have h2:=shP_len r false (fun y hy=>h y (List.mem_cons_of_mem _ hy))
  rw [shP,List.length_append,List.length_cons]
  omega
theorem parP_put:∀ (l:List Pt) (f:Bool) (n:Nat),(∀ x∈l,okP x=true)→(shP f l).length≤n→parP n f (shP f l)=some l
 | [],f,n,_,_=>by cases n <;> simp [parP,shP]
 | x::r,f,0,h,hn=>by
  have h1:=ptX_ne f (h x (List.mem_cons_self ..))
  rw [shP,List.length_append] at hn
  omega
 | x::r,f,n+1,h,hn=>by
  have h1:=ptX_ne f (h x (List.mem_cons_self ..))
  rw [shP,List.length_append] at hn
  have hne:ptX f x++shP false r≠[]:=fun e=>by
   have:=congrArg List.length e
   rw [List.length_append] at this
   simp only [List.length_nil] at this
   omega
  rw [shP,parP,if_neg hne,nextO_put (h x (List.mem_cons_self ..)) (shP_head r)]
  simp only
  rw [parP_put r false n (fun y hy=>h y (List.mem_cons_of_mem _ hy)) (by omega)]
  rfl
theorem parP_back:∀ (n:Nat) (f:Bool) (s:List UInt8) (l:List Pt),parP n f s=some l→s=shP f l∧∀ x∈l,okP x=true
 | 0,f,s,l,h=>by
  simp only [parP] at h
  split at h
  ·cases h
   rename_i hs
   exact⟨hs,fun x hx=>by cases hx⟩
  ·cases h
 | n+1,f,s,l,h=>by
  simp only [parP] at h
  split at h
  ·cases h
   rename_i hs
   exact⟨hs,fun x hx=>by cases hx⟩
  ·cases hx:zf4 s f with
   | none=>rw [hx] at h;cases h
   | some x =>
    rw [hx] at h
    simp only at h
    cases hp:parP n false x.2 with
    | none=>rw [hp] at h;cases h
    | some r =>
     rw [hp] at h
     cases h
     obtain⟨g1,g2⟩:=nextO_back hx
     obtain⟨k1,k2⟩:=parP_back n false x.2 r hp
     refine⟨?_,fun y hy=>?_⟩
     ·rw [g2,shP,← k1]
     ·rcases List.mem_cons.1 hy with rfl | hy
      ·exact g1
      ·exact k2 y hy
theorem zfB {s:List UInt8} {l:List Pt} (h:zcz s=(l,0)):s=shP true l∧l.all okP=true∧s.length≤120:=by
 unfold zcz at h
 split at h
 ·exact absurd (show (9:Int)=0 from congrArg Prod.snd h) (by decide)
 ·rename_i hl
  cases hp:parP s.length true s with
  | none=>rw [hp] at h;exact absurd (show (9:Int)=0 from congrArg Prod.snd h) (by decide)
  | some r =>
   rw [hp] at h
   cases h
   obtain⟨g1,g2⟩:=parP_back _ _ _ _ hp
   exact⟨g1,List.all_eq_true.2 g2,by omega⟩
theorem pathV_bad {s:List UInt8} (h:(zcz s).2≠0):zcz s=([],9):=by
 unfold zcz at h ⊢
 split
 ·rfl
 ·rename_i hl
  rw [if_neg hl] at h
  cases hp:parP s.length true s with
  | none=>rfl
  | some r=>rw [hp] at h;exact absurd rfl h
theorem pathV_show {l:List Pt} (h:l.all okP=true) (hl:(shP true l).length≤120):zcz (shP true l)=(l,0):=by
 rw [zcz,if_neg (by omega),parP_put l true _ (List.all_eq_true.1 h) (Nat.le_refl _)]
theorem showP_eq (l:List Pt):zkP l=if zcz (shP true l)=(l,0) then (shP true l,0) else ([],9):=by
 unfold zkP
 by_cases h:zcz (shP true l)=(l,0)
 ·obtain⟨-,g2,g3⟩:=zfB h
  rw [if_pos h,if_pos ⟨g2,g3⟩]
 ·rw [if_neg h,if_neg (fun g=>h (pathV_show g.1 g.2))]
theorem showP_back {s:List UInt8} {l:List Pt} (h:zcz s=(l,0)):zkP l=(s,0):=by
 obtain⟨g1,g2,g3⟩:=zfB h
 rw [zkP,← g1,if_pos ⟨g2,g3⟩]
end Go.Proofs.YtamcppdhkeiaiaaGreatDoor
end

section
namespace Go.Proofs.YtamcppdhkeiaiaaGreatDoor
open Go Go.Eng
theorem index93:∀ s:List UInt8,Lib.index s [93]=if clL s < s.length then (clL s:Int) else -1
 | []=>by simp [Lib.index,clL,runL]
 | c::r=>by
  have ih:=index93 r
  by_cases hc:c=93
  ·subst hc
   have e:clL (93::r)=0:=rfl
   rw [e,if_pos (by simp)]
   unfold Lib.index
   rw [if_pos (by simp)]
   rfl
  ·have e:clL (c::r)=clL r+1:=by
    rw [clL,runL,if_pos (by simpa using hc)]
    rfl
   unfold Lib.index
   rw [if_neg (by simp [Ne.symm hc]),ih,e,List.length_cons]
   by_cases hk:clL r < r.length
   ·have g:(((clL r:Nat):Int) == -1)=false:=by rw [beq_eq_false_iff_ne];omega
    simp only [if_pos hk,g,Bool.false_eq_true,if_false,if_pos (show clL r+1 < r.length+1 by omega)]
    omega
   ·simp only [if_neg hk,if_neg (show ¬ clL r+1 < r.length+1 by omega)]
    rfl
theorem cut93 (s:List UInt8):Lib.cut s [93]=if clL s < s.length then (s.take (clL s),s.drop (clL s+1),true) else (s,[],false):=by
 rw [Lib.cut,index93]
 by_cases hk:clL s < s.length
 ·rw [if_pos hk,if_pos (by omega),if_pos hk,Int.toNat_natCast]
  rfl
 ·rw [if_neg hk,if_neg (by decide),if_neg hk]
theorem parseM:∀ (d:List UInt8) (acc:Nat),(acc+1) * 10 ^ d.length≤65536→Lib.parseUintM 65535 acc d=if d.all isDg=true then .ok (digV acc d) else Lib.NumEnd.syntax
 | [],acc,_=>by rw [Lib.parseUintM,List.all_nil,if_pos rfl,zhs]
 | c::r,acc,h=>by
  rw [List.length_cons,Nat.pow_succ,Nat.mul_comm (10 ^ r.length) 10,← Nat.mul_assoc] at h
  have h1:(acc+1) * 10≤65536:=Nat.le_trans (Nat.le_mul_of_pos_right _ (Nat.pow_pos (by decide))) h
  rw [Lib.parseUintM,List.all_cons]
  by_cases hc:48≤c.toNat∧c.toNat≤57
  ·have hd:isDg c=true:=isDg_iff.2 hc
   rw [if_pos hc,if_neg (by omega),if_neg (by omega),hd,Bool.true_and,digV_cons,show acc * 10+(c.toNat - 48)=10 * acc+(c.toNat - 48) by omega]
   refine parseM r _ (Nat.le_trans (Nat.mul_le_mul_right _ ?_) h)
   omega
  ·have hd:isDg c=false:=by
    cases hx:isDg c with
    | false=>rfl
    | true=>exact absurd (isDg_iff.1 hx) hc
   rw [if_neg hc,hd,Bool.false_and,if_neg (by decide)]
theorem parse16 {d:List UInt8} (hl:d.length≤3):Lib.parseUintB 16 d=if d≠[]∧d.all isDg=true then .ok (digV 0 d) else Lib.NumEnd.syntax:=by
 unfold Lib.parseUintB
 by_cases h0:d=[]
 ·rw [if_pos h0,if_neg (fun h=>h.1 h0)]
 ·rw [if_neg h0]
  have h3:10 ^ d.length≤10 ^ 3:=Nat.pow_le_pow_right (by decide) hl
  rw [show (2 ^ 16 - 1:Nat)=65535 from rfl,parseM d 0 (by omega)]
  by_cases ha:d.all isDg=true
  ·rw [if_pos ha,if_pos ⟨h0,ha⟩]
  ·rw [if_neg ha,if_neg (fun h=>ha h.2)]
theorem cutB_ok (t:List UInt8) (h:t.length < 4294967281):ACalls Tryz.prog 55 [str t,str [93]] [] (fun x _=>x=.ret (.tup [str (Lib.cut t [93]).1,str (Lib.cut t [93]).2.1,bl (Lib.cut t [93]).2.2])):=by
 refine acalls_belowG 1 (by simp [Globs.ints]) (by kernel_rfl) fun w O m vs n hn hr=>?_
 simp only [reps,str,rep] at hr
 obtain⟨_,_,e1,rfl,_,_,rfl,rfl,rfl⟩:=hr
 have ev:vs=#[.string ⟨t.toArray⟩,.string ⟨[93].toArray⟩]:=by
  apply Array.ext'
  simpa using e1
 subst ev
 refine(Tryz.strings_Cut _ ⟨[93].toArray⟩ n w (by simpa [ByteArray.size] using h) hn).mono ?_
 rintro e w' ⟨rfl,k,rfl⟩
 refine⟨⟨_,rfl,fun w' O m=>?_⟩,⟨rfl,rfl,rfl,Nat.le_refl _,fun _ _=>rfl⟩⟩
 simp only [rep]
 exact⟨_,rfl,by simp [reps,rep,str,bl]⟩
theorem PU_ok (t:List UInt8) (u:Nat) (hl:t.length≤1000000000) (hu:u < 18446744073709551616) (h:Lib.parseUintB 16 t=.ok u):ACalls Tryz.prog 56 [str t,i64 10,i64 16] [] (fun x _=>x=.ret (.tup [u64 (BitVec.ofNat 64 u),.lit .nilIface])) :=
 zff (by kernel_rfl) fun w O m vs hr=>by
  simp only [reps,str,rep,i64] at hr
  obtain⟨_,_,e1,rfl,_,_,rfl,rfl,_,_,rfl,rfl,rfl⟩:=hr
  obtain rfl:=zhq e1
  refine(Tryz.strconv_ParseUint_10_at16_ok ⟨t.toArray⟩ (by simp [ByteArray.size];omega) u (by simpa using h) w).mono ?_
  rintro e w' ⟨rfl,hw⟩
  refine⟨⟨_,rfl,fun w' O m=>?_⟩,?_⟩
  ·simp only [rep]
   refine⟨_,rfl,?_⟩
   simp only [reps,rep,u64]
   refine⟨_,_,rfl,?_,_,_,rfl,rfl,rfl⟩
   rw [BitVec.toNat_ofNat,Nat.mod_eq_of_lt (by omega)]
  ·rcases hw with rfl | rfl
   ·exact⟨rfl,rfl,rfl,Nat.le_refl _,fun _ _=>rfl⟩
   ·exact Lib.bytesWorld_below _ _ _
theorem PU_bad (t:List UInt8) (hl:t.length≤1000000000) (h:Lib.parseUintB 16 t=Lib.NumEnd.syntax):ACalls Tryz.prog 56 [str t,i64 10,i64 16] [] (fun x _=>x=.ret (.tup [u64 0,.ifc 171 .bot])) :=
 zgm 2 (by simp [Globs.errs]) (by kernel_rfl) fun w O m vs ty x hx hr=>by
  simp only [reps,str,rep,i64] at hr
  obtain⟨_,_,e1,rfl,_,_,rfl,rfl,_,_,rfl,rfl,rfl⟩:=hr
  obtain rfl:=zhq e1
  refine(Tryz.strconv_ParseUint_10_at16_syntax ⟨t.toArray⟩ (by simp [ByteArray.size];omega) (by simpa using h) (.iface ty x) w hx (.inr ⟨_,_,rfl⟩)).mono ?_
  rintro e w' ⟨N,rfl,_,_,hb⟩
  refine⟨⟨_,rfl,fun w' O m=>?_⟩,hb⟩
  simp only [rep,reps,u64]
  exact⟨_,rfl,_,_,rfl,rfl,_,_,rfl,⟨_,rfl,trivial⟩,rfl⟩
end Go.Proofs.YtamcppdhkeiaiaaGreatDoor
end

section
namespace Go.Proofs.YtamcppdhkeiaiaaGreatDoor
open Go Go.Eng
theorem bin_u32_rem {t:TypeId} {K:AV→Prop} (x y:BitVec 32) (h:y≠0#32):wbin T .rem t (u32 x) (u32 y) K=K (u32 (x % y)):=by
 have hy:(y.toNat:Int)≠0:=by
  intro h0
  exact h (BitVec.eq_of_toNat_eq (by simpa using h0))
 simp only [wbin,u32,true_and,ne_eq,hy,not_false_eq_true]
 rw [Int.tmod_eq_emod_of_nonneg (by omega),← Int.natCast_emod,← BitVec.toNat_umod]
theorem idx_strU {x:BitVec 32} {K:AV→Prop} (l:List UInt8):idx2 T (some tyStr) (str l) (u32 x) K=(0≤(x.toNat:Int)∧(x.toNat:Int) < l.length∧K (u8 (l.getD x.toNat 0))):=rfl
theorem conv_u32_u8 {σ:zad} {KS:AV→zad→Prop} (ts:TI) (x:BitVec 32):zic T (some ts) (some tyU8) (u32 x) σ KS=KS (u8 (UInt8.ofBitVec (x.setWidth 8))) σ:=by
 simp only [zic,tyU8,u32,u8,wrap_u8,zid]
theorem zj7 (l:List UInt8) (i:Nat) (x:UInt8):(l.map u8).set i (u8 x)=(l.set i x).map u8:=by rw [List.map_set]
def smallsL:List UInt8:=[48,48,48,49,48,50,48,51,48,52,48,53,48,54,48,55,48,56,48,57,49,48,49,49,49,50,49,51,49,52,49,53,49,54,49,55,49,56,49,57,50,48,50,49,50,50,50,51,50,52,50,53,50,54,50,55,50,56,50,57,51,48,51,49,51,50,51,51,51,52,51,53,51,54,51,55,51,56,51,57,52,48,52,49,52,50,52,51,52,52,52,53,52,54,52,55,52,56,52,57,53,48,53,49,53,50,53,51,53,52,53,53,53,54,53,55,53,56,53,57,54,48,54,49,54,50,54,51,54,52,54,53,54,54,54,55,54,56,54,57,55,48,55,49,55,50,55,51,55,52,55,53,55,54,55,55,55,56,55,57,56,48,56,49,56,50,56,51,56,52,56,53,56,54,56,55,56,56,56,57,57,48,57,49,57,50,57,51,57,52,57,53,57,54,57,55,57,56,57,57]
set_option maxRecDepth 100000 in
theorem smalls_eq:(([48,48,48,49,48,50,48,51,48,52,48,53,48,54,48,55,48,56,48,57,49,48,49,49,49,50,49,51,49,52,49,53,49,54,49,55,49,56,49,57,50,48,50,49,50,50,50,51,50,52]:List UInt8).append [50,53,50,54,50,55,50,56,50,57,51,48,51,49,51,50,51,51,51,52,51,53,51,54,51,55,51,56,51,57,52,48,52,49,52,50,52,51,52,52,52,53,52,54,52,55,52,56,52,57]).append (([53,48,53,49,53,50,53,51,53,52,53,53,53,54,53,55,53,56,53,57,54,48,54,49,54,50,54,51,54,52,54,53,54,54,54,55,54,56,54,57,55,48,55,49,55,50,55,51,55,52]:List UInt8).append [55,53,55,54,55,55,55,56,55,57,56,48,56,49,56,50,56,51,56,52,56,53,56,54,56,55,56,56,56,57,57,48,57,49,57,50,57,51,57,52,57,53,57,54,57,55,57,56,57,57])=smallsL:=rfl
theorem smalls_len:smallsL.length=200:=by decide +kernel
theorem smalls_get:∀ r,r < 100→smallsL.getD (2 * r) 0=UInt8.ofNat (48+r / 10)∧smallsL.getD (2 * r+1) 0=UInt8.ofNat (48+r % 10):=by decide +kernel
set_option maxRecDepth 100000 in
theorem fmt10_ok (l:List UInt8) (hl:l.length=24) (u:Nat) (h1:100≤u) (h2:u≤999):ACalls Tryz.prog 102 [.ref 0 0 3 1,u64 (BitVec.ofNat 64 u)] [.rw (l.map u8)] (fun y σ=>y=.ret (.tup [])∧σ=[.rw ((Lib.decDigits u++l.drop 3).map u8)]):=by
 refine ACalls.body T_ok Tryz.func102 (by kernel_rfl) rfl Tryz.ntmps102 (congrArg Array.toList Tryz.results102) ?_
 try simp -implicitDefEqProofs only [LM4,eq_self,zaa,zab,Nat.zero_mul,lzS,TB,SB,Int.reduceToNat,Nat.reduceAdd,Nat.reduceEqDiff,Nat.reduceLT,Nat.reduceMod,Nat.reducePow,Nat.reduceSub,if_true,reduceIte]
 rw [zbe]
 refine⟨Unit,fun _=>True,fun _=>[.ref 0 0 3 1,u64 (BitVec.ofNat 64 u),.bot,.bot,i64 3,.bot,.bot,.bot,.bot,.bot,.bot,.bot,.bot,.bot,.bot,.bot,.bot,.bot,.bot,.bot,.bot,.bot,.bot,.bot,.bot,.bot,.bot,.bot,.bot,.bot,.bot,.bot,.bot,.bot,.bot,.bot,.bot,.bot,.bot,.bot,.bot,.bot,.bot,.bot,.bot,.bot,.bot,.bot,.bot,.bot,.bot,.bot,.bot,.bot,.bot,.bot,.bot,.bot,.bot,.bot,.bot,.bot,.bot,.bot,.bot,.bot,.bot,.bot,.bot,.bot,.bot,.bot,.bot,.bot,.bot,.bot,.bot,.bot,.bot,.bot,.bot,.bot,.bot,.bot,.bot,.bot,.bot,.bot,.bot,.bot,.bot,.bot,.bot,.bot,.bot,.bot,.bot,.bot,.bot,.bot,.bot,.bot,.bot,.bot,.bot,.bot,.bot,.bot,.bot,.bot,.bot,.bot,.bot,.bot,.bot,.bot,.bot,.bot,.bot,.bot,.bot,.bot,.bot,.bot,.bot,.bot,.bot,.bot,.bot,.bot,.bot,.bot,.bot,.bot,.bot,.bot,.bot,.bot,.bot,.bot,.bot,.bot,.bot,.bot,.bot,.bot,.bot,.bot,.bot,.bot,.bot,.bot,.bot,.bot,.bot,.bot,.bot,.bot,.bot,.bot,.bot,.bot,.bot,.bot,.bot,.bot,.bot],fun _=>[.rw (l.map u8)],fun _=>0,(),trivial,zaj (q:=[0]) rfl rfl (by decide) ?_ ?_,?_⟩
 ·try simp only [FB,AV.ren,Nat.reduceAdd,reduceCtorEq]
  exact .inr rfl
 ·simp [zah,Blk.ren,zak u8 zaA]
 intro _ _
 have g8:decide ((8:Int)≤3)=false:=rfl
 have g4:decide ((4:Int)≤3)=false:=rfl
 have g2:decide ((2:Int)≤3)=true:=rfl
 have g0:decide ((0:Int) < 1)=true:=rfl
 have e1:BitVec.setWidth 32 (BitVec.ofNat 64 u) % 100#32 * 2#32=BitVec.ofNat 32 (2 * (u % 100)):=by
  apply BitVec.eq_of_toNat_eq
  simp only [BitVec.toNat_mul,BitVec.toNat_umod,BitVec.toNat_setWidth,BitVec.toNat_ofNat,Nat.reducePow,Nat.reduceMod]
  omega
 have e2:BitVec.setWidth 32 (BitVec.ofNat 64 u) / 100#32=BitVec.ofNat 32 (u / 100):=by
  apply BitVec.eq_of_toNat_eq
  simp only [BitVec.toNat_udiv,BitVec.toNat_setWidth,BitVec.toNat_ofNat,Nat.reducePow,Nat.reduceMod]
  omega
 try simp -implicitDefEqProofs only [LM4,eq_self,zaa,zab,Nat.zero_mul,lzS,g8,g4,g2,g0,bin_u32_rem _ 100#32 (by decide),bin_u32_quo _ 100#32 (by decide),TB,SB,Int.reduceToNat,Nat.reduceAdd,Nat.reduceEqDiff,Nat.reduceLT,Nat.reduceMod,Nat.reducePow,Nat.reduceSub,if_true,reduceIte]
 rw [e1,e2]
 refine zjG [12,1] (by kernel_rfl) (by kernel_rfl) (by kernel_rfl) ?_
 try simp -implicitDefEqProofs only [LM4,eq_self,zaa,zab,Nat.zero_mul,lzS,smalls_eq,TB,SB,Int.reduceToNat,Nat.reduceAdd,Nat.reduceEqDiff,Nat.reduceLT,Nat.reduceMod,Nat.reducePow,Nat.reduceSub,if_true,reduceIte]
 refine⟨by unfold inI;omega,by unfold inI;omega,?_⟩
 have t1:(BitVec.ofNat 32 (2 * (u % 100))+1#32).toNat=2 * (u % 100)+1:=by
  simp only [BitVec.toNat_add,BitVec.toNat_ofNat]
  omega
 have t2:(BitVec.ofNat 32 (2 * (u % 100))).toNat=2 * (u % 100):=by
  simp only [BitVec.toNat_ofNat]
  omega
 obtain⟨s1,s2⟩:=smalls_get (u % 100) (by omega)
 try simp -implicitDefEqProofs only [LM4,eq_self,zaa,zab,Nat.zero_mul,lzS,idx_strU,t1,t2,s1,s2,smalls_len,TB,SB,Int.reduceToNat,Nat.reduceAdd,Nat.reduceEqDiff,Nat.reduceLT,Nat.reduceMod,Nat.reducePow,Nat.reduceSub,if_true,reduceIte]
 refine⟨by omega,by omega,?_⟩
 rw [show (3 - 1:Int)=2 from rfl,show (3 - 2:Int)=1 from rfl,show Int.toNat 2=2 from rfl,show Int.toNat 1=1 from rfl]
 refine⟨by omega,by omega,by decide,by decide,by rw [List.length_map];omega,by decide,by decide,by rw [List.length_set,List.length_map];omega,by unfold inI;omega,fun _=>?_,fun h=>absurd h (by decide)⟩
 have e3:(48#32+BitVec.ofNat 32 (u / 100)).setWidth 8=(UInt8.ofNat (48+u / 100)).toBitVec:=by
  apply BitVec.eq_of_toNat_eq
  simp only [BitVec.toNat_add,BitVec.toNat_setWidth,BitVec.toNat_ofNat,UInt8.toNat_toBitVec,UInt8.toNat_ofNat',Nat.reducePow,Nat.reduceMod]
  omega
 try simp -implicitDefEqProofs only [LM4,eq_self,zaa,zab,Nat.zero_mul,lzS,conv_u32_u8,e3,TB,SB,Int.reduceToNat,Nat.reduceAdd,Nat.reduceEqDiff,Nat.reduceLT,Nat.reduceMod,Nat.reducePow,Nat.reduceSub,if_true,reduceIte]
 refine⟨by decide,by decide,by rw [List.length_set,List.length_set,List.length_map];omega,?_⟩
 rw [zj7,zj7,show (u8 { toBitVec:=(UInt8.ofNat (48+u / 100)).toBitVec })=u8 (UInt8.ofNat (48+u / 100)) from rfl,zj7]
 have hd:Lib.decDigits u=[UInt8.ofNat (48+u / 100),UInt8.ofNat (48+u % 100 / 10),UInt8.ofNat (48+u % 100 % 10)]:=by
  rw [← dec_3 (by omega) (by omega) (by omega) (by omega),show 100 * (u / 100)+10 * (u % 100 / 10)+u % 100 % 10=u by omega]
 rw [hd]
 match l,hl with
 | a::b::c::r,hl =>
  exact zaH ⟨rfl,rfl⟩
theorem zgB [Globs] {P:Program} {f:FuncId} {xs:List AV} {v:AV} (g:Nat) (cs:List Value) (hgt:Globs.tab g=some cs) (hc:zba P f=true)
  (h:∀ (w:World) (O:Nat→Prop) (m:Ids) (vs:Array Value),(∃ e f,w.heap[g]?=some (.cells cs.toArray e f))→reps w O m xs vs.toList→Calls P f vs w fun e w'=>(∃ u,e=.returned u∧∀ (w':World) (O:Nat→Prop) (m:Ids),rep w' O m v u)∧RowKit.Below w.heap.size w w'):ACalls P f xs [] (fun x _=>x=.ret v):=by
 refine fun H w m vs hg hs hr=>.inl ⟨hc,?_⟩
 obtain⟨_,_,hn,_⟩:=hg.1 g cs hgt
 refine(h w _ m vs hn hr).mono ?_
 rintro e w' ⟨⟨u,rfl,hu⟩,hb⟩
 obtain⟨s1,x1⟩:=hs.old (w':=w') hb.size hb.block hb.os hb.tape hb.output
 exact⟨.ret v,m,[],s1,x1,hu _ _ _,rfl⟩
theorem nDig3 {u:Nat} (h1:100≤u) (h2:u≤999):Lib.nDigits u=3:=by
 rw [Lib.nDigits,dif_neg (by omega),Lib.nDigits,dif_neg (by omega),Lib.nDigits,dif_pos (by omega)]
theorem numDig_ok (u:Nat) (h1:100≤u) (h2:u≤999):ACalls Tryz.prog 101 [u64 (BitVec.ofNat 64 u)] [] (fun x _=>x=.ret (i64 3)) :=
 zgB 4 powT rfl (by kernel_rfl) fun w O m vs hp hr=>by
  simp only [reps,u64,rep] at hr
  obtain⟨v,r,e1,rfl,rfl⟩:=hr
  rw [BitVec.toNat_ofNat,Nat.mod_eq_of_lt (by omega)] at e1
  have ev:vs=#[.int .u64 u]:=by
   apply Array.ext'
   simpa using e1
  subst ev
  obtain⟨e,f,hp⟩:=hp
  have htab : Go.Lib.TabIs Tryz.prog w "internal/strconv.uint64pow10" .u64 Go.Lib.pow10Tab := by
   show World.var? _ _ _=_
   unfold World.var?
   rw [show Program.globalNamed Tryz.prog "internal/strconv.uint64pow10" = some 4 by kernel_rfl, Option.bind_some, hp]
   rfl
  refine(Go.Proofs.Tryz.internal_strconv_numDigits u (by omega) (by omega) w htab).mono ?_
  rintro e w' ⟨rfl,rfl⟩
  exact⟨⟨_,rfl,fun w' O m=>by rw [nDig3 h1 h2];simp only [i64,rep];rfl⟩,RowKit.Below.refl _ _⟩
theorem small_ok (u:Nat) (h:u < 100):ACalls Tryz.prog 100 [i64 u] [] (fun x _=>x=.ret (str (Lib.decDigits u))) :=
 zff (by kernel_rfl) fun w O m vs hr=>by
  simp only [reps,i64,rep] at hr
  obtain⟨v,r,e1,rfl,rfl⟩:=hr
  have ev:vs=#[.int .i64 u]:=by
   apply Array.ext'
   simpa using e1
  subst ev
  refine(Go.Proofs.Tryz.internal_strconv_small u h w).mono ?_
  rintro e w' ⟨rfl,rfl⟩
  exact⟨⟨_,rfl,fun w' O m=>by simp only [str,rep]⟩,RowKit.Below.refl _ _⟩
theorem al_a24 {σ:zad} {KS:AV→zad→Prop} (e0:TypeId) (e:TypeId):al1 T e0 (some (tyArr 24 e tyU8)) σ KS=KS (.ptr σ.length 0) (σ++[.rw ((List.replicate 24 (0:UInt8)).map u8)]):=rfl
theorem slice_a24 {σ:zad} {K:AV→Prop} {id:Nat} {l:List UInt8} (hc:σ[id]?=some (.rw (l.map u8))) (hl:l.length=24) (hk:K (.ref id 0 3 1)):zbg T 174 (.ptr id 0) none (some (i64 3)) σ K:=by
 simp only [zbg,T174,tyArr,bnd,hc]
 exact⟨_,T5,by decide,by decide,by decide,by decide,by simp [tyU8,hl],by simpa [tyU8] using hk⟩
theorem iFU_ok (u:Nat) (h:u≤999):ACalls Tryz.prog 77 [u64 (BitVec.ofNat 64 u),i64 10] [] (fun x _=>x=.ret (str (Lib.decDigits u))):=by
 have hu:(BitVec.ofNat 64 u).toNat=u:=by
  rw [BitVec.toNat_ofNat];omega
 refine ACalls.body T_ok Tryz.func77 (by kernel_rfl) rfl Tryz.ntmps77 (congrArg Array.toList Tryz.results77) ?_
 try simp -implicitDefEqProofs only [LM4,eq_self,zaa,zab,Nat.zero_mul,lzS,TB,SB,Int.reduceToNat,Nat.reduceAdd,Nat.reduceEqDiff,Nat.reduceLT,Nat.reduceMod,Nat.reducePow,Nat.reduceSub,if_true,reduceIte]
 have hm:u % 18446744073709551616=u:=by omega
 by_cases h1:u < 100
 ·try simp -implicitDefEqProofs only [LM4,eq_self,zaa,zab,Nat.zero_mul,lzS,zih,hm,TB,SB,Int.reduceToNat,Nat.reduceAdd,Nat.reduceEqDiff,Nat.reduceLT,Nat.reduceMod,Nat.reducePow,Nat.reduceSub,if_true,reduceIte]
  refine⟨fun _=>?_,fun hc=>absurd (show (u:Int) < (100:Nat) by omega) hc⟩
  try simp -implicitDefEqProofs only [LM4,eq_self,zaa,zab,Nat.zero_mul,lzS,zfe,hm,TB,SB,Int.reduceToNat,Nat.reduceAdd,Nat.reduceEqDiff,Nat.reduceLT,Nat.reduceMod,Nat.reducePow,Nat.reduceSub,if_true,reduceIte]
  rw [show IntKind.i64.wrap (u:Int)=u by simp [IntKind.wrap,IntKind.bits,IntKind.signed];omega]
  refine(small_ok u h1).pure (by simp [renL,zag]) ?_
  rintro _ σ rfl
  refine⟨zai _ _,?_⟩
  try simp -implicitDefEqProofs only [LM4,eq_self,zaa,zab,Nat.zero_mul,lzS,TB,SB,Int.reduceToNat,Nat.reduceAdd,Nat.reduceEqDiff,Nat.reduceLT,Nat.reduceMod,Nat.reducePow,Nat.reduceSub,if_true,reduceIte]
  exact zfy rfl
 obtain⟨z,hz⟩:∃ z,z=List.replicate 24 (0:UInt8):=⟨_,rfl⟩
 have hzl:z.length=24:=by rw [hz];rfl
 try simp -implicitDefEqProofs only [LM4,eq_self,zaa,zab,Nat.zero_mul,lzS,zih,hm,TB,SB,Int.reduceToNat,Nat.reduceAdd,Nat.reduceEqDiff,Nat.reduceLT,Nat.reduceMod,Nat.reducePow,Nat.reduceSub,if_true,reduceIte]
 refine⟨fun hc=>absurd hc (show ¬ ((u:Int) < (100:Nat)) by omega),fun _=>?_⟩
 try simp -implicitDefEqProofs only [LM4,eq_self,zaa,zab,Nat.zero_mul,lzS,al_a24,← hz,TB,SB,Int.reduceToNat,Nat.reduceAdd,Nat.reduceEqDiff,Nat.reduceLT,Nat.reduceMod,Nat.reducePow,Nat.reduceSub,if_true,reduceIte]
 refine(numDig_ok u (by omega) h).pure (by simp [renL,zay]) ?_
 rintro _ σ rfl
 refine⟨zag _ _,?_⟩
 try simp -implicitDefEqProofs only [LM4,eq_self,zaa,zab,Nat.zero_mul,lzS,TB,SB,Int.reduceToNat,Nat.reduceAdd,Nat.reduceEqDiff,Nat.reduceLT,Nat.reduceMod,Nat.reducePow,Nat.reduceSub,if_true,reduceIte]
 refine slice_a24 rfl hzl ?_
 try simp -implicitDefEqProofs only [LM4,eq_self,zaa,zab,Nat.zero_mul,lzS,TB,SB,Int.reduceToNat,Nat.reduceAdd,Nat.reduceEqDiff,Nat.reduceLT,Nat.reduceMod,Nat.reducePow,Nat.reduceSub,if_true,reduceIte]
 refine(fmt10_ok z hzl u (by omega) h).mono ?_
 rintro _ _ ⟨rfl,rfl⟩
 try simp -implicitDefEqProofs only [LM4,eq_self,zaa,zab,Nat.zero_mul,lzS,TB,SB,Int.reduceToNat,Nat.reduceAdd,Nat.reduceEqDiff,Nat.reduceLT,Nat.reduceMod,Nat.reducePow,Nat.reduceSub,if_true,reduceIte]
 have hdl:(Lib.decDigits u).length=3:=by
  rcases zj5 h with ⟨x,hx,rfl,e⟩ | ⟨x,y,h0,hx,hy,rfl,e⟩ | ⟨x,y,z,h0,hx,hy,hz,rfl,e⟩
  ·omega
  ·omega
  ·rw [e];rfl
 refine slice_a24 rfl (by rw [List.length_append,List.length_drop];omega) ?_
 try simp -implicitDefEqProofs only [LM4,eq_self,zaa,zab,Nat.zero_mul,lzS,TB,SB,Int.reduceToNat,Nat.reduceAdd,Nat.reduceEqDiff,Nat.reduceLT,Nat.reduceMod,Nat.reducePow,Nat.reduceSub,if_true,reduceIte]
 refine⟨by rw [List.length_append,List.length_drop];omega,?_⟩
 exact zfy (by rw [List.take_left' hdl])
theorem FU_ok (u:Nat) (h:u≤999):ACalls Tryz.prog 57 [u64 (BitVec.ofNat 64 u),i64 10] [] (fun x _=>x=.ret (str (Lib.decDigits u))):=by
 refine ACalls.body T_ok Tryz.func57 (by kernel_rfl) rfl Tryz.ntmps57 (congrArg Array.toList Tryz.results57) ?_
 try simp -implicitDefEqProofs only [LM4,eq_self,zaa,zab,Nat.zero_mul,lzS,TB,SB,Int.reduceToNat,Nat.reduceAdd,Nat.reduceEqDiff,Nat.reduceLT,Nat.reduceMod,Nat.reducePow,Nat.reduceSub,if_true,reduceIte]
 refine(iFU_ok u h).pure (by simp [renL,zay,zag]) ?_
 rintro _ σ rfl
 refine⟨zai _ _,?_⟩
 try simp -implicitDefEqProofs only [LM4,eq_self,zaa,zab,Nat.zero_mul,lzS,TB,SB,Int.reduceToNat,Nat.reduceAdd,Nat.reduceEqDiff,Nat.reduceLT,Nat.reduceMod,Nat.reducePow,Nat.reduceSub,if_true,reduceIte]
 exact zfy rfl
end Go.Proofs.YtamcppdhkeiaiaaGreatDoor
end

section
namespace Go.Proofs.YtamcppdhkeiaiaaGreatDoor
open Go Go.Eng
def ptQ (x:Pt):List Value:=[.string ⟨x.key.toArray⟩,.int .i64 x.pos]
theorem ptQ_inj {a b:Pt} (h:ptQ a=ptQ b):a=b:=by
 obtain⟨x,y⟩:=a
 obtain⟨x',y'⟩:=b
 simp only [ptQ,List.cons.injEq,Value.string.injEq,Value.int.injEq,ByteArray.mk.injEq,and_true,true_and] at h
 obtain⟨h1,rfl⟩:=h
 have:x=x':=by have:=congrArg Array.toList h1;simpa using this
 rw [this]
theorem zjo {l r:List Value} (h:zaS l=zaS r):l=r:=by
 induction l generalizing r with
 | nil=>cases r with | nil=>rfl | cons _ _=>cases h
 | cons x l ih =>
  cases r with
  | nil=>cases h
  | cons y r =>
   simp only [zaS,List.map_cons,List.cons.injEq,AV.lit.injEq] at h
   rw [h.1,ih h.2]
theorem fit_pst (n:Pt):fitE T 2 43 (ptQ n):=by
 rw [fitE]
 simp only [T43,tyPt]
 refine⟨trivial,rfl,rfl,?_⟩
 intro f hf
 simp only [List.mem_cons,List.not_mem_nil,or_false] at hf
 rcases hf with rfl | rfl
 ·exact⟨⟨_,T9⟩,fit_1 T9 rfl⟩
 ·exact⟨⟨_,T3⟩,fit_1 T3 rfl⟩
theorem eqP_pst (a b:Pt):eqP T 43 (ptC a) (ptC b) (2,ptQ a,ptQ b,decide (a=b)) :=
 ⟨rfl,rfl,(by show 2≤100;omega),⟨tyPt,T43,rfl⟩,fit_pst a,fit_pst b,by simp only [decide_eq_true_eq];exact⟨fun h=>by rw [h],fun h=>ptQ_inj h⟩⟩
theorem eqPv_pst {a b:Pt} {q:Nat × List Value × List Value × Bool} (h:eqP T 43 (ptC a) (ptC b) q):q.2.2.2=decide (a=b):=by
 obtain⟨h1,h2,_,_,_,_,h3⟩:=h
 have e1:=zjo (l:=ptQ a) h1
 have e2:=zjo (l:=ptQ b) h2
 rw [Bool.eq_iff_iff,h3,← e1,← e2,decide_eq_true_eq]
 exact⟨ptQ_inj,fun h=>by rw [h]⟩
theorem bn_pst_neq {a b:Pt} {K:AV→Prop}:wbin T .neq 43 (.agg (ptC a)) (.agg (ptC b)) K=K (bl (!decide (a=b))):=by
 apply propext
 constructor
 ·rintro⟨q,hq,hk⟩
  rw [← eqPv_pst hq]
  exact hk
 ·exact fun hk=>⟨_,eqP_pst a b,hk⟩
theorem psame_ok (a b:List Pt) (ha:a.length≤1000000000000):ACalls Tryz.prog 28 [.sl (a.flatMap ptC) a.length,.sl (b.flatMap ptC) b.length] [] (fun y _=>y=.ret (bl (decide (a=b)))):=by
 refine ACalls.body T_ok Tryz.func28 (by kernel_rfl) rfl Tryz.ntmps28 (congrArg Array.toList Tryz.results28) ?_
 try simp -implicitDefEqProofs only [LM4,eq_self,zaa,zab,Nat.zero_mul,lzS,TB,SB,Int.reduceToNat,Nat.reduceAdd,Nat.reduceEqDiff,Nat.reduceLT,Nat.reduceMod,Nat.reducePow,Nat.reduceSub,if_true,reduceIte]
 refine⟨fun hne=>?_,fun heq=>?_⟩
 ·refine zaR ?_
  rw [decide_eq_false (fun h=>hne (by rw [h]))]
 have hl:a.length=b.length:=by omega
 rw [zbe]
 refine⟨Nat,fun k=>k≤a.length∧∀ i,i < k→a.getD i pt0=b.getD i pt0,fun k=>[.sl (a.flatMap ptC) a.length,.sl (b.flatMap ptC) b.length,.bot,.bot,.bot,.bot,.bot,.bot,.bot,.bot,.bot,.bot,i64 a.length,i64 k,.bot,.bot,.bot,.bot,.bot,.bot,.bot,.bot,.bot,.bot,.bot,.bot],fun _=>[],fun k=>a.length - k,0,⟨Nat.zero_le _,fun i hi=>by omega⟩,?_,?_⟩
 ·refine zaj (q:=[]) rfl rfl (by decide) ?_ ?_
  ·skip
   try simp only [FB,AV.ren,Nat.reduceAdd,reduceCtorEq]
   simp [zbv]
  ·skip
   try simp only [FB,AV.ren,Nat.reduceAdd,reduceCtorEq]
 ·rintro k ⟨hk,hsame⟩
  try simp -implicitDefEqProofs only [LM4,eq_self,zaa,zab,Nat.zero_mul,lzS,TB,SB,Int.reduceToNat,Nat.reduceAdd,Nat.reduceEqDiff,Nat.reduceLT,Nat.reduceMod,Nat.reducePow,Nat.reduceSub,if_true,reduceIte]
  refine⟨fun hlt=>?_,fun hge=>?_⟩
  ·skip
   refine zdK (by kernel_rfl) (by kernel_rfl) ?_
   try simp -implicitDefEqProofs only [LM4,eq_self,zaa,zab,Nat.zero_mul,lzS,TB,SB,Int.reduceToNat,Nat.reduceAdd,Nat.reduceEqDiff,Nat.reduceLT,Nat.reduceMod,Nat.reducePow,Nat.reduceSub,if_true,reduceIte]
   repeat (with_reducible refine zbY ?_)
   rw [← zep,← zep,bn_pst_neq]
   try simp -implicitDefEqProofs only [LM4,eq_self,zaa,zab,Nat.zero_mul,lzS,TB,SB,Int.reduceToNat,Nat.reduceAdd,Nat.reduceEqDiff,Nat.reduceLT,Nat.reduceMod,Nat.reducePow,Nat.reduceSub,if_true,reduceIte]
   refine⟨fun hne=>?_,fun heq=>?_⟩
   ·refine zaR ?_
    rw [decide_eq_false (by rintro rfl;exact hne rfl)]
   ·skip
    repeat (with_reducible refine zbY ?_)
    rw [zal]
    refine⟨k+1,⟨by omega,fun i hi=>?_⟩,by omega,zaj (q:=[]) rfl rfl (by decide) ?_ ?_⟩
    ·rcases Nat.lt_succ_iff_lt_or_eq.1 hi with h | rfl
     ·exact hsame i h
     ·simpa using heq
    ·skip
     try simp only [FB,AV.ren,Nat.reduceAdd,reduceCtorEq]
     simp [zbv]
    ·skip
     try simp only [FB,AV.ren,Nat.reduceAdd,reduceCtorEq]
  ·obtain rfl:k=a.length:=by omega
   try simp -implicitDefEqProofs only [LM4,eq_self,zaa,zab,Nat.zero_mul,lzS,TB,SB,Int.reduceToNat,Nat.reduceAdd,Nat.reduceEqDiff,Nat.reduceLT,Nat.reduceMod,Nat.reducePow,Nat.reduceSub,if_true,reduceIte]
   refine zaR ?_
   rw [decide_eq_true (List.ext_getElem hl fun i h1 h2=>by simpa [h1,h2] using hsame i h1)]
end Go.Proofs.YtamcppdhkeiaiaaGreatDoor
end

section
namespace Go.Proofs.YtamcppdhkeiaiaaGreatDoor
open Go Go.Eng
def zf5 (s:List UInt8):Pt × List UInt8 × Bool:=match numV s with
 | some x=>(x.1,x.2,true)
 | none=>(pt0,[],false)
theorem zht {s:List UInt8} (h:numV s=none):zf5 s=(pt0,[],false):=by rw [zf5,h]
theorem pnumber_ok (s:List UInt8) (hs:s.length≤1000000000):ACalls Tryz.prog 40 [str s] [] (fun y _=>y=.ret (tupP (zf5 s))):=by
 refine ACalls.body T_ok Tryz.func40 (by kernel_rfl) rfl Tryz.ntmps40 (congrArg Array.toList Tryz.results40) ?_
 try simp -implicitDefEqProofs only [LM4,eq_self,zaa,zab,Nat.zero_mul,lzS,TB,SB,Int.reduceToNat,Nat.reduceAdd,Nat.reduceEqDiff,Nat.reduceLT,Nat.reduceMod,Nat.reducePow,Nat.reduceSub,if_true,reduceIte]
 refine(cutB_ok s (by omega)).pure (by simp [renL,zai]) ?_
 rintro _ σ rfl
 refine⟨by simp [AEnd.noid,AV.ren,renL,zai,zao],?_⟩
 rw [cut93]
 by_cases hk:clL s < s.length
 rotate_left
 ·rw [if_neg hk]
  try simp -implicitDefEqProofs only [LM4,eq_self,zaa,zab,Nat.zero_mul,lzS,TB,SB,Int.reduceToNat,Nat.reduceAdd,Nat.reduceEqDiff,Nat.reduceLT,Nat.reduceMod,Nat.reducePow,Nat.reduceSub,if_true,reduceIte]
  exact zcv (x:=zf5 s) (by rw [zht (by rw [numV,if_neg hk])];rfl) rfl
 rw [if_pos hk]
 obtain⟨d,hd⟩:∃ d,d=s.take (clL s):=⟨_,rfl⟩
 have hn:numV s=(numD d).map fun (u:Nat)=>((⟨[],(u:Int)⟩:Pt),s.drop (clL s+1)):=by rw [numV,if_pos hk,hd]
 rw [← hd]
 by_cases h3:3 < (d.length:Int)
 ·have d3:=decide_eq_true h3
  try simp -implicitDefEqProofs only [LM4,eq_self,zaa,zab,Nat.zero_mul,lzS,d3,TB,SB,Int.reduceToNat,Nat.reduceAdd,Nat.reduceEqDiff,Nat.reduceLT,Nat.reduceMod,Nat.reducePow,Nat.reduceSub,if_true,reduceIte]
  exact zcv (x:=zf5 s) (by rw [zht (by rw [hn,numD,if_neg (by simp [numB];omega)];rfl)];rfl) rfl
 have d3:=decide_eq_false h3
 try simp -implicitDefEqProofs only [LM4,eq_self,zaa,zab,Nat.zero_mul,lzS,d3,TB,SB,Int.reduceToNat,Nat.reduceAdd,Nat.reduceEqDiff,Nat.reduceLT,Nat.reduceMod,Nat.reducePow,Nat.reduceSub,if_true,reduceIte]
 have hp:=parse16 (d:=d) (by omega)
 by_cases hb:d≠[]∧d.all isDg=true
 rotate_left
 ·rw [if_neg hb] at hp
  refine(PU_bad d (by omega) hp).pure (by simp [renL,zai,zag]) ?_
  rintro _ σ rfl
  refine⟨by simp [AEnd.noid,AV.ren,renL,zay],?_⟩
  try simp -implicitDefEqProofs only [LM4,eq_self,zaa,zab,Nat.zero_mul,lzS,TB,SB,Int.reduceToNat,Nat.reduceAdd,Nat.reduceEqDiff,Nat.reduceLT,Nat.reduceMod,Nat.reducePow,Nat.reduceSub,if_true,reduceIte]
  have hnn:numD d=none:=by
   rw [numD,if_neg (fun h=>hb (by simp only [numB,Bool.and_eq_true,decide_eq_true_eq] at h;exact⟨h.1.1,h.2⟩))]
  exact zcv (x:=zf5 s) (by rw [zht (by rw [hn,hnn];rfl)];rfl) rfl
 rw [if_pos hb] at hp
 have hu:digV 0 d≤999:=by
  obtain⟨g1,g2⟩:=hb
  rw [List.all_eq_true] at g2
  match d,g1,g2,h3 with
  | [a],_,g2,_ =>
   obtain⟨x,hx,rfl⟩:=zhi (g2 a (by simp))
   rw [digV_1 hx];omega
  | [a,b],_,g2,_ =>
   obtain⟨x,hx,rfl⟩:=zhi (g2 a (by simp))
   obtain⟨y,hy,rfl⟩:=zhi (g2 b (by simp))
   rw [digV_2 hx hy];omega
  | [a,b,c],_,g2,_ =>
   obtain⟨x,hx,rfl⟩:=zhi (g2 a (by simp))
   obtain⟨y,hy,rfl⟩:=zhi (g2 b (by simp))
   obtain⟨z,hz,rfl⟩:=zhi (g2 c (by simp))
   rw [digV_3 hx hy hz];omega
  | a::b::c::e::r,_,_,h3=>exact absurd h3 (by simp;omega)
 refine(PU_ok d (digV 0 d) (by omega) (by omega) hp).pure (by simp [renL,zai,zag]) ?_
 rintro _ σ rfl
 refine⟨by simp [AEnd.noid,AV.ren,renL,zay],?_⟩
 try simp -implicitDefEqProofs only [LM4,eq_self,zaa,zab,Nat.zero_mul,lzS,TB,SB,Int.reduceToNat,Nat.reduceAdd,Nat.reduceEqDiff,Nat.reduceLT,Nat.reduceMod,Nat.reducePow,Nat.reduceSub,if_true,reduceIte]
 refine(FU_ok (digV 0 d) hu).pure (by simp [renL,zay,zag]) ?_
 rintro _ σ rfl
 refine⟨zai _ _,?_⟩
 by_cases he:Lib.decDigits (digV 0 d)=d
 ·have de:=decide_eq_true he
  have hm:digV 0 d % 18446744073709551616=digV 0 d:=by omega
  have hw:IntKind.i64.wrap ((digV 0 d:Nat):Int)=(digV 0 d:Nat):=by simp [IntKind.wrap,IntKind.bits,IntKind.signed];omega
  try simp -implicitDefEqProofs only [LM4,eq_self,zaa,zab,Nat.zero_mul,lzS,de,zfe,hm,hw,TB,SB,Int.reduceToNat,Nat.reduceAdd,Nat.reduceEqDiff,Nat.reduceLT,Nat.reduceMod,Nat.reducePow,Nat.reduceSub,if_true,reduceIte]
  have hv:numD d=some (digV 0 d):=by
   have:=numD_dec hu
   rwa [he] at this
  refine zcv (x:=zf5 s) ?_ rfl
  rw [zf5,hn,hv]
  rfl
 ·have de:=decide_eq_false he
  try simp -implicitDefEqProofs only [LM4,eq_self,zaa,zab,Nat.zero_mul,lzS,de,TB,SB,Int.reduceToNat,Nat.reduceAdd,Nat.reduceEqDiff,Nat.reduceLT,Nat.reduceMod,Nat.reducePow,Nat.reduceSub,if_true,reduceIte]
  refine zcv (x:=zf5 s) ?_ rfl
  rw [zht (by
   rw [hn]
   cases hv:numD d with
   | none=>rfl
   | some u =>
    obtain⟨-,g⟩:=zjm hv
    have:u=digV 0 d:=by
     unfold numD at hv
     split at hv
     ·exact(Option.some.inj hv).symm
     ·cases hv
    rw [← this] at he
    exact absurd g.symm he)]
  rfl
def zg3 (s:List UInt8) (f:Bool):Pt × List UInt8 × Bool:=match s with
 | []=>(pt0,[],false)
 | c::r=>if c=91 then zf5 r else if f then zg0 (c::r) else if c=46 then zg0 r else (pt0,[],false)
theorem pnumT_eq (s:List UInt8):match numV s with | some x=>zf5 s=(x.1,x.2,true) | none=>(zf5 s).2.2=false:=by
 unfold zf5
 split <;> rfl
theorem nameV_eq (s:List UInt8):match zhj s with | some x=>zg0 s=(x.1,x.2,true) | none=>(zg0 s).2.2=false:=by
 unfold zhj zg0
 by_cases h:0 < nmL s
 ·rw [if_pos h]
  simp only [decide_eq_true h]
 ·rw [if_neg h]
  simp only [decide_eq_false h]
theorem nextT_eq (s:List UInt8) (f:Bool):match zf4 s f with | some x=>zg3 s f=(x.1,x.2,true) | none=>(zg3 s f).2.2=false:=by
 cases s with
 | nil=>rfl
 | cons c r =>
  simp only [zf4,zg3]
  by_cases h1:c=91
  ·rw [if_pos h1,if_pos h1]
   exact pnumT_eq r
  ·rw [if_neg h1,if_neg h1]
   cases f with
   | true =>
    simp only [if_true]
    exact nameV_eq (c::r)
   | false =>
    simp only [Bool.false_eq_true,if_false]
    by_cases h2:c=46
    ·rw [if_pos h2,if_pos h2]
     exact nameV_eq r
    ·rw [if_neg h2,if_neg h2]
theorem pnext_ok (c:UInt8) (r:List UInt8) (f:Bool) (hs:r.length≤999999999):ACalls Tryz.prog 22 [str (c::r),bl f] [] (fun y _=>y=.ret (tupP (zg3 (c::r) f))):=by
 refine ACalls.body T_ok Tryz.func22 (by kernel_rfl) rfl Tryz.ntmps22 (congrArg Array.toList Tryz.results22) ?_
 try simp -implicitDefEqProofs only [LM4,eq_self,zaa,zab,Nat.zero_mul,lzS,TB,SB,Int.reduceToNat,Nat.reduceAdd,Nat.reduceEqDiff,Nat.reduceLT,Nat.reduceMod,Nat.reducePow,Nat.reduceSub,if_true,reduceIte]
 refine⟨by decide,by omega,?_⟩
 rw [List.getD_cons_zero,show UInt8.ofNat 91=91 from rfl]
 refine⟨fun h1=>?_,fun h1=>?_⟩
 ·refine⟨by decide,by omega,?_⟩
  refine(pnumber_ok r (by omega)).pure (by simp [renL,zai]) ?_
  rintro _ σ rfl
  refine⟨zfA _ _,?_⟩
  have e:zg3 (c::r) f=zf5 r:=by rw [zg3,if_pos h1]
  rw [e]
  generalize zf5 r=z
  rw [zf2]
  try simp -implicitDefEqProofs only [LM4,eq_self,zaa,zab,Nat.zero_mul,lzS,TB,SB,Int.reduceToNat,Nat.reduceAdd,Nat.reduceEqDiff,Nat.reduceLT,Nat.reduceMod,Nat.reducePow,Nat.reduceSub,if_true,reduceIte]
  exact zcv (x:=z) rfl rfl
 cases f with
 | true =>
  try simp -implicitDefEqProofs only [LM4,eq_self,zaa,zab,Nat.zero_mul,lzS,TB,SB,Int.reduceToNat,Nat.reduceAdd,Nat.reduceEqDiff,Nat.reduceLT,Nat.reduceMod,Nat.reducePow,Nat.reduceSub,if_true,reduceIte]
  refine(name_ok (c::r) (by rw [List.length_cons];omega)).pure (by simp [renL,zai]) ?_
  rintro _ σ rfl
  refine⟨zfA _ _,?_⟩
  have e:zg3 (c::r) true=zg0 (c::r):=by rw [zg3,if_neg h1,if_pos rfl]
  rw [e]
  generalize zg0 (c::r)=z
  rw [zf2]
  try simp -implicitDefEqProofs only [LM4,eq_self,zaa,zab,Nat.zero_mul,lzS,TB,SB,Int.reduceToNat,Nat.reduceAdd,Nat.reduceEqDiff,Nat.reduceLT,Nat.reduceMod,Nat.reducePow,Nat.reduceSub,if_true,reduceIte]
  exact zcv (x:=z) rfl rfl
 | false =>
  try simp -implicitDefEqProofs only [LM4,eq_self,zaa,zab,Nat.zero_mul,lzS,TB,SB,Int.reduceToNat,Nat.reduceAdd,Nat.reduceEqDiff,Nat.reduceLT,Nat.reduceMod,Nat.reducePow,Nat.reduceSub,if_true,reduceIte]
  refine⟨by decide,by omega,?_⟩
  rw [List.getD_cons_zero,show UInt8.ofNat 46=46 from rfl]
  refine⟨fun h2=>?_,fun h2=>⟨by decide,by omega,?_⟩⟩
  ·refine zcv (x:=zg3 (c::r) false) ?_ rfl
   rw [zg3,if_neg h1,if_neg (by decide),if_neg h2]
   rfl
  ·refine(name_ok r (by omega)).pure (by simp [renL,zai]) ?_
   rintro _ σ rfl
   refine⟨zfA _ _,?_⟩
   have e:zg3 (c::r) false=zg0 r:=by rw [zg3,if_neg h1,if_neg (by decide),if_pos h2]
   rw [e]
   generalize zg0 r=z
   rw [zf2]
   try simp -implicitDefEqProofs only [LM4,eq_self,zaa,zab,Nat.zero_mul,lzS,TB,SB,Int.reduceToNat,Nat.reduceAdd,Nat.reduceEqDiff,Nat.reduceLT,Nat.reduceMod,Nat.reducePow,Nat.reduceSub,if_true,reduceIte]
   exact zcv (x:=z) rfl rfl
theorem end_P {σ:zad} {a:AV} {l:List Pt} {e:Int} {K:AV→zad→Prop} (ids:List Nat) (h:frzA (zeX σ ids) a (slP l)) (hK:K (.tup [slP l,i64 e]) []):endQ 0 (.tup [a,i64 e]) σ K :=
 zgl ids (.tup [slP l,i64 e]) ⟨_,rfl,_,_,rfl,h,_,_,rfl,.inl rfl,rfl⟩ ⟨[],.tup [slP l,i64 e],[],rfl,rfl,by decide,by simp [AV.ren,renL,zb8,zag],trivial,hK⟩
theorem frz_nP {σ:zad}:frzA σ (.lit (.slice none 0 0)) (slP []):=.inr ⟨rfl,rfl⟩
theorem pt_app {σ:zad} {KS:AV→zad→Prop} {id n:Nat} {l:List Pt} {y:Pt} {x:AV} (hc:σ[id]?=some (.rw (l.flatMap ptC))) (hn:n=l.length) (hx:asrc σ 2 x=some ([y].flatMap ptC,1)) (g:l.length≤1000000) (hk:KS (.ref σ.length 0 (n+1) 2) (σ.set id .dead++[.rw ((l++[y]).flatMap ptC)])):zbH T #[22,22] (.ref id 0 n 2) x σ KS:=by
 subst hn
 exact ptF.app rfl rfl T22 T22 (zfX _) T43 rfl rfl hc hx rfl (by omega) (by simp only [tyPt];omega) hk
def zhk (l:List Pt) (r:List UInt8):Option (List Pt):=(parP r.length l.isEmpty r).map (l++·)
theorem contP_nil (l:List Pt):zhk l []=some l:=by simp [zhk,parP]
theorem contP_no {l:List Pt} {r:List UInt8} (h:zf4 r l.isEmpty=none) (hr:r≠[]):zhk l r=none:=by
 cases r with
 | nil=>exact absurd rfl hr
 | cons c r=>rw [zhk,List.length_cons,parP,if_neg (List.cons_ne_nil _ _),h];rfl
theorem contP_step {l:List Pt} {r:List UInt8} {x:Pt × List UInt8} (h:zf4 r l.isEmpty=some x) (hr:r≠[]):zhk l r=zhk (l++[x.1]) x.2:=by
 cases r with
 | nil=>exact absurd rfl hr
 | cons c r =>
  have hl:=zj6 h
  rw [List.length_cons] at hl
  rw [zhk,List.length_cons,parP,if_neg (List.cons_ne_nil _ _),h,zhk,show (l++[x.1]).isEmpty=false by cases l <;> rfl]
  simp only
  rw [parP_fuel r.length x.2.length false x.2 (by omega) (Nat.le_refl _),Option.map_map]
  congr 1
  funext y
  simp
theorem bs_P {σ:zad} {K:AV→zad→Prop} (k:List UInt8) (b:Int):bs2 (some tyPt) 1 [(0,.agg [str k,i64 b])] σ K=K (.ref σ.length 0 1 2) (σ++[.rw [str k,i64 b]]):=by
 simp [bs2,tyPt,zb9,zcq,AV.cells,zbf,List.range_succ,List.replicate,zd5,zcl]
theorem zhu (s:List UInt8) (hs:s.length≤9223372036854775807):ACalls Tryz.prog 8 [str s] [] (fun y _=>y=.ret (.tup [slP (zcz s).1,i64 (zcz s).2])):=by
 obtain⟨X,hX⟩:∃ X,X=zcz s:=⟨_,rfl⟩
 rw [← hX]
 refine ACalls.body T_ok Tryz.func8 (by kernel_rfl) rfl Tryz.ntmps8 (congrArg Array.toList Tryz.results8) ?_
 by_cases h0:120 < (s.length:Int)
 ·have d0:=decide_eq_true h0
  try simp -implicitDefEqProofs only [LM4,eq_self,zaa,zab,Nat.zero_mul,lzS,d0,TB,SB,Int.reduceToNat,Nat.reduceAdd,Nat.reduceEqDiff,Nat.reduceLT,Nat.reduceMod,Nat.reducePow,Nat.reduceSub,if_true,reduceIte]
  exact end_P (l:=[]) [] frz_nP (by rw [hX,zcz,if_pos (by omega)])
 have d0:=decide_eq_false h0
 have hX2:X=match zhk [] s with | some l=>(l,0) | none=>([],9):=by
  rw [hX,zcz,if_neg (by omega),zhk]
  cases hp:parP s.length true s with
  | none=>simp [hp]
  | some l=>simp [hp]
 try simp -implicitDefEqProofs only [LM4,eq_self,zaa,zab,Nat.zero_mul,lzS,d0,TB,SB,Int.reduceToNat,Nat.reduceAdd,Nat.reduceEqDiff,Nat.reduceLT,Nat.reduceMod,Nat.reducePow,Nat.reduceSub,if_true,reduceIte]
 rw [zbe]
 refine⟨List Pt × List UInt8,fun x=>zhk [] s=zhk x.1 x.2∧x.1.length+x.2.length≤120,fun x=>[str x.2,.bot,.lit (.slice none 0 0),i64 0,.ref 0 0 x.1.length 2,.bot,.bot,.bot,.bot,.bot,.bot,.bot,.bot,.bot,.bot,.bot,.bot,.bot,.bot,.bot,.bot,.bot,.bot,.bot,.bot,.bot,.bot,.bot,.bot,.bot],fun x=>[.rw (x.1.flatMap ptC)],fun x=>x.2.length,([],s),⟨rfl,by simp;omega⟩,zfv 4 2 rfl (zaj (q:=[0]) rfl rfl (by decide) ?_ ?_),?_⟩
 ·try simp only [FB,AV.ren,Nat.reduceAdd,reduceCtorEq]
 ·simp [zah,Blk.ren,renL]
 rintro⟨l,r⟩ ⟨hc,hl⟩
 dsimp only at hc hl ⊢
 cases r with
 | nil =>
  try simp -implicitDefEqProofs only [LM4,eq_self,zaa,zab,Nat.zero_mul,lzS,TB,SB,Int.reduceToNat,Nat.reduceAdd,Nat.reduceEqDiff,Nat.reduceLT,Nat.reduceMod,Nat.reducePow,Nat.reduceSub,if_true,reduceIte]
  exact end_P (l:=l) [0] (ptF.frz rfl rfl) (by rw [hX2,hc,contP_nil])
 | cons c r =>
  try simp -implicitDefEqProofs only [LM4,eq_self,zaa,zab,Nat.zero_mul,lzS,TB,SB,Int.reduceToNat,Nat.reduceAdd,Nat.reduceEqDiff,Nat.reduceLT,Nat.reduceMod,Nat.reducePow,Nat.reduceSub,if_true,reduceIte]
  refine⟨fun hne=>?_,fun he=>absurd he (List.cons_ne_nil _ _)⟩
  rw [show decide ((l.length:Int)=0)=l.isEmpty by cases l <;> simp;omega]
  rw [List.length_cons] at hl
  refine(pnext_ok c r l.isEmpty (by omega)).pure (by simp [renL,zai,zao]) ?_
  rintro _ σ rfl
  refine⟨zfA _ _,?_⟩
  have ht:=nextT_eq (c::r) l.isEmpty
  cases hx:zf4 (c::r) l.isEmpty with
  | none =>
   rw [hx] at ht
   generalize zg3 (c::r) l.isEmpty=z at ht ⊢
   obtain⟨z1,z2,z3⟩:=z
   dsimp only at ht
   subst ht
   rw [zf2]
   try simp -implicitDefEqProofs only [LM4,eq_self,zaa,zab,Nat.zero_mul,lzS,TB,SB,Int.reduceToNat,Nat.reduceAdd,Nat.reduceEqDiff,Nat.reduceLT,Nat.reduceMod,Nat.reducePow,Nat.reduceSub,if_true,reduceIte]
   exact end_P (l:=[]) [] frz_nP (by rw [hX2,hc,contP_no hx (List.cons_ne_nil _ _)])
  | some x =>
   rw [hx] at ht
   dsimp only at ht
   have hlt:=zj6 hx
   rw [List.length_cons] at hlt
   rw [ht,zf2]
   obtain⟨y,t⟩:=x
   dsimp only at hlt ⊢
   try simp -implicitDefEqProofs only [LM4,eq_self,zaa,zab,Nat.zero_mul,lzS,bs_P,TB,SB,Int.reduceToNat,Nat.reduceAdd,Nat.reduceEqDiff,Nat.reduceLT,Nat.reduceMod,Nat.reducePow,Nat.reduceSub,if_true,reduceIte]
   refine pt_app (l:=l) (y:=y) rfl rfl rfl (by omega) ?_
   try simp -implicitDefEqProofs only [LM4,eq_self,zaa,zab,Nat.zero_mul,lzS,TB,SB,Int.reduceToNat,Nat.reduceAdd,Nat.reduceEqDiff,Nat.reduceLT,Nat.reduceMod,Nat.reducePow,Nat.reduceSub,if_true,reduceIte]
   rw [zal]
   refine⟨(l++[y],t),⟨by rw [hc,contP_step hx (List.cons_ne_nil _ _)],by (show (l++[y]).length+t.length≤120);rw [List.length_append,List.length_cons,List.length_nil];omega⟩,by (show t.length < (c::r).length);rw [List.length_cons];omega,?_⟩
   refine zaj (q:=[3]) rfl rfl (by decide) ?_ ?_
   ·skip
    try simp only [FB,AV.ren,Nat.reduceAdd,reduceCtorEq]
    rw [List.length_append,List.length_cons,List.length_nil]
   ·simp only [zah,Blk.ren,zbv,List.getElem?_cons_zero,List.getElem?_cons_succ]
    simp [zbv]
end Go.Proofs.YtamcppdhkeiaiaaGreatDoor
end

