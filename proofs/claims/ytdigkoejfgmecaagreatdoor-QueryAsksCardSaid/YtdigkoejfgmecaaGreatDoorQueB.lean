/-
  A path is read. No condition.
-/
import Derived.Test.YtdigkoejfgmecaaGreatDoorQueA
import Derived.Test.YtdigkoejfgmecaaGreatDoorLib
set_option linter.unusedSimpArgs false
set_option linter.unusedVariables false
set_option linter.unusedSectionVars false
section
namespace Go.Eng
open Go
theorem aQ3 {P:Prop} (e:P:=by simp only [List.length_cons,List.length_nil];omega):P:=e
theorem aQ24 {P Q:Prop} (h:Q) (e:P=Q:=by first|(simp -implicitDefEqProofs only [LM0,LB7,eq_self,Nat.zero_mul,ia_P,ld_P,zcx,zea,zeb,zec,zdQ,zed,lzS,lw_P,sw_P,bx_P,al_P,zee,bd_P,bd_R,zef,TB,SB,Int.reduceToNat,Nat.reduceAdd,Nat.reduceEqDiff,Nat.reduceLT,Nat.reduceMod,Nat.reducePow,Nat.reduceSub,if_true,reduceIte];first|done|exact rfl)|exact rfl):P:=e ▸ h
theorem aQ25 {P Q:Prop} (h:Q) (e:P=Q:=by first|(simp -implicitDefEqProofs only [LM3,eq_self,Nat.zero_mul,lzS,bx_P,TB,SB,Int.reduceToNat,Nat.reduceAdd,Nat.reduceEqDiff,Nat.reduceLT,Nat.reduceMod,Nat.reducePow,Nat.reduceSub,if_true,reduceIte];first|done|exact rfl)|exact rfl):P:=e ▸ h
theorem aQ26 {P Q:Prop} (h:Q) (e:P=Q:=by first|(simp -implicitDefEqProofs only [LM3,eq_self,Nat.zero_mul,lzS,bx_P,dza,TB,SB,Int.reduceToNat,Nat.reduceAdd,Nat.reduceEqDiff,Nat.reduceLT,Nat.reduceMod,Nat.reducePow,Nat.reduceSub,if_true,reduceIte];first|done|exact rfl)|exact rfl):P:=e ▸ h
theorem aQ27 {P Q:Prop} (h:Q) (e:P=Q:=by first|(simp -implicitDefEqProofs only [LM3,eq_self,Nat.zero_mul,lzS,bx_P,bin_u64_lss,dza,TB,SB,Int.reduceToNat,Nat.reduceAdd,Nat.reduceEqDiff,Nat.reduceLT,Nat.reduceMod,Nat.reducePow,Nat.reduceSub,if_true,reduceIte];first|done|exact rfl)|exact rfl):P:=e ▸ h
theorem aQ28 {P Q:Prop} (h:Q) (e:P=Q:=by first|(simp -implicitDefEqProofs only [LM3,eq_self,Nat.zero_mul,lzS,bx_P,bs_P,TB,SB,Int.reduceToNat,Nat.reduceAdd,Nat.reduceEqDiff,Nat.reduceLT,Nat.reduceMod,Nat.reducePow,Nat.reduceSub,if_true,reduceIte];first|done|exact rfl)|exact rfl):P:=e ▸ h
theorem aQ29 {P Q:Prop} (h:Q) (e:P=Q:=by first|(simp only [zaw,Blk.ren,zch,List.getElem?_cons_zero,List.getElem?_cons_succ];first|done|exact rfl)|exact rfl):P:=e ▸ h
end Go.Eng
end

section
namespace Go.Proofs.YtdigkoejfgmecaaGreatDoor
open Go Go.Eng
def isDg (b:UInt8):Bool:=decide (48≤b.toNat) && decide (b.toNat≤57)
def runL (p:UInt8→Bool):List UInt8→Nat
 | []=>0
 | c::r=>if p c then runL p r+1 else 0
theorem runL_le (p:UInt8→Bool):∀ l,runL p l≤l.length
 | []=>Nat.le_refl _
 | c::r=>by
  have:=runL_le p r
  simp only [runL,List.length_cons]
  split <;> omega
def digV (n:Nat):List UInt8→Nat
 | []=>n
 | c::r=>digV (10 * n+(c.toNat - 48)) r
theorem bin_u8_geq {T:Tab} {t:TypeId} {K:AV→Prop} (x y:UInt8):wbin T .geq t (u8 x) (u8 y) K=K (bl (decide ((y.toNat:Int)≤x.toNat))):=by
 simp [wbin,u8,bl,zdT,cmpV]
theorem bin_u8_leq {T:Tab} {t:TypeId} {K:AV→Prop} (x y:UInt8):wbin T .leq t (u8 x) (u8 y) K=K (bl (decide ((x.toNat:Int)≤y.toNat))):=by
 simp [wbin,u8,bl,zdT,cmpV]
theorem wrap_u8' (n:Int):IntKind.u8.wrap n=n % 256:=by
 simp [IntKind.wrap,IntKind.bits,IntKind.signed]
theorem bin_u8_subP {T:Tab} {t:TypeId} {K:AV→Prop} (x y:UInt8):wbin T .sub t (u8 x) (u8 y) K=K (u8 (x - y)):=by
 have:=x.toNat_lt
 have:=y.toNat_lt
 simp only [wbin,u8,true_and,zeH,wrap_u8']
 rw [show ((x.toNat:Int) - y.toNat) % 256=((x - y).toNat:Int) by rw [UInt8.toNat_sub];omega]
theorem drop_consP {s:List UInt8} {k:Nat} (h:k < s.length):s.drop k=s.getD k 0::s.drop (k+1):=by
 rw [List.drop_eq_getElem_cons h]
 simp [h]
theorem ren_nilS (q:List Nat):nilS.ren q=some nilS:=rfl
theorem isDg_iff {c:UInt8}:isDg c=true ↔ 48≤c.toNat∧c.toNat≤57:=by simp [isDg]
theorem runL_all (p:UInt8→Bool):∀ (l:List UInt8) (k:Nat),k≤runL p l→∀ c∈l.take k,p c=true
 | [],k,_,c,hc=>by simp at hc
 | a::l,0,_,c,hc=>by simp at hc
 | a::l,k+1,h,c,hc=>by
  rw [runL] at h
  split at h
  ·rename_i ha
   rw [List.take_succ_cons,List.mem_cons] at hc
   rcases hc with rfl | hc
   ·exact ha
   ·exact runL_all p l k (by omega) c hc
  ·omega
theorem two_args {vs:Array Value} {a b c:Value} (h:vs.toList=[a,b,c]):vs=#[a,b,c]:=Array.ext' (by simpa using h)
set_option linter.defProp false in
def LB7:=And.intro @bin_u8_geq (And.intro @bin_u8_leq (And.intro @bin_u8_subP (@bin_u8_lss)))
structure Pt where
 key:List UInt8
 pos:Int
 deriving DecidableEq
def pt0:Pt:=⟨[],0⟩
def ptC (x:Pt):List AV:=[str x.key,i64 x.pos]
def ptA (x:Pt):AV:=.agg (ptC x)
def slP (l:List Pt):AV:=.sl (l.flatMap ptC) l.length
theorem ptF:RowF ptC 2:=⟨fun _=>rfl,fun _=>rfl,fun q a=>by simp [ptC,renL,zaj,zac]⟩
theorem zcx (x:Pt):ptC x=[str x.key,i64 x.pos]:=rfl
theorem ziW (x:Pt):ptA x=.agg [str x.key,i64 x.pos]:=rfl
theorem slP_eq (l:List Pt):slP l=.sl (l.flatMap ptC) l.length:=rfl
theorem zch (q:List Nat) (l:List Pt):renL q (l.flatMap ptC)=some (l.flatMap ptC):=ptF.fren q l
theorem zez (q:List Nat) (l:List Pt):(slP l).ren q=some (slP l):=ptF.fsl q l _
theorem ren_ptA (q:List Nat) (x:Pt):(ptA x).ren q=some (ptA x):=by simp [ptA,ptC,AV.ren,renL,zac,zaj]
section
variable {σ : zaa} {K : AV → Prop} {KS : AV → zaa → Prop} {t : TypeId} {id : Nat}
theorem ia_P (l:List Pt) (m:Nat) (k:Int):ia3 (some tyPt) (.sl (l.flatMap ptC) m) k K=(0≤k∧k < m∧m≤l.length∧K (.rp ((l.drop k.toNat).flatMap ptC))):=ptF.ia rfl (by decide) l m k
theorem ld_P (l:List Pt) (k:Nat):ld2 (some tyPt) (some ((l.drop k).flatMap ptC)) 0 K=(k < l.length∧K (.agg (ptC (l.getD k pt0)))):=ptF.ld rfl (by decide) rfl pt0 l k
theorem zea (o:Nat):zag T 143 (.ptr id o) 0 K=K (.ptr id (o+0)):=fzP T143 rfl rfl T9 (by decide) id o
theorem zeb (o:Nat):zag T 143 (.ptr id o) 1 K=K (.ptr id (o+1)):=fzP T143 rfl rfl T3 (by decide) id o
theorem zec (cs:List AV):zag T 250 (.rp cs) 1 K=K (.rp (cs.drop 1)):=fzR T250 rfl rfl T3 (by decide) cs
theorem zdQ (a:AV) (r:List AV):ld2 (some zaC) (some (a::r)) 0 K=K a:=lz0 rfl rfl a r
theorem zed (a:AV) (r:List AV):ld2 (some zbf) (some (a::r)) 0 K=K a:=lz0 rfl rfl a r
theorem lw_P (a b:AV):ld2 (some tyPt) (some [a,b]) 0 K=K (.agg [a,b]):=lzW rfl rfl
theorem sw_P (p q:AV) (a:List UInt8) (b:Int):st2 (some tyPt) (some (.rw [p,q])) id 0 (.agg [str a,i64 b]) σ KS=KS (.lit undef) (σ.set id (.rw [str a,i64 b])):=szW rfl rfl rfl id
theorem bx_P (e:TypeId) (a:List UInt8) (b:Int):wbox e (.agg [str a,i64 b]) σ KS=KS (.ptr σ.length 0) (σ++[.rw [str a,i64 b]]):=bxW rfl rfl e
theorem al_P (e:TypeId):al1 T e (some tyPt) σ KS=KS (.ptr σ.length 0) (σ++[.rw [str [],i64 0]]):=rfl
theorem zee:zaY T 143 [] K=K (.agg [str [],i64 0]):=by
 simp [zaY,T143,T9,T3,tyPt,zbo,zaE,zbf,zaC]
 rfl
theorem bd_P (a:List UInt8) (b:Int):zaY T 143 [(0,str a),(1,i64 b)] K=K (.agg [str a,i64 b]):=by
 simp [zaY,T143,T9,T3,tyPt,zbo,zaE,zfa,zeT,zcT,zcE,za0,zbf,zaC]
theorem bd_R (a:List UInt8) (b:Int):zaY T 250 [(0,str a),(1,i64 b)] K=K (.agg [str a,i64 b]):=by
 simp [zaY,T250,T9,T3,tyPt,zbo,zaE,zfa,zeT,zcT,zcE,za0,zbf,zaC]
theorem zef (b:Int):zaY T 250 [(1,i64 b)] K=K (.agg [str [],i64 b]):=by
 simp [zaY,T250,T9,T3,tyPt,zbo,zaE,zcT,zcE,za0,zbf,zaC]
 rfl
end
def isNm (b:UInt8):Bool:=decide ((97≤b.toNat∧b.toNat≤122)∨(65≤b.toNat∧b.toNat≤90)∨(48≤b.toNat∧b.toNat≤57)∨b.toNat=95)
theorem letter_ok (b:UInt8):ACalls Tryz.prog 207 [u8 b] [] (fun y _=>y=.ret (bl (isNm b))):=by
 refine ACalls.body T_ok Tryz.func207 (by kernel_rfl) rfl Tryz.ntmps207 (congrArg Array.toList Tryz.results207) ?_
 refine aQ24 ?_
 have e97:((UInt8.ofNat 97).toNat:Int)=97:=rfl
 have e122:((UInt8.ofNat 122).toNat:Int)=122:=rfl
 have e65:((UInt8.ofNat 65).toNat:Int)=65:=rfl
 have e90:((UInt8.ofNat 90).toNat:Int)=90:=rfl
 have e48:((UInt8.ofNat 48).toNat:Int)=48:=rfl
 have e57:((UInt8.ofNat 57).toNat:Int)=57:=rfl
 have e95:(UInt8.ofNat 95).toNat=95:=rfl
 by_cases h0:b.toNat≤47
 ·have d0:decide (((UInt8.ofNat 97).toNat:Int)≤b.toNat)=false:=decide_eq_false (by omega)
  have d1:decide ((b.toNat:Int)≤(UInt8.ofNat 122).toNat)=true:=decide_eq_true (by omega)
  have d2:decide (((UInt8.ofNat 65).toNat:Int)≤b.toNat)=false:=decide_eq_false (by omega)
  have d3:decide ((b.toNat:Int)≤(UInt8.ofNat 90).toNat)=true:=decide_eq_true (by omega)
  have d4:decide (((UInt8.ofNat 48).toNat:Int)≤b.toNat)=false:=decide_eq_false (by omega)
  have d5:decide ((b.toNat:Int)≤(UInt8.ofNat 57).toNat)=true:=decide_eq_true (by omega)
  have d6:decide (b=UInt8.ofNat 95)=false:=decide_eq_false (fun h=>absurd (congrArg UInt8.toNat h) (by rw [e95];omega))
  try simp -implicitDefEqProofs only [LM0,LB7,eq_self,Nat.zero_mul,ia_P,ld_P,zcx,zea,zeb,zec,zdQ,zed,lzS,lw_P,sw_P,bx_P,al_P,zee,bd_P,bd_R,zef,d0,d1,d2,d3,d4,d5,d6,TB,SB,Int.reduceToNat,Nat.reduceAdd,Nat.reduceEqDiff,Nat.reduceLT,Nat.reduceMod,Nat.reducePow,Nat.reduceSub,if_true,reduceIte]
  exact zaq (by rw [isNm,decide_eq_false (by omega)])
 by_cases h1:b.toNat≤57
 ·have d0:decide (((UInt8.ofNat 97).toNat:Int)≤b.toNat)=false:=decide_eq_false (by omega)
  have d1:decide ((b.toNat:Int)≤(UInt8.ofNat 122).toNat)=true:=decide_eq_true (by omega)
  have d2:decide (((UInt8.ofNat 65).toNat:Int)≤b.toNat)=false:=decide_eq_false (by omega)
  have d3:decide ((b.toNat:Int)≤(UInt8.ofNat 90).toNat)=true:=decide_eq_true (by omega)
  have d4:decide (((UInt8.ofNat 48).toNat:Int)≤b.toNat)=true:=decide_eq_true (by omega)
  have d5:decide ((b.toNat:Int)≤(UInt8.ofNat 57).toNat)=true:=decide_eq_true (by omega)
  have d6:decide (b=UInt8.ofNat 95)=false:=decide_eq_false (fun h=>absurd (congrArg UInt8.toNat h) (by rw [e95];omega))
  try simp -implicitDefEqProofs only [LM0,LB7,eq_self,Nat.zero_mul,ia_P,ld_P,zcx,zea,zeb,zec,zdQ,zed,lzS,lw_P,sw_P,bx_P,al_P,zee,bd_P,bd_R,zef,d0,d1,d2,d3,d4,d5,d6,TB,SB,Int.reduceToNat,Nat.reduceAdd,Nat.reduceEqDiff,Nat.reduceLT,Nat.reduceMod,Nat.reducePow,Nat.reduceSub,if_true,reduceIte]
  exact zaq (by rw [isNm,decide_eq_true (by omega)])
 by_cases h2:b.toNat≤64
 ·have d0:decide (((UInt8.ofNat 97).toNat:Int)≤b.toNat)=false:=decide_eq_false (by omega)
  have d1:decide ((b.toNat:Int)≤(UInt8.ofNat 122).toNat)=true:=decide_eq_true (by omega)
  have d2:decide (((UInt8.ofNat 65).toNat:Int)≤b.toNat)=false:=decide_eq_false (by omega)
  have d3:decide ((b.toNat:Int)≤(UInt8.ofNat 90).toNat)=true:=decide_eq_true (by omega)
  have d4:decide (((UInt8.ofNat 48).toNat:Int)≤b.toNat)=true:=decide_eq_true (by omega)
  have d5:decide ((b.toNat:Int)≤(UInt8.ofNat 57).toNat)=false:=decide_eq_false (by omega)
  have d6:decide (b=UInt8.ofNat 95)=false:=decide_eq_false (fun h=>absurd (congrArg UInt8.toNat h) (by rw [e95];omega))
  try simp -implicitDefEqProofs only [LM0,LB7,eq_self,Nat.zero_mul,ia_P,ld_P,zcx,zea,zeb,zec,zdQ,zed,lzS,lw_P,sw_P,bx_P,al_P,zee,bd_P,bd_R,zef,d0,d1,d2,d3,d4,d5,d6,TB,SB,Int.reduceToNat,Nat.reduceAdd,Nat.reduceEqDiff,Nat.reduceLT,Nat.reduceMod,Nat.reducePow,Nat.reduceSub,if_true,reduceIte]
  exact zaq (by rw [isNm,decide_eq_false (by omega)])
 by_cases h3:b.toNat≤90
 ·have d0:decide (((UInt8.ofNat 97).toNat:Int)≤b.toNat)=false:=decide_eq_false (by omega)
  have d1:decide ((b.toNat:Int)≤(UInt8.ofNat 122).toNat)=true:=decide_eq_true (by omega)
  have d2:decide (((UInt8.ofNat 65).toNat:Int)≤b.toNat)=true:=decide_eq_true (by omega)
  have d3:decide ((b.toNat:Int)≤(UInt8.ofNat 90).toNat)=true:=decide_eq_true (by omega)
  have d4:decide (((UInt8.ofNat 48).toNat:Int)≤b.toNat)=true:=decide_eq_true (by omega)
  have d5:decide ((b.toNat:Int)≤(UInt8.ofNat 57).toNat)=false:=decide_eq_false (by omega)
  have d6:decide (b=UInt8.ofNat 95)=false:=decide_eq_false (fun h=>absurd (congrArg UInt8.toNat h) (by rw [e95];omega))
  try simp -implicitDefEqProofs only [LM0,LB7,eq_self,Nat.zero_mul,ia_P,ld_P,zcx,zea,zeb,zec,zdQ,zed,lzS,lw_P,sw_P,bx_P,al_P,zee,bd_P,bd_R,zef,d0,d1,d2,d3,d4,d5,d6,TB,SB,Int.reduceToNat,Nat.reduceAdd,Nat.reduceEqDiff,Nat.reduceLT,Nat.reduceMod,Nat.reducePow,Nat.reduceSub,if_true,reduceIte]
  exact zaq (by rw [isNm,decide_eq_true (by omega)])
 by_cases h4:b.toNat≤94
 ·have d0:decide (((UInt8.ofNat 97).toNat:Int)≤b.toNat)=false:=decide_eq_false (by omega)
  have d1:decide ((b.toNat:Int)≤(UInt8.ofNat 122).toNat)=true:=decide_eq_true (by omega)
  have d2:decide (((UInt8.ofNat 65).toNat:Int)≤b.toNat)=true:=decide_eq_true (by omega)
  have d3:decide ((b.toNat:Int)≤(UInt8.ofNat 90).toNat)=false:=decide_eq_false (by omega)
  have d4:decide (((UInt8.ofNat 48).toNat:Int)≤b.toNat)=true:=decide_eq_true (by omega)
  have d5:decide ((b.toNat:Int)≤(UInt8.ofNat 57).toNat)=false:=decide_eq_false (by omega)
  have d6:decide (b=UInt8.ofNat 95)=false:=decide_eq_false (fun h=>absurd (congrArg UInt8.toNat h) (by rw [e95];omega))
  try simp -implicitDefEqProofs only [LM0,LB7,eq_self,Nat.zero_mul,ia_P,ld_P,zcx,zea,zeb,zec,zdQ,zed,lzS,lw_P,sw_P,bx_P,al_P,zee,bd_P,bd_R,zef,d0,d1,d2,d3,d4,d5,d6,TB,SB,Int.reduceToNat,Nat.reduceAdd,Nat.reduceEqDiff,Nat.reduceLT,Nat.reduceMod,Nat.reducePow,Nat.reduceSub,if_true,reduceIte]
  exact zaq (by rw [isNm,decide_eq_false (by omega)])
 by_cases h5:b.toNat≤95
 ·have d0:decide (((UInt8.ofNat 97).toNat:Int)≤b.toNat)=false:=decide_eq_false (by omega)
  have d1:decide ((b.toNat:Int)≤(UInt8.ofNat 122).toNat)=true:=decide_eq_true (by omega)
  have d2:decide (((UInt8.ofNat 65).toNat:Int)≤b.toNat)=true:=decide_eq_true (by omega)
  have d3:decide ((b.toNat:Int)≤(UInt8.ofNat 90).toNat)=false:=decide_eq_false (by omega)
  have d4:decide (((UInt8.ofNat 48).toNat:Int)≤b.toNat)=true:=decide_eq_true (by omega)
  have d5:decide ((b.toNat:Int)≤(UInt8.ofNat 57).toNat)=false:=decide_eq_false (by omega)
  have d6:decide (b=UInt8.ofNat 95)=true:=decide_eq_true (UInt8.toNat_inj.1 (by rw [e95];omega))
  try simp -implicitDefEqProofs only [LM0,LB7,eq_self,Nat.zero_mul,ia_P,ld_P,zcx,zea,zeb,zec,zdQ,zed,lzS,lw_P,sw_P,bx_P,al_P,zee,bd_P,bd_R,zef,d0,d1,d2,d3,d4,d5,d6,TB,SB,Int.reduceToNat,Nat.reduceAdd,Nat.reduceEqDiff,Nat.reduceLT,Nat.reduceMod,Nat.reducePow,Nat.reduceSub,if_true,reduceIte]
  exact zaq (by rw [isNm,decide_eq_true (by omega)])
 by_cases h6:b.toNat≤96
 ·have d0:decide (((UInt8.ofNat 97).toNat:Int)≤b.toNat)=false:=decide_eq_false (by omega)
  have d1:decide ((b.toNat:Int)≤(UInt8.ofNat 122).toNat)=true:=decide_eq_true (by omega)
  have d2:decide (((UInt8.ofNat 65).toNat:Int)≤b.toNat)=true:=decide_eq_true (by omega)
  have d3:decide ((b.toNat:Int)≤(UInt8.ofNat 90).toNat)=false:=decide_eq_false (by omega)
  have d4:decide (((UInt8.ofNat 48).toNat:Int)≤b.toNat)=true:=decide_eq_true (by omega)
  have d5:decide ((b.toNat:Int)≤(UInt8.ofNat 57).toNat)=false:=decide_eq_false (by omega)
  have d6:decide (b=UInt8.ofNat 95)=false:=decide_eq_false (fun h=>absurd (congrArg UInt8.toNat h) (by rw [e95];omega))
  try simp -implicitDefEqProofs only [LM0,LB7,eq_self,Nat.zero_mul,ia_P,ld_P,zcx,zea,zeb,zec,zdQ,zed,lzS,lw_P,sw_P,bx_P,al_P,zee,bd_P,bd_R,zef,d0,d1,d2,d3,d4,d5,d6,TB,SB,Int.reduceToNat,Nat.reduceAdd,Nat.reduceEqDiff,Nat.reduceLT,Nat.reduceMod,Nat.reducePow,Nat.reduceSub,if_true,reduceIte]
  exact zaq (by rw [isNm,decide_eq_false (by omega)])
 by_cases h7:b.toNat≤122
 ·have d0:decide (((UInt8.ofNat 97).toNat:Int)≤b.toNat)=true:=decide_eq_true (by omega)
  have d1:decide ((b.toNat:Int)≤(UInt8.ofNat 122).toNat)=true:=decide_eq_true (by omega)
  have d2:decide (((UInt8.ofNat 65).toNat:Int)≤b.toNat)=true:=decide_eq_true (by omega)
  have d3:decide ((b.toNat:Int)≤(UInt8.ofNat 90).toNat)=false:=decide_eq_false (by omega)
  have d4:decide (((UInt8.ofNat 48).toNat:Int)≤b.toNat)=true:=decide_eq_true (by omega)
  have d5:decide ((b.toNat:Int)≤(UInt8.ofNat 57).toNat)=false:=decide_eq_false (by omega)
  have d6:decide (b=UInt8.ofNat 95)=false:=decide_eq_false (fun h=>absurd (congrArg UInt8.toNat h) (by rw [e95];omega))
  try simp -implicitDefEqProofs only [LM0,LB7,eq_self,Nat.zero_mul,ia_P,ld_P,zcx,zea,zeb,zec,zdQ,zed,lzS,lw_P,sw_P,bx_P,al_P,zee,bd_P,bd_R,zef,d0,d1,d2,d3,d4,d5,d6,TB,SB,Int.reduceToNat,Nat.reduceAdd,Nat.reduceEqDiff,Nat.reduceLT,Nat.reduceMod,Nat.reducePow,Nat.reduceSub,if_true,reduceIte]
  exact zaq (by rw [isNm,decide_eq_true (by omega)])
 have d0:decide (((UInt8.ofNat 97).toNat:Int)≤b.toNat)=true:=decide_eq_true (by omega)
 have d1:decide ((b.toNat:Int)≤(UInt8.ofNat 122).toNat)=false:=decide_eq_false (by omega)
 have d2:decide (((UInt8.ofNat 65).toNat:Int)≤b.toNat)=true:=decide_eq_true (by omega)
 have d3:decide ((b.toNat:Int)≤(UInt8.ofNat 90).toNat)=false:=decide_eq_false (by omega)
 have d4:decide (((UInt8.ofNat 48).toNat:Int)≤b.toNat)=true:=decide_eq_true (by omega)
 have d5:decide ((b.toNat:Int)≤(UInt8.ofNat 57).toNat)=false:=decide_eq_false (by omega)
 have d6:decide (b=UInt8.ofNat 95)=false:=decide_eq_false (fun h=>absurd (congrArg UInt8.toNat h) (by rw [e95];omega))
 try simp -implicitDefEqProofs only [LM0,LB7,eq_self,Nat.zero_mul,ia_P,ld_P,zcx,zea,zeb,zec,zdQ,zed,lzS,lw_P,sw_P,bx_P,al_P,zee,bd_P,bd_R,zef,d0,d1,d2,d3,d4,d5,d6,TB,SB,Int.reduceToNat,Nat.reduceAdd,Nat.reduceEqDiff,Nat.reduceLT,Nat.reduceMod,Nat.reducePow,Nat.reduceSub,if_true,reduceIte]
 exact zaq (by rw [isNm,decide_eq_false (by omega)])
theorem named_ok (b:UInt8):ACalls Tryz.prog 192 [u8 b] [] (fun y _=>y=.ret (bl (isNm b))):=by
 refine ACalls.body T_ok Tryz.func192 (by kernel_rfl) rfl Tryz.ntmps192 (congrArg Array.toList Tryz.results192) ?_
 refine aQ24 ?_
 have e97:((UInt8.ofNat 97).toNat:Int)=97:=rfl
 have e122:((UInt8.ofNat 122).toNat:Int)=122:=rfl
 have e65:((UInt8.ofNat 65).toNat:Int)=65:=rfl
 have e90:((UInt8.ofNat 90).toNat:Int)=90:=rfl
 have e48:((UInt8.ofNat 48).toNat:Int)=48:=rfl
 have e57:((UInt8.ofNat 57).toNat:Int)=57:=rfl
 have e95:(UInt8.ofNat 95).toNat=95:=rfl
 by_cases h0:b.toNat≤47
 ·have d0:decide (((UInt8.ofNat 97).toNat:Int)≤b.toNat)=false:=decide_eq_false (by omega)
  have d1:decide ((b.toNat:Int)≤(UInt8.ofNat 122).toNat)=true:=decide_eq_true (by omega)
  have d2:decide (((UInt8.ofNat 65).toNat:Int)≤b.toNat)=false:=decide_eq_false (by omega)
  have d3:decide ((b.toNat:Int)≤(UInt8.ofNat 90).toNat)=true:=decide_eq_true (by omega)
  have d4:decide (((UInt8.ofNat 48).toNat:Int)≤b.toNat)=false:=decide_eq_false (by omega)
  have d5:decide ((b.toNat:Int)≤(UInt8.ofNat 57).toNat)=true:=decide_eq_true (by omega)
  have d6:decide (b=UInt8.ofNat 95)=false:=decide_eq_false (fun h=>absurd (congrArg UInt8.toNat h) (by rw [e95];omega))
  try simp -implicitDefEqProofs only [LM0,LB7,eq_self,Nat.zero_mul,ia_P,ld_P,zcx,zea,zeb,zec,zdQ,zed,lzS,lw_P,sw_P,bx_P,al_P,zee,bd_P,bd_R,zef,d0,d1,d2,d3,d4,d5,d6,TB,SB,Int.reduceToNat,Nat.reduceAdd,Nat.reduceEqDiff,Nat.reduceLT,Nat.reduceMod,Nat.reducePow,Nat.reduceSub,if_true,reduceIte]
  exact zaq (by rw [isNm,decide_eq_false (by omega)])
 by_cases h1:b.toNat≤57
 ·have d0:decide (((UInt8.ofNat 97).toNat:Int)≤b.toNat)=false:=decide_eq_false (by omega)
  have d1:decide ((b.toNat:Int)≤(UInt8.ofNat 122).toNat)=true:=decide_eq_true (by omega)
  have d2:decide (((UInt8.ofNat 65).toNat:Int)≤b.toNat)=false:=decide_eq_false (by omega)
  have d3:decide ((b.toNat:Int)≤(UInt8.ofNat 90).toNat)=true:=decide_eq_true (by omega)
  have d4:decide (((UInt8.ofNat 48).toNat:Int)≤b.toNat)=true:=decide_eq_true (by omega)
  have d5:decide ((b.toNat:Int)≤(UInt8.ofNat 57).toNat)=true:=decide_eq_true (by omega)
  have d6:decide (b=UInt8.ofNat 95)=false:=decide_eq_false (fun h=>absurd (congrArg UInt8.toNat h) (by rw [e95];omega))
  try simp -implicitDefEqProofs only [LM0,LB7,eq_self,Nat.zero_mul,ia_P,ld_P,zcx,zea,zeb,zec,zdQ,zed,lzS,lw_P,sw_P,bx_P,al_P,zee,bd_P,bd_R,zef,d0,d1,d2,d3,d4,d5,d6,TB,SB,Int.reduceToNat,Nat.reduceAdd,Nat.reduceEqDiff,Nat.reduceLT,Nat.reduceMod,Nat.reducePow,Nat.reduceSub,if_true,reduceIte]
  exact zaq (by rw [isNm,decide_eq_true (by omega)])
 by_cases h2:b.toNat≤64
 ·have d0:decide (((UInt8.ofNat 97).toNat:Int)≤b.toNat)=false:=decide_eq_false (by omega)
  have d1:decide ((b.toNat:Int)≤(UInt8.ofNat 122).toNat)=true:=decide_eq_true (by omega)
  have d2:decide (((UInt8.ofNat 65).toNat:Int)≤b.toNat)=false:=decide_eq_false (by omega)
  have d3:decide ((b.toNat:Int)≤(UInt8.ofNat 90).toNat)=true:=decide_eq_true (by omega)
  have d4:decide (((UInt8.ofNat 48).toNat:Int)≤b.toNat)=true:=decide_eq_true (by omega)
  have d5:decide ((b.toNat:Int)≤(UInt8.ofNat 57).toNat)=false:=decide_eq_false (by omega)
  have d6:decide (b=UInt8.ofNat 95)=false:=decide_eq_false (fun h=>absurd (congrArg UInt8.toNat h) (by rw [e95];omega))
  try simp -implicitDefEqProofs only [LM0,LB7,eq_self,Nat.zero_mul,ia_P,ld_P,zcx,zea,zeb,zec,zdQ,zed,lzS,lw_P,sw_P,bx_P,al_P,zee,bd_P,bd_R,zef,d0,d1,d2,d3,d4,d5,d6,TB,SB,Int.reduceToNat,Nat.reduceAdd,Nat.reduceEqDiff,Nat.reduceLT,Nat.reduceMod,Nat.reducePow,Nat.reduceSub,if_true,reduceIte]
  exact zaq (by rw [isNm,decide_eq_false (by omega)])
 by_cases h3:b.toNat≤90
 ·have d0:decide (((UInt8.ofNat 97).toNat:Int)≤b.toNat)=false:=decide_eq_false (by omega)
  have d1:decide ((b.toNat:Int)≤(UInt8.ofNat 122).toNat)=true:=decide_eq_true (by omega)
  have d2:decide (((UInt8.ofNat 65).toNat:Int)≤b.toNat)=true:=decide_eq_true (by omega)
  have d3:decide ((b.toNat:Int)≤(UInt8.ofNat 90).toNat)=true:=decide_eq_true (by omega)
  have d4:decide (((UInt8.ofNat 48).toNat:Int)≤b.toNat)=true:=decide_eq_true (by omega)
  have d5:decide ((b.toNat:Int)≤(UInt8.ofNat 57).toNat)=false:=decide_eq_false (by omega)
  have d6:decide (b=UInt8.ofNat 95)=false:=decide_eq_false (fun h=>absurd (congrArg UInt8.toNat h) (by rw [e95];omega))
  try simp -implicitDefEqProofs only [LM0,LB7,eq_self,Nat.zero_mul,ia_P,ld_P,zcx,zea,zeb,zec,zdQ,zed,lzS,lw_P,sw_P,bx_P,al_P,zee,bd_P,bd_R,zef,d0,d1,d2,d3,d4,d5,d6,TB,SB,Int.reduceToNat,Nat.reduceAdd,Nat.reduceEqDiff,Nat.reduceLT,Nat.reduceMod,Nat.reducePow,Nat.reduceSub,if_true,reduceIte]
  exact zaq (by rw [isNm,decide_eq_true (by omega)])
 by_cases h4:b.toNat≤94
 ·have d0:decide (((UInt8.ofNat 97).toNat:Int)≤b.toNat)=false:=decide_eq_false (by omega)
  have d1:decide ((b.toNat:Int)≤(UInt8.ofNat 122).toNat)=true:=decide_eq_true (by omega)
  have d2:decide (((UInt8.ofNat 65).toNat:Int)≤b.toNat)=true:=decide_eq_true (by omega)
  have d3:decide ((b.toNat:Int)≤(UInt8.ofNat 90).toNat)=false:=decide_eq_false (by omega)
  have d4:decide (((UInt8.ofNat 48).toNat:Int)≤b.toNat)=true:=decide_eq_true (by omega)
  have d5:decide ((b.toNat:Int)≤(UInt8.ofNat 57).toNat)=false:=decide_eq_false (by omega)
  have d6:decide (b=UInt8.ofNat 95)=false:=decide_eq_false (fun h=>absurd (congrArg UInt8.toNat h) (by rw [e95];omega))
  try simp -implicitDefEqProofs only [LM0,LB7,eq_self,Nat.zero_mul,ia_P,ld_P,zcx,zea,zeb,zec,zdQ,zed,lzS,lw_P,sw_P,bx_P,al_P,zee,bd_P,bd_R,zef,d0,d1,d2,d3,d4,d5,d6,TB,SB,Int.reduceToNat,Nat.reduceAdd,Nat.reduceEqDiff,Nat.reduceLT,Nat.reduceMod,Nat.reducePow,Nat.reduceSub,if_true,reduceIte]
  exact zaq (by rw [isNm,decide_eq_false (by omega)])
 by_cases h5:b.toNat≤95
 ·have d0:decide (((UInt8.ofNat 97).toNat:Int)≤b.toNat)=false:=decide_eq_false (by omega)
  have d1:decide ((b.toNat:Int)≤(UInt8.ofNat 122).toNat)=true:=decide_eq_true (by omega)
  have d2:decide (((UInt8.ofNat 65).toNat:Int)≤b.toNat)=true:=decide_eq_true (by omega)
  have d3:decide ((b.toNat:Int)≤(UInt8.ofNat 90).toNat)=false:=decide_eq_false (by omega)
  have d4:decide (((UInt8.ofNat 48).toNat:Int)≤b.toNat)=true:=decide_eq_true (by omega)
  have d5:decide ((b.toNat:Int)≤(UInt8.ofNat 57).toNat)=false:=decide_eq_false (by omega)
  have d6:decide (b=UInt8.ofNat 95)=true:=decide_eq_true (UInt8.toNat_inj.1 (by rw [e95];omega))
  try simp -implicitDefEqProofs only [LM0,LB7,eq_self,Nat.zero_mul,ia_P,ld_P,zcx,zea,zeb,zec,zdQ,zed,lzS,lw_P,sw_P,bx_P,al_P,zee,bd_P,bd_R,zef,d0,d1,d2,d3,d4,d5,d6,TB,SB,Int.reduceToNat,Nat.reduceAdd,Nat.reduceEqDiff,Nat.reduceLT,Nat.reduceMod,Nat.reducePow,Nat.reduceSub,if_true,reduceIte]
  exact zaq (by rw [isNm,decide_eq_true (by omega)])
 by_cases h6:b.toNat≤96
 ·have d0:decide (((UInt8.ofNat 97).toNat:Int)≤b.toNat)=false:=decide_eq_false (by omega)
  have d1:decide ((b.toNat:Int)≤(UInt8.ofNat 122).toNat)=true:=decide_eq_true (by omega)
  have d2:decide (((UInt8.ofNat 65).toNat:Int)≤b.toNat)=true:=decide_eq_true (by omega)
  have d3:decide ((b.toNat:Int)≤(UInt8.ofNat 90).toNat)=false:=decide_eq_false (by omega)
  have d4:decide (((UInt8.ofNat 48).toNat:Int)≤b.toNat)=true:=decide_eq_true (by omega)
  have d5:decide ((b.toNat:Int)≤(UInt8.ofNat 57).toNat)=false:=decide_eq_false (by omega)
  have d6:decide (b=UInt8.ofNat 95)=false:=decide_eq_false (fun h=>absurd (congrArg UInt8.toNat h) (by rw [e95];omega))
  try simp -implicitDefEqProofs only [LM0,LB7,eq_self,Nat.zero_mul,ia_P,ld_P,zcx,zea,zeb,zec,zdQ,zed,lzS,lw_P,sw_P,bx_P,al_P,zee,bd_P,bd_R,zef,d0,d1,d2,d3,d4,d5,d6,TB,SB,Int.reduceToNat,Nat.reduceAdd,Nat.reduceEqDiff,Nat.reduceLT,Nat.reduceMod,Nat.reducePow,Nat.reduceSub,if_true,reduceIte]
  exact zaq (by rw [isNm,decide_eq_false (by omega)])
 by_cases h7:b.toNat≤122
 ·have d0:decide (((UInt8.ofNat 97).toNat:Int)≤b.toNat)=true:=decide_eq_true (by omega)
  have d1:decide ((b.toNat:Int)≤(UInt8.ofNat 122).toNat)=true:=decide_eq_true (by omega)
  have d2:decide (((UInt8.ofNat 65).toNat:Int)≤b.toNat)=true:=decide_eq_true (by omega)
  have d3:decide ((b.toNat:Int)≤(UInt8.ofNat 90).toNat)=false:=decide_eq_false (by omega)
  have d4:decide (((UInt8.ofNat 48).toNat:Int)≤b.toNat)=true:=decide_eq_true (by omega)
  have d5:decide ((b.toNat:Int)≤(UInt8.ofNat 57).toNat)=false:=decide_eq_false (by omega)
  have d6:decide (b=UInt8.ofNat 95)=false:=decide_eq_false (fun h=>absurd (congrArg UInt8.toNat h) (by rw [e95];omega))
  try simp -implicitDefEqProofs only [LM0,LB7,eq_self,Nat.zero_mul,ia_P,ld_P,zcx,zea,zeb,zec,zdQ,zed,lzS,lw_P,sw_P,bx_P,al_P,zee,bd_P,bd_R,zef,d0,d1,d2,d3,d4,d5,d6,TB,SB,Int.reduceToNat,Nat.reduceAdd,Nat.reduceEqDiff,Nat.reduceLT,Nat.reduceMod,Nat.reducePow,Nat.reduceSub,if_true,reduceIte]
  exact zaq (by rw [isNm,decide_eq_true (by omega)])
 have d0:decide (((UInt8.ofNat 97).toNat:Int)≤b.toNat)=true:=decide_eq_true (by omega)
 have d1:decide ((b.toNat:Int)≤(UInt8.ofNat 122).toNat)=false:=decide_eq_false (by omega)
 have d2:decide (((UInt8.ofNat 65).toNat:Int)≤b.toNat)=true:=decide_eq_true (by omega)
 have d3:decide ((b.toNat:Int)≤(UInt8.ofNat 90).toNat)=false:=decide_eq_false (by omega)
 have d4:decide (((UInt8.ofNat 48).toNat:Int)≤b.toNat)=true:=decide_eq_true (by omega)
 have d5:decide ((b.toNat:Int)≤(UInt8.ofNat 57).toNat)=false:=decide_eq_false (by omega)
 have d6:decide (b=UInt8.ofNat 95)=false:=decide_eq_false (fun h=>absurd (congrArg UInt8.toNat h) (by rw [e95];omega))
 try simp -implicitDefEqProofs only [LM0,LB7,eq_self,Nat.zero_mul,ia_P,ld_P,zcx,zea,zeb,zec,zdQ,zed,lzS,lw_P,sw_P,bx_P,al_P,zee,bd_P,bd_R,zef,d0,d1,d2,d3,d4,d5,d6,TB,SB,Int.reduceToNat,Nat.reduceAdd,Nat.reduceEqDiff,Nat.reduceLT,Nat.reduceMod,Nat.reducePow,Nat.reduceSub,if_true,reduceIte]
 exact zaq (by rw [isNm,decide_eq_false (by omega)])
set_option linter.defProp false in
def LB8:=And.intro @zdQ (@zed)
set_option linter.defProp false in
def LB9:=And.intro @ia_P (And.intro @zec (@lw_P))
set_option linter.defProp false in
def LB10:=And.intro @ld_P (And.intro @zcx (And.intro @zea (And.intro @zeb (And.intro @sw_P (And.intro @al_P (And.intro @zee (And.intro @bd_P (And.intro @bd_R (@zef)))))))))
set_option linter.defProp false in
def LM3:=And.intro LM0 (And.intro LB7 (And.intro LB8 (And.intro LB9 (LB10))))
theorem zgf (p:UInt8→Bool):∀ (l:List UInt8) (k:Nat),k≤runL p l→k < l.length→p (l.getD k 0)=decide (k < runL p l)
 | [],k,_,h=>absurd h (Nat.not_lt_zero _)
 | c::r,0,_,_=>by
  rw [List.getD_cons_zero,runL]
  cases hc:p c with
  | true=>simp
  | false=>simp
 | c::r,k+1,h,hl=>by
  rw [runL] at h ⊢
  cases hc:p c with
  | false =>
   rw [hc] at h
   simp at h
  | true =>
   rw [hc] at h
   simp only [if_true] at h ⊢
   rw [List.getD_cons_succ,zgf p r k (by omega) (by simpa using hl)]
   exact decide_eq_decide.2 (by omega)
def nmL (s:List UInt8):Nat:=runL isNm s
theorem nmL_le (s:List UInt8):nmL s≤s.length:=runL_le _ s
def zgK (s:List UInt8):Pt × List UInt8 × Bool:=(⟨s.take (nmL s),-1⟩,s.drop (nmL s),decide (0 < nmL s))
def tupP (x:Pt × List UInt8 × Bool):AV:=.tup [ptA x.1,str x.2.1,bl x.2.2]
theorem zfK (x:Pt × List UInt8 × Bool):tupP x=.tup [.agg [str x.1.key,i64 x.1.pos],str x.2.1,bl x.2.2]:=rfl
theorem zfb (q:List Nat) (x:Pt × List UInt8 × Bool):(tupP x).ren q=some (tupP x):=by simp [tupP,ptA,ptC,AV.ren,renL,zac,zaj,zay]
theorem zcb {x:Pt × List UInt8 × Bool} {a b c:AV} {σ:zaa} {K:AV→zaa→Prop} (h0:AV.tup [a,b,c]=tupP x) (h:K (tupP x) []):endQ 0 (.tup [a,b,c]) σ K:=by
 rw [h0]
 exact zaF (zfb _ _) h
theorem name_ok (s:List UInt8) (hs:s.length≤1000000000):ACalls Tryz.prog 168 [str s] [] (fun y _=>y=.ret (tupP (zgK s))):=by
 refine ACalls.body T_ok Tryz.func168 (by kernel_rfl) rfl Tryz.ntmps168 (congrArg Array.toList Tryz.results168) ?_
 refine aQ25 ?_
 rw [zaK]
 refine⟨Nat,fun k=>k≤nmL s,fun k=>[str s,.bot,.ptr 0 0,str [],bl false,i64 k,.bot,.bot,.bot,.bot,.bot,.bot,.bot,.bot,.bot,.bot,.bot,.bot,.bot,.bot,.bot,.bot,.bot,.bot,.bot,.bot,.bot],fun k=>[.rw [str [],i64 0]],fun k=>s.length - k,0,Nat.zero_le _,zab (q:=[0]) rfl rfl (by decide) ?_ ?_,?_⟩
 ·refine aQ18 ?_
  exact .inr rfl
 ·simp [zaw,Blk.ren,renL,zac,zaj]
 intro k hk
 have hle:=nmL_le s
 have hend:k=nmL s→zgK s=(⟨s.take k,-1⟩,s.drop k,decide (0 < k)):=fun h=>by rw [h];rfl
 by_cases hl:k < s.length
 ·have d0:decide ((k:Int) < (s.length:Int))=true:=decide_eq_true (by omega)
  have hst:=zgf isNm s k hk hl
  have dza:=d0
  refine aQ26 ?_
  refine⟨by omega,by omega,?_⟩
  refine(letter_ok _).pure (by simp [renL,zcO]) ?_
  rintro _ σ rfl
  refine⟨zay _ _,?_⟩
  rw [hst]
  by_cases hn:k < runL isNm s
  ·have dza:=decide_eq_true hn
   refine aQ26 ?_
   refine⟨by unfold inI;omega,?_⟩
   rw [zad]
   refine⟨k+1,hn,by (show s.length - (k+1) < s.length - k);omega,?_⟩
   refine zab (q:=[0]) rfl rfl (by decide) ?_ ?_
   ·refine aQ18 ?_
    exact .inr (by omega)
   ·simp [zaw,Blk.ren,renL,zac,zaj]
  ·have dza:=decide_eq_false hn
   refine aQ26 ?_
   have hk2:k=nmL s:=by unfold nmL at hk ⊢;omega
   refine zjl [9] (by kernel_rfl) (by kernel_rfl) (by kernel_rfl) ?_
   refine aQ25 ?_
   refine⟨by omega,by omega,by omega,by omega,?_⟩
   refine zcb (x:=zgK s) ?_ rfl
   rw [hend hk2,zfK]
   exact congrArg (fun z=>AV.tup [_,_,bl z]) (decide_eq_decide.2 (by omega))
 ·have d0:decide ((k:Int) < (s.length:Int))=false:=decide_eq_false (by omega)
  have dza:=d0
  refine aQ26 ?_
  have hk2:k=nmL s:=by omega
  refine zjl [9] (by kernel_rfl) (by kernel_rfl) (by kernel_rfl) ?_
  refine aQ25 ?_
  refine⟨by omega,by omega,by omega,by omega,?_⟩
  refine zcb (x:=zgK s) ?_ rfl
  rw [hend hk2,zfK]
  exact congrArg (fun z=>AV.tup [_,_,bl z]) (decide_eq_decide.2 (by omega))
theorem dec_one {u:Nat} (h:u < 10):Lib.decDigits u=[UInt8.ofNat (48+u)]:=by rw [Lib.decDigits,dif_pos h]
theorem dec_step {u:Nat} (h:10≤u):Lib.decDigits u=Lib.decDigits (u / 10)++[UInt8.ofNat (48+u % 10)]:=by rw [Lib.decDigits,dif_neg (by omega)]
theorem zg6 {c:UInt8} (h:isDg c=true):∃ x,x < 10∧c=UInt8.ofNat (48+x):=by
 have:=isDg_iff.1 h
 refine⟨c.toNat - 48,by omega,?_⟩
 rw [show 48+(c.toNat - 48)=c.toNat by omega,UInt8.ofNat_toNat]
theorem zjF {x:Nat} (h:x < 10):(UInt8.ofNat (48+x)).toNat=48+x:=by
 rw [UInt8.toNat_ofNat'];omega
theorem zgL {x:Nat} (h:x < 10):isDg (UInt8.ofNat (48+x))=true:=isDg_iff.2 (by rw [zjF h];omega)
theorem zeY (n:Nat) (c:UInt8) (r:List UInt8):digV n (c::r)=digV (10 * n+(c.toNat - 48)) r:=by
 have e:digV n (c::r)=digV (10 * n+(c.toNat - 48)) r:=rfl
 exact e
theorem zdM (n:Nat):digV n []=n:=by
 have e:digV n []=n:=rfl
 exact e
theorem zgM (n:Nat) {x:Nat} (h:x < 10) (r:List UInt8):digV n (UInt8.ofNat (48+x)::r)=digV (10 * n+x) r:=by
 rw [zeY,zjF h,Nat.add_sub_cancel_left]
theorem digV_1 {x:Nat} (h:x < 10):digV 0 [UInt8.ofNat (48+x)]=x:=by
 rw [zgM _ h,zdM,Nat.mul_zero,Nat.zero_add]
theorem digV_2 {x y:Nat} (h:x < 10) (g:y < 10):digV 0 [UInt8.ofNat (48+x),UInt8.ofNat (48+y)]=10 * x+y:=by
 rw [zgM _ h,zgM _ g,zdM,Nat.mul_zero,Nat.zero_add]
theorem digV_3 {x y z:Nat} (h:x < 10) (g:y < 10) (k:z < 10):digV 0 [UInt8.ofNat (48+x),UInt8.ofNat (48+y),UInt8.ofNat (48+z)]=100 * x+10 * y+z:=by
 rw [zgM _ h,zgM _ g,zgM _ k,zdM,Nat.mul_zero,Nat.zero_add]
 omega
theorem dec_2 {x y:Nat} (h:0 < x) (hx:x < 10) (hy:y < 10):Lib.decDigits (10 * x+y)=[UInt8.ofNat (48+x),UInt8.ofNat (48+y)]:=by
 rw [dec_step (by omega),show (10 * x+y) / 10=x by omega,show (10 * x+y) % 10=y by omega,dec_one hx];rfl
theorem dec_3 {x y z:Nat} (h:0 < x) (hx:x < 10) (hy:y < 10) (hz:z < 10):Lib.decDigits (100 * x+10 * y+z)=[UInt8.ofNat (48+x),UInt8.ofNat (48+y),UInt8.ofNat (48+z)]:=by
 rw [dec_step (by omega),show (100 * x+10 * y+z) / 10=10 * x+y by omega,show (100 * x+10 * y+z) % 10=z by omega,dec_2 h hx hy];rfl
def zib (d:List UInt8):Bool:=decide (d≠[]∧d.length≤3∧¬ (1 < d.length∧d.head?=some 48)) && d.all isDg
def numD (d:List UInt8):Option Nat:=if zib d then some (digV 0 d) else none
theorem ziX {d:List UInt8} {u:Nat} (h:numD d=some u):u≤999∧d=Lib.decDigits u:=by
 unfold numD at h
 split at h
 ·rename_i hb
  simp only [zib,Bool.and_eq_true,decide_eq_true_eq,List.all_eq_true] at hb
  obtain⟨⟨h1,h2,h3⟩,h4⟩:=hb
  cases h
  match d,h1,h2,h3,h4 with
  | [a],_,_,_,h4 =>
   obtain⟨x,hx,rfl⟩:=zg6 (h4 a (by simp))
   rw [digV_1 hx,dec_one hx]
   exact⟨by omega,rfl⟩
  | [a,b],_,_,h3,h4 =>
   obtain⟨x,hx,rfl⟩:=zg6 (h4 a (by simp))
   obtain⟨y,hy,rfl⟩:=zg6 (h4 b (by simp))
   have h0:0 < x:=by
    rcases Nat.eq_zero_or_pos x with rfl | h
    ·exact absurd ⟨by simp,rfl⟩ h3
    ·exact h
   rw [digV_2 hx hy,dec_2 h0 hx hy]
   exact⟨by omega,rfl⟩
  | [a,b,c],_,_,h3,h4 =>
   obtain⟨x,hx,rfl⟩:=zg6 (h4 a (by simp))
   obtain⟨y,hy,rfl⟩:=zg6 (h4 b (by simp))
   obtain⟨z,hz,rfl⟩:=zg6 (h4 c (by simp))
   have h0:0 < x:=by
    rcases Nat.eq_zero_or_pos x with rfl | h
    ·exact absurd ⟨by simp,rfl⟩ h3
    ·exact h
   rw [digV_3 hx hy hz,dec_3 h0 hx hy hz]
   exact⟨by omega,rfl⟩
  | a::b::c::e::r,_,h2,_,_=>simp at h2
 ·cases h
theorem dec_form {u:Nat} (h:u≤999):(∃ x,x < 10∧u=x∧Lib.decDigits u=[UInt8.ofNat (48+x)])∨(∃ x y,0 < x∧x < 10∧y < 10∧u=10 * x+y∧Lib.decDigits u=[UInt8.ofNat (48+x),UInt8.ofNat (48+y)])∨(∃ x y z,0 < x∧x < 10∧y < 10∧z < 10∧u=100 * x+10 * y+z∧Lib.decDigits u=[UInt8.ofNat (48+x),UInt8.ofNat (48+y),UInt8.ofNat (48+z)]):=by
 rcases Nat.lt_or_ge u 10 with h1 | h1
 ·exact .inl ⟨u,h1,rfl,dec_one h1⟩
 rcases Nat.lt_or_ge u 100 with h2 | h2
 ·refine .inr (.inl ⟨u / 10,u % 10,by omega,by omega,by omega,by omega,?_⟩)
  rw [← dec_2 (by omega) (by omega) (by omega),show 10 * (u / 10)+u % 10=u by omega]
 ·refine .inr (.inr ⟨u / 100,u / 10 % 10,u % 10,by omega,by omega,by omega,by omega,by omega,?_⟩)
  rw [← dec_3 (by omega) (by omega) (by omega) (by omega),show 100 * (u / 100)+10 * (u / 10 % 10)+u % 10=u by omega]
theorem numD_dec {u:Nat} (h:u≤999):numD (Lib.decDigits u)=some u:=by
 have n48:∀ {x:Nat},0 < x→x < 10→¬ (some (UInt8.ofNat (48+x))=some (48:UInt8)):=fun h0 hx e=>by
  have:=congrArg UInt8.toNat (Option.some.inj e)
  rw [zjF hx] at this
  have e2:(48:UInt8).toNat=48:=rfl
  omega
 have nb:∀ d:List UInt8,d≠[]→d.length≤3→¬ (1 < d.length∧d.head?=some 48)→(∀ c∈d,isDg c=true)→zib d=true:=fun d h1 h2 h3 h4=>by
  rw [zib,Bool.and_eq_true,decide_eq_true_eq,List.all_eq_true]
  exact⟨⟨h1,h2,h3⟩,h4⟩
 rcases dec_form h with ⟨x,hx,rfl,e⟩ | ⟨x,y,h0,hx,hy,rfl,e⟩ | ⟨x,y,z,h0,hx,hy,hz,rfl,e⟩
 ·rw [e,numD,if_pos (nb _ (List.cons_ne_nil _ _) aQ3 (fun h=>absurd h.1 aQ3) fun c hc=>?_),digV_1 hx]
  simp only [List.mem_cons,List.not_mem_nil,or_false] at hc
  rw [hc];exact zgL hx
 ·rw [e,numD,if_pos (nb _ (List.cons_ne_nil _ _) aQ3 (fun h=>n48 h0 hx h.2) fun c hc=>?_),digV_2 hx hy]
  simp only [List.mem_cons,List.not_mem_nil,or_false] at hc
  rcases hc with rfl | rfl
  ·exact zgL hx
  ·exact zgL hy
 ·rw [e,numD,if_pos (nb _ (List.cons_ne_nil _ _) aQ3 (fun h=>n48 h0 hx h.2) fun c hc=>?_),digV_3 hx hy hz]
  simp only [List.mem_cons,List.not_mem_nil,or_false] at hc
  rcases hc with rfl | rfl | rfl
  ·exact zgL hx
  ·exact zgL hy
  ·exact zgL hz
theorem runL_end (p:UInt8→Bool):∀ (l:List UInt8) (c:UInt8),(l.drop (runL p l)).head?=some c→p c=false
 | [],c,h=>by simp [runL] at h
 | x::l,c,h=>by
  rw [runL] at h
  cases hx:p x with
  | false =>
   rw [hx] at h
   simp only [Bool.false_eq_true,if_false,List.drop_zero,List.head?_cons,Option.some.injEq] at h
   rw [← h,hx]
  | true =>
   rw [hx,if_pos rfl,List.drop_succ_cons] at h
   exact runL_end p l c h
theorem runL_lt (p:UInt8→Bool) {l:List UInt8} (h:runL p l < l.length):∃ c r,l.drop (runL p l)=c::r∧p c=false∧l.drop (runL p l+1)=r:=by
 cases hd:l.drop (runL p l) with
 | nil=>rw [List.drop_eq_nil_iff] at hd;omega
 | cons c r =>
  refine⟨c,r,rfl,runL_end p l c (by rw [hd];rfl),?_⟩
  rw [← List.drop_drop,hd]
  rfl
def clL (s:List UInt8):Nat:=runL (fun c=>c != 93) s
theorem clL_le (s:List UInt8):clL s≤s.length:=runL_le _ s
def numV (s:List UInt8):Option (Pt × List UInt8):=if clL s < s.length then (numD (s.take (clL s))).map fun (u:Nat)=>((⟨[],(u:Int)⟩:Pt),s.drop (clL s+1)) else none
def zgN (s:List UInt8):Option (Pt × List UInt8):=if 0 < nmL s then some (⟨s.take (nmL s),-1⟩,s.drop (nmL s)) else none
def zdE (s:List UInt8) (first:Bool):Option (Pt × List UInt8):=match s with
 | []=>none
 | c::r=>if c=91 then numV r else if first then zgN (c::r) else if c=46 then zgN r else none
def parP:Nat→Bool→List UInt8→Option (List Pt)
 | 0,_,s=>if s=[] then some [] else none
 | n+1,first,s=>if s=[] then some [] else match zdE s first with
  | none=>none
  | some x=>(parP n false x.2).map (x.1::·)
def zcI (s:List UInt8):List Pt × Int:=if 120 < s.length then ([],9) else match parP s.length true s with
 | some l=>(l,0)
 | none=>([],9)
def okP (x:Pt):Bool:=(decide (x.key=[]) && decide (0≤x.pos∧x.pos≤999)) || (decide (x.pos=-1) && (decide (x.key≠[]) && x.key.all isNm))
def ptX (first:Bool) (x:Pt):List UInt8:=if x.pos≠-1 then 91::(Lib.itoa x.pos++[93]) else if first then x.key else 46::x.key
def shP:Bool→List Pt→List UInt8
 | _,[]=>[]
 | f,x::r=>ptX f x++shP false r
theorem numV_lt {s:List UInt8} {x:Pt × List UInt8} (h:numV s=some x):x.2.length < s.length:=by
 unfold numV at h
 split at h
 ·rename_i hk
  cases hn:numD (s.take (clL s)) with
  | none=>rw [hn] at h;cases h
  | some u =>
   rw [hn] at h
   cases h
   simp only [List.length_drop]
   omega
 ·cases h
theorem nameO_lt {s:List UInt8} {x:Pt × List UInt8} (h:zgN s=some x):x.2.length < s.length:=by
 unfold zgN at h
 split at h
 ·cases h
  have:=nmL_le s
  simp only [List.length_drop]
  omega
 ·cases h
theorem zjG {s:List UInt8} {f:Bool} {x:Pt × List UInt8} (h:zdE s f=some x):x.2.length < s.length:=by
 cases s with
 | nil=>cases h
 | cons c r =>
  simp only [zdE] at h
  split at h
  ·have:=numV_lt h;simp only [List.length_cons];omega
  ·split at h
   ·exact nameO_lt h
   ·split at h
    ·have:=nameO_lt h;simp only [List.length_cons];omega
    ·cases h
theorem parP_fuel:∀ (n m:Nat) (f:Bool) (s:List UInt8),s.length≤n→s.length≤m→parP n f s=parP m f s
 | 0,0,_,_,_,_=>rfl
 | 0,m+1,f,s,h,_=>by
  have:s=[]:=List.eq_nil_of_length_eq_zero (by omega)
  simp [parP,this]
 | n+1,0,f,s,_,h=>by
  have:s=[]:=List.eq_nil_of_length_eq_zero (by omega)
  simp [parP,this]
 | n+1,m+1,f,s,h,g=>by
  simp only [parP]
  split
  ·rfl
  ·cases hx:zdE s f with
   | none=>rfl
   | some x =>
    have:=zjG hx
    simp only
    rw [parP_fuel n m false x.2 (by omega) (by omega)]
theorem itoa_nat (u:Nat):Lib.itoa (u:Int)=Lib.decDigits u:=by
 rw [Lib.itoa,if_neg (by omega),Int.toNat_natCast]
theorem numV_back {s:List UInt8} {x:Pt × List UInt8} (h:numV s=some x):okP x.1=true∧91::s=ptX true x.1++x.2∧ptX false x.1=ptX true x.1∧x.1.pos≠-1:=by
 unfold numV at h
 split at h
 ·rename_i hk
  obtain⟨c,r,h1,h2,h3⟩:=runL_lt (fun c=>c != 93) hk
  have hc:c=93:=by simpa using h2
  subst hc
  cases hn:numD (s.take (clL s)) with
  | none=>rw [hn] at h;cases h
  | some u =>
   rw [hn] at h
   cases h
   obtain⟨g1,g2⟩:=ziX hn
   have hp:((u:Nat):Int)≠-1:=by omega
   refine⟨?_,?_,?_,hp⟩
   ·simp only [okP,Bool.or_eq_true,Bool.and_eq_true,decide_eq_true_eq]
    exact .inl ⟨trivial,by omega,by omega⟩
   ·have hs:s=s.take (clL s)++s.drop (clL s):=(List.take_append_drop _ _).symm
    rw [show s.drop (clL s)=93::r from h1,g2] at hs
    simp only [ptX,if_pos hp,itoa_nat]
    rw [show s.drop (clL s+1)=r from h3]
    rw [List.cons_append,List.append_assoc]
    exact congrArg _ hs
   ·simp only [ptX,if_pos hp]
 ·cases h
theorem ziY {s:List UInt8} {x:Pt × List UInt8} (h:zgN s=some x):okP x.1=true∧s=x.1.key++x.2∧x.1.pos=-1:=by
 unfold zgN at h
 split at h
 ·rename_i hk
  cases h
  refine⟨?_,(List.take_append_drop _ _).symm,rfl⟩
  simp only [okP,Bool.or_eq_true,Bool.and_eq_true,decide_eq_true_eq,List.all_eq_true]
  refine .inr ⟨trivial,fun e=>?_,runL_all isNm s _ (Nat.le_refl _)⟩
  have:=nmL_le s
  have e2:=congrArg List.length e
  rw [List.length_take] at e2
  simp only [List.length_nil] at e2
  omega
 ·cases h
theorem nextO_back {s:List UInt8} {f:Bool} {x:Pt × List UInt8} (h:zdE s f=some x):okP x.1=true∧s=ptX f x.1++x.2:=by
 cases s with
 | nil=>cases h
 | cons c r =>
  simp only [zdE] at h
  split at h
  ·rename_i hc
   subst hc
   obtain⟨g1,g2,g3,-⟩:=numV_back h
   refine⟨g1,?_⟩
   cases f
   ·rw [g3];exact g2
   ·exact g2
  ·split at h
   ·rename_i hf
    subst hf
    obtain⟨g1,g2,g3⟩:=ziY h
    exact⟨g1,by rw [ptX,if_neg (fun k=>k g3),if_pos rfl];exact g2⟩
   ·rename_i hf
    split at h
    ·rename_i hc
     subst hc
     obtain⟨g1,g2,g3⟩:=ziY h
     exact⟨g1,by rw [ptX,if_neg (fun k=>k g3),if_neg hf,List.cons_append,← g2]⟩
    ·cases h
theorem ptX_ne {x:Pt} (f:Bool) (h:okP x=true):0 < (ptX f x).length:=by
 obtain⟨k,p⟩:=x
 simp only [okP,Bool.or_eq_true,Bool.and_eq_true,decide_eq_true_eq] at h
 unfold ptX
 split
 ·simp
 ·rename_i hp
  rcases h with ⟨-,h2,-⟩ | ⟨-,h2,-⟩
  ·exact absurd (Decidable.not_not.1 hp) (show ¬ p=-1 by omega)
  ·split
   ·exact List.length_pos_iff.2 h2
   ·simp
theorem shP_len:∀ (l:List Pt) (f:Bool),(∀ x∈l,okP x=true)→l.length≤(shP f l).length
 | [],_,_=>Nat.zero_le _
 | x::r,f,h=>by
  have h1:=ptX_ne f (h x (List.mem_cons_self ..))
  have h2:=shP_len r false (fun y hy=>h y (List.mem_cons_of_mem _ hy))
  rw [shP,List.length_append,List.length_cons]
  omega
theorem parP_back:∀ (n:Nat) (f:Bool) (s:List UInt8) (l:List Pt),parP n f s=some l→s=shP f l∧∀ x∈l,okP x=true
 | 0,f,s,l,h=>by
  simp only [parP] at h
  split at h
  ·cases h
   rename_i hs
   exact⟨hs,fun x hx=>by cases hx⟩
  ·cases h
 | n+1,f,s,l,h=>by
  simp only [parP] at h
  split at h
  ·cases h
   rename_i hs
   exact⟨hs,fun x hx=>by cases hx⟩
  ·cases hx:zdE s f with
   | none=>rw [hx] at h;cases h
   | some x =>
    rw [hx] at h
    simp only at h
    cases hp:parP n false x.2 with
    | none=>rw [hp] at h;cases h
    | some r =>
     rw [hp] at h
     cases h
     obtain⟨g1,g2⟩:=nextO_back hx
     obtain⟨k1,k2⟩:=parP_back n false x.2 r hp
     refine⟨?_,fun y hy=>?_⟩
     ·rw [g2,shP,← k1]
     ·rcases List.mem_cons.1 hy with rfl | hy
      ·exact g1
      ·exact k2 y hy
theorem ziZ {s:List UInt8} {l:List Pt} (h:zcI s=(l,0)):s=shP true l∧l.all okP=true∧s.length≤120:=by
 unfold zcI at h
 split at h
 ·exact absurd (show (9:Int)=0 from congrArg Prod.snd h) (by decide)
 ·rename_i hl
  cases hp:parP s.length true s with
  | none=>rw [hp] at h;exact absurd (show (9:Int)=0 from congrArg Prod.snd h) (by decide)
  | some r =>
   rw [hp] at h
   cases h
   obtain⟨g1,g2⟩:=parP_back _ _ _ _ hp
   exact⟨g1,List.all_eq_true.2 g2,by omega⟩
theorem pathV_bad {s:List UInt8} (h:(zcI s).2≠0):zcI s=([],9):=by
 unfold zcI at h ⊢
 split
 ·rfl
 ·rename_i hl
  rw [if_neg hl] at h
  cases hp:parP s.length true s with
  | none=>rfl
  | some r=>rw [hp] at h;exact absurd rfl h
theorem index93:∀ s:List UInt8,Lib.index s [93]=if clL s < s.length then (clL s:Int) else -1
 | []=>by simp [Lib.index,clL,runL]
 | c::r=>by
  have ih:=index93 r
  by_cases hc:c=93
  ·subst hc
   have e:clL (93::r)=0:=rfl
   rw [e,if_pos (by simp)]
   unfold Lib.index
   rw [if_pos (by simp)]
   rfl
  ·have e:clL (c::r)=clL r+1:=by
    rw [clL,runL,if_pos (by simpa using hc)]
    rfl
   unfold Lib.index
   rw [if_neg (by simp [Ne.symm hc]),ih,e,List.length_cons]
   by_cases hk:clL r < r.length
   ·have g:(((clL r:Nat):Int) == -1)=false:=by rw [beq_eq_false_iff_ne];omega
    simp only [if_pos hk,g,Bool.false_eq_true,if_false,if_pos (show clL r+1 < r.length+1 by omega)]
    omega
   ·simp only [if_neg hk,if_neg (show ¬ clL r+1 < r.length+1 by omega)]
    rfl
theorem cut93 (s:List UInt8):Lib.cut s [93]=if clL s < s.length then (s.take (clL s),s.drop (clL s+1),true) else (s,[],false):=by
 rw [Lib.cut,index93]
 by_cases hk:clL s < s.length
 ·rw [if_pos hk,if_pos (by omega),if_pos hk,Int.toNat_natCast]
  rfl
 ·rw [if_neg hk,if_neg (by decide),if_neg hk]
theorem parseM:∀ (d:List UInt8) (acc:Nat),(acc+1) * 10 ^ d.length≤65536→Lib.parseUintM 65535 acc d=if d.all isDg=true then .ok (digV acc d) else Lib.NumEnd.syntax
 | [],acc,_=>by rw [Lib.parseUintM,List.all_nil,if_pos rfl,zdM]
 | c::r,acc,h=>by
  rw [List.length_cons,Nat.pow_succ,Nat.mul_comm (10 ^ r.length) 10,← Nat.mul_assoc] at h
  have h1:(acc+1) * 10≤65536:=Nat.le_trans (Nat.le_mul_of_pos_right _ (Nat.pow_pos (by decide))) h
  rw [Lib.parseUintM,List.all_cons]
  by_cases hc:48≤c.toNat∧c.toNat≤57
  ·have hd:isDg c=true:=isDg_iff.2 hc
   rw [if_pos hc,if_neg (by omega),if_neg (by omega),hd,Bool.true_and,zeY,show acc * 10+(c.toNat - 48)=10 * acc+(c.toNat - 48) by omega]
   refine parseM r _ (Nat.le_trans (Nat.mul_le_mul_right _ ?_) h)
   omega
  ·have hd:isDg c=false:=by
    cases hx:isDg c with
    | false=>rfl
    | true=>exact absurd (isDg_iff.1 hx) hc
   rw [if_neg hc,hd,Bool.false_and,if_neg (by decide)]
theorem parse16 {d:List UInt8} (hl:d.length≤3):Lib.parseUintB 16 d=if d≠[]∧d.all isDg=true then .ok (digV 0 d) else Lib.NumEnd.syntax:=by
 unfold Lib.parseUintB
 by_cases h0:d=[]
 ·rw [if_pos h0,if_neg (fun h=>h.1 h0)]
 ·rw [if_neg h0]
  have h3:10 ^ d.length≤10 ^ 3:=Nat.pow_le_pow_right (by decide) hl
  rw [show (2 ^ 16 - 1:Nat)=65535 from rfl,parseM d 0 (by omega)]
  by_cases ha:d.all isDg=true
  ·rw [if_pos ha,if_pos ⟨h0,ha⟩]
  ·rw [if_neg ha,if_neg (fun h=>ha h.2)]
theorem cutB_ok (t:List UInt8) (h:t.length < 4294967281):ACalls Tryz.prog 204 [str t,str [93]] [] (fun x _=>x=.ret (.tup [str (Lib.cut t [93]).1,str (Lib.cut t [93]).2.1,bl (Lib.cut t [93]).2.2])):=by
 refine zf7 1 (by simp [Globs.ints]) (by kernel_rfl) fun w O m vs n hn hr=>?_
 simp only [reps,str,rep] at hr
 obtain⟨_,_,e1,rfl,_,_,rfl,rfl,rfl⟩:=hr
 have ev:vs=#[.string ⟨t.toArray⟩,.string ⟨[93].toArray⟩]:=by
  apply Array.ext'
  simpa using e1
 subst ev
 refine(Tryz.strings_Cut _ ⟨[93].toArray⟩ n w (by simpa [ByteArray.size] using h) hn).mono ?_
 rintro e w' ⟨rfl,k,rfl⟩
 refine⟨⟨_,rfl,fun w' O m=>?_⟩,⟨rfl,rfl,rfl,Nat.le_refl _,fun _ _=>rfl⟩⟩
 simp only [rep]
 exact⟨_,rfl,by simp [reps,rep,str,bl]⟩
theorem PU_ok (t:List UInt8) (u:Nat) (hl:t.length≤1000000000) (hu:u < 18446744073709551616) (h:Lib.parseUintB 16 t=.ok u):ACalls Tryz.prog 205 [str t,i64 10,i64 16] [] (fun x _=>x=.ret (.tup [u64 (BitVec.ofNat 64 u),.lit .nilIface])) :=
 zgY (by kernel_rfl) fun w O m vs hr=>by
  simp only [reps,str,rep,i64] at hr
  obtain⟨_,_,e1,rfl,_,_,rfl,rfl,_,_,rfl,rfl,rfl⟩:=hr
  obtain rfl:=two_args e1
  refine(Tryz.strconv_ParseUint_10_at16_ok ⟨t.toArray⟩ (by simp [ByteArray.size];omega) u (by simpa using h) w).mono ?_
  rintro e w' ⟨rfl,hw⟩
  refine⟨⟨_,rfl,fun w' O m=>?_⟩,?_⟩
  ·simp only [rep]
   refine⟨_,rfl,?_⟩
   simp only [reps,rep,u64]
   refine⟨_,_,rfl,?_,_,_,rfl,rfl,rfl⟩
   rw [BitVec.toNat_ofNat,Nat.mod_eq_of_lt (by omega)]
  ·rcases hw with rfl | rfl
   ·exact⟨rfl,rfl,rfl,Nat.le_refl _,fun _ _=>rfl⟩
   ·exact Lib.bytesWorld_below _ _ _
theorem PU_bad (t:List UInt8) (hl:t.length≤1000000000) (h:Lib.parseUintB 16 t=Lib.NumEnd.syntax):ACalls Tryz.prog 205 [str t,i64 10,i64 16] [] (fun x _=>x=.ret (.tup [u64 0,.ifc 297 .bot])) :=
 acalls_belowE 2 (by simp [Globs.errs]) (by kernel_rfl) fun w O m vs ty x hx hr=>by
  simp only [reps,str,rep,i64] at hr
  obtain⟨_,_,e1,rfl,_,_,rfl,rfl,_,_,rfl,rfl,rfl⟩:=hr
  obtain rfl:=two_args e1
  refine(Tryz.strconv_ParseUint_10_at16_syntax ⟨t.toArray⟩ (by simp [ByteArray.size];omega) (by simpa using h) (.iface ty x) w hx (.inr ⟨_,_,rfl⟩)).mono ?_
  rintro e w' ⟨N,rfl,_,_,hb⟩
  refine⟨⟨_,rfl,fun w' O m=>?_⟩,hb⟩
  simp only [rep,reps,u64]
  exact⟨_,rfl,_,_,rfl,rfl,_,_,rfl,⟨_,rfl,trivial⟩,rfl⟩
theorem bin_u32_rem {t:TypeId} {K:AV→Prop} (x y:BitVec 32) (h:y≠0#32):wbin T .rem t (u32 x) (u32 y) K=K (u32 (x % y)):=by
 have hy:(y.toNat:Int)≠0:=by
  intro h0
  exact h (BitVec.eq_of_toNat_eq (by simpa using h0))
 simp only [wbin,u32,true_and,ne_eq,hy,not_false_eq_true]
 rw [Int.tmod_eq_emod_of_nonneg (by omega),← Int.natCast_emod,← BitVec.toNat_umod]
theorem idx_strU {x:BitVec 32} {K:AV→Prop} (l:List UInt8):idx2 T (some zbf) (str l) (u32 x) K=(0≤(x.toNat:Int)∧(x.toNat:Int) < l.length∧K (u8 (l.getD x.toNat 0))):=rfl
theorem conv_u32_u8 {σ:zaa} {KS:AV→zaa→Prop} (ts:TI) (x:BitVec 32):zg5 T (some ts) (some tyU8) (u32 x) σ KS=KS (u8 (UInt8.ofBitVec (x.setWidth 8))) σ:=by
 simp only [zg5,tyU8,u32,u8,wrap_u8,zhV]
theorem zjH (l:List UInt8) (i:Nat) (x:UInt8):(l.map u8).set i (u8 x)=(l.set i x).map u8:=by rw [List.map_set]
def smallsL:List UInt8:=[48,48,48,49,48,50,48,51,48,52,48,53,48,54,48,55,48,56,48,57,49,48,49,49,49,50,49,51,49,52,49,53,49,54,49,55,49,56,49,57,50,48,50,49,50,50,50,51,50,52,50,53,50,54,50,55,50,56,50,57,51,48,51,49,51,50,51,51,51,52,51,53,51,54,51,55,51,56,51,57,52,48,52,49,52,50,52,51,52,52,52,53,52,54,52,55,52,56,52,57,53,48,53,49,53,50,53,51,53,52,53,53,53,54,53,55,53,56,53,57,54,48,54,49,54,50,54,51,54,52,54,53,54,54,54,55,54,56,54,57,55,48,55,49,55,50,55,51,55,52,55,53,55,54,55,55,55,56,55,57,56,48,56,49,56,50,56,51,56,52,56,53,56,54,56,55,56,56,56,57,57,48,57,49,57,50,57,51,57,52,57,53,57,54,57,55,57,56,57,57]
set_option maxRecDepth 100000 in
theorem smalls_eq:(([48,48,48,49,48,50,48,51,48,52,48,53,48,54,48,55,48,56,48,57,49,48,49,49,49,50,49,51,49,52,49,53,49,54,49,55,49,56,49,57,50,48,50,49,50,50,50,51,50,52]:List UInt8).append [50,53,50,54,50,55,50,56,50,57,51,48,51,49,51,50,51,51,51,52,51,53,51,54,51,55,51,56,51,57,52,48,52,49,52,50,52,51,52,52,52,53,52,54,52,55,52,56,52,57]).append (([53,48,53,49,53,50,53,51,53,52,53,53,53,54,53,55,53,56,53,57,54,48,54,49,54,50,54,51,54,52,54,53,54,54,54,55,54,56,54,57,55,48,55,49,55,50,55,51,55,52]:List UInt8).append [55,53,55,54,55,55,55,56,55,57,56,48,56,49,56,50,56,51,56,52,56,53,56,54,56,55,56,56,56,57,57,48,57,49,57,50,57,51,57,52,57,53,57,54,57,55,57,56,57,57])=smallsL:=rfl
theorem smalls_len:smallsL.length=200:=by decide +kernel
theorem smalls_get:∀ r,r < 100→smallsL.getD (2 * r) 0=UInt8.ofNat (48+r / 10)∧smallsL.getD (2 * r+1) 0=UInt8.ofNat (48+r % 10):=by decide +kernel
set_option maxRecDepth 100000 in
theorem fmt10_ok (l:List UInt8) (hl:l.length=24) (u:Nat) (h1:100≤u) (h2:u≤999):ACalls Tryz.prog 250 [.ref 0 0 3 1,u64 (BitVec.ofNat 64 u)] [.rw (l.map u8)] (fun y σ=>y=.ret (.tup [])∧σ=[.rw ((Lib.decDigits u++l.drop 3).map u8)]):=by
 refine ACalls.body T_ok Tryz.func250 (by kernel_rfl) rfl Tryz.ntmps250 (congrArg Array.toList Tryz.results250) ?_
 refine aQ25 ?_
 rw [zaK]
 refine⟨Unit,fun _=>True,fun _=>[.ref 0 0 3 1,u64 (BitVec.ofNat 64 u),.bot,.bot,i64 3,.bot,.bot,.bot,.bot,.bot,.bot,.bot,.bot,.bot,.bot,.bot,.bot,.bot,.bot,.bot,.bot,.bot,.bot,.bot,.bot,.bot,.bot,.bot,.bot,.bot,.bot,.bot,.bot,.bot,.bot,.bot,.bot,.bot,.bot,.bot,.bot,.bot,.bot,.bot,.bot,.bot,.bot,.bot,.bot,.bot,.bot,.bot,.bot,.bot,.bot,.bot,.bot,.bot,.bot,.bot,.bot,.bot,.bot,.bot,.bot,.bot,.bot,.bot,.bot,.bot,.bot,.bot,.bot,.bot,.bot,.bot,.bot,.bot,.bot,.bot,.bot,.bot,.bot,.bot,.bot,.bot,.bot,.bot,.bot,.bot,.bot,.bot,.bot,.bot,.bot,.bot,.bot,.bot,.bot,.bot,.bot,.bot,.bot,.bot,.bot,.bot,.bot,.bot,.bot,.bot,.bot,.bot,.bot,.bot,.bot,.bot,.bot,.bot,.bot,.bot,.bot,.bot,.bot,.bot,.bot,.bot,.bot,.bot,.bot,.bot,.bot,.bot,.bot,.bot,.bot,.bot,.bot,.bot,.bot,.bot,.bot,.bot,.bot,.bot,.bot,.bot,.bot,.bot,.bot,.bot,.bot,.bot,.bot,.bot,.bot,.bot,.bot,.bot,.bot,.bot,.bot,.bot,.bot,.bot,.bot,.bot,.bot],fun _=>[.rw (l.map u8)],fun _=>0,(),trivial,zab (q:=[0]) rfl rfl (by decide) ?_ ?_,?_⟩
 ·refine aQ18 ?_
  exact .inr rfl
 ·simp [zaw,Blk.ren,zam u8 zcO]
 intro _ _
 have g8:decide ((8:Int)≤3)=false:=rfl
 have g4:decide ((4:Int)≤3)=false:=rfl
 have g2:decide ((2:Int)≤3)=true:=rfl
 have g0:decide ((0:Int) < 1)=true:=rfl
 have e1:BitVec.setWidth 32 (BitVec.ofNat 64 u) % 100#32 * 2#32=BitVec.ofNat 32 (2 * (u % 100)):=by
  apply BitVec.eq_of_toNat_eq
  simp only [BitVec.toNat_mul,BitVec.toNat_umod,BitVec.toNat_setWidth,BitVec.toNat_ofNat,Nat.reducePow,Nat.reduceMod]
  omega
 have e2:BitVec.setWidth 32 (BitVec.ofNat 64 u) / 100#32=BitVec.ofNat 32 (u / 100):=by
  apply BitVec.eq_of_toNat_eq
  simp only [BitVec.toNat_udiv,BitVec.toNat_setWidth,BitVec.toNat_ofNat,Nat.reducePow,Nat.reduceMod]
  omega
 try simp -implicitDefEqProofs only [LM3,eq_self,Nat.zero_mul,lzS,bx_P,g8,g4,g2,g0,bin_u32_rem _ 100#32 (by decide),bin_u32_quo _ 100#32 (by decide),TB,SB,Int.reduceToNat,Nat.reduceAdd,Nat.reduceEqDiff,Nat.reduceLT,Nat.reduceMod,Nat.reducePow,Nat.reduceSub,if_true,reduceIte]
 rw [e1,e2]
 refine zjl [12,1] (by kernel_rfl) (by kernel_rfl) (by kernel_rfl) ?_
 try simp -implicitDefEqProofs only [LM3,eq_self,Nat.zero_mul,lzS,bx_P,smalls_eq,TB,SB,Int.reduceToNat,Nat.reduceAdd,Nat.reduceEqDiff,Nat.reduceLT,Nat.reduceMod,Nat.reducePow,Nat.reduceSub,if_true,reduceIte]
 refine⟨by unfold inI;omega,by unfold inI;omega,?_⟩
 have t1:(BitVec.ofNat 32 (2 * (u % 100))+1#32).toNat=2 * (u % 100)+1:=by
  simp only [BitVec.toNat_add,BitVec.toNat_ofNat]
  omega
 have t2:(BitVec.ofNat 32 (2 * (u % 100))).toNat=2 * (u % 100):=by
  simp only [BitVec.toNat_ofNat]
  omega
 obtain⟨s1,s2⟩:=smalls_get (u % 100) (by omega)
 try simp -implicitDefEqProofs only [LM3,eq_self,Nat.zero_mul,lzS,bx_P,idx_strU,t1,t2,s1,s2,smalls_len,TB,SB,Int.reduceToNat,Nat.reduceAdd,Nat.reduceEqDiff,Nat.reduceLT,Nat.reduceMod,Nat.reducePow,Nat.reduceSub,if_true,reduceIte]
 refine⟨by omega,by omega,?_⟩
 rw [show (3 - 1:Int)=2 from rfl,show (3 - 2:Int)=1 from rfl,show Int.toNat 2=2 from rfl,show Int.toNat 1=1 from rfl]
 refine⟨by omega,by omega,by decide,by decide,by rw [List.length_map];omega,by decide,by decide,by rw [List.length_set,List.length_map];omega,by unfold inI;omega,fun _=>?_,fun h=>absurd h (by decide)⟩
 have e3:(48#32+BitVec.ofNat 32 (u / 100)).setWidth 8=(UInt8.ofNat (48+u / 100)).toBitVec:=by
  apply BitVec.eq_of_toNat_eq
  simp only [BitVec.toNat_add,BitVec.toNat_setWidth,BitVec.toNat_ofNat,UInt8.toNat_toBitVec,UInt8.toNat_ofNat',Nat.reducePow,Nat.reduceMod]
  omega
 have dza:=e3
 try simp -implicitDefEqProofs only [LM3,eq_self,Nat.zero_mul,lzS,bx_P,conv_u32_u8,dza,TB,SB,Int.reduceToNat,Nat.reduceAdd,Nat.reduceEqDiff,Nat.reduceLT,Nat.reduceMod,Nat.reducePow,Nat.reduceSub,if_true,reduceIte]
 refine⟨by decide,by decide,by rw [List.length_set,List.length_set,List.length_map];omega,?_⟩
 rw [zjH,zjH,show (u8 { toBitVec:=(UInt8.ofNat (48+u / 100)).toBitVec })=u8 (UInt8.ofNat (48+u / 100)) from rfl,zjH]
 have hd:Lib.decDigits u=[UInt8.ofNat (48+u / 100),UInt8.ofNat (48+u % 100 / 10),UInt8.ofNat (48+u % 100 % 10)]:=by
  rw [← dec_3 (by omega) (by omega) (by omega) (by omega),show 100 * (u / 100)+10 * (u % 100 / 10)+u % 100 % 10=u by omega]
 rw [hd]
 match l,hl with
 | a::b::c::r,hl =>
  exact zas ⟨rfl,rfl⟩
theorem acalls_belowV [Globs] {P:Program} {f:FuncId} {xs:List AV} {v:AV} (g:Nat) (cs:List Value) (hgt:Globs.tab g=some cs) (hc:zaW P f=true)
  (h:∀ (w:World) (O:Nat→Prop) (m:Ids) (vs:Array Value),(∃ e f,w.heap[g]?=some (.cells cs.toArray e f))→reps w O m xs vs.toList→Calls P f vs w fun e w'=>(∃ u,e=.returned u∧∀ (w':World) (O:Nat→Prop) (m:Ids),rep w' O m v u)∧RowKit.Below w.heap.size w w'):ACalls P f xs [] (fun x _=>x=.ret v):=by
 refine fun H w m vs hg hs hr=>.inl ⟨hc,?_⟩
 obtain⟨_,_,hn,_⟩:=hg.1 g cs hgt
 refine(h w _ m vs hn hr).mono ?_
 rintro e w' ⟨⟨u,rfl,hu⟩,hb⟩
 obtain⟨s1,x1⟩:=hs.old (w':=w') hb.size hb.block hb.os hb.tape hb.output
 exact⟨.ret v,m,[],s1,x1,hu _ _ _,rfl⟩
theorem nDig3 {u:Nat} (h1:100≤u) (h2:u≤999):Lib.nDigits u=3:=by
 rw [Lib.nDigits,dif_neg (by omega),Lib.nDigits,dif_neg (by omega),Lib.nDigits,dif_pos (by omega)]
theorem numDig_ok (u:Nat) (h1:100≤u) (h2:u≤999):ACalls Tryz.prog 249 [u64 (BitVec.ofNat 64 u)] [] (fun x _=>x=.ret (i64 3)) :=
 acalls_belowV 4 powT rfl (by kernel_rfl) fun w O m vs hp hr=>by
  simp only [reps,u64,rep] at hr
  obtain⟨v,r,e1,rfl,rfl⟩:=hr
  rw [BitVec.toNat_ofNat,Nat.mod_eq_of_lt (by omega)] at e1
  have ev:vs=#[.int .u64 u]:=by
   apply Array.ext'
   simpa using e1
  subst ev
  obtain⟨e,f,hp⟩:=hp
  have htab : Go.Lib.TabIs Tryz.prog w "internal/strconv.uint64pow10" .u64 Go.Lib.pow10Tab := by
   show World.var? _ _ _=_
   unfold World.var?
   rw [show Program.globalNamed Tryz.prog "internal/strconv.uint64pow10" = some 4 by kernel_rfl, Option.bind_some, hp]
   rfl
  refine(Go.Proofs.Tryz.internal_strconv_numDigits u (by omega) (by omega) w htab).mono ?_
  rintro e w' ⟨rfl,rfl⟩
  exact⟨⟨_,rfl,fun w' O m=>by rw [nDig3 h1 h2];simp only [i64,rep];rfl⟩,RowKit.Below.refl _ _⟩
theorem small_ok (u:Nat) (h:u < 100):ACalls Tryz.prog 248 [i64 u] [] (fun x _=>x=.ret (str (Lib.decDigits u))) :=
 zgY (by kernel_rfl) fun w O m vs hr=>by
  simp only [reps,i64,rep] at hr
  obtain⟨v,r,e1,rfl,rfl⟩:=hr
  have ev:vs=#[.int .i64 u]:=by
   apply Array.ext'
   simpa using e1
  subst ev
  refine(Go.Proofs.Tryz.internal_strconv_small u h w).mono ?_
  rintro e w' ⟨rfl,rfl⟩
  exact⟨⟨_,rfl,fun w' O m=>by simp only [str,rep]⟩,RowKit.Below.refl _ _⟩
theorem al_a24 {σ:zaa} {KS:AV→zaa→Prop} (e0:TypeId) (e:TypeId):al1 T e0 (some (zhY 24 e tyU8)) σ KS=KS (.ptr σ.length 0) (σ++[.rw ((List.replicate 24 (0:UInt8)).map u8)]):=rfl
theorem slice_a24 {σ:zaa} {K:AV→Prop} {id:Nat} {l:List UInt8} (hc:σ[id]?=some (.rw (l.map u8))) (hl:l.length=24) (hk:K (.ref id 0 3 1)):zbi T 301 (.ptr id 0) none (some (i64 3)) σ K:=by
 simp only [zbi,T301,zhY,bnd,hc]
 exact⟨_,T5,by decide,by decide,by decide,by decide,by simp [tyU8,hl],by simpa [tyU8] using hk⟩
theorem iFU_ok (u:Nat) (h:u≤999):ACalls Tryz.prog 231 [u64 (BitVec.ofNat 64 u),i64 10] [] (fun x _=>x=.ret (str (Lib.decDigits u))):=by
 have hu:(BitVec.ofNat 64 u).toNat=u:=by
  rw [BitVec.toNat_ofNat];omega
 refine ACalls.body T_ok Tryz.func231 (by kernel_rfl) rfl Tryz.ntmps231 (congrArg Array.toList Tryz.results231) ?_
 refine aQ25 ?_
 have hm:u % 18446744073709551616=u:=by omega
 by_cases h1:u < 100
 ·have dza:=hm
  refine aQ27 ?_
  refine⟨fun _=>?_,fun hc=>absurd (show (u:Int) < (100:Nat) by omega) hc⟩
  have dza:=hm
  try simp -implicitDefEqProofs only [LM3,eq_self,Nat.zero_mul,lzS,bx_P,zbk,dza,TB,SB,Int.reduceToNat,Nat.reduceAdd,Nat.reduceEqDiff,Nat.reduceLT,Nat.reduceMod,Nat.reducePow,Nat.reduceSub,if_true,reduceIte]
  rw [show IntKind.i64.wrap (u:Int)=u by simp [IntKind.wrap,IntKind.bits,IntKind.signed];omega]
  refine(small_ok u h1).pure (by simp [renL,zac]) ?_
  rintro _ σ rfl
  refine⟨zaj _ _,?_⟩
  refine aQ25 ?_
  exact zjo rfl
 obtain⟨z,hz⟩:∃ z,z=List.replicate 24 (0:UInt8):=⟨_,rfl⟩
 have hzl:z.length=24:=by rw [hz];rfl
 have dza:=hm
 refine aQ27 ?_
 refine⟨fun hc=>absurd hc (show ¬ ((u:Int) < (100:Nat)) by omega),fun _=>?_⟩
 try simp -implicitDefEqProofs only [LM3,eq_self,Nat.zero_mul,lzS,bx_P,al_a24,← hz,TB,SB,Int.reduceToNat,Nat.reduceAdd,Nat.reduceEqDiff,Nat.reduceLT,Nat.reduceMod,Nat.reducePow,Nat.reduceSub,if_true,reduceIte]
 refine(numDig_ok u (by omega) h).pure (by simp [renL,zbt]) ?_
 rintro _ σ rfl
 refine⟨zac _ _,?_⟩
 refine aQ25 ?_
 refine slice_a24 rfl hzl ?_
 refine aQ25 ?_
 refine(fmt10_ok z hzl u (by omega) h).mono ?_
 rintro _ _ ⟨rfl,rfl⟩
 refine aQ25 ?_
 have hdl:(Lib.decDigits u).length=3:=by
  rcases dec_form h with ⟨x,hx,rfl,e⟩ | ⟨x,y,h0,hx,hy,rfl,e⟩ | ⟨x,y,z,h0,hx,hy,hz,rfl,e⟩
  ·omega
  ·omega
  ·rw [e];rfl
 refine slice_a24 rfl (by rw [List.length_append,List.length_drop];omega) ?_
 refine aQ25 ?_
 refine⟨by rw [List.length_append,List.length_drop];omega,?_⟩
 exact zjo (by rw [List.take_left' hdl])
theorem FU_ok (u:Nat) (h:u≤999):ACalls Tryz.prog 206 [u64 (BitVec.ofNat 64 u),i64 10] [] (fun x _=>x=.ret (str (Lib.decDigits u))):=by
 refine ACalls.body T_ok Tryz.func206 (by kernel_rfl) rfl Tryz.ntmps206 (congrArg Array.toList Tryz.results206) ?_
 refine aQ25 ?_
 refine(iFU_ok u h).pure (by simp [renL,zbt,zac]) ?_
 rintro _ σ rfl
 refine⟨zaj _ _,?_⟩
 refine aQ25 ?_
 exact zjo rfl
end Go.Proofs.YtdigkoejfgmecaaGreatDoor
end

section
namespace Go.Proofs.YtdigkoejfgmecaaGreatDoor
open Go Go.Eng
def zfL (s:List UInt8):Pt × List UInt8 × Bool:=match numV s with
 | some x=>(x.1,x.2,true)
 | none=>(pt0,[],false)
theorem zhi {s:List UInt8} (h:numV s=none):zfL s=(pt0,[],false):=by rw [zfL,h]
set_option maxHeartbeats 2000000 in
theorem pnumber_ok (s:List UInt8) (hs:s.length≤1000000000):ACalls Tryz.prog 167 [str s] [] (fun y _=>y=.ret (tupP (zfL s))):=by
 refine ACalls.body T_ok Tryz.func167 (by kernel_rfl) rfl Tryz.ntmps167 (congrArg Array.toList Tryz.results167) ?_
 refine aQ25 ?_
 refine(cutB_ok s (by omega)).pure (by simp [renL,zaj]) ?_
 rintro _ σ rfl
 refine⟨by simp [AEnd.noid,AV.ren,renL,zaj,zay],?_⟩
 rw [cut93]
 by_cases hk:clL s < s.length
 rotate_left
 ·rw [if_neg hk]
  refine aQ25 ?_
  exact zcb (x:=zfL s) (by rw [zhi (by rw [numV,if_neg hk])];rfl) rfl
 rw [if_pos hk]
 obtain⟨d,hd⟩:∃ d,d=s.take (clL s):=⟨_,rfl⟩
 have hn:numV s=(numD d).map fun (u:Nat)=>((⟨[],(u:Int)⟩:Pt),s.drop (clL s+1)):=by rw [numV,if_pos hk,hd]
 rw [← hd]
 by_cases h3:3 < (d.length:Int)
 ·have d3:=decide_eq_true h3
  have dza:=d3
  refine aQ26 ?_
  exact zcb (x:=zfL s) (by rw [zhi (by rw [hn,numD,if_neg (by simp [zib];omega)];rfl)];rfl) rfl
 have d3:=decide_eq_false h3
 have dza:=d3
 refine aQ26 ?_
 have hp:=parse16 (d:=d) (by omega)
 by_cases hb:d≠[]∧d.all isDg=true
 rotate_left
 ·rw [if_neg hb] at hp
  refine(PU_bad d (by omega) hp).pure (by simp [renL,zaj,zac]) ?_
  rintro _ σ rfl
  refine⟨by simp [AEnd.noid,AV.ren,renL,zbt],?_⟩
  refine aQ25 ?_
  have hnn:numD d=none:=by
   rw [numD,if_neg (fun h=>hb (by simp only [zib,Bool.and_eq_true,decide_eq_true_eq] at h;exact⟨h.1.1,h.2⟩))]
  exact zcb (x:=zfL s) (by rw [zhi (by rw [hn,hnn];rfl)];rfl) rfl
 rw [if_pos hb] at hp
 have hu:digV 0 d≤999:=by
  obtain⟨g1,g2⟩:=hb
  rw [List.all_eq_true] at g2
  match d,g1,g2,h3 with
  | [a],_,g2,_ =>
   obtain⟨x,hx,rfl⟩:=zg6 (g2 a (by simp))
   rw [digV_1 hx];omega
  | [a,b],_,g2,_ =>
   obtain⟨x,hx,rfl⟩:=zg6 (g2 a (by simp))
   obtain⟨y,hy,rfl⟩:=zg6 (g2 b (by simp))
   rw [digV_2 hx hy];omega
  | [a,b,c],_,g2,_ =>
   obtain⟨x,hx,rfl⟩:=zg6 (g2 a (by simp))
   obtain⟨y,hy,rfl⟩:=zg6 (g2 b (by simp))
   obtain⟨z,hz,rfl⟩:=zg6 (g2 c (by simp))
   rw [digV_3 hx hy hz];omega
  | a::b::c::e::r,_,_,h3=>exact absurd h3 (by simp;omega)
 refine(PU_ok d (digV 0 d) (by omega) (by omega) hp).pure (by simp [renL,zaj,zac]) ?_
 rintro _ σ rfl
 refine⟨by simp [AEnd.noid,AV.ren,renL,zbt],?_⟩
 refine aQ25 ?_
 refine(FU_ok (digV 0 d) hu).pure (by simp [renL,zbt,zac]) ?_
 rintro _ σ rfl
 refine⟨zaj _ _,?_⟩
 by_cases he:Lib.decDigits (digV 0 d)=d
 ·have de:=decide_eq_true he
  have hm:digV 0 d % 18446744073709551616=digV 0 d:=by omega
  have hw:IntKind.i64.wrap ((digV 0 d:Nat):Int)=(digV 0 d:Nat):=by simp [IntKind.wrap,IntKind.bits,IntKind.signed];omega
  have dza:=de
  have dzb:=hm
  have dzc:=hw
  try simp -implicitDefEqProofs only [LM3,eq_self,Nat.zero_mul,lzS,bx_P,dza,zbk,dzb,dzc,TB,SB,Int.reduceToNat,Nat.reduceAdd,Nat.reduceEqDiff,Nat.reduceLT,Nat.reduceMod,Nat.reducePow,Nat.reduceSub,if_true,reduceIte]
  have hv:numD d=some (digV 0 d):=by
   have:=numD_dec hu
   rwa [he] at this
  refine zcb (x:=zfL s) ?_ rfl
  rw [zfL,hn,hv]
  rfl
 ·have de:=decide_eq_false he
  have dza:=de
  refine aQ26 ?_
  refine zcb (x:=zfL s) ?_ rfl
  rw [zhi (by
   rw [hn]
   cases hv:numD d with
   | none=>rfl
   | some u =>
    obtain⟨-,g⟩:=ziX hv
    have:u=digV 0 d:=by
     unfold numD at hv
     split at hv
     ·exact(Option.some.inj hv).symm
     ·cases hv
    rw [← this] at he
    exact absurd g.symm he)]
  rfl
def zgO (s:List UInt8) (f:Bool):Pt × List UInt8 × Bool:=match s with
 | []=>(pt0,[],false)
 | c::r=>if c=91 then zfL r else if f then zgK (c::r) else if c=46 then zgK r else (pt0,[],false)
theorem pnumT_eq (s:List UInt8):match numV s with | some x=>zfL s=(x.1,x.2,true) | none=>(zfL s).2.2=false:=by
 unfold zfL
 split <;> rfl
theorem nameV_eq (s:List UInt8):match zgN s with | some x=>zgK s=(x.1,x.2,true) | none=>(zgK s).2.2=false:=by
 unfold zgN zgK
 by_cases h:0 < nmL s
 ·rw [if_pos h]
  simp only [decide_eq_true h]
 ·rw [if_neg h]
  simp only [decide_eq_false h]
theorem nextT_eq (s:List UInt8) (f:Bool):match zdE s f with | some x=>zgO s f=(x.1,x.2,true) | none=>(zgO s f).2.2=false:=by
 cases s with
 | nil=>rfl
 | cons c r =>
  simp only [zdE,zgO]
  by_cases h1:c=91
  ·rw [if_pos h1,if_pos h1]
   exact pnumT_eq r
  ·rw [if_neg h1,if_neg h1]
   cases f with
   | true =>
    simp only [if_true]
    exact nameV_eq (c::r)
   | false =>
    simp only [Bool.false_eq_true,if_false]
    by_cases h2:c=46
    ·rw [if_pos h2,if_pos h2]
     exact nameV_eq r
    ·rw [if_neg h2,if_neg h2]
theorem pnext_ok (c:UInt8) (r:List UInt8) (f:Bool) (hs:r.length≤999999999):ACalls Tryz.prog 137 [str (c::r),bl f] [] (fun y _=>y=.ret (tupP (zgO (c::r) f))):=by
 refine ACalls.body T_ok Tryz.func137 (by kernel_rfl) rfl Tryz.ntmps137 (congrArg Array.toList Tryz.results137) ?_
 refine aQ25 ?_
 refine⟨by decide,by omega,?_⟩
 rw [List.getD_cons_zero,show UInt8.ofNat 91=91 from rfl]
 refine⟨fun h1=>?_,fun h1=>?_⟩
 ·refine⟨by decide,by omega,?_⟩
  refine(pnumber_ok r (by omega)).pure (by simp [renL,zaj]) ?_
  rintro _ σ rfl
  refine⟨zfb _ _,?_⟩
  have e:zgO (c::r) f=zfL r:=by rw [zgO,if_pos h1]
  rw [e]
  generalize zfL r=z
  rw [zfK]
  refine aQ25 ?_
  exact zcb (x:=z) rfl rfl
 cases f with
 | true =>
  refine aQ25 ?_
  refine(name_ok (c::r) (by rw [List.length_cons];omega)).pure (by simp [renL,zaj]) ?_
  rintro _ σ rfl
  refine⟨zfb _ _,?_⟩
  have e:zgO (c::r) true=zgK (c::r):=by rw [zgO,if_neg h1,if_pos rfl]
  rw [e]
  generalize zgK (c::r)=z
  rw [zfK]
  refine aQ25 ?_
  exact zcb (x:=z) rfl rfl
 | false =>
  refine aQ25 ?_
  refine⟨by decide,by omega,?_⟩
  rw [List.getD_cons_zero,show UInt8.ofNat 46=46 from rfl]
  refine⟨fun h2=>?_,fun h2=>⟨by decide,by omega,?_⟩⟩
  ·refine zcb (x:=zgO (c::r) false) ?_ rfl
   rw [zgO,if_neg h1,if_neg (by decide),if_neg h2]
   rfl
  ·refine(name_ok r (by omega)).pure (by simp [renL,zaj]) ?_
   rintro _ σ rfl
   refine⟨zfb _ _,?_⟩
   have e:zgO (c::r) false=zgK r:=by rw [zgO,if_neg h1,if_neg (by decide),if_pos h2]
   rw [e]
   generalize zgK r=z
   rw [zfK]
   refine aQ25 ?_
   exact zcb (x:=z) rfl rfl
theorem zic {σ:zaa} {a:AV} {l:List Pt} {e:Int} {K:AV→zaa→Prop} (ids:List Nat) (h:frzA (zdX σ ids) a (slP l)) (hK:K (.tup [slP l,i64 e]) []):endQ 0 (.tup [a,i64 e]) σ K :=
 zaX ids (.tup [slP l,i64 e]) ⟨_,rfl,_,_,rfl,h,_,_,rfl,.inl rfl,rfl⟩ ⟨[],.tup [slP l,i64 e],[],rfl,rfl,by decide,by simp [AV.ren,renL,zez,zac],trivial,hK⟩
theorem zg2 {σ:zaa}:frzA σ (.lit (.slice none 0 0)) (slP []):=.inr ⟨rfl,rfl⟩
theorem pt_app {σ:zaa} {KS:AV→zaa→Prop} {id n:Nat} {l:List Pt} {y:Pt} {x:AV} (hc:σ[id]?=some (.rw (l.flatMap ptC))) (hn:n=l.length) (hx:asrc σ 2 x=some ([y].flatMap ptC,1)) (g:l.length≤1000000) (hk:KS (.ref σ.length 0 (n+1) 2) (σ.set id .dead++[.rw ((l++[y]).flatMap ptC)])):zbA T #[96,96] (.ref id 0 n 2) x σ KS:=by
 subst hn
 exact ptF.app rfl rfl T96 T96 (zc5 _) T143 rfl rfl hc hx rfl (by omega) (by simp only [tyPt];omega) hk
def zeg (l:List Pt) (r:List UInt8):Option (List Pt):=(parP r.length l.isEmpty r).map (l++·)
theorem contP_nil (l:List Pt):zeg l []=some l:=by simp [zeg,parP]
theorem zgg {l:List Pt} {r:List UInt8} (h:zdE r l.isEmpty=none) (hr:r≠[]):zeg l r=none:=by
 cases r with
 | nil=>exact absurd rfl hr
 | cons c r=>rw [zeg,List.length_cons,parP,if_neg (List.cons_ne_nil _ _),h];rfl
theorem zgP {l:List Pt} {r:List UInt8} {x:Pt × List UInt8} (h:zdE r l.isEmpty=some x) (hr:r≠[]):zeg l r=zeg (l++[x.1]) x.2:=by
 cases r with
 | nil=>exact absurd rfl hr
 | cons c r =>
  have hl:=zjG h
  rw [List.length_cons] at hl
  rw [zeg,List.length_cons,parP,if_neg (List.cons_ne_nil _ _),h,zeg,show (l++[x.1]).isEmpty=false by cases l <;> rfl]
  simp only
  rw [parP_fuel r.length x.2.length false x.2 (by omega) (Nat.le_refl _),Option.map_map]
  congr 1
  funext y
  simp
theorem bs_P {σ:zaa} {K:AV→zaa→Prop} (k:List UInt8) (b:Int):bs2 (some tyPt) 1 [(0,.agg [str k,i64 b])] σ K=K (.ref σ.length 0 1 2) (σ++[.rw [str k,i64 b]]):=by
 simp [bs2,tyPt,zbo,zbz,AV.cells,za0,List.range_succ,List.replicate,zeT,zcE]
theorem Ppath_ok (s:List UInt8) (hs:s.length≤9223372036854775807):ACalls Tryz.prog 90 [str s] [] (fun y _=>y=.ret (.tup [slP (zcI s).1,i64 (zcI s).2])):=by
 obtain⟨X,hX⟩:∃ X,X=zcI s:=⟨_,rfl⟩
 rw [← hX]
 refine ACalls.body T_ok Tryz.func90 (by kernel_rfl) rfl Tryz.ntmps90 (congrArg Array.toList Tryz.results90) ?_
 by_cases h0:120 < (s.length:Int)
 ·have d0:=decide_eq_true h0
  have dza:=d0
  refine aQ26 ?_
  exact zic (l:=[]) [] zg2 (by rw [hX,zcI,if_pos (by omega)])
 have d0:=decide_eq_false h0
 have hX2:X=match zeg [] s with | some l=>(l,0) | none=>([],9):=by
  rw [hX,zcI,if_neg (by omega),zeg]
  cases hp:parP s.length true s with
  | none=>simp [hp]
  | some l=>simp [hp]
 have dza:=d0
 refine aQ26 ?_
 rw [zaK]
 refine⟨List Pt × List UInt8,fun x=>zeg [] s=zeg x.1 x.2∧x.1.length+x.2.length≤120,fun x=>[str x.2,.bot,.lit (.slice none 0 0),i64 0,.ref 0 0 x.1.length 2,.bot,.bot,.bot,.bot,.bot,.bot,.bot,.bot,.bot,.bot,.bot,.bot,.bot,.bot,.bot,.bot,.bot,.bot,.bot,.bot,.bot,.bot,.bot,.bot,.bot],fun x=>[.rw (x.1.flatMap ptC)],fun x=>x.2.length,([],s),⟨rfl,by simp;omega⟩,zbv 4 2 rfl (zab (q:=[0]) rfl rfl (by decide) ?_ ?_),?_⟩
 ·first|exact aQ18 trivial|refine aQ18 ?_
 ·simp [zaw,Blk.ren,renL]
 rintro⟨l,r⟩ ⟨hc,hl⟩
 dsimp only at hc hl ⊢
 cases r with
 | nil =>
  refine aQ25 ?_
  exact zic (l:=l) [0] (ptF.frz rfl rfl) (by rw [hX2,hc,contP_nil])
 | cons c r =>
  refine aQ25 ?_
  refine⟨fun hne=>?_,fun he=>absurd he (List.cons_ne_nil _ _)⟩
  rw [show decide ((l.length:Int)=0)=l.isEmpty by cases l <;> simp;omega]
  rw [List.length_cons] at hl
  refine(pnext_ok c r l.isEmpty (by omega)).pure (by simp [renL,zaj,zay]) ?_
  rintro _ σ rfl
  refine⟨zfb _ _,?_⟩
  have ht:=nextT_eq (c::r) l.isEmpty
  cases hx:zdE (c::r) l.isEmpty with
  | none =>
   rw [hx] at ht
   generalize zgO (c::r) l.isEmpty=z at ht ⊢
   obtain⟨z1,z2,z3⟩:=z
   dsimp only at ht
   subst ht
   rw [zfK]
   refine aQ25 ?_
   exact zic (l:=[]) [] zg2 (by rw [hX2,hc,zgg hx (List.cons_ne_nil _ _)])
  | some x =>
   rw [hx] at ht
   dsimp only at ht
   have hlt:=zjG hx
   rw [List.length_cons] at hlt
   rw [ht,zfK]
   obtain⟨y,t⟩:=x
   dsimp only at hlt ⊢
   refine aQ28 ?_
   refine pt_app (l:=l) (y:=y) rfl rfl rfl (by omega) ?_
   refine aQ25 ?_
   rw [zad]
   refine⟨(l++[y],t),⟨by rw [hc,zgP hx (List.cons_ne_nil _ _)],by (show (l++[y]).length+t.length≤120);rw [List.length_append,List.length_cons,List.length_nil];omega⟩,by (show t.length < (c::r).length);rw [List.length_cons];omega,?_⟩
   refine zab (q:=[3]) rfl rfl (by decide) ?_ ?_
   ·skip
    refine aQ18 ?_
    rw [List.length_append,List.length_cons,List.length_nil]
   ·refine aQ29 ?_
    simp [zch]
end Go.Proofs.YtdigkoejfgmecaaGreatDoor
end

