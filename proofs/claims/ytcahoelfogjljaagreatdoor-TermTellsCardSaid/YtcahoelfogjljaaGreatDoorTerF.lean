/-
  A path is read; all that stands there. No condition.
-/
import Derived.Test.YtcahoelfogjljaaGreatDoorTerE
import Derived.Test.YtcahoelfogjljaaGreatDoorLib
set_option linter.unusedSimpArgs false
set_option linter.unusedVariables false
set_option linter.unusedSectionVars false
section
namespace Go.Eng
open Go
theorem aQ7 {P:Prop} (e:P:=by simp only [List.length_cons,List.length_nil];omega):P:=e
theorem aQ8 {P:Prop} (e:P:=by simp [AV.ren,renL,zae,zak]):P:=e
theorem aQ9 {P:Prop} (e:P:=by simp [renL,AV.ren,zan,zat,zae]):P:=e
theorem aQ10 {P:Prop} (e:P:=by simp [renL,AV.ren,zan,zat,zae,zah]):P:=e
theorem aQ11 {P:Prop} (e:P:=by simp [renL,AV.ren,zan,zat,zah]):P:=e
theorem aQ29 {P Q:Prop} (h:Q) (e:P=Q:=by first|(simp -implicitDefEqProofs only [LM8,LB16,eq_self,Nat.zero_mul,ia_P,ld_P,zcz,zef,zeg,zeh,zdY,zei,lzS,lw_P,sw_P,bx_P,al_P,zej,bd_P,bd_R,zek,TB,SB,Int.reduceToNat,Nat.reduceAdd,Nat.reduceEqDiff,Nat.reduceLT,Nat.reduceMod,Nat.reducePow,Nat.reduceSub,if_true,reduceIte];first|done|exact rfl)|exact rfl):P:=e ▸ h
theorem aQ30 {P Q:Prop} (h:Q) (e:P=Q:=by first|(simp -implicitDefEqProofs only [LM2,eq_self,Nat.zero_mul,lzS,bx_P,TB,SB,Int.reduceToNat,Nat.reduceAdd,Nat.reduceEqDiff,Nat.reduceLT,Nat.reduceMod,Nat.reducePow,Nat.reduceSub,if_true,reduceIte];first|done|exact rfl)|exact rfl):P:=e ▸ h
theorem aQ31 {P Q:Prop} (h:Q) (e:P=Q:=by first|(simp -implicitDefEqProofs only [LM2,eq_self,Nat.zero_mul,lzS,bx_P,bs_P,TB,SB,Int.reduceToNat,Nat.reduceAdd,Nat.reduceEqDiff,Nat.reduceLT,Nat.reduceMod,Nat.reducePow,Nat.reduceSub,if_true,reduceIte];first|done|exact rfl)|exact rfl):P:=e ▸ h
theorem aQ32 {P Q:Prop} (h:Q) (e:P=Q:=by first|(simp only [zao,Blk.ren,zcp,List.getElem?_cons_zero,List.getElem?_cons_succ];first|done|exact rfl)|exact rfl):P:=e ▸ h
theorem aQ33 {P Q:Prop} (h:Q) (e:P=Q:=by first|(simp -implicitDefEqProofs only [LM4,eq_self,Nat.zero_mul,lzS,bx_P,TB,SB,Int.reduceToNat,Nat.reduceAdd,Nat.reduceEqDiff,Nat.reduceLT,Nat.reduceMod,Nat.reducePow,Nat.reduceSub,if_true,reduceIte];first|done|exact rfl)|exact rfl):P:=e ▸ h
theorem aQ34 {P Q:Prop} (h:Q) (e:P=Q:=by first|(simp -implicitDefEqProofs only [LM4,eq_self,Nat.zero_mul,lzS,bx_P,Option.isSome_none,TB,SB,Int.reduceToNat,Nat.reduceAdd,Nat.reduceEqDiff,Nat.reduceLT,Nat.reduceMod,Nat.reducePow,Nat.reduceSub,if_true,reduceIte];first|done|exact rfl)|exact rfl):P:=e ▸ h
theorem aQ35 {P Q:Prop} (h:Q) (e:P=Q:=by first|(simp -implicitDefEqProofs only [LM4,eq_self,Nat.zero_mul,lzS,bx_P,Option.isSome_some,Option.getD_some,TB,SB,Int.reduceToNat,Nat.reduceAdd,Nat.reduceEqDiff,Nat.reduceLT,Nat.reduceMod,Nat.reducePow,Nat.reduceSub,if_true,reduceIte];first|done|exact rfl)|exact rfl):P:=e ▸ h
theorem aQ36 {P Q:Prop} (h:Q) (e:P=Q:=by first|(simp [-List.map_append,zao,zar,renL,zah,zae,zas i64 zae];first|done|exact rfl)|exact rfl):P:=e ▸ h
theorem aQ37 {P Q:Prop} (h:Q) (e:P=Q:=by first|(simp -implicitDefEqProofs only [LM4,eq_self,Nat.zero_mul,lzS,bx_P,zal,TB,SB,Int.reduceToNat,Nat.reduceAdd,Nat.reduceEqDiff,Nat.reduceLT,Nat.reduceMod,Nat.reducePow,Nat.reduceSub,if_true,reduceIte];first|done|exact rfl)|exact rfl):P:=e ▸ h
theorem aQ38 {P Q:Prop} (h:Q) (e:P=Q:=by first|(simp [-List.map_append,zao,zar,zaB];first|done|exact rfl)|exact rfl):P:=e ▸ h
end Go.Eng
end

section
namespace Go.Proofs.YtcahoelfogjljaaGreatDoor
open Go Go.Eng
def isDg (b:UInt8):Bool:=decide (48≤b.toNat) && decide (b.toNat≤57)
def runL (p:UInt8→Bool):List UInt8→Nat
 | []=>0
 | c::r=>if p c then runL p r+1 else 0
theorem runL_le (p:UInt8→Bool):∀ l,runL p l≤l.length
 | []=>Nat.le_refl _
 | c::r=>by
  have:=runL_le p r
  simp only [runL,List.length_cons]
  split <;> omega
def digV (n:Nat):List UInt8→Nat
 | []=>n
 | c::r=>digV (10 * n+(c.toNat - 48)) r
end Go.Proofs.YtcahoelfogjljaaGreatDoor
end

section
namespace Go.Proofs.YtcahoelfogjljaaGreatDoor
open Go Go.Eng
theorem bin_u8_geq {T:Tab} {t:TypeId} {K:AV→Prop} (x y:UInt8):wbin T .geq t (u8 x) (u8 y) K=K (bl (decide ((y.toNat:Int)≤x.toNat))):=by
 simp [wbin,u8,bl,zdE,cmpV]
theorem bin_u8_leq {T:Tab} {t:TypeId} {K:AV→Prop} (x y:UInt8):wbin T .leq t (u8 x) (u8 y) K=K (bl (decide ((x.toNat:Int)≤y.toNat))):=by
 simp [wbin,u8,bl,zdE,cmpV]
theorem wrap_u8' (n:Int):IntKind.u8.wrap n=n % 256:=by
 simp [IntKind.wrap,IntKind.bits,IntKind.signed]
theorem bin_u8_subP {T:Tab} {t:TypeId} {K:AV→Prop} (x y:UInt8):wbin T .sub t (u8 x) (u8 y) K=K (u8 (x - y)):=by
 have:=x.toNat_lt
 have:=y.toNat_lt
 simp only [wbin,u8,true_and,zdQ,wrap_u8']
 rw [show ((x.toNat:Int) - y.toNat) % 256=((x - y).toNat:Int) by rw [UInt8.toNat_sub];omega]
theorem drop_consP {s:List UInt8} {k:Nat} (h:k < s.length):s.drop k=s.getD k 0::s.drop (k+1):=by
 rw [List.drop_eq_getElem_cons h]
 simp [h]
theorem isDg_iff {c:UInt8}:isDg c=true ↔ 48≤c.toNat∧c.toNat≤57:=by simp [isDg]
theorem runL_all (p:UInt8→Bool):∀ (l:List UInt8) (k:Nat),k≤runL p l→∀ c∈l.take k,p c=true
 | [],k,_,c,hc=>by simp at hc
 | a::l,0,_,c,hc=>by simp at hc
 | a::l,k+1,h,c,hc=>by
  rw [runL] at h
  split at h
  ·rename_i ha
   rw [List.take_succ_cons,List.mem_cons] at hc
   rcases hc with rfl | hc
   ·exact ha
   ·exact runL_all p l k (by omega) c hc
  ·omega
theorem two_args {vs:Array Value} {a b c:Value} (h:vs.toList=[a,b,c]):vs=#[a,b,c]:=Array.ext' (by simpa using h)
end Go.Proofs.YtcahoelfogjljaaGreatDoor
end

section
namespace Go.Proofs.YtcahoelfogjljaaGreatDoor
open Go Go.Eng
set_option linter.defProp false in
def LB16:=And.intro @bin_u8_geq (And.intro @bin_u8_leq (And.intro @bin_u8_subP (@bin_u8_lss)))
set_option linter.defProp false in
def LM8:=And.intro LB0 (And.intro LB1 (And.intro LB2 (And.intro LB3 (And.intro LB4 (And.intro LB6 (LB7))))))
structure Pt where
 key:List UInt8
 pos:Int
 deriving DecidableEq
def pt0:Pt:=⟨[],0⟩
def ptC (x:Pt):List AV:=[str x.key,i64 x.pos]
def ptA (x:Pt):AV:=.agg (ptC x)
def slP (l:List Pt):AV:=.sl (l.flatMap ptC) l.length
theorem ptF:RowF ptC 2:=⟨fun _=>rfl,fun _=>rfl,fun q a=>by simp [ptC,renL,zah,zae]⟩
theorem zcz (x:Pt):ptC x=[str x.key,i64 x.pos]:=rfl
theorem zi8 (x:Pt):ptA x=.agg [str x.key,i64 x.pos]:=rfl
theorem slP_eq (l:List Pt):slP l=.sl (l.flatMap ptC) l.length:=rfl
theorem zcp (q:List Nat) (l:List Pt):renL q (l.flatMap ptC)=some (l.flatMap ptC):=ptF.fren q l
theorem ze8 (q:List Nat) (l:List Pt):(slP l).ren q=some (slP l):=ptF.fsl q l _
section
variable {σ : zaa} {K : AV → Prop} {KS : AV → zaa → Prop} {t : TypeId} {id : Nat}
theorem ia_P (l:List Pt) (m:Nat) (k:Int):ia3 (some tyPt) (.sl (l.flatMap ptC) m) k K=(0≤k∧k < m∧m≤l.length∧K (.rp ((l.drop k.toNat).flatMap ptC))):=ptF.ia rfl (by decide) l m k
theorem ld_P (l:List Pt) (k:Nat):ld2 (some tyPt) (some ((l.drop k).flatMap ptC)) 0 K=(k < l.length∧K (.agg (ptC (l.getD k pt0)))):=ptF.ld rfl (by decide) rfl pt0 l k
theorem zef (o:Nat):zaf T 87 (.ptr id o) 0 K=K (.ptr id (o+0)):=fzP T87 rfl rfl T9 (by decide) id o
theorem zeg (o:Nat):zaf T 87 (.ptr id o) 1 K=K (.ptr id (o+1)):=fzP T87 rfl rfl T3 (by decide) id o
theorem zeh (cs:List AV):zaf T 116 (.rp cs) 1 K=K (.rp (cs.drop 1)):=fzR T116 rfl rfl T3 (by decide) cs
theorem zdY (a:AV) (r:List AV):ld2 (some zaD) (some (a::r)) 0 K=K a:=lz0 rfl rfl a r
theorem zei (a:AV) (r:List AV):ld2 (some tyStr) (some (a::r)) 0 K=K a:=lz0 rfl rfl a r
theorem lw_P (a b:AV):ld2 (some tyPt) (some [a,b]) 0 K=K (.agg [a,b]):=lzW rfl rfl
theorem sw_P (p q:AV) (a:List UInt8) (b:Int):st2 (some tyPt) (some (.rw [p,q])) id 0 (.agg [str a,i64 b]) σ KS=KS (.lit undef) (σ.set id (.rw [str a,i64 b])):=szW rfl rfl rfl id
theorem bx_P (e:TypeId) (a:List UInt8) (b:Int):wbox e (.agg [str a,i64 b]) σ KS=KS (.ptr σ.length 0) (σ++[.rw [str a,i64 b]]):=bxW rfl rfl e
theorem al_P (e:TypeId):al1 T e (some tyPt) σ KS=KS (.ptr σ.length 0) (σ++[.rw [str [],i64 0]]):=rfl
theorem zej:za1 T 87 [] K=K (.agg [str [],i64 0]):=by
 simp [za1,T87,T9,T3,tyPt,zbF,zaI,tyStr,zaD]
 rfl
theorem bd_P (a:List UInt8) (b:Int):za1 T 87 [(0,str a),(1,i64 b)] K=K (.agg [str a,i64 b]):=by
 simp [za1,T87,T9,T3,tyPt,zbF,zaI,zdm,zbR,zb2,zb9,za7,tyStr,zaD]
theorem bd_R (a:List UInt8) (b:Int):za1 T 116 [(0,str a),(1,i64 b)] K=K (.agg [str a,i64 b]):=by
 simp [za1,T116,T9,T3,tyPt,zbF,zaI,zdm,zbR,zb2,zb9,za7,tyStr,zaD]
theorem zek (b:Int):za1 T 116 [(1,i64 b)] K=K (.agg [str [],i64 b]):=by
 simp [za1,T116,T9,T3,tyPt,zbF,zaI,zb2,zb9,za7,tyStr,zaD]
 rfl
end
def isNm (b:UInt8):Bool:=decide ((97≤b.toNat∧b.toNat≤122)∨(65≤b.toNat∧b.toNat≤90)∨(48≤b.toNat∧b.toNat≤57)∨b.toNat=95)
theorem letter_ok (b:UInt8):ACalls Tryz.prog 163 [u8 b] [] (fun y _=>y=.ret (bl (isNm b))):=by
 refine ACalls.body T_ok Tryz.func163 (by kernel_rfl) rfl Tryz.ntmps163 (congrArg Array.toList Tryz.results163) ?_
 refine aQ29 ?_
 have e97:((UInt8.ofNat 97).toNat:Int)=97:=rfl
 have e122:((UInt8.ofNat 122).toNat:Int)=122:=rfl
 have e65:((UInt8.ofNat 65).toNat:Int)=65:=rfl
 have e90:((UInt8.ofNat 90).toNat:Int)=90:=rfl
 have e48:((UInt8.ofNat 48).toNat:Int)=48:=rfl
 have e57:((UInt8.ofNat 57).toNat:Int)=57:=rfl
 have e95:(UInt8.ofNat 95).toNat=95:=rfl
 by_cases h0:b.toNat≤47
 ·have d0:decide (((UInt8.ofNat 97).toNat:Int)≤b.toNat)=false:=decide_eq_false (by omega)
  have d1:decide ((b.toNat:Int)≤(UInt8.ofNat 122).toNat)=true:=decide_eq_true (by omega)
  have d2:decide (((UInt8.ofNat 65).toNat:Int)≤b.toNat)=false:=decide_eq_false (by omega)
  have d3:decide ((b.toNat:Int)≤(UInt8.ofNat 90).toNat)=true:=decide_eq_true (by omega)
  have d4:decide (((UInt8.ofNat 48).toNat:Int)≤b.toNat)=false:=decide_eq_false (by omega)
  have d5:decide ((b.toNat:Int)≤(UInt8.ofNat 57).toNat)=true:=decide_eq_true (by omega)
  have d6:decide (b=UInt8.ofNat 95)=false:=decide_eq_false (fun h=>absurd (congrArg UInt8.toNat h) (by rw [e95];omega))
  try simp -implicitDefEqProofs only [LM8,LB16,eq_self,Nat.zero_mul,ia_P,ld_P,zcz,zef,zeg,zeh,zdY,zei,lzS,lw_P,sw_P,bx_P,al_P,zej,bd_P,bd_R,zek,d0,d1,d2,d3,d4,d5,d6,TB,SB,Int.reduceToNat,Nat.reduceAdd,Nat.reduceEqDiff,Nat.reduceLT,Nat.reduceMod,Nat.reducePow,Nat.reduceSub,if_true,reduceIte]
  exact zaE (by rw [isNm,decide_eq_false (by omega)])
 by_cases h1:b.toNat≤57
 ·have d0:decide (((UInt8.ofNat 97).toNat:Int)≤b.toNat)=false:=decide_eq_false (by omega)
  have d1:decide ((b.toNat:Int)≤(UInt8.ofNat 122).toNat)=true:=decide_eq_true (by omega)
  have d2:decide (((UInt8.ofNat 65).toNat:Int)≤b.toNat)=false:=decide_eq_false (by omega)
  have d3:decide ((b.toNat:Int)≤(UInt8.ofNat 90).toNat)=true:=decide_eq_true (by omega)
  have d4:decide (((UInt8.ofNat 48).toNat:Int)≤b.toNat)=true:=decide_eq_true (by omega)
  have d5:decide ((b.toNat:Int)≤(UInt8.ofNat 57).toNat)=true:=decide_eq_true (by omega)
  have d6:decide (b=UInt8.ofNat 95)=false:=decide_eq_false (fun h=>absurd (congrArg UInt8.toNat h) (by rw [e95];omega))
  try simp -implicitDefEqProofs only [LM8,LB16,eq_self,Nat.zero_mul,ia_P,ld_P,zcz,zef,zeg,zeh,zdY,zei,lzS,lw_P,sw_P,bx_P,al_P,zej,bd_P,bd_R,zek,d0,d1,d2,d3,d4,d5,d6,TB,SB,Int.reduceToNat,Nat.reduceAdd,Nat.reduceEqDiff,Nat.reduceLT,Nat.reduceMod,Nat.reducePow,Nat.reduceSub,if_true,reduceIte]
  exact zaE (by rw [isNm,decide_eq_true (by omega)])
 by_cases h2:b.toNat≤64
 ·have d0:decide (((UInt8.ofNat 97).toNat:Int)≤b.toNat)=false:=decide_eq_false (by omega)
  have d1:decide ((b.toNat:Int)≤(UInt8.ofNat 122).toNat)=true:=decide_eq_true (by omega)
  have d2:decide (((UInt8.ofNat 65).toNat:Int)≤b.toNat)=false:=decide_eq_false (by omega)
  have d3:decide ((b.toNat:Int)≤(UInt8.ofNat 90).toNat)=true:=decide_eq_true (by omega)
  have d4:decide (((UInt8.ofNat 48).toNat:Int)≤b.toNat)=true:=decide_eq_true (by omega)
  have d5:decide ((b.toNat:Int)≤(UInt8.ofNat 57).toNat)=false:=decide_eq_false (by omega)
  have d6:decide (b=UInt8.ofNat 95)=false:=decide_eq_false (fun h=>absurd (congrArg UInt8.toNat h) (by rw [e95];omega))
  try simp -implicitDefEqProofs only [LM8,LB16,eq_self,Nat.zero_mul,ia_P,ld_P,zcz,zef,zeg,zeh,zdY,zei,lzS,lw_P,sw_P,bx_P,al_P,zej,bd_P,bd_R,zek,d0,d1,d2,d3,d4,d5,d6,TB,SB,Int.reduceToNat,Nat.reduceAdd,Nat.reduceEqDiff,Nat.reduceLT,Nat.reduceMod,Nat.reducePow,Nat.reduceSub,if_true,reduceIte]
  exact zaE (by rw [isNm,decide_eq_false (by omega)])
 by_cases h3:b.toNat≤90
 ·have d0:decide (((UInt8.ofNat 97).toNat:Int)≤b.toNat)=false:=decide_eq_false (by omega)
  have d1:decide ((b.toNat:Int)≤(UInt8.ofNat 122).toNat)=true:=decide_eq_true (by omega)
  have d2:decide (((UInt8.ofNat 65).toNat:Int)≤b.toNat)=true:=decide_eq_true (by omega)
  have d3:decide ((b.toNat:Int)≤(UInt8.ofNat 90).toNat)=true:=decide_eq_true (by omega)
  have d4:decide (((UInt8.ofNat 48).toNat:Int)≤b.toNat)=true:=decide_eq_true (by omega)
  have d5:decide ((b.toNat:Int)≤(UInt8.ofNat 57).toNat)=false:=decide_eq_false (by omega)
  have d6:decide (b=UInt8.ofNat 95)=false:=decide_eq_false (fun h=>absurd (congrArg UInt8.toNat h) (by rw [e95];omega))
  try simp -implicitDefEqProofs only [LM8,LB16,eq_self,Nat.zero_mul,ia_P,ld_P,zcz,zef,zeg,zeh,zdY,zei,lzS,lw_P,sw_P,bx_P,al_P,zej,bd_P,bd_R,zek,d0,d1,d2,d3,d4,d5,d6,TB,SB,Int.reduceToNat,Nat.reduceAdd,Nat.reduceEqDiff,Nat.reduceLT,Nat.reduceMod,Nat.reducePow,Nat.reduceSub,if_true,reduceIte]
  exact zaE (by rw [isNm,decide_eq_true (by omega)])
 by_cases h4:b.toNat≤94
 ·have d0:decide (((UInt8.ofNat 97).toNat:Int)≤b.toNat)=false:=decide_eq_false (by omega)
  have d1:decide ((b.toNat:Int)≤(UInt8.ofNat 122).toNat)=true:=decide_eq_true (by omega)
  have d2:decide (((UInt8.ofNat 65).toNat:Int)≤b.toNat)=true:=decide_eq_true (by omega)
  have d3:decide ((b.toNat:Int)≤(UInt8.ofNat 90).toNat)=false:=decide_eq_false (by omega)
  have d4:decide (((UInt8.ofNat 48).toNat:Int)≤b.toNat)=true:=decide_eq_true (by omega)
  have d5:decide ((b.toNat:Int)≤(UInt8.ofNat 57).toNat)=false:=decide_eq_false (by omega)
  have d6:decide (b=UInt8.ofNat 95)=false:=decide_eq_false (fun h=>absurd (congrArg UInt8.toNat h) (by rw [e95];omega))
  try simp -implicitDefEqProofs only [LM8,LB16,eq_self,Nat.zero_mul,ia_P,ld_P,zcz,zef,zeg,zeh,zdY,zei,lzS,lw_P,sw_P,bx_P,al_P,zej,bd_P,bd_R,zek,d0,d1,d2,d3,d4,d5,d6,TB,SB,Int.reduceToNat,Nat.reduceAdd,Nat.reduceEqDiff,Nat.reduceLT,Nat.reduceMod,Nat.reducePow,Nat.reduceSub,if_true,reduceIte]
  exact zaE (by rw [isNm,decide_eq_false (by omega)])
 by_cases h5:b.toNat≤95
 ·have d0:decide (((UInt8.ofNat 97).toNat:Int)≤b.toNat)=false:=decide_eq_false (by omega)
  have d1:decide ((b.toNat:Int)≤(UInt8.ofNat 122).toNat)=true:=decide_eq_true (by omega)
  have d2:decide (((UInt8.ofNat 65).toNat:Int)≤b.toNat)=true:=decide_eq_true (by omega)
  have d3:decide ((b.toNat:Int)≤(UInt8.ofNat 90).toNat)=false:=decide_eq_false (by omega)
  have d4:decide (((UInt8.ofNat 48).toNat:Int)≤b.toNat)=true:=decide_eq_true (by omega)
  have d5:decide ((b.toNat:Int)≤(UInt8.ofNat 57).toNat)=false:=decide_eq_false (by omega)
  have d6:decide (b=UInt8.ofNat 95)=true:=decide_eq_true (UInt8.toNat_inj.1 (by rw [e95];omega))
  try simp -implicitDefEqProofs only [LM8,LB16,eq_self,Nat.zero_mul,ia_P,ld_P,zcz,zef,zeg,zeh,zdY,zei,lzS,lw_P,sw_P,bx_P,al_P,zej,bd_P,bd_R,zek,d0,d1,d2,d3,d4,d5,d6,TB,SB,Int.reduceToNat,Nat.reduceAdd,Nat.reduceEqDiff,Nat.reduceLT,Nat.reduceMod,Nat.reducePow,Nat.reduceSub,if_true,reduceIte]
  exact zaE (by rw [isNm,decide_eq_true (by omega)])
 by_cases h6:b.toNat≤96
 ·have d0:decide (((UInt8.ofNat 97).toNat:Int)≤b.toNat)=false:=decide_eq_false (by omega)
  have d1:decide ((b.toNat:Int)≤(UInt8.ofNat 122).toNat)=true:=decide_eq_true (by omega)
  have d2:decide (((UInt8.ofNat 65).toNat:Int)≤b.toNat)=true:=decide_eq_true (by omega)
  have d3:decide ((b.toNat:Int)≤(UInt8.ofNat 90).toNat)=false:=decide_eq_false (by omega)
  have d4:decide (((UInt8.ofNat 48).toNat:Int)≤b.toNat)=true:=decide_eq_true (by omega)
  have d5:decide ((b.toNat:Int)≤(UInt8.ofNat 57).toNat)=false:=decide_eq_false (by omega)
  have d6:decide (b=UInt8.ofNat 95)=false:=decide_eq_false (fun h=>absurd (congrArg UInt8.toNat h) (by rw [e95];omega))
  try simp -implicitDefEqProofs only [LM8,LB16,eq_self,Nat.zero_mul,ia_P,ld_P,zcz,zef,zeg,zeh,zdY,zei,lzS,lw_P,sw_P,bx_P,al_P,zej,bd_P,bd_R,zek,d0,d1,d2,d3,d4,d5,d6,TB,SB,Int.reduceToNat,Nat.reduceAdd,Nat.reduceEqDiff,Nat.reduceLT,Nat.reduceMod,Nat.reducePow,Nat.reduceSub,if_true,reduceIte]
  exact zaE (by rw [isNm,decide_eq_false (by omega)])
 by_cases h7:b.toNat≤122
 ·have d0:decide (((UInt8.ofNat 97).toNat:Int)≤b.toNat)=true:=decide_eq_true (by omega)
  have d1:decide ((b.toNat:Int)≤(UInt8.ofNat 122).toNat)=true:=decide_eq_true (by omega)
  have d2:decide (((UInt8.ofNat 65).toNat:Int)≤b.toNat)=true:=decide_eq_true (by omega)
  have d3:decide ((b.toNat:Int)≤(UInt8.ofNat 90).toNat)=false:=decide_eq_false (by omega)
  have d4:decide (((UInt8.ofNat 48).toNat:Int)≤b.toNat)=true:=decide_eq_true (by omega)
  have d5:decide ((b.toNat:Int)≤(UInt8.ofNat 57).toNat)=false:=decide_eq_false (by omega)
  have d6:decide (b=UInt8.ofNat 95)=false:=decide_eq_false (fun h=>absurd (congrArg UInt8.toNat h) (by rw [e95];omega))
  try simp -implicitDefEqProofs only [LM8,LB16,eq_self,Nat.zero_mul,ia_P,ld_P,zcz,zef,zeg,zeh,zdY,zei,lzS,lw_P,sw_P,bx_P,al_P,zej,bd_P,bd_R,zek,d0,d1,d2,d3,d4,d5,d6,TB,SB,Int.reduceToNat,Nat.reduceAdd,Nat.reduceEqDiff,Nat.reduceLT,Nat.reduceMod,Nat.reducePow,Nat.reduceSub,if_true,reduceIte]
  exact zaE (by rw [isNm,decide_eq_true (by omega)])
 have d0:decide (((UInt8.ofNat 97).toNat:Int)≤b.toNat)=true:=decide_eq_true (by omega)
 have d1:decide ((b.toNat:Int)≤(UInt8.ofNat 122).toNat)=false:=decide_eq_false (by omega)
 have d2:decide (((UInt8.ofNat 65).toNat:Int)≤b.toNat)=true:=decide_eq_true (by omega)
 have d3:decide ((b.toNat:Int)≤(UInt8.ofNat 90).toNat)=false:=decide_eq_false (by omega)
 have d4:decide (((UInt8.ofNat 48).toNat:Int)≤b.toNat)=true:=decide_eq_true (by omega)
 have d5:decide ((b.toNat:Int)≤(UInt8.ofNat 57).toNat)=false:=decide_eq_false (by omega)
 have d6:decide (b=UInt8.ofNat 95)=false:=decide_eq_false (fun h=>absurd (congrArg UInt8.toNat h) (by rw [e95];omega))
 try simp -implicitDefEqProofs only [LM8,LB16,eq_self,Nat.zero_mul,ia_P,ld_P,zcz,zef,zeg,zeh,zdY,zei,lzS,lw_P,sw_P,bx_P,al_P,zej,bd_P,bd_R,zek,d0,d1,d2,d3,d4,d5,d6,TB,SB,Int.reduceToNat,Nat.reduceAdd,Nat.reduceEqDiff,Nat.reduceLT,Nat.reduceMod,Nat.reducePow,Nat.reduceSub,if_true,reduceIte]
 exact zaE (by rw [isNm,decide_eq_false (by omega)])
theorem named_ok (b:UInt8):ACalls Tryz.prog 73 [u8 b] [] (fun y _=>y=.ret (bl (isNm b))):=by
 refine ACalls.body T_ok Tryz.func73 (by kernel_rfl) rfl Tryz.ntmps73 (congrArg Array.toList Tryz.results73) ?_
 refine aQ29 ?_
 have e97:((UInt8.ofNat 97).toNat:Int)=97:=rfl
 have e122:((UInt8.ofNat 122).toNat:Int)=122:=rfl
 have e65:((UInt8.ofNat 65).toNat:Int)=65:=rfl
 have e90:((UInt8.ofNat 90).toNat:Int)=90:=rfl
 have e48:((UInt8.ofNat 48).toNat:Int)=48:=rfl
 have e57:((UInt8.ofNat 57).toNat:Int)=57:=rfl
 have e95:(UInt8.ofNat 95).toNat=95:=rfl
 by_cases h0:b.toNat≤47
 ·have d0:decide (((UInt8.ofNat 97).toNat:Int)≤b.toNat)=false:=decide_eq_false (by omega)
  have d1:decide ((b.toNat:Int)≤(UInt8.ofNat 122).toNat)=true:=decide_eq_true (by omega)
  have d2:decide (((UInt8.ofNat 65).toNat:Int)≤b.toNat)=false:=decide_eq_false (by omega)
  have d3:decide ((b.toNat:Int)≤(UInt8.ofNat 90).toNat)=true:=decide_eq_true (by omega)
  have d4:decide (((UInt8.ofNat 48).toNat:Int)≤b.toNat)=false:=decide_eq_false (by omega)
  have d5:decide ((b.toNat:Int)≤(UInt8.ofNat 57).toNat)=true:=decide_eq_true (by omega)
  have d6:decide (b=UInt8.ofNat 95)=false:=decide_eq_false (fun h=>absurd (congrArg UInt8.toNat h) (by rw [e95];omega))
  try simp -implicitDefEqProofs only [LM8,LB16,eq_self,Nat.zero_mul,ia_P,ld_P,zcz,zef,zeg,zeh,zdY,zei,lzS,lw_P,sw_P,bx_P,al_P,zej,bd_P,bd_R,zek,d0,d1,d2,d3,d4,d5,d6,TB,SB,Int.reduceToNat,Nat.reduceAdd,Nat.reduceEqDiff,Nat.reduceLT,Nat.reduceMod,Nat.reducePow,Nat.reduceSub,if_true,reduceIte]
  exact zaE (by rw [isNm,decide_eq_false (by omega)])
 by_cases h1:b.toNat≤57
 ·have d0:decide (((UInt8.ofNat 97).toNat:Int)≤b.toNat)=false:=decide_eq_false (by omega)
  have d1:decide ((b.toNat:Int)≤(UInt8.ofNat 122).toNat)=true:=decide_eq_true (by omega)
  have d2:decide (((UInt8.ofNat 65).toNat:Int)≤b.toNat)=false:=decide_eq_false (by omega)
  have d3:decide ((b.toNat:Int)≤(UInt8.ofNat 90).toNat)=true:=decide_eq_true (by omega)
  have d4:decide (((UInt8.ofNat 48).toNat:Int)≤b.toNat)=true:=decide_eq_true (by omega)
  have d5:decide ((b.toNat:Int)≤(UInt8.ofNat 57).toNat)=true:=decide_eq_true (by omega)
  have d6:decide (b=UInt8.ofNat 95)=false:=decide_eq_false (fun h=>absurd (congrArg UInt8.toNat h) (by rw [e95];omega))
  try simp -implicitDefEqProofs only [LM8,LB16,eq_self,Nat.zero_mul,ia_P,ld_P,zcz,zef,zeg,zeh,zdY,zei,lzS,lw_P,sw_P,bx_P,al_P,zej,bd_P,bd_R,zek,d0,d1,d2,d3,d4,d5,d6,TB,SB,Int.reduceToNat,Nat.reduceAdd,Nat.reduceEqDiff,Nat.reduceLT,Nat.reduceMod,Nat.reducePow,Nat.reduceSub,if_true,reduceIte]
  exact zaE (by rw [isNm,decide_eq_true (by omega)])
 by_cases h2:b.toNat≤64
 ·have d0:decide (((UInt8.ofNat 97).toNat:Int)≤b.toNat)=false:=decide_eq_false (by omega)
  have d1:decide ((b.toNat:Int)≤(UInt8.ofNat 122).toNat)=true:=decide_eq_true (by omega)
  have d2:decide (((UInt8.ofNat 65).toNat:Int)≤b.toNat)=false:=decide_eq_false (by omega)
  have d3:decide ((b.toNat:Int)≤(UInt8.ofNat 90).toNat)=true:=decide_eq_true (by omega)
  have d4:decide (((UInt8.ofNat 48).toNat:Int)≤b.toNat)=true:=decide_eq_true (by omega)
  have d5:decide ((b.toNat:Int)≤(UInt8.ofNat 57).toNat)=false:=decide_eq_false (by omega)
  have d6:decide (b=UInt8.ofNat 95)=false:=decide_eq_false (fun h=>absurd (congrArg UInt8.toNat h) (by rw [e95];omega))
  try simp -implicitDefEqProofs only [LM8,LB16,eq_self,Nat.zero_mul,ia_P,ld_P,zcz,zef,zeg,zeh,zdY,zei,lzS,lw_P,sw_P,bx_P,al_P,zej,bd_P,bd_R,zek,d0,d1,d2,d3,d4,d5,d6,TB,SB,Int.reduceToNat,Nat.reduceAdd,Nat.reduceEqDiff,Nat.reduceLT,Nat.reduceMod,Nat.reducePow,Nat.reduceSub,if_true,reduceIte]
  exact zaE (by rw [isNm,decide_eq_false (by omega)])
 by_cases h3:b.toNat≤90
 ·have d0:decide (((UInt8.ofNat 97).toNat:Int)≤b.toNat)=false:=decide_eq_false (by omega)
  have d1:decide ((b.toNat:Int)≤(UInt8.ofNat 122).toNat)=true:=decide_eq_true (by omega)
  have d2:decide (((UInt8.ofNat 65).toNat:Int)≤b.toNat)=true:=decide_eq_true (by omega)
  have d3:decide ((b.toNat:Int)≤(UInt8.ofNat 90).toNat)=true:=decide_eq_true (by omega)
  have d4:decide (((UInt8.ofNat 48).toNat:Int)≤b.toNat)=true:=decide_eq_true (by omega)
  have d5:decide ((b.toNat:Int)≤(UInt8.ofNat 57).toNat)=false:=decide_eq_false (by omega)
  have d6:decide (b=UInt8.ofNat 95)=false:=decide_eq_false (fun h=>absurd (congrArg UInt8.toNat h) (by rw [e95];omega))
  try simp -implicitDefEqProofs only [LM8,LB16,eq_self,Nat.zero_mul,ia_P,ld_P,zcz,zef,zeg,zeh,zdY,zei,lzS,lw_P,sw_P,bx_P,al_P,zej,bd_P,bd_R,zek,d0,d1,d2,d3,d4,d5,d6,TB,SB,Int.reduceToNat,Nat.reduceAdd,Nat.reduceEqDiff,Nat.reduceLT,Nat.reduceMod,Nat.reducePow,Nat.reduceSub,if_true,reduceIte]
  exact zaE (by rw [isNm,decide_eq_true (by omega)])
 by_cases h4:b.toNat≤94
 ·have d0:decide (((UInt8.ofNat 97).toNat:Int)≤b.toNat)=false:=decide_eq_false (by omega)
  have d1:decide ((b.toNat:Int)≤(UInt8.ofNat 122).toNat)=true:=decide_eq_true (by omega)
  have d2:decide (((UInt8.ofNat 65).toNat:Int)≤b.toNat)=true:=decide_eq_true (by omega)
  have d3:decide ((b.toNat:Int)≤(UInt8.ofNat 90).toNat)=false:=decide_eq_false (by omega)
  have d4:decide (((UInt8.ofNat 48).toNat:Int)≤b.toNat)=true:=decide_eq_true (by omega)
  have d5:decide ((b.toNat:Int)≤(UInt8.ofNat 57).toNat)=false:=decide_eq_false (by omega)
  have d6:decide (b=UInt8.ofNat 95)=false:=decide_eq_false (fun h=>absurd (congrArg UInt8.toNat h) (by rw [e95];omega))
  try simp -implicitDefEqProofs only [LM8,LB16,eq_self,Nat.zero_mul,ia_P,ld_P,zcz,zef,zeg,zeh,zdY,zei,lzS,lw_P,sw_P,bx_P,al_P,zej,bd_P,bd_R,zek,d0,d1,d2,d3,d4,d5,d6,TB,SB,Int.reduceToNat,Nat.reduceAdd,Nat.reduceEqDiff,Nat.reduceLT,Nat.reduceMod,Nat.reducePow,Nat.reduceSub,if_true,reduceIte]
  exact zaE (by rw [isNm,decide_eq_false (by omega)])
 by_cases h5:b.toNat≤95
 ·have d0:decide (((UInt8.ofNat 97).toNat:Int)≤b.toNat)=false:=decide_eq_false (by omega)
  have d1:decide ((b.toNat:Int)≤(UInt8.ofNat 122).toNat)=true:=decide_eq_true (by omega)
  have d2:decide (((UInt8.ofNat 65).toNat:Int)≤b.toNat)=true:=decide_eq_true (by omega)
  have d3:decide ((b.toNat:Int)≤(UInt8.ofNat 90).toNat)=false:=decide_eq_false (by omega)
  have d4:decide (((UInt8.ofNat 48).toNat:Int)≤b.toNat)=true:=decide_eq_true (by omega)
  have d5:decide ((b.toNat:Int)≤(UInt8.ofNat 57).toNat)=false:=decide_eq_false (by omega)
  have d6:decide (b=UInt8.ofNat 95)=true:=decide_eq_true (UInt8.toNat_inj.1 (by rw [e95];omega))
  try simp -implicitDefEqProofs only [LM8,LB16,eq_self,Nat.zero_mul,ia_P,ld_P,zcz,zef,zeg,zeh,zdY,zei,lzS,lw_P,sw_P,bx_P,al_P,zej,bd_P,bd_R,zek,d0,d1,d2,d3,d4,d5,d6,TB,SB,Int.reduceToNat,Nat.reduceAdd,Nat.reduceEqDiff,Nat.reduceLT,Nat.reduceMod,Nat.reducePow,Nat.reduceSub,if_true,reduceIte]
  exact zaE (by rw [isNm,decide_eq_true (by omega)])
 by_cases h6:b.toNat≤96
 ·have d0:decide (((UInt8.ofNat 97).toNat:Int)≤b.toNat)=false:=decide_eq_false (by omega)
  have d1:decide ((b.toNat:Int)≤(UInt8.ofNat 122).toNat)=true:=decide_eq_true (by omega)
  have d2:decide (((UInt8.ofNat 65).toNat:Int)≤b.toNat)=true:=decide_eq_true (by omega)
  have d3:decide ((b.toNat:Int)≤(UInt8.ofNat 90).toNat)=false:=decide_eq_false (by omega)
  have d4:decide (((UInt8.ofNat 48).toNat:Int)≤b.toNat)=true:=decide_eq_true (by omega)
  have d5:decide ((b.toNat:Int)≤(UInt8.ofNat 57).toNat)=false:=decide_eq_false (by omega)
  have d6:decide (b=UInt8.ofNat 95)=false:=decide_eq_false (fun h=>absurd (congrArg UInt8.toNat h) (by rw [e95];omega))
  try simp -implicitDefEqProofs only [LM8,LB16,eq_self,Nat.zero_mul,ia_P,ld_P,zcz,zef,zeg,zeh,zdY,zei,lzS,lw_P,sw_P,bx_P,al_P,zej,bd_P,bd_R,zek,d0,d1,d2,d3,d4,d5,d6,TB,SB,Int.reduceToNat,Nat.reduceAdd,Nat.reduceEqDiff,Nat.reduceLT,Nat.reduceMod,Nat.reducePow,Nat.reduceSub,if_true,reduceIte]
  exact zaE (by rw [isNm,decide_eq_false (by omega)])
 by_cases h7:b.toNat≤122
 ·have d0:decide (((UInt8.ofNat 97).toNat:Int)≤b.toNat)=true:=decide_eq_true (by omega)
  have d1:decide ((b.toNat:Int)≤(UInt8.ofNat 122).toNat)=true:=decide_eq_true (by omega)
  have d2:decide (((UInt8.ofNat 65).toNat:Int)≤b.toNat)=true:=decide_eq_true (by omega)
  have d3:decide ((b.toNat:Int)≤(UInt8.ofNat 90).toNat)=false:=decide_eq_false (by omega)
  have d4:decide (((UInt8.ofNat 48).toNat:Int)≤b.toNat)=true:=decide_eq_true (by omega)
  have d5:decide ((b.toNat:Int)≤(UInt8.ofNat 57).toNat)=false:=decide_eq_false (by omega)
  have d6:decide (b=UInt8.ofNat 95)=false:=decide_eq_false (fun h=>absurd (congrArg UInt8.toNat h) (by rw [e95];omega))
  try simp -implicitDefEqProofs only [LM8,LB16,eq_self,Nat.zero_mul,ia_P,ld_P,zcz,zef,zeg,zeh,zdY,zei,lzS,lw_P,sw_P,bx_P,al_P,zej,bd_P,bd_R,zek,d0,d1,d2,d3,d4,d5,d6,TB,SB,Int.reduceToNat,Nat.reduceAdd,Nat.reduceEqDiff,Nat.reduceLT,Nat.reduceMod,Nat.reducePow,Nat.reduceSub,if_true,reduceIte]
  exact zaE (by rw [isNm,decide_eq_true (by omega)])
 have d0:decide (((UInt8.ofNat 97).toNat:Int)≤b.toNat)=true:=decide_eq_true (by omega)
 have d1:decide ((b.toNat:Int)≤(UInt8.ofNat 122).toNat)=false:=decide_eq_false (by omega)
 have d2:decide (((UInt8.ofNat 65).toNat:Int)≤b.toNat)=true:=decide_eq_true (by omega)
 have d3:decide ((b.toNat:Int)≤(UInt8.ofNat 90).toNat)=false:=decide_eq_false (by omega)
 have d4:decide (((UInt8.ofNat 48).toNat:Int)≤b.toNat)=true:=decide_eq_true (by omega)
 have d5:decide ((b.toNat:Int)≤(UInt8.ofNat 57).toNat)=false:=decide_eq_false (by omega)
 have d6:decide (b=UInt8.ofNat 95)=false:=decide_eq_false (fun h=>absurd (congrArg UInt8.toNat h) (by rw [e95];omega))
 try simp -implicitDefEqProofs only [LM8,LB16,eq_self,Nat.zero_mul,ia_P,ld_P,zcz,zef,zeg,zeh,zdY,zei,lzS,lw_P,sw_P,bx_P,al_P,zej,bd_P,bd_R,zek,d0,d1,d2,d3,d4,d5,d6,TB,SB,Int.reduceToNat,Nat.reduceAdd,Nat.reduceEqDiff,Nat.reduceLT,Nat.reduceMod,Nat.reducePow,Nat.reduceSub,if_true,reduceIte]
 exact zaE (by rw [isNm,decide_eq_false (by omega)])
end Go.Proofs.YtcahoelfogjljaaGreatDoor
end

section
namespace Go.Proofs.YtcahoelfogjljaaGreatDoor
open Go Go.Eng
set_option linter.defProp false in
def LB17:=And.intro @zdY (@zei)
set_option linter.defProp false in
def LB18:=And.intro @ia_P (And.intro @zeh (@lw_P))
set_option linter.defProp false in
def LB19:=And.intro @ld_P (And.intro @zcz (And.intro @zef (And.intro @zeg (And.intro @sw_P (And.intro @al_P (And.intro @zej (And.intro @bd_P (And.intro @bd_R (@zek)))))))))
set_option linter.defProp false in
def LM2:=And.intro LB0 (And.intro LB1 (And.intro LB2 (And.intro LB3 (And.intro LB4 (And.intro LB6 (And.intro LB7 (And.intro LB16 (And.intro LB17 (And.intro LB18 (LB19))))))))))
theorem zgp (p:UInt8→Bool):∀ (l:List UInt8) (k:Nat),k≤runL p l→k < l.length→p (l.getD k 0)=decide (k < runL p l)
 | [],k,_,h=>absurd h (Nat.not_lt_zero _)
 | c::r,0,_,_=>by
  rw [List.getD_cons_zero,runL]
  cases hc:p c with
  | true=>simp
  | false=>simp
 | c::r,k+1,h,hl=>by
  rw [runL] at h ⊢
  cases hc:p c with
  | false =>
   rw [hc] at h
   simp at h
  | true =>
   rw [hc] at h
   simp only [if_true] at h ⊢
   rw [List.getD_cons_succ,zgp p r k (by omega) (by simpa using hl)]
   exact decide_eq_decide.2 (by omega)
def nmL (s:List UInt8):Nat:=runL isNm s
theorem nmL_le (s:List UInt8):nmL s≤s.length:=runL_le _ s
def zgV (s:List UInt8):Pt × List UInt8 × Bool:=(⟨s.take (nmL s),-1⟩,s.drop (nmL s),decide (0 < nmL s))
def tupP (x:Pt × List UInt8 × Bool):AV:=.tup [ptA x.1,str x.2.1,bl x.2.2]
theorem zfR (x:Pt × List UInt8 × Bool):tupP x=.tup [.agg [str x.1.key,i64 x.1.pos],str x.2.1,bl x.2.2]:=rfl
theorem zgq (q:List Nat) (x:Pt × List UInt8 × Bool):(tupP x).ren q=some (tupP x):=by simp [tupP,ptA,ptC,AV.ren,renL,zae,zah,zak]
theorem zcf {x:Pt × List UInt8 × Bool} {a b c:AV} {σ:zaa} {K:AV→zaa→Prop} (h0:AV.tup [a,b,c]=tupP x) (h:K (tupP x) []):endQ 0 (.tup [a,b,c]) σ K:=by
 rw [h0]
 exact zaP (zgq _ _) h
theorem name_ok (s:List UInt8) (hs:s.length≤1000000000):ACalls Tryz.prog 132 [str s] [] (fun y _=>y=.ret (tupP (zgV s))):=by
 refine ACalls.body T_ok Tryz.func132 (by kernel_rfl) rfl Tryz.ntmps132 (congrArg Array.toList Tryz.results132) ?_
 refine aQ30 ?_
 rw [zaN]
 refine⟨Nat,fun k=>k≤nmL s,fun k=>[str s,.bot,.ptr 0 0,str [],bl false,i64 k,.bot,.bot,.bot,.bot,.bot,.bot,.bot,.bot,.bot,.bot,.bot,.bot,.bot,.bot,.bot,.bot,.bot,.bot,.bot,.bot,.bot],fun k=>[.rw [str [],i64 0]],fun k=>s.length - k,0,Nat.zero_le _,zab (q:=[0]) rfl rfl (by decide) ?_ ?_,?_⟩
 ·refine aQ19 ?_
  exact .inr rfl
 ·simp [zao,Blk.ren,renL,zae,zah]
 intro k hk
 have hle:=nmL_le s
 have hend:k=nmL s→zgV s=(⟨s.take k,-1⟩,s.drop k,decide (0 < k)):=fun h=>by rw [h];rfl
 by_cases hl:k < s.length
 ·have d0:decide ((k:Int) < (s.length:Int))=true:=decide_eq_true (by omega)
  have hst:=zgp isNm s k hk hl
  try simp -implicitDefEqProofs only [LM2,eq_self,Nat.zero_mul,lzS,bx_P,d0,TB,SB,Int.reduceToNat,Nat.reduceAdd,Nat.reduceEqDiff,Nat.reduceLT,Nat.reduceMod,Nat.reducePow,Nat.reduceSub,if_true,reduceIte]
  refine⟨by omega,by omega,?_⟩
  refine(letter_ok _).pure (by simp [renL,zb7]) ?_
  rintro _ σ rfl
  refine⟨zak _ _,?_⟩
  rw [hst]
  by_cases hn:k < runL isNm s
  ·try simp -implicitDefEqProofs only [LM2,eq_self,Nat.zero_mul,lzS,bx_P,decide_eq_true hn,TB,SB,Int.reduceToNat,Nat.reduceAdd,Nat.reduceEqDiff,Nat.reduceLT,Nat.reduceMod,Nat.reducePow,Nat.reduceSub,if_true,reduceIte]
   refine⟨by unfold inI;omega,?_⟩
   rw [zac]
   refine⟨k+1,hn,by (show s.length - (k+1) < s.length - k);omega,?_⟩
   refine zab (q:=[0]) rfl rfl (by decide) ?_ ?_
   ·refine aQ19 ?_
    exact .inr (by omega)
   ·simp [zao,Blk.ren,renL,zae,zah]
  ·try simp -implicitDefEqProofs only [LM2,eq_self,Nat.zero_mul,lzS,bx_P,decide_eq_false hn,TB,SB,Int.reduceToNat,Nat.reduceAdd,Nat.reduceEqDiff,Nat.reduceLT,Nat.reduceMod,Nat.reducePow,Nat.reduceSub,if_true,reduceIte]
   have hk2:k=nmL s:=by unfold nmL at hk ⊢;omega
   refine zjw [9] (by kernel_rfl) (by kernel_rfl) (by kernel_rfl) ?_
   refine aQ30 ?_
   refine⟨by omega,by omega,by omega,by omega,?_⟩
   refine zcf (x:=zgV s) ?_ rfl
   rw [hend hk2,zfR]
   exact congrArg (fun z=>AV.tup [_,_,bl z]) (decide_eq_decide.2 (by omega))
 ·have d0:decide ((k:Int) < (s.length:Int))=false:=decide_eq_false (by omega)
  try simp -implicitDefEqProofs only [LM2,eq_self,Nat.zero_mul,lzS,bx_P,d0,TB,SB,Int.reduceToNat,Nat.reduceAdd,Nat.reduceEqDiff,Nat.reduceLT,Nat.reduceMod,Nat.reducePow,Nat.reduceSub,if_true,reduceIte]
  have hk2:k=nmL s:=by omega
  refine zjw [9] (by kernel_rfl) (by kernel_rfl) (by kernel_rfl) ?_
  refine aQ30 ?_
  refine⟨by omega,by omega,by omega,by omega,?_⟩
  refine zcf (x:=zgV s) ?_ rfl
  rw [hend hk2,zfR]
  exact congrArg (fun z=>AV.tup [_,_,bl z]) (decide_eq_decide.2 (by omega))
end Go.Proofs.YtcahoelfogjljaaGreatDoor
end

section
namespace Go.Proofs.YtcahoelfogjljaaGreatDoor
open Go Go.Eng
theorem dec_one {u:Nat} (h:u < 10):Lib.decDigits u=[UInt8.ofNat (48+u)]:=by rw [Lib.decDigits,dif_pos h]
theorem dec_step {u:Nat} (h:10≤u):Lib.decDigits u=Lib.decDigits (u / 10)++[UInt8.ofNat (48+u % 10)]:=by rw [Lib.decDigits,dif_neg (by omega)]
theorem zhh {c:UInt8} (h:isDg c=true):∃ x,x < 10∧c=UInt8.ofNat (48+x):=by
 have:=isDg_iff.1 h
 refine⟨c.toNat - 48,by omega,?_⟩
 rw [show 48+(c.toNat - 48)=c.toNat by omega,UInt8.ofNat_toNat]
theorem zjQ {x:Nat} (h:x < 10):(UInt8.ofNat (48+x)).toNat=48+x:=by
 rw [UInt8.toNat_ofNat'];omega
theorem zgW {x:Nat} (h:x < 10):isDg (UInt8.ofNat (48+x))=true:=isDg_iff.2 (by rw [zjQ h];omega)
theorem ze9 (n:Nat) (c:UInt8) (r:List UInt8):digV n (c::r)=digV (10 * n+(c.toNat - 48)) r:=by
 have e:digV n (c::r)=digV (10 * n+(c.toNat - 48)) r:=rfl
 exact e
theorem zdM (n:Nat):digV n []=n:=by
 have e:digV n []=n:=rfl
 exact e
theorem zgX (n:Nat) {x:Nat} (h:x < 10) (r:List UInt8):digV n (UInt8.ofNat (48+x)::r)=digV (10 * n+x) r:=by
 rw [ze9,zjQ h,Nat.add_sub_cancel_left]
theorem digV_1 {x:Nat} (h:x < 10):digV 0 [UInt8.ofNat (48+x)]=x:=by
 rw [zgX _ h,zdM,Nat.mul_zero,Nat.zero_add]
theorem digV_2 {x y:Nat} (h:x < 10) (g:y < 10):digV 0 [UInt8.ofNat (48+x),UInt8.ofNat (48+y)]=10 * x+y:=by
 rw [zgX _ h,zgX _ g,zdM,Nat.mul_zero,Nat.zero_add]
theorem digV_3 {x y z:Nat} (h:x < 10) (g:y < 10) (k:z < 10):digV 0 [UInt8.ofNat (48+x),UInt8.ofNat (48+y),UInt8.ofNat (48+z)]=100 * x+10 * y+z:=by
 rw [zgX _ h,zgX _ g,zgX _ k,zdM,Nat.mul_zero,Nat.zero_add]
 omega
theorem dec_2 {x y:Nat} (h:0 < x) (hx:x < 10) (hy:y < 10):Lib.decDigits (10 * x+y)=[UInt8.ofNat (48+x),UInt8.ofNat (48+y)]:=by
 rw [dec_step (by omega),show (10 * x+y) / 10=x by omega,show (10 * x+y) % 10=y by omega,dec_one hx];rfl
theorem dec_3 {x y z:Nat} (h:0 < x) (hx:x < 10) (hy:y < 10) (hz:z < 10):Lib.decDigits (100 * x+10 * y+z)=[UInt8.ofNat (48+x),UInt8.ofNat (48+y),UInt8.ofNat (48+z)]:=by
 rw [dec_step (by omega),show (100 * x+10 * y+z) / 10=10 * x+y by omega,show (100 * x+10 * y+z) % 10=z by omega,dec_2 h hx hy];rfl
def zin (d:List UInt8):Bool:=decide (d≠[]∧d.length≤3∧¬ (1 < d.length∧d.head?=some 48)) && d.all isDg
def numD (d:List UInt8):Option Nat:=if zin d then some (digV 0 d) else none
theorem zi9 {d:List UInt8} {u:Nat} (h:numD d=some u):u≤999∧d=Lib.decDigits u:=by
 unfold numD at h
 split at h
 ·rename_i hb
  simp only [zin,Bool.and_eq_true,decide_eq_true_eq,List.all_eq_true] at hb
  obtain⟨⟨h1,h2,h3⟩,h4⟩:=hb
  cases h
  match d,h1,h2,h3,h4 with
  | [a],_,_,_,h4 =>
   obtain⟨x,hx,rfl⟩:=zhh (h4 a (by simp))
   rw [digV_1 hx,dec_one hx]
   exact⟨by omega,rfl⟩
  | [a,b],_,_,h3,h4 =>
   obtain⟨x,hx,rfl⟩:=zhh (h4 a (by simp))
   obtain⟨y,hy,rfl⟩:=zhh (h4 b (by simp))
   have h0:0 < x:=by
    rcases Nat.eq_zero_or_pos x with rfl | h
    ·exact absurd ⟨by simp,rfl⟩ h3
    ·exact h
   rw [digV_2 hx hy,dec_2 h0 hx hy]
   exact⟨by omega,rfl⟩
  | [a,b,c],_,_,h3,h4 =>
   obtain⟨x,hx,rfl⟩:=zhh (h4 a (by simp))
   obtain⟨y,hy,rfl⟩:=zhh (h4 b (by simp))
   obtain⟨z,hz,rfl⟩:=zhh (h4 c (by simp))
   have h0:0 < x:=by
    rcases Nat.eq_zero_or_pos x with rfl | h
    ·exact absurd ⟨by simp,rfl⟩ h3
    ·exact h
   rw [digV_3 hx hy hz,dec_3 h0 hx hy hz]
   exact⟨by omega,rfl⟩
  | a::b::c::e::r,_,h2,_,_=>simp at h2
 ·cases h
theorem dec_form {u:Nat} (h:u≤999):(∃ x,x < 10∧u=x∧Lib.decDigits u=[UInt8.ofNat (48+x)])∨(∃ x y,0 < x∧x < 10∧y < 10∧u=10 * x+y∧Lib.decDigits u=[UInt8.ofNat (48+x),UInt8.ofNat (48+y)])∨(∃ x y z,0 < x∧x < 10∧y < 10∧z < 10∧u=100 * x+10 * y+z∧Lib.decDigits u=[UInt8.ofNat (48+x),UInt8.ofNat (48+y),UInt8.ofNat (48+z)]):=by
 rcases Nat.lt_or_ge u 10 with h1 | h1
 ·exact .inl ⟨u,h1,rfl,dec_one h1⟩
 rcases Nat.lt_or_ge u 100 with h2 | h2
 ·refine .inr (.inl ⟨u / 10,u % 10,by omega,by omega,by omega,by omega,?_⟩)
  rw [← dec_2 (by omega) (by omega) (by omega),show 10 * (u / 10)+u % 10=u by omega]
 ·refine .inr (.inr ⟨u / 100,u / 10 % 10,u % 10,by omega,by omega,by omega,by omega,by omega,?_⟩)
  rw [← dec_3 (by omega) (by omega) (by omega) (by omega),show 100 * (u / 100)+10 * (u / 10 % 10)+u % 10=u by omega]
theorem numD_dec {u:Nat} (h:u≤999):numD (Lib.decDigits u)=some u:=by
 have n48:∀ {x:Nat},0 < x→x < 10→¬ (some (UInt8.ofNat (48+x))=some (48:UInt8)):=fun h0 hx e=>by
  have:=congrArg UInt8.toNat (Option.some.inj e)
  rw [zjQ hx] at this
  have e2:(48:UInt8).toNat=48:=rfl
  omega
 have nb:∀ d:List UInt8,d≠[]→d.length≤3→¬ (1 < d.length∧d.head?=some 48)→(∀ c∈d,isDg c=true)→zin d=true:=fun d h1 h2 h3 h4=>by
  rw [zin,Bool.and_eq_true,decide_eq_true_eq,List.all_eq_true]
  exact⟨⟨h1,h2,h3⟩,h4⟩
 rcases dec_form h with ⟨x,hx,rfl,e⟩ | ⟨x,y,h0,hx,hy,rfl,e⟩ | ⟨x,y,z,h0,hx,hy,hz,rfl,e⟩
 ·rw [e,numD,if_pos (nb _ (List.cons_ne_nil _ _) aQ7 (fun h=>absurd h.1 aQ7) fun c hc=>?_),digV_1 hx]
  simp only [List.mem_cons,List.not_mem_nil,or_false] at hc
  rw [hc];exact zgW hx
 ·rw [e,numD,if_pos (nb _ (List.cons_ne_nil _ _) aQ7 (fun h=>n48 h0 hx h.2) fun c hc=>?_),digV_2 hx hy]
  simp only [List.mem_cons,List.not_mem_nil,or_false] at hc
  rcases hc with rfl | rfl
  ·exact zgW hx
  ·exact zgW hy
 ·rw [e,numD,if_pos (nb _ (List.cons_ne_nil _ _) aQ7 (fun h=>n48 h0 hx h.2) fun c hc=>?_),digV_3 hx hy hz]
  simp only [List.mem_cons,List.not_mem_nil,or_false] at hc
  rcases hc with rfl | rfl | rfl
  ·exact zgW hx
  ·exact zgW hy
  ·exact zgW hz
end Go.Proofs.YtcahoelfogjljaaGreatDoor
end

section
namespace Go.Proofs.YtcahoelfogjljaaGreatDoor
open Go Go.Eng
theorem runL_end (p:UInt8→Bool):∀ (l:List UInt8) (c:UInt8),(l.drop (runL p l)).head?=some c→p c=false
 | [],c,h=>by simp [runL] at h
 | x::l,c,h=>by
  rw [runL] at h
  cases hx:p x with
  | false =>
   rw [hx] at h
   simp only [Bool.false_eq_true,if_false,List.drop_zero,List.head?_cons,Option.some.injEq] at h
   rw [← h,hx]
  | true =>
   rw [hx,if_pos rfl,List.drop_succ_cons] at h
   exact runL_end p l c h
theorem runL_lt (p:UInt8→Bool) {l:List UInt8} (h:runL p l < l.length):∃ c r,l.drop (runL p l)=c::r∧p c=false∧l.drop (runL p l+1)=r:=by
 cases hd:l.drop (runL p l) with
 | nil=>rw [List.drop_eq_nil_iff] at hd;omega
 | cons c r =>
  refine⟨c,r,rfl,runL_end p l c (by rw [hd];rfl),?_⟩
  rw [← List.drop_drop,hd]
  rfl
def clL (s:List UInt8):Nat:=runL (fun c=>c != 93) s
theorem clL_le (s:List UInt8):clL s≤s.length:=runL_le _ s
def numV (s:List UInt8):Option (Pt × List UInt8):=if clL s < s.length then (numD (s.take (clL s))).map fun (u:Nat)=>((⟨[],(u:Int)⟩:Pt),s.drop (clL s+1)) else none
def zgY (s:List UInt8):Option (Pt × List UInt8):=if 0 < nmL s then some (⟨s.take (nmL s),-1⟩,s.drop (nmL s)) else none
def zdG (s:List UInt8) (first:Bool):Option (Pt × List UInt8):=match s with
 | []=>none
 | c::r=>if c=91 then numV r else if first then zgY (c::r) else if c=46 then zgY r else none
def parP:Nat→Bool→List UInt8→Option (List Pt)
 | 0,_,s=>if s=[] then some [] else none
 | n+1,first,s=>if s=[] then some [] else match zdG s first with
  | none=>none
  | some x=>(parP n false x.2).map (x.1::·)
def zbz (s:List UInt8):List Pt × Int:=if 120 < s.length then ([],9) else match parP s.length true s with
 | some l=>(l,0)
 | none=>([],9)
def okP (x:Pt):Bool:=(decide (x.key=[]) && decide (0≤x.pos∧x.pos≤999)) || (decide (x.pos=-1) && (decide (x.key≠[]) && x.key.all isNm))
def ptX (first:Bool) (x:Pt):List UInt8:=if x.pos≠-1 then 91::(Lib.itoa x.pos++[93]) else if first then x.key else 46::x.key
def shP:Bool→List Pt→List UInt8
 | _,[]=>[]
 | f,x::r=>ptX f x++shP false r
theorem numV_lt {s:List UInt8} {x:Pt × List UInt8} (h:numV s=some x):x.2.length < s.length:=by
 unfold numV at h
 split at h
 ·rename_i hk
  cases hn:numD (s.take (clL s)) with
  | none=>rw [hn] at h;cases h
  | some u =>
   rw [hn] at h
   cases h
   simp only [List.length_drop]
   omega
 ·cases h
theorem nameO_lt {s:List UInt8} {x:Pt × List UInt8} (h:zgY s=some x):x.2.length < s.length:=by
 unfold zgY at h
 split at h
 ·cases h
  have:=nmL_le s
  simp only [List.length_drop]
  omega
 ·cases h
theorem zjR {s:List UInt8} {f:Bool} {x:Pt × List UInt8} (h:zdG s f=some x):x.2.length < s.length:=by
 cases s with
 | nil=>cases h
 | cons c r =>
  simp only [zdG] at h
  split at h
  ·have:=numV_lt h;simp only [List.length_cons];omega
  ·split at h
   ·exact nameO_lt h
   ·split at h
    ·have:=nameO_lt h;simp only [List.length_cons];omega
    ·cases h
theorem parP_fuel:∀ (n m:Nat) (f:Bool) (s:List UInt8),s.length≤n→s.length≤m→parP n f s=parP m f s
 | 0,0,_,_,_,_=>rfl
 | 0,m+1,f,s,h,_=>by
  have:s=[]:=List.eq_nil_of_length_eq_zero (by omega)
  simp [parP,this]
 | n+1,0,f,s,_,h=>by
  have:s=[]:=List.eq_nil_of_length_eq_zero (by omega)
  simp [parP,this]
 | n+1,m+1,f,s,h,g=>by
  simp only [parP]
  split
  ·rfl
  ·cases hx:zdG s f with
   | none=>rfl
   | some x =>
    have:=zjR hx
    simp only
    rw [parP_fuel n m false x.2 (by omega) (by omega)]
theorem itoa_nat (u:Nat):Lib.itoa (u:Int)=Lib.decDigits u:=by
 rw [Lib.itoa,if_neg (by omega),Int.toNat_natCast]
theorem numV_back {s:List UInt8} {x:Pt × List UInt8} (h:numV s=some x):okP x.1=true∧91::s=ptX true x.1++x.2∧ptX false x.1=ptX true x.1∧x.1.pos≠-1:=by
 unfold numV at h
 split at h
 ·rename_i hk
  obtain⟨c,r,h1,h2,h3⟩:=runL_lt (fun c=>c != 93) hk
  have hc:c=93:=by simpa using h2
  subst hc
  cases hn:numD (s.take (clL s)) with
  | none=>rw [hn] at h;cases h
  | some u =>
   rw [hn] at h
   cases h
   obtain⟨g1,g2⟩:=zi9 hn
   have hp:((u:Nat):Int)≠-1:=by omega
   refine⟨?_,?_,?_,hp⟩
   ·simp only [okP,Bool.or_eq_true,Bool.and_eq_true,decide_eq_true_eq]
    exact .inl ⟨trivial,by omega,by omega⟩
   ·have hs:s=s.take (clL s)++s.drop (clL s):=(List.take_append_drop _ _).symm
    rw [show s.drop (clL s)=93::r from h1,g2] at hs
    simp only [ptX,if_pos hp,itoa_nat]
    rw [show s.drop (clL s+1)=r from h3]
    rw [List.cons_append,List.append_assoc]
    exact congrArg _ hs
   ·simp only [ptX,if_pos hp]
 ·cases h
theorem zja {s:List UInt8} {x:Pt × List UInt8} (h:zgY s=some x):okP x.1=true∧s=x.1.key++x.2∧x.1.pos=-1:=by
 unfold zgY at h
 split at h
 ·rename_i hk
  cases h
  refine⟨?_,(List.take_append_drop _ _).symm,rfl⟩
  simp only [okP,Bool.or_eq_true,Bool.and_eq_true,decide_eq_true_eq,List.all_eq_true]
  refine .inr ⟨trivial,fun e=>?_,runL_all isNm s _ (Nat.le_refl _)⟩
  have:=nmL_le s
  have e2:=congrArg List.length e
  rw [List.length_take] at e2
  simp only [List.length_nil] at e2
  omega
 ·cases h
theorem nextO_back {s:List UInt8} {f:Bool} {x:Pt × List UInt8} (h:zdG s f=some x):okP x.1=true∧s=ptX f x.1++x.2:=by
 cases s with
 | nil=>cases h
 | cons c r =>
  simp only [zdG] at h
  split at h
  ·rename_i hc
   subst hc
   obtain⟨g1,g2,g3,-⟩:=numV_back h
   refine⟨g1,?_⟩
   cases f
   ·rw [g3];exact g2
   ·exact g2
  ·split at h
   ·rename_i hf
    subst hf
    obtain⟨g1,g2,g3⟩:=zja h
    exact⟨g1,by rw [ptX,if_neg (fun k=>k g3),if_pos rfl];exact g2⟩
   ·rename_i hf
    split at h
    ·rename_i hc
     subst hc
     obtain⟨g1,g2,g3⟩:=zja h
     exact⟨g1,by rw [ptX,if_neg (fun k=>k g3),if_neg hf,List.cons_append,← g2]⟩
    ·cases h
theorem ptX_ne {x:Pt} (f:Bool) (h:okP x=true):0 < (ptX f x).length:=by
 obtain⟨k,p⟩:=x
 simp only [okP,Bool.or_eq_true,Bool.and_eq_true,decide_eq_true_eq] at h
 unfold ptX
 split
 ·simp
 ·rename_i hp
  rcases h with ⟨-,h2,-⟩ | ⟨-,h2,-⟩
  ·exact absurd (Decidable.not_not.1 hp) (show ¬ p=-1 by omega)
  ·split
   ·exact List.length_pos_iff.2 h2
   ·simp
theorem shP_len:∀ (l:List Pt) (f:Bool),(∀ x∈l,okP x=true)→l.length≤(shP f l).length
 | [],_,_=>Nat.zero_le _
 | x::r,f,h=>by
  have h1:=ptX_ne f (h x (List.mem_cons_self ..))
  have h2:=shP_len r false (fun y hy=>h y (List.mem_cons_of_mem _ hy))
  rw [shP,List.length_append,List.length_cons]
  omega
theorem parP_back:∀ (n:Nat) (f:Bool) (s:List UInt8) (l:List Pt),parP n f s=some l→s=shP f l∧∀ x∈l,okP x=true
 | 0,f,s,l,h=>by
  simp only [parP] at h
  split at h
  ·cases h
   rename_i hs
   exact⟨hs,fun x hx=>by cases hx⟩
  ·cases h
 | n+1,f,s,l,h=>by
  simp only [parP] at h
  split at h
  ·cases h
   rename_i hs
   exact⟨hs,fun x hx=>by cases hx⟩
  ·cases hx:zdG s f with
   | none=>rw [hx] at h;cases h
   | some x =>
    rw [hx] at h
    simp only at h
    cases hp:parP n false x.2 with
    | none=>rw [hp] at h;cases h
    | some r =>
     rw [hp] at h
     cases h
     obtain⟨g1,g2⟩:=nextO_back hx
     obtain⟨k1,k2⟩:=parP_back n false x.2 r hp
     refine⟨?_,fun y hy=>?_⟩
     ·rw [g2,shP,← k1]
     ·rcases List.mem_cons.1 hy with rfl | hy
      ·exact g1
      ·exact k2 y hy
theorem zjb {s:List UInt8} {l:List Pt} (h:zbz s=(l,0)):s=shP true l∧l.all okP=true∧s.length≤120:=by
 unfold zbz at h
 split at h
 ·exact absurd (show (9:Int)=0 from congrArg Prod.snd h) (by decide)
 ·rename_i hl
  cases hp:parP s.length true s with
  | none=>rw [hp] at h;exact absurd (show (9:Int)=0 from congrArg Prod.snd h) (by decide)
  | some r =>
   rw [hp] at h
   cases h
   obtain⟨g1,g2⟩:=parP_back _ _ _ _ hp
   exact⟨g1,List.all_eq_true.2 g2,by omega⟩
theorem pathV_bad {s:List UInt8} (h:(zbz s).2≠0):zbz s=([],9):=by
 unfold zbz at h ⊢
 split
 ·rfl
 ·rename_i hl
  rw [if_neg hl] at h
  cases hp:parP s.length true s with
  | none=>rfl
  | some r=>rw [hp] at h;exact absurd rfl h
end Go.Proofs.YtcahoelfogjljaaGreatDoor
end

section
namespace Go.Proofs.YtcahoelfogjljaaGreatDoor
open Go Go.Eng
theorem index93:∀ s:List UInt8,Lib.index s [93]=if clL s < s.length then (clL s:Int) else -1
 | []=>by simp [Lib.index,clL,runL]
 | c::r=>by
  have ih:=index93 r
  by_cases hc:c=93
  ·subst hc
   have e:clL (93::r)=0:=rfl
   rw [e,if_pos (by simp)]
   unfold Lib.index
   rw [if_pos (by simp)]
   rfl
  ·have e:clL (c::r)=clL r+1:=by
    rw [clL,runL,if_pos (by simpa using hc)]
    rfl
   unfold Lib.index
   rw [if_neg (by simp [Ne.symm hc]),ih,e,List.length_cons]
   by_cases hk:clL r < r.length
   ·have g:(((clL r:Nat):Int) == -1)=false:=by rw [beq_eq_false_iff_ne];omega
    simp only [if_pos hk,g,Bool.false_eq_true,if_false,if_pos (show clL r+1 < r.length+1 by omega)]
    omega
   ·simp only [if_neg hk,if_neg (show ¬ clL r+1 < r.length+1 by omega)]
    rfl
theorem cut93 (s:List UInt8):Lib.cut s [93]=if clL s < s.length then (s.take (clL s),s.drop (clL s+1),true) else (s,[],false):=by
 rw [Lib.cut,index93]
 by_cases hk:clL s < s.length
 ·rw [if_pos hk,if_pos (by omega),if_pos hk,Int.toNat_natCast]
  rfl
 ·rw [if_neg hk,if_neg (by decide),if_neg hk]
theorem parseM:∀ (d:List UInt8) (acc:Nat),(acc+1) * 10 ^ d.length≤65536→Lib.parseUintM 65535 acc d=if d.all isDg=true then .ok (digV acc d) else Lib.NumEnd.syntax
 | [],acc,_=>by rw [Lib.parseUintM,List.all_nil,if_pos rfl,zdM]
 | c::r,acc,h=>by
  rw [List.length_cons,Nat.pow_succ,Nat.mul_comm (10 ^ r.length) 10,← Nat.mul_assoc] at h
  have h1:(acc+1) * 10≤65536:=Nat.le_trans (Nat.le_mul_of_pos_right _ (Nat.pow_pos (by decide))) h
  rw [Lib.parseUintM,List.all_cons]
  by_cases hc:48≤c.toNat∧c.toNat≤57
  ·have hd:isDg c=true:=isDg_iff.2 hc
   rw [if_pos hc,if_neg (by omega),if_neg (by omega),hd,Bool.true_and,ze9,show acc * 10+(c.toNat - 48)=10 * acc+(c.toNat - 48) by omega]
   refine parseM r _ (Nat.le_trans (Nat.mul_le_mul_right _ ?_) h)
   omega
  ·have hd:isDg c=false:=by
    cases hx:isDg c with
    | false=>rfl
    | true=>exact absurd (isDg_iff.1 hx) hc
   rw [if_neg hc,hd,Bool.false_and,if_neg (by decide)]
theorem parse16 {d:List UInt8} (hl:d.length≤3):Lib.parseUintB 16 d=if d≠[]∧d.all isDg=true then .ok (digV 0 d) else Lib.NumEnd.syntax:=by
 unfold Lib.parseUintB
 by_cases h0:d=[]
 ·rw [if_pos h0,if_neg (fun h=>h.1 h0)]
 ·rw [if_neg h0]
  have h3:10 ^ d.length≤10 ^ 3:=Nat.pow_le_pow_right (by decide) hl
  rw [show (2 ^ 16 - 1:Nat)=65535 from rfl,parseM d 0 (by omega)]
  by_cases ha:d.all isDg=true
  ·rw [if_pos ha,if_pos ⟨h0,ha⟩]
  ·rw [if_neg ha,if_neg (fun h=>ha h.2)]
theorem cutB_ok (t:List UInt8) (h:t.length < 4294967281):ACalls Tryz.prog 160 [str t,str [93]] [] (fun x _=>x=.ret (.tup [str (Lib.cut t [93]).1,str (Lib.cut t [93]).2.1,bl (Lib.cut t [93]).2.2])):=by
 refine zdf 1 (by simp [Globs.ints]) (by kernel_rfl) fun w O m vs n hn hr=>?_
 simp only [reps,str,rep] at hr
 obtain⟨_,_,e1,rfl,_,_,rfl,rfl,rfl⟩:=hr
 have ev:vs=#[.string ⟨t.toArray⟩,.string ⟨[93].toArray⟩]:=by
  apply Array.ext'
  simpa using e1
 subst ev
 refine(Tryz.strings_Cut _ ⟨[93].toArray⟩ n w (by simpa [ByteArray.size] using h) hn).mono ?_
 rintro e w' ⟨rfl,k,rfl⟩
 refine⟨⟨_,rfl,fun w' O m=>?_⟩,⟨rfl,rfl,rfl,Nat.le_refl _,fun _ _=>rfl⟩⟩
 simp only [rep]
 exact⟨_,rfl,by simp [reps,rep,str,bl]⟩
theorem PU_ok (t:List UInt8) (u:Nat) (hl:t.length≤1000000000) (hu:u < 18446744073709551616) (h:Lib.parseUintB 16 t=.ok u):ACalls Tryz.prog 161 [str t,i64 10,i64 16] [] (fun x _=>x=.ret (.tup [u64 (BitVec.ofNat 64 u),.lit .nilIface])) :=
 zha (by kernel_rfl) fun w O m vs hr=>by
  simp only [reps,str,rep,i64] at hr
  obtain⟨_,_,e1,rfl,_,_,rfl,rfl,_,_,rfl,rfl,rfl⟩:=hr
  obtain rfl:=two_args e1
  refine(Tryz.strconv_ParseUint_10_at16_ok ⟨t.toArray⟩ (by simp [ByteArray.size];omega) u (by simpa using h) w).mono ?_
  rintro e w' ⟨rfl,hw⟩
  refine⟨⟨_,rfl,fun w' O m=>?_⟩,?_⟩
  ·simp only [rep]
   refine⟨_,rfl,?_⟩
   simp only [reps,rep,u64]
   refine⟨_,_,rfl,?_,_,_,rfl,rfl,rfl⟩
   rw [BitVec.toNat_ofNat,Nat.mod_eq_of_lt (by omega)]
  ·rcases hw with rfl | rfl
   ·exact⟨rfl,rfl,rfl,Nat.le_refl _,fun _ _=>rfl⟩
   ·exact Lib.bytesWorld_below _ _ _
theorem PU_bad (t:List UInt8) (hl:t.length≤1000000000) (h:Lib.parseUintB 16 t=Lib.NumEnd.syntax):ACalls Tryz.prog 161 [str t,i64 10,i64 16] [] (fun x _=>x=.ret (.tup [u64 0,.ifc 274 .bot])) :=
 acalls_belowE 4 (by simp [Globs.errs]) (by kernel_rfl) fun w O m vs ty x hx hr=>by
  simp only [reps,str,rep,i64] at hr
  obtain⟨_,_,e1,rfl,_,_,rfl,rfl,_,_,rfl,rfl,rfl⟩:=hr
  obtain rfl:=two_args e1
  refine(Tryz.strconv_ParseUint_10_at16_syntax ⟨t.toArray⟩ (by simp [ByteArray.size];omega) (by simpa using h) (.iface ty x) w hx (.inr ⟨_,_,rfl⟩)).mono ?_
  rintro e w' ⟨N,rfl,_,_,hb⟩
  refine⟨⟨_,rfl,fun w' O m=>?_⟩,hb⟩
  simp only [rep,reps,u64]
  exact⟨_,rfl,_,_,rfl,rfl,_,_,rfl,⟨_,rfl,trivial⟩,rfl⟩
end Go.Proofs.YtcahoelfogjljaaGreatDoor
end

section
namespace Go.Proofs.YtcahoelfogjljaaGreatDoor
open Go Go.Eng
theorem bin_u32_rem {t:TypeId} {K:AV→Prop} (x y:BitVec 32) (h:y≠0#32):wbin T .rem t (u32 x) (u32 y) K=K (u32 (x % y)):=by
 have hy:(y.toNat:Int)≠0:=by
  intro h0
  exact h (BitVec.eq_of_toNat_eq (by simpa using h0))
 simp only [wbin,u32,true_and,ne_eq,hy,not_false_eq_true]
 rw [Int.tmod_eq_emod_of_nonneg (by omega),← Int.natCast_emod,← BitVec.toNat_umod]
theorem idx_strU {x:BitVec 32} {K:AV→Prop} (l:List UInt8):idx2 T (some tyStr) (str l) (u32 x) K=(0≤(x.toNat:Int)∧(x.toNat:Int) < l.length∧K (u8 (l.getD x.toNat 0))):=rfl
theorem conv_u32_u8 {σ:zaa} {KS:AV→zaa→Prop} (ts:TI) (x:BitVec 32):ze1 T (some ts) (some tyU8) (u32 x) σ KS=KS (u8 (UInt8.ofBitVec (x.setWidth 8))) σ:=by
 simp only [ze1,tyU8,u32,u8,zjy,zfJ]
theorem zjS (l:List UInt8) (i:Nat) (x:UInt8):(l.map u8).set i (u8 x)=(l.set i x).map u8:=by rw [List.map_set]
def smallsL:List UInt8:=[48,48,48,49,48,50,48,51,48,52,48,53,48,54,48,55,48,56,48,57,49,48,49,49,49,50,49,51,49,52,49,53,49,54,49,55,49,56,49,57,50,48,50,49,50,50,50,51,50,52,50,53,50,54,50,55,50,56,50,57,51,48,51,49,51,50,51,51,51,52,51,53,51,54,51,55,51,56,51,57,52,48,52,49,52,50,52,51,52,52,52,53,52,54,52,55,52,56,52,57,53,48,53,49,53,50,53,51,53,52,53,53,53,54,53,55,53,56,53,57,54,48,54,49,54,50,54,51,54,52,54,53,54,54,54,55,54,56,54,57,55,48,55,49,55,50,55,51,55,52,55,53,55,54,55,55,55,56,55,57,56,48,56,49,56,50,56,51,56,52,56,53,56,54,56,55,56,56,56,57,57,48,57,49,57,50,57,51,57,52,57,53,57,54,57,55,57,56,57,57]
set_option maxRecDepth 100000 in
theorem smalls_eq:(([48,48,48,49,48,50,48,51,48,52,48,53,48,54,48,55,48,56,48,57,49,48,49,49,49,50,49,51,49,52,49,53,49,54,49,55,49,56,49,57,50,48,50,49,50,50,50,51,50,52]:List UInt8).append [50,53,50,54,50,55,50,56,50,57,51,48,51,49,51,50,51,51,51,52,51,53,51,54,51,55,51,56,51,57,52,48,52,49,52,50,52,51,52,52,52,53,52,54,52,55,52,56,52,57]).append (([53,48,53,49,53,50,53,51,53,52,53,53,53,54,53,55,53,56,53,57,54,48,54,49,54,50,54,51,54,52,54,53,54,54,54,55,54,56,54,57,55,48,55,49,55,50,55,51,55,52]:List UInt8).append [55,53,55,54,55,55,55,56,55,57,56,48,56,49,56,50,56,51,56,52,56,53,56,54,56,55,56,56,56,57,57,48,57,49,57,50,57,51,57,52,57,53,57,54,57,55,57,56,57,57])=smallsL:=rfl
theorem smalls_len:smallsL.length=200:=by decide +kernel
theorem smalls_get:∀ r,r < 100→smallsL.getD (2 * r) 0=UInt8.ofNat (48+r / 10)∧smallsL.getD (2 * r+1) 0=UInt8.ofNat (48+r % 10):=by decide +kernel
set_option maxRecDepth 100000 in
theorem fmt10_ok (l:List UInt8) (hl:l.length=24) (u:Nat) (h1:100≤u) (h2:u≤999):ACalls Tryz.prog 224 [.ref 0 0 3 1,u64 (BitVec.ofNat 64 u)] [.rw (l.map u8)] (fun y σ=>y=.ret (.tup [])∧σ=[.rw ((Lib.decDigits u++l.drop 3).map u8)]):=by
 refine ACalls.body T_ok Tryz.func224 (by kernel_rfl) rfl Tryz.ntmps224 (congrArg Array.toList Tryz.results224) ?_
 refine aQ30 ?_
 rw [zaN]
 refine⟨Unit,fun _=>True,fun _=>[.ref 0 0 3 1,u64 (BitVec.ofNat 64 u),.bot,.bot,i64 3,.bot,.bot,.bot,.bot,.bot,.bot,.bot,.bot,.bot,.bot,.bot,.bot,.bot,.bot,.bot,.bot,.bot,.bot,.bot,.bot,.bot,.bot,.bot,.bot,.bot,.bot,.bot,.bot,.bot,.bot,.bot,.bot,.bot,.bot,.bot,.bot,.bot,.bot,.bot,.bot,.bot,.bot,.bot,.bot,.bot,.bot,.bot,.bot,.bot,.bot,.bot,.bot,.bot,.bot,.bot,.bot,.bot,.bot,.bot,.bot,.bot,.bot,.bot,.bot,.bot,.bot,.bot,.bot,.bot,.bot,.bot,.bot,.bot,.bot,.bot,.bot,.bot,.bot,.bot,.bot,.bot,.bot,.bot,.bot,.bot,.bot,.bot,.bot,.bot,.bot,.bot,.bot,.bot,.bot,.bot,.bot,.bot,.bot,.bot,.bot,.bot,.bot,.bot,.bot,.bot,.bot,.bot,.bot,.bot,.bot,.bot,.bot,.bot,.bot,.bot,.bot,.bot,.bot,.bot,.bot,.bot,.bot,.bot,.bot,.bot,.bot,.bot,.bot,.bot,.bot,.bot,.bot,.bot,.bot,.bot,.bot,.bot,.bot,.bot,.bot,.bot,.bot,.bot,.bot,.bot,.bot,.bot,.bot,.bot,.bot,.bot,.bot,.bot,.bot,.bot,.bot,.bot,.bot,.bot,.bot,.bot,.bot],fun _=>[.rw (l.map u8)],fun _=>0,(),trivial,zab (q:=[0]) rfl rfl (by decide) ?_ ?_,?_⟩
 ·refine aQ19 ?_
  exact .inr rfl
 ·simp [zao,Blk.ren,zas u8 zb7]
 intro _ _
 have g8:decide ((8:Int)≤3)=false:=rfl
 have g4:decide ((4:Int)≤3)=false:=rfl
 have g2:decide ((2:Int)≤3)=true:=rfl
 have g0:decide ((0:Int) < 1)=true:=rfl
 have e1:BitVec.setWidth 32 (BitVec.ofNat 64 u) % 100#32 * 2#32=BitVec.ofNat 32 (2 * (u % 100)):=by
  apply BitVec.eq_of_toNat_eq
  simp only [BitVec.toNat_mul,BitVec.toNat_umod,BitVec.toNat_setWidth,BitVec.toNat_ofNat,Nat.reducePow,Nat.reduceMod]
  omega
 have e2:BitVec.setWidth 32 (BitVec.ofNat 64 u) / 100#32=BitVec.ofNat 32 (u / 100):=by
  apply BitVec.eq_of_toNat_eq
  simp only [BitVec.toNat_udiv,BitVec.toNat_setWidth,BitVec.toNat_ofNat,Nat.reducePow,Nat.reduceMod]
  omega
 try simp -implicitDefEqProofs only [LM2,eq_self,Nat.zero_mul,lzS,bx_P,g8,g4,g2,g0,bin_u32_rem _ 100#32 (by decide),bin_u32_quo _ 100#32 (by decide),TB,SB,Int.reduceToNat,Nat.reduceAdd,Nat.reduceEqDiff,Nat.reduceLT,Nat.reduceMod,Nat.reducePow,Nat.reduceSub,if_true,reduceIte]
 rw [e1,e2]
 refine zjw [12,1] (by kernel_rfl) (by kernel_rfl) (by kernel_rfl) ?_
 try simp -implicitDefEqProofs only [LM2,eq_self,Nat.zero_mul,lzS,bx_P,smalls_eq,TB,SB,Int.reduceToNat,Nat.reduceAdd,Nat.reduceEqDiff,Nat.reduceLT,Nat.reduceMod,Nat.reducePow,Nat.reduceSub,if_true,reduceIte]
 refine⟨by unfold inI;omega,by unfold inI;omega,?_⟩
 have t1:(BitVec.ofNat 32 (2 * (u % 100))+1#32).toNat=2 * (u % 100)+1:=by
  simp only [BitVec.toNat_add,BitVec.toNat_ofNat]
  omega
 have t2:(BitVec.ofNat 32 (2 * (u % 100))).toNat=2 * (u % 100):=by
  simp only [BitVec.toNat_ofNat]
  omega
 obtain⟨s1,s2⟩:=smalls_get (u % 100) (by omega)
 try simp -implicitDefEqProofs only [LM2,eq_self,Nat.zero_mul,lzS,bx_P,idx_strU,t1,t2,s1,s2,smalls_len,TB,SB,Int.reduceToNat,Nat.reduceAdd,Nat.reduceEqDiff,Nat.reduceLT,Nat.reduceMod,Nat.reducePow,Nat.reduceSub,if_true,reduceIte]
 refine⟨by omega,by omega,?_⟩
 rw [show (3 - 1:Int)=2 from rfl,show (3 - 2:Int)=1 from rfl,show Int.toNat 2=2 from rfl,show Int.toNat 1=1 from rfl]
 refine⟨by omega,by omega,by decide,by decide,by rw [List.length_map];omega,by decide,by decide,by rw [List.length_set,List.length_map];omega,by unfold inI;omega,fun _=>?_,fun h=>absurd h (by decide)⟩
 have e3:(48#32+BitVec.ofNat 32 (u / 100)).setWidth 8=(UInt8.ofNat (48+u / 100)).toBitVec:=by
  apply BitVec.eq_of_toNat_eq
  simp only [BitVec.toNat_add,BitVec.toNat_setWidth,BitVec.toNat_ofNat,UInt8.toNat_toBitVec,UInt8.toNat_ofNat',Nat.reducePow,Nat.reduceMod]
  omega
 try simp -implicitDefEqProofs only [LM2,eq_self,Nat.zero_mul,lzS,bx_P,conv_u32_u8,e3,TB,SB,Int.reduceToNat,Nat.reduceAdd,Nat.reduceEqDiff,Nat.reduceLT,Nat.reduceMod,Nat.reducePow,Nat.reduceSub,if_true,reduceIte]
 refine⟨by decide,by decide,by rw [List.length_set,List.length_set,List.length_map];omega,?_⟩
 rw [zjS,zjS,show (u8 { toBitVec:=(UInt8.ofNat (48+u / 100)).toBitVec })=u8 (UInt8.ofNat (48+u / 100)) from rfl,zjS]
 have hd:Lib.decDigits u=[UInt8.ofNat (48+u / 100),UInt8.ofNat (48+u % 100 / 10),UInt8.ofNat (48+u % 100 % 10)]:=by
  rw [← dec_3 (by omega) (by omega) (by omega) (by omega),show 100 * (u / 100)+10 * (u % 100 / 10)+u % 100 % 10=u by omega]
 rw [hd]
 match l,hl with
 | a::b::c::r,hl =>
  exact zaO ⟨rfl,rfl⟩
theorem acalls_belowV [Globs] {P:Program} {f:FuncId} {xs:List AV} {v:AV} (g:Nat) (cs:List Value) (hgt:Globs.tab g=some cs) (hc:za0 P f=true)
  (h:∀ (w:World) (O:Nat→Prop) (m:Ids) (vs:Array Value),(∃ e f,w.heap[g]?=some (.cells cs.toArray e f))→reps w O m xs vs.toList→Calls P f vs w fun e w'=>(∃ u,e=.returned u∧∀ (w':World) (O:Nat→Prop) (m:Ids),rep w' O m v u)∧RowKit.Below w.heap.size w w'):ACalls P f xs [] (fun x _=>x=.ret v):=by
 refine fun H w m vs hg hs hr=>.inl ⟨hc,?_⟩
 obtain⟨_,_,hn,_⟩:=hg.1 g cs hgt
 refine(h w _ m vs hn hr).mono ?_
 rintro e w' ⟨⟨u,rfl,hu⟩,hb⟩
 obtain⟨s1,x1⟩:=hs.old (w':=w') hb.size hb.block hb.os hb.tape hb.output
 exact⟨.ret v,m,[],s1,x1,hu _ _ _,rfl⟩
theorem nDig3 {u:Nat} (h1:100≤u) (h2:u≤999):Lib.nDigits u=3:=by
 rw [Lib.nDigits,dif_neg (by omega),Lib.nDigits,dif_neg (by omega),Lib.nDigits,dif_pos (by omega)]
theorem numDig_ok (u:Nat) (h1:100≤u) (h2:u≤999):ACalls Tryz.prog 223 [u64 (BitVec.ofNat 64 u)] [] (fun x _=>x=.ret (i64 3)) :=
 acalls_belowV 6 powT rfl (by kernel_rfl) fun w O m vs hp hr=>by
  simp only [reps,u64,rep] at hr
  obtain⟨v,r,e1,rfl,rfl⟩:=hr
  rw [BitVec.toNat_ofNat,Nat.mod_eq_of_lt (by omega)] at e1
  have ev:vs=#[.int .u64 u]:=by
   apply Array.ext'
   simpa using e1
  subst ev
  obtain⟨e,f,hp⟩:=hp
  have htab : Go.Lib.TabIs Tryz.prog w "internal/strconv.uint64pow10" .u64 Go.Lib.pow10Tab := by
   show World.var? _ _ _=_
   unfold World.var?
   rw [show Program.globalNamed Tryz.prog "internal/strconv.uint64pow10" = some 6 by kernel_rfl, Option.bind_some, hp]
   rfl
  refine(Go.Proofs.Tryz.internal_strconv_numDigits u (by omega) (by omega) w htab).mono ?_
  rintro e w' ⟨rfl,rfl⟩
  exact⟨⟨_,rfl,fun w' O m=>by rw [nDig3 h1 h2];simp only [i64,rep];rfl⟩,RowKit.Below.refl _ _⟩
theorem small_ok (u:Nat) (h:u < 100):ACalls Tryz.prog 222 [i64 u] [] (fun x _=>x=.ret (str (Lib.decDigits u))) :=
 zha (by kernel_rfl) fun w O m vs hr=>by
  simp only [reps,i64,rep] at hr
  obtain⟨v,r,e1,rfl,rfl⟩:=hr
  have ev:vs=#[.int .i64 u]:=by
   apply Array.ext'
   simpa using e1
  subst ev
  refine(Go.Proofs.Tryz.internal_strconv_small u h w).mono ?_
  rintro e w' ⟨rfl,rfl⟩
  exact⟨⟨_,rfl,fun w' O m=>by simp only [str,rep]⟩,RowKit.Below.refl _ _⟩
theorem al_a24 {σ:zaa} {KS:AV→zaa→Prop} (e0:TypeId) (e:TypeId):al1 T e0 (some (zgM 24 e tyU8)) σ KS=KS (.ptr σ.length 0) (σ++[.rw ((List.replicate 24 (0:UInt8)).map u8)]):=rfl
theorem slice_a24 {σ:zaa} {K:AV→Prop} {id:Nat} {l:List UInt8} (hc:σ[id]?=some (.rw (l.map u8))) (hl:l.length=24) (hk:K (.ref id 0 3 1)):zbg T 277 (.ptr id 0) none (some (i64 3)) σ K:=by
 simp only [zbg,T277,zgM,bnd,hc]
 exact⟨_,T5,by decide,by decide,by decide,by decide,by simp [tyU8,hl],by simpa [tyU8] using hk⟩
theorem iFU_ok (u:Nat) (h:u≤999):ACalls Tryz.prog 199 [u64 (BitVec.ofNat 64 u),i64 10] [] (fun x _=>x=.ret (str (Lib.decDigits u))):=by
 have hu:(BitVec.ofNat 64 u).toNat=u:=by
  rw [BitVec.toNat_ofNat];omega
 refine ACalls.body T_ok Tryz.func199 (by kernel_rfl) rfl Tryz.ntmps199 (congrArg Array.toList Tryz.results199) ?_
 refine aQ30 ?_
 have hm:u % 18446744073709551616=u:=by omega
 by_cases h1:u < 100
 ·try simp -implicitDefEqProofs only [LM2,eq_self,Nat.zero_mul,lzS,bx_P,zh8,hm,TB,SB,Int.reduceToNat,Nat.reduceAdd,Nat.reduceEqDiff,Nat.reduceLT,Nat.reduceMod,Nat.reducePow,Nat.reduceSub,if_true,reduceIte]
  refine⟨fun _=>?_,fun hc=>absurd (show (u:Int) < (100:Nat) by omega) hc⟩
  try simp -implicitDefEqProofs only [LM2,eq_self,Nat.zero_mul,lzS,bx_P,zap,hm,TB,SB,Int.reduceToNat,Nat.reduceAdd,Nat.reduceEqDiff,Nat.reduceLT,Nat.reduceMod,Nat.reducePow,Nat.reduceSub,if_true,reduceIte]
  rw [show IntKind.i64.wrap (u:Int)=u by simp [IntKind.wrap,IntKind.bits,IntKind.signed];omega]
  refine(small_ok u h1).pure (by simp [renL,zae]) ?_
  rintro _ σ rfl
  refine⟨zah _ _,?_⟩
  refine aQ30 ?_
  exact zbN rfl
 obtain⟨z,hz⟩:∃ z,z=List.replicate 24 (0:UInt8):=⟨_,rfl⟩
 have hzl:z.length=24:=by rw [hz];rfl
 try simp -implicitDefEqProofs only [LM2,eq_self,Nat.zero_mul,lzS,bx_P,zh8,hm,TB,SB,Int.reduceToNat,Nat.reduceAdd,Nat.reduceEqDiff,Nat.reduceLT,Nat.reduceMod,Nat.reducePow,Nat.reduceSub,if_true,reduceIte]
 refine⟨fun hc=>absurd hc (show ¬ ((u:Int) < (100:Nat)) by omega),fun _=>?_⟩
 try simp -implicitDefEqProofs only [LM2,eq_self,Nat.zero_mul,lzS,bx_P,al_a24,← hz,TB,SB,Int.reduceToNat,Nat.reduceAdd,Nat.reduceEqDiff,Nat.reduceLT,Nat.reduceMod,Nat.reducePow,Nat.reduceSub,if_true,reduceIte]
 refine(numDig_ok u (by omega) h).pure (by simp [renL,zbx]) ?_
 rintro _ σ rfl
 refine⟨zae _ _,?_⟩
 refine aQ30 ?_
 refine slice_a24 rfl hzl ?_
 refine aQ30 ?_
 refine(fmt10_ok z hzl u (by omega) h).mono ?_
 rintro _ _ ⟨rfl,rfl⟩
 refine aQ30 ?_
 have hdl:(Lib.decDigits u).length=3:=by
  rcases dec_form h with ⟨x,hx,rfl,e⟩ | ⟨x,y,h0,hx,hy,rfl,e⟩ | ⟨x,y,z,h0,hx,hy,hz,rfl,e⟩
  ·omega
  ·omega
  ·rw [e];rfl
 refine slice_a24 rfl (by rw [List.length_append,List.length_drop];omega) ?_
 refine aQ30 ?_
 refine⟨by rw [List.length_append,List.length_drop];omega,?_⟩
 exact zbN (by rw [List.take_left' hdl])
theorem FU_ok (u:Nat) (h:u≤999):ACalls Tryz.prog 162 [u64 (BitVec.ofNat 64 u),i64 10] [] (fun x _=>x=.ret (str (Lib.decDigits u))):=by
 refine ACalls.body T_ok Tryz.func162 (by kernel_rfl) rfl Tryz.ntmps162 (congrArg Array.toList Tryz.results162) ?_
 refine aQ30 ?_
 refine(iFU_ok u h).pure (by simp [renL,zbx,zae]) ?_
 rintro _ σ rfl
 refine⟨zah _ _,?_⟩
 refine aQ30 ?_
 exact zbN rfl
end Go.Proofs.YtcahoelfogjljaaGreatDoor
end

section
namespace Go.Proofs.YtcahoelfogjljaaGreatDoor
open Go Go.Eng
end Go.Proofs.YtcahoelfogjljaaGreatDoor
end

section
namespace Go.Proofs.YtcahoelfogjljaaGreatDoor
open Go Go.Eng
def zfS (s:List UInt8):Pt × List UInt8 × Bool:=match numV s with
 | some x=>(x.1,x.2,true)
 | none=>(pt0,[],false)
theorem zhy {s:List UInt8} (h:numV s=none):zfS s=(pt0,[],false):=by rw [zfS,h]
set_option maxHeartbeats 2000000 in
theorem pnumber_ok (s:List UInt8) (hs:s.length≤1000000000):ACalls Tryz.prog 131 [str s] [] (fun y _=>y=.ret (tupP (zfS s))):=by
 refine ACalls.body T_ok Tryz.func131 (by kernel_rfl) rfl Tryz.ntmps131 (congrArg Array.toList Tryz.results131) ?_
 refine aQ30 ?_
 refine(cutB_ok s (by omega)).pure (by simp [renL,zah]) ?_
 rintro _ σ rfl
 refine⟨by simp [AEnd.noid,AV.ren,renL,zah,zak],?_⟩
 rw [cut93]
 by_cases hk:clL s < s.length
 rotate_left
 ·rw [if_neg hk]
  refine aQ30 ?_
  exact zcf (x:=zfS s) (by rw [zhy (by rw [numV,if_neg hk])];rfl) rfl
 rw [if_pos hk]
 obtain⟨d,hd⟩:∃ d,d=s.take (clL s):=⟨_,rfl⟩
 have hn:numV s=(numD d).map fun (u:Nat)=>((⟨[],(u:Int)⟩:Pt),s.drop (clL s+1)):=by rw [numV,if_pos hk,hd]
 rw [← hd]
 by_cases h3:3 < (d.length:Int)
 ·have d3:=decide_eq_true h3
  try simp -implicitDefEqProofs only [LM2,eq_self,Nat.zero_mul,lzS,bx_P,d3,TB,SB,Int.reduceToNat,Nat.reduceAdd,Nat.reduceEqDiff,Nat.reduceLT,Nat.reduceMod,Nat.reducePow,Nat.reduceSub,if_true,reduceIte]
  exact zcf (x:=zfS s) (by rw [zhy (by rw [hn,numD,if_neg (by simp [zin];omega)];rfl)];rfl) rfl
 have d3:=decide_eq_false h3
 try simp -implicitDefEqProofs only [LM2,eq_self,Nat.zero_mul,lzS,bx_P,d3,TB,SB,Int.reduceToNat,Nat.reduceAdd,Nat.reduceEqDiff,Nat.reduceLT,Nat.reduceMod,Nat.reducePow,Nat.reduceSub,if_true,reduceIte]
 have hp:=parse16 (d:=d) (by omega)
 by_cases hb:d≠[]∧d.all isDg=true
 rotate_left
 ·rw [if_neg hb] at hp
  refine(PU_bad d (by omega) hp).pure (by simp [renL,zah,zae]) ?_
  rintro _ σ rfl
  refine⟨by simp [AEnd.noid,AV.ren,renL,zbx],?_⟩
  refine aQ30 ?_
  have hnn:numD d=none:=by
   rw [numD,if_neg (fun h=>hb (by simp only [zin,Bool.and_eq_true,decide_eq_true_eq] at h;exact⟨h.1.1,h.2⟩))]
  exact zcf (x:=zfS s) (by rw [zhy (by rw [hn,hnn];rfl)];rfl) rfl
 rw [if_pos hb] at hp
 have hu:digV 0 d≤999:=by
  obtain⟨g1,g2⟩:=hb
  rw [List.all_eq_true] at g2
  match d,g1,g2,h3 with
  | [a],_,g2,_ =>
   obtain⟨x,hx,rfl⟩:=zhh (g2 a (by simp))
   rw [digV_1 hx];omega
  | [a,b],_,g2,_ =>
   obtain⟨x,hx,rfl⟩:=zhh (g2 a (by simp))
   obtain⟨y,hy,rfl⟩:=zhh (g2 b (by simp))
   rw [digV_2 hx hy];omega
  | [a,b,c],_,g2,_ =>
   obtain⟨x,hx,rfl⟩:=zhh (g2 a (by simp))
   obtain⟨y,hy,rfl⟩:=zhh (g2 b (by simp))
   obtain⟨z,hz,rfl⟩:=zhh (g2 c (by simp))
   rw [digV_3 hx hy hz];omega
  | a::b::c::e::r,_,_,h3=>exact absurd h3 (by simp;omega)
 refine(PU_ok d (digV 0 d) (by omega) (by omega) hp).pure (by simp [renL,zah,zae]) ?_
 rintro _ σ rfl
 refine⟨by simp [AEnd.noid,AV.ren,renL,zbx],?_⟩
 refine aQ30 ?_
 refine(FU_ok (digV 0 d) hu).pure (by simp [renL,zbx,zae]) ?_
 rintro _ σ rfl
 refine⟨zah _ _,?_⟩
 by_cases he:Lib.decDigits (digV 0 d)=d
 ·have de:=decide_eq_true he
  have hm:digV 0 d % 18446744073709551616=digV 0 d:=by omega
  have hw:IntKind.i64.wrap ((digV 0 d:Nat):Int)=(digV 0 d:Nat):=by simp [IntKind.wrap,IntKind.bits,IntKind.signed];omega
  try simp -implicitDefEqProofs only [LM2,eq_self,Nat.zero_mul,lzS,bx_P,de,zap,hm,hw,TB,SB,Int.reduceToNat,Nat.reduceAdd,Nat.reduceEqDiff,Nat.reduceLT,Nat.reduceMod,Nat.reducePow,Nat.reduceSub,if_true,reduceIte]
  have hv:numD d=some (digV 0 d):=by
   have:=numD_dec hu
   rwa [he] at this
  refine zcf (x:=zfS s) ?_ rfl
  rw [zfS,hn,hv]
  rfl
 ·have de:=decide_eq_false he
  try simp -implicitDefEqProofs only [LM2,eq_self,Nat.zero_mul,lzS,bx_P,de,TB,SB,Int.reduceToNat,Nat.reduceAdd,Nat.reduceEqDiff,Nat.reduceLT,Nat.reduceMod,Nat.reducePow,Nat.reduceSub,if_true,reduceIte]
  refine zcf (x:=zfS s) ?_ rfl
  rw [zhy (by
   rw [hn]
   cases hv:numD d with
   | none=>rfl
   | some u =>
    obtain⟨-,g⟩:=zi9 hv
    have:u=digV 0 d:=by
     unfold numD at hv
     split at hv
     ·exact(Option.some.inj hv).symm
     ·cases hv
    rw [← this] at he
    exact absurd g.symm he)]
  rfl
def zgZ (s:List UInt8) (f:Bool):Pt × List UInt8 × Bool:=match s with
 | []=>(pt0,[],false)
 | c::r=>if c=91 then zfS r else if f then zgV (c::r) else if c=46 then zgV r else (pt0,[],false)
theorem pnumT_eq (s:List UInt8):match numV s with | some x=>zfS s=(x.1,x.2,true) | none=>(zfS s).2.2=false:=by
 unfold zfS
 split <;> rfl
theorem nameV_eq (s:List UInt8):match zgY s with | some x=>zgV s=(x.1,x.2,true) | none=>(zgV s).2.2=false:=by
 unfold zgY zgV
 by_cases h:0 < nmL s
 ·rw [if_pos h]
  simp only [decide_eq_true h]
 ·rw [if_neg h]
  simp only [decide_eq_false h]
theorem nextT_eq (s:List UInt8) (f:Bool):match zdG s f with | some x=>zgZ s f=(x.1,x.2,true) | none=>(zgZ s f).2.2=false:=by
 cases s with
 | nil=>rfl
 | cons c r =>
  simp only [zdG,zgZ]
  by_cases h1:c=91
  ·rw [if_pos h1,if_pos h1]
   exact pnumT_eq r
  ·rw [if_neg h1,if_neg h1]
   cases f with
   | true =>
    simp only [if_true]
    exact nameV_eq (c::r)
   | false =>
    simp only [Bool.false_eq_true,if_false]
    by_cases h2:c=46
    ·rw [if_pos h2,if_pos h2]
     exact nameV_eq r
    ·rw [if_neg h2,if_neg h2]
theorem pnext_ok (c:UInt8) (r:List UInt8) (f:Bool) (hs:r.length≤999999999):ACalls Tryz.prog 95 [str (c::r),bl f] [] (fun y _=>y=.ret (tupP (zgZ (c::r) f))):=by
 refine ACalls.body T_ok Tryz.func95 (by kernel_rfl) rfl Tryz.ntmps95 (congrArg Array.toList Tryz.results95) ?_
 refine aQ30 ?_
 refine⟨by decide,by omega,?_⟩
 rw [List.getD_cons_zero,show UInt8.ofNat 91=91 from rfl]
 refine⟨fun h1=>?_,fun h1=>?_⟩
 ·refine⟨by decide,by omega,?_⟩
  refine(pnumber_ok r (by omega)).pure (by simp [renL,zah]) ?_
  rintro _ σ rfl
  refine⟨zgq _ _,?_⟩
  have e:zgZ (c::r) f=zfS r:=by rw [zgZ,if_pos h1]
  rw [e]
  generalize zfS r=z
  rw [zfR]
  refine aQ30 ?_
  exact zcf (x:=z) rfl rfl
 cases f with
 | true =>
  refine aQ30 ?_
  refine(name_ok (c::r) (by rw [List.length_cons];omega)).pure (by simp [renL,zah]) ?_
  rintro _ σ rfl
  refine⟨zgq _ _,?_⟩
  have e:zgZ (c::r) true=zgV (c::r):=by rw [zgZ,if_neg h1,if_pos rfl]
  rw [e]
  generalize zgV (c::r)=z
  rw [zfR]
  refine aQ30 ?_
  exact zcf (x:=z) rfl rfl
 | false =>
  refine aQ30 ?_
  refine⟨by decide,by omega,?_⟩
  rw [List.getD_cons_zero,show UInt8.ofNat 46=46 from rfl]
  refine⟨fun h2=>?_,fun h2=>⟨by decide,by omega,?_⟩⟩
  ·refine zcf (x:=zgZ (c::r) false) ?_ rfl
   rw [zgZ,if_neg h1,if_neg (by decide),if_neg h2]
   rfl
  ·refine(name_ok r (by omega)).pure (by simp [renL,zah]) ?_
   rintro _ σ rfl
   refine⟨zgq _ _,?_⟩
   have e:zgZ (c::r) false=zgV r:=by rw [zgZ,if_neg h1,if_neg (by decide),if_pos h2]
   rw [e]
   generalize zgV r=z
   rw [zfR]
   refine aQ30 ?_
   exact zcf (x:=z) rfl rfl
theorem zio {σ:zaa} {a:AV} {l:List Pt} {e:Int} {K:AV→zaa→Prop} (ids:List Nat) (h:frzA (zeW σ ids) a (slP l)) (hK:K (.tup [slP l,i64 e]) []):endQ 0 (.tup [a,i64 e]) σ K :=
 zbE ids (.tup [slP l,i64 e]) ⟨_,rfl,_,_,rfl,h,_,_,rfl,.inl rfl,rfl⟩ ⟨[],.tup [slP l,i64 e],[],rfl,rfl,by decide,by simp [AV.ren,renL,ze8,zae],trivial,hK⟩
theorem zhf {σ:zaa}:frzA σ (.lit (.slice none 0 0)) (slP []):=.inr ⟨rfl,rfl⟩
theorem pt_app {σ:zaa} {KS:AV→zaa→Prop} {id n:Nat} {l:List Pt} {y:Pt} {x:AV} (hc:σ[id]?=some (.rw (l.flatMap ptC))) (hn:n=l.length) (hx:asrc σ 2 x=some ([y].flatMap ptC,1)) (g:l.length≤1000000) (hk:KS (.ref σ.length 0 (n+1) 2) (σ.set id .dead++[.rw ((l++[y]).flatMap ptC)])):zbn T #[83,83] (.ref id 0 n 2) x σ KS:=by
 subst hn
 exact ptF.app rfl rfl T83 T83 (zcS _) T87 rfl rfl hc hx rfl (by omega) (by simp only [tyPt];omega) hk
def zel (l:List Pt) (r:List UInt8):Option (List Pt):=(parP r.length l.isEmpty r).map (l++·)
theorem contP_nil (l:List Pt):zel l []=some l:=by simp [zel,parP]
theorem zgr {l:List Pt} {r:List UInt8} (h:zdG r l.isEmpty=none) (hr:r≠[]):zel l r=none:=by
 cases r with
 | nil=>exact absurd rfl hr
 | cons c r=>rw [zel,List.length_cons,parP,if_neg (List.cons_ne_nil _ _),h];rfl
theorem zg0 {l:List Pt} {r:List UInt8} {x:Pt × List UInt8} (h:zdG r l.isEmpty=some x) (hr:r≠[]):zel l r=zel (l++[x.1]) x.2:=by
 cases r with
 | nil=>exact absurd rfl hr
 | cons c r =>
  have hl:=zjR h
  rw [List.length_cons] at hl
  rw [zel,List.length_cons,parP,if_neg (List.cons_ne_nil _ _),h,zel,show (l++[x.1]).isEmpty=false by cases l <;> rfl]
  simp only
  rw [parP_fuel r.length x.2.length false x.2 (by omega) (Nat.le_refl _),Option.map_map]
  congr 1
  funext y
  simp
theorem bs_P {σ:zaa} {K:AV→zaa→Prop} (k:List UInt8) (b:Int):bs2 (some tyPt) 1 [(0,.agg [str k,i64 b])] σ K=K (.ref σ.length 0 1 2) (σ++[.rw [str k,i64 b]]):=by
 simp [bs2,tyPt,zbF,zbV,AV.cells,za7,List.range_succ,List.replicate,zbR,zb9]
theorem Ppath_ok (s:List UInt8) (hs:s.length≤9223372036854775807):ACalls Tryz.prog 65 [str s] [] (fun y _=>y=.ret (.tup [slP (zbz s).1,i64 (zbz s).2])):=by
 obtain⟨X,hX⟩:∃ X,X=zbz s:=⟨_,rfl⟩
 rw [← hX]
 refine ACalls.body T_ok Tryz.func65 (by kernel_rfl) rfl Tryz.ntmps65 (congrArg Array.toList Tryz.results65) ?_
 by_cases h0:120 < (s.length:Int)
 ·have d0:=decide_eq_true h0
  try simp -implicitDefEqProofs only [LM2,eq_self,Nat.zero_mul,lzS,bx_P,d0,TB,SB,Int.reduceToNat,Nat.reduceAdd,Nat.reduceEqDiff,Nat.reduceLT,Nat.reduceMod,Nat.reducePow,Nat.reduceSub,if_true,reduceIte]
  exact zio (l:=[]) [] zhf (by rw [hX,zbz,if_pos (by omega)])
 have d0:=decide_eq_false h0
 have hX2:X=match zel [] s with | some l=>(l,0) | none=>([],9):=by
  rw [hX,zbz,if_neg (by omega),zel]
  cases hp:parP s.length true s with
  | none=>simp [hp]
  | some l=>simp [hp]
 try simp -implicitDefEqProofs only [LM2,eq_self,Nat.zero_mul,lzS,bx_P,d0,TB,SB,Int.reduceToNat,Nat.reduceAdd,Nat.reduceEqDiff,Nat.reduceLT,Nat.reduceMod,Nat.reducePow,Nat.reduceSub,if_true,reduceIte]
 rw [zaN]
 refine⟨List Pt × List UInt8,fun x=>zel [] s=zel x.1 x.2∧x.1.length+x.2.length≤120,fun x=>[str x.2,.bot,.lit (.slice none 0 0),i64 0,.ref 0 0 x.1.length 2,.bot,.bot,.bot,.bot,.bot,.bot,.bot,.bot,.bot,.bot,.bot,.bot,.bot,.bot,.bot,.bot,.bot,.bot,.bot,.bot,.bot,.bot,.bot,.bot,.bot],fun x=>[.rw (x.1.flatMap ptC)],fun x=>x.2.length,([],s),⟨rfl,by simp;omega⟩,zbI 4 2 rfl (zab (q:=[0]) rfl rfl (by decide) ?_ ?_),?_⟩
 ·first|exact aQ19 trivial|refine aQ19 ?_
 ·simp [zao,Blk.ren,renL]
 rintro⟨l,r⟩ ⟨hc,hl⟩
 dsimp only at hc hl ⊢
 cases r with
 | nil =>
  refine aQ30 ?_
  exact zio (l:=l) [0] (ptF.frz rfl rfl) (by rw [hX2,hc,contP_nil])
 | cons c r =>
  refine aQ30 ?_
  refine⟨fun hne=>?_,fun he=>absurd he (List.cons_ne_nil _ _)⟩
  rw [show decide ((l.length:Int)=0)=l.isEmpty by cases l <;> simp;omega]
  rw [List.length_cons] at hl
  refine(pnext_ok c r l.isEmpty (by omega)).pure (by simp [renL,zah,zak]) ?_
  rintro _ σ rfl
  refine⟨zgq _ _,?_⟩
  have ht:=nextT_eq (c::r) l.isEmpty
  cases hx:zdG (c::r) l.isEmpty with
  | none =>
   rw [hx] at ht
   generalize zgZ (c::r) l.isEmpty=z at ht ⊢
   obtain⟨z1,z2,z3⟩:=z
   dsimp only at ht
   subst ht
   rw [zfR]
   refine aQ30 ?_
   exact zio (l:=[]) [] zhf (by rw [hX2,hc,zgr hx (List.cons_ne_nil _ _)])
  | some x =>
   rw [hx] at ht
   dsimp only at ht
   have hlt:=zjR hx
   rw [List.length_cons] at hlt
   rw [ht,zfR]
   obtain⟨y,t⟩:=x
   dsimp only at hlt ⊢
   refine aQ31 ?_
   refine pt_app (l:=l) (y:=y) rfl rfl rfl (by omega) ?_
   refine aQ30 ?_
   rw [zac]
   refine⟨(l++[y],t),⟨by rw [hc,zg0 hx (List.cons_ne_nil _ _)],by (show (l++[y]).length+t.length≤120);rw [List.length_append,List.length_cons,List.length_nil];omega⟩,by (show t.length < (c::r).length);rw [List.length_cons];omega,?_⟩
   refine zab (q:=[3]) rfl rfl (by decide) ?_ ?_
   ·skip
    refine aQ19 ?_
    rw [List.length_append,List.length_cons,List.length_nil]
   ·refine aQ32 ?_
    simp [zcp]
end Go.Proofs.YtcahoelfogjljaaGreatDoor
end

section
namespace Go.Proofs.YtcahoelfogjljaaGreatDoor
open Go Go.Eng
theorem zbT {α:Type} {l:List α} {k:Nat} (d:α) (h:k < l.length):l.take (k+1)=l.take k++[l.getD k d]:=by
 rw [List.take_succ_eq_append_getElem h,List.getD_eq_getElem?_getD,List.getElem?_eq_getElem h]
 rfl
theorem cnan_ok (s:List UInt8):ACalls Tryz.prog 182 [str s] [] (fun y _=>y=.ret (bl false)):=by
 refine ACalls.body T_ok Tryz.func182 (by kernel_rfl) rfl Tryz.ntmps182 (congrArg Array.toList Tryz.results182) ?_
 refine aQ30 ?_
 refine zaE ?_
 simp
theorem snan_ok (s:List UInt8):ACalls Tryz.prog 149 [str s] [] (fun y _=>y=.ret (bl false)):=by
 refine ACalls.body T_ok Tryz.func149 (by kernel_rfl) rfl Tryz.ntmps149 (congrArg Array.toList Tryz.results149) ?_
 refine aQ30 ?_
 refine zaE ?_
 simp
theorem less_ok (a b:List UInt8):ACalls Tryz.prog 148 [str a,str b] [] (fun y _=>y=.ret (bl (Op.bytesLess a b))):=by
 refine ACalls.body T_ok Tryz.func148 (by kernel_rfl) rfl Tryz.ntmps148 (congrArg Array.toList Tryz.results148) ?_
 refine aQ30 ?_
 refine(cnan_ok a).pure (by simp [renL,zah]) ?_
 rintro _ σ rfl
 refine⟨zak _ _,?_⟩
 refine aQ30 ?_
 exact zaE rfl
def bsI (L:List (List UInt8)) (key:List UInt8):Nat→Nat→Nat→Nat
 | 0,i,_=>i
 | n+1,i,j=>if i < j then (if Op.bytesLess (L.getD ((i+j) / 2) []) key then bsI L key n ((i+j) / 2+1) j else bsI L key n i ((i+j) / 2)) else i
def bsV (L:List (List UInt8)) (key:List UInt8):Nat:=bsI L key L.length 0 L.length
def bsF (L:List (List UInt8)) (key:List UInt8):Bool:=decide (bsV L key < L.length) && decide (L.getD (bsV L key) []=key)
theorem zhz (L:List (List UInt8)) (key:List UInt8):∀ (n m i j:Nat),j - i≤n→j - i≤m→bsI L key n i j=bsI L key m i j
 | 0,0,_,_,_,_=>rfl
 | 0,m+1,i,j,h,_=>by rw [bsI,bsI,if_neg (by omega)]
 | n+1,0,i,j,_,h=>by rw [bsI,bsI,if_neg (by omega)]
 | n+1,m+1,i,j,h,g=>by
  rw [bsI,bsI]
  split
  ·split
   ·exact zhz L key n m _ _ (by omega) (by omega)
   ·exact zhz L key n m _ _ (by omega) (by omega)
  ·rfl
theorem bsearch_ok (L:List (List UInt8)) (key:List UInt8) (hL:L.length≤1000000):ACalls Tryz.prog 122 [.sl (L.map str) L.length,str key] [] (fun y _=>y=.ret (.tup [i64 (bsV L key),bl (bsF L key)])):=by
 refine ACalls.body T_ok Tryz.func122 (by kernel_rfl) rfl Tryz.ntmps122 (congrArg Array.toList Tryz.results122) ?_
 refine aQ30 ?_
 rw [zaN]
 refine⟨Nat × Nat,fun x=>x.1≤x.2∧x.2≤L.length∧bsV L key=bsI L key (x.2 - x.1) x.1 x.2,fun x=>[.sl (L.map str) L.length,str key,.bot,.bot,.bot,.bot,i64 L.length,i64 x.1,i64 x.2,.bot,.bot,.bot,.bot,.bot,.bot,.bot,.bot,.bot,.bot,.bot,.bot,.bot,.bot,.bot,.bot,.bot,.bot,.bot,.bot,.bot,.bot,.bot,.bot,.bot,.bot,.bot,.bot,.bot,.bot,.bot,.bot,.bot,.bot,.bot,.bot,.bot,.bot,.bot,.bot,.bot,.bot,.bot,.bot,.bot],fun _=>[],fun x=>x.2 - x.1,(0,L.length),⟨Nat.zero_le _,Nat.le_refl _,rfl⟩,zab (q:=[]) rfl rfl (by decide) ?_ ?_,?_⟩
 ·refine aQ19 ?_
  try exact⟨by rw [zas str zah];rfl,.inr rfl⟩
 ·first|exact aQ19 trivial|refine aQ19 ?_
 rintro⟨i,j⟩ ⟨h1,h2,h3⟩
 dsimp only at h1 h2 h3 ⊢
 by_cases hlt:i < j
 ·have dl:decide ((i:Int) < (j:Int))=true:=decide_eq_true (by omega)
  have eh:(BitVec.ofInt 64 ((i:Int)+(j:Int)) >>> 1).toNat=(i+j) / 2:=by
   rw [show ((i:Int)+(j:Int))=((i+j:Nat):Int) by omega,BitVec.ofInt_natCast,BitVec.toNat_ushiftRight,BitVec.toNat_ofNat,Nat.shiftRight_eq_div_pow]
   omega
  have hw:IntKind.i64.wrap (((i+j) / 2:Nat):Int)=(((i+j) / 2:Nat):Int):=by
   simp [IntKind.wrap,IntKind.bits,IntKind.signed]
   omega
  try simp -implicitDefEqProofs only [LM2,eq_self,Nat.zero_mul,lzS,bx_P,dl,TB,SB,Int.reduceToNat,Nat.reduceAdd,Nat.reduceEqDiff,Nat.reduceLT,Nat.reduceMod,Nat.reducePow,Nat.reduceSub,if_true,reduceIte]
  refine⟨by unfold inI;omega,?_⟩
  rw [zap,eh,hw]
  obtain⟨h,hh⟩:∃ h,h=(i+j) / 2:=⟨_,rfl⟩
  rw [← hh]
  refine aQ30 ?_
  refine⟨by omega,by omega,by omega,?_⟩
  refine(less_ok _ _).pure (by simp [renL,zah]) ?_
  rintro _ σ rfl
  refine⟨zak _ _,?_⟩
  have hs:bsI L key (j - i) i j=if Op.bytesLess (L.getD h []) key then bsI L key (j - (h+1)) (h+1) j else bsI L key (h - i) i h:=by
   obtain⟨n,hn⟩:∃ n,j - i=n+1:=⟨j - i - 1,by omega⟩
   rw [hn,bsI,if_pos hlt,← hh]
   split
   ·exact zhz L key _ _ _ _ (by omega) (Nat.le_refl _)
   ·exact zhz L key _ _ _ _ (by omega) (Nat.le_refl _)
  cases hb:Op.bytesLess (L.getD h []) key with
  | true =>
   rw [hb,if_pos rfl] at hs
   refine aQ30 ?_
   refine⟨by unfold inI;omega,?_⟩
   rw [zac]
   refine⟨(h+1,j),⟨by omega,h2,by rw [h3,hs]⟩,by (show j - (h+1) < j - i);omega,zab (q:=[]) rfl rfl (by decide) ?_ ?_⟩
   ·refine aQ19 ?_
    exact⟨by rw [zas str zah];rfl,.inr (by omega)⟩
   ·first|exact aQ19 trivial|refine aQ19 ?_
  | false =>
   rw [hb,if_neg (by decide)] at hs
   refine aQ30 ?_
   rw [zac]
   refine⟨(i,h),⟨by omega,by (show h≤L.length);omega,by rw [h3,hs]⟩,by (show h - i < j - i);omega,zab (q:=[]) rfl rfl (by decide) ?_ ?_⟩
   ·refine aQ19 ?_
    rw [zas str zah]
    rfl
   ·first|exact aQ19 trivial|refine aQ19 ?_
 ·have dl:decide ((i:Int) < (j:Int))=false:=decide_eq_false (by omega)
  have hi:bsV L key=i:=by rw [h3,show j - i=0 by omega];rfl
  have hend:∀ c:Bool,c=bsF L key→∀ σ:zaa,endQ 0 (.tup [i64 i,bl c]) σ (fun r _=>AEnd.ret r=.ret (.tup [i64 (bsV L key),bl (bsF L key)])):=fun c hc σ=>zaP aQ8 (by rw [hc,hi])
  by_cases hin:i < L.length
  ·have d1:decide ((i:Int) < (L.length:Int))=true:=decide_eq_true (by omega)
   by_cases hk:L.getD i []=key
   ·have d2:=decide_eq_true hk
    try simp -implicitDefEqProofs only [LM2,eq_self,Nat.zero_mul,lzS,bx_P,dl,d1,TB,SB,Int.reduceToNat,Nat.reduceAdd,Nat.reduceEqDiff,Nat.reduceLT,Nat.reduceMod,Nat.reducePow,Nat.reduceSub,if_true,reduceIte]
    refine⟨by omega,by omega,hin,?_⟩
    rw [d2]
    refine aQ30 ?_
    exact hend _ (by rw [bsF,hi,decide_eq_true hin,decide_eq_true hk];rfl) _
   ·have d2:=decide_eq_false hk
    try simp -implicitDefEqProofs only [LM2,eq_self,Nat.zero_mul,lzS,bx_P,dl,d1,TB,SB,Int.reduceToNat,Nat.reduceAdd,Nat.reduceEqDiff,Nat.reduceLT,Nat.reduceMod,Nat.reducePow,Nat.reduceSub,if_true,reduceIte]
    refine⟨by omega,by omega,hin,?_⟩
    rw [d2]
    refine aQ30 ?_
    refine⟨by omega,by omega,hin,?_⟩
    refine(snan_ok _).pure (by simp [renL,zah]) ?_
    rintro _ σ rfl
    refine⟨zak _ _,?_⟩
    refine aQ30 ?_
    exact hend _ (by rw [bsF,hi,decide_eq_false hk,Bool.and_false]) _
  ·have d1:decide ((i:Int) < (L.length:Int))=false:=decide_eq_false (by omega)
   try simp -implicitDefEqProofs only [LM2,eq_self,Nat.zero_mul,lzS,bx_P,dl,d1,TB,SB,Int.reduceToNat,Nat.reduceAdd,Nat.reduceEqDiff,Nat.reduceLT,Nat.reduceMod,Nat.reducePow,Nat.reduceSub,if_true,reduceIte]
   exact hend _ (by rw [bsF,hi,decide_eq_false hin,Bool.false_and]) _
end Go.Proofs.YtcahoelfogjljaaGreatDoor
end

section
namespace Go.Proofs.YtcahoelfogjljaaGreatDoor
open Go Go.Eng
set_option linter.defProp false in
def LB20:=And.intro (zas u32 zbX) ((zas u64 zbx))
set_option linter.defProp false in
def LM4:=And.intro LB0 (And.intro LB1 (And.intro LB2 (And.intro LB3 (And.intro LB4 (And.intro LB6 (And.intro LB7 (And.intro LB8 (And.intro LB16 (And.intro LB17 (And.intro LB18 (LB19)))))))))))
def kdOf (v:List Nd) (p:Nat):Int:=(v.getD p n0d).kind
def za9 (v:List Nd) (p:Nat) (x:Pt):Option Int :=
 if kdOf v p=4∧0≤x.pos∧x.pos < (zaA v p).length then some ((zaA v p).getD x.pos.toNat 0)
 else if kdOf v p=5∧x.pos < 0∧bsF (zbd v p) x.key=true then some ((zaA v p).getD (bsV (zbd v p) x.key) 0) else none
def optI:Option Int→AV
 | some q=>.tup [i64 q,bl true]
 | none=>.tup [i64 0,bl false]
theorem zgs (v:List Nd) (p:Nat):(zbd v p).length≤(zaA v p).length:=by
 unfold zbd zaA
 split
 ·rename_i h
  rw [Bool.and_eq_true] at h
  rw [if_pos h.1]
  simp [kidP]
 ·exact Nat.zero_le _
theorem zeE (v:List Nd) (p:Int) (hv:v.length≤1000000):(zaA v p).length≤1000000:=by
 unfold zaA
 split
 ·rename_i h
  obtain⟨h0,hp0,hp1⟩:=zec h
  obtain⟨r,hr1,hr2,hr3,hr4⟩:=zhd h0 (p:=p.toNat) (by omega)
  obtain⟨n,hK⟩:=zcm hr1
  have f:=hK.few
  have hg:v.getD p.toNat n0d=n:=zaJ hK.node
  rw [List.length_map,kidP,List.length_map,List.length_range,hg]
  omega
 ·simp
theorem zfa {v:List Nd} {p:Nat} {x:Pt} (h:za9 v p x=none) (σ:zaa):endQ 0 (.tup [i64 0,bl false]) σ (fun r _=>AEnd.ret r=.ret (optI (za9 v p x))):=zaP aQ8 (by rw [h];rfl)
theorem find_ok (v:List Nd) (p:Nat) (x:Pt) (hv:v.length≤1000000) (hp:p < v.length):ACalls Tryz.prog 90 [.sl (v.flatMap nC) v.length,i64 p,ptA x] [] (fun y _=>y=.ret (optI (za9 v p x))):=by
 have hkl:=zeE v p hv
 have hkk:=zgs v p
 rw [zi8]
 obtain⟨xk,xp⟩:=x
 refine ACalls.body T_ok Tryz.func90 (by kernel_rfl) rfl Tryz.ntmps90 (congrArg Array.toList Tryz.results90) ?_
 refine aQ33 ?_
 refine(Kids_ok v p hv).pure aQ9 ?_
 rintro _ σ ⟨rfl,rfl⟩
 refine⟨by simp [AEnd.noid,AV.ren,zas i64 zae],?_⟩
 refine aQ33 ?_
 refine⟨by omega,by omega,Nat.le_refl _,hp,?_⟩
 by_cases k4:(v.getD p n0d).kind=4
 ·have d4:=decide_eq_true k4
  have d5:decide ((v.getD p n0d).kind=5)=false:=decide_eq_false (by omega)
  have n5:¬ kdOf v p=5:=by unfold kdOf;omega
  rw [d4]
  by_cases x0:0≤xp
  ·obtain⟨u,rfl⟩:=Int.eq_ofNat_of_zero_le x0
   by_cases x1:(u:Int) < ((zaA v p).length:Int)
   ·have dx1:=decide_eq_true x1
    have hf:za9 v p ⟨xk,u⟩=some ((zaA v p).getD u 0):=by rw [za9,if_pos ⟨k4,x0,x1⟩];rfl
    try simp -implicitDefEqProofs only [LM4,eq_self,Nat.zero_mul,lzS,bx_P,decide_eq_true x0,dx1,TB,SB,Int.reduceToNat,Nat.reduceAdd,Nat.reduceEqDiff,Nat.reduceLT,Nat.reduceMod,Nat.reducePow,Nat.reduceSub,if_true,reduceIte]
    refine⟨by omega,by omega,by omega,?_⟩
    exact zaP aQ8 (by rw [hf];rfl)
   ·have dx1:=decide_eq_false x1
    have hf:za9 v p ⟨xk,u⟩=none:=by rw [za9,if_neg (fun h=>x1 h.2.2),if_neg (fun h=>n5 h.1)]
    try simp -implicitDefEqProofs only [LM4,eq_self,Nat.zero_mul,lzS,bx_P,decide_eq_true x0,dx1,TB,SB,Int.reduceToNat,Nat.reduceAdd,Nat.reduceEqDiff,Nat.reduceLT,Nat.reduceMod,Nat.reducePow,Nat.reduceSub,if_true,reduceIte]
    refine⟨by omega,by omega,Nat.le_refl _,hp,?_⟩
    rw [d5]
    refine aQ33 ?_
    exact zfa hf _
  ·have dx:=decide_eq_false x0
   have hf:za9 v p ⟨xk,xp⟩=none:=by rw [za9,if_neg (fun h=>x0 h.2.1),if_neg (fun h=>n5 h.1)]
   try simp -implicitDefEqProofs only [LM4,eq_self,Nat.zero_mul,lzS,bx_P,dx,TB,SB,Int.reduceToNat,Nat.reduceAdd,Nat.reduceEqDiff,Nat.reduceLT,Nat.reduceMod,Nat.reducePow,Nat.reduceSub,if_true,reduceIte]
   refine⟨by omega,by omega,Nat.le_refl _,hp,?_⟩
   rw [d5]
   refine aQ33 ?_
   exact zfa hf _
 ·have d4:=decide_eq_false k4
  have n4:¬ kdOf v p=4:=by unfold kdOf;exact k4
  rw [d4]
  refine aQ33 ?_
  refine⟨by omega,by omega,Nat.le_refl _,hp,?_⟩
  by_cases k5:(v.getD p n0d).kind=5
  ·have d5:=decide_eq_true k5
   rw [d5]
   by_cases x0:xp < 0
   ·have hK:ACalls Tryz.prog 123 [.sl (v.flatMap nC) v.length,i64 p] [] (fun y _=>y=.ret (.sl ((zbd v p).map str) (zbd v p).length)):=(Keys_ok v p hv).mono fun _ _ h=>h.1
    try simp -implicitDefEqProofs only [LM4,eq_self,Nat.zero_mul,lzS,bx_P,decide_eq_true x0,TB,SB,Int.reduceToNat,Nat.reduceAdd,Nat.reduceEqDiff,Nat.reduceLT,Nat.reduceMod,Nat.reducePow,Nat.reduceSub,if_true,reduceIte]
    refine zdb (by kernel_rfl) (by kernel_rfl) ?_
    refine aQ33 ?_
    refine zcI hK aQ9 (by simp [AEnd.noid,AV.ren,zas str zah]) ?_
    refine aQ33 ?_
    refine zcI (bsearch_ok (zbd v p) xk (by omega)) (by first | rfl | simp [LB11,LB13,LB20,renL,AV.ren,zak]) (by first | rfl | simp [LB11,LB13,LB20,AEnd.noid,renL,AV.ren,zak]) ?_
    refine aQ33 ?_
    cases hb:bsF (zbd v p) xk with
    | false =>
     have hf:za9 v p ⟨xk,xp⟩=none:=by rw [za9,if_neg (fun h=>n4 h.1),if_neg (fun h=>by rw [hb] at h;cases h.2.2)]
     refine aQ33 ?_
     exact zfa hf _
    | true =>
     have hf:za9 v p ⟨xk,xp⟩=some ((zaA v p).getD (bsV (zbd v p) xk) 0):=by rw [za9,if_neg (fun h=>n4 h.1),if_pos ⟨k5,x0,hb⟩]
     have hlt:bsV (zbd v p) xk < (zbd v p).length:=by
      unfold bsF at hb
      rw [Bool.and_eq_true] at hb
      exact of_decide_eq_true hb.1
     refine aQ33 ?_
     refine⟨by omega,by omega,by omega,?_⟩
     exact zaP aQ8 (by rw [hf];rfl)
   ·have dx:=decide_eq_false x0
    have hf:za9 v p ⟨xk,xp⟩=none:=by rw [za9,if_neg (fun h=>n4 h.1),if_neg (fun h=>x0 h.2.1)]
    try simp -implicitDefEqProofs only [LM4,eq_self,Nat.zero_mul,lzS,bx_P,dx,TB,SB,Int.reduceToNat,Nat.reduceAdd,Nat.reduceEqDiff,Nat.reduceLT,Nat.reduceMod,Nat.reducePow,Nat.reduceSub,if_true,reduceIte]
    exact zfa hf _
  ·have d5:=decide_eq_false k5
   have hf:za9 v p ⟨xk,xp⟩=none:=by rw [za9,if_neg (fun h=>n4 h.1),if_neg (fun h=>k5 h.1)]
   rw [d5]
   refine aQ33 ?_
   exact zfa hf _
end Go.Proofs.YtcahoelfogjljaaGreatDoor
end

section
namespace Go.Proofs.YtcahoelfogjljaaGreatDoor
open Go Go.Eng
theorem zdN {v:List Nd} {p:Int} {q:Int} (h:q∈zaA v p):∃ n:Nat,q=n∧n < v.length:=by
 unfold zaA at h
 split at h
 ·rename_i h0
  obtain⟨h0,hp0,hp1⟩:=zec h0
  obtain⟨r,hr1,hr2,hr3,hr4⟩:=zhd h0 (p:=p.toNat) (by omega)
  obtain⟨n,hK⟩:=zcm hr1
  have hg:v.getD p.toNat n0d=n:=zaJ hK.node
  rw [List.mem_map] at h
  obtain⟨m,hm,rfl⟩:=h
  refine⟨m,rfl,?_⟩
  rw [kidP,List.mem_map,hg] at hm
  obtain⟨k,hk,rfl⟩:=hm
  rw [List.mem_range] at hk
  obtain⟨r',g1,_⟩:=hK.kid hk
  obtain⟨m,g⟩:=zcm g1
  exact g.few.2.2.2
 ·cases h
theorem zjT {v:List Nd} {p:Nat} {x:Pt} {q:Int} (h:za9 v p x=some q):∃ n:Nat,q=n∧n < v.length:=by
 have get:∀ i:Nat,i < (zaA v p).length→∃ n:Nat,(zaA v p).getD i 0=n∧n < v.length:=fun i hi=>by
  rw [List.getD_eq_getElem?_getD,List.getElem?_eq_getElem hi]
  exact zdN (List.getElem_mem hi)
 unfold za9 at h
 split at h
 ·rename_i hc
  cases h
  exact get _ (by omega)
 ·split at h
  ·rename_i hc
   cases h
   have hb:=hc.2.2
   unfold bsF at hb
   rw [Bool.and_eq_true] at hb
   have:=of_decide_eq_true hb.1
   exact get _ (by have:=zgs v p;omega)
  ·cases h
end Go.Proofs.YtcahoelfogjljaaGreatDoor
end

section
namespace Go.Proofs.YtcahoelfogjljaaGreatDoor
open Go Go.Eng
theorem pathV_len (s:List UInt8):(zbz s).1.length≤120:=by
 by_cases h:(zbz s).2=0
 ·have hp:zbz s=((zbz s).1,0):=Prod.ext rfl h
  obtain⟨g1,g2,g3⟩:=zjb hp
  have:=shP_len (zbz s).1 true (List.all_eq_true.1 g2)
  rw [← g1] at this
  omega
 ·rw [pathV_bad h];simp
theorem zbA {l:List Nd} (h:zaz l=0):0 < l.length∧l.length≤120:=by
 unfold zaz at h
 split at h
 ·cases h
 ·rename_i h1
  split at h
  ·rename_i r hr
   obtain⟨n,hK⟩:=zcm hr
   have:=hK.few
   omega
  ·cases h
def zbe (v:List Nd) (s:List UInt8):List Pt × Int:=if zaz v=0 then zbz s else ([],zaz v)
theorem steps_ok (v:List Nd) (s:List UInt8) (hv:v.length≤1000000) (hs:s.length≤9223372036854775807):ACalls Tryz.prog 58 [.sl (v.flatMap nC) v.length,str s] [] (fun y _=>y=.ret (.tup [slP (zbe v s).1,i64 (zbe v s).2])):=by
 refine ACalls.body T_ok Tryz.func58 (by kernel_rfl) rfl Tryz.ntmps58 (congrArg Array.toList Tryz.results58) ?_
 refine aQ33 ?_
 refine(zjL v hv).pure (by simp [renL,AV.ren,zan,zat]) ?_
 rintro _ σ ⟨rfl,rfl⟩
 refine⟨zae _ _,?_⟩
 by_cases he:zaz v=0
 ·have de:=decide_eq_true he
  try simp -implicitDefEqProofs only [LM4,eq_self,Nat.zero_mul,lzS,bx_P,de,TB,SB,Int.reduceToNat,Nat.reduceAdd,Nat.reduceEqDiff,Nat.reduceLT,Nat.reduceMod,Nat.reducePow,Nat.reduceSub,if_true,reduceIte]
  refine(Ppath_ok s hs).pure (by simp [renL,zah]) ?_
  rintro _ σ rfl
  refine⟨by simp [AEnd.noid,AV.ren,renL,ze8,zae],?_⟩
  refine aQ33 ?_
  exact zio (l:=(zbz s).1) [] rfl (by rw [zbe,if_pos he])
 ·have de:=decide_eq_false he
  try simp -implicitDefEqProofs only [LM4,eq_self,Nat.zero_mul,lzS,bx_P,de,TB,SB,Int.reduceToNat,Nat.reduceAdd,Nat.reduceEqDiff,Nat.reduceLT,Nat.reduceMod,Nat.reducePow,Nat.reduceSub,if_true,reduceIte]
  exact zio [] zhf (by rw [zbe,if_neg he])
theorem zem {v:List Nd} {s:List UInt8} (h:(zbe v s).2=0):zaz v=0∧zbe v s=zbz s:=by
 unfold zbe at h ⊢
 split at h
 ·rename_i he
  exact⟨he,by rw [if_pos he]⟩
 ·rename_i he
  exact absurd h he
theorem stepsV_len (v:List Nd) (s:List UInt8):(zbe v s).1.length≤120:=by
 unfold zbe
 split
 ·exact pathV_len s
 ·exact Nat.zero_le _
end Go.Proofs.YtcahoelfogjljaaGreatDoor
end

section
namespace Go.Proofs.YtcahoelfogjljaaGreatDoor
open Go Go.Eng
def zeO (v:List Nd) (p:Nat) (x:Pt):List Int:=if kdOf v p=4∧x.pos < 0 then zaA v p else [(p:Int)]
def za3 (v:List Nd) (x:Pt) (l:List Int):List Int:=l.filterMap fun f=>za9 v f.toNat x
def zbZ (v:List Nd) (p:Nat) (x:Pt):List Int:=za3 v x (zeO v p x)
theorem optI_eq (o:Option Int):optI o=.tup [i64 (o.getD 0),bl o.isSome]:=by cases o <;> rfl
theorem from_mem {v:List Nd} {p:Nat} {x:Pt} {q:Int} (hp:p < v.length) (h:q∈zeO v p x):∃ n:Nat,q=n∧n < v.length:=by
 unfold zeO at h
 split at h
 ·exact zdN h
 ·rw [List.mem_singleton] at h
  exact⟨p,h,hp⟩
theorem zjc {v:List Nd} {x:Pt} {l:List Int} {q:Int} (h:q∈za3 v x l):∃ n:Nat,q=n∧n < v.length:=by
 unfold za3 at h
 rw [List.mem_filterMap] at h
 obtain⟨f,_,hf⟩:=h
 exact zjT hf
theorem zfT {v:List Nd} {x:Pt} {l:List Int} {k:Nat} (hk:k < l.length):za3 v x (l.take (k+1))=match za9 v (l.getD k 0).toNat x with | some q=>za3 v x (l.take k)++[q] | none=>za3 v x (l.take k):=by
 rw [zbT 0 hk]
 unfold za3
 rw [List.filterMap_append]
 generalize l.getD k 0=a
 cases h:za9 v a.toNat x <;> simp [h]
theorem zg1 (v:List Nd) (x:Pt) (l:List Int) (k:Nat):(za3 v x (l.take k)).length≤k:=by
 unfold za3
 exact Nat.le_trans (List.length_filterMap_le _ _) (by rw [List.length_take];omega)
theorem from_len (v:List Nd) (p:Nat) (x:Pt) (hv:v.length≤1000000):(zeO v p x).length≤1000000:=by
 unfold zeO
 split
 ·exact zeE v p hv
 ·simp
theorem spread_ok (v:List Nd) (p:Nat) (x:Pt) (hv:v.length≤1000000) (hp:p < v.length):ACalls Tryz.prog 59 [.sl (v.flatMap nC) v.length,i64 p,ptA x] [] (fun y _=>y=.ret (.sl ((zbZ v p x).map i64) (zbZ v p x).length)):=by
 have hfl:=from_len v p x hv
 have hfm:=fun q=>@from_mem v p x q hp
 have hkl:=zeE v p hv
 have hvs:zbZ v p x=za3 v x (zeO v p x):=rfl
 rw [zi8]
 refine ACalls.body T_ok Tryz.func59 (by kernel_rfl) rfl Tryz.ntmps59 (congrArg Array.toList Tryz.results59) ?_
 refine aQ33 ?_
 refine⟨by omega,by omega,Nat.le_refl _,hp,?_⟩
 by_cases hc:(v.getD p n0d).kind=4∧x.pos < 0
 ·obtain⟨k4,x0⟩:=hc
  have hF:zeO v p x=zaA v p:=by rw [zeO,if_pos ⟨k4,x0⟩]
  have d4:=decide_eq_true k4
  rw [d4]
  try simp -implicitDefEqProofs only [LM4,eq_self,Nat.zero_mul,lzS,bx_P,decide_eq_true x0,TB,SB,Int.reduceToNat,Nat.reduceAdd,Nat.reduceEqDiff,Nat.reduceLT,Nat.reduceMod,Nat.reducePow,Nat.reduceSub,if_true,reduceIte]
  refine(Kids_ok v p hv).pure aQ9 ?_
  rintro _ σ ⟨rfl,rfl⟩
  refine⟨by simp [AEnd.noid,AV.ren,zas i64 zae],?_⟩
  rw [← hF,hvs]
  clear hvs hF
  generalize zeO v p x=F at hfl hfm ⊢
  refine aQ33 ?_
  rw [zaN]
  refine⟨Nat,fun k=>k≤F.length,fun k=>[.sl (v.flatMap nC) v.length,.bot,.bot,.bot,.bot,.ptr 0 0,.bot,.bot,.ref 1 0 (za3 v x (F.take k)).length 1,.bot,.bot,.bot,.bot,.bot,.bot,.bot,.bot,.bot,.bot,.bot,.bot,.bot,.bot,.bot,.bot,.bot,.bot,.bot,.bot,.sl (F.map i64) F.length,i64 F.length,i64 k,.bot,.bot,.bot,.bot,.bot,.bot,.bot,.bot,.bot,.bot,.bot,.bot,.bot,.bot,.bot,.bot,.bot],fun k=>[.rw [str x.key,i64 x.pos],.rw ((za3 v x (F.take k)).map i64)],fun k=>F.length - k,0,Nat.zero_le _,zbI 8 1 rfl (zab (q:=[0,2]) rfl rfl (by decide) ?_ ?_),?_⟩
  ·refine aQ19 ?_
   exact⟨by rw [zat];rfl,by simp [za3],.inr rfl⟩
  ·refine aQ19 ?_
   simp [zao,zar,renL,zah,zae,za3]
  intro k hk
  have hk:k≤F.length:=hk
  dsimp only
  by_cases hlt:k < F.length
  ·have dl:decide ((k:Int) < (F.length:Int))=true:=decide_eq_true (by omega)
   have hst:=zfT (v:=v) (x:=x) hlt
   have hsl:=zg1 v x F k
   obtain⟨n,hn,hn2⟩:=hfm (F.getD k 0) (by rw [List.getD_eq_getElem?_getD,List.getElem?_eq_getElem hlt];exact List.getElem_mem hlt)
   have hfo:=find_ok v n x hv hn2
   rw [hn,Int.toNat_natCast] at hst
   rw [zi8,optI_eq] at hfo
   try simp -implicitDefEqProofs only [LM4,eq_self,Nat.zero_mul,lzS,bx_P,dl,TB,SB,Int.reduceToNat,Nat.reduceAdd,Nat.reduceEqDiff,Nat.reduceLT,Nat.reduceMod,Nat.reducePow,Nat.reduceSub,if_true,reduceIte]
   refine⟨by omega,by omega,hlt,?_⟩
   rw [hn]
   refine hfo.pure aQ10 ?_
   rintro _ σ rfl
   refine⟨by simp [AEnd.noid,AV.ren,renL,zae,zak],?_⟩
   cases ho:za9 v n x with
   | none =>
    rw [ho] at hst
    refine aQ34 ?_
    refine⟨by unfold inI;omega,?_⟩
    rw [zac]
    refine⟨k+1,by (show k+1≤F.length);omega,by (show F.length - (k+1) < F.length - k);omega,?_⟩
    rw [hst]
    refine zab (q:=[0,1]) rfl rfl (by decide) ?_ ?_
    ·refine aQ19 ?_
     exact⟨by rw [zat];rfl,.inr (by omega)⟩
    ·refine aQ19 ?_
     simp [zao,zar,renL,zah,zae,zas i64 zae]
   | some q =>
    rw [ho] at hst
    refine aQ35 ?_
    refine zaQ i64 zjz rfl rfl T47 T47 (zcS _) T3 zdT (l:=za3 v x (F.take k)) (ys:=[q]) (m:=1) rfl rfl rfl (by omega) (by simp only [zaD];omega) ?_
    refine aQ33 ?_
    refine⟨by unfold inI;omega,?_⟩
    rw [zac]
    refine⟨k+1,by (show k+1≤F.length);omega,by (show F.length - (k+1) < F.length - k);omega,?_⟩
    rw [hst]
    dsimp only
    rw [List.length_append]
    refine zab (q:=[0,3]) rfl rfl (by decide) ?_ ?_
    ·refine aQ19 ?_
     exact⟨by rw [zat];rfl,.inr (by omega)⟩
    ·refine aQ19 ?_
     exact aQ36 trivial
  ·obtain rfl:k=F.length:=by omega
   have dl:decide ((F.length:Int) < (F.length:Int))=false:=decide_eq_false (by omega)
   rw [List.take_length]
   try simp -implicitDefEqProofs only [LM4,eq_self,Nat.zero_mul,lzS,bx_P,dl,TB,SB,Int.reduceToNat,Nat.reduceAdd,Nat.reduceEqDiff,Nat.reduceLT,Nat.reduceMod,Nat.reducePow,Nat.reduceSub,if_true,reduceIte]
   refine zfI rfl (by rw [List.length_map];omega) (zas i64 zae _ _) ?_
   rw [List.drop_zero,List.take_of_length_le (by rw [List.length_map];omega)]
 ·have hF:zeO v p x=[(p:Int)]:=by rw [zeO,if_neg (show ¬ (kdOf v p=4∧x.pos < 0) from hc)]
  rw [hvs]
  clear hvs
  generalize zeO v p x=F at hfl hfm hF ⊢
  by_cases k4:(v.getD p n0d).kind=4
  ·have x0:¬ x.pos < 0:=fun h=>hc ⟨k4,h⟩
   rw [decide_eq_true k4]
   try simp -implicitDefEqProofs only [LM4,eq_self,Nat.zero_mul,lzS,bx_P,decide_eq_false x0,TB,SB,Int.reduceToNat,Nat.reduceAdd,Nat.reduceEqDiff,Nat.reduceLT,Nat.reduceMod,Nat.reducePow,Nat.reduceSub,if_true,reduceIte]
   rw [zaN]
   refine⟨Nat,fun k=>k≤F.length,fun k=>[.sl (v.flatMap nC) v.length,.bot,.bot,.bot,.bot,.ptr 0 0,.bot,.bot,.ref 1 0 (za3 v x (F.take k)).length 1,.bot,.bot,.bot,.bot,.bot,.bot,.bot,.bot,.bot,.bot,.bot,.bot,.bot,.bot,.bot,.bot,.bot,.bot,.bot,.bot,.sl (F.map i64) F.length,i64 F.length,i64 k,.bot,.bot,.bot,.bot,.bot,.bot,.bot,.bot,.bot,.bot,.bot,.bot,.bot,.bot,.bot,.bot,.bot],fun k=>[.rw [str x.key,i64 x.pos],.rw ((za3 v x (F.take k)).map i64)],fun k=>F.length - k,0,Nat.zero_le _,zgb 29 rfl rfl (by simp) (zbI 8 1 rfl (zab (q:=[0,2]) rfl rfl (by decide) ?_ ?_)),?_⟩
   ·refine aQ19 ?_
    exact⟨by rw [zat];rfl,by simp [za3],⟨by rw [hF];rfl,by rw [hF];rfl⟩,.inr (by rw [hF];rfl),.inr rfl⟩
   ·refine aQ19 ?_
    simp [zao,zar,renL,zah,zae,za3]
   intro k hk
   have hk:k≤F.length:=hk
   dsimp only
   by_cases hlt:k < F.length
   ·have dl:decide ((k:Int) < (F.length:Int))=true:=decide_eq_true (by omega)
    have hst:=zfT (v:=v) (x:=x) hlt
    have hsl:=zg1 v x F k
    obtain⟨n,hn,hn2⟩:=hfm (F.getD k 0) (by rw [List.getD_eq_getElem?_getD,List.getElem?_eq_getElem hlt];exact List.getElem_mem hlt)
    have hfo:=find_ok v n x hv hn2
    rw [hn,Int.toNat_natCast] at hst
    rw [zi8,optI_eq] at hfo
    try simp -implicitDefEqProofs only [LM4,eq_self,Nat.zero_mul,lzS,bx_P,dl,TB,SB,Int.reduceToNat,Nat.reduceAdd,Nat.reduceEqDiff,Nat.reduceLT,Nat.reduceMod,Nat.reducePow,Nat.reduceSub,if_true,reduceIte]
    refine⟨by omega,by omega,hlt,?_⟩
    rw [hn]
    refine hfo.pure aQ10 ?_
    rintro _ σ rfl
    refine⟨by simp [AEnd.noid,AV.ren,renL,zae,zak],?_⟩
    cases ho:za9 v n x with
    | none =>
     rw [ho] at hst
     refine aQ34 ?_
     refine⟨by unfold inI;omega,?_⟩
     rw [zac]
     refine⟨k+1,by (show k+1≤F.length);omega,by (show F.length - (k+1) < F.length - k);omega,?_⟩
     rw [hst]
     refine zab (q:=[0,1]) rfl rfl (by decide) ?_ ?_
     ·refine aQ19 ?_
      exact⟨by rw [zat];rfl,.inr (by omega)⟩
     ·refine aQ19 ?_
      simp [zao,zar,renL,zah,zae,zas i64 zae]
    | some q =>
     rw [ho] at hst
     refine aQ35 ?_
     refine zaQ i64 zjz rfl rfl T47 T47 (zcS _) T3 zdT (l:=za3 v x (F.take k)) (ys:=[q]) (m:=1) rfl rfl rfl (by omega) (by simp only [zaD];omega) ?_
     refine aQ33 ?_
     refine⟨by unfold inI;omega,?_⟩
     rw [zac]
     refine⟨k+1,by (show k+1≤F.length);omega,by (show F.length - (k+1) < F.length - k);omega,?_⟩
     rw [hst]
     dsimp only
     rw [List.length_append]
     refine zab (q:=[0,3]) rfl rfl (by decide) ?_ ?_
     ·refine aQ19 ?_
      exact⟨by rw [zat];rfl,.inr (by omega)⟩
     ·refine aQ19 ?_
      exact aQ36 trivial
   ·obtain rfl:k=F.length:=by omega
    have dl:decide ((F.length:Int) < (F.length:Int))=false:=decide_eq_false (by omega)
    rw [List.take_length]
    try simp -implicitDefEqProofs only [LM4,eq_self,Nat.zero_mul,lzS,bx_P,dl,TB,SB,Int.reduceToNat,Nat.reduceAdd,Nat.reduceEqDiff,Nat.reduceLT,Nat.reduceMod,Nat.reducePow,Nat.reduceSub,if_true,reduceIte]
    refine zfI rfl (by rw [List.length_map];omega) (zas i64 zae _ _) ?_
    rw [List.drop_zero,List.take_of_length_le (by rw [List.length_map];omega)]
  ·rw [decide_eq_false k4]
   refine aQ33 ?_
   rw [zaN]
   refine⟨Nat,fun k=>k≤F.length,fun k=>[.sl (v.flatMap nC) v.length,.bot,.bot,.bot,.bot,.ptr 0 0,.bot,.bot,.ref 1 0 (za3 v x (F.take k)).length 1,.bot,.bot,.bot,.bot,.bot,.bot,.bot,.bot,.bot,.bot,.bot,.bot,.bot,.bot,.bot,.bot,.bot,.bot,.bot,.bot,.sl (F.map i64) F.length,i64 F.length,i64 k,.bot,.bot,.bot,.bot,.bot,.bot,.bot,.bot,.bot,.bot,.bot,.bot,.bot,.bot,.bot,.bot,.bot],fun k=>[.rw [str x.key,i64 x.pos],.rw ((za3 v x (F.take k)).map i64)],fun k=>F.length - k,0,Nat.zero_le _,zgb 29 rfl rfl (by simp) (zbI 8 1 rfl (zab (q:=[0,2]) rfl rfl (by decide) ?_ ?_)),?_⟩
   ·refine aQ19 ?_
    exact⟨by rw [zat];rfl,by simp [za3],⟨by rw [hF];rfl,by rw [hF];rfl⟩,.inr (by rw [hF];rfl),.inr rfl⟩
   ·refine aQ19 ?_
    simp [zao,zar,renL,zah,zae,za3]
   intro k hk
   have hk:k≤F.length:=hk
   dsimp only
   by_cases hlt:k < F.length
   ·have dl:decide ((k:Int) < (F.length:Int))=true:=decide_eq_true (by omega)
    have hst:=zfT (v:=v) (x:=x) hlt
    have hsl:=zg1 v x F k
    obtain⟨n,hn,hn2⟩:=hfm (F.getD k 0) (by rw [List.getD_eq_getElem?_getD,List.getElem?_eq_getElem hlt];exact List.getElem_mem hlt)
    have hfo:=find_ok v n x hv hn2
    rw [hn,Int.toNat_natCast] at hst
    rw [zi8,optI_eq] at hfo
    try simp -implicitDefEqProofs only [LM4,eq_self,Nat.zero_mul,lzS,bx_P,dl,TB,SB,Int.reduceToNat,Nat.reduceAdd,Nat.reduceEqDiff,Nat.reduceLT,Nat.reduceMod,Nat.reducePow,Nat.reduceSub,if_true,reduceIte]
    refine⟨by omega,by omega,hlt,?_⟩
    rw [hn]
    refine hfo.pure aQ10 ?_
    rintro _ σ rfl
    refine⟨by simp [AEnd.noid,AV.ren,renL,zae,zak],?_⟩
    cases ho:za9 v n x with
    | none =>
     rw [ho] at hst
     refine aQ34 ?_
     refine⟨by unfold inI;omega,?_⟩
     rw [zac]
     refine⟨k+1,by (show k+1≤F.length);omega,by (show F.length - (k+1) < F.length - k);omega,?_⟩
     rw [hst]
     refine zab (q:=[0,1]) rfl rfl (by decide) ?_ ?_
     ·refine aQ19 ?_
      exact⟨by rw [zat];rfl,.inr (by omega)⟩
     ·refine aQ19 ?_
      simp [zao,zar,renL,zah,zae,zas i64 zae]
    | some q =>
     rw [ho] at hst
     refine aQ35 ?_
     refine zaQ i64 zjz rfl rfl T47 T47 (zcS _) T3 zdT (l:=za3 v x (F.take k)) (ys:=[q]) (m:=1) rfl rfl rfl (by omega) (by simp only [zaD];omega) ?_
     refine aQ33 ?_
     refine⟨by unfold inI;omega,?_⟩
     rw [zac]
     refine⟨k+1,by (show k+1≤F.length);omega,by (show F.length - (k+1) < F.length - k);omega,?_⟩
     rw [hst]
     dsimp only
     rw [List.length_append]
     refine zab (q:=[0,3]) rfl rfl (by decide) ?_ ?_
     ·refine aQ19 ?_
      exact⟨by rw [zat];rfl,.inr (by omega)⟩
     ·refine aQ19 ?_
      exact aQ36 trivial
   ·obtain rfl:k=F.length:=by omega
    have dl:decide ((F.length:Int) < (F.length:Int))=false:=decide_eq_false (by omega)
    rw [List.take_length]
    try simp -implicitDefEqProofs only [LM4,eq_self,Nat.zero_mul,lzS,bx_P,dl,TB,SB,Int.reduceToNat,Nat.reduceAdd,Nat.reduceEqDiff,Nat.reduceLT,Nat.reduceMod,Nat.reducePow,Nat.reduceSub,if_true,reduceIte]
    refine zfI rfl (by rw [List.length_map];omega) (zas i64 zae _ _) ?_
    rw [List.drop_zero,List.take_of_length_le (by rw [List.length_map];omega)]
end Go.Proofs.YtcahoelfogjljaaGreatDoor
end

section
namespace Go.Proofs.YtcahoelfogjljaaGreatDoor
open Go Go.Eng
theorem cellsSl (cs:List AV) (n:Nat):(AV.sl cs n).cells=[AV.sl cs n]:=rfl
theorem zeF {σ:zaa} {i:Nat} {L:List (List Nd)} (h:σ[i]?=some (.ro (L.map slNs))):frzA σ (.ref i 0 L.length 1) (.sl (L.map slNs) L.length) :=
 .inr ⟨_,h,by simp,by rw [List.drop_zero,Nat.mul_one,List.take_of_length_le (by simp)]⟩
theorem zal (e:TypeId) (cs:List AV) (m:Nat) (σ:zaa) (KS:AV→zaa→Prop):bs2 (some (tySl e)) 1 [(0,.sl cs m)] σ KS=KS (.ref σ.length 0 1 1) (σ++[.rw [.sl cs m]]):=by
 simp [bs2,tySl,zbF,zbV,za7,List.range_succ,one_sl,cellsSl]
def zbB (v:List Nd) (ps:List Int) (j:Nat):List (List Nd):=(ps.take j).map fun q=>zaC v q
def zcj (v:List Nd) (x:Pt) (ps:List Int):List Int:=ps.flatMap fun q=>zbZ v q.toNat x
def zcg (v:List Nd) (l:List Pt):List Int:=l.foldl (fun ps x=>zcj v x ps) [0]
def zcb (v:List Nd) (s:List UInt8):List (List Nd) × Int:=if (zbe v s).2=0 then ((zcg v (zbe v s).1).map fun q=>zaC v q,0) else ([],(zbe v s).2)
theorem zfU {v:List Nd} {l:List Pt} {k:Nat} (hk:k < l.length):zcg v (l.take (k+1))=zcj v (l.getD k pt0) (zcg v (l.take k)):=by
 rw [zbT pt0 hk]
 unfold zcg
 rw [List.foldl_append]
 rfl
theorem stepPs_take {v:List Nd} {x:Pt} {ps:List Int} {j:Nat} (hj:j < ps.length):zcj v x (ps.take (j+1))=zcj v x (ps.take j)++zbZ v (ps.getD j 0).toNat x:=by
 rw [zbT 0 hj]
 unfold zcj
 rw [List.flatMap_append]
 simp
theorem stepPs_le (v:List Nd) (x:Pt) (ps:List Int) (j:Nat):(zcj v x (ps.take j)).length≤(zcj v x ps).length:=by
 conv=>rhs;rw [← List.take_append_drop j ps]
 unfold zcj
 rw [List.flatMap_append,List.length_append]
 omega
theorem stepPs_mem {v:List Nd} {x:Pt} {ps:List Int} {q:Int} (h:q∈zcj v x ps):∃ n:Nat,q=n∧n < v.length:=by
 unfold zcj at h
 rw [List.mem_flatMap] at h
 obtain⟨a,_,h⟩:=h
 exact zjc h
theorem zdn {v:List Nd} (h0:0 < v.length) {l:List Pt} {k:Nat} (hk:k≤l.length) {q:Int} (h:q∈zcg v (l.take k)):∃ n:Nat,q=n∧n < v.length:=by
 cases k with
 | zero =>
  simp only [List.take_zero,zcg,List.foldl_nil,List.mem_singleton] at h
  exact⟨0,h,h0⟩
 | succ k =>
  rw [zfU (by omega)] at h
  exact stepPs_mem h
theorem asrcI {σ:zaa} (l:List Int):asrc σ 1 (.sl (l.map i64) l.length)=some (l.map i64,l.length):=by
 simp [asrc,asl,List.take_of_length_le]
theorem PEach_ok (v:List Nd) (s:List UInt8) (hv:v.length≤1000000) (hs:s.length≤9223372036854775807) (hB:∀ k,k≤(zbe v s).1.length→(zcg v ((zbe v s).1.take k)).length≤1000):ACalls Tryz.prog 27 [.sl (v.flatMap nC) v.length,str s] [] (fun y _=>y=.ret (.tup [.sl ((zcb v s).1.map slNs) (zcb v s).1.length,i64 (zcb v s).2])):=by
 refine ACalls.body T_ok Tryz.func27 (by kernel_rfl) rfl Tryz.ntmps27 (congrArg Array.toList Tryz.results27) ?_
 refine aQ37 ?_
 refine(steps_ok v s hv hs).pure aQ11 ?_
 rintro _ σ rfl
 refine⟨by simp [AEnd.noid,AV.ren,renL,ze8,zae],?_⟩
 rw [slP_eq]
 have hl:=stepsV_len v s
 have hr:zcb v s=if (zbe v s).2=0 then ((zcg v (zbe v s).1).map fun q=>zaC v q,0) else ([],(zbe v s).2):=rfl
 have hok:=@zem v s
 generalize zbe v s=X at hl hr hok hB ⊢
 obtain⟨l,e⟩:=X
 dsimp only at hl hr hok hB ⊢
 by_cases he:e=0
 ·have de:=decide_eq_true he
  have hn:=zbA (hok he).1
  rw [if_pos he] at hr
  try simp -implicitDefEqProofs only [LM4,eq_self,Nat.zero_mul,lzS,bx_P,zal,de,TB,SB,Int.reduceToNat,Nat.reduceAdd,Nat.reduceEqDiff,Nat.reduceLT,Nat.reduceMod,Nat.reducePow,Nat.reduceSub,if_true,reduceIte]
  rw [zaN]
  refine⟨Nat,fun k=>k≤l.length,fun k=>[.sl (v.flatMap nC) v.length,.bot,.bot,.bot,.bot,.bot,.sl (l.flatMap ptC) l.length,.bot,.ref 0 0 (zcg v (l.take k)).length 1,.bot,.bot,.bot,.bot,.bot,.bot,.bot,.bot,.bot,.bot,.bot,.bot,.bot,.bot,.bot,.bot,.bot,.bot,.sl (l.flatMap ptC) l.length,i64 l.length,i64 k,.bot,.bot,.bot,.bot,.bot,.bot,.bot,.bot,.bot,.bot,.bot,.bot,.bot,.bot,.bot,.bot,.bot,.bot,.bot,.bot,.bot,.bot,.bot,.bot,.bot,.bot,.bot,.bot,.bot,.bot,.bot,.bot],fun k=>[.rw ((zcg v (l.take k)).map i64)],fun k=>l.length - k,0,Nat.zero_le _,zab (q:=[0]) rfl rfl (by decide) ?_ ?_,?_⟩
  ·refine aQ19 ?_
   exact⟨by rw [zat];rfl,by rw [zcp];rfl,rfl,by rw [zcp];rfl,.inr rfl⟩
  ·refine aQ19 ?_
   rfl
  intro k hk
  have hk:k≤l.length:=hk
  dsimp only
  by_cases hlt:k < l.length
  ·have dl:decide ((k:Int) < (l.length:Int))=true:=decide_eq_true (by omega)
   have hpt:=zfU (v:=v) hlt
   have hb1:=hB (k+1) hlt
   rw [hpt] at hb1
   have hm:=fun q=>@zdn v hn.1 l k hk q
   have hbk:=hB k hk
   generalize zcg v (l.take k)=ps at hpt hb1 hm hbk ⊢
   try simp -implicitDefEqProofs only [LM4,eq_self,Nat.zero_mul,lzS,bx_P,zal,dl,TB,SB,Int.reduceToNat,Nat.reduceAdd,Nat.reduceEqDiff,Nat.reduceLT,Nat.reduceMod,Nat.reducePow,Nat.reduceSub,if_true,reduceIte]
   refine⟨by omega,by omega,Nat.le_refl _,hlt,?_⟩
   generalize l.getD k pt0=x at hb1 hpt ⊢
   rw [zaN]
   refine⟨Nat,fun j=>j≤ps.length,fun j=>[.sl (v.flatMap nC) v.length,.bot,.bot,.bot,.bot,.bot,.sl (l.flatMap ptC) l.length,.bot,.bot,.bot,.ptr 1 0,.ref 2 0 (zcj v x (ps.take j)).length 1,.bot,.bot,.bot,.bot,.bot,.bot,.bot,.bot,.bot,.bot,.bot,.bot,.bot,.bot,.bot,.sl (l.flatMap ptC) l.length,i64 l.length,i64 k,.bot,.bot,.bot,.ref 0 0 ps.length 1,i64 ps.length,i64 j,.bot,.bot,.bot,.bot,.bot,.bot,.bot,.bot,.bot,.bot,.bot,.bot,.bot,.bot,.bot,.bot,.bot,.bot,.bot,.bot,.bot,.bot,.bot,.bot,.bot,.bot],fun j=>[.rw (ps.map i64),.rw [str x.key,i64 x.pos],.rw ((zcj v x (ps.take j)).map i64)],fun j=>ps.length - j,0,Nat.zero_le _,zbI 11 1 rfl (zab (q:=[0,1,2]) rfl rfl (by decide) ?_ ?_),?_⟩
   ·refine aQ19 ?_
    exact⟨by rw [zat];rfl,by rw [zcp];rfl,by simp [zcj],by rw [zcp];rfl,.inr rfl⟩
   ·refine aQ19 ?_
    simp [zao,zar,renL,zah,zae,zas i64 zae,zcj]
   intro j hj
   have hj:j≤ps.length:=hj
   dsimp only
   by_cases jlt:j < ps.length
   ·have dj:decide ((j:Int) < (ps.length:Int))=true:=decide_eq_true (by omega)
    have hst:=stepPs_take (v:=v) (x:=x) jlt
    have hle:=stepPs_le v x ps (j+1)
    obtain⟨n,hn1,hn2⟩:=hm (ps.getD j 0) (by rw [List.getD_eq_getElem?_getD,List.getElem?_eq_getElem jlt];exact List.getElem_mem jlt)
    have hso:=spread_ok v n x hv hn2
    rw [hn1,Int.toNat_natCast] at hst
    rw [hst,List.length_append] at hle
    rw [zi8] at hso
    try simp -implicitDefEqProofs only [LM4,eq_self,Nat.zero_mul,lzS,bx_P,zal,dj,TB,SB,Int.reduceToNat,Nat.reduceAdd,Nat.reduceEqDiff,Nat.reduceLT,Nat.reduceMod,Nat.reducePow,Nat.reduceSub,if_true,reduceIte]
    refine⟨by omega,by omega,jlt,?_⟩
    rw [hn1]
    refine hso.pure aQ10 ?_
    rintro _ σ rfl
    refine⟨by simp [AEnd.noid,AV.ren,zas i64 zae],?_⟩
    refine aQ37 ?_
    refine zaQ i64 zjz rfl rfl T47 T47 (zcS _) T3 zdT (l:=zcj v x (ps.take j)) (ys:=zbZ v n x) (m:=(zbZ v n x).length) rfl rfl (asrcI _) (by omega) (by simp only [zaD];omega) ?_
    refine aQ37 ?_
    refine⟨by unfold inI;omega,?_⟩
    rw [zac]
    refine⟨j+1,by (show j+1≤ps.length);omega,by (show ps.length - (j+1) < ps.length - j);omega,?_⟩
    rw [hst,List.length_append]
    refine zab (q:=[0,1,3]) rfl rfl (by decide) ?_ ?_
    ·refine aQ19 ?_
     exact⟨by rw [zat];rfl,by rw [zcp];rfl,by rw [zcp];rfl,.inr (by omega)⟩
    ·refine aQ19 ?_
     exact aQ36 trivial
   ·obtain rfl:j=ps.length:=by omega
    have dj:decide ((ps.length:Int) < (ps.length:Int))=false:=decide_eq_false (by omega)
    rw [List.take_length]
    try simp -implicitDefEqProofs only [LM4,eq_self,Nat.zero_mul,lzS,bx_P,zal,dj,TB,SB,Int.reduceToNat,Nat.reduceAdd,Nat.reduceEqDiff,Nat.reduceLT,Nat.reduceMod,Nat.reducePow,Nat.reduceSub,if_true,reduceIte]
    refine⟨by unfold inI;omega,?_⟩
    rw [zac]
    refine⟨k+1,by (show k+1≤l.length);omega,by (show l.length - (k+1) < l.length - k);omega,?_⟩
    rw [hpt]
    refine zab (q:=[2]) rfl rfl (by decide) ?_ ?_
    ·refine aQ19 ?_
     exact⟨by rw [zat];rfl,by rw [zcp];rfl,by rw [zcp];rfl,.inr (by omega)⟩
    ·first|exact aQ19 trivial|refine aQ19 ?_
  ·obtain rfl:k=l.length:=by omega
   have dl:decide ((l.length:Int) < (l.length:Int))=false:=decide_eq_false (by omega)
   have hm:=fun q=>@zdn v hn.1 l l.length (Nat.le_refl _) q
   have hbk:=hB l.length (Nat.le_refl _)
   rw [List.take_length] at hm hbk ⊢
   generalize zcg v l=ps at hr hm hbk ⊢
   try simp -implicitDefEqProofs only [LM4,eq_self,Nat.zero_mul,lzS,bx_P,zal,dl,TB,SB,Int.reduceToNat,Nat.reduceAdd,Nat.reduceEqDiff,Nat.reduceLT,Nat.reduceMod,Nat.reducePow,Nat.reduceSub,if_true,reduceIte]
   rw [zaN]
   refine⟨Nat,fun j=>j≤ps.length,fun j=>[.sl (v.flatMap nC) v.length,.bot,.bot,.bot,.bot,.bot,.bot,.bot,.bot,.bot,.bot,.bot,.bot,.bot,.ref 1 0 (zbB v ps j).length 1,.bot,.bot,.bot,.bot,.bot,.bot,.bot,.bot,.bot,.bot,.bot,.bot,.bot,.bot,.bot,.bot,.bot,.bot,.bot,.bot,.bot,.bot,.bot,.bot,.bot,.bot,.bot,.bot,.bot,.bot,.bot,.bot,.bot,.ref 0 0 ps.length 1,i64 ps.length,i64 j,.bot,.bot,.bot,.bot,.bot,.bot,.bot,.bot,.bot,.bot,.bot],fun j=>[.rw (ps.map i64),.rw ((zbB v ps j).map slNs)],fun j=>ps.length - j,0,Nat.zero_le _,zbI 14 1 rfl (zab (q:=[0,1]) rfl rfl (by decide) ?_ ?_),?_⟩
   ·refine aQ19 ?_
    exact⟨by rw [zat];rfl,rfl,.inr rfl⟩
   ·refine aQ19 ?_
    simp [zao,zar,renL,zas i64 zae,zbB]
   intro j hj
   have hj:j≤ps.length:=hj
   dsimp only
   by_cases jlt:j < ps.length
   ·have dj:decide ((j:Int) < (ps.length:Int))=true:=decide_eq_true (by omega)
    obtain⟨n,hn1,hn2⟩:=hm (ps.getD j 0) (by rw [List.getD_eq_getElem?_getD,List.getElem?_eq_getElem jlt];exact List.getElem_mem jlt)
    have hst:zbB v ps (j+1)=zbB v ps j++[zaC v n]:=by unfold zbB;rw [zbT 0 jlt,List.map_append,hn1];rfl
    have hln:(zbB v ps j).length=j:=by unfold zbB;rw [List.length_map,List.length_take];omega
    try simp -implicitDefEqProofs only [LM4,eq_self,Nat.zero_mul,lzS,bx_P,zal,dj,TB,SB,Int.reduceToNat,Nat.reduceAdd,Nat.reduceEqDiff,Nat.reduceLT,Nat.reduceMod,Nat.reducePow,Nat.reduceSub,if_true,reduceIte]
    refine⟨by omega,by omega,jlt,?_⟩
    rw [hn1]
    refine(Sub_ok v n hv).pure aQ9 ?_
    rintro _ σ ⟨rfl,rfl⟩
    refine⟨by simp [AEnd.noid,AV.ren,zat],?_⟩
    refine aQ37 ?_
    refine zaQ slNs zdi rfl rfl T34 T34 (zcS _) T22 (Go.Eng.one_sl _) (l:=zbB v ps j) (ys:=[zaC v n]) (m:=1) rfl rfl rfl (by omega) (by simp only [tySl];omega) ?_
    refine aQ37 ?_
    refine⟨by unfold inI;omega,?_⟩
    rw [zac]
    refine⟨j+1,by (show j+1≤ps.length);omega,by (show ps.length - (j+1) < ps.length - j);omega,?_⟩
    rw [hst,List.length_append]
    refine zab (q:=[0,3]) rfl rfl (by decide) ?_ ?_
    ·refine aQ19 ?_
     exact⟨by rw [zat];rfl,.inr (by omega)⟩
    ·refine aQ19 ?_
     exact aQ38 trivial
   ·obtain rfl:j=ps.length:=by omega
    have dj:decide ((ps.length:Int) < (ps.length:Int))=false:=decide_eq_false (by omega)
    have hsv:zbB v ps ps.length=ps.map fun q=>zaC v q:=by rw [zbB,List.take_length]
    try simp -implicitDefEqProofs only [LM4,eq_self,Nat.zero_mul,lzS,bx_P,zal,dj,TB,SB,Int.reduceToNat,Nat.reduceAdd,Nat.reduceEqDiff,Nat.reduceLT,Nat.reduceMod,Nat.reducePow,Nat.reduceSub,if_true,reduceIte]
    rw [hsv]
    generalize ps.map (fun q=>zaC v q)=L at hr ⊢
    rw [hr]
    exact zbE [1] (.tup [.sl (L.map slNs) L.length,i64 0]) ⟨_,rfl,_,_,rfl,zeF rfl,_,_,rfl,.inl rfl,rfl⟩ ⟨[],_,[],rfl,rfl,by decide,by simp [AV.ren,renL,zaB,zae],trivial,rfl⟩
 ·have de:=decide_eq_false he
  try simp -implicitDefEqProofs only [LM4,eq_self,Nat.zero_mul,lzS,bx_P,zal,de,TB,SB,Int.reduceToNat,Nat.reduceAdd,Nat.reduceEqDiff,Nat.reduceLT,Nat.reduceMod,Nat.reducePow,Nat.reduceSub,if_true,reduceIte]
  rw [if_neg he] at hr
  rw [hr]
  refine zbE [] (.tup [.sl (([]:List (List Nd)).map slNs) 0,i64 e]) ⟨_,rfl,_,_,rfl,.inr ⟨rfl,rfl⟩,_,_,rfl,.inl rfl,rfl⟩ ⟨[],_,[],rfl,rfl,by decide,by simp [AV.ren,renL,zae],trivial,rfl⟩
end Go.Proofs.YtcahoelfogjljaaGreatDoor
end

section
namespace Go.Proofs.YtcahoelfogjljaaGreatDoor
open Go Go.Eng
def endP (v:List Nd) (p:Nat):Nat:=p+(zaC v p).length
theorem endP_gt {v:List Nd} {p:Nat} (h:zaz v=0) (hp:p < v.length):p < endP v p:=by
 obtain⟨r,hr1,hr2,hr3,hr4⟩:=zhd h hp
 rw [endP,zed h hp hr1,List.length_drop,List.length_take]
 omega
theorem ziq (v:List Nd) (p:Int):(zaC v p).length≤v.length:=by
 unfold zaC
 split
 ·rw [List.length_drop,List.length_take]
  omega
 ·exact Nat.zero_le _
def wt (v:List Nd):List Int→Nat
 | []=>0
 | q::l=>(zaC v q).length+wt v l
theorem wt_app (v:List Nd):∀ a b:List Int,wt v (a++b)=wt v a+wt v b
 | [],b=>by simp [wt]
 | q::a,b=>by rw [List.cons_append,wt,wt,wt_app v a b];omega
theorem wt_mem {v:List Nd} {q:Int}:∀ {l:List Int},q∈l→(zaC v q).length≤wt v l
 | [],h=>by cases h
 | a::l,h=>by
  rw [wt]
  rcases List.mem_cons.1 h with rfl | h
  ·omega
  ·have:=wt_mem (v:=v) h
   omega
theorem zjd {v:List Nd} {p:Nat} {r:Nat × Nat} (h:zaz v=0) (hp:p < v.length) (hr:vl v p=some r):(zaC v p).length=r.1 - p:=by
 have h1:=za6 hr
 rw [zed h hp hr,List.length_drop,List.length_take]
 omega
theorem kid_wt {v:List Nd} {p:Nat} (h:zaz v=0) (hp:p < v.length):wt v (zaA v p)≤(zaC v p).length:=by
 obtain⟨r,hr1,hr2,hr3,hr4⟩:=zhd h hp
 obtain⟨n,hK⟩:=zcm hr1
 have hg:v.getD p n0d=n:=zaJ hK.node
 rw [zjd h hp hr1]
 have key:∀ k,k≤n.kids.toNat→wt v (((List.range k).map fun k=>eAt v (decide (n.kind=5)) p k+bK (decide (n.kind=5))).map Int.ofNat)+(p+1)≤eAt v (decide (n.kind=5)) p k:=by
  intro k
  induction k with
  | zero=>intro _;simp [wt];have:=(hK.inv 0 (Nat.zero_le _)).1;omega
  | succ k ih =>
   intro hk
   have ih:=ih (by omega)
   obtain⟨r',g1,g2,_⟩:=hK.kid (k:=k) (by omega)
   have hl:=za6 g1
   have hsl:=zjd h (by omega) g1
   rw [List.range_succ,List.map_append,List.map_append,wt_app]
   simp only [List.map_cons,List.map_nil,wt]
   have e:(zaC v (Int.ofNat (eAt v (decide (n.kind=5)) p k+bK (decide (n.kind=5))))).length=r'.1 - (eAt v (decide (n.kind=5)) p k+bK (decide (n.kind=5))):=hsl
   rw [e,g2]
   omega
 have:=key n.kids.toNat (Nat.le_refl _)
 rw [hK.ends.1] at this
 have hkk:zaA v p=((List.range n.kids.toNat).map fun k=>eAt v (decide (n.kind=5)) p k+bK (decide (n.kind=5))).map Int.ofNat:=by
  rw [zaA,if_pos (zdj h hp),kidP,Int.toNat_natCast,hg]
 rw [hkk]
 omega
theorem find_wt {v:List Nd} {p:Nat} {x:Pt} {q:Int} (h:zaz v=0) (hp:p < v.length) (hf:za9 v p x=some q):(zaC v q).length≤(zaC v p).length:=by
 have hm:q∈zaA v p:=by
  have get:∀ i:Nat,i < (zaA v p).length→(zaA v p).getD i 0∈zaA v p:=fun i hi=>by
   rw [List.getD_eq_getElem?_getD,List.getElem?_eq_getElem hi]
   exact List.getElem_mem hi
  unfold za9 at hf
  split at hf
  ·rename_i hc
   cases hf
   exact get _ (by omega)
  ·split at hf
   ·rename_i hc
    cases hf
    have hb:=hc.2.2
    unfold bsF at hb
    rw [Bool.and_eq_true] at hb
    have:=of_decide_eq_true hb.1
    exact get _ (by have:=zgs v p;omega)
   ·cases hf
 exact Nat.le_trans (wt_mem hm) (kid_wt h hp)
theorem zje {v:List Nd} {x:Pt} (h:zaz v=0):∀ F:List Int,(∀ q∈F,∃ n:Nat,q=n∧n < v.length)→wt v (za3 v x F)≤wt v F
 | [],_=>Nat.le_refl _
 | f::F,hF=>by
  obtain⟨n,rfl,hn⟩:=hF f (List.mem_cons_self ..)
  have ih:=zje (x:=x) h F fun q hq=>hF q (List.mem_cons_of_mem _ hq)
  unfold za3 at ih ⊢
  rw [List.filterMap_cons,wt,Int.toNat_natCast]
  cases hf:za9 v n x with
  | none=>dsimp only;omega
  | some q =>
   have:=find_wt h hn hf
   dsimp only
   rw [wt]
   omega
theorem spreadV_wt {v:List Nd} {p:Nat} {x:Pt} (h:zaz v=0) (hp:p < v.length):wt v (zbZ v p x)≤(zaC v p).length:=by
 refine Nat.le_trans (zje h (zeO v p x) fun q hq=>from_mem hp hq) ?_
 unfold zeO
 split
 ·exact kid_wt h hp
 ·simp [wt]
theorem stepPs_wt {v:List Nd} {x:Pt} (h:zaz v=0):∀ ps:List Int,(∀ q∈ps,∃ n:Nat,q=n∧n < v.length)→wt v (zcj v x ps)≤wt v ps
 | [],_=>Nat.le_refl _
 | q::ps,hq=>by
  obtain⟨n,rfl,hn⟩:=hq q (List.mem_cons_self ..)
  have ih:=stepPs_wt (x:=x) h ps fun q hm=>hq q (List.mem_cons_of_mem _ hm)
  have:=spreadV_wt (x:=x) h hn
  unfold zcj at ih ⊢
  rw [List.flatMap_cons,wt_app,wt,Int.toNat_natCast]
  omega
theorem places_wt {v:List Nd} (h:zaz v=0) (l:List Pt):∀ k,k≤l.length→wt v (zcg v (l.take k))≤v.length
 | 0,_=>by
  have:=ziq v 0
  simp only [List.take_zero,zcg,List.foldl_nil,wt]
  omega
 | k+1,hk=>by
  have hn:=zbA h
  rw [zfU (by omega)]
  exact Nat.le_trans (stepPs_wt h _ fun q hq=>zdn hn.1 (by omega) hq) (places_wt h l k (by omega))
theorem len_wt {v:List Nd} (h:zaz v=0):∀ ps:List Int,(∀ q∈ps,∃ n:Nat,q=n∧n < v.length)→ps.length≤wt v ps
 | [],_=>Nat.le_refl _
 | q::ps,hq=>by
  obtain⟨n,rfl,hn⟩:=hq q (List.mem_cons_self ..)
  have ih:=len_wt h ps fun q hm=>hq q (List.mem_cons_of_mem _ hm)
  have hg:=endP_gt h hn
  unfold endP at hg
  rw [List.length_cons,wt]
  omega
theorem zg2 {v:List Nd} (h:zaz v=0) (l:List Pt) (k:Nat) (hk:k≤l.length):(zcg v (l.take k)).length≤v.length :=
 Nat.le_trans (len_wt h _ fun q hq=>zdn (zbA h).1 hk hq) (places_wt h l k hk)
theorem steps_none {v:List Nd} {s:List UInt8} (h:(zbe v s).2≠0):(zbe v s).1=[]:=by
 unfold zbe at h ⊢
 split
 ·rename_i he
  rw [if_pos he] at h
  rw [pathV_bad h]
 ·rfl
theorem PEachA_ok (v:List Nd) (s:List UInt8) (hv:v.length≤1000000) (hs:s.length≤9223372036854775807):ACalls Tryz.prog 27 [.sl (v.flatMap nC) v.length,str s] [] (fun y _=>y=.ret (.tup [.sl ((zcb v s).1.map slNs) (zcb v s).1.length,i64 (zcb v s).2])) :=
 PEach_ok v s hv hs fun k hk=>by
  by_cases h:(zbe v s).2=0
  ·have he:=(zem h).1
   have:=zg2 he (zbe v s).1 k hk
   have:=zbA he
   omega
  ·rw [steps_none h] at hk ⊢
   simp [zcg]
end Go.Proofs.YtcahoelfogjljaaGreatDoor
end

