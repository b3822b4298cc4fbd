/-
  Where steps lead, what stands there, nodes put in and taken away. No condition.
-/
import Derived.Test.YtamcppdhkeiaiaaGreatDoorPatF
set_option linter.unusedSimpArgs false
set_option linter.unusedVariables false
set_option linter.unusedSectionVars false
section
namespace Go.Proofs.YtamcppdhkeiaiaaGreatDoor
open Go Go.Eng
theorem cnan_ok (s:List UInt8):ACalls Tryz.prog 104 [str s] [] (fun y _=>y=.ret (bl false)):=by
 refine ACalls.body T_ok Tryz.func104 (by kernel_rfl) rfl Tryz.ntmps104 (congrArg Array.toList Tryz.results104) ?_
 try simp -implicitDefEqProofs only [LM4,eq_self,zaa,zab,Nat.zero_mul,lzS,TB,SB,Int.reduceToNat,Nat.reduceAdd,Nat.reduceEqDiff,Nat.reduceLT,Nat.reduceMod,Nat.reducePow,Nat.reduceSub,if_true,reduceIte]
 refine zaR ?_
 simp
theorem snan_ok (s:List UInt8):ACalls Tryz.prog 80 [str s] [] (fun y _=>y=.ret (bl false)):=by
 refine ACalls.body T_ok Tryz.func80 (by kernel_rfl) rfl Tryz.ntmps80 (congrArg Array.toList Tryz.results80) ?_
 try simp -implicitDefEqProofs only [LM4,eq_self,zaa,zab,Nat.zero_mul,lzS,TB,SB,Int.reduceToNat,Nat.reduceAdd,Nat.reduceEqDiff,Nat.reduceLT,Nat.reduceMod,Nat.reducePow,Nat.reduceSub,if_true,reduceIte]
 refine zaR ?_
 simp
theorem less_ok (a b:List UInt8):ACalls Tryz.prog 79 [str a,str b] [] (fun y _=>y=.ret (bl (Op.bytesLess a b))):=by
 refine ACalls.body T_ok Tryz.func79 (by kernel_rfl) rfl Tryz.ntmps79 (congrArg Array.toList Tryz.results79) ?_
 try simp -implicitDefEqProofs only [LM4,eq_self,zaa,zab,Nat.zero_mul,lzS,TB,SB,Int.reduceToNat,Nat.reduceAdd,Nat.reduceEqDiff,Nat.reduceLT,Nat.reduceMod,Nat.reducePow,Nat.reduceSub,if_true,reduceIte]
 refine(cnan_ok a).pure (by simp [renL,zai]) ?_
 rintro _ σ rfl
 refine⟨zao _ _,?_⟩
 try simp -implicitDefEqProofs only [LM4,eq_self,zaa,zab,Nat.zero_mul,lzS,TB,SB,Int.reduceToNat,Nat.reduceAdd,Nat.reduceEqDiff,Nat.reduceLT,Nat.reduceMod,Nat.reducePow,Nat.reduceSub,if_true,reduceIte]
 exact zaR rfl
def bsI (L:List (List UInt8)) (key:List UInt8):Nat→Nat→Nat→Nat
 | 0,i,_=>i
 | n+1,i,j=>if i < j then (if Op.bytesLess (L.getD ((i+j) / 2) []) key then bsI L key n ((i+j) / 2+1) j else bsI L key n i ((i+j) / 2)) else i
def bsV (L:List (List UInt8)) (key:List UInt8):Nat:=bsI L key L.length 0 L.length
def bsF (L:List (List UInt8)) (key:List UInt8):Bool:=decide (bsV L key < L.length) && decide (L.getD (bsV L key) []=key)
theorem zhv (L:List (List UInt8)) (key:List UInt8):∀ (n m i j:Nat),j - i≤n→j - i≤m→bsI L key n i j=bsI L key m i j
 | 0,0,_,_,_,_=>rfl
 | 0,m+1,i,j,h,_=>by rw [bsI,bsI,if_neg (by omega)]
 | n+1,0,i,j,_,h=>by rw [bsI,bsI,if_neg (by omega)]
 | n+1,m+1,i,j,h,g=>by
  rw [bsI,bsI]
  split
  ·split
   ·exact zhv L key n m _ _ (by omega) (by omega)
   ·exact zhv L key n m _ _ (by omega) (by omega)
  ·rfl
theorem zjp (L:List (List UInt8)) (key:List UInt8) (hL:L.length≤1000000):ACalls Tryz.prog 61 [.sl (L.map str) L.length,str key] [] (fun y _=>y=.ret (.tup [i64 (bsV L key),bl (bsF L key)])):=by
 refine ACalls.body T_ok Tryz.func61 (by kernel_rfl) rfl Tryz.ntmps61 (congrArg Array.toList Tryz.results61) ?_
 try simp -implicitDefEqProofs only [LM4,eq_self,zaa,zab,Nat.zero_mul,lzS,TB,SB,Int.reduceToNat,Nat.reduceAdd,Nat.reduceEqDiff,Nat.reduceLT,Nat.reduceMod,Nat.reducePow,Nat.reduceSub,if_true,reduceIte]
 rw [zbe]
 refine⟨Nat × Nat,fun x=>x.1≤x.2∧x.2≤L.length∧bsV L key=bsI L key (x.2 - x.1) x.1 x.2,fun x=>[.sl (L.map str) L.length,str key,.bot,.bot,.bot,.bot,i64 L.length,i64 x.1,i64 x.2,.bot,.bot,.bot,.bot,.bot,.bot,.bot,.bot,.bot,.bot,.bot,.bot,.bot,.bot,.bot,.bot,.bot,.bot,.bot,.bot,.bot,.bot,.bot,.bot,.bot,.bot,.bot,.bot,.bot,.bot,.bot,.bot,.bot,.bot,.bot,.bot,.bot,.bot,.bot,.bot,.bot,.bot,.bot,.bot,.bot],fun _=>[],fun x=>x.2 - x.1,(0,L.length),⟨Nat.zero_le _,Nat.le_refl _,rfl⟩,zaj (q:=[]) rfl rfl (by decide) ?_ ?_,?_⟩
 ·try simp only [FB,AV.ren,Nat.reduceAdd,reduceCtorEq]
  try exact⟨by rw [zak str zai];rfl,.inr rfl⟩
 ·try simp only [FB,AV.ren,Nat.reduceAdd,reduceCtorEq]
 rintro⟨i,j⟩ ⟨h1,h2,h3⟩
 dsimp only at h1 h2 h3 ⊢
 by_cases hlt:i < j
 ·have dl:decide ((i:Int) < (j:Int))=true:=decide_eq_true (by omega)
  have eh:(BitVec.ofInt 64 ((i:Int)+(j:Int)) >>> 1).toNat=(i+j) / 2:=by
   rw [show ((i:Int)+(j:Int))=((i+j:Nat):Int) by omega,BitVec.ofInt_natCast,BitVec.toNat_ushiftRight,BitVec.toNat_ofNat,Nat.shiftRight_eq_div_pow]
   omega
  have hw:IntKind.i64.wrap (((i+j) / 2:Nat):Int)=(((i+j) / 2:Nat):Int):=by
   simp [IntKind.wrap,IntKind.bits,IntKind.signed]
   omega
  try simp -implicitDefEqProofs only [LM4,eq_self,zaa,zab,Nat.zero_mul,lzS,dl,TB,SB,Int.reduceToNat,Nat.reduceAdd,Nat.reduceEqDiff,Nat.reduceLT,Nat.reduceMod,Nat.reducePow,Nat.reduceSub,if_true,reduceIte]
  refine⟨by unfold inI;omega,?_⟩
  rw [zfe,eh,hw]
  obtain⟨h,hh⟩:∃ h,h=(i+j) / 2:=⟨_,rfl⟩
  rw [← hh]
  try simp -implicitDefEqProofs only [LM4,eq_self,zaa,zab,Nat.zero_mul,lzS,TB,SB,Int.reduceToNat,Nat.reduceAdd,Nat.reduceEqDiff,Nat.reduceLT,Nat.reduceMod,Nat.reducePow,Nat.reduceSub,if_true,reduceIte]
  refine⟨by omega,by omega,by omega,?_⟩
  refine(less_ok _ _).pure (by simp [renL,zai]) ?_
  rintro _ σ rfl
  refine⟨zao _ _,?_⟩
  have hs:bsI L key (j - i) i j=if Op.bytesLess (L.getD h []) key then bsI L key (j - (h+1)) (h+1) j else bsI L key (h - i) i h:=by
   obtain⟨n,hn⟩:∃ n,j - i=n+1:=⟨j - i - 1,by omega⟩
   rw [hn,bsI,if_pos hlt,← hh]
   split
   ·exact zhv L key _ _ _ _ (by omega) (Nat.le_refl _)
   ·exact zhv L key _ _ _ _ (by omega) (Nat.le_refl _)
  cases hb:Op.bytesLess (L.getD h []) key with
  | true =>
   rw [hb,if_pos rfl] at hs
   try simp -implicitDefEqProofs only [LM4,eq_self,zaa,zab,Nat.zero_mul,lzS,TB,SB,Int.reduceToNat,Nat.reduceAdd,Nat.reduceEqDiff,Nat.reduceLT,Nat.reduceMod,Nat.reducePow,Nat.reduceSub,if_true,reduceIte]
   refine⟨by unfold inI;omega,?_⟩
   rw [zal]
   refine⟨(h+1,j),⟨by omega,h2,by rw [h3,hs]⟩,by (show j - (h+1) < j - i);omega,zaj (q:=[]) rfl rfl (by decide) ?_ ?_⟩
   ·try simp only [FB,AV.ren,Nat.reduceAdd,reduceCtorEq]
    exact⟨by rw [zak str zai];rfl,.inr (by omega)⟩
   ·try simp only [FB,AV.ren,Nat.reduceAdd,reduceCtorEq]
  | false =>
   rw [hb,if_neg (by decide)] at hs
   try simp -implicitDefEqProofs only [LM4,eq_self,zaa,zab,Nat.zero_mul,lzS,TB,SB,Int.reduceToNat,Nat.reduceAdd,Nat.reduceEqDiff,Nat.reduceLT,Nat.reduceMod,Nat.reducePow,Nat.reduceSub,if_true,reduceIte]
   rw [zal]
   refine⟨(i,h),⟨by omega,by (show h≤L.length);omega,by rw [h3,hs]⟩,by (show h - i < j - i);omega,zaj (q:=[]) rfl rfl (by decide) ?_ ?_⟩
   ·try simp only [FB,AV.ren,Nat.reduceAdd,reduceCtorEq]
    rw [zak str zai]
    rfl
   ·try simp only [FB,AV.ren,Nat.reduceAdd,reduceCtorEq]
 ·have dl:decide ((i:Int) < (j:Int))=false:=decide_eq_false (by omega)
  have hi:bsV L key=i:=by rw [h3,show j - i=0 by omega];rfl
  have hend:∀ c:Bool,c=bsF L key→∀ σ:zad,endQ 0 (.tup [i64 i,bl c]) σ (fun r _=>AEnd.ret r=.ret (.tup [i64 (bsV L key),bl (bsF L key)])):=fun c hc σ=>zax (by simp [AV.ren,renL,zag,zao]) (by rw [hc,hi])
  by_cases hin:i < L.length
  ·have d1:decide ((i:Int) < (L.length:Int))=true:=decide_eq_true (by omega)
   by_cases hk:L.getD i []=key
   ·have d2:=decide_eq_true hk
    try simp -implicitDefEqProofs only [LM4,eq_self,zaa,zab,Nat.zero_mul,lzS,dl,d1,TB,SB,Int.reduceToNat,Nat.reduceAdd,Nat.reduceEqDiff,Nat.reduceLT,Nat.reduceMod,Nat.reducePow,Nat.reduceSub,if_true,reduceIte]
    refine⟨by omega,by omega,hin,?_⟩
    rw [d2]
    try simp -implicitDefEqProofs only [LM4,eq_self,zaa,zab,Nat.zero_mul,lzS,TB,SB,Int.reduceToNat,Nat.reduceAdd,Nat.reduceEqDiff,Nat.reduceLT,Nat.reduceMod,Nat.reducePow,Nat.reduceSub,if_true,reduceIte]
    exact hend _ (by rw [bsF,hi,decide_eq_true hin,decide_eq_true hk];rfl) _
   ·have d2:=decide_eq_false hk
    try simp -implicitDefEqProofs only [LM4,eq_self,zaa,zab,Nat.zero_mul,lzS,dl,d1,TB,SB,Int.reduceToNat,Nat.reduceAdd,Nat.reduceEqDiff,Nat.reduceLT,Nat.reduceMod,Nat.reducePow,Nat.reduceSub,if_true,reduceIte]
    refine⟨by omega,by omega,hin,?_⟩
    rw [d2]
    try simp -implicitDefEqProofs only [LM4,eq_self,zaa,zab,Nat.zero_mul,lzS,TB,SB,Int.reduceToNat,Nat.reduceAdd,Nat.reduceEqDiff,Nat.reduceLT,Nat.reduceMod,Nat.reducePow,Nat.reduceSub,if_true,reduceIte]
    refine⟨by omega,by omega,hin,?_⟩
    refine(snan_ok _).pure (by simp [renL,zai]) ?_
    rintro _ σ rfl
    refine⟨zao _ _,?_⟩
    try simp -implicitDefEqProofs only [LM4,eq_self,zaa,zab,Nat.zero_mul,lzS,TB,SB,Int.reduceToNat,Nat.reduceAdd,Nat.reduceEqDiff,Nat.reduceLT,Nat.reduceMod,Nat.reducePow,Nat.reduceSub,if_true,reduceIte]
    exact hend _ (by rw [bsF,hi,decide_eq_false hk,Bool.and_false]) _
  ·have d1:decide ((i:Int) < (L.length:Int))=false:=decide_eq_false (by omega)
   try simp -implicitDefEqProofs only [LM4,eq_self,zaa,zab,Nat.zero_mul,lzS,dl,d1,TB,SB,Int.reduceToNat,Nat.reduceAdd,Nat.reduceEqDiff,Nat.reduceLT,Nat.reduceMod,Nat.reducePow,Nat.reduceSub,if_true,reduceIte]
   exact hend _ (by rw [bsF,hi,decide_eq_false hin,Bool.false_and]) _
end Go.Proofs.YtamcppdhkeiaiaaGreatDoor
end

section
namespace Go.Proofs.YtamcppdhkeiaiaaGreatDoor
open Go Go.Eng
set_option linter.defProp false in
def LM2:=And.intro LB0 (And.intro LB1 (And.intro LB2 (And.intro LB4 (And.intro LB5 (And.intro LB6 (And.intro LB9 (And.intro LB12 (And.intro LB13 (And.intro LB14 (And.intro LB15 (And.intro LB16 (And.intro LB17 (LB18)))))))))))))
def kdOf (v:List Nd) (p:Nat):Int:=(v.getD p n0d).kind
def zcB (v:List Nd) (p:Nat) (x:Pt):Option Int :=
 if kdOf v p=4∧0≤x.pos∧x.pos < (za1 v p).length then some ((za1 v p).getD x.pos.toNat 0)
 else if kdOf v p=5∧x.pos < 0∧bsF (zaU v p) x.key=true then some ((za1 v p).getD (bsV (zaU v p) x.key) 0) else none
def optI:Option Int→AV
 | some q=>.tup [i64 q,bl true]
 | none=>.tup [i64 0,bl false]
theorem zfm (v:List Nd) (p:Nat):(zaU v p).length≤(za1 v p).length:=by
 unfold zaU za1
 split
 ·rename_i h
  rw [Bool.and_eq_true] at h
  rw [if_pos h.1]
  simp [kidP]
 ·exact Nat.zero_le _
theorem zhw (v:List Nd) (p:Int) (hv:v.length≤1000000):(za1 v p).length≤1000000:=by
 unfold za1
 split
 ·rename_i h
  obtain⟨h0,hp0,hp1⟩:=zej h
  obtain⟨r,hr1,hr2,hr3,hr4⟩:=zeQ h0 (p:=p.toNat) (by omega)
  obtain⟨n,hK⟩:=zcU hr1
  have f:=hK.few
  have hg:v.getD p.toNat n0d=n:=za2 hK.node
  rw [List.length_map,kidP,List.length_map,List.length_range,hg]
  omega
 ·simp
theorem zfn {v:List Nd} {p:Nat} {x:Pt} (h:zcB v p x=none) (σ:zad):endQ 0 (.tup [i64 0,bl false]) σ (fun r _=>AEnd.ret r=.ret (optI (zcB v p x))):=zax (by simp [AV.ren,renL,zag,zao]) (by rw [h];rfl)
theorem zj8 (v:List Nd) (p:Nat) (x:Pt) (hv:v.length≤1000000) (hp:p < v.length):ACalls Tryz.prog 45 [.sl (v.flatMap nC) v.length,i64 p,ptA x] [] (fun y _=>y=.ret (optI (zcB v p x))):=by
 have hkl:=zhw v p hv
 have hkk:=zfm v p
 rw [zeV]
 obtain⟨xk,xp⟩:=x
 refine ACalls.body T_ok Tryz.func45 (by kernel_rfl) rfl Tryz.ntmps45 (congrArg Array.toList Tryz.results45) ?_
 try simp -implicitDefEqProofs only [LM2,eq_self,zaa,zab,Nat.zero_mul,lzS,TB,SB,Int.reduceToNat,Nat.reduceAdd,Nat.reduceEqDiff,Nat.reduceLT,Nat.reduceMod,Nat.reducePow,Nat.reduceSub,if_true,reduceIte]
 refine(Kids_ok v p hv).pure (by simp [renL,AV.ren,zaJ,zap,zag]) ?_
 rintro _ σ ⟨rfl,rfl⟩
 refine⟨by simp [AEnd.noid,AV.ren,zak i64 zag],?_⟩
 try simp -implicitDefEqProofs only [LM2,eq_self,zaa,zab,Nat.zero_mul,lzS,TB,SB,Int.reduceToNat,Nat.reduceAdd,Nat.reduceEqDiff,Nat.reduceLT,Nat.reduceMod,Nat.reducePow,Nat.reduceSub,if_true,reduceIte]
 refine⟨by omega,by omega,Nat.le_refl _,hp,?_⟩
 by_cases k4:(v.getD p n0d).kind=4
 ·have d4:=decide_eq_true k4
  have d5:decide ((v.getD p n0d).kind=5)=false:=decide_eq_false (by omega)
  have n5:¬ kdOf v p=5:=by unfold kdOf;omega
  rw [d4]
  by_cases x0:0≤xp
  ·obtain⟨u,rfl⟩:=Int.eq_ofNat_of_zero_le x0
   by_cases x1:(u:Int) < ((za1 v p).length:Int)
   ·have dx1:=decide_eq_true x1
    have hf:zcB v p ⟨xk,u⟩=some ((za1 v p).getD u 0):=by rw [zcB,if_pos ⟨k4,x0,x1⟩];rfl
    try simp -implicitDefEqProofs only [LM2,eq_self,zaa,zab,Nat.zero_mul,lzS,decide_eq_true x0,dx1,TB,SB,Int.reduceToNat,Nat.reduceAdd,Nat.reduceEqDiff,Nat.reduceLT,Nat.reduceMod,Nat.reducePow,Nat.reduceSub,if_true,reduceIte]
    refine⟨by omega,by omega,by omega,?_⟩
    exact zax (by simp [AV.ren,renL,zag,zao]) (by rw [hf];rfl)
   ·have dx1:=decide_eq_false x1
    have hf:zcB v p ⟨xk,u⟩=none:=by rw [zcB,if_neg (fun h=>x1 h.2.2),if_neg (fun h=>n5 h.1)]
    try simp -implicitDefEqProofs only [LM2,eq_self,zaa,zab,Nat.zero_mul,lzS,decide_eq_true x0,dx1,TB,SB,Int.reduceToNat,Nat.reduceAdd,Nat.reduceEqDiff,Nat.reduceLT,Nat.reduceMod,Nat.reducePow,Nat.reduceSub,if_true,reduceIte]
    refine⟨by omega,by omega,Nat.le_refl _,hp,?_⟩
    rw [d5]
    try simp -implicitDefEqProofs only [LM2,eq_self,zaa,zab,Nat.zero_mul,lzS,TB,SB,Int.reduceToNat,Nat.reduceAdd,Nat.reduceEqDiff,Nat.reduceLT,Nat.reduceMod,Nat.reducePow,Nat.reduceSub,if_true,reduceIte]
    exact zfn hf _
  ·have dx:=decide_eq_false x0
   have hf:zcB v p ⟨xk,xp⟩=none:=by rw [zcB,if_neg (fun h=>x0 h.2.1),if_neg (fun h=>n5 h.1)]
   try simp -implicitDefEqProofs only [LM2,eq_self,zaa,zab,Nat.zero_mul,lzS,dx,TB,SB,Int.reduceToNat,Nat.reduceAdd,Nat.reduceEqDiff,Nat.reduceLT,Nat.reduceMod,Nat.reducePow,Nat.reduceSub,if_true,reduceIte]
   refine⟨by omega,by omega,Nat.le_refl _,hp,?_⟩
   rw [d5]
   try simp -implicitDefEqProofs only [LM2,eq_self,zaa,zab,Nat.zero_mul,lzS,TB,SB,Int.reduceToNat,Nat.reduceAdd,Nat.reduceEqDiff,Nat.reduceLT,Nat.reduceMod,Nat.reducePow,Nat.reduceSub,if_true,reduceIte]
   exact zfn hf _
 ·have d4:=decide_eq_false k4
  have n4:¬ kdOf v p=4:=by unfold kdOf;exact k4
  rw [d4]
  try simp -implicitDefEqProofs only [LM2,eq_self,zaa,zab,Nat.zero_mul,lzS,TB,SB,Int.reduceToNat,Nat.reduceAdd,Nat.reduceEqDiff,Nat.reduceLT,Nat.reduceMod,Nat.reducePow,Nat.reduceSub,if_true,reduceIte]
  refine⟨by omega,by omega,Nat.le_refl _,hp,?_⟩
  by_cases k5:(v.getD p n0d).kind=5
  ·have d5:=decide_eq_true k5
   rw [d5]
   by_cases x0:xp < 0
   ·have hK:ACalls Tryz.prog 62 [.sl (v.flatMap nC) v.length,i64 p] [] (fun y _=>y=.ret (.sl ((zaU v p).map str) (zaU v p).length)):=(Keys_ok v p hv).mono fun _ _ h=>h.1
    try simp -implicitDefEqProofs only [LM2,eq_self,zaa,zab,Nat.zero_mul,lzS,decide_eq_true x0,TB,SB,Int.reduceToNat,Nat.reduceAdd,Nat.reduceEqDiff,Nat.reduceLT,Nat.reduceMod,Nat.reducePow,Nat.reduceSub,if_true,reduceIte]
    refine zdK (by kernel_rfl) (by kernel_rfl) ?_
    try simp -implicitDefEqProofs only [LM2,eq_self,zaa,zab,Nat.zero_mul,lzS,TB,SB,Int.reduceToNat,Nat.reduceAdd,Nat.reduceEqDiff,Nat.reduceLT,Nat.reduceMod,Nat.reducePow,Nat.reduceSub,if_true,reduceIte]
    refine zeP hK (by simp [renL,AV.ren,zaJ,zap,zag]) (by simp [AEnd.noid,AV.ren,zak str zai]) ?_
    try simp -implicitDefEqProofs only [LM2,eq_self,zaa,zab,Nat.zero_mul,lzS,TB,SB,Int.reduceToNat,Nat.reduceAdd,Nat.reduceEqDiff,Nat.reduceLT,Nat.reduceMod,Nat.reducePow,Nat.reduceSub,if_true,reduceIte]
    refine zeP (zjp (zaU v p) xk (by omega)) (by first | rfl | simp [LB7,renL,AV.ren,zak u32 zaz,zak u64 zay]) (by first | rfl | simp [LB7,AEnd.noid,renL,AV.ren,zak u32 zaz,zak u64 zay]) ?_
    try simp -implicitDefEqProofs only [LM2,eq_self,zaa,zab,Nat.zero_mul,lzS,TB,SB,Int.reduceToNat,Nat.reduceAdd,Nat.reduceEqDiff,Nat.reduceLT,Nat.reduceMod,Nat.reducePow,Nat.reduceSub,if_true,reduceIte]
    cases hb:bsF (zaU v p) xk with
    | false =>
     have hf:zcB v p ⟨xk,xp⟩=none:=by rw [zcB,if_neg (fun h=>n4 h.1),if_neg (fun h=>by rw [hb] at h;cases h.2.2)]
     try simp -implicitDefEqProofs only [LM2,eq_self,zaa,zab,Nat.zero_mul,lzS,TB,SB,Int.reduceToNat,Nat.reduceAdd,Nat.reduceEqDiff,Nat.reduceLT,Nat.reduceMod,Nat.reducePow,Nat.reduceSub,if_true,reduceIte]
     exact zfn hf _
    | true =>
     have hf:zcB v p ⟨xk,xp⟩=some ((za1 v p).getD (bsV (zaU v p) xk) 0):=by rw [zcB,if_neg (fun h=>n4 h.1),if_pos ⟨k5,x0,hb⟩]
     have hlt:bsV (zaU v p) xk < (zaU v p).length:=by
      unfold bsF at hb
      rw [Bool.and_eq_true] at hb
      exact of_decide_eq_true hb.1
     try simp -implicitDefEqProofs only [LM2,eq_self,zaa,zab,Nat.zero_mul,lzS,TB,SB,Int.reduceToNat,Nat.reduceAdd,Nat.reduceEqDiff,Nat.reduceLT,Nat.reduceMod,Nat.reducePow,Nat.reduceSub,if_true,reduceIte]
     refine⟨by omega,by omega,by omega,?_⟩
     exact zax (by simp [AV.ren,renL,zag,zao]) (by rw [hf];rfl)
   ·have dx:=decide_eq_false x0
    have hf:zcB v p ⟨xk,xp⟩=none:=by rw [zcB,if_neg (fun h=>n4 h.1),if_neg (fun h=>x0 h.2.1)]
    try simp -implicitDefEqProofs only [LM2,eq_self,zaa,zab,Nat.zero_mul,lzS,dx,TB,SB,Int.reduceToNat,Nat.reduceAdd,Nat.reduceEqDiff,Nat.reduceLT,Nat.reduceMod,Nat.reducePow,Nat.reduceSub,if_true,reduceIte]
    exact zfn hf _
  ·have d5:=decide_eq_false k5
   have hf:zcB v p ⟨xk,xp⟩=none:=by rw [zcB,if_neg (fun h=>n4 h.1),if_neg (fun h=>k5 h.1)]
   rw [d5]
   try simp -implicitDefEqProofs only [LM2,eq_self,zaa,zab,Nat.zero_mul,lzS,TB,SB,Int.reduceToNat,Nat.reduceAdd,Nat.reduceEqDiff,Nat.reduceLT,Nat.reduceMod,Nat.reducePow,Nat.reduceSub,if_true,reduceIte]
   exact zfn hf _
end Go.Proofs.YtamcppdhkeiaiaaGreatDoor
end

section
namespace Go.Proofs.YtamcppdhkeiaiaaGreatDoor
open Go Go.Eng
theorem zhx {v:List Nd} {p:Int} {q:Int} (h:q∈za1 v p):∃ n:Nat,q=n∧n < v.length:=by
 unfold za1 at h
 split at h
 ·rename_i h0
  obtain⟨h0,hp0,hp1⟩:=zej h0
  obtain⟨r,hr1,hr2,hr3,hr4⟩:=zeQ h0 (p:=p.toNat) (by omega)
  obtain⟨n,hK⟩:=zcU hr1
  have hg:v.getD p.toNat n0d=n:=za2 hK.node
  rw [List.mem_map] at h
  obtain⟨m,hm,rfl⟩:=h
  refine⟨m,rfl,?_⟩
  rw [kidP,List.mem_map,hg] at hm
  obtain⟨k,hk,rfl⟩:=hm
  rw [List.mem_range] at hk
  obtain⟨r',g1,_⟩:=hK.kid hk
  obtain⟨m,g⟩:=zcU g1
  exact g.few.2.2.2
 ·cases h
theorem find_lt {v:List Nd} {p:Nat} {x:Pt} {q:Int} (h:zcB v p x=some q):∃ n:Nat,q=n∧n < v.length:=by
 have get:∀ i:Nat,i < (za1 v p).length→∃ n:Nat,(za1 v p).getD i 0=n∧n < v.length:=fun i hi=>by
  rw [List.getD_eq_getElem?_getD,List.getElem?_eq_getElem hi]
  exact zhx (List.getElem_mem hi)
 unfold zcB at h
 split at h
 ·rename_i hc
  cases h
  exact get _ (by omega)
 ·split at h
  ·rename_i hc
   cases h
   have hb:=hc.2.2
   unfold bsF at hb
   rw [Bool.and_eq_true] at hb
   have:=of_decide_eq_true hb.1
   exact get _ (by have:=zfm v p;omega)
  ·cases h
def zcr (v:List Nd) (p:Nat) (x:Pt):Option Nat:=(zcB v p x).map Int.toNat
theorem findN_lt {v:List Nd} {p:Nat} {x:Pt} {q:Nat} (h:zcr v p x=some q):q < v.length:=by
 unfold zcr at h
 cases hf:zcB v p x with
 | none=>rw [hf] at h;cases h
 | some n =>
  rw [hf] at h
  obtain⟨m,rfl,hm⟩:=find_lt hf
  cases h
  exact hm
def optN:Option Nat→AV
 | some q=>.tup [i64 q,bl true]
 | none=>.tup [i64 0,bl false]
theorem optN_find (v:List Nd) (p:Nat) (x:Pt):optN (zcr v p x)=optI (zcB v p x):=by
 unfold zcr
 cases hf:zcB v p x with
 | none=>rfl
 | some n =>
  obtain⟨m,rfl,hm⟩:=find_lt hf
  rfl
theorem zj9 (o:Option Nat):optN o=.tup [i64 ((o.getD 0:Nat):Int),bl o.isSome]:=by cases o <;> rfl
theorem zka (v:List Nd) (p:Nat) (x:Pt) (hv:v.length≤1000000) (hp:p < v.length):ACalls Tryz.prog 45 [.sl (v.flatMap nC) v.length,i64 p,ptA x] [] (fun y _=>y=.ret (.tup [i64 (((zcr v p x).getD 0:Nat):Int),bl (zcr v p x).isSome])):=by
 rw [← zj9,optN_find]
 exact zj8 v p x hv hp
def zcw (v:List Nd) (o:Option Nat) (l:List Pt):Option Nat:=l.foldl (fun o x=>o.bind fun p=>zcr v p x) o
def atS (v:List Nd) (o:Option Nat):zad:=[.rw [.sl (v.flatMap nC) v.length],.rw [i64 ((o.getD 0:Nat):Int)],.rw [bl o.isSome]]
theorem lead1_ok (v:List Nd) (p:Nat) (x:Pt) (hv:v.length≤1000000) (hp:p < v.length):ACalls Tryz.prog 44 [ptA x,.ptr 0 0,.ptr 1 0,.ptr 2 0] (atS v (some p)) (fun y σ=>y=.ret (.tup [])∧σ=atS v (zcr v p x)):=by
 have hf:=zka v p x hv hp
 generalize zcr v p x=o at hf ⊢
 unfold atS
 rw [zeV] at hf ⊢
 refine ACalls.body T_ok Tryz.func44 (by kernel_rfl) rfl Tryz.ntmps44 (congrArg Array.toList Tryz.results44) ?_
 try simp -implicitDefEqProofs only [LM2,eq_self,zaa,zab,Nat.zero_mul,lzS,TB,SB,Int.reduceToNat,Nat.reduceAdd,Nat.reduceEqDiff,Nat.reduceLT,Nat.reduceMod,Nat.reducePow,Nat.reduceSub,if_true,reduceIte]
 refine hf.pure (by simp [renL,AV.ren,zaJ,zap,zag,zai]) ?_
 rintro _ σ rfl
 refine⟨by simp [AEnd.noid,AV.ren,renL,zag,zao],?_⟩
 try simp -implicitDefEqProofs only [LM2,eq_self,zaa,zab,Nat.zero_mul,lzS,TB,SB,Int.reduceToNat,Nat.reduceAdd,Nat.reduceEqDiff,Nat.reduceLT,Nat.reduceMod,Nat.reducePow,Nat.reduceSub,if_true,reduceIte]
 refine .inl ⟨[0,1,2],.tup [],[.rw [.sl (v.flatMap nC) v.length],.rw [i64 ((o.getD 0:Nat):Int)],.rw [bl o.isSome]],rfl,rfl,by decide,by simp [AV.ren,renL],?_,rfl,rfl⟩
 simp [zah,zaG,renL,zaJ,zap,AV.ren,zag,zao]
theorem lead_take {v:List Nd} {l:List Pt} {k:Nat} (hk:k < l.length):zcw v (some 0) (l.take (k+1))=(zcw v (some 0) (l.take k)).bind fun p=>zcr v p (l.getD k pt0):=by
 rw [zfl pt0 hk]
 unfold zcw
 rw [List.foldl_append]
 rfl
theorem zkb {v:List Nd} (h0:0 < v.length):∀ (l:List Pt) (o:Option Nat),(∀ p,o=some p→p < v.length)→∀ p,zcw v o l=some p→p < v.length
 | [],_,ho,p,h=>ho p h
 | x::l,o,ho,p,h=>zkb h0 l (o.bind fun p=>zcr v p x) (fun q hq=>by
   cases o with
   | none=>cases hq
   | some a=>exact findN_lt hq) p h
theorem lead_ok (v:List Nd) (l:List Pt) (hv:v.length≤1000000) (h0:0 < v.length) (hl:l.length≤1000000):ACalls Tryz.prog 32 [.sl (v.flatMap nC) v.length,.sl (l.flatMap ptC) l.length] [] (fun y _=>y=.ret (optN (zcw v (some 0) l))):=by
 refine ACalls.body T_ok Tryz.func32 (by kernel_rfl) rfl Tryz.ntmps32 (congrArg Array.toList Tryz.results32) ?_
 try simp -implicitDefEqProofs only [LM2,eq_self,zaa,zab,Nat.zero_mul,lzS,TB,SB,Int.reduceToNat,Nat.reduceAdd,Nat.reduceEqDiff,Nat.reduceLT,Nat.reduceMod,Nat.reducePow,Nat.reduceSub,if_true,reduceIte]
 rw [zbe]
 refine⟨Nat,fun k=>k≤l.length,fun k=>[.sl (v.flatMap nC) v.length,.sl (l.flatMap ptC) l.length,.ptr 0 0,.bot,.bot,.bot,.ptr 1 0,.ptr 2 0,.fn (.func 44) [] [.ptr 0 0,.ptr 1 0,.ptr 2 0],.bot,.bot,.bot,.sl (l.flatMap ptC) l.length,i64 l.length,i64 k,.bot,.bot,.bot,.bot,.bot,.bot,.bot,.bot,.bot,.bot],fun k=>atS v (zcw v (some 0) (l.take k)),fun k=>l.length - k,0,Nat.zero_le _,?_,?_⟩
 ·refine zct ?_
  try simp only [LB3,List.getElem?_cons_zero,true_and,and_true,or_true,true_or,reduceCtorEq,false_or]
  try exact .inr rfl
 ·intro k hk
  have hk:k≤l.length:=hk
  dsimp only
  by_cases hlt:k < l.length
  ·have dl:decide ((k:Int) < (l.length:Int))=true:=decide_eq_true (by omega)
   have ht:=lead_take (v:=v) hlt
   have hb:=zkb h0 (l.take k) (some 0) (fun p hp=>by cases hp;exact h0)
   generalize zcw v (some 0) (l.take k)=o at ht hb ⊢
   unfold atS
   try simp -implicitDefEqProofs only [LM2,eq_self,zaa,zab,Nat.zero_mul,lzS,dl,TB,SB,Int.reduceToNat,Nat.reduceAdd,Nat.reduceEqDiff,Nat.reduceLT,Nat.reduceMod,Nat.reducePow,Nat.reduceSub,if_true,reduceIte]
   refine⟨by omega,by omega,Nat.le_refl _,hlt,?_⟩
   cases o with
   | none =>
    try simp -implicitDefEqProofs only [LM2,eq_self,zaa,zab,Nat.zero_mul,lzS,Option.isSome_none,TB,SB,Int.reduceToNat,Nat.reduceAdd,Nat.reduceEqDiff,Nat.reduceLT,Nat.reduceMod,Nat.reducePow,Nat.reduceSub,if_true,reduceIte]
    refine⟨by unfold inI;omega,?_⟩
    rw [zal]
    refine⟨k+1,by (show k+1≤l.length);omega,by (show l.length - (k+1) < l.length - k);omega,?_⟩
    rw [ht]
    refine zaj (q:=[0,1,2]) rfl rfl (by decide) ?_ ?_
    ·try simp only [FB,AV.ren,Nat.reduceAdd,reduceCtorEq]
     exact⟨by rw [zap];rfl,by rw [zbv];rfl,rfl,by rw [zbv];rfl,.inr (by omega)⟩
    ·try simp only [FB,AV.ren,Nat.reduceAdd,reduceCtorEq]
     simp [zah,zaG,renL,zaJ,zap,AV.ren,zag,zao]
   | some p =>
    have hc:=lead1_ok v p (l.getD k pt0) hv (hb p rfl)
    unfold atS at hc
    rw [zeV] at hc
    have ht2:zcw v (some 0) (l.take (k+1))=zcr v p (l.getD k pt0):=ht
    try simp -implicitDefEqProofs only [LM2,eq_self,zaa,zab,Nat.zero_mul,lzS,Option.isSome_some,Option.getD_some,TB,SB,Int.reduceToNat,Nat.reduceAdd,Nat.reduceEqDiff,Nat.reduceLT,Nat.reduceMod,Nat.reducePow,Nat.reduceSub,if_true,reduceIte]
    refine ACalls.frame ([0,1,2]) (hc) rfl (by decide) (by simp [LM1,LB20,zah,zae,renL,AV.ren,AEnd.ren,zaf,mbF.fren,zac,List.getElem?_cons_zero,List.getElem?_cons_succ]) (by first | rfl | simp [LM1,LB20,zah,zae,renL,AV.ren,AEnd.ren,zaf,mbF.fren,zac,List.getElem?_cons_zero,List.getElem?_cons_succ]) ?_
    rintro _ _ ⟨rfl,rfl⟩
    refine⟨.ret (.tup []),[.rw [.sl (v.flatMap nC) v.length],.rw [i64 (((zcr v p (l.getD k pt0)).getD 0:Nat):Int)],.rw [bl (zcr v p (l.getD k pt0)).isSome],.rw [str (l.getD k pt0).key,i64 (l.getD k pt0).pos]],(by show zae _ _ ([0,1,2,3]) ([0,1,2,3]) 0 _;simp [LM1,LB20,zah,zae,renL,AV.ren,AEnd.ren,zaf,mbF.fren,zac,List.getElem?_cons_zero,List.getElem?_cons_succ]),(by show AEnd.ren ([0,1,2,3]) _ _;first | rfl | simp [LM1,LB20,zah,zae,renL,AV.ren,AEnd.ren,zaf,mbF.fren,zac,List.getElem?_cons_zero,List.getElem?_cons_succ]),?_⟩
    try simp -implicitDefEqProofs only [LM2,eq_self,zaa,zab,Nat.zero_mul,lzS,TB,SB,Int.reduceToNat,Nat.reduceAdd,Nat.reduceEqDiff,Nat.reduceLT,Nat.reduceMod,Nat.reducePow,Nat.reduceSub,if_true,reduceIte]
    refine⟨by unfold inI;omega,?_⟩
    rw [zal]
    refine⟨k+1,by (show k+1≤l.length);omega,by (show l.length - (k+1) < l.length - k);omega,?_⟩
    rw [ht2]
    refine zaj (q:=[0,1,2]) rfl rfl (by decide) ?_ ?_
    ·try simp only [FB,AV.ren,Nat.reduceAdd,reduceCtorEq]
     exact⟨by rw [zap];rfl,by rw [zbv];rfl,rfl,by rw [zbv];rfl,.inr (by omega)⟩
    ·try simp only [FB,AV.ren,Nat.reduceAdd,reduceCtorEq]
     simp [zah,zaG,renL,zaJ,zap,AV.ren,zag,zao]
  ·obtain rfl:k=l.length:=by omega
   have dl:decide ((l.length:Int) < (l.length:Int))=false:=decide_eq_false (by omega)
   rw [List.take_length]
   unfold atS
   try simp -implicitDefEqProofs only [LM2,eq_self,zaa,zab,Nat.zero_mul,lzS,dl,TB,SB,Int.reduceToNat,Nat.reduceAdd,Nat.reduceEqDiff,Nat.reduceLT,Nat.reduceMod,Nat.reducePow,Nat.reduceSub,if_true,reduceIte]
   refine zdK (by kernel_rfl) (by kernel_rfl) ?_
   try simp -implicitDefEqProofs only [LM2,eq_self,zaa,zab,Nat.zero_mul,lzS,TB,SB,Int.reduceToNat,Nat.reduceAdd,Nat.reduceEqDiff,Nat.reduceLT,Nat.reduceMod,Nat.reducePow,Nat.reduceSub,if_true,reduceIte]
   refine zax (by simp [AV.ren,renL,zag,zao]) (by rw [zj9])
end Go.Proofs.YtamcppdhkeiaiaaGreatDoor
end

section
namespace Go.Proofs.YtamcppdhkeiaiaaGreatDoor
open Go Go.Eng
theorem zeq {σ:zad}:frzA σ (.lit (.slice none 0 0)) (slN []):=.inr ⟨rfl,rfl⟩
theorem zcp (q:List Nat) (l:List Nd):(slN l).ren q=some (slN l):=zjN q l _
theorem zdR {σ:zad} {a:AV} {l:List Nd} {e:Int} {K:AV→zad→Prop} (ids:List Nat) (h:frzA (zeX σ ids) a (slN l)) (hK:K (.tup [slN l,i64 e]) []):endQ 0 (.tup [a,i64 e]) σ K :=
 zgl ids (.tup [slN l,i64 e]) ⟨_,rfl,_,_,rfl,h,_,_,rfl,.inl rfl,rfl⟩ ⟨[],.tup [slN l,i64 e],[],rfl,rfl,by decide,by simp [AV.ren,renL,zcp,zag],trivial,hK⟩
theorem zdc {l:List Nd} (h:zaI l=0):0 < l.length∧l.length≤120:=by
 unfold zaI at h
 split at h
 ·cases h
 ·rename_i h1
  split at h
  ·rename_i r hr
   obtain⟨n,hK⟩:=zcU hr
   have:=hK.few
   omega
  ·cases h
def zaV (v:List Nd) (s:List UInt8):List Pt × Int:=if zaI v=0 then zcz s else ([],zaI v)
theorem zhy (v:List Nd) (s:List UInt8) (hv:v.length≤1000000) (hs:s.length≤9223372036854775807):ACalls Tryz.prog 31 [.sl (v.flatMap nC) v.length,str s] [] (fun y _=>y=.ret (.tup [slP (zaV v s).1,i64 (zaV v s).2])):=by
 refine ACalls.body T_ok Tryz.func31 (by kernel_rfl) rfl Tryz.ntmps31 (congrArg Array.toList Tryz.results31) ?_
 try simp -implicitDefEqProofs only [LM2,eq_self,zaa,zab,Nat.zero_mul,lzS,TB,SB,Int.reduceToNat,Nat.reduceAdd,Nat.reduceEqDiff,Nat.reduceLT,Nat.reduceMod,Nat.reducePow,Nat.reduceSub,if_true,reduceIte]
 refine(zeH v hv).pure (by simp [renL,AV.ren,zaJ,zap]) ?_
 rintro _ σ ⟨rfl,rfl⟩
 refine⟨zag _ _,?_⟩
 by_cases he:zaI v=0
 ·have de:=decide_eq_true he
  try simp -implicitDefEqProofs only [LM2,eq_self,zaa,zab,Nat.zero_mul,lzS,de,TB,SB,Int.reduceToNat,Nat.reduceAdd,Nat.reduceEqDiff,Nat.reduceLT,Nat.reduceMod,Nat.reducePow,Nat.reduceSub,if_true,reduceIte]
  refine(zhu s hs).pure (by simp [renL,zai]) ?_
  rintro _ σ rfl
  refine⟨by simp [AEnd.noid,AV.ren,renL,zb8,zag],?_⟩
  try simp -implicitDefEqProofs only [LM2,eq_self,zaa,zab,Nat.zero_mul,lzS,TB,SB,Int.reduceToNat,Nat.reduceAdd,Nat.reduceEqDiff,Nat.reduceLT,Nat.reduceMod,Nat.reducePow,Nat.reduceSub,if_true,reduceIte]
  exact end_P (l:=(zcz s).1) [] rfl (by rw [zaV,if_pos he])
 ·have de:=decide_eq_false he
  try simp -implicitDefEqProofs only [LM2,eq_self,zaa,zab,Nat.zero_mul,lzS,de,TB,SB,Int.reduceToNat,Nat.reduceAdd,Nat.reduceEqDiff,Nat.reduceLT,Nat.reduceMod,Nat.reducePow,Nat.reduceSub,if_true,reduceIte]
  exact end_P [] frz_nP (by rw [zaV,if_neg he])
def getR (v:List Nd) (s:List UInt8):List Nd × Int:=if (zaV v s).2=0 then (match zcw v (some 0) (zaV v s).1 with | some p=>(zcO v p,0) | none=>([],6)) else ([],(zaV v s).2)
theorem zgC {v:List Nd} {s:List UInt8} (h:(zaV v s).2=0):zaI v=0∧zaV v s=zcz s:=by
 unfold zaV at h ⊢
 split at h
 ·rename_i he
  exact⟨he,by rw [if_pos he]⟩
 ·rename_i he
  exact absurd h he
theorem zfC (v:List Nd) (s:List UInt8):(zaV v s).1.length≤120:=by
 unfold zaV
 split
 ·exact ziH s
 ·exact Nat.zero_le _
theorem ziI (v:List Nd) (s:List UInt8) (hv:v.length≤1000000) (hs:s.length≤9223372036854775807):ACalls Tryz.prog 15 [.sl (v.flatMap nC) v.length,str s] [] (fun y _=>y=.ret (.tup [slN (getR v s).1,i64 (getR v s).2])):=by
 refine ACalls.body T_ok Tryz.func15 (by kernel_rfl) rfl Tryz.ntmps15 (congrArg Array.toList Tryz.results15) ?_
 try simp -implicitDefEqProofs only [LM2,eq_self,zaa,zab,Nat.zero_mul,lzS,TB,SB,Int.reduceToNat,Nat.reduceAdd,Nat.reduceEqDiff,Nat.reduceLT,Nat.reduceMod,Nat.reducePow,Nat.reduceSub,if_true,reduceIte]
 refine(zhy v s hv hs).pure (by simp [renL,AV.ren,zaJ,zap,zai]) ?_
 rintro _ σ rfl
 refine⟨by simp [AEnd.noid,AV.ren,renL,zb8,zag],?_⟩
 rw [ziy]
 by_cases he:(zaV v s).2=0
 ·have de:=decide_eq_true he
  have hn:=zdc (zgC he).1
  have hl:=zfC v s
  have hg:getR v s=match zcw v (some 0) (zaV v s).1 with | some p=>(zcO v p,0) | none=>([],6):=by rw [getR,if_pos he]
  try simp -implicitDefEqProofs only [LM2,eq_self,zaa,zab,Nat.zero_mul,lzS,de,TB,SB,Int.reduceToNat,Nat.reduceAdd,Nat.reduceEqDiff,Nat.reduceLT,Nat.reduceMod,Nat.reducePow,Nat.reduceSub,if_true,reduceIte]
  refine(lead_ok v (zaV v s).1 hv hn.1 (by omega)).pure (by simp [renL,AV.ren,zaJ,zap,zbv]) ?_
  rintro _ σ rfl
  rw [zj9]
  refine⟨by simp [AEnd.noid,AV.ren,renL,zag,zao],?_⟩
  cases ho:zcw v (some 0) (zaV v s).1 with
  | none =>
   rw [ho] at hg
   try simp -implicitDefEqProofs only [LM2,eq_self,zaa,zab,Nat.zero_mul,lzS,Option.isSome_none,TB,SB,Int.reduceToNat,Nat.reduceAdd,Nat.reduceEqDiff,Nat.reduceLT,Nat.reduceMod,Nat.reducePow,Nat.reduceSub,if_true,reduceIte]
   exact zdR [] zeq (by rw [hg])
  | some p =>
   rw [ho] at hg
   try simp -implicitDefEqProofs only [LM2,eq_self,zaa,zab,Nat.zero_mul,lzS,Option.isSome_some,Option.getD_some,TB,SB,Int.reduceToNat,Nat.reduceAdd,Nat.reduceEqDiff,Nat.reduceLT,Nat.reduceMod,Nat.reducePow,Nat.reduceSub,if_true,reduceIte]
   refine(Sub_ok v p hv).pure (by simp [renL,AV.ren,zaJ,zap,zag]) ?_
   rintro _ σ ⟨rfl,rfl⟩
   refine⟨by simp [AEnd.noid,AV.ren,zap],?_⟩
   try simp -implicitDefEqProofs only [LM2,eq_self,zaa,zab,Nat.zero_mul,lzS,TB,SB,Int.reduceToNat,Nat.reduceAdd,Nat.reduceEqDiff,Nat.reduceLT,Nat.reduceMod,Nat.reducePow,Nat.reduceSub,if_true,reduceIte]
   exact zdR (l:=zcO v p) [] rfl (by rw [hg])
 ·have de:=decide_eq_false he
  try simp -implicitDefEqProofs only [LM2,eq_self,zaa,zab,Nat.zero_mul,lzS,de,TB,SB,Int.reduceToNat,Nat.reduceAdd,Nat.reduceEqDiff,Nat.reduceLT,Nat.reduceMod,Nat.reducePow,Nat.reduceSub,if_true,reduceIte]
  exact zdR [] zeq (by rw [getR,if_neg he])
end Go.Proofs.YtamcppdhkeiaiaaGreatDoor
end

section
namespace Go.Proofs.YtamcppdhkeiaiaaGreatDoor
open Go Go.Eng
theorem wsl_refN_hi (id off len:Nat) (h:Int) (σ:zad) (K:AV→Prop):zbg T 37 (.ref id off len 4) none (some (i64 h)) σ K=(0≤h∧h≤len∧K (.ref id off h.toNat 4)):=by
 simp [zbg,T37,tySl,bnd,i64,T54,tyNd]
theorem growN_ok (n:Nat) (h:n≤1000000):ACalls Tryz.prog 169 [.lit (.slice none 0 0),i64 n] [] (fun y σ=>y=.ret (.ref 0 0 0 4)∧σ=[.rw (([]:List Nd).flatMap nC)]):=by
 refine ACalls.body T_ok Tryz.func169 (by kernel_rfl) rfl Tryz.ntmps169 (congrArg Array.toList Tryz.results169) ?_
 try simp -implicitDefEqProofs only [LM4,eq_self,zaa,zab,Nat.zero_mul,lzS,zbW (h:=T37),TB,SB,Int.reduceToNat,Nat.reduceAdd,Nat.reduceEqDiff,Nat.reduceLT,Nat.reduceMod,Nat.reducePow,Nat.reduceSub,if_true,reduceIte]
 refine⟨fun hn=>absurd hn (by omega),fun _=>?_⟩
 repeat (with_reducible refine zbY ?_)
 refine⟨fun h0=>?_,fun h0=>?_⟩
 ·refine⟨⟨_,rfl⟩,tyNd,rfl,h0,⟨by decide,rfl⟩,by simp only [tyNd];omega,by omega,?_⟩
  rw [show tyNd.size=4 from rfl,wsl_refN_hi]
  refine⟨by omega,by omega,?_⟩
  try simp -implicitDefEqProofs only [LM4,eq_self,zaa,zab,Nat.zero_mul,lzS,zbW (h:=T37),TB,SB,Int.reduceToNat,Nat.reduceAdd,Nat.reduceEqDiff,Nat.reduceLT,Nat.reduceMod,Nat.reducePow,Nat.reduceSub,if_true,reduceIte]
  refine .inl ⟨[0],.ref 0 0 0 4,[.rw []],rfl,rfl,by simp,by simp [AV.ren],?_,?_⟩
  ·simp [zah,Blk.ren,renL]
  ·simp
 ·have hn:n=0:=by omega
  subst hn
  exact endQ_nilref 4 ⟨rfl,rfl⟩
def fltN (L:List (List Nd)) (k:Nat):List Nd:=(L.take k).flatten
theorem fltN_succ (L:List (List Nd)) (k:Nat) (h:k < L.length):fltN L (k+1)=fltN L k++L.getD k []:=flat_take h
theorem zjq (L:List (List Nd)) (hL:L.length≤100) (hB:L.flatten.length≤1000000):ACalls Tryz.prog 168 [.sl (L.map slNs) L.length] [] (fun y σ=>y=.ret (.ref 0 0 L.flatten.length 4)∧σ=[.rw (L.flatten.flatMap nC)]):=by
 have hmx:∀ k,(fltN L k).length≤1000000:=fun k=>Nat.le_trans (flat_le L k) hB
 refine ACalls.body T_ok Tryz.func168 (by kernel_rfl) rfl Tryz.ntmps168 (congrArg Array.toList Tryz.results168) ?_
 try simp -implicitDefEqProofs only [LM4,eq_self,zaa,zab,Nat.zero_mul,lzS,zbW (h:=T37),TB,SB,Int.reduceToNat,Nat.reduceAdd,Nat.reduceEqDiff,Nat.reduceLT,Nat.reduceMod,Nat.reducePow,Nat.reduceSub,if_true,reduceIte]
 rw [zbe]
 refine⟨Nat,fun k=>k≤L.length,fun k=>[.sl (L.map slNs) L.length,.bot,.lit (.slice none 0 0),i64 (fltN L k).length,.bot,.bot,.bot,.bot,.bot,.sl (L.map slNs) L.length,i64 L.length,i64 k,.bot,.bot,.bot,.bot,.bot,.bot,.bot,.bot,.bot,.bot,.bot,.bot,.bot,.bot,.bot,.bot,.bot,.bot,.bot,.bot,.bot,.bot,.bot,.bot],fun _=>[],fun k=>L.length - k,0,Nat.zero_le _,?_,?_⟩
 ·refine zaj (q:=[]) rfl rfl (by decide) ?_ ?_
  ·try simp only [FB,AV.ren,Nat.reduceAdd,reduceCtorEq]
   simp [zcu,AV.ren,fltN]
  ·try simp only [FB,AV.ren,Nat.reduceAdd,reduceCtorEq]
 ·intro k hk
  try simp -implicitDefEqProofs only [LM4,eq_self,zaa,zab,Nat.zero_mul,lzS,zbW (h:=T37),TB,SB,Int.reduceToNat,Nat.reduceAdd,Nat.reduceEqDiff,Nat.reduceLT,Nat.reduceMod,Nat.reducePow,Nat.reduceSub,if_true,reduceIte]
  refine⟨fun hlt=>?_,fun hge=>?_⟩
  ·have hk':k < L.length:=by omega
   have hs:=hmx (k+1)
   have he:=fltN_succ L k hk'
   rw [he,List.length_append] at hs
   have e5:slNs (L.getD k [])=AV.sl ((L.getD k []).flatMap nC) (L.getD k []).length:=rfl
   repeat (with_reducible refine zbY ?_)
   simp only [e5]
   try simp -implicitDefEqProofs only [LM4,eq_self,zaa,zab,Nat.zero_mul,lzS,zbW (h:=T37),TB,SB,Int.reduceToNat,Nat.reduceAdd,Nat.reduceEqDiff,Nat.reduceLT,Nat.reduceMod,Nat.reducePow,Nat.reduceSub,if_true,reduceIte]
   repeat (with_reducible refine zbY ?_)
   refine fun _=>?_
   repeat (with_reducible refine zbY ?_)
   rw [zal]
   refine⟨k+1,hk',by (show L.length - (k+1) < L.length - k);omega,zaj (q:=[]) rfl rfl (by decide) ?_ ?_⟩
   ·try simp only [FB,AV.ren,Nat.reduceAdd,reduceCtorEq]
    rw [he,List.length_append]
    simp [AV.ren,zcu,zag]
   ·try simp only [FB,AV.ren,Nat.reduceAdd,reduceCtorEq]
  ·obtain rfl:k=L.length:=by omega
   try simp -implicitDefEqProofs only [LM4,eq_self,zaa,zab,Nat.zero_mul,lzS,zbW (h:=T37),TB,SB,Int.reduceToNat,Nat.reduceAdd,Nat.reduceEqDiff,Nat.reduceLT,Nat.reduceMod,Nat.reducePow,Nat.reduceSub,if_true,reduceIte]
   refine ACalls.frame ([]) (growN_ok (fltN L L.length).length (hmx _)) rfl (by decide) (by simp [LM1,LB20,zah,zae,renL,AV.ren,AEnd.ren,zaf,mbF.fren,zac,List.getElem?_cons_zero,List.getElem?_cons_succ]) (by first | rfl | simp [LM1,LB20,zah,zae,renL,AV.ren,AEnd.ren,zaf,mbF.fren,zac,List.getElem?_cons_zero,List.getElem?_cons_succ]) ?_
   rintro _ _ ⟨rfl,rfl⟩
   refine⟨.ret (.ref 0 0 0 4),[.rw (([]:List Nd).flatMap nC)],(by show zae _ _ ([0]) ([0]) 0 _;simp [LM1,LB20,zah,zae,renL,AV.ren,AEnd.ren,zaf,mbF.fren,zac,List.getElem?_cons_zero,List.getElem?_cons_succ]),(by show AEnd.ren ([0]) _ _;first | rfl | simp [LM1,LB20,zah,zae,renL,AV.ren,AEnd.ren,zaf,mbF.fren,zac,List.getElem?_cons_zero,List.getElem?_cons_succ]),?_⟩
   try simp -implicitDefEqProofs only [LM4,eq_self,zaa,zab,Nat.zero_mul,lzS,zbW (h:=T37),TB,SB,Int.reduceToNat,Nat.reduceAdd,Nat.reduceEqDiff,Nat.reduceLT,Nat.reduceMod,Nat.reducePow,Nat.reduceSub,if_true,reduceIte]
   rw [zbe]
   refine⟨Nat,fun k=>k≤L.length,fun k=>[.sl (L.map slNs) L.length,.bot,.lit (.slice none 0 0),.bot,.bot,.bot,.ref 0 0 (fltN L k).length 4,.bot,.bot,.bot,.bot,.bot,.bot,.bot,.bot,.bot,.bot,.bot,.bot,.bot,.bot,.bot,.bot,.bot,.bot,.sl (L.map slNs) L.length,i64 L.length,i64 k,.bot,.bot,.bot,.bot,.bot,.bot,.bot,.bot],fun k=>[.rw ((fltN L k).flatMap nC)],fun k=>L.length - k,0,Nat.zero_le _,?_,?_⟩
   ·refine zaj (q:=[0]) rfl rfl (by decide) ?_ ?_
    ·try simp only [FB,AV.ren,Nat.reduceAdd,reduceCtorEq]
     simp [zcu,AV.ren,fltN]
    ·simp [zah,Blk.ren,renL,fltN]
   ·intro k hk
    try simp -implicitDefEqProofs only [LM4,eq_self,zaa,zab,Nat.zero_mul,lzS,zbW (h:=T37),TB,SB,Int.reduceToNat,Nat.reduceAdd,Nat.reduceEqDiff,Nat.reduceLT,Nat.reduceMod,Nat.reducePow,Nat.reduceSub,if_true,reduceIte]
    refine⟨fun hlt=>?_,fun hge=>?_⟩
    ·have hk':k < L.length:=by omega
     have hs:=hmx (k+1)
     have he:=fltN_succ L k hk'
     rw [he,List.length_append] at hs
     have e5:slNs (L.getD k [])=AV.sl ((L.getD k []).flatMap nC) (L.getD k []).length:=rfl
     repeat (with_reducible refine zbY ?_)
     simp only [e5]
     try simp -implicitDefEqProofs only [LM4,eq_self,zaa,zab,Nat.zero_mul,lzS,zbW (h:=T37),TB,SB,Int.reduceToNat,Nat.reduceAdd,Nat.reduceEqDiff,Nat.reduceLT,Nat.reduceMod,Nat.reducePow,Nat.reduceSub,if_true,reduceIte]
     refine append_N rfl rfl T37 T37 T54 (l:=fltN L k) (ys:=L.getD k []) (m:=(L.getD k []).length) rfl (by omega) (asrc_Ns _ _) rfl (by omega) ?_
     try simp -implicitDefEqProofs only [LM4,eq_self,zaa,zab,Nat.zero_mul,lzS,zbW (h:=T37),TB,SB,Int.reduceToNat,Nat.reduceAdd,Nat.reduceEqDiff,Nat.reduceLT,Nat.reduceMod,Nat.reducePow,Nat.reduceSub,if_true,reduceIte]
     repeat (with_reducible refine zbY ?_)
     rw [zal]
     refine⟨k+1,hk',by (show L.length - (k+1) < L.length - k);omega,?_⟩
     rw [he,List.length_append]
     refine zaj (q:=[1]) rfl rfl (by decide) ?_ ?_
     ·try simp only [FB,AV.ren,Nat.reduceAdd,reduceCtorEq]
      exact⟨by rw [zcu];rfl,by rw [zcu];rfl,.inr (by omega)⟩
     ·try simp only [FB,AV.ren,Nat.reduceAdd,reduceCtorEq]
      simp [-List.flatMap_append,zah,zaG,zap]
    ·obtain rfl:k=L.length:=by omega
     try simp -implicitDefEqProofs only [LM4,eq_self,zaa,zab,Nat.zero_mul,lzS,zbW (h:=T37),TB,SB,Int.reduceToNat,Nat.reduceAdd,Nat.reduceEqDiff,Nat.reduceLT,Nat.reduceMod,Nat.reducePow,Nat.reduceSub,if_true,reduceIte]
     have hf:fltN L L.length=L.flatten:=by rw [fltN,List.take_length]
     rw [hf]
     exact zaH ⟨rfl,rfl⟩
end Go.Proofs.YtamcppdhkeiaiaaGreatDoor
end

section
namespace Go.Proofs.YtamcppdhkeiaiaaGreatDoor
open Go Go.Eng
theorem qb_sl3 {K:AV→Prop} (e:TypeId) (a b c:AV) (ha:a.one=true) (hac:a.cells=[a]) (hb:b.one=true) (hbc:b.cells=[b]) (hc:c.one=true) (hcc:c.cells=[c]):qb2 (some (tySl e)) 3 [(0,a),(1,b),(2,c)] K=K (.sl [a,b,c] 3):=by
 simp [qb2,tySl,zb9,zcq,zbf,List.range_succ,ha,hac,hb,hbc,hc,hcc]
theorem zf6 (cs:List AV) (n:Nat):(AV.sl cs n).cells=[AV.sl cs n]:=rfl
theorem oneSl (cs:List AV) (n:Nat):(AV.sl cs n).one=true:=rfl
theorem zkc (l:List Nd) (n:Nat) (σ:zad) (K:AV→Prop):zbg T 37 (.sl (l.flatMap nC) l.length) none (some (i64 n)) σ K=(n≤l.length∧K (.sl ((l.take n).flatMap nC) n)):=by
 have e:=ndF.ftake l n
 simp [zbg,T37,tySl,bnd,i64,T54,tyNd,ndF.flen,e]
theorem zkd (l:List Nd) (n:Nat) (σ:zad) (K:AV→Prop):zbg T 37 (.sl (l.flatMap nC) l.length) (some (i64 n)) none σ K=(n≤l.length∧K (.sl ((l.drop n).flatMap nC) (l.length - n))):=by
 have e:=ndF.fdrop l n
 have e2:=ndF.full (l.drop n)
 rw [List.length_drop] at e2
 simp [zbg,T37,tySl,bnd,i64,T54,tyNd,ndF.flen,e,e2]
theorem zjr:∀ (L:List Nd) (p:Nat),p < L.length→(L.flatMap nC)[p * 4+3]?=some (i64 (L.getD p n0d).kids)
 | [],_,h=>absurd h (Nat.not_lt_zero _)
 | n::L,0,_=>rfl
 | n::L,p+1,h=>by
  rw [List.flatMap_cons,show (p+1) * 4+3=(p * 4+3)+4 by omega,List.getElem?_append_right (by simp [nC]),show (nC n).length=4 from rfl,Nat.add_sub_cancel,zjr L p (Nat.lt_of_succ_lt_succ h),List.getD_cons_succ]
theorem zjs (k:Int):∀ (L:List Nd) (p:Nat),p < L.length→(L.flatMap nC).set (p * 4+3) (i64 k)=(L.set p ⟨(L.getD p n0d).kind,(L.getD p n0d).num,(L.getD p n0d).text,k⟩).flatMap nC
 | [],_,h=>absurd h (Nat.not_lt_zero _)
 | n::L,0,_=>by simp [nC]
 | n::L,p+1,h=>by
  rw [List.flatMap_cons,show (p+1) * 4+3=(p * 4+3)+4 by omega,List.set_append_right _ _ (by simp [nC]),show (nC n).length=4 from rfl,Nat.add_sub_cancel,zjs k L p (Nat.lt_of_succ_lt_succ h),List.getD_cons_succ,List.set_cons_succ,List.flatMap_cons]
theorem fa_nK (id off:Nat) (K:AV→Prop):zaq T 54 (.ptr id off) 3 K=K (.ptr id (off+3)):=by simp [zaq,T54,tyNd,T3,zaW]
theorem ld_nK (L:List Nd) (p:Nat) (K:AV→Prop):ld2 (some zaW) (some (L.flatMap nC)) (p * 4+3) K=(p < L.length∧K (i64 (L.getD p n0d).kids)):=by
 by_cases h:p < L.length
 ·have e:=zjr L p h
  have h2:1≤L.length * 4 - (p * 4+3):=by omega
  simp [-List.length_flatMap,ld2,wfin,zaW,TD.agg,e,h,zbn,h2]
 ·have e:(L.flatMap nC)[p * 4+3]?=none:=List.getElem?_eq_none (by rw [zbn];omega)
  have h2:¬ 1≤L.length * 4 - (p * 4+3):=by omega
  simp [-List.length_flatMap,ld2,wfin,zaW,TD.agg,e,h,zbn,h2]
def spl (v:List Nd) (fr to:Nat) (l:List Nd):List Nd:=[v.take fr,l,v.drop to].flatten
theorem ziJ (v:List Nd) (fr to:Nat) (l:List Nd):spl v fr to l=v.take fr++(l++v.drop to):=by simp [spl]
theorem zke {v:List Nd} {fr to:Nat} {l:List Nd} (h:fr≤to) (ht:to≤v.length):(spl v fr to l).length=fr+l.length+(v.length - to):=by
 rw [ziJ,List.length_append,List.length_append,List.length_take,List.length_drop]
 omega
theorem zhz {v:List Nd} {fr to p:Nat} {l:List Nd} (h:p < fr) (hf:fr≤v.length):(spl v fr to l).getD p n0d=v.getD p n0d:=by
 rw [ziJ,List.getD_eq_getElem?_getD,List.getElem?_append_left (by rw [List.length_take];omega),List.getElem?_take_of_lt h,← List.getD_eq_getElem?_getD]
def more (L:List Nd) (p:Nat) (m:Int):List Nd:=L.set p ⟨(L.getD p n0d).kind,(L.getD p n0d).num,(L.getD p n0d).text,(L.getD p n0d).kids+m⟩
theorem zfD (v l:List Nd) (p:Nat) (m:Int) (fr to:Nat) (hv:v.length≤1000) (hl:l.length≤1000) (hf:p < fr) (ht:fr≤to) (hto:to≤v.length) (hm:inI ((v.getD p n0d).kids+m)):ACalls Tryz.prog 166 [.sl (v.flatMap nC) v.length,i64 p,i64 m,i64 fr,i64 to,.sl (l.flatMap nC) l.length] [] (fun y _=>y=.ret (slN (more (spl v fr to l) p m))):=by
 refine ACalls.body T_ok Tryz.func166 (by kernel_rfl) rfl Tryz.ntmps166 (congrArg Array.toList Tryz.results166) ?_
 try simp -implicitDefEqProofs only [LM4,eq_self,zaa,zab,Nat.zero_mul,lzS,qb_sl3,zf6,oneSl,zkc,zkd,fa_nK,ld_nK,TB,SB,Int.reduceToNat,Nat.reduceAdd,Nat.reduceEqDiff,Nat.reduceLT,Nat.reduceMod,Nat.reducePow,Nat.reduceSub,if_true,reduceIte]
 refine zh7 [8] (by kernel_rfl) (by kernel_rfl) (by kernel_rfl) ?_
 try simp -implicitDefEqProofs only [LM4,eq_self,zaa,zab,Nat.zero_mul,lzS,qb_sl3,zf6,oneSl,zkc,zkd,fa_nK,ld_nK,TB,SB,Int.reduceToNat,Nat.reduceAdd,Nat.reduceEqDiff,Nat.reduceLT,Nat.reduceMod,Nat.reducePow,Nat.reduceSub,if_true,reduceIte]
 refine⟨by omega,by omega,?_⟩
 have e3:AV.sl [AV.sl ((v.take fr).flatMap nC) fr,AV.sl (l.flatMap nC) l.length,AV.sl ((v.drop to).flatMap nC) (v.length - to)] 3=.sl ([v.take fr,l,v.drop to].map slNs) [v.take fr,l,v.drop to].length:=by
  have h1:(v.take fr).length=fr:=by rw [List.length_take];omega
  simp only [List.map_cons,List.map_nil,slNs,h1,List.length_cons,List.length_nil,List.length_drop]
 rw [e3]
 have hs:=zke (l:=l) ht hto
 have hg:=zhz (v:=v) (to:=to) (l:=l) hf (by omega)
 have hc:=zjq [v.take fr,l,v.drop to] (by simp) (by (show (spl v fr to l).length≤1000000);omega)
 rw [show [v.take fr,l,v.drop to].flatten=spl v fr to l from rfl] at hc
 refine ACalls.frame ([]) (hc) rfl (by decide) (by simp [LM1,LB20,zah,zae,renL,AV.ren,AEnd.ren,zaf,mbF.fren,zac,zbw,List.getElem?_cons_zero,List.getElem?_cons_succ]) (by first | rfl | simp [LM1,LB20,zah,zae,renL,AV.ren,AEnd.ren,zaf,mbF.fren,zac,zbw,List.getElem?_cons_zero,List.getElem?_cons_succ]) ?_
 rintro _ _ ⟨rfl,rfl⟩
 refine⟨.ret (.ref 0 0 (spl v fr to l).length 4),[.rw ((spl v fr to l).flatMap nC)],(by show zae _ _ ([0]) ([0]) 0 _;simp [LM1,LB20,zah,zae,renL,AV.ren,AEnd.ren,zaf,mbF.fren,zac,zbw,List.getElem?_cons_zero,List.getElem?_cons_succ]),(by show AEnd.ren ([0]) _ _;first | rfl | simp [LM1,LB20,zah,zae,renL,AV.ren,AEnd.ren,zaf,mbF.fren,zac,zbw,List.getElem?_cons_zero,List.getElem?_cons_succ]),?_⟩
 try simp -implicitDefEqProofs only [LM4,eq_self,zaa,zab,Nat.zero_mul,lzS,qb_sl3,zf6,oneSl,zkc,zkd,fa_nK,ld_nK,TB,SB,Int.reduceToNat,Nat.reduceAdd,Nat.reduceEqDiff,Nat.reduceLT,Nat.reduceMod,Nat.reducePow,Nat.reduceSub,if_true,reduceIte]
 refine⟨by omega,by omega,?_⟩
 try simp -implicitDefEqProofs only [LM4,eq_self,zaa,zab,Nat.zero_mul,lzS,qb_sl3,zf6,oneSl,zkc,zkd,fa_nK,ld_nK,TB,SB,Int.reduceToNat,Nat.reduceAdd,Nat.reduceEqDiff,Nat.reduceLT,Nat.reduceMod,Nat.reducePow,Nat.reduceSub,if_true,reduceIte]
 rw [hg]
 refine⟨by omega,hm,by omega,by omega,by rw [zbn];omega,?_⟩
 have h3:=zjs ((v.getD p n0d).kids+m) (spl v fr to l) p (by omega)
 rw [hg] at h3
 rw [h3,show (spl v fr to l).length=(more (spl v fr to l) p m).length by simp [more]]
 have hM:(spl v fr to l).set p ⟨(v.getD p n0d).kind,(v.getD p n0d).num,(v.getD p n0d).text,(v.getD p n0d).kids+m⟩=more (spl v fr to l) p m:=by rw [more,hg]
 rw [hM]
 exact ndF.endQ rfl rfl
end Go.Proofs.YtamcppdhkeiaiaaGreatDoor
end

section
namespace Go.Proofs.YtamcppdhkeiaiaaGreatDoor
open Go Go.Eng
def endP (v:List Nd) (p:Nat):Nat:=p+(zcO v p).length
theorem sub_len (v:List Nd) (p:Int):(zcO v p).length≤v.length:=by
 unfold zcO
 split
 ·rw [List.length_drop,List.length_take]
  omega
 ·exact Nat.zero_le _
theorem ziK (v:List Nd) (p:Nat) (hv:v.length≤1000000) (hp:p < v.length):ACalls Tryz.prog 167 [.sl (v.flatMap nC) v.length,i64 p] [] (fun y _=>y=.ret (i64 (endP v p))):=by
 have hs:=sub_len v p
 refine ACalls.body T_ok Tryz.func167 (by kernel_rfl) rfl Tryz.ntmps167 (congrArg Array.toList Tryz.results167) ?_
 try simp -implicitDefEqProofs only [LM2,eq_self,zaa,zab,Nat.zero_mul,lzS,TB,SB,Int.reduceToNat,Nat.reduceAdd,Nat.reduceEqDiff,Nat.reduceLT,Nat.reduceMod,Nat.reducePow,Nat.reduceSub,if_true,reduceIte]
 refine(Sub_ok v p hv).pure (by simp [renL,AV.ren,zaJ,zap,zag]) ?_
 rintro _ σ ⟨rfl,rfl⟩
 refine⟨by simp [AEnd.noid,AV.ren,zap],?_⟩
 try simp -implicitDefEqProofs only [LM2,eq_self,zaa,zab,Nat.zero_mul,lzS,TB,SB,Int.reduceToNat,Nat.reduceAdd,Nat.reduceEqDiff,Nat.reduceLT,Nat.reduceMod,Nat.reducePow,Nat.reduceSub,if_true,reduceIte]
 refine⟨by unfold inI;omega,?_⟩
 exact zeC (by rw [show ((p:Int)+((zcO v p).length:Int))=((endP v p:Nat):Int) by simp [endP]])
def zfo (v:List Nd) (p:Nat) (key:List UInt8):Int:=if bsV (zaU v p) key < (za1 v p).length then (za1 v p).getD (bsV (zaU v p) key) 0 - 1 else endP v p
theorem kids_in {v:List Nd} {p:Int} {i:Nat} (hi:i < (za1 v p).length):∃ n:Nat,(za1 v p).getD i 0=n∧n < v.length:=by
 rw [List.getD_eq_getElem?_getD,List.getElem?_eq_getElem hi]
 exact zhx (List.getElem_mem hi)
theorem entry_ok (v:List Nd) (p:Nat) (key:List UInt8) (hv:v.length≤1000000) (hp:p < v.length):ACalls Tryz.prog 171 [.sl (v.flatMap nC) v.length,i64 p,str key] [] (fun y _=>y=.ret (i64 (zfo v p key))):=by
 have hkl:=zhw v p hv
 have hkk:=zfm v p
 refine ACalls.body T_ok Tryz.func171 (by kernel_rfl) rfl Tryz.ntmps171 (congrArg Array.toList Tryz.results171) ?_
 try simp -implicitDefEqProofs only [LM2,eq_self,zaa,zab,Nat.zero_mul,lzS,TB,SB,Int.reduceToNat,Nat.reduceAdd,Nat.reduceEqDiff,Nat.reduceLT,Nat.reduceMod,Nat.reducePow,Nat.reduceSub,if_true,reduceIte]
 refine(Keys_ok v p hv).pure (by simp [renL,AV.ren,zaJ,zap,zag]) ?_
 rintro _ σ ⟨rfl,rfl⟩
 refine⟨by simp [AEnd.noid,AV.ren,zak str zai],?_⟩
 try simp -implicitDefEqProofs only [LM2,eq_self,zaa,zab,Nat.zero_mul,lzS,TB,SB,Int.reduceToNat,Nat.reduceAdd,Nat.reduceEqDiff,Nat.reduceLT,Nat.reduceMod,Nat.reducePow,Nat.reduceSub,if_true,reduceIte]
 refine(zjp (zaU v p) key (by omega)).pure (by simp [renL,AV.ren,zak str zai,zai]) ?_
 rintro _ σ rfl
 refine⟨by simp [AEnd.noid,AV.ren,renL,zag,zao],?_⟩
 try simp -implicitDefEqProofs only [LM2,eq_self,zaa,zab,Nat.zero_mul,lzS,TB,SB,Int.reduceToNat,Nat.reduceAdd,Nat.reduceEqDiff,Nat.reduceLT,Nat.reduceMod,Nat.reducePow,Nat.reduceSub,if_true,reduceIte]
 refine(Kids_ok v p hv).pure (by simp [renL,AV.ren,zaJ,zap,zag]) ?_
 rintro _ σ ⟨rfl,rfl⟩
 refine⟨by simp [AEnd.noid,AV.ren,zak i64 zag],?_⟩
 by_cases hi:bsV (zaU v p) key < (za1 v p).length
 ·have di:decide (((bsV (zaU v p) key:Nat):Int) < ((za1 v p).length:Int))=true:=decide_eq_true (by omega)
  obtain⟨n,hn,hn2⟩:=kids_in hi
  try simp -implicitDefEqProofs only [LM2,eq_self,zaa,zab,Nat.zero_mul,lzS,di,TB,SB,Int.reduceToNat,Nat.reduceAdd,Nat.reduceEqDiff,Nat.reduceLT,Nat.reduceMod,Nat.reducePow,Nat.reduceSub,if_true,reduceIte]
  refine⟨by omega,by omega,by omega,?_⟩
  rw [hn]
  refine⟨by unfold inI;omega,?_⟩
  exact zeC (by rw [zfo,if_pos hi,hn])
 ·have di:decide (((bsV (zaU v p) key:Nat):Int) < ((za1 v p).length:Int))=false:=decide_eq_false (by omega)
  try simp -implicitDefEqProofs only [LM2,eq_self,zaa,zab,Nat.zero_mul,lzS,di,TB,SB,Int.reduceToNat,Nat.reduceAdd,Nat.reduceEqDiff,Nat.reduceLT,Nat.reduceMod,Nat.reducePow,Nat.reduceSub,if_true,reduceIte]
  refine(ziK v p hv hp).pure (by simp [renL,AV.ren,zaJ,zap,zag]) ?_
  rintro _ σ rfl
  refine⟨zag _ _,?_⟩
  try simp -implicitDefEqProofs only [LM2,eq_self,zaa,zab,Nat.zero_mul,lzS,TB,SB,Int.reduceToNat,Nat.reduceAdd,Nat.reduceEqDiff,Nat.reduceLT,Nat.reduceMod,Nat.reducePow,Nat.reduceSub,if_true,reduceIte]
  exact zeC (by rw [zfo,if_neg hi])
end Go.Proofs.YtamcppdhkeiaiaaGreatDoor
end

section
namespace Go.Proofs.YtamcppdhkeiaiaaGreatDoor
open Go Go.Eng
theorem kid_mem2 {v:List Nd} {p:Nat} {q:Int} (h:q∈za1 v p):∃ n:Nat,q=n∧n < v.length∧p < n∧(kdOf v p=5→p+1 < n):=by
 unfold za1 at h
 split at h
 ·rename_i h0
  obtain⟨h0,hp0,hp1⟩:=zej h0
  obtain⟨r,hr1,hr2,hr3,hr4⟩:=zeQ h0 (p:=(p:Int).toNat) (by omega)
  obtain⟨n,hK⟩:=zcU hr1
  have hg:v.getD (p:Int).toNat n0d=n:=za2 hK.node
  rw [List.mem_map] at h
  obtain⟨m,hm,rfl⟩:=h
  refine⟨m,rfl,?_⟩
  rw [kidP,List.mem_map,hg] at hm
  obtain⟨k,hk,rfl⟩:=hm
  rw [List.mem_range] at hk
  obtain⟨r',g1,_⟩:=hK.kid hk
  obtain⟨m,g⟩:=zcU g1
  have hi:=(hK.inv k (by omega)).1
  rw [Int.toNat_natCast] at hi hg ⊢
  refine⟨by have:=g.few.2.2.2;rwa [Int.toNat_natCast] at this,by omega,fun h5=>?_⟩
  rw [kdOf,hg] at h5
  rw [decide_eq_true h5] at hi ⊢
  simp only [bK,if_true]
  omega
 ·cases h
theorem kid_in2 {v:List Nd} {p:Nat} {i:Nat} (hi:i < (za1 v p).length):∃ n:Nat,(za1 v p).getD i 0=n∧n < v.length∧p < n∧(kdOf v p=5→p+1 < n):=by
 rw [List.getD_eq_getElem?_getD,List.getElem?_eq_getElem hi]
 exact kid_mem2 (List.getElem_mem hi)
theorem zkf {v:List Nd} {p:Nat} {x:Pt} {q:Nat} (h:zcr v p x=some q):q < v.length∧p < q∧(kdOf v p=5→p+1 < q):=by
 unfold zcr zcB at h
 split at h
 ·rename_i hc
  obtain⟨n,h1,h2⟩:=kid_in2 (v:=v) (p:=p) (i:=x.pos.toNat) (by omega)
  rw [h1] at h
  cases h
  exact h2
 ·split at h
  ·rename_i hc
   have hb:=hc.2.2
   unfold bsF at hb
   rw [Bool.and_eq_true] at hb
   have:=of_decide_eq_true hb.1
   obtain⟨n,h1,h2⟩:=kid_in2 (v:=v) (p:=p) (i:=bsV (zaU v p) x.key) (by have:=zfm v p;omega)
   rw [h1] at h
   cases h
   exact h2
  ·cases h
theorem zkg {v:List Nd} {p:Nat} (hp:p≤v.length):p≤endP v p∧endP v p≤v.length:=by
 unfold endP zcO
 split
 ·rw [List.length_drop,List.length_take]
  omega
 ·simpa using hp
theorem endP_gt {v:List Nd} {p:Nat} (h:zaI v=0) (hp:p < v.length):p < endP v p:=by
 obtain⟨r,hr1,hr2,hr3,hr4⟩:=zeQ h hp
 rw [endP,sub_eq h hp hr1,List.length_drop,List.length_take]
 omega
theorem entryP_in {v:List Nd} {p:Nat} (key:List UInt8) (h:zaI v=0) (hp:p < v.length) (h5:kdOf v p=5):∃ n:Nat,zfo v p key=n∧p < n∧n≤v.length:=by
 unfold zfo
 split
 ·rename_i hi
  obtain⟨n,h1,h2,h3,h4⟩:=kid_in2 hi
  have:=h4 h5
  exact⟨n - 1,by omega,by omega,by omega⟩
 ·exact⟨_,rfl,endP_gt h hp,(zkg (by omega)).2⟩
theorem kids_inI {v:List Nd} {p:Nat} (h:zaI v=0) (hp:p < v.length):0≤(v.getD p n0d).kids∧(v.getD p n0d).kids≤120:=by
 obtain⟨r,hr1,hr2,hr3,hr4⟩:=zeQ h hp
 obtain⟨n,hK⟩:=zcU hr1
 have hg:v.getD p n0d=n:=za2 hK.node
 have:=hK.few
 have:=zdc h
 rw [hg]
 omega
def putV (v x:List Nd) (p:Nat) (s:Pt):List Nd × Int:=match zcr v p s with
 | some kid=>(more (spl v kid (endP v kid) x) p 0,0)
 | none=>if kdOf v p=4∧s.pos=(v.getD p n0d).kids then (more (spl v (endP v p) (endP v p) x) p 1,0)
  else if kdOf v p=5∧s.pos < 0 then (more (spl v (zfo v p s.key).toNat (zfo v p s.key).toNat (⟨3,0,s.key,0⟩::x)) p 1,0)
  else ([],6)
def cutV (v:List Nd) (p:Nat) (s:Pt):List Nd × Int:=match zcr v p s with
 | some kid=>(more (spl v (if kdOf v p=5 then kid - 1 else kid) (endP v kid) []) p (-1),0)
 | none=>([],6)
end Go.Proofs.YtamcppdhkeiaiaaGreatDoor
end

