/-
  Where steps lead. No condition.
-/
import Derived.Test.YtdigkoejfgmecaaGreatDoorQueB
set_option linter.unusedSimpArgs false
set_option linter.unusedVariables false
set_option linter.unusedSectionVars false
section
namespace Go.Eng
open Go
theorem aQ4 {P:Prop} (e:P:=by simp [AV.ren,renL,zac,zaC]):P:=e
theorem aQ5 {P:Prop} (e:P:=by simp [renL,AV.ren,zbZ,zap,zac]):P:=e
theorem aQ6 {P:Prop} (e:P:=by simp [renL,AV.ren,zbZ,zap,zac,zak]):P:=e
theorem aQ21 {P Q:Prop} (h:Q) (e:P=Q:=by first|(simp -implicitDefEqProofs only [LM1,eq_self,Nat.zero_mul,TB,SB,Int.reduceToNat,Nat.reduceAdd,Nat.reduceEqDiff,Nat.reduceLT,Nat.reduceMod,Nat.reducePow,Nat.reduceSub,if_true,reduceIte];first|done|exact rfl)|exact rfl):P:=e ▸ h
theorem aQ22 {P Q:Prop} (h:Q) (e:P=Q:=by first|(simp -implicitDefEqProofs only [LM1,eq_self,Nat.zero_mul,Option.isSome_none,TB,SB,Int.reduceToNat,Nat.reduceAdd,Nat.reduceEqDiff,Nat.reduceLT,Nat.reduceMod,Nat.reducePow,Nat.reduceSub,if_true,reduceIte];first|done|exact rfl)|exact rfl):P:=e ▸ h
theorem aQ23 {P Q:Prop} (h:Q) (e:P=Q:=by first|(simp -implicitDefEqProofs only [LM1,eq_self,Nat.zero_mul,Option.isSome_some,Option.getD_some,TB,SB,Int.reduceToNat,Nat.reduceAdd,Nat.reduceEqDiff,Nat.reduceLT,Nat.reduceMod,Nat.reducePow,Nat.reduceSub,if_true,reduceIte];first|done|exact rfl)|exact rfl):P:=e ▸ h
theorem aQ24 {P Q:Prop} (h:Q) (e:P=Q:=by first|(simp [-List.map_append,zav,zau,renL,zak,zac,zan i64 zac];first|done|exact rfl)|exact rfl):P:=e ▸ h
theorem aQ25 {P Q:Prop} (h:Q) (e:P=Q:=by first|(simp -implicitDefEqProofs only [LM1,eq_self,Nat.zero_mul,zag,TB,SB,Int.reduceToNat,Nat.reduceAdd,Nat.reduceEqDiff,Nat.reduceLT,Nat.reduceMod,Nat.reducePow,Nat.reduceSub,if_true,reduceIte];first|done|exact rfl)|exact rfl):P:=e ▸ h
end Go.Eng
end

section
namespace Go.Proofs.YtdigkoejfgmecaaGreatDoor
open Go Go.Eng
theorem zc4 {α:Type} {l:List α} {k:Nat} (d:α) (h:k < l.length):l.take (k+1)=l.take k++[l.getD k d]:=by
 rw [List.take_succ_eq_append_getElem h,List.getD_eq_getElem?_getD,List.getElem?_eq_getElem h]
 rfl
theorem cnan_ok (s:List UInt8):ACalls Tryz.prog 131 [str s] [] (fun y _=>y=.ret (bl false)):=by
 refine ACalls.body T_ok Tryz.func131 (by kernel_rfl) rfl Tryz.ntmps131 (congrArg Array.toList Tryz.results131) ?_
 refine aQ20 ?_
 refine zaL ?_
 simp
theorem snan_ok (s:List UInt8):ACalls Tryz.prog 170 [str s] [] (fun y _=>y=.ret (bl false)):=by
 refine ACalls.body T_ok Tryz.func170 (by kernel_rfl) rfl Tryz.ntmps170 (congrArg Array.toList Tryz.results170) ?_
 refine aQ20 ?_
 refine zaL ?_
 simp
theorem less_ok (a b:List UInt8):ACalls Tryz.prog 169 [str a,str b] [] (fun y _=>y=.ret (bl (Op.bytesLess a b))):=by
 refine ACalls.body T_ok Tryz.func169 (by kernel_rfl) rfl Tryz.ntmps169 (congrArg Array.toList Tryz.results169) ?_
 refine aQ20 ?_
 refine(cnan_ok a).pure (by simp [renL,zak]) ?_
 rintro _ σ rfl
 refine⟨zaC _ _,?_⟩
 refine aQ20 ?_
 exact zaL rfl
def bsI (L:List (List UInt8)) (key:List UInt8):Nat→Nat→Nat→Nat
 | 0,i,_=>i
 | n+1,i,j=>if i < j then (if Op.bytesLess (L.getD ((i+j) / 2) []) key then bsI L key n ((i+j) / 2+1) j else bsI L key n i ((i+j) / 2)) else i
def bsV (L:List (List UInt8)) (key:List UInt8):Nat:=bsI L key L.length 0 L.length
def bsF (L:List (List UInt8)) (key:List UInt8):Bool:=decide (bsV L key < L.length) && decide (L.getD (bsV L key) []=key)
theorem zgH (L:List (List UInt8)) (key:List UInt8):∀ (n m i j:Nat),j - i≤n→j - i≤m→bsI L key n i j=bsI L key m i j
 | 0,0,_,_,_,_=>rfl
 | 0,m+1,i,j,h,_=>by rw [bsI,bsI,if_neg (by omega)]
 | n+1,0,i,j,_,h=>by rw [bsI,bsI,if_neg (by omega)]
 | n+1,m+1,i,j,h,g=>by
  rw [bsI,bsI]
  split
  ·split
   ·exact zgH L key n m _ _ (by omega) (by omega)
   ·exact zgH L key n m _ _ (by omega) (by omega)
  ·rfl
theorem bsearch_ok (L:List (List UInt8)) (key:List UInt8) (hL:L.length≤1000000):ACalls Tryz.prog 138 [.sl (L.map str) L.length,str key] [] (fun y _=>y=.ret (.tup [i64 (bsV L key),bl (bsF L key)])):=by
 refine ACalls.body T_ok Tryz.func138 (by kernel_rfl) rfl Tryz.ntmps138 (congrArg Array.toList Tryz.results138) ?_
 refine aQ20 ?_
 rw [zbi]
 refine⟨Nat × Nat,fun x=>x.1≤x.2∧x.2≤L.length∧bsV L key=bsI L key (x.2 - x.1) x.1 x.2,fun x=>[.sl (L.map str) L.length,str key,.bot,.bot,.bot,.bot,i64 L.length,i64 x.1,i64 x.2,.bot,.bot,.bot,.bot,.bot,.bot,.bot,.bot,.bot,.bot,.bot,.bot,.bot,.bot,.bot,.bot,.bot,.bot,.bot,.bot,.bot,.bot,.bot,.bot,.bot,.bot,.bot,.bot,.bot,.bot,.bot,.bot,.bot,.bot,.bot,.bot,.bot,.bot,.bot,.bot,.bot,.bot,.bot,.bot,.bot],fun _=>[],fun x=>x.2 - x.1,(0,L.length),⟨Nat.zero_le _,Nat.le_refl _,rfl⟩,zaf (q:=[]) rfl rfl (by decide) ?_ ?_,?_⟩
 ·refine aQ14 ?_
  try exact⟨by rw [zan str zak];rfl,.inr rfl⟩
 ·first|exact aQ14 trivial|refine aQ14 ?_
 rintro⟨i,j⟩ ⟨h1,h2,h3⟩
 dsimp only at h1 h2 h3 ⊢
 by_cases hlt:i < j
 ·have dl:decide ((i:Int) < (j:Int))=true:=decide_eq_true (by omega)
  have eh:(BitVec.ofInt 64 ((i:Int)+(j:Int)) >>> 1).toNat=(i+j) / 2:=by
   rw [show ((i:Int)+(j:Int))=((i+j:Nat):Int) by omega,BitVec.ofInt_natCast,BitVec.toNat_ushiftRight,BitVec.toNat_ofNat,Nat.shiftRight_eq_div_pow]
   omega
  have hw:IntKind.i64.wrap (((i+j) / 2:Nat):Int)=(((i+j) / 2:Nat):Int):=by
   simp [IntKind.wrap,IntKind.bits,IntKind.signed]
   omega
  try simp -implicitDefEqProofs only [LM4,eq_self,Nat.zero_mul,dl,TB,SB,Int.reduceToNat,Nat.reduceAdd,Nat.reduceEqDiff,Nat.reduceLT,Nat.reduceMod,Nat.reducePow,Nat.reduceSub,if_true,reduceIte]
  refine⟨by unfold inI;omega,?_⟩
  rw [zeo,eh,hw]
  obtain⟨h,hh⟩:∃ h,h=(i+j) / 2:=⟨_,rfl⟩
  rw [← hh]
  refine aQ20 ?_
  refine⟨by omega,by omega,by omega,?_⟩
  refine(less_ok _ _).pure (by simp [renL,zak]) ?_
  rintro _ σ rfl
  refine⟨zaC _ _,?_⟩
  have hs:bsI L key (j - i) i j=if Op.bytesLess (L.getD h []) key then bsI L key (j - (h+1)) (h+1) j else bsI L key (h - i) i h:=by
   obtain⟨n,hn⟩:∃ n,j - i=n+1:=⟨j - i - 1,by omega⟩
   rw [hn,bsI,if_pos hlt,← hh]
   split
   ·exact zgH L key _ _ _ _ (by omega) (Nat.le_refl _)
   ·exact zgH L key _ _ _ _ (by omega) (Nat.le_refl _)
  cases hb:Op.bytesLess (L.getD h []) key with
  | true =>
   rw [hb,if_pos rfl] at hs
   refine aQ20 ?_
   refine⟨by unfold inI;omega,?_⟩
   rw [zai]
   refine⟨(h+1,j),⟨by omega,h2,by rw [h3,hs]⟩,by (show j - (h+1) < j - i);omega,zaf (q:=[]) rfl rfl (by decide) ?_ ?_⟩
   ·refine aQ14 ?_
    exact⟨by rw [zan str zak];rfl,.inr (by omega)⟩
   ·first|exact aQ14 trivial|refine aQ14 ?_
  | false =>
   rw [hb,if_neg (by decide)] at hs
   refine aQ20 ?_
   rw [zai]
   refine⟨(i,h),⟨by omega,by (show h≤L.length);omega,by rw [h3,hs]⟩,by (show h - i < j - i);omega,zaf (q:=[]) rfl rfl (by decide) ?_ ?_⟩
   ·refine aQ14 ?_
    rw [zan str zak]
    rfl
   ·first|exact aQ14 trivial|refine aQ14 ?_
 ·have dl:decide ((i:Int) < (j:Int))=false:=decide_eq_false (by omega)
  have hi:bsV L key=i:=by rw [h3,show j - i=0 by omega];rfl
  have hend:∀ c:Bool,c=bsF L key→∀ σ:zaa,endQ 0 (.tup [i64 i,bl c]) σ (fun r _=>AEnd.ret r=.ret (.tup [i64 (bsV L key),bl (bsF L key)])):=fun c hc σ=>zaR aQ4 (by rw [hc,hi])
  by_cases hin:i < L.length
  ·have d1:decide ((i:Int) < (L.length:Int))=true:=decide_eq_true (by omega)
   by_cases hk:L.getD i []=key
   ·have d2:=decide_eq_true hk
    try simp -implicitDefEqProofs only [LM4,eq_self,Nat.zero_mul,dl,d1,TB,SB,Int.reduceToNat,Nat.reduceAdd,Nat.reduceEqDiff,Nat.reduceLT,Nat.reduceMod,Nat.reducePow,Nat.reduceSub,if_true,reduceIte]
    refine⟨by omega,by omega,hin,?_⟩
    rw [d2]
    refine aQ20 ?_
    exact hend _ (by rw [bsF,hi,decide_eq_true hin,decide_eq_true hk];rfl) _
   ·have d2:=decide_eq_false hk
    try simp -implicitDefEqProofs only [LM4,eq_self,Nat.zero_mul,dl,d1,TB,SB,Int.reduceToNat,Nat.reduceAdd,Nat.reduceEqDiff,Nat.reduceLT,Nat.reduceMod,Nat.reducePow,Nat.reduceSub,if_true,reduceIte]
    refine⟨by omega,by omega,hin,?_⟩
    rw [d2]
    refine aQ20 ?_
    refine⟨by omega,by omega,hin,?_⟩
    refine(snan_ok _).pure (by simp [renL,zak]) ?_
    rintro _ σ rfl
    refine⟨zaC _ _,?_⟩
    refine aQ20 ?_
    exact hend _ (by rw [bsF,hi,decide_eq_false hk,Bool.and_false]) _
  ·have d1:decide ((i:Int) < (L.length:Int))=false:=decide_eq_false (by omega)
   try simp -implicitDefEqProofs only [LM4,eq_self,Nat.zero_mul,dl,d1,TB,SB,Int.reduceToNat,Nat.reduceAdd,Nat.reduceEqDiff,Nat.reduceLT,Nat.reduceMod,Nat.reducePow,Nat.reduceSub,if_true,reduceIte]
   exact hend _ (by rw [bsF,hi,decide_eq_false hin,Bool.false_and]) _
end Go.Proofs.YtdigkoejfgmecaaGreatDoor
end

section
namespace Go.Proofs.YtdigkoejfgmecaaGreatDoor
open Go Go.Eng
set_option linter.defProp false in
def LB9:=And.intro (zan i64 zac) (And.intro (zan str zak) (And.intro @zbG (And.intro @zac (And.intro @zak (And.intro @zbb (And.intro @zaC (And.intro @zcA (@zb4))))))))
set_option linter.defProp false in
def LM1:=And.intro LM0 (And.intro LB5 (And.intro LB7 (LB8)))
def kdOf (v:List Nd) (p:Nat):Int:=(v.getD p n0d).kind
def zcg (v:List Nd) (p:Nat) (x:Pt):Option Int :=
 if kdOf v p=4∧0≤x.pos∧x.pos < (zaD v p).length then some ((zaD v p).getD x.pos.toNat 0)
 else if kdOf v p=5∧x.pos < 0∧bsF (zbX v p) x.key=true then some ((zaD v p).getD (bsV (zbX v p) x.key) 0) else none
def optI:Option Int→AV
 | some q=>.tup [i64 q,bl true]
 | none=>.tup [i64 0,bl false]
theorem zhG (v:List Nd) (p:Nat):(zbX v p).length≤(zaD v p).length:=by
 unfold zbX zaD
 split
 ·rename_i h
  rw [Bool.and_eq_true] at h
  rw [if_pos h.1]
  simp [kidP]
 ·exact Nat.zero_le _
theorem zfG (v:List Nd) (p:Int) (hv:v.length≤1000000):(zaD v p).length≤1000000:=by
 unfold zaD
 split
 ·rename_i h
  obtain⟨h0,hp0,hp1⟩:=zdD h
  obtain⟨r,hr1,hr2,hr3,hr4⟩:=zgo h0 (p:=p.toNat) (by omega)
  obtain⟨n,hK⟩:=zcF hr1
  have f:=hK.few
  have hg:v.getD p.toNat n0d=n:=zaM hK.node
  rw [List.length_map,kidP,List.length_map,List.length_range,hg]
  omega
 ·simp
theorem zex {v:List Nd} {p:Nat} {x:Pt} (h:zcg v p x=none) (σ:zaa):endQ 0 (.tup [i64 0,bl false]) σ (fun r _=>AEnd.ret r=.ret (optI (zcg v p x))):=zaR aQ4 (by rw [h];rfl)
theorem find_ok (v:List Nd) (p:Nat) (x:Pt) (hv:v.length≤1000000) (hp:p < v.length):ACalls Tryz.prog 92 [.sl (v.flatMap nC) v.length,i64 p,ptA x] [] (fun y _=>y=.ret (optI (zcg v p x))):=by
 have hkl:=zfG v p hv
 have hkk:=zhG v p
 rw [zig]
 obtain⟨xk,xp⟩:=x
 refine ACalls.body T_ok Tryz.func92 (by kernel_rfl) rfl Tryz.ntmps92 (congrArg Array.toList Tryz.results92) ?_
 refine aQ21 ?_
 refine(ziP v p hv).pure aQ5 ?_
 rintro _ σ ⟨rfl,rfl⟩
 refine⟨by simp [AEnd.noid,AV.ren,zan i64 zac],?_⟩
 refine aQ21 ?_
 refine⟨by omega,by omega,Nat.le_refl _,hp,?_⟩
 by_cases k4:(v.getD p n0d).kind=4
 ·have d4:=decide_eq_true k4
  have d5:decide ((v.getD p n0d).kind=5)=false:=decide_eq_false (by omega)
  have n5:¬ kdOf v p=5:=by unfold kdOf;omega
  rw [d4]
  by_cases x0:0≤xp
  ·obtain⟨u,rfl⟩:=Int.eq_ofNat_of_zero_le x0
   by_cases x1:(u:Int) < ((zaD v p).length:Int)
   ·have dx1:=decide_eq_true x1
    have hf:zcg v p ⟨xk,u⟩=some ((zaD v p).getD u 0):=by rw [zcg,if_pos ⟨k4,x0,x1⟩];rfl
    try simp -implicitDefEqProofs only [LM1,eq_self,Nat.zero_mul,decide_eq_true x0,dx1,TB,SB,Int.reduceToNat,Nat.reduceAdd,Nat.reduceEqDiff,Nat.reduceLT,Nat.reduceMod,Nat.reducePow,Nat.reduceSub,if_true,reduceIte]
    refine⟨by omega,by omega,by omega,?_⟩
    exact zaR aQ4 (by rw [hf];rfl)
   ·have dx1:=decide_eq_false x1
    have hf:zcg v p ⟨xk,u⟩=none:=by rw [zcg,if_neg (fun h=>x1 h.2.2),if_neg (fun h=>n5 h.1)]
    try simp -implicitDefEqProofs only [LM1,eq_self,Nat.zero_mul,decide_eq_true x0,dx1,TB,SB,Int.reduceToNat,Nat.reduceAdd,Nat.reduceEqDiff,Nat.reduceLT,Nat.reduceMod,Nat.reducePow,Nat.reduceSub,if_true,reduceIte]
    refine⟨by omega,by omega,Nat.le_refl _,hp,?_⟩
    rw [d5]
    refine aQ21 ?_
    exact zex hf _
  ·have dx:=decide_eq_false x0
   have hf:zcg v p ⟨xk,xp⟩=none:=by rw [zcg,if_neg (fun h=>x0 h.2.1),if_neg (fun h=>n5 h.1)]
   try simp -implicitDefEqProofs only [LM1,eq_self,Nat.zero_mul,dx,TB,SB,Int.reduceToNat,Nat.reduceAdd,Nat.reduceEqDiff,Nat.reduceLT,Nat.reduceMod,Nat.reducePow,Nat.reduceSub,if_true,reduceIte]
   refine⟨by omega,by omega,Nat.le_refl _,hp,?_⟩
   rw [d5]
   refine aQ21 ?_
   exact zex hf _
 ·have d4:=decide_eq_false k4
  have n4:¬ kdOf v p=4:=by unfold kdOf;exact k4
  rw [d4]
  refine aQ21 ?_
  refine⟨by omega,by omega,Nat.le_refl _,hp,?_⟩
  by_cases k5:(v.getD p n0d).kind=5
  ·have d5:=decide_eq_true k5
   rw [d5]
   by_cases x0:xp < 0
   ·have hK:ACalls Tryz.prog 27 [.sl (v.flatMap nC) v.length,i64 p] [] (fun y _=>y=.ret (.sl ((zbX v p).map str) (zbX v p).length)):=(Keys_ok v p hv).mono fun _ _ h=>h.1
    try simp -implicitDefEqProofs only [LM1,eq_self,Nat.zero_mul,decide_eq_true x0,TB,SB,Int.reduceToNat,Nat.reduceAdd,Nat.reduceEqDiff,Nat.reduceLT,Nat.reduceMod,Nat.reducePow,Nat.reduceSub,if_true,reduceIte]
    refine zhd (by kernel_rfl) (by kernel_rfl) ?_
    refine aQ21 ?_
    refine zeT hK aQ5 (by simp [AEnd.noid,AV.ren,zan str zak]) ?_
    refine aQ21 ?_
    refine zeT (bsearch_ok (zbX v p) xk (by omega)) (by first | rfl | simp [LB9,renL,AV.ren,zan u32 zbG,zan u64 zbb]) (by first | rfl | simp [LB9,AEnd.noid,renL,AV.ren,zan u32 zbG,zan u64 zbb]) ?_
    refine aQ21 ?_
    cases hb:bsF (zbX v p) xk with
    | false =>
     have hf:zcg v p ⟨xk,xp⟩=none:=by rw [zcg,if_neg (fun h=>n4 h.1),if_neg (fun h=>by rw [hb] at h;cases h.2.2)]
     refine aQ21 ?_
     exact zex hf _
    | true =>
     have hf:zcg v p ⟨xk,xp⟩=some ((zaD v p).getD (bsV (zbX v p) xk) 0):=by rw [zcg,if_neg (fun h=>n4 h.1),if_pos ⟨k5,x0,hb⟩]
     have hlt:bsV (zbX v p) xk < (zbX v p).length:=by
      unfold bsF at hb
      rw [Bool.and_eq_true] at hb
      exact of_decide_eq_true hb.1
     refine aQ21 ?_
     refine⟨by omega,by omega,by omega,?_⟩
     exact zaR aQ4 (by rw [hf];rfl)
   ·have dx:=decide_eq_false x0
    have hf:zcg v p ⟨xk,xp⟩=none:=by rw [zcg,if_neg (fun h=>n4 h.1),if_neg (fun h=>x0 h.2.1)]
    try simp -implicitDefEqProofs only [LM1,eq_self,Nat.zero_mul,dx,TB,SB,Int.reduceToNat,Nat.reduceAdd,Nat.reduceEqDiff,Nat.reduceLT,Nat.reduceMod,Nat.reducePow,Nat.reduceSub,if_true,reduceIte]
    exact zex hf _
  ·have d5:=decide_eq_false k5
   have hf:zcg v p ⟨xk,xp⟩=none:=by rw [zcg,if_neg (fun h=>n4 h.1),if_neg (fun h=>k5 h.1)]
   rw [d5]
   refine aQ21 ?_
   exact zex hf _
end Go.Proofs.YtdigkoejfgmecaaGreatDoor
end

section
namespace Go.Proofs.YtdigkoejfgmecaaGreatDoor
open Go Go.Eng
set_option linter.defProp false in
def LB10:=And.intro @zau (And.intro @bren_ro (And.intro @bren_rt (And.intro @bren_dead (And.intro @bren_lp (And.intro @ren_nilS (And.intro @bren_mpi (And.intro @ren_nA (And.intro @zbZ (And.intro @ren_slN (And.intro @zdV (And.intro @renL_S (And.intro @zap (And.intro @zew (And.intro @zhA (And.intro @ren_ptA (@zeL))))))))))))))))
theorem ziW {v:List Nd} {p:Int} {q:Int} (h:q∈zaD v p):∃ n:Nat,q=n∧n < v.length:=by
 unfold zaD at h
 split at h
 ·rename_i h0
  obtain⟨h0,hp0,hp1⟩:=zdD h0
  obtain⟨r,hr1,hr2,hr3,hr4⟩:=zgo h0 (p:=p.toNat) (by omega)
  obtain⟨n,hK⟩:=zcF hr1
  have hg:v.getD p.toNat n0d=n:=zaM hK.node
  rw [List.mem_map] at h
  obtain⟨m,hm,rfl⟩:=h
  refine⟨m,rfl,?_⟩
  rw [kidP,List.mem_map,hg] at hm
  obtain⟨k,hk,rfl⟩:=hm
  rw [List.mem_range] at hk
  obtain⟨r',g1,_⟩:=hK.kid hk
  obtain⟨m,g⟩:=zcF g1
  exact g.few.2.2.2
 ·cases h
theorem find_lt {v:List Nd} {p:Nat} {x:Pt} {q:Int} (h:zcg v p x=some q):∃ n:Nat,q=n∧n < v.length:=by
 have get:∀ i:Nat,i < (zaD v p).length→∃ n:Nat,(zaD v p).getD i 0=n∧n < v.length:=fun i hi=>by
  rw [List.getD_eq_getElem?_getD,List.getElem?_eq_getElem hi]
  exact ziW (List.getElem_mem hi)
 unfold zcg at h
 split at h
 ·rename_i hc
  cases h
  exact get _ (by omega)
 ·split at h
  ·rename_i hc
   cases h
   have hb:=hc.2.2
   unfold bsF at hb
   rw [Bool.and_eq_true] at hb
   have:=of_decide_eq_true hb.1
   exact get _ (by have:=zhG v p;omega)
  ·cases h
end Go.Proofs.YtdigkoejfgmecaaGreatDoor
end

section
namespace Go.Proofs.YtdigkoejfgmecaaGreatDoor
open Go Go.Eng
theorem pathV_len (s:List UInt8):(zdZ s).1.length≤120:=by
 by_cases h:(zdZ s).2=0
 ·have hp:zdZ s=((zdZ s).1,0):=Prod.ext rfl h
  obtain⟨g1,g2,g3⟩:=pathV_back hp
  have:=shP_len (zdZ s).1 true (List.all_eq_true.1 g2)
  rw [← g1] at this
  omega
 ·rw [pathV_bad h];simp
theorem zc5 {l:List Nd} (h:zar l=0):0 < l.length∧l.length≤120:=by
 unfold zar at h
 split at h
 ·cases h
 ·rename_i h1
  split at h
  ·rename_i r hr
   obtain⟨n,hK⟩:=zcF hr
   have:=hK.few
   omega
  ·cases h
def za9 (v:List Nd) (s:List UInt8):List Pt × Int:=if zar v=0 then zdZ s else ([],zar v)
theorem steps_ok (v:List Nd) (s:List UInt8) (hv:v.length≤1000000) (hs:s.length≤9223372036854775807):ACalls Tryz.prog 50 [.sl (v.flatMap nC) v.length,str s] [] (fun y _=>y=.ret (.tup [slP (za9 v s).1,i64 (za9 v s).2])):=by
 refine ACalls.body T_ok Tryz.func50 (by kernel_rfl) rfl Tryz.ntmps50 (congrArg Array.toList Tryz.results50) ?_
 refine aQ21 ?_
 refine(zdX v hv).pure (by simp [renL,AV.ren,zbZ,zap]) ?_
 rintro _ σ ⟨rfl,rfl⟩
 refine⟨zac _ _,?_⟩
 by_cases he:zar v=0
 ·have de:=decide_eq_true he
  try simp -implicitDefEqProofs only [LM1,eq_self,Nat.zero_mul,de,TB,SB,Int.reduceToNat,Nat.reduceAdd,Nat.reduceEqDiff,Nat.reduceLT,Nat.reduceMod,Nat.reducePow,Nat.reduceSub,if_true,reduceIte]
  refine(Ppath_ok s hs).pure (by simp [renL,zak]) ?_
  rintro _ σ rfl
  refine⟨by simp [AEnd.noid,AV.ren,renL,zhA,zac],?_⟩
  refine aQ21 ?_
  exact end_P (l:=(zdZ s).1) [] rfl (by rw [za9,if_pos he])
 ·have de:=decide_eq_false he
  try simp -implicitDefEqProofs only [LM1,eq_self,Nat.zero_mul,de,TB,SB,Int.reduceToNat,Nat.reduceAdd,Nat.reduceEqDiff,Nat.reduceLT,Nat.reduceMod,Nat.reducePow,Nat.reduceSub,if_true,reduceIte]
  exact end_P [] frz_nP (by rw [za9,if_neg he])
theorem zey {v:List Nd} {s:List UInt8} (h:(za9 v s).2=0):zar v=0∧za9 v s=zdZ s:=by
 unfold za9 at h ⊢
 split at h
 ·rename_i he
  exact⟨he,by rw [if_pos he]⟩
 ·rename_i he
  exact absurd h he
theorem stepsV_len (v:List Nd) (s:List UInt8):(za9 v s).1.length≤120:=by
 unfold za9
 split
 ·exact pathV_len s
 ·exact Nat.zero_le _
end Go.Proofs.YtdigkoejfgmecaaGreatDoor
end

section
namespace Go.Proofs.YtdigkoejfgmecaaGreatDoor
open Go Go.Eng
def zfH (v:List Nd) (p:Nat) (x:Pt):List Int:=if kdOf v p=4∧x.pos < 0 then zaD v p else [(p:Int)]
def zaV (v:List Nd) (x:Pt) (l:List Int):List Int:=l.filterMap fun f=>zcg v f.toNat x
def zez (v:List Nd) (p:Nat) (x:Pt):List Int:=zaV v x (zfH v p x)
theorem optI_eq (o:Option Int):optI o=.tup [i64 (o.getD 0),bl o.isSome]:=by cases o <;> rfl
theorem from_mem {v:List Nd} {p:Nat} {x:Pt} {q:Int} (hp:p < v.length) (h:q∈zfH v p x):∃ n:Nat,q=n∧n < v.length:=by
 unfold zfH at h
 split at h
 ·exact ziW h
 ·rw [List.mem_singleton] at h
  exact⟨p,h,hp⟩
theorem spread_mem {v:List Nd} {x:Pt} {l:List Int} {q:Int} (h:q∈zaV v x l):∃ n:Nat,q=n∧n < v.length:=by
 unfold zaV at h
 rw [List.mem_filterMap] at h
 obtain⟨f,_,hf⟩:=h
 exact find_lt hf
theorem zff {v:List Nd} {x:Pt} {l:List Int} {k:Nat} (hk:k < l.length):zaV v x (l.take (k+1))=match zcg v (l.getD k 0).toNat x with | some q=>zaV v x (l.take k)++[q] | none=>zaV v x (l.take k):=by
 rw [zc4 0 hk]
 unfold zaV
 rw [List.filterMap_append]
 generalize l.getD k 0=a
 cases h:zcg v a.toNat x <;> simp [h]
theorem zgc (v:List Nd) (x:Pt) (l:List Int) (k:Nat):(zaV v x (l.take k)).length≤k:=by
 unfold zaV
 exact Nat.le_trans (List.length_filterMap_le _ _) (by rw [List.length_take];omega)
theorem from_len (v:List Nd) (p:Nat) (x:Pt) (hv:v.length≤1000000):(zfH v p x).length≤1000000:=by
 unfold zfH
 split
 ·exact zfG v p hv
 ·simp
theorem spread_ok (v:List Nd) (p:Nat) (x:Pt) (hv:v.length≤1000000) (hp:p < v.length):ACalls Tryz.prog 119 [.sl (v.flatMap nC) v.length,i64 p,ptA x] [] (fun y _=>y=.ret (.sl ((zez v p x).map i64) (zez v p x).length)):=by
 have hfl:=from_len v p x hv
 have hfm:=fun q=>@from_mem v p x q hp
 have hkl:=zfG v p hv
 have hvs:zez v p x=zaV v x (zfH v p x):=rfl
 rw [zig]
 refine ACalls.body T_ok Tryz.func119 (by kernel_rfl) rfl Tryz.ntmps119 (congrArg Array.toList Tryz.results119) ?_
 refine aQ21 ?_
 refine⟨by omega,by omega,Nat.le_refl _,hp,?_⟩
 by_cases hc:(v.getD p n0d).kind=4∧x.pos < 0
 ·obtain⟨k4,x0⟩:=hc
  have hF:zfH v p x=zaD v p:=by rw [zfH,if_pos ⟨k4,x0⟩]
  have d4:=decide_eq_true k4
  rw [d4]
  try simp -implicitDefEqProofs only [LM1,eq_self,Nat.zero_mul,decide_eq_true x0,TB,SB,Int.reduceToNat,Nat.reduceAdd,Nat.reduceEqDiff,Nat.reduceLT,Nat.reduceMod,Nat.reducePow,Nat.reduceSub,if_true,reduceIte]
  refine(ziP v p hv).pure aQ5 ?_
  rintro _ σ ⟨rfl,rfl⟩
  refine⟨by simp [AEnd.noid,AV.ren,zan i64 zac],?_⟩
  rw [← hF,hvs]
  clear hvs hF
  generalize zfH v p x=F at hfl hfm ⊢
  refine aQ21 ?_
  rw [zbi]
  refine⟨Nat,fun k=>k≤F.length,fun k=>[.sl (v.flatMap nC) v.length,.bot,.bot,.bot,.bot,.ptr 0 0,.bot,.bot,.ref 1 0 (zaV v x (F.take k)).length 1,.bot,.bot,.bot,.bot,.bot,.bot,.bot,.bot,.bot,.bot,.bot,.bot,.bot,.bot,.bot,.bot,.bot,.bot,.bot,.bot,.sl (F.map i64) F.length,i64 F.length,i64 k,.bot,.bot,.bot,.bot,.bot,.bot,.bot,.bot,.bot,.bot,.bot,.bot,.bot,.bot,.bot,.bot,.bot],fun k=>[.rw [str x.key,i64 x.pos],.rw ((zaV v x (F.take k)).map i64)],fun k=>F.length - k,0,Nat.zero_le _,zcv 8 1 rfl (zaf (q:=[0,2]) rfl rfl (by decide) ?_ ?_),?_⟩
  ·refine aQ14 ?_
   exact⟨by rw [zap];rfl,by simp [zaV],.inr rfl⟩
  ·refine aQ14 ?_
   simp [zav,zau,renL,zak,zac,zaV]
  intro k hk
  have hk:k≤F.length:=hk
  dsimp only
  by_cases hlt:k < F.length
  ·have dl:decide ((k:Int) < (F.length:Int))=true:=decide_eq_true (by omega)
   have hst:=zff (v:=v) (x:=x) hlt
   have hsl:=zgc v x F k
   obtain⟨n,hn,hn2⟩:=hfm (F.getD k 0) (by rw [List.getD_eq_getElem?_getD,List.getElem?_eq_getElem hlt];exact List.getElem_mem hlt)
   have hfo:=find_ok v n x hv hn2
   rw [hn,Int.toNat_natCast] at hst
   rw [zig,optI_eq] at hfo
   try simp -implicitDefEqProofs only [LM1,eq_self,Nat.zero_mul,dl,TB,SB,Int.reduceToNat,Nat.reduceAdd,Nat.reduceEqDiff,Nat.reduceLT,Nat.reduceMod,Nat.reducePow,Nat.reduceSub,if_true,reduceIte]
   refine⟨by omega,by omega,hlt,?_⟩
   rw [hn]
   refine hfo.pure aQ6 ?_
   rintro _ σ rfl
   refine⟨by simp [AEnd.noid,AV.ren,renL,zac,zaC],?_⟩
   cases ho:zcg v n x with
   | none =>
    rw [ho] at hst
    refine aQ22 ?_
    refine⟨by unfold inI;omega,?_⟩
    rw [zai]
    refine⟨k+1,by (show k+1≤F.length);omega,by (show F.length - (k+1) < F.length - k);omega,?_⟩
    rw [hst]
    refine zaf (q:=[0,1]) rfl rfl (by decide) ?_ ?_
    ·refine aQ14 ?_
     exact⟨by rw [zap];rfl,.inr (by omega)⟩
    ·refine aQ14 ?_
     simp [zav,zau,renL,zak,zac,zan i64 zac]
   | some q =>
    rw [ho] at hst
    refine aQ23 ?_
    refine zbd i64 zhj rfl rfl T31 T31 (zfy _) T3 zc2 (l:=zaV v x (F.take k)) (ys:=[q]) (m:=1) rfl rfl rfl (by omega) (by simp only [zaI];omega) ?_
    refine aQ21 ?_
    refine⟨by unfold inI;omega,?_⟩
    rw [zai]
    refine⟨k+1,by (show k+1≤F.length);omega,by (show F.length - (k+1) < F.length - k);omega,?_⟩
    rw [hst]
    dsimp only
    rw [List.length_append]
    refine zaf (q:=[0,3]) rfl rfl (by decide) ?_ ?_
    ·refine aQ14 ?_
     exact⟨by rw [zap];rfl,.inr (by omega)⟩
    ·refine aQ14 ?_
     exact aQ24 trivial
  ·obtain rfl:k=F.length:=by omega
   have dl:decide ((F.length:Int) < (F.length:Int))=false:=decide_eq_false (by omega)
   rw [List.take_length]
   try simp -implicitDefEqProofs only [LM1,eq_self,Nat.zero_mul,dl,TB,SB,Int.reduceToNat,Nat.reduceAdd,Nat.reduceEqDiff,Nat.reduceLT,Nat.reduceMod,Nat.reducePow,Nat.reduceSub,if_true,reduceIte]
   refine ze5 rfl (by rw [List.length_map];omega) (zan i64 zac _ _) ?_
   rw [List.drop_zero,List.take_of_length_le (by rw [List.length_map];omega)]
 ·have hF:zfH v p x=[(p:Int)]:=by rw [zfH,if_neg (show ¬ (kdOf v p=4∧x.pos < 0) from hc)]
  rw [hvs]
  clear hvs
  generalize zfH v p x=F at hfl hfm hF ⊢
  by_cases k4:(v.getD p n0d).kind=4
  ·have x0:¬ x.pos < 0:=fun h=>hc ⟨k4,h⟩
   rw [decide_eq_true k4]
   try simp -implicitDefEqProofs only [LM1,eq_self,Nat.zero_mul,decide_eq_false x0,TB,SB,Int.reduceToNat,Nat.reduceAdd,Nat.reduceEqDiff,Nat.reduceLT,Nat.reduceMod,Nat.reducePow,Nat.reduceSub,if_true,reduceIte]
   rw [zbi]
   refine⟨Nat,fun k=>k≤F.length,fun k=>[.sl (v.flatMap nC) v.length,.bot,.bot,.bot,.bot,.ptr 0 0,.bot,.bot,.ref 1 0 (zaV v x (F.take k)).length 1,.bot,.bot,.bot,.bot,.bot,.bot,.bot,.bot,.bot,.bot,.bot,.bot,.bot,.bot,.bot,.bot,.bot,.bot,.bot,.bot,.sl (F.map i64) F.length,i64 F.length,i64 k,.bot,.bot,.bot,.bot,.bot,.bot,.bot,.bot,.bot,.bot,.bot,.bot,.bot,.bot,.bot,.bot,.bot],fun k=>[.rw [str x.key,i64 x.pos],.rw ((zaV v x (F.take k)).map i64)],fun k=>F.length - k,0,Nat.zero_le _,fits_frz 29 rfl rfl (by simp) (zcv 8 1 rfl (zaf (q:=[0,2]) rfl rfl (by decide) ?_ ?_)),?_⟩
   ·refine aQ14 ?_
    exact⟨by rw [zap];rfl,by simp [zaV],⟨by rw [hF];rfl,by rw [hF];rfl⟩,.inr (by rw [hF];rfl),.inr rfl⟩
   ·refine aQ14 ?_
    simp [zav,zau,renL,zak,zac,zaV]
   intro k hk
   have hk:k≤F.length:=hk
   dsimp only
   by_cases hlt:k < F.length
   ·have dl:decide ((k:Int) < (F.length:Int))=true:=decide_eq_true (by omega)
    have hst:=zff (v:=v) (x:=x) hlt
    have hsl:=zgc v x F k
    obtain⟨n,hn,hn2⟩:=hfm (F.getD k 0) (by rw [List.getD_eq_getElem?_getD,List.getElem?_eq_getElem hlt];exact List.getElem_mem hlt)
    have hfo:=find_ok v n x hv hn2
    rw [hn,Int.toNat_natCast] at hst
    rw [zig,optI_eq] at hfo
    try simp -implicitDefEqProofs only [LM1,eq_self,Nat.zero_mul,dl,TB,SB,Int.reduceToNat,Nat.reduceAdd,Nat.reduceEqDiff,Nat.reduceLT,Nat.reduceMod,Nat.reducePow,Nat.reduceSub,if_true,reduceIte]
    refine⟨by omega,by omega,hlt,?_⟩
    rw [hn]
    refine hfo.pure aQ6 ?_
    rintro _ σ rfl
    refine⟨by simp [AEnd.noid,AV.ren,renL,zac,zaC],?_⟩
    cases ho:zcg v n x with
    | none =>
     rw [ho] at hst
     refine aQ22 ?_
     refine⟨by unfold inI;omega,?_⟩
     rw [zai]
     refine⟨k+1,by (show k+1≤F.length);omega,by (show F.length - (k+1) < F.length - k);omega,?_⟩
     rw [hst]
     refine zaf (q:=[0,1]) rfl rfl (by decide) ?_ ?_
     ·refine aQ14 ?_
      exact⟨by rw [zap];rfl,.inr (by omega)⟩
     ·refine aQ14 ?_
      simp [zav,zau,renL,zak,zac,zan i64 zac]
    | some q =>
     rw [ho] at hst
     refine aQ23 ?_
     refine zbd i64 zhj rfl rfl T31 T31 (zfy _) T3 zc2 (l:=zaV v x (F.take k)) (ys:=[q]) (m:=1) rfl rfl rfl (by omega) (by simp only [zaI];omega) ?_
     refine aQ21 ?_
     refine⟨by unfold inI;omega,?_⟩
     rw [zai]
     refine⟨k+1,by (show k+1≤F.length);omega,by (show F.length - (k+1) < F.length - k);omega,?_⟩
     rw [hst]
     dsimp only
     rw [List.length_append]
     refine zaf (q:=[0,3]) rfl rfl (by decide) ?_ ?_
     ·refine aQ14 ?_
      exact⟨by rw [zap];rfl,.inr (by omega)⟩
     ·refine aQ14 ?_
      exact aQ24 trivial
   ·obtain rfl:k=F.length:=by omega
    have dl:decide ((F.length:Int) < (F.length:Int))=false:=decide_eq_false (by omega)
    rw [List.take_length]
    try simp -implicitDefEqProofs only [LM1,eq_self,Nat.zero_mul,dl,TB,SB,Int.reduceToNat,Nat.reduceAdd,Nat.reduceEqDiff,Nat.reduceLT,Nat.reduceMod,Nat.reducePow,Nat.reduceSub,if_true,reduceIte]
    refine ze5 rfl (by rw [List.length_map];omega) (zan i64 zac _ _) ?_
    rw [List.drop_zero,List.take_of_length_le (by rw [List.length_map];omega)]
  ·rw [decide_eq_false k4]
   refine aQ21 ?_
   rw [zbi]
   refine⟨Nat,fun k=>k≤F.length,fun k=>[.sl (v.flatMap nC) v.length,.bot,.bot,.bot,.bot,.ptr 0 0,.bot,.bot,.ref 1 0 (zaV v x (F.take k)).length 1,.bot,.bot,.bot,.bot,.bot,.bot,.bot,.bot,.bot,.bot,.bot,.bot,.bot,.bot,.bot,.bot,.bot,.bot,.bot,.bot,.sl (F.map i64) F.length,i64 F.length,i64 k,.bot,.bot,.bot,.bot,.bot,.bot,.bot,.bot,.bot,.bot,.bot,.bot,.bot,.bot,.bot,.bot,.bot],fun k=>[.rw [str x.key,i64 x.pos],.rw ((zaV v x (F.take k)).map i64)],fun k=>F.length - k,0,Nat.zero_le _,fits_frz 29 rfl rfl (by simp) (zcv 8 1 rfl (zaf (q:=[0,2]) rfl rfl (by decide) ?_ ?_)),?_⟩
   ·refine aQ14 ?_
    exact⟨by rw [zap];rfl,by simp [zaV],⟨by rw [hF];rfl,by rw [hF];rfl⟩,.inr (by rw [hF];rfl),.inr rfl⟩
   ·refine aQ14 ?_
    simp [zav,zau,renL,zak,zac,zaV]
   intro k hk
   have hk:k≤F.length:=hk
   dsimp only
   by_cases hlt:k < F.length
   ·have dl:decide ((k:Int) < (F.length:Int))=true:=decide_eq_true (by omega)
    have hst:=zff (v:=v) (x:=x) hlt
    have hsl:=zgc v x F k
    obtain⟨n,hn,hn2⟩:=hfm (F.getD k 0) (by rw [List.getD_eq_getElem?_getD,List.getElem?_eq_getElem hlt];exact List.getElem_mem hlt)
    have hfo:=find_ok v n x hv hn2
    rw [hn,Int.toNat_natCast] at hst
    rw [zig,optI_eq] at hfo
    try simp -implicitDefEqProofs only [LM1,eq_self,Nat.zero_mul,dl,TB,SB,Int.reduceToNat,Nat.reduceAdd,Nat.reduceEqDiff,Nat.reduceLT,Nat.reduceMod,Nat.reducePow,Nat.reduceSub,if_true,reduceIte]
    refine⟨by omega,by omega,hlt,?_⟩
    rw [hn]
    refine hfo.pure aQ6 ?_
    rintro _ σ rfl
    refine⟨by simp [AEnd.noid,AV.ren,renL,zac,zaC],?_⟩
    cases ho:zcg v n x with
    | none =>
     rw [ho] at hst
     refine aQ22 ?_
     refine⟨by unfold inI;omega,?_⟩
     rw [zai]
     refine⟨k+1,by (show k+1≤F.length);omega,by (show F.length - (k+1) < F.length - k);omega,?_⟩
     rw [hst]
     refine zaf (q:=[0,1]) rfl rfl (by decide) ?_ ?_
     ·refine aQ14 ?_
      exact⟨by rw [zap];rfl,.inr (by omega)⟩
     ·refine aQ14 ?_
      simp [zav,zau,renL,zak,zac,zan i64 zac]
    | some q =>
     rw [ho] at hst
     refine aQ23 ?_
     refine zbd i64 zhj rfl rfl T31 T31 (zfy _) T3 zc2 (l:=zaV v x (F.take k)) (ys:=[q]) (m:=1) rfl rfl rfl (by omega) (by simp only [zaI];omega) ?_
     refine aQ21 ?_
     refine⟨by unfold inI;omega,?_⟩
     rw [zai]
     refine⟨k+1,by (show k+1≤F.length);omega,by (show F.length - (k+1) < F.length - k);omega,?_⟩
     rw [hst]
     dsimp only
     rw [List.length_append]
     refine zaf (q:=[0,3]) rfl rfl (by decide) ?_ ?_
     ·refine aQ14 ?_
      exact⟨by rw [zap];rfl,.inr (by omega)⟩
     ·refine aQ14 ?_
      exact aQ24 trivial
   ·obtain rfl:k=F.length:=by omega
    have dl:decide ((F.length:Int) < (F.length:Int))=false:=decide_eq_false (by omega)
    rw [List.take_length]
    try simp -implicitDefEqProofs only [LM1,eq_self,Nat.zero_mul,dl,TB,SB,Int.reduceToNat,Nat.reduceAdd,Nat.reduceEqDiff,Nat.reduceLT,Nat.reduceMod,Nat.reducePow,Nat.reduceSub,if_true,reduceIte]
    refine ze5 rfl (by rw [List.length_map];omega) (zan i64 zac _ _) ?_
    rw [List.drop_zero,List.take_of_length_le (by rw [List.length_map];omega)]
end Go.Proofs.YtdigkoejfgmecaaGreatDoor
end

section
namespace Go.Proofs.YtdigkoejfgmecaaGreatDoor
open Go Go.Eng
theorem cellsSl (cs:List AV) (n:Nat):(AV.sl cs n).cells=[AV.sl cs n]:=rfl
theorem zgd {σ:zaa} {i:Nat} {L:List (List Nd)} (h:σ[i]?=some (.ro (L.map slNs))):frzA σ (.ref i 0 L.length 1) (.sl (L.map slNs) L.length) :=
 .inr ⟨_,h,by simp,by rw [List.drop_zero,Nat.mul_one,List.take_of_length_le (by simp)]⟩
theorem zag (e:TypeId) (cs:List AV) (m:Nat) (σ:zaa) (KS:AV→zaa→Prop):bs2 (some (tySl e)) 1 [(0,.sl cs m)] σ KS=KS (.ref σ.length 0 1 1) (σ++[.rw [.sl cs m]]):=by
 simp [bs2,tySl,zbp,zbu,za4,List.range_succ,one_sl,cellsSl]
def zcN (v:List Nd) (ps:List Int) (j:Nat):List (List Nd):=(ps.take j).map fun q=>za8 v q
def zcC (v:List Nd) (x:Pt) (ps:List Int):List Int:=ps.flatMap fun q=>zez v q.toNat x
def zbH (v:List Nd) (l:List Pt):List Int:=l.foldl (fun ps x=>zcC v x ps) [0]
def zbw (v:List Nd) (s:List UInt8):List (List Nd) × Int:=if (za9 v s).2=0 then ((zbH v (za9 v s).1).map fun q=>za8 v q,0) else ([],(za9 v s).2)
theorem zfg {v:List Nd} {l:List Pt} {k:Nat} (hk:k < l.length):zbH v (l.take (k+1))=zcC v (l.getD k pt0) (zbH v (l.take k)):=by
 rw [zc4 pt0 hk]
 unfold zbH
 rw [List.foldl_append]
 rfl
theorem stepPs_take {v:List Nd} {x:Pt} {ps:List Int} {j:Nat} (hj:j < ps.length):zcC v x (ps.take (j+1))=zcC v x (ps.take j)++zez v (ps.getD j 0).toNat x:=by
 rw [zc4 0 hj]
 unfold zcC
 rw [List.flatMap_append]
 simp
theorem stepPs_le (v:List Nd) (x:Pt) (ps:List Int) (j:Nat):(zcC v x (ps.take j)).length≤(zcC v x ps).length:=by
 conv=>rhs;rw [← List.take_append_drop j ps]
 unfold zcC
 rw [List.flatMap_append,List.length_append]
 omega
theorem stepPs_mem {v:List Nd} {x:Pt} {ps:List Int} {q:Int} (h:q∈zcC v x ps):∃ n:Nat,q=n∧n < v.length:=by
 unfold zcC at h
 rw [List.mem_flatMap] at h
 obtain⟨a,_,h⟩:=h
 exact spread_mem h
theorem zdE {v:List Nd} (h0:0 < v.length) {l:List Pt} {k:Nat} (hk:k≤l.length) {q:Int} (h:q∈zbH v (l.take k)):∃ n:Nat,q=n∧n < v.length:=by
 cases k with
 | zero =>
  simp only [List.take_zero,zbH,List.foldl_nil,List.mem_singleton] at h
  exact⟨0,h,h0⟩
 | succ k =>
  rw [zfg (by omega)] at h
  exact stepPs_mem h
theorem asrcI {σ:zaa} (l:List Int):asrc σ 1 (.sl (l.map i64) l.length)=some (l.map i64,l.length):=by
 simp [asrc,asl,List.take_of_length_le]
theorem acalls_post {P : Program} {f : FuncId} {a9 : List AV} {σ : zaa} {K K' : AEnd → zaa → Prop} (h : ACalls P f a9 σ K) (hk : ∀ x σ', K x σ' → ∃ (r r1 : AV) (ids : List Nat), x = .ret r ∧ frzA (zcn σ' ids) r r1 ∧ K' (.ret r1) (zcn σ' ids)) : ACalls P f a9 σ K' := by
 refine fun H w m vs hg hs hr=>CallsR.mono (h H w m vs hg hs hr) ?_
 rintro e w' ⟨x, m', σ', g1, g2, g3, g4⟩
 obtain⟨r,r1,ids,rfl,hf,hk'⟩:=hk _ _ g4
 obtain ⟨s1, x1⟩ := zco (w := w') (m := m') ids σ' g1
 refine ⟨.ret r1, m', zcn σ' ids, s1, g2.trans x1, ?_, hk'⟩
 cases e with
 | returned v=>exact zdo s1 r r1 v hf (zaJ x1 _ _ g3)
 | panicked v=>exact g3.elim
 | outgrown=>exact g3.elim
def eachQ (v:List Nd) (s:List UInt8) (y:AEnd) (σ:zaa):Prop:=if (zbw v s).2=0 then y=.ret (.tup [.ref 0 0 (zbw v s).1.length 1,i64 0])∧σ=[.rw ((zbw v s).1.map slNs)] else y=.ret (.tup [.lit (.slice none 0 0),i64 (zbw v s).2])∧σ=[]
theorem PEachO_ok (v:List Nd) (s:List UInt8) (hv:v.length≤1000000) (hs:s.length≤9223372036854775807) (hB:∀ k,k≤(za9 v s).1.length→(zbH v ((za9 v s).1.take k)).length≤1000):ACalls Tryz.prog 79 [.sl (v.flatMap nC) v.length,str s] [] (eachQ v s):=by
 unfold eachQ
 refine ACalls.body T_ok Tryz.func79 (by kernel_rfl) rfl Tryz.ntmps79 (congrArg Array.toList Tryz.results79) ?_
 refine aQ25 ?_
 refine(steps_ok v s hv hs).pure (by simp [renL,AV.ren,zbZ,zap,zak]) ?_
 rintro _ σ rfl
 refine⟨by simp [AEnd.noid,AV.ren,renL,zhA,zac],?_⟩
 rw [slP_eq]
 have hl:=stepsV_len v s
 have hr:zbw v s=if (za9 v s).2=0 then ((zbH v (za9 v s).1).map fun q=>za8 v q,0) else ([],(za9 v s).2):=rfl
 have hok:=@zey v s
 generalize za9 v s=X at hl hr hok hB ⊢
 obtain⟨l,e⟩:=X
 dsimp only at hl hr hok hB ⊢
 by_cases he:e=0
 ·have de:=decide_eq_true he
  have hn:=zc5 (hok he).1
  rw [if_pos he] at hr
  try simp -implicitDefEqProofs only [LM1,eq_self,Nat.zero_mul,zag,de,TB,SB,Int.reduceToNat,Nat.reduceAdd,Nat.reduceEqDiff,Nat.reduceLT,Nat.reduceMod,Nat.reducePow,Nat.reduceSub,if_true,reduceIte]
  rw [zbi]
  refine⟨Nat,fun k=>k≤l.length,fun k=>[.sl (v.flatMap nC) v.length,.bot,.bot,.bot,.bot,.bot,.sl (l.flatMap ptC) l.length,.bot,.ref 0 0 (zbH v (l.take k)).length 1,.bot,.bot,.bot,.bot,.bot,.bot,.bot,.bot,.bot,.bot,.bot,.bot,.bot,.bot,.bot,.bot,.bot,.bot,.sl (l.flatMap ptC) l.length,i64 l.length,i64 k,.bot,.bot,.bot,.bot,.bot,.bot,.bot,.bot,.bot,.bot,.bot,.bot,.bot,.bot,.bot,.bot,.bot,.bot,.bot,.bot,.bot,.bot,.bot,.bot,.bot,.bot,.bot,.bot,.bot,.bot,.bot,.bot],fun k=>[.rw ((zbH v (l.take k)).map i64)],fun k=>l.length - k,0,Nat.zero_le _,zaf (q:=[0]) rfl rfl (by decide) ?_ ?_,?_⟩
  ·refine aQ14 ?_
   exact⟨by rw [zap];rfl,by rw [zew];rfl,rfl,by rw [zew];rfl,.inr rfl⟩
  ·refine aQ14 ?_
   rfl
  intro k hk
  have hk:k≤l.length:=hk
  dsimp only
  by_cases hlt:k < l.length
  ·have dl:decide ((k:Int) < (l.length:Int))=true:=decide_eq_true (by omega)
   have hpt:=zfg (v:=v) hlt
   have hb1:=hB (k+1) hlt
   rw [hpt] at hb1
   have hm:=fun q=>@zdE v hn.1 l k hk q
   have hbk:=hB k hk
   generalize zbH v (l.take k)=ps at hpt hb1 hm hbk ⊢
   try simp -implicitDefEqProofs only [LM1,eq_self,Nat.zero_mul,zag,dl,TB,SB,Int.reduceToNat,Nat.reduceAdd,Nat.reduceEqDiff,Nat.reduceLT,Nat.reduceMod,Nat.reducePow,Nat.reduceSub,if_true,reduceIte]
   refine⟨by omega,by omega,Nat.le_refl _,hlt,?_⟩
   generalize l.getD k pt0=x at hb1 hpt ⊢
   rw [zbi]
   refine⟨Nat,fun j=>j≤ps.length,fun j=>[.sl (v.flatMap nC) v.length,.bot,.bot,.bot,.bot,.bot,.sl (l.flatMap ptC) l.length,.bot,.bot,.bot,.ptr 1 0,.ref 2 0 (zcC v x (ps.take j)).length 1,.bot,.bot,.bot,.bot,.bot,.bot,.bot,.bot,.bot,.bot,.bot,.bot,.bot,.bot,.bot,.sl (l.flatMap ptC) l.length,i64 l.length,i64 k,.bot,.bot,.bot,.ref 0 0 ps.length 1,i64 ps.length,i64 j,.bot,.bot,.bot,.bot,.bot,.bot,.bot,.bot,.bot,.bot,.bot,.bot,.bot,.bot,.bot,.bot,.bot,.bot,.bot,.bot,.bot,.bot,.bot,.bot,.bot,.bot],fun j=>[.rw (ps.map i64),.rw [str x.key,i64 x.pos],.rw ((zcC v x (ps.take j)).map i64)],fun j=>ps.length - j,0,Nat.zero_le _,zcv 11 1 rfl (zaf (q:=[0,1,2]) rfl rfl (by decide) ?_ ?_),?_⟩
   ·refine aQ14 ?_
    exact⟨by rw [zap];rfl,by rw [zew];rfl,by simp [zcC],by rw [zew];rfl,.inr rfl⟩
   ·refine aQ14 ?_
    simp [zav,zau,renL,zak,zac,zan i64 zac,zcC]
   intro j hj
   have hj:j≤ps.length:=hj
   dsimp only
   by_cases jlt:j < ps.length
   ·have dj:decide ((j:Int) < (ps.length:Int))=true:=decide_eq_true (by omega)
    have hst:=stepPs_take (v:=v) (x:=x) jlt
    have hle:=stepPs_le v x ps (j+1)
    obtain⟨n,hn1,hn2⟩:=hm (ps.getD j 0) (by rw [List.getD_eq_getElem?_getD,List.getElem?_eq_getElem jlt];exact List.getElem_mem jlt)
    have hso:=spread_ok v n x hv hn2
    rw [hn1,Int.toNat_natCast] at hst
    rw [hst,List.length_append] at hle
    rw [zig] at hso
    try simp -implicitDefEqProofs only [LM1,eq_self,Nat.zero_mul,zag,dj,TB,SB,Int.reduceToNat,Nat.reduceAdd,Nat.reduceEqDiff,Nat.reduceLT,Nat.reduceMod,Nat.reducePow,Nat.reduceSub,if_true,reduceIte]
    refine⟨by omega,by omega,jlt,?_⟩
    rw [hn1]
    refine hso.pure aQ6 ?_
    rintro _ σ rfl
    refine⟨by simp [AEnd.noid,AV.ren,zan i64 zac],?_⟩
    refine aQ25 ?_
    refine zbd i64 zhj rfl rfl T31 T31 (zfy _) T3 zc2 (l:=zcC v x (ps.take j)) (ys:=zez v n x) (m:=(zez v n x).length) rfl rfl (asrcI _) (by omega) (by simp only [zaI];omega) ?_
    refine aQ25 ?_
    refine⟨by unfold inI;omega,?_⟩
    rw [zai]
    refine⟨j+1,by (show j+1≤ps.length);omega,by (show ps.length - (j+1) < ps.length - j);omega,?_⟩
    rw [hst,List.length_append]
    refine zaf (q:=[0,1,3]) rfl rfl (by decide) ?_ ?_
    ·refine aQ14 ?_
     exact⟨by rw [zap];rfl,by rw [zew];rfl,by rw [zew];rfl,.inr (by omega)⟩
    ·refine aQ14 ?_
     exact aQ24 trivial
   ·obtain rfl:j=ps.length:=by omega
    have dj:decide ((ps.length:Int) < (ps.length:Int))=false:=decide_eq_false (by omega)
    rw [List.take_length]
    try simp -implicitDefEqProofs only [LM1,eq_self,Nat.zero_mul,zag,dj,TB,SB,Int.reduceToNat,Nat.reduceAdd,Nat.reduceEqDiff,Nat.reduceLT,Nat.reduceMod,Nat.reducePow,Nat.reduceSub,if_true,reduceIte]
    refine⟨by unfold inI;omega,?_⟩
    rw [zai]
    refine⟨k+1,by (show k+1≤l.length);omega,by (show l.length - (k+1) < l.length - k);omega,?_⟩
    rw [hpt]
    refine zaf (q:=[2]) rfl rfl (by decide) ?_ ?_
    ·refine aQ14 ?_
     exact⟨by rw [zap];rfl,by rw [zew];rfl,by rw [zew];rfl,.inr (by omega)⟩
    ·first|exact aQ14 trivial|refine aQ14 ?_
  ·obtain rfl:k=l.length:=by omega
   have dl:decide ((l.length:Int) < (l.length:Int))=false:=decide_eq_false (by omega)
   have hm:=fun q=>@zdE v hn.1 l l.length (Nat.le_refl _) q
   have hbk:=hB l.length (Nat.le_refl _)
   rw [List.take_length] at hm hbk ⊢
   generalize zbH v l=ps at hr hm hbk ⊢
   try simp -implicitDefEqProofs only [LM1,eq_self,Nat.zero_mul,zag,dl,TB,SB,Int.reduceToNat,Nat.reduceAdd,Nat.reduceEqDiff,Nat.reduceLT,Nat.reduceMod,Nat.reducePow,Nat.reduceSub,if_true,reduceIte]
   rw [zbi]
   refine⟨Nat,fun j=>j≤ps.length,fun j=>[.sl (v.flatMap nC) v.length,.bot,.bot,.bot,.bot,.bot,.bot,.bot,.bot,.bot,.bot,.bot,.bot,.bot,.ref 1 0 (zcN v ps j).length 1,.bot,.bot,.bot,.bot,.bot,.bot,.bot,.bot,.bot,.bot,.bot,.bot,.bot,.bot,.bot,.bot,.bot,.bot,.bot,.bot,.bot,.bot,.bot,.bot,.bot,.bot,.bot,.bot,.bot,.bot,.bot,.bot,.bot,.ref 0 0 ps.length 1,i64 ps.length,i64 j,.bot,.bot,.bot,.bot,.bot,.bot,.bot,.bot,.bot,.bot,.bot],fun j=>[.rw (ps.map i64),.rw ((zcN v ps j).map slNs)],fun j=>ps.length - j,0,Nat.zero_le _,zcv 14 1 rfl (zaf (q:=[0,1]) rfl rfl (by decide) ?_ ?_),?_⟩
   ·refine aQ14 ?_
    exact⟨by rw [zap];rfl,rfl,.inr rfl⟩
   ·refine aQ14 ?_
    simp [zav,zau,renL,zan i64 zac,zcN]
   intro j hj
   have hj:j≤ps.length:=hj
   dsimp only
   by_cases jlt:j < ps.length
   ·have dj:decide ((j:Int) < (ps.length:Int))=true:=decide_eq_true (by omega)
    obtain⟨n,hn1,hn2⟩:=hm (ps.getD j 0) (by rw [List.getD_eq_getElem?_getD,List.getElem?_eq_getElem jlt];exact List.getElem_mem jlt)
    have hst:zcN v ps (j+1)=zcN v ps j++[za8 v n]:=by unfold zcN;rw [zc4 0 jlt,List.map_append,hn1];rfl
    have hln:(zcN v ps j).length=j:=by unfold zcN;rw [List.length_map,List.length_take];omega
    try simp -implicitDefEqProofs only [LM1,eq_self,Nat.zero_mul,zag,dj,TB,SB,Int.reduceToNat,Nat.reduceAdd,Nat.reduceEqDiff,Nat.reduceLT,Nat.reduceMod,Nat.reducePow,Nat.reduceSub,if_true,reduceIte]
    refine⟨by omega,by omega,jlt,?_⟩
    rw [hn1]
    refine(Sub_ok v n hv).pure aQ5 ?_
    rintro _ σ ⟨rfl,rfl⟩
    refine⟨by simp [AEnd.noid,AV.ren,zap],?_⟩
    refine aQ25 ?_
    refine zbd slNs zdY rfl rfl T40 T40 (zfy _) T23 (Go.Eng.one_sl _) (l:=zcN v ps j) (ys:=[za8 v n]) (m:=1) rfl rfl rfl (by omega) (by simp only [tySl];omega) ?_
    refine aQ25 ?_
    refine⟨by unfold inI;omega,?_⟩
    rw [zai]
    refine⟨j+1,by (show j+1≤ps.length);omega,by (show ps.length - (j+1) < ps.length - j);omega,?_⟩
    rw [hst,List.length_append]
    refine zaf (q:=[0,3]) rfl rfl (by decide) ?_ ?_
    ·refine aQ14 ?_
     exact⟨by rw [zap];rfl,.inr (by omega)⟩
    ·refine aQ14 ?_
     simp [-List.map_append,zav,zau,zaN]
   ·obtain rfl:j=ps.length:=by omega
    have dj:decide ((ps.length:Int) < (ps.length:Int))=false:=decide_eq_false (by omega)
    have hsv:zcN v ps ps.length=ps.map fun q=>za8 v q:=by rw [zcN,List.take_length]
    try simp -implicitDefEqProofs only [LM1,eq_self,Nat.zero_mul,zag,dj,TB,SB,Int.reduceToNat,Nat.reduceAdd,Nat.reduceEqDiff,Nat.reduceLT,Nat.reduceMod,Nat.reducePow,Nat.reduceSub,if_true,reduceIte]
    rw [hsv]
    generalize ps.map (fun q=>za8 v q)=L at hr ⊢
    rw [hr]
    simp only [reduceIte]
    refine .inl ⟨[1],.tup [.ref 0 0 L.length 1,i64 0],[.rw (L.map slNs)],rfl,rfl,by simp,by simp [AV.ren,renL,zac],?_,rfl,rfl⟩
    simp [zav,Blk.ren,zaN]
 ·have de:=decide_eq_false he
  try simp -implicitDefEqProofs only [LM1,eq_self,Nat.zero_mul,zag,de,TB,SB,Int.reduceToNat,Nat.reduceAdd,Nat.reduceEqDiff,Nat.reduceLT,Nat.reduceMod,Nat.reducePow,Nat.reduceSub,if_true,reduceIte]
  rw [if_neg he] at hr
  rw [hr]
  simp only [if_neg he]
  exact .inl ⟨[],.tup [.lit (.slice none 0 0),i64 e],[],rfl,rfl,by decide,by simp [AV.ren,renL,zac],trivial,rfl,rfl⟩
theorem PEach_ok (v:List Nd) (s:List UInt8) (hv:v.length≤1000000) (hs:s.length≤9223372036854775807) (hB:∀ k,k≤(za9 v s).1.length→(zbH v ((za9 v s).1.take k)).length≤1000):ACalls Tryz.prog 79 [.sl (v.flatMap nC) v.length,str s] [] (fun y _=>y=.ret (.tup [.sl ((zbw v s).1.map slNs) (zbw v s).1.length,i64 (zbw v s).2])):=by
 refine acalls_post (PEachO_ok v s hv hs hB) ?_
 intro x σ' h
 unfold eachQ at h
 by_cases he:(zbw v s).2=0
 ·rw [if_pos he] at h
  obtain⟨rfl,rfl⟩:=h
  rw [he]
  generalize (zbw v s).1=L
  exact⟨_,.tup [.sl (L.map slNs) L.length,i64 0],[0],rfl,⟨_,rfl,_,_,rfl,zgd rfl,_,_,rfl,.inl rfl,rfl⟩,rfl⟩
 ·rw [if_neg he] at h
  obtain⟨rfl,rfl⟩:=h
  have h0:(zbw v s).1=[]:=by
   unfold zbw at he ⊢
   split
   ·rename_i h1;rw [if_pos h1] at he;exact absurd rfl he
   ·rfl
  rw [h0]
  exact⟨_,.tup [.sl (([]:List (List Nd)).map slNs) ([]:List (List Nd)).length,i64 _],[],rfl,⟨_,rfl,_,_,rfl,.inr ⟨rfl,rfl⟩,_,_,rfl,.inl rfl,rfl⟩,rfl⟩
end Go.Proofs.YtdigkoejfgmecaaGreatDoor
end

section
namespace Go.Proofs.YtdigkoejfgmecaaGreatDoor
open Go Go.Eng
def endP (v:List Nd) (p:Nat):Nat:=p+(za8 v p).length
theorem endP_gt {v:List Nd} {p:Nat} (h:zar v=0) (hp:p < v.length):p < endP v p:=by
 obtain⟨r,hr1,hr2,hr3,hr4⟩:=zgo h hp
 rw [endP,sub_eq h hp hr1,List.length_drop,List.length_take]
 omega
theorem ziX (v:List Nd) (p:Int):(za8 v p).length≤v.length:=by
 unfold za8
 split
 ·rw [List.length_drop,List.length_take]
  omega
 ·exact Nat.zero_le _
def wt (v:List Nd):List Int→Nat
 | []=>0
 | q::l=>(za8 v q).length+wt v l
theorem wt_app (v:List Nd):∀ a b:List Int,wt v (a++b)=wt v a+wt v b
 | [],b=>by simp [wt]
 | q::a,b=>by rw [List.cons_append,wt,wt,wt_app v a b];omega
theorem wt_mem {v:List Nd} {q:Int}:∀ {l:List Int},q∈l→(za8 v q).length≤wt v l
 | [],h=>by cases h
 | a::l,h=>by
  rw [wt]
  rcases List.mem_cons.1 h with rfl | h
  ·omega
  ·have:=wt_mem (v:=v) h
   omega
theorem zij {v:List Nd} {p:Nat} {r:Nat × Nat} (h:zar v=0) (hp:p < v.length) (hr:vl v p=some r):(za8 v p).length=r.1 - p:=by
 have h1:=zbh hr
 rw [sub_eq h hp hr,List.length_drop,List.length_take]
 omega
theorem kid_wt {v:List Nd} {p:Nat} (h:zar v=0) (hp:p < v.length):wt v (zaD v p)≤(za8 v p).length:=by
 obtain⟨r,hr1,hr2,hr3,hr4⟩:=zgo h hp
 obtain⟨n,hK⟩:=zcF hr1
 have hg:v.getD p n0d=n:=zaM hK.node
 rw [zij h hp hr1]
 have key:∀ k,k≤n.kids.toNat→wt v (((List.range k).map fun k=>eAt v (decide (n.kind=5)) p k+bK (decide (n.kind=5))).map Int.ofNat)+(p+1)≤eAt v (decide (n.kind=5)) p k:=by
  intro k
  induction k with
  | zero=>intro _;simp [wt];have:=(hK.inv 0 (Nat.zero_le _)).1;omega
  | succ k ih =>
   intro hk
   have ih:=ih (by omega)
   obtain⟨r',g1,g2,_⟩:=hK.kid (k:=k) (by omega)
   have hl:=zbh g1
   have hsl:=zij h (by omega) g1
   rw [List.range_succ,List.map_append,List.map_append,wt_app]
   simp only [List.map_cons,List.map_nil,wt]
   have e:(za8 v (Int.ofNat (eAt v (decide (n.kind=5)) p k+bK (decide (n.kind=5))))).length=r'.1 - (eAt v (decide (n.kind=5)) p k+bK (decide (n.kind=5))):=hsl
   rw [e,g2]
   omega
 have:=key n.kids.toNat (Nat.le_refl _)
 rw [hK.ends.1] at this
 have hkk:zaD v p=((List.range n.kids.toNat).map fun k=>eAt v (decide (n.kind=5)) p k+bK (decide (n.kind=5))).map Int.ofNat:=by
  rw [zaD,if_pos (ziS h hp),kidP,Int.toNat_natCast,hg]
 rw [hkk]
 omega
theorem find_wt {v:List Nd} {p:Nat} {x:Pt} {q:Int} (h:zar v=0) (hp:p < v.length) (hf:zcg v p x=some q):(za8 v q).length≤(za8 v p).length:=by
 have hm:q∈zaD v p:=by
  have get:∀ i:Nat,i < (zaD v p).length→(zaD v p).getD i 0∈zaD v p:=fun i hi=>by
   rw [List.getD_eq_getElem?_getD,List.getElem?_eq_getElem hi]
   exact List.getElem_mem hi
  unfold zcg at hf
  split at hf
  ·rename_i hc
   cases hf
   exact get _ (by omega)
  ·split at hf
   ·rename_i hc
    cases hf
    have hb:=hc.2.2
    unfold bsF at hb
    rw [Bool.and_eq_true] at hb
    have:=of_decide_eq_true hb.1
    exact get _ (by have:=zhG v p;omega)
   ·cases hf
 exact Nat.le_trans (wt_mem hm) (kid_wt h hp)
theorem zik {v:List Nd} {x:Pt} (h:zar v=0):∀ F:List Int,(∀ q∈F,∃ n:Nat,q=n∧n < v.length)→wt v (zaV v x F)≤wt v F
 | [],_=>Nat.le_refl _
 | f::F,hF=>by
  obtain⟨n,rfl,hn⟩:=hF f (List.mem_cons_self ..)
  have ih:=zik (x:=x) h F fun q hq=>hF q (List.mem_cons_of_mem _ hq)
  unfold zaV at ih ⊢
  rw [List.filterMap_cons,wt,Int.toNat_natCast]
  cases hf:zcg v n x with
  | none=>dsimp only;omega
  | some q =>
   have:=find_wt h hn hf
   dsimp only
   rw [wt]
   omega
theorem spreadV_wt {v:List Nd} {p:Nat} {x:Pt} (h:zar v=0) (hp:p < v.length):wt v (zez v p x)≤(za8 v p).length:=by
 refine Nat.le_trans (zik h (zfH v p x) fun q hq=>from_mem hp hq) ?_
 unfold zfH
 split
 ·exact kid_wt h hp
 ·simp [wt]
theorem stepPs_wt {v:List Nd} {x:Pt} (h:zar v=0):∀ ps:List Int,(∀ q∈ps,∃ n:Nat,q=n∧n < v.length)→wt v (zcC v x ps)≤wt v ps
 | [],_=>Nat.le_refl _
 | q::ps,hq=>by
  obtain⟨n,rfl,hn⟩:=hq q (List.mem_cons_self ..)
  have ih:=stepPs_wt (x:=x) h ps fun q hm=>hq q (List.mem_cons_of_mem _ hm)
  have:=spreadV_wt (x:=x) h hn
  unfold zcC at ih ⊢
  rw [List.flatMap_cons,wt_app,wt,Int.toNat_natCast]
  omega
theorem places_wt {v:List Nd} (h:zar v=0) (l:List Pt):∀ k,k≤l.length→wt v (zbH v (l.take k))≤v.length
 | 0,_=>by
  have:=ziX v 0
  simp only [List.take_zero,zbH,List.foldl_nil,wt]
  omega
 | k+1,hk=>by
  have hn:=zc5 h
  rw [zfg (by omega)]
  exact Nat.le_trans (stepPs_wt h _ fun q hq=>zdE hn.1 (by omega) hq) (places_wt h l k (by omega))
theorem len_wt {v:List Nd} (h:zar v=0):∀ ps:List Int,(∀ q∈ps,∃ n:Nat,q=n∧n < v.length)→ps.length≤wt v ps
 | [],_=>Nat.le_refl _
 | q::ps,hq=>by
  obtain⟨n,rfl,hn⟩:=hq q (List.mem_cons_self ..)
  have ih:=len_wt h ps fun q hm=>hq q (List.mem_cons_of_mem _ hm)
  have hg:=endP_gt h hn
  unfold endP at hg
  rw [List.length_cons,wt]
  omega
theorem zge {v:List Nd} (h:zar v=0) (l:List Pt) (k:Nat) (hk:k≤l.length):(zbH v (l.take k)).length≤v.length :=
 Nat.le_trans (len_wt h _ fun q hq=>zdE (zc5 h).1 hk hq) (places_wt h l k hk)
theorem zil {v:List Nd} {s:List UInt8} (h:(za9 v s).2≠0):(za9 v s).1=[]:=by
 unfold za9 at h ⊢
 split
 ·rename_i he
  rw [if_pos he] at h
  rw [pathV_bad h]
 ·rfl
theorem PEachA_ok (v:List Nd) (s:List UInt8) (hv:v.length≤1000000) (hs:s.length≤9223372036854775807):ACalls Tryz.prog 79 [.sl (v.flatMap nC) v.length,str s] [] (fun y _=>y=.ret (.tup [.sl ((zbw v s).1.map slNs) (zbw v s).1.length,i64 (zbw v s).2])) :=
 PEach_ok v s hv hs fun k hk=>by
  by_cases h:(za9 v s).2=0
  ·have he:=(zey h).1
   have:=zge he (za9 v s).1 k hk
   have:=zc5 he
   omega
  ·rw [zil h] at hk ⊢
   simp [zbH]
theorem PEachOA_ok (v:List Nd) (s:List UInt8) (hv:v.length≤1000000) (hs:s.length≤9223372036854775807):ACalls Tryz.prog 79 [.sl (v.flatMap nC) v.length,str s] [] (eachQ v s) :=
 PEachO_ok v s hv hs fun k hk=>by
  by_cases h:(za9 v s).2=0
  ·have he:=(zey h).1
   have:=zge he (za9 v s).1 k hk
   have:=zc5 he
   omega
  ·rw [zil h] at hk ⊢
   simp [zbH]
end Go.Proofs.YtdigkoejfgmecaaGreatDoor
end

