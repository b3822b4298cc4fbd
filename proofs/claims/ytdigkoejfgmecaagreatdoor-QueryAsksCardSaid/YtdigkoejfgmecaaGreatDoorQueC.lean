/-
  Where steps lead. No condition.
-/
import Derived.Test.YtdigkoejfgmecaaGreatDoorQueB
set_option linter.unusedSimpArgs false
set_option linter.unusedVariables false
set_option linter.unusedSectionVars false
section
namespace Go.Eng
open Go
theorem aQ4 {P:Prop} (e:P:=by simp [AV.ren,renL,zac,zay]):P:=e
theorem aQ5 {P:Prop} (e:P:=by simp [renL,AV.ren,zcF,zai,zac]):P:=e
theorem aQ6 {P:Prop} (e:P:=by simp [renL,AV.ren,zcF,zai,zac,zaj]):P:=e
theorem aQ7 {P:Prop} (e:P:=by simp [renL,AV.ren,zcF,zai,zaj]):P:=e
theorem aQ30 {P Q:Prop} (h:Q) (e:P=Q:=by first|(simp -implicitDefEqProofs only [LM3,eq_self,Nat.zero_mul,lzS,bx_P,dza,dzb,TB,SB,Int.reduceToNat,Nat.reduceAdd,Nat.reduceEqDiff,Nat.reduceLT,Nat.reduceMod,Nat.reducePow,Nat.reduceSub,if_true,reduceIte];first|done|exact rfl)|exact rfl):P:=e ▸ h
theorem aQ31 {P Q:Prop} (h:Q) (e:P=Q:=by first|(simp -implicitDefEqProofs only [LM1,eq_self,Nat.zero_mul,lzS,bx_P,TB,SB,Int.reduceToNat,Nat.reduceAdd,Nat.reduceEqDiff,Nat.reduceLT,Nat.reduceMod,Nat.reducePow,Nat.reduceSub,if_true,reduceIte];first|done|exact rfl)|exact rfl):P:=e ▸ h
theorem aQ32 {P Q:Prop} (h:Q) (e:P=Q:=by first|(simp -implicitDefEqProofs only [LM1,eq_self,Nat.zero_mul,lzS,bx_P,dza,dzb,TB,SB,Int.reduceToNat,Nat.reduceAdd,Nat.reduceEqDiff,Nat.reduceLT,Nat.reduceMod,Nat.reducePow,Nat.reduceSub,if_true,reduceIte];first|done|exact rfl)|exact rfl):P:=e ▸ h
theorem aQ33 {P Q:Prop} (h:Q) (e:P=Q:=by first|(simp -implicitDefEqProofs only [LM1,eq_self,Nat.zero_mul,lzS,bx_P,dza,TB,SB,Int.reduceToNat,Nat.reduceAdd,Nat.reduceEqDiff,Nat.reduceLT,Nat.reduceMod,Nat.reducePow,Nat.reduceSub,if_true,reduceIte];first|done|exact rfl)|exact rfl):P:=e ▸ h
theorem aQ34 {P Q:Prop} (h:Q) (e:P=Q:=by first|(simp -implicitDefEqProofs only [LM1,eq_self,Nat.zero_mul,lzS,bx_P,Option.isSome_none,TB,SB,Int.reduceToNat,Nat.reduceAdd,Nat.reduceEqDiff,Nat.reduceLT,Nat.reduceMod,Nat.reducePow,Nat.reduceSub,if_true,reduceIte];first|done|exact rfl)|exact rfl):P:=e ▸ h
theorem aQ35 {P Q:Prop} (h:Q) (e:P=Q:=by first|(simp -implicitDefEqProofs only [LM1,eq_self,Nat.zero_mul,lzS,bx_P,Option.isSome_some,Option.getD_some,TB,SB,Int.reduceToNat,Nat.reduceAdd,Nat.reduceEqDiff,Nat.reduceLT,Nat.reduceMod,Nat.reducePow,Nat.reduceSub,if_true,reduceIte];first|done|exact rfl)|exact rfl):P:=e ▸ h
theorem aQ36 {P Q:Prop} (h:Q) (e:P=Q:=by first|(simp [-List.map_append,zaw,zar,renL,zaj,zac,zam i64 zac];first|done|exact rfl)|exact rfl):P:=e ▸ h
theorem aQ37 {P Q:Prop} (h:Q) (e:P=Q:=by first|(simp -implicitDefEqProofs only [LM1,eq_self,Nat.zero_mul,lzS,bx_P,zat,TB,SB,Int.reduceToNat,Nat.reduceAdd,Nat.reduceEqDiff,Nat.reduceLT,Nat.reduceMod,Nat.reducePow,Nat.reduceSub,if_true,reduceIte];first|done|exact rfl)|exact rfl):P:=e ▸ h
theorem aQ38 {P Q:Prop} (h:Q) (e:P=Q:=by first|(simp -implicitDefEqProofs only [LM1,eq_self,Nat.zero_mul,lzS,bx_P,zat,dza,TB,SB,Int.reduceToNat,Nat.reduceAdd,Nat.reduceEqDiff,Nat.reduceLT,Nat.reduceMod,Nat.reducePow,Nat.reduceSub,if_true,reduceIte];first|done|exact rfl)|exact rfl):P:=e ▸ h
theorem aQ39 {P Q:Prop} (h:Q) (e:P=Q:=by first|(simp [-List.map_append,zaw,zar,zal];first|done|exact rfl)|exact rfl):P:=e ▸ h
end Go.Eng
end

section
namespace Go.Proofs.YtdigkoejfgmecaaGreatDoor
open Go Go.Eng
theorem zbR {α:Type} {l:List α} {k:Nat} (d:α) (h:k < l.length):l.take (k+1)=l.take k++[l.getD k d]:=by
 rw [List.take_succ_eq_append_getElem h,List.getD_eq_getElem?_getD,List.getElem?_eq_getElem h]
 rfl
theorem cnan_ok (s:List UInt8):ACalls Tryz.prog 131 [str s] [] (fun y _=>y=.ret (bl false)):=by
 refine ACalls.body T_ok Tryz.func131 (by kernel_rfl) rfl Tryz.ntmps131 (congrArg Array.toList Tryz.results131) ?_
 refine aQ25 ?_
 refine zaq ?_
 simp
theorem snan_ok (s:List UInt8):ACalls Tryz.prog 170 [str s] [] (fun y _=>y=.ret (bl false)):=by
 refine ACalls.body T_ok Tryz.func170 (by kernel_rfl) rfl Tryz.ntmps170 (congrArg Array.toList Tryz.results170) ?_
 refine aQ25 ?_
 refine zaq ?_
 simp
theorem less_ok (a b:List UInt8):ACalls Tryz.prog 169 [str a,str b] [] (fun y _=>y=.ret (bl (Op.bytesLess a b))):=by
 refine ACalls.body T_ok Tryz.func169 (by kernel_rfl) rfl Tryz.ntmps169 (congrArg Array.toList Tryz.results169) ?_
 refine aQ25 ?_
 refine(cnan_ok a).pure (by simp [renL,zaj]) ?_
 rintro _ σ rfl
 refine⟨zay _ _,?_⟩
 refine aQ25 ?_
 exact zaq rfl
def bsI (L:List (List UInt8)) (key:List UInt8):Nat→Nat→Nat→Nat
 | 0,i,_=>i
 | n+1,i,j=>if i < j then (if Op.bytesLess (L.getD ((i+j) / 2) []) key then bsI L key n ((i+j) / 2+1) j else bsI L key n i ((i+j) / 2)) else i
def bsV (L:List (List UInt8)) (key:List UInt8):Nat:=bsI L key L.length 0 L.length
def bsF (L:List (List UInt8)) (key:List UInt8):Bool:=decide (bsV L key < L.length) && decide (L.getD (bsV L key) []=key)
theorem zhj (L:List (List UInt8)) (key:List UInt8):∀ (n m i j:Nat),j - i≤n→j - i≤m→bsI L key n i j=bsI L key m i j
 | 0,0,_,_,_,_=>rfl
 | 0,m+1,i,j,h,_=>by rw [bsI,bsI,if_neg (by omega)]
 | n+1,0,i,j,_,h=>by rw [bsI,bsI,if_neg (by omega)]
 | n+1,m+1,i,j,h,g=>by
  rw [bsI,bsI]
  split
  ·split
   ·exact zhj L key n m _ _ (by omega) (by omega)
   ·exact zhj L key n m _ _ (by omega) (by omega)
  ·rfl
theorem bsearch_ok (L:List (List UInt8)) (key:List UInt8) (hL:L.length≤1000000):ACalls Tryz.prog 138 [.sl (L.map str) L.length,str key] [] (fun y _=>y=.ret (.tup [i64 (bsV L key),bl (bsF L key)])):=by
 refine ACalls.body T_ok Tryz.func138 (by kernel_rfl) rfl Tryz.ntmps138 (congrArg Array.toList Tryz.results138) ?_
 refine aQ25 ?_
 rw [zaK]
 refine⟨Nat × Nat,fun x=>x.1≤x.2∧x.2≤L.length∧bsV L key=bsI L key (x.2 - x.1) x.1 x.2,fun x=>[.sl (L.map str) L.length,str key,.bot,.bot,.bot,.bot,i64 L.length,i64 x.1,i64 x.2,.bot,.bot,.bot,.bot,.bot,.bot,.bot,.bot,.bot,.bot,.bot,.bot,.bot,.bot,.bot,.bot,.bot,.bot,.bot,.bot,.bot,.bot,.bot,.bot,.bot,.bot,.bot,.bot,.bot,.bot,.bot,.bot,.bot,.bot,.bot,.bot,.bot,.bot,.bot,.bot,.bot,.bot,.bot,.bot,.bot],fun _=>[],fun x=>x.2 - x.1,(0,L.length),⟨Nat.zero_le _,Nat.le_refl _,rfl⟩,zab (q:=[]) rfl rfl (by decide) ?_ ?_,?_⟩
 ·refine aQ18 ?_
  try exact⟨by rw [zam str zaj];rfl,.inr rfl⟩
 ·first|exact aQ18 trivial|refine aQ18 ?_
 rintro⟨i,j⟩ ⟨h1,h2,h3⟩
 dsimp only at h1 h2 h3 ⊢
 by_cases hlt:i < j
 ·have dl:decide ((i:Int) < (j:Int))=true:=decide_eq_true (by omega)
  have eh:(BitVec.ofInt 64 ((i:Int)+(j:Int)) >>> 1).toNat=(i+j) / 2:=by
   rw [show ((i:Int)+(j:Int))=((i+j:Nat):Int) by omega,BitVec.ofInt_natCast,BitVec.toNat_ushiftRight,BitVec.toNat_ofNat,Nat.shiftRight_eq_div_pow]
   omega
  have hw:IntKind.i64.wrap (((i+j) / 2:Nat):Int)=(((i+j) / 2:Nat):Int):=by
   simp [IntKind.wrap,IntKind.bits,IntKind.signed]
   omega
  have dza:=dl
  refine aQ26 ?_
  refine⟨by unfold inI;omega,?_⟩
  rw [zbk,eh,hw]
  obtain⟨h,hh⟩:∃ h,h=(i+j) / 2:=⟨_,rfl⟩
  rw [← hh]
  refine aQ25 ?_
  refine⟨by omega,by omega,by omega,?_⟩
  refine(less_ok _ _).pure (by simp [renL,zaj]) ?_
  rintro _ σ rfl
  refine⟨zay _ _,?_⟩
  have hs:bsI L key (j - i) i j=if Op.bytesLess (L.getD h []) key then bsI L key (j - (h+1)) (h+1) j else bsI L key (h - i) i h:=by
   obtain⟨n,hn⟩:∃ n,j - i=n+1:=⟨j - i - 1,by omega⟩
   rw [hn,bsI,if_pos hlt,← hh]
   split
   ·exact zhj L key _ _ _ _ (by omega) (Nat.le_refl _)
   ·exact zhj L key _ _ _ _ (by omega) (Nat.le_refl _)
  cases hb:Op.bytesLess (L.getD h []) key with
  | true =>
   rw [hb,if_pos rfl] at hs
   refine aQ25 ?_
   refine⟨by unfold inI;omega,?_⟩
   rw [zad]
   refine⟨(h+1,j),⟨by omega,h2,by rw [h3,hs]⟩,by (show j - (h+1) < j - i);omega,zab (q:=[]) rfl rfl (by decide) ?_ ?_⟩
   ·refine aQ18 ?_
    exact⟨by rw [zam str zaj];rfl,.inr (by omega)⟩
   ·first|exact aQ18 trivial|refine aQ18 ?_
  | false =>
   rw [hb,if_neg (by decide)] at hs
   refine aQ25 ?_
   rw [zad]
   refine⟨(i,h),⟨by omega,by (show h≤L.length);omega,by rw [h3,hs]⟩,by (show h - i < j - i);omega,zab (q:=[]) rfl rfl (by decide) ?_ ?_⟩
   ·refine aQ18 ?_
    rw [zam str zaj]
    rfl
   ·first|exact aQ18 trivial|refine aQ18 ?_
 ·have dl:decide ((i:Int) < (j:Int))=false:=decide_eq_false (by omega)
  have hi:bsV L key=i:=by rw [h3,show j - i=0 by omega];rfl
  have hend:∀ c:Bool,c=bsF L key→∀ σ:zaa,endQ 0 (.tup [i64 i,bl c]) σ (fun r _=>AEnd.ret r=.ret (.tup [i64 (bsV L key),bl (bsF L key)])):=fun c hc σ=>zaF aQ4 (by rw [hc,hi])
  by_cases hin:i < L.length
  ·have d1:decide ((i:Int) < (L.length:Int))=true:=decide_eq_true (by omega)
   by_cases hk:L.getD i []=key
   ·have d2:=decide_eq_true hk
    have dza:=dl
    have dzb:=d1
    refine aQ30 ?_
    refine⟨by omega,by omega,hin,?_⟩
    rw [d2]
    refine aQ25 ?_
    exact hend _ (by rw [bsF,hi,decide_eq_true hin,decide_eq_true hk];rfl) _
   ·have d2:=decide_eq_false hk
    have dza:=dl
    have dzb:=d1
    refine aQ30 ?_
    refine⟨by omega,by omega,hin,?_⟩
    rw [d2]
    refine aQ25 ?_
    refine⟨by omega,by omega,hin,?_⟩
    refine(snan_ok _).pure (by simp [renL,zaj]) ?_
    rintro _ σ rfl
    refine⟨zay _ _,?_⟩
    refine aQ25 ?_
    exact hend _ (by rw [bsF,hi,decide_eq_false hk,Bool.and_false]) _
  ·have d1:decide ((i:Int) < (L.length:Int))=false:=decide_eq_false (by omega)
   have dza:=dl
   have dzb:=d1
   refine aQ30 ?_
   exact hend _ (by rw [bsF,hi,decide_eq_false hin,Bool.false_and]) _
set_option linter.defProp false in
def LB11:=And.intro (zam i64 zac) (And.intro (zam str zaj) (And.intro @zbY (And.intro @zac (And.intro @zaj (And.intro @zbt (And.intro @zay (And.intro @zcO (@zcs))))))))
set_option linter.defProp false in
def LM1:=And.intro LM0 (And.intro LB5 (And.intro LB7 (And.intro LB8 (And.intro LB9 (LB10)))))
def kdOf (v:List Nd) (p:Nat):Int:=(v.getD p n0d).kind
def zaZ (v:List Nd) (p:Nat) (x:Pt):Option Int :=
 if kdOf v p=4∧0≤x.pos∧x.pos < (zax v p).length then some ((zax v p).getD x.pos.toNat 0)
 else if kdOf v p=5∧x.pos < 0∧bsF (za4 v p) x.key=true then some ((zax v p).getD (bsV (za4 v p) x.key) 0) else none
def optI:Option Int→AV
 | some q=>.tup [i64 q,bl true]
 | none=>.tup [i64 0,bl false]
theorem zgh (v:List Nd) (p:Nat):(za4 v p).length≤(zax v p).length:=by
 unfold za4 zax
 split
 ·rename_i h
  rw [Bool.and_eq_true] at h
  rw [if_pos h.1]
  simp [kidP]
 ·exact Nat.zero_le _
theorem zde (v:List Nd) (p:Int) (hv:v.length≤1000000):(zax v p).length≤1000000:=by
 unfold zax
 split
 ·rename_i h
  obtain⟨h0,hp0,hp1⟩:=zd9 h
  obtain⟨r,hr1,hr2,hr3,hr4⟩:=zg1 h0 (p:=p.toNat) (by omega)
  obtain⟨n,hK⟩:=zbN hr1
  have f:=hK.few
  have hg:v.getD p.toNat n0d=n:=zav hK.node
  rw [List.length_map,kidP,List.length_map,List.length_range,hg]
  omega
 ·simp
theorem zeZ {v:List Nd} {p:Nat} {x:Pt} (h:zaZ v p x=none) (σ:zaa):endQ 0 (.tup [i64 0,bl false]) σ (fun r _=>AEnd.ret r=.ret (optI (zaZ v p x))):=zaF aQ4 (by rw [h];rfl)
theorem find_ok (v:List Nd) (p:Nat) (x:Pt) (hv:v.length≤1000000) (hp:p < v.length):ACalls Tryz.prog 92 [.sl (v.flatMap nC) v.length,i64 p,ptA x] [] (fun y _=>y=.ret (optI (zaZ v p x))):=by
 have hkl:=zde v p hv
 have hkk:=zgh v p
 rw [ziW]
 obtain⟨xk,xp⟩:=x
 refine ACalls.body T_ok Tryz.func92 (by kernel_rfl) rfl Tryz.ntmps92 (congrArg Array.toList Tryz.results92) ?_
 refine aQ31 ?_
 refine(zjE v p hv).pure aQ5 ?_
 rintro _ σ ⟨rfl,rfl⟩
 refine⟨by simp [AEnd.noid,AV.ren,zam i64 zac],?_⟩
 refine aQ31 ?_
 refine⟨by omega,by omega,Nat.le_refl _,hp,?_⟩
 by_cases k4:(v.getD p n0d).kind=4
 ·have d4:=decide_eq_true k4
  have d5:decide ((v.getD p n0d).kind=5)=false:=decide_eq_false (by omega)
  have n5:¬ kdOf v p=5:=by unfold kdOf;omega
  rw [d4]
  by_cases x0:0≤xp
  ·obtain⟨u,rfl⟩:=Int.eq_ofNat_of_zero_le x0
   by_cases x1:(u:Int) < ((zax v p).length:Int)
   ·have dx1:=decide_eq_true x1
    have hf:zaZ v p ⟨xk,u⟩=some ((zax v p).getD u 0):=by rw [zaZ,if_pos ⟨k4,x0,x1⟩];rfl
    have dza:=decide_eq_true x0
    have dzb:=dx1
    refine aQ32 ?_
    refine⟨by omega,by omega,by omega,?_⟩
    exact zaF aQ4 (by rw [hf];rfl)
   ·have dx1:=decide_eq_false x1
    have hf:zaZ v p ⟨xk,u⟩=none:=by rw [zaZ,if_neg (fun h=>x1 h.2.2),if_neg (fun h=>n5 h.1)]
    have dza:=decide_eq_true x0
    have dzb:=dx1
    refine aQ32 ?_
    refine⟨by omega,by omega,Nat.le_refl _,hp,?_⟩
    rw [d5]
    refine aQ31 ?_
    exact zeZ hf _
  ·have dx:=decide_eq_false x0
   have hf:zaZ v p ⟨xk,xp⟩=none:=by rw [zaZ,if_neg (fun h=>x0 h.2.1),if_neg (fun h=>n5 h.1)]
   have dza:=dx
   refine aQ33 ?_
   refine⟨by omega,by omega,Nat.le_refl _,hp,?_⟩
   rw [d5]
   refine aQ31 ?_
   exact zeZ hf _
 ·have d4:=decide_eq_false k4
  have n4:¬ kdOf v p=4:=by unfold kdOf;exact k4
  rw [d4]
  refine aQ31 ?_
  refine⟨by omega,by omega,Nat.le_refl _,hp,?_⟩
  by_cases k5:(v.getD p n0d).kind=5
  ·have d5:=decide_eq_true k5
   rw [d5]
   by_cases x0:xp < 0
   ·have hK:ACalls Tryz.prog 27 [.sl (v.flatMap nC) v.length,i64 p] [] (fun y _=>y=.ret (.sl ((za4 v p).map str) (za4 v p).length)):=(Keys_ok v p hv).mono fun _ _ h=>h.1
    have dza:=decide_eq_true x0
    refine aQ33 ?_
    refine zcw (by kernel_rfl) (by kernel_rfl) ?_
    refine aQ31 ?_
    refine zcg hK aQ5 (by simp [AEnd.noid,AV.ren,zam str zaj]) ?_
    refine aQ31 ?_
    refine zcg (bsearch_ok (za4 v p) xk (by omega)) (by first | rfl | simp [LB11,renL,AV.ren,zam u32 zbY,zam u64 zbt]) (by first | rfl | simp [LB11,AEnd.noid,renL,AV.ren,zam u32 zbY,zam u64 zbt]) ?_
    refine aQ31 ?_
    cases hb:bsF (za4 v p) xk with
    | false =>
     have hf:zaZ v p ⟨xk,xp⟩=none:=by rw [zaZ,if_neg (fun h=>n4 h.1),if_neg (fun h=>by rw [hb] at h;cases h.2.2)]
     refine aQ31 ?_
     exact zeZ hf _
    | true =>
     have hf:zaZ v p ⟨xk,xp⟩=some ((zax v p).getD (bsV (za4 v p) xk) 0):=by rw [zaZ,if_neg (fun h=>n4 h.1),if_pos ⟨k5,x0,hb⟩]
     have hlt:bsV (za4 v p) xk < (za4 v p).length:=by
      unfold bsF at hb
      rw [Bool.and_eq_true] at hb
      exact of_decide_eq_true hb.1
     refine aQ31 ?_
     refine⟨by omega,by omega,by omega,?_⟩
     exact zaF aQ4 (by rw [hf];rfl)
   ·have dx:=decide_eq_false x0
    have hf:zaZ v p ⟨xk,xp⟩=none:=by rw [zaZ,if_neg (fun h=>n4 h.1),if_neg (fun h=>x0 h.2.1)]
    have dza:=dx
    refine aQ33 ?_
    exact zeZ hf _
  ·have d5:=decide_eq_false k5
   have hf:zaZ v p ⟨xk,xp⟩=none:=by rw [zaZ,if_neg (fun h=>n4 h.1),if_neg (fun h=>k5 h.1)]
   rw [d5]
   refine aQ31 ?_
   exact zeZ hf _
set_option linter.defProp false in
def LB12:=And.intro @zar (And.intro @bren_ro (And.intro @bren_rt (And.intro @bren_dead (And.intro @bren_lp (And.intro @ren_nilS (And.intro @bren_mpi (And.intro @ziV (And.intro @zcF (And.intro @ren_slN (And.intro @zey (And.intro @zkb (And.intro @zai (And.intro @zch (And.intro @zez (And.intro @ren_ptA (@zfb))))))))))))))))
theorem zdf {v:List Nd} {p:Int} {q:Int} (h:q∈zax v p):∃ n:Nat,q=n∧n < v.length:=by
 unfold zax at h
 split at h
 ·rename_i h0
  obtain⟨h0,hp0,hp1⟩:=zd9 h0
  obtain⟨r,hr1,hr2,hr3,hr4⟩:=zg1 h0 (p:=p.toNat) (by omega)
  obtain⟨n,hK⟩:=zbN hr1
  have hg:v.getD p.toNat n0d=n:=zav hK.node
  rw [List.mem_map] at h
  obtain⟨m,hm,rfl⟩:=h
  refine⟨m,rfl,?_⟩
  rw [kidP,List.mem_map,hg] at hm
  obtain⟨k,hk,rfl⟩:=hm
  rw [List.mem_range] at hk
  obtain⟨r',g1,_⟩:=hK.kid hk
  obtain⟨m,g⟩:=zbN g1
  exact g.few.2.2.2
 ·cases h
theorem zjI {v:List Nd} {p:Nat} {x:Pt} {q:Int} (h:zaZ v p x=some q):∃ n:Nat,q=n∧n < v.length:=by
 have get:∀ i:Nat,i < (zax v p).length→∃ n:Nat,(zax v p).getD i 0=n∧n < v.length:=fun i hi=>by
  rw [List.getD_eq_getElem?_getD,List.getElem?_eq_getElem hi]
  exact zdf (List.getElem_mem hi)
 unfold zaZ at h
 split at h
 ·rename_i hc
  cases h
  exact get _ (by omega)
 ·split at h
  ·rename_i hc
   cases h
   have hb:=hc.2.2
   unfold bsF at hb
   rw [Bool.and_eq_true] at hb
   have:=of_decide_eq_true hb.1
   exact get _ (by have:=zgh v p;omega)
  ·cases h
theorem pathV_len (s:List UInt8):(zcI s).1.length≤120:=by
 by_cases h:(zcI s).2=0
 ·have hp:zcI s=((zcI s).1,0):=Prod.ext rfl h
  obtain⟨g1,g2,g3⟩:=ziZ hp
  have:=shP_len (zcI s).1 true (List.all_eq_true.1 g2)
  rw [← g1] at this
  omega
 ·rw [pathV_bad h];simp
theorem za1 {l:List Nd} (h:zau l=0):0 < l.length∧l.length≤120:=by
 unfold zau at h
 split at h
 ·cases h
 ·rename_i h1
  split at h
  ·rename_i r hr
   obtain⟨n,hK⟩:=zbN hr
   have:=hK.few
   omega
  ·cases h
def zaU (v:List Nd) (s:List UInt8):List Pt × Int:=if zau v=0 then zcI s else ([],zau v)
theorem steps_ok (v:List Nd) (s:List UInt8) (hv:v.length≤1000000) (hs:s.length≤9223372036854775807):ACalls Tryz.prog 50 [.sl (v.flatMap nC) v.length,str s] [] (fun y _=>y=.ret (.tup [slP (zaU v s).1,i64 (zaU v s).2])):=by
 refine ACalls.body T_ok Tryz.func50 (by kernel_rfl) rfl Tryz.ntmps50 (congrArg Array.toList Tryz.results50) ?_
 refine aQ31 ?_
 refine(zhh v hv).pure (by simp [renL,AV.ren,zcF,zai]) ?_
 rintro _ σ ⟨rfl,rfl⟩
 refine⟨zac _ _,?_⟩
 by_cases he:zau v=0
 ·have de:=decide_eq_true he
  have dza:=de
  refine aQ33 ?_
  refine(Ppath_ok s hs).pure (by simp [renL,zaj]) ?_
  rintro _ σ rfl
  refine⟨by simp [AEnd.noid,AV.ren,renL,zez,zac],?_⟩
  refine aQ31 ?_
  exact zic (l:=(zcI s).1) [] rfl (by rw [zaU,if_pos he])
 ·have de:=decide_eq_false he
  have dza:=de
  refine aQ33 ?_
  exact zic [] zg2 (by rw [zaU,if_neg he])
theorem zdA {v:List Nd} {s:List UInt8} (h:(zaU v s).2=0):zau v=0∧zaU v s=zcI s:=by
 unfold zaU at h ⊢
 split at h
 ·rename_i he
  exact⟨he,by rw [if_pos he]⟩
 ·rename_i he
  exact absurd h he
theorem stepsV_len (v:List Nd) (s:List UInt8):(zaU v s).1.length≤120:=by
 unfold zaU
 split
 ·exact pathV_len s
 ·exact Nat.zero_le _
def zeG (v:List Nd) (p:Nat) (x:Pt):List Int:=if kdOf v p=4∧x.pos < 0 then zax v p else [(p:Int)]
def zaT (v:List Nd) (x:Pt) (l:List Int):List Int:=l.filterMap fun f=>zaZ v f.toNat x
def zbO (v:List Nd) (p:Nat) (x:Pt):List Int:=zaT v x (zeG v p x)
theorem optI_eq (o:Option Int):optI o=.tup [i64 (o.getD 0),bl o.isSome]:=by cases o <;> rfl
theorem from_mem {v:List Nd} {p:Nat} {x:Pt} {q:Int} (hp:p < v.length) (h:q∈zeG v p x):∃ n:Nat,q=n∧n < v.length:=by
 unfold zeG at h
 split at h
 ·exact zdf h
 ·rw [List.mem_singleton] at h
  exact⟨p,h,hp⟩
theorem zi0 {v:List Nd} {x:Pt} {l:List Int} {q:Int} (h:q∈zaT v x l):∃ n:Nat,q=n∧n < v.length:=by
 unfold zaT at h
 rw [List.mem_filterMap] at h
 obtain⟨f,_,hf⟩:=h
 exact zjI hf
theorem zfM {v:List Nd} {x:Pt} {l:List Int} {k:Nat} (hk:k < l.length):zaT v x (l.take (k+1))=match zaZ v (l.getD k 0).toNat x with | some q=>zaT v x (l.take k)++[q] | none=>zaT v x (l.take k):=by
 rw [zbR 0 hk]
 unfold zaT
 rw [List.filterMap_append]
 generalize l.getD k 0=a
 cases h:zaZ v a.toNat x <;> simp [h]
theorem zgQ (v:List Nd) (x:Pt) (l:List Int) (k:Nat):(zaT v x (l.take k)).length≤k:=by
 unfold zaT
 exact Nat.le_trans (List.length_filterMap_le _ _) (by rw [List.length_take];omega)
theorem from_len (v:List Nd) (p:Nat) (x:Pt) (hv:v.length≤1000000):(zeG v p x).length≤1000000:=by
 unfold zeG
 split
 ·exact zde v p hv
 ·simp
theorem spread_ok (v:List Nd) (p:Nat) (x:Pt) (hv:v.length≤1000000) (hp:p < v.length):ACalls Tryz.prog 119 [.sl (v.flatMap nC) v.length,i64 p,ptA x] [] (fun y _=>y=.ret (.sl ((zbO v p x).map i64) (zbO v p x).length)):=by
 have hfl:=from_len v p x hv
 have hfm:=fun q=>@from_mem v p x q hp
 have hkl:=zde v p hv
 have hvs:zbO v p x=zaT v x (zeG v p x):=rfl
 rw [ziW]
 refine ACalls.body T_ok Tryz.func119 (by kernel_rfl) rfl Tryz.ntmps119 (congrArg Array.toList Tryz.results119) ?_
 refine aQ31 ?_
 refine⟨by omega,by omega,Nat.le_refl _,hp,?_⟩
 by_cases hc:(v.getD p n0d).kind=4∧x.pos < 0
 ·obtain⟨k4,x0⟩:=hc
  have hF:zeG v p x=zax v p:=by rw [zeG,if_pos ⟨k4,x0⟩]
  have d4:=decide_eq_true k4
  rw [d4]
  have dza:=decide_eq_true x0
  refine aQ33 ?_
  refine(zjE v p hv).pure aQ5 ?_
  rintro _ σ ⟨rfl,rfl⟩
  refine⟨by simp [AEnd.noid,AV.ren,zam i64 zac],?_⟩
  rw [← hF,hvs]
  clear hvs hF
  generalize zeG v p x=F at hfl hfm ⊢
  refine aQ31 ?_
  rw [zaK]
  refine⟨Nat,fun k=>k≤F.length,fun k=>[.sl (v.flatMap nC) v.length,.bot,.bot,.bot,.bot,.ptr 0 0,.bot,.bot,.ref 1 0 (zaT v x (F.take k)).length 1,.bot,.bot,.bot,.bot,.bot,.bot,.bot,.bot,.bot,.bot,.bot,.bot,.bot,.bot,.bot,.bot,.bot,.bot,.bot,.bot,.sl (F.map i64) F.length,i64 F.length,i64 k,.bot,.bot,.bot,.bot,.bot,.bot,.bot,.bot,.bot,.bot,.bot,.bot,.bot,.bot,.bot,.bot,.bot],fun k=>[.rw [str x.key,i64 x.pos],.rw ((zaT v x (F.take k)).map i64)],fun k=>F.length - k,0,Nat.zero_le _,zbv 8 1 rfl (zab (q:=[0,2]) rfl rfl (by decide) ?_ ?_),?_⟩
  ·refine aQ18 ?_
   exact⟨by rw [zai];rfl,by simp [zaT],.inr rfl⟩
  ·refine aQ18 ?_
   simp [zaw,zar,renL,zaj,zac,zaT]
  intro k hk
  have hk:k≤F.length:=hk
  dsimp only
  by_cases hlt:k < F.length
  ·have dl:decide ((k:Int) < (F.length:Int))=true:=decide_eq_true (by omega)
   have hst:=zfM (v:=v) (x:=x) hlt
   have hsl:=zgQ v x F k
   obtain⟨n,hn,hn2⟩:=hfm (F.getD k 0) (by rw [List.getD_eq_getElem?_getD,List.getElem?_eq_getElem hlt];exact List.getElem_mem hlt)
   have hfo:=find_ok v n x hv hn2
   rw [hn,Int.toNat_natCast] at hst
   rw [ziW,optI_eq] at hfo
   have dza:=dl
   refine aQ33 ?_
   refine⟨by omega,by omega,hlt,?_⟩
   rw [hn]
   refine hfo.pure aQ6 ?_
   rintro _ σ rfl
   refine⟨by simp [AEnd.noid,AV.ren,renL,zac,zay],?_⟩
   cases ho:zaZ v n x with
   | none =>
    rw [ho] at hst
    refine aQ34 ?_
    refine⟨by unfold inI;omega,?_⟩
    rw [zad]
    refine⟨k+1,by (show k+1≤F.length);omega,by (show F.length - (k+1) < F.length - k);omega,?_⟩
    rw [hst]
    refine zab (q:=[0,1]) rfl rfl (by decide) ?_ ?_
    ·refine aQ18 ?_
     exact⟨by rw [zai];rfl,.inr (by omega)⟩
    ·refine aQ18 ?_
     simp [zaw,zar,renL,zaj,zac,zam i64 zac]
   | some q =>
    rw [ho] at hst
    refine aQ35 ?_
    refine zaG i64 zgC rfl rfl T31 T31 (zc5 _) T3 zc4 (l:=zaT v x (F.take k)) (ys:=[q]) (m:=1) rfl rfl rfl (by omega) (by simp only [zaC];omega) ?_
    refine aQ31 ?_
    refine⟨by unfold inI;omega,?_⟩
    rw [zad]
    refine⟨k+1,by (show k+1≤F.length);omega,by (show F.length - (k+1) < F.length - k);omega,?_⟩
    rw [hst]
    dsimp only
    rw [List.length_append]
    refine zab (q:=[0,3]) rfl rfl (by decide) ?_ ?_
    ·refine aQ18 ?_
     exact⟨by rw [zai];rfl,.inr (by omega)⟩
    ·refine aQ18 ?_
     exact aQ36 trivial
  ·obtain rfl:k=F.length:=by omega
   have dl:decide ((F.length:Int) < (F.length:Int))=false:=decide_eq_false (by omega)
   rw [List.take_length]
   have dza:=dl
   refine aQ33 ?_
   refine zfC rfl (by rw [List.length_map];omega) (zam i64 zac _ _) ?_
   rw [List.drop_zero,List.take_of_length_le (by rw [List.length_map];omega)]
 ·have hF:zeG v p x=[(p:Int)]:=by rw [zeG,if_neg (show ¬ (kdOf v p=4∧x.pos < 0) from hc)]
  rw [hvs]
  clear hvs
  generalize zeG v p x=F at hfl hfm hF ⊢
  by_cases k4:(v.getD p n0d).kind=4
  ·have x0:¬ x.pos < 0:=fun h=>hc ⟨k4,h⟩
   rw [decide_eq_true k4]
   have dza:=decide_eq_false x0
   refine aQ33 ?_
   rw [zaK]
   refine⟨Nat,fun k=>k≤F.length,fun k=>[.sl (v.flatMap nC) v.length,.bot,.bot,.bot,.bot,.ptr 0 0,.bot,.bot,.ref 1 0 (zaT v x (F.take k)).length 1,.bot,.bot,.bot,.bot,.bot,.bot,.bot,.bot,.bot,.bot,.bot,.bot,.bot,.bot,.bot,.bot,.bot,.bot,.bot,.bot,.sl (F.map i64) F.length,i64 F.length,i64 k,.bot,.bot,.bot,.bot,.bot,.bot,.bot,.bot,.bot,.bot,.bot,.bot,.bot,.bot,.bot,.bot,.bot],fun k=>[.rw [str x.key,i64 x.pos],.rw ((zaT v x (F.take k)).map i64)],fun k=>F.length - k,0,Nat.zero_le _,fits_frz 29 rfl rfl (by simp) (zbv 8 1 rfl (zab (q:=[0,2]) rfl rfl (by decide) ?_ ?_)),?_⟩
   ·refine aQ18 ?_
    exact⟨by rw [zai];rfl,by simp [zaT],⟨by rw [hF];rfl,by rw [hF];rfl⟩,.inr (by rw [hF];rfl),.inr rfl⟩
   ·refine aQ18 ?_
    simp [zaw,zar,renL,zaj,zac,zaT]
   intro k hk
   have hk:k≤F.length:=hk
   dsimp only
   by_cases hlt:k < F.length
   ·have dl:decide ((k:Int) < (F.length:Int))=true:=decide_eq_true (by omega)
    have hst:=zfM (v:=v) (x:=x) hlt
    have hsl:=zgQ v x F k
    obtain⟨n,hn,hn2⟩:=hfm (F.getD k 0) (by rw [List.getD_eq_getElem?_getD,List.getElem?_eq_getElem hlt];exact List.getElem_mem hlt)
    have hfo:=find_ok v n x hv hn2
    rw [hn,Int.toNat_natCast] at hst
    rw [ziW,optI_eq] at hfo
    have dza:=dl
    refine aQ33 ?_
    refine⟨by omega,by omega,hlt,?_⟩
    rw [hn]
    refine hfo.pure aQ6 ?_
    rintro _ σ rfl
    refine⟨by simp [AEnd.noid,AV.ren,renL,zac,zay],?_⟩
    cases ho:zaZ v n x with
    | none =>
     rw [ho] at hst
     refine aQ34 ?_
     refine⟨by unfold inI;omega,?_⟩
     rw [zad]
     refine⟨k+1,by (show k+1≤F.length);omega,by (show F.length - (k+1) < F.length - k);omega,?_⟩
     rw [hst]
     refine zab (q:=[0,1]) rfl rfl (by decide) ?_ ?_
     ·refine aQ18 ?_
      exact⟨by rw [zai];rfl,.inr (by omega)⟩
     ·refine aQ18 ?_
      simp [zaw,zar,renL,zaj,zac,zam i64 zac]
    | some q =>
     rw [ho] at hst
     refine aQ35 ?_
     refine zaG i64 zgC rfl rfl T31 T31 (zc5 _) T3 zc4 (l:=zaT v x (F.take k)) (ys:=[q]) (m:=1) rfl rfl rfl (by omega) (by simp only [zaC];omega) ?_
     refine aQ31 ?_
     refine⟨by unfold inI;omega,?_⟩
     rw [zad]
     refine⟨k+1,by (show k+1≤F.length);omega,by (show F.length - (k+1) < F.length - k);omega,?_⟩
     rw [hst]
     dsimp only
     rw [List.length_append]
     refine zab (q:=[0,3]) rfl rfl (by decide) ?_ ?_
     ·refine aQ18 ?_
      exact⟨by rw [zai];rfl,.inr (by omega)⟩
     ·refine aQ18 ?_
      exact aQ36 trivial
   ·obtain rfl:k=F.length:=by omega
    have dl:decide ((F.length:Int) < (F.length:Int))=false:=decide_eq_false (by omega)
    rw [List.take_length]
    have dza:=dl
    refine aQ33 ?_
    refine zfC rfl (by rw [List.length_map];omega) (zam i64 zac _ _) ?_
    rw [List.drop_zero,List.take_of_length_le (by rw [List.length_map];omega)]
  ·rw [decide_eq_false k4]
   refine aQ31 ?_
   rw [zaK]
   refine⟨Nat,fun k=>k≤F.length,fun k=>[.sl (v.flatMap nC) v.length,.bot,.bot,.bot,.bot,.ptr 0 0,.bot,.bot,.ref 1 0 (zaT v x (F.take k)).length 1,.bot,.bot,.bot,.bot,.bot,.bot,.bot,.bot,.bot,.bot,.bot,.bot,.bot,.bot,.bot,.bot,.bot,.bot,.bot,.bot,.sl (F.map i64) F.length,i64 F.length,i64 k,.bot,.bot,.bot,.bot,.bot,.bot,.bot,.bot,.bot,.bot,.bot,.bot,.bot,.bot,.bot,.bot,.bot],fun k=>[.rw [str x.key,i64 x.pos],.rw ((zaT v x (F.take k)).map i64)],fun k=>F.length - k,0,Nat.zero_le _,fits_frz 29 rfl rfl (by simp) (zbv 8 1 rfl (zab (q:=[0,2]) rfl rfl (by decide) ?_ ?_)),?_⟩
   ·refine aQ18 ?_
    exact⟨by rw [zai];rfl,by simp [zaT],⟨by rw [hF];rfl,by rw [hF];rfl⟩,.inr (by rw [hF];rfl),.inr rfl⟩
   ·refine aQ18 ?_
    simp [zaw,zar,renL,zaj,zac,zaT]
   intro k hk
   have hk:k≤F.length:=hk
   dsimp only
   by_cases hlt:k < F.length
   ·have dl:decide ((k:Int) < (F.length:Int))=true:=decide_eq_true (by omega)
    have hst:=zfM (v:=v) (x:=x) hlt
    have hsl:=zgQ v x F k
    obtain⟨n,hn,hn2⟩:=hfm (F.getD k 0) (by rw [List.getD_eq_getElem?_getD,List.getElem?_eq_getElem hlt];exact List.getElem_mem hlt)
    have hfo:=find_ok v n x hv hn2
    rw [hn,Int.toNat_natCast] at hst
    rw [ziW,optI_eq] at hfo
    have dza:=dl
    refine aQ33 ?_
    refine⟨by omega,by omega,hlt,?_⟩
    rw [hn]
    refine hfo.pure aQ6 ?_
    rintro _ σ rfl
    refine⟨by simp [AEnd.noid,AV.ren,renL,zac,zay],?_⟩
    cases ho:zaZ v n x with
    | none =>
     rw [ho] at hst
     refine aQ34 ?_
     refine⟨by unfold inI;omega,?_⟩
     rw [zad]
     refine⟨k+1,by (show k+1≤F.length);omega,by (show F.length - (k+1) < F.length - k);omega,?_⟩
     rw [hst]
     refine zab (q:=[0,1]) rfl rfl (by decide) ?_ ?_
     ·refine aQ18 ?_
      exact⟨by rw [zai];rfl,.inr (by omega)⟩
     ·refine aQ18 ?_
      simp [zaw,zar,renL,zaj,zac,zam i64 zac]
    | some q =>
     rw [ho] at hst
     refine aQ35 ?_
     refine zaG i64 zgC rfl rfl T31 T31 (zc5 _) T3 zc4 (l:=zaT v x (F.take k)) (ys:=[q]) (m:=1) rfl rfl rfl (by omega) (by simp only [zaC];omega) ?_
     refine aQ31 ?_
     refine⟨by unfold inI;omega,?_⟩
     rw [zad]
     refine⟨k+1,by (show k+1≤F.length);omega,by (show F.length - (k+1) < F.length - k);omega,?_⟩
     rw [hst]
     dsimp only
     rw [List.length_append]
     refine zab (q:=[0,3]) rfl rfl (by decide) ?_ ?_
     ·refine aQ18 ?_
      exact⟨by rw [zai];rfl,.inr (by omega)⟩
     ·refine aQ18 ?_
      exact aQ36 trivial
   ·obtain rfl:k=F.length:=by omega
    have dl:decide ((F.length:Int) < (F.length:Int))=false:=decide_eq_false (by omega)
    rw [List.take_length]
    have dza:=dl
    refine aQ33 ?_
    refine zfC rfl (by rw [List.length_map];omega) (zam i64 zac _ _) ?_
    rw [List.drop_zero,List.take_of_length_le (by rw [List.length_map];omega)]
theorem cellsSl (cs:List AV) (n:Nat):(AV.sl cs n).cells=[AV.sl cs n]:=rfl
theorem zdB {σ:zaa} {i:Nat} {L:List (List Nd)} (h:σ[i]?=some (.ro (L.map slNs))):frzA σ (.ref i 0 L.length 1) (.sl (L.map slNs) L.length) :=
 .inr ⟨_,h,by simp,by rw [List.drop_zero,Nat.mul_one,List.take_of_length_le (by simp)]⟩
theorem zat (e:TypeId) (cs:List AV) (m:Nat) (σ:zaa) (KS:AV→zaa→Prop):bs2 (some (tySl e)) 1 [(0,.sl cs m)] σ KS=KS (.ref σ.length 0 1 1) (σ++[.rw [.sl cs m]]):=by
 simp [bs2,tySl,zbo,zbz,za0,List.range_succ,one_sl,cellsSl]
def zbq (v:List Nd) (ps:List Int) (j:Nat):List (List Nd):=(ps.take j).map fun q=>zaz v q
def zci (v:List Nd) (x:Pt) (ps:List Int):List Int:=ps.flatMap fun q=>zbO v q.toNat x
def zbP (v:List Nd) (l:List Pt):List Int:=l.foldl (fun ps x=>zci v x ps) [0]
def za2 (v:List Nd) (s:List UInt8):List (List Nd) × Int:=if (zaU v s).2=0 then ((zbP v (zaU v s).1).map fun q=>zaz v q,0) else ([],(zaU v s).2)
theorem zfN {v:List Nd} {l:List Pt} {k:Nat} (hk:k < l.length):zbP v (l.take (k+1))=zci v (l.getD k pt0) (zbP v (l.take k)):=by
 rw [zbR pt0 hk]
 unfold zbP
 rw [List.foldl_append]
 rfl
theorem stepPs_take {v:List Nd} {x:Pt} {ps:List Int} {j:Nat} (hj:j < ps.length):zci v x (ps.take (j+1))=zci v x (ps.take j)++zbO v (ps.getD j 0).toNat x:=by
 rw [zbR 0 hj]
 unfold zci
 rw [List.flatMap_append]
 simp
theorem stepPs_le (v:List Nd) (x:Pt) (ps:List Int) (j:Nat):(zci v x (ps.take j)).length≤(zci v x ps).length:=by
 conv=>rhs;rw [← List.take_append_drop j ps]
 unfold zci
 rw [List.flatMap_append,List.length_append]
 omega
theorem stepPs_mem {v:List Nd} {x:Pt} {ps:List Int} {q:Int} (h:q∈zci v x ps):∃ n:Nat,q=n∧n < v.length:=by
 unfold zci at h
 rw [List.mem_flatMap] at h
 obtain⟨a,_,h⟩:=h
 exact zi0 h
theorem zdi {v:List Nd} (h0:0 < v.length) {l:List Pt} {k:Nat} (hk:k≤l.length) {q:Int} (h:q∈zbP v (l.take k)):∃ n:Nat,q=n∧n < v.length:=by
 cases k with
 | zero =>
  simp only [List.take_zero,zbP,List.foldl_nil,List.mem_singleton] at h
  exact⟨0,h,h0⟩
 | succ k =>
  rw [zfN (by omega)] at h
  exact stepPs_mem h
theorem asrcI {σ:zaa} (l:List Int):asrc σ 1 (.sl (l.map i64) l.length)=some (l.map i64,l.length):=by
 simp [asrc,asl,List.take_of_length_le]
theorem acalls_post {P : Program} {f : FuncId} {a9 : List AV} {σ : zaa} {K K' : AEnd → zaa → Prop} (h : ACalls P f a9 σ K) (hk : ∀ x σ', K x σ' → ∃ (r r1 : AV) (ids : List Nat), x = .ret r ∧ frzA (zdX σ' ids) r r1 ∧ K' (.ret r1) (zdX σ' ids)) : ACalls P f a9 σ K' := by
 refine fun H w m vs hg hs hr=>CallsR.mono (h H w m vs hg hs hr) ?_
 rintro e w' ⟨x, m', σ', g1, g2, g3, g4⟩
 obtain⟨r,r1,ids,rfl,hf,hk'⟩:=hk _ _ g4
 obtain ⟨s1, x1⟩ := zcP (w := w') (m := m') ids σ' g1
 refine ⟨.ret r1, m', zdX σ' ids, s1, g2.trans x1, ?_, hk'⟩
 cases e with
 | returned v=>exact zdY s1 r r1 v hf (zaP x1 _ _ g3)
 | panicked v=>exact g3.elim
 | outgrown=>exact g3.elim
def eachQ (v:List Nd) (s:List UInt8) (y:AEnd) (σ:zaa):Prop:=if (za2 v s).2=0 then y=.ret (.tup [.ref 0 0 (za2 v s).1.length 1,i64 0])∧σ=[.rw ((za2 v s).1.map slNs)] else y=.ret (.tup [.lit (.slice none 0 0),i64 (za2 v s).2])∧σ=[]
theorem PEachO_ok (v:List Nd) (s:List UInt8) (hv:v.length≤1000000) (hs:s.length≤9223372036854775807) (hB:∀ k,k≤(zaU v s).1.length→(zbP v ((zaU v s).1.take k)).length≤1000):ACalls Tryz.prog 79 [.sl (v.flatMap nC) v.length,str s] [] (eachQ v s):=by
 unfold eachQ
 refine ACalls.body T_ok Tryz.func79 (by kernel_rfl) rfl Tryz.ntmps79 (congrArg Array.toList Tryz.results79) ?_
 refine aQ37 ?_
 refine(steps_ok v s hv hs).pure aQ7 ?_
 rintro _ σ rfl
 refine⟨by simp [AEnd.noid,AV.ren,renL,zez,zac],?_⟩
 rw [slP_eq]
 have hl:=stepsV_len v s
 have hr:za2 v s=if (zaU v s).2=0 then ((zbP v (zaU v s).1).map fun q=>zaz v q,0) else ([],(zaU v s).2):=rfl
 have hok:=@zdA v s
 generalize zaU v s=X at hl hr hok hB ⊢
 obtain⟨l,e⟩:=X
 dsimp only at hl hr hok hB ⊢
 by_cases he:e=0
 ·have de:=decide_eq_true he
  have hn:=za1 (hok he).1
  rw [if_pos he] at hr
  have dza:=de
  refine aQ38 ?_
  rw [zaK]
  refine⟨Nat,fun k=>k≤l.length,fun k=>[.sl (v.flatMap nC) v.length,.bot,.bot,.bot,.bot,.bot,.sl (l.flatMap ptC) l.length,.bot,.ref 0 0 (zbP v (l.take k)).length 1,.bot,.bot,.bot,.bot,.bot,.bot,.bot,.bot,.bot,.bot,.bot,.bot,.bot,.bot,.bot,.bot,.bot,.bot,.sl (l.flatMap ptC) l.length,i64 l.length,i64 k,.bot,.bot,.bot,.bot,.bot,.bot,.bot,.bot,.bot,.bot,.bot,.bot,.bot,.bot,.bot,.bot,.bot,.bot,.bot,.bot,.bot,.bot,.bot,.bot,.bot,.bot,.bot,.bot,.bot,.bot,.bot,.bot],fun k=>[.rw ((zbP v (l.take k)).map i64)],fun k=>l.length - k,0,Nat.zero_le _,zab (q:=[0]) rfl rfl (by decide) ?_ ?_,?_⟩
  ·refine aQ18 ?_
   exact⟨by rw [zai];rfl,by rw [zch];rfl,rfl,by rw [zch];rfl,.inr rfl⟩
  ·refine aQ18 ?_
   rfl
  intro k hk
  have hk:k≤l.length:=hk
  dsimp only
  by_cases hlt:k < l.length
  ·have dl:decide ((k:Int) < (l.length:Int))=true:=decide_eq_true (by omega)
   have hpt:=zfN (v:=v) hlt
   have hb1:=hB (k+1) hlt
   rw [hpt] at hb1
   have hm:=fun q=>@zdi v hn.1 l k hk q
   have hbk:=hB k hk
   generalize zbP v (l.take k)=ps at hpt hb1 hm hbk ⊢
   have dza:=dl
   refine aQ38 ?_
   refine⟨by omega,by omega,Nat.le_refl _,hlt,?_⟩
   generalize l.getD k pt0=x at hb1 hpt ⊢
   rw [zaK]
   refine⟨Nat,fun j=>j≤ps.length,fun j=>[.sl (v.flatMap nC) v.length,.bot,.bot,.bot,.bot,.bot,.sl (l.flatMap ptC) l.length,.bot,.bot,.bot,.ptr 1 0,.ref 2 0 (zci v x (ps.take j)).length 1,.bot,.bot,.bot,.bot,.bot,.bot,.bot,.bot,.bot,.bot,.bot,.bot,.bot,.bot,.bot,.sl (l.flatMap ptC) l.length,i64 l.length,i64 k,.bot,.bot,.bot,.ref 0 0 ps.length 1,i64 ps.length,i64 j,.bot,.bot,.bot,.bot,.bot,.bot,.bot,.bot,.bot,.bot,.bot,.bot,.bot,.bot,.bot,.bot,.bot,.bot,.bot,.bot,.bot,.bot,.bot,.bot,.bot,.bot],fun j=>[.rw (ps.map i64),.rw [str x.key,i64 x.pos],.rw ((zci v x (ps.take j)).map i64)],fun j=>ps.length - j,0,Nat.zero_le _,zbv 11 1 rfl (zab (q:=[0,1,2]) rfl rfl (by decide) ?_ ?_),?_⟩
   ·refine aQ18 ?_
    exact⟨by rw [zai];rfl,by rw [zch];rfl,by simp [zci],by rw [zch];rfl,.inr rfl⟩
   ·refine aQ18 ?_
    simp [zaw,zar,renL,zaj,zac,zam i64 zac,zci]
   intro j hj
   have hj:j≤ps.length:=hj
   dsimp only
   by_cases jlt:j < ps.length
   ·have dj:decide ((j:Int) < (ps.length:Int))=true:=decide_eq_true (by omega)
    have hst:=stepPs_take (v:=v) (x:=x) jlt
    have hle:=stepPs_le v x ps (j+1)
    obtain⟨n,hn1,hn2⟩:=hm (ps.getD j 0) (by rw [List.getD_eq_getElem?_getD,List.getElem?_eq_getElem jlt];exact List.getElem_mem jlt)
    have hso:=spread_ok v n x hv hn2
    rw [hn1,Int.toNat_natCast] at hst
    rw [hst,List.length_append] at hle
    rw [ziW] at hso
    have dza:=dj
    refine aQ38 ?_
    refine⟨by omega,by omega,jlt,?_⟩
    rw [hn1]
    refine hso.pure aQ6 ?_
    rintro _ σ rfl
    refine⟨by simp [AEnd.noid,AV.ren,zam i64 zac],?_⟩
    refine aQ37 ?_
    refine zaG i64 zgC rfl rfl T31 T31 (zc5 _) T3 zc4 (l:=zci v x (ps.take j)) (ys:=zbO v n x) (m:=(zbO v n x).length) rfl rfl (asrcI _) (by omega) (by simp only [zaC];omega) ?_
    refine aQ37 ?_
    refine⟨by unfold inI;omega,?_⟩
    rw [zad]
    refine⟨j+1,by (show j+1≤ps.length);omega,by (show ps.length - (j+1) < ps.length - j);omega,?_⟩
    rw [hst,List.length_append]
    refine zab (q:=[0,1,3]) rfl rfl (by decide) ?_ ?_
    ·refine aQ18 ?_
     exact⟨by rw [zai];rfl,by rw [zch];rfl,by rw [zch];rfl,.inr (by omega)⟩
    ·refine aQ18 ?_
     exact aQ36 trivial
   ·obtain rfl:j=ps.length:=by omega
    have dj:decide ((ps.length:Int) < (ps.length:Int))=false:=decide_eq_false (by omega)
    rw [List.take_length]
    have dza:=dj
    refine aQ38 ?_
    refine⟨by unfold inI;omega,?_⟩
    rw [zad]
    refine⟨k+1,by (show k+1≤l.length);omega,by (show l.length - (k+1) < l.length - k);omega,?_⟩
    rw [hpt]
    refine zab (q:=[2]) rfl rfl (by decide) ?_ ?_
    ·refine aQ18 ?_
     exact⟨by rw [zai];rfl,by rw [zch];rfl,by rw [zch];rfl,.inr (by omega)⟩
    ·first|exact aQ18 trivial|refine aQ18 ?_
  ·obtain rfl:k=l.length:=by omega
   have dl:decide ((l.length:Int) < (l.length:Int))=false:=decide_eq_false (by omega)
   have hm:=fun q=>@zdi v hn.1 l l.length (Nat.le_refl _) q
   have hbk:=hB l.length (Nat.le_refl _)
   rw [List.take_length] at hm hbk ⊢
   generalize zbP v l=ps at hr hm hbk ⊢
   have dza:=dl
   refine aQ38 ?_
   rw [zaK]
   refine⟨Nat,fun j=>j≤ps.length,fun j=>[.sl (v.flatMap nC) v.length,.bot,.bot,.bot,.bot,.bot,.bot,.bot,.bot,.bot,.bot,.bot,.bot,.bot,.ref 1 0 (zbq v ps j).length 1,.bot,.bot,.bot,.bot,.bot,.bot,.bot,.bot,.bot,.bot,.bot,.bot,.bot,.bot,.bot,.bot,.bot,.bot,.bot,.bot,.bot,.bot,.bot,.bot,.bot,.bot,.bot,.bot,.bot,.bot,.bot,.bot,.bot,.ref 0 0 ps.length 1,i64 ps.length,i64 j,.bot,.bot,.bot,.bot,.bot,.bot,.bot,.bot,.bot,.bot,.bot],fun j=>[.rw (ps.map i64),.rw ((zbq v ps j).map slNs)],fun j=>ps.length - j,0,Nat.zero_le _,zbv 14 1 rfl (zab (q:=[0,1]) rfl rfl (by decide) ?_ ?_),?_⟩
   ·refine aQ18 ?_
    exact⟨by rw [zai];rfl,rfl,.inr rfl⟩
   ·refine aQ18 ?_
    simp [zaw,zar,renL,zam i64 zac,zbq]
   intro j hj
   have hj:j≤ps.length:=hj
   dsimp only
   by_cases jlt:j < ps.length
   ·have dj:decide ((j:Int) < (ps.length:Int))=true:=decide_eq_true (by omega)
    obtain⟨n,hn1,hn2⟩:=hm (ps.getD j 0) (by rw [List.getD_eq_getElem?_getD,List.getElem?_eq_getElem jlt];exact List.getElem_mem jlt)
    have hst:zbq v ps (j+1)=zbq v ps j++[zaz v n]:=by unfold zbq;rw [zbR 0 jlt,List.map_append,hn1];rfl
    have hln:(zbq v ps j).length=j:=by unfold zbq;rw [List.length_map,List.length_take];omega
    have dza:=dj
    refine aQ38 ?_
    refine⟨by omega,by omega,jlt,?_⟩
    rw [hn1]
    refine(Sub_ok v n hv).pure aQ5 ?_
    rintro _ σ ⟨rfl,rfl⟩
    refine⟨by simp [AEnd.noid,AV.ren,zai],?_⟩
    refine aQ37 ?_
    refine zaG slNs zbC rfl rfl T40 T40 (zc5 _) T23 (Go.Eng.one_sl _) (l:=zbq v ps j) (ys:=[zaz v n]) (m:=1) rfl rfl rfl (by omega) (by simp only [tySl];omega) ?_
    refine aQ37 ?_
    refine⟨by unfold inI;omega,?_⟩
    rw [zad]
    refine⟨j+1,by (show j+1≤ps.length);omega,by (show ps.length - (j+1) < ps.length - j);omega,?_⟩
    rw [hst,List.length_append]
    refine zab (q:=[0,3]) rfl rfl (by decide) ?_ ?_
    ·refine aQ18 ?_
     exact⟨by rw [zai];rfl,.inr (by omega)⟩
    ·refine aQ18 ?_
     exact aQ39 trivial
   ·obtain rfl:j=ps.length:=by omega
    have dj:decide ((ps.length:Int) < (ps.length:Int))=false:=decide_eq_false (by omega)
    have hsv:zbq v ps ps.length=ps.map fun q=>zaz v q:=by rw [zbq,List.take_length]
    have dza:=dj
    refine aQ38 ?_
    rw [hsv]
    generalize ps.map (fun q=>zaz v q)=L at hr ⊢
    rw [hr]
    simp only [reduceIte]
    refine .inl ⟨[1],.tup [.ref 0 0 L.length 1,i64 0],[.rw (L.map slNs)],rfl,rfl,by simp,by simp [AV.ren,renL,zac],?_,rfl,rfl⟩
    simp [zaw,Blk.ren,zal]
 ·have de:=decide_eq_false he
  have dza:=de
  refine aQ38 ?_
  rw [if_neg he] at hr
  rw [hr]
  simp only [if_neg he]
  exact .inl ⟨[],.tup [.lit (.slice none 0 0),i64 e],[],rfl,rfl,by decide,by simp [AV.ren,renL,zac],trivial,rfl,rfl⟩
theorem PEach_ok (v:List Nd) (s:List UInt8) (hv:v.length≤1000000) (hs:s.length≤9223372036854775807) (hB:∀ k,k≤(zaU v s).1.length→(zbP v ((zaU v s).1.take k)).length≤1000):ACalls Tryz.prog 79 [.sl (v.flatMap nC) v.length,str s] [] (fun y _=>y=.ret (.tup [.sl ((za2 v s).1.map slNs) (za2 v s).1.length,i64 (za2 v s).2])):=by
 refine acalls_post (PEachO_ok v s hv hs hB) ?_
 intro x σ' h
 unfold eachQ at h
 by_cases he:(za2 v s).2=0
 ·rw [if_pos he] at h
  obtain⟨rfl,rfl⟩:=h
  rw [he]
  generalize (za2 v s).1=L
  exact⟨_,.tup [.sl (L.map slNs) L.length,i64 0],[0],rfl,⟨_,rfl,_,_,rfl,zdB rfl,_,_,rfl,.inl rfl,rfl⟩,rfl⟩
 ·rw [if_neg he] at h
  obtain⟨rfl,rfl⟩:=h
  have h0:(za2 v s).1=[]:=by
   unfold za2 at he ⊢
   split
   ·rename_i h1;rw [if_pos h1] at he;exact absurd rfl he
   ·rfl
  rw [h0]
  exact⟨_,.tup [.sl (([]:List (List Nd)).map slNs) ([]:List (List Nd)).length,i64 _],[],rfl,⟨_,rfl,_,_,rfl,.inr ⟨rfl,rfl⟩,_,_,rfl,.inl rfl,rfl⟩,rfl⟩
def endP (v:List Nd) (p:Nat):Nat:=p+(zaz v p).length
theorem endP_gt {v:List Nd} {p:Nat} (h:zau v=0) (hp:p < v.length):p < endP v p:=by
 obtain⟨r,hr1,hr2,hr3,hr4⟩:=zg1 h hp
 rw [endP,zdL h hp hr1,List.length_drop,List.length_take]
 omega
theorem zgR (v:List Nd) (p:Int):(zaz v p).length≤v.length:=by
 unfold zaz
 split
 ·rw [List.length_drop,List.length_take]
  omega
 ·exact Nat.zero_le _
def wt (v:List Nd):List Int→Nat
 | []=>0
 | q::l=>(zaz v q).length+wt v l
theorem wt_app (v:List Nd):∀ a b:List Int,wt v (a++b)=wt v a+wt v b
 | [],b=>by simp [wt]
 | q::a,b=>by rw [List.cons_append,wt,wt,wt_app v a b];omega
theorem wt_mem {v:List Nd} {q:Int}:∀ {l:List Int},q∈l→(zaz v q).length≤wt v l
 | [],h=>by cases h
 | a::l,h=>by
  rw [wt]
  rcases List.mem_cons.1 h with rfl | h
  ·omega
  ·have:=wt_mem (v:=v) h
   omega
theorem zi1 {v:List Nd} {p:Nat} {r:Nat × Nat} (h:zau v=0) (hp:p < v.length) (hr:vl v p=some r):(zaz v p).length=r.1 - p:=by
 have h1:=zaR hr
 rw [zdL h hp hr,List.length_drop,List.length_take]
 omega
theorem kid_wt {v:List Nd} {p:Nat} (h:zau v=0) (hp:p < v.length):wt v (zax v p)≤(zaz v p).length:=by
 obtain⟨r,hr1,hr2,hr3,hr4⟩:=zg1 h hp
 obtain⟨n,hK⟩:=zbN hr1
 have hg:v.getD p n0d=n:=zav hK.node
 rw [zi1 h hp hr1]
 have key:∀ k,k≤n.kids.toNat→wt v (((List.range k).map fun k=>eAt v (decide (n.kind=5)) p k+bK (decide (n.kind=5))).map Int.ofNat)+(p+1)≤eAt v (decide (n.kind=5)) p k:=by
  intro k
  induction k with
  | zero=>intro _;simp [wt];have:=(hK.inv 0 (Nat.zero_le _)).1;omega
  | succ k ih =>
   intro hk
   have ih:=ih (by omega)
   obtain⟨r',g1,g2,_⟩:=hK.kid (k:=k) (by omega)
   have hl:=zaR g1
   have hsl:=zi1 h (by omega) g1
   rw [List.range_succ,List.map_append,List.map_append,wt_app]
   simp only [List.map_cons,List.map_nil,wt]
   have e:(zaz v (Int.ofNat (eAt v (decide (n.kind=5)) p k+bK (decide (n.kind=5))))).length=r'.1 - (eAt v (decide (n.kind=5)) p k+bK (decide (n.kind=5))):=hsl
   rw [e,g2]
   omega
 have:=key n.kids.toNat (Nat.le_refl _)
 rw [hK.ends.1] at this
 have hkk:zax v p=((List.range n.kids.toNat).map fun k=>eAt v (decide (n.kind=5)) p k+bK (decide (n.kind=5))).map Int.ofNat:=by
  rw [zax,if_pos (zdd h hp),kidP,Int.toNat_natCast,hg]
 rw [hkk]
 omega
theorem find_wt {v:List Nd} {p:Nat} {x:Pt} {q:Int} (h:zau v=0) (hp:p < v.length) (hf:zaZ v p x=some q):(zaz v q).length≤(zaz v p).length:=by
 have hm:q∈zax v p:=by
  have get:∀ i:Nat,i < (zax v p).length→(zax v p).getD i 0∈zax v p:=fun i hi=>by
   rw [List.getD_eq_getElem?_getD,List.getElem?_eq_getElem hi]
   exact List.getElem_mem hi
  unfold zaZ at hf
  split at hf
  ·rename_i hc
   cases hf
   exact get _ (by omega)
  ·split at hf
   ·rename_i hc
    cases hf
    have hb:=hc.2.2
    unfold bsF at hb
    rw [Bool.and_eq_true] at hb
    have:=of_decide_eq_true hb.1
    exact get _ (by have:=zgh v p;omega)
   ·cases hf
 exact Nat.le_trans (wt_mem hm) (kid_wt h hp)
theorem zi2 {v:List Nd} {x:Pt} (h:zau v=0):∀ F:List Int,(∀ q∈F,∃ n:Nat,q=n∧n < v.length)→wt v (zaT v x F)≤wt v F
 | [],_=>Nat.le_refl _
 | f::F,hF=>by
  obtain⟨n,rfl,hn⟩:=hF f (List.mem_cons_self ..)
  have ih:=zi2 (x:=x) h F fun q hq=>hF q (List.mem_cons_of_mem _ hq)
  unfold zaT at ih ⊢
  rw [List.filterMap_cons,wt,Int.toNat_natCast]
  cases hf:zaZ v n x with
  | none=>dsimp only;omega
  | some q =>
   have:=find_wt h hn hf
   dsimp only
   rw [wt]
   omega
theorem spreadV_wt {v:List Nd} {p:Nat} {x:Pt} (h:zau v=0) (hp:p < v.length):wt v (zbO v p x)≤(zaz v p).length:=by
 refine Nat.le_trans (zi2 h (zeG v p x) fun q hq=>from_mem hp hq) ?_
 unfold zeG
 split
 ·exact kid_wt h hp
 ·simp [wt]
theorem stepPs_wt {v:List Nd} {x:Pt} (h:zau v=0):∀ ps:List Int,(∀ q∈ps,∃ n:Nat,q=n∧n < v.length)→wt v (zci v x ps)≤wt v ps
 | [],_=>Nat.le_refl _
 | q::ps,hq=>by
  obtain⟨n,rfl,hn⟩:=hq q (List.mem_cons_self ..)
  have ih:=stepPs_wt (x:=x) h ps fun q hm=>hq q (List.mem_cons_of_mem _ hm)
  have:=spreadV_wt (x:=x) h hn
  unfold zci at ih ⊢
  rw [List.flatMap_cons,wt_app,wt,Int.toNat_natCast]
  omega
theorem places_wt {v:List Nd} (h:zau v=0) (l:List Pt):∀ k,k≤l.length→wt v (zbP v (l.take k))≤v.length
 | 0,_=>by
  have:=zgR v 0
  simp only [List.take_zero,zbP,List.foldl_nil,wt]
  omega
 | k+1,hk=>by
  have hn:=za1 h
  rw [zfN (by omega)]
  exact Nat.le_trans (stepPs_wt h _ fun q hq=>zdi hn.1 (by omega) hq) (places_wt h l k (by omega))
theorem len_wt {v:List Nd} (h:zau v=0):∀ ps:List Int,(∀ q∈ps,∃ n:Nat,q=n∧n < v.length)→ps.length≤wt v ps
 | [],_=>Nat.le_refl _
 | q::ps,hq=>by
  obtain⟨n,rfl,hn⟩:=hq q (List.mem_cons_self ..)
  have ih:=len_wt h ps fun q hm=>hq q (List.mem_cons_of_mem _ hm)
  have hg:=endP_gt h hn
  unfold endP at hg
  rw [List.length_cons,wt]
  omega
theorem zfc {v:List Nd} (h:zau v=0) (l:List Pt) (k:Nat) (hk:k≤l.length):(zbP v (l.take k)).length≤v.length :=
 Nat.le_trans (len_wt h _ fun q hq=>zdi (za1 h).1 hk hq) (places_wt h l k hk)
theorem zi3 {v:List Nd} {s:List UInt8} (h:(zaU v s).2≠0):(zaU v s).1=[]:=by
 unfold zaU at h ⊢
 split
 ·rename_i he
  rw [if_pos he] at h
  rw [pathV_bad h]
 ·rfl
theorem PEachA_ok (v:List Nd) (s:List UInt8) (hv:v.length≤1000000) (hs:s.length≤9223372036854775807):ACalls Tryz.prog 79 [.sl (v.flatMap nC) v.length,str s] [] (fun y _=>y=.ret (.tup [.sl ((za2 v s).1.map slNs) (za2 v s).1.length,i64 (za2 v s).2])) :=
 PEach_ok v s hv hs fun k hk=>by
  by_cases h:(zaU v s).2=0
  ·have he:=(zdA h).1
   have:=zfc he (zaU v s).1 k hk
   have:=za1 he
   omega
  ·rw [zi3 h] at hk ⊢
   simp [zbP]
theorem PEachOA_ok (v:List Nd) (s:List UInt8) (hv:v.length≤1000000) (hs:s.length≤9223372036854775807):ACalls Tryz.prog 79 [.sl (v.flatMap nC) v.length,str s] [] (eachQ v s) :=
 PEachO_ok v s hv hs fun k hk=>by
  by_cases h:(zaU v s).2=0
  ·have he:=(zdA h).1
   have:=zfc he (zaU v s).1 k hk
   have:=za1 he
   omega
  ·rw [zi3 h] at hk ⊢
   simp [zbP]
end Go.Proofs.YtdigkoejfgmecaaGreatDoor
end

