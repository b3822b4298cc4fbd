/-
  Two rows in order, one behind the other. No condition.
-/
import Derived.Test.YtnghkomgefieoaaGreatDoorShrH
set_option linter.unusedSimpArgs false
set_option linter.unusedVariables false
set_option linter.unusedSectionVars false
section
namespace Go.Proofs.YtnghkomgefieoaaGreatDoor
open Go Go.Eng
def SymOK (n:Nat):Prop:=∀ (X A B Y:List Mem),A.length+B.length≤n→1≤A.length→1≤B.length→Asc A→Asc B→X.length+A.length+B.length+Y.length≤1000000 →
 ACalls Tryz.prog 146 [.ref 0 0 (X.length+A.length+B.length+Y.length) 2,i64 X.length,i64 ((X.length+A.length:Nat):Int),i64 ((X.length+A.length+B.length:Nat):Int),zb6] [.rw ((X++(A++(B++Y))).flatMap mbC)] (fun z σ=>z=.ret (.tup [])∧σ=[.rw ((X++(zaT (A++B)++Y)).flatMap mbC)])
theorem sym_rest {n:Nat} (ih:SymOK n) {X A B Y:List Mem} (hn:A.length+B.length≤n+1) (hA2:2≤A.length) (hB2:2≤B.length) (hA:Asc A) (hB:Asc B) (hL:X.length+A.length+B.length+Y.length≤1000000) {h s s0 r0:Nat} (hh:h=(A.length+B.length) / 2)
  (hs0:s0≤s) (hsr:s≤r0) (hr:r0≤A.length) (hrh:r0≤h) (hb:h - s0≤B.length)
  (e0:s0=0∨h - s0=B.length) (er:r0=h∨r0=A.length)
  (h1:∀ t,s0≤t→t < s→¬ (B.getD (h - 1 - t) m0d).1 < (A.getD t m0d).1) (h2:∀ t,s≤t→t < r0→(B.getD (h - 1 - t) m0d).1 < (A.getD t m0d).1) :
  ∃ R1 R2:List Mem,(s < A.length→s < h→ACalls Tryz.prog 150 [.ref 0 0 (X.length+A.length+B.length+Y.length) 2,i64 ((X.length+s:Nat):Int),i64 ((X.length+A.length:Nat):Int),i64 ((X.length+A.length+(h - s):Nat):Int),zb6] [.rw ((X++(A++(B++Y))).flatMap mbC)] (fun y σ=>y=.ret (.tup [])∧σ=[.rw (R1.flatMap mbC)])) ∧
   (¬ (s < A.length∧s < h)→X++(A++(B++Y))=R1) ∧
   (0 < s→s < h→ACalls Tryz.prog 146 [.ref 0 0 (X.length+A.length+B.length+Y.length) 2,i64 X.length,i64 ((X.length+s:Nat):Int),i64 ((X.length+h:Nat):Int),zb6] [.rw (R1.flatMap mbC)] (fun y σ=>y=.ret (.tup [])∧σ=[.rw (R2.flatMap mbC)])) ∧
   (¬ (0 < s∧s < h)→R1=R2) ∧
   (s < A.length→h - s < B.length→ACalls Tryz.prog 146 [.ref 0 0 (X.length+A.length+B.length+Y.length) 2,i64 ((X.length+h:Nat):Int),i64 ((X.length+A.length+(h - s):Nat):Int),i64 ((X.length+A.length+B.length:Nat):Int),zb6] [.rw (R2.flatMap mbC)] (fun y σ=>y=.ret (.tup [])∧σ=[.rw ((X++(zaT (A++B)++Y)).flatMap mbC)])) ∧
   (¬ (s < A.length∧h - s < B.length)→R2=X++(zaT (A++B)++Y)):=by
 have hc:=sym_cut hA hB hs0 hsr hr hrh hb e0 er h1 h2
 obtain⟨A1,A2,rfl,hA1⟩:=cut2 A s (by omega)
 obtain⟨B1,B2,rfl,hB1⟩:=cut2 B (h - s) (by omega)
 have t1:(A1++A2).take s=A1:=List.take_left' hA1
 have t2:(B1++B2).take (h - s)=B1:=List.take_left' hB1
 have t3:(A1++A2).drop s=A2:=List.drop_left' hA1
 have t4:(B1++B2).drop (h - s)=B2:=List.drop_left' hB1
 rw [t1,t2,t3,t4] at hc
 have ha:=List.pairwise_append.1 hA
 have hbb:=List.pairwise_append.1 hB
 simp only [List.length_append] at hn hA2 hB2 hL hh hr ⊢
 refine⟨X++(A1++(B1++(A2++(B2++Y)))),X++(zaT (A1++B1)++(A2++(B2++Y))),fun q1 q2=>?_,fun q=>?_,fun q1 q2=>?_,fun q=>?_,fun q1 q2=>?_,fun q=>?_⟩
 ·have hs:=mrot_ok (X++A1) A2 B1 (B2++Y) (by omega) (by omega) (by simp;omega)
  simp only [List.length_append] at hs
  rw [show X.length+A1.length+A2.length+B1.length+(B2.length+Y.length)=X.length+(A1.length+A2.length)+(B1.length+B2.length)+Y.length by omega,show X.length+A1.length+A2.length+B1.length=X.length+(A1.length+A2.length)+(h - s) by omega,show X.length+A1.length+A2.length=X.length+(A1.length+A2.length) by omega,show X.length+A1.length=X.length+s by omega] at hs
  simp only [List.append_assoc] at hs ⊢
  exact hs
 ·by_cases q1:s < A1.length+A2.length
  ·have:B1=[]:=List.eq_nil_of_length_eq_zero (by omega)
   simp [this]
  ·have:A2=[]:=List.eq_nil_of_length_eq_zero (by omega)
   simp [this]
 ·have hs:=ih X A1 B1 (A2++(B2++Y)) (by omega) (by omega) (by omega) ha.1 hbb.1 (by simp;omega)
  simp only [List.length_append] at hs
  rw [show X.length+A1.length+B1.length+(A2.length+(B2.length+Y.length))=X.length+(A1.length+A2.length)+(B1.length+B2.length)+Y.length by omega,show X.length+A1.length+B1.length=X.length+h by omega,show X.length+A1.length=X.length+s by omega] at hs
  exact hs
 ·by_cases q1:0 < s
  ·have:B1=[]:=List.eq_nil_of_length_eq_zero (by omega)
   subst this
   rw [List.append_nil,zbY ha.1]
   simp
  ·have:A1=[]:=List.eq_nil_of_length_eq_zero (by omega)
   subst this
   rw [List.nil_append,List.nil_append,zbY hbb.1]
 ·have hs:=ih (X++zaT (A1++B1)) A2 B2 Y (by omega) (by omega) (by omega) ha.2.1 hbb.2.1 (by rw [List.length_append,zcs,List.length_append];omega)
  rw [List.length_append,zcs,List.length_append] at hs
  rw [show X.length+(A1.length+B1.length)+A2.length+B2.length+Y.length=X.length+(A1.length+A2.length)+(B1.length+B2.length)+Y.length by omega,show X.length+(A1.length+B1.length)+A2.length+B2.length=X.length+(A1.length+A2.length)+(B1.length+B2.length) by omega,show X.length+(A1.length+B1.length)+A2.length=X.length+(A1.length+A2.length)+(h - s) by omega,show X.length+(A1.length+B1.length)=X.length+h by omega] at hs
  rw [← hc]
  simp only [List.append_assoc] at hs ⊢
  exact hs
 ·rw [← hc]
  by_cases q1:s < A1.length+A2.length
  ·have:B2=[]:=List.eq_nil_of_length_eq_zero (by omega)
   subst this
   rw [List.append_nil A2,zbY ha.2.1]
   simp
  ·have:A2=[]:=List.eq_nil_of_length_eq_zero (by omega)
   subst this
   simp only [List.nil_append]
   rw [zbY hbb.2.1]
   simp
set_option maxRecDepth 20000 in
set_option maxHeartbeats 4000000 in
theorem msym3_ok {n:Nat} (ih:SymOK n) (X A B Y:List Mem) (hn:A.length+B.length≤n+1) (hA2:2≤A.length) (hB2:2≤B.length) (hA:Asc A) (hB:Asc B) (hL:X.length+A.length+B.length+Y.length≤1000000) :
  ACalls Tryz.prog 146 [.ref 0 0 (X.length+A.length+B.length+Y.length) 2,i64 X.length,i64 ((X.length+A.length:Nat):Int),i64 ((X.length+A.length+B.length:Nat):Int),zb6] [.rw ((X++(A++(B++Y))).flatMap mbC)] (fun z σ=>z=.ret (.tup [])∧σ=[.rw ((X++(zaT (A++B)++Y)).flatMap mbC)]):=by
 have hga:∀ t,t < A.length→(X++(A++(B++Y))).getD (X.length+t) m0d=A.getD t m0d:=fun t ht=>by
  rw [zfI,List.getD_eq_getElem?_getD,List.getElem?_append_left ht,← List.getD_eq_getElem?_getD]
 have hgb:∀ t,t < B.length→(X++(A++(B++Y))).getD (X.length+A.length+t) m0d=B.getD t m0d:=fun t ht=>by
  rw [← List.append_assoc,show X.length+A.length+t=(X++A).length+t by simp,zfI,List.getD_eq_getElem?_getD,List.getElem?_append_left ht,← List.getD_eq_getElem?_getD]
 have hlen:(X++(A++(B++Y))).length=X.length+A.length+B.length+Y.length:=by simp;omega
 have rest:=fun (h s s0 r0:Nat)=>sym_rest (h:=h) (s:=s) (s0:=s0) (r0:=r0) ih hn hA2 hB2 hA hB hL
 obtain⟨h,hh⟩:∃ h,h=(A.length+B.length) / 2:=⟨_,rfl⟩
 have hmid:=zdO X.length (X.length+A.length+B.length) (X.length+h) (by omega) (by omega)
 generalize hR:X++(A++(B++Y))=R at hga hgb hlen rest ⊢
 generalize hR3:X++(zaT (A++B)++Y)=R3 at rest ⊢
 unfold zb6 at rest ⊢
 refine ACalls.body T_ok Tryz.func146 (by kernel_rfl) rfl Tryz.ntmps146 (congrArg Array.toList Tryz.results146) ?_
 try simp -implicitDefEqProofs only [LM9,eq_self,zao,zag,zaf,zav,Nat.zero_mul,zal,show ((X.length+A.length:Nat):Int) - (X.length:Int)=((A.length:Nat):Int) by omega,decide_eq_false (by omega:¬ ((A.length:Nat):Int)=1),show ((X.length+A.length+B.length:Nat):Int) - ((X.length+A.length:Nat):Int)=((B.length:Nat):Int) by omega,decide_eq_false (by omega:¬ ((B.length:Nat):Int)=1),hmid,TB,SB,Int.reduceToNat,Nat.reduceAdd,Nat.reduceEqDiff,Nat.reduceLT,Nat.reduceMod,Nat.reducePow,Nat.reduceSub,if_true,reduceIte]
 refine⟨by unfold inI;omega,by unfold inI;omega,by unfold inI;omega,by unfold inI;omega,fun hc=>?_,fun hc=>?_⟩
 ·refine⟨by unfold inI;omega,by unfold inI;omega,?_⟩
  obtain⟨s0,r0,es,er,hs0,hr,hrh,hb,e0,e1⟩:∃ s0 r0,s0=h - B.length∧r0=h∧s0≤r0∧r0≤A.length∧r0≤h∧h - s0≤B.length∧(s0=0∨h - s0=B.length)∧(r0=h∨r0=A.length):=⟨h - B.length,h,rfl,rfl,by omega,by omega,by omega,by omega,by omega,by omega⟩
  rw [za6]
  refine⟨Nat × Nat,fun z=>s0≤z.1∧z.1≤z.2∧z.2≤r0∧(∀ t,s0≤t→t < z.1→¬ (B.getD (h - 1 - t) m0d).1 < (A.getD t m0d).1)∧(∀ t,z.2≤t→t < r0→(B.getD (h - 1 - t) m0d).1 < (A.getD t m0d).1),fun z=>[.ref 0 0 (X.length+A.length+B.length+Y.length) 2,i64 X.length,i64 ((X.length+A.length:Nat):Int),i64 ((X.length+A.length+B.length:Nat):Int),.fn (.func 125) [] [],.bot,.bot,.bot,.bot,.bot,.bot,.bot,.bot,.bot,.bot,.bot,.bot,.bot,i64 ((X.length+h:Nat):Int),i64 (((X.length+h:Nat):Int)+((X.length+A.length:Nat):Int)),i64 ((X.length+z.1:Nat):Int),i64 ((X.length+z.2:Nat):Int),i64 (((X.length+h:Nat):Int)+((X.length+A.length:Nat):Int) - 1),.bot,.bot,.bot,.bot,.bot,.bot,.bot,.bot,.bot,.bot,.bot,.bot,.bot,.bot,.bot,.bot,.bot,.bot,.bot,.bot,.bot,.bot,.bot,.bot,.bot,.bot,.bot,.bot,.bot,.bot,.bot,.bot,.bot,.bot,.bot,.bot,.bot,.bot,.bot,.bot,.bot,.bot,.bot,.bot,.bot,.bot,.bot,.bot,.bot,.bot,.bot,.bot,.bot,.bot,.bot,.bot,.bot,.bot,.bot,.bot,.bot,.bot,.bot,.bot,.bot,.bot,.bot,.bot,.bot,.bot,.bot,.bot,.bot,.bot,.bot,.bot,.bot,.bot,.bot,.bot,.bot,.bot,.bot,.bot,.bot,.bot,.bot,.bot,.bot,.bot,.bot,.bot,.bot,.bot,.bot,.bot,.bot,.bot,.bot,.bot,.bot,.bot,.bot,.bot,.bot,.bot,.bot,.bot,.bot,.bot,.bot,.bot,.bot,.bot,.bot,.bot,.bot,.bot,.bot,.bot,.bot,.bot,.bot,.bot,.bot,.bot,.bot,.bot,.bot,.bot,.bot,.bot,.bot,.bot,.bot,.bot,.bot,.bot,.bot,.bot,.bot,.bot,.bot,.bot,.bot,.bot,.bot,.bot,.bot,.bot,.bot,.bot,.bot,.bot,.bot,.bot,.bot,.bot,.bot,.bot,.bot,.bot,.bot,.bot,.bot,.bot,.bot,.bot,.bot,.bot,.bot,.bot,.bot,.bot,.bot,.bot,.bot,.bot,.bot,.bot,.bot,.bot,.bot,.bot,.bot,.bot,.bot,.bot,.bot,.bot,.bot,.bot,.bot,.bot,.bot,.bot,.bot],fun z=>[.rw (R.flatMap mbC)],fun z=>z.2 - z.1,(s0,r0),⟨Nat.le_refl _,hs0,Nat.le_refl _,fun t h h'=>absurd h' (by omega),fun t h h'=>absurd h' (by omega)⟩,zak (q:=[0]) rfl rfl (by decide) ?_ ?_,?_⟩
  ·refine aQ27 ?_
   exact⟨by simp [renL],.inr (by omega),.inr (by omega)⟩
  ·exact zaW _
  rintro⟨s,r⟩ ⟨hss,hsr,hrr,h1,h2⟩
  dsimp only at hss hsr hrr h1 h2 ⊢
  have hhf:=zdO (X.length+s) (X.length+r) (X.length+(s+r) / 2) (by omega) (by omega)
  try simp -implicitDefEqProofs only [LM9,eq_self,zao,zag,zaf,zav,Nat.zero_mul,zal,hhf,TB,SB,Int.reduceToNat,Nat.reduceAdd,Nat.reduceEqDiff,Nat.reduceLT,Nat.reduceMod,Nat.reducePow,Nat.reduceSub,if_true,reduceIte]
  refine⟨fun hlt=>?_,fun hge=>?_⟩
  ·refine⟨by unfold inI;omega,?_⟩
   obtain⟨c,hcd⟩:∃ c,c=(s+r) / 2:=⟨_,rfl⟩
   rw [← hcd]
   have hpc:((X.length+h:Nat):Int)+((X.length+A.length:Nat):Int) - 1 - ((X.length+c:Nat):Int)=((X.length+A.length+(h - 1 - c):Nat):Int):=by omega
   refine zdG (by kernel_rfl) (by kernel_rfl) ?_
   try simp -implicitDefEqProofs only [LM9,eq_self,zao,zag,zaf,zav,Nat.zero_mul,zal,hpc,TB,SB,Int.reduceToNat,Nat.reduceAdd,Nat.reduceEqDiff,Nat.reduceLT,Nat.reduceMod,Nat.reducePow,Nat.reduceSub,if_true,reduceIte]
   refine⟨by unfold inI;omega,?_⟩
   repeat (with_reducible refine And.intro aQ15 ?_)
   rw [hga c (by omega),hgb (h - 1 - c) (by omega)]
   refine zcM (zhu (B.getD (h - 1 - c) m0d) (A.getD c m0d)) (by simp [renL,zht]) (zaq _ _) ?_
   by_cases hneg:cmpM (B.getD (h - 1 - c) m0d) (A.getD c m0d) < 0
   ·try simp -implicitDefEqProofs only [LM9,eq_self,zao,zag,zaf,zav,Nat.zero_mul,zal,decide_eq_true hneg,TB,SB,Int.reduceToNat,Nat.reduceAdd,Nat.reduceEqDiff,Nat.reduceLT,Nat.reduceMod,Nat.reducePow,Nat.reduceSub,if_true,reduceIte]
    rw [zam]
    refine⟨(s,c),⟨hss,by dsimp only;omega,by dsimp only;omega,h1,fun t ht ht2=>?_⟩,by (show c - s < r - s);omega,zak (q:=[0]) rfl rfl (by decide) ?_ ?_⟩
    ·exact leM_lt (zct hB (by omega:h - 1 - t≤h - 1 - c) (by omega)) (lt_leM ((zdp _ _).1 hneg) (zct hA ht (by omega)))
    ·refine aQ27 ?_
     try simp [renL]
    ·exact zaW _
   ·try simp -implicitDefEqProofs only [LM9,eq_self,zao,zag,zaf,zav,Nat.zero_mul,zal,decide_eq_false hneg,show ((X.length+c:Nat):Int)+1=((X.length+(c+1):Nat):Int) by omega,TB,SB,Int.reduceToNat,Nat.reduceAdd,Nat.reduceEqDiff,Nat.reduceLT,Nat.reduceMod,Nat.reducePow,Nat.reduceSub,if_true,reduceIte]
    repeat (with_reducible refine And.intro aQ15 ?_)
    rw [zam]
    refine⟨(c+1,r),⟨by dsimp only;omega,by dsimp only;omega,hrr,fun t ht ht2=>?_,h2⟩,by (show r - (c+1) < r - s);omega,zak (q:=[0]) rfl rfl (by decide) ?_ ?_⟩
    ·have hn:¬ (B.getD (h - 1 - c) m0d).1 < (A.getD c m0d).1:=fun hh=>hneg ((zdp _ _).2 hh)
     exact sym_mono hA hB (by omega:t≤c) (by omega) (by omega) hn
    ·refine aQ27 ?_
     try simp [renL]
    ·exact zaW _
  ·obtain rfl:s=r:=by omega
   obtain⟨R1,R2,k1,k2,k3,k4,k5,k6⟩:=rest h s s0 r0 hh hss hrr hr hrh hb e0 e1 h1 h2
   have hend:((X.length+h:Nat):Int)+((X.length+A.length:Nat):Int) - ((X.length+s:Nat):Int)=((X.length+A.length+(h - s):Nat):Int):=by omega
   by_cases q1:s < A.length
   ·by_cases q2:s < h
    ·by_cases q3:0 < s
     ·by_cases q4:h - s < B.length
      ·skip
       have d1:=decide_eq_true (by omega:((X.length+s:Nat):Int) < ((X.length+A.length:Nat):Int))
       have d2:=decide_eq_true (by omega:((X.length+A.length:Nat):Int) < ((X.length+A.length+(h - s):Nat):Int))
       have d3:=decide_eq_true (by omega:(X.length:Int) < ((X.length+s:Nat):Int))
       have d4:=decide_eq_true (by omega:((X.length+s:Nat):Int) < ((X.length+h:Nat):Int))
       have d5:=decide_eq_true (by omega:((X.length+h:Nat):Int) < ((X.length+A.length+(h - s):Nat):Int))
       have d6:=decide_eq_true (by omega:((X.length+A.length+(h - s):Nat):Int) < ((X.length+A.length+B.length:Nat):Int))
       try simp -implicitDefEqProofs only [LM9,eq_self,zao,zag,zaf,zav,Nat.zero_mul,zal,hend,d1,d2,d3,d4,d5,d6,TB,SB,Int.reduceToNat,Nat.reduceAdd,Nat.reduceEqDiff,Nat.reduceLT,Nat.reduceMod,Nat.reducePow,Nat.reduceSub,if_true,reduceIte]
       repeat (with_reducible refine And.intro aQ15 ?_)
       refine ACalls.frame ([0]) (k1 (by omega) (by omega)) rfl (by decide) (by simp [LM1,zah,zad,renL,AV.ren,AEnd.ren,zac,mbF.fren,zaa,zae,List.getElem?_cons_zero,List.getElem?_cons_succ]) (by first | rfl | simp [LM1,zah,zad,renL,AV.ren,AEnd.ren,zac,mbF.fren,zaa,zae,List.getElem?_cons_zero,List.getElem?_cons_succ]) ?_
       rintro _ _ ⟨rfl,rfl⟩
       refine⟨.ret (.tup []),[.rw (R1.flatMap mbC)],(by show zad _ _ ([0]) ([0]) 0 _;simp [LM1,zah,zad,renL,AV.ren,AEnd.ren,zac,mbF.fren,zaa,zae,List.getElem?_cons_zero,List.getElem?_cons_succ]),(by show AEnd.ren ([0]) _ _;first | rfl | simp [LM1,zah,zad,renL,AV.ren,AEnd.ren,zac,mbF.fren,zaa,zae,List.getElem?_cons_zero,List.getElem?_cons_succ]),?_⟩
       refine aQ62 ?_
       try simp -implicitDefEqProofs only [LM9,eq_self,zao,zag,zaf,zav,Nat.zero_mul,zal,hend,d1,d2,d3,d4,d5,d6,TB,SB,Int.reduceToNat,Nat.reduceAdd,Nat.reduceEqDiff,Nat.reduceLT,Nat.reduceMod,Nat.reducePow,Nat.reduceSub,if_true,reduceIte]
       repeat (with_reducible refine And.intro aQ15 ?_)
       refine ACalls.frame ([0]) (k3 (by omega) (by omega)) rfl (by decide) (by simp [LM1,zah,zad,renL,AV.ren,AEnd.ren,zac,mbF.fren,zaa,zae,List.getElem?_cons_zero,List.getElem?_cons_succ]) (by first | rfl | simp [LM1,zah,zad,renL,AV.ren,AEnd.ren,zac,mbF.fren,zaa,zae,List.getElem?_cons_zero,List.getElem?_cons_succ]) ?_
       rintro _ _ ⟨rfl,rfl⟩
       refine⟨.ret (.tup []),[.rw (R2.flatMap mbC)],(by show zad _ _ ([0]) ([0]) 0 _;simp [LM1,zah,zad,renL,AV.ren,AEnd.ren,zac,mbF.fren,zaa,zae,List.getElem?_cons_zero,List.getElem?_cons_succ]),(by show AEnd.ren ([0]) _ _;first | rfl | simp [LM1,zah,zad,renL,AV.ren,AEnd.ren,zac,mbF.fren,zaa,zae,List.getElem?_cons_zero,List.getElem?_cons_succ]),?_⟩
       refine aQ62 ?_
       try simp -implicitDefEqProofs only [LM9,eq_self,zao,zag,zaf,zav,Nat.zero_mul,zal,hend,d1,d2,d3,d4,d5,d6,TB,SB,Int.reduceToNat,Nat.reduceAdd,Nat.reduceEqDiff,Nat.reduceLT,Nat.reduceMod,Nat.reducePow,Nat.reduceSub,if_true,reduceIte]
       repeat (with_reducible refine And.intro aQ15 ?_)
       refine ACalls.frame ([0]) (k5 (by omega) (by omega)) rfl (by decide) (by simp [LM1,zah,zad,renL,AV.ren,AEnd.ren,zac,mbF.fren,zaa,zae,List.getElem?_cons_zero,List.getElem?_cons_succ]) (by first | rfl | simp [LM1,zah,zad,renL,AV.ren,AEnd.ren,zac,mbF.fren,zaa,zae,List.getElem?_cons_zero,List.getElem?_cons_succ]) ?_
       rintro _ _ ⟨rfl,rfl⟩
       refine⟨.ret (.tup []),[.rw (R3.flatMap mbC)],(by show zad _ _ ([0]) ([0]) 0 _;simp [LM1,zah,zad,renL,AV.ren,AEnd.ren,zac,mbF.fren,zaa,zae,List.getElem?_cons_zero,List.getElem?_cons_succ]),(by show AEnd.ren ([0]) _ _;first | rfl | simp [LM1,zah,zad,renL,AV.ren,AEnd.ren,zac,mbF.fren,zaa,zae,List.getElem?_cons_zero,List.getElem?_cons_succ]),?_⟩
       refine aQ62 ?_
       try simp -implicitDefEqProofs only [LM9,eq_self,zao,zag,zaf,zav,Nat.zero_mul,zal,hend,d1,d2,d3,d4,d5,d6,TB,SB,Int.reduceToNat,Nat.reduceAdd,Nat.reduceEqDiff,Nat.reduceLT,Nat.reduceMod,Nat.reducePow,Nat.reduceSub,if_true,reduceIte]
       exact zau ⟨rfl,rfl⟩
      ·skip
       have d1:=decide_eq_true (by omega:((X.length+s:Nat):Int) < ((X.length+A.length:Nat):Int))
       have d2:=decide_eq_true (by omega:((X.length+A.length:Nat):Int) < ((X.length+A.length+(h - s):Nat):Int))
       have d3:=decide_eq_true (by omega:(X.length:Int) < ((X.length+s:Nat):Int))
       have d4:=decide_eq_true (by omega:((X.length+s:Nat):Int) < ((X.length+h:Nat):Int))
       have d5:=decide_eq_true (by omega:((X.length+h:Nat):Int) < ((X.length+A.length+(h - s):Nat):Int))
       have d6:=decide_eq_false (by omega:¬ ((X.length+A.length+(h - s):Nat):Int) < ((X.length+A.length+B.length:Nat):Int))
       rw [k6 (by omega)] at k3
       try simp -implicitDefEqProofs only [LM9,eq_self,zao,zag,zaf,zav,Nat.zero_mul,zal,hend,d1,d2,d3,d4,d5,d6,TB,SB,Int.reduceToNat,Nat.reduceAdd,Nat.reduceEqDiff,Nat.reduceLT,Nat.reduceMod,Nat.reducePow,Nat.reduceSub,if_true,reduceIte]
       repeat (with_reducible refine And.intro aQ15 ?_)
       refine ACalls.frame ([0]) (k1 (by omega) (by omega)) rfl (by decide) (by simp [LM1,zah,zad,renL,AV.ren,AEnd.ren,zac,mbF.fren,zaa,zae,List.getElem?_cons_zero,List.getElem?_cons_succ]) (by first | rfl | simp [LM1,zah,zad,renL,AV.ren,AEnd.ren,zac,mbF.fren,zaa,zae,List.getElem?_cons_zero,List.getElem?_cons_succ]) ?_
       rintro _ _ ⟨rfl,rfl⟩
       refine⟨.ret (.tup []),[.rw (R1.flatMap mbC)],(by show zad _ _ ([0]) ([0]) 0 _;simp [LM1,zah,zad,renL,AV.ren,AEnd.ren,zac,mbF.fren,zaa,zae,List.getElem?_cons_zero,List.getElem?_cons_succ]),(by show AEnd.ren ([0]) _ _;first | rfl | simp [LM1,zah,zad,renL,AV.ren,AEnd.ren,zac,mbF.fren,zaa,zae,List.getElem?_cons_zero,List.getElem?_cons_succ]),?_⟩
       refine aQ62 ?_
       try simp -implicitDefEqProofs only [LM9,eq_self,zao,zag,zaf,zav,Nat.zero_mul,zal,hend,d1,d2,d3,d4,d5,d6,TB,SB,Int.reduceToNat,Nat.reduceAdd,Nat.reduceEqDiff,Nat.reduceLT,Nat.reduceMod,Nat.reducePow,Nat.reduceSub,if_true,reduceIte]
       repeat (with_reducible refine And.intro aQ15 ?_)
       refine ACalls.frame ([0]) (k3 (by omega) (by omega)) rfl (by decide) (by simp [LM1,zah,zad,renL,AV.ren,AEnd.ren,zac,mbF.fren,zaa,zae,List.getElem?_cons_zero,List.getElem?_cons_succ]) (by first | rfl | simp [LM1,zah,zad,renL,AV.ren,AEnd.ren,zac,mbF.fren,zaa,zae,List.getElem?_cons_zero,List.getElem?_cons_succ]) ?_
       rintro _ _ ⟨rfl,rfl⟩
       refine⟨.ret (.tup []),[.rw (R3.flatMap mbC)],(by show zad _ _ ([0]) ([0]) 0 _;simp [LM1,zah,zad,renL,AV.ren,AEnd.ren,zac,mbF.fren,zaa,zae,List.getElem?_cons_zero,List.getElem?_cons_succ]),(by show AEnd.ren ([0]) _ _;first | rfl | simp [LM1,zah,zad,renL,AV.ren,AEnd.ren,zac,mbF.fren,zaa,zae,List.getElem?_cons_zero,List.getElem?_cons_succ]),?_⟩
       refine aQ62 ?_
       try simp -implicitDefEqProofs only [LM9,eq_self,zao,zag,zaf,zav,Nat.zero_mul,zal,hend,d1,d2,d3,d4,d5,d6,TB,SB,Int.reduceToNat,Nat.reduceAdd,Nat.reduceEqDiff,Nat.reduceLT,Nat.reduceMod,Nat.reducePow,Nat.reduceSub,if_true,reduceIte]
       exact zau ⟨rfl,rfl⟩
     ·by_cases q4:h - s < B.length
      ·skip
       have d1:=decide_eq_true (by omega:((X.length+s:Nat):Int) < ((X.length+A.length:Nat):Int))
       have d2:=decide_eq_true (by omega:((X.length+A.length:Nat):Int) < ((X.length+A.length+(h - s):Nat):Int))
       have d3:=decide_eq_false (by omega:¬ (X.length:Int) < ((X.length+s:Nat):Int))
       have d4:=decide_eq_true (by omega:((X.length+s:Nat):Int) < ((X.length+h:Nat):Int))
       have d5:=decide_eq_true (by omega:((X.length+h:Nat):Int) < ((X.length+A.length+(h - s):Nat):Int))
       have d6:=decide_eq_true (by omega:((X.length+A.length+(h - s):Nat):Int) < ((X.length+A.length+B.length:Nat):Int))
       rw [k4 (by omega)] at k1
       try simp -implicitDefEqProofs only [LM9,eq_self,zao,zag,zaf,zav,Nat.zero_mul,zal,hend,d1,d2,d3,d4,d5,d6,TB,SB,Int.reduceToNat,Nat.reduceAdd,Nat.reduceEqDiff,Nat.reduceLT,Nat.reduceMod,Nat.reducePow,Nat.reduceSub,if_true,reduceIte]
       repeat (with_reducible refine And.intro aQ15 ?_)
       refine ACalls.frame ([0]) (k1 (by omega) (by omega)) rfl (by decide) (by simp [LM1,zah,zad,renL,AV.ren,AEnd.ren,zac,mbF.fren,zaa,zae,List.getElem?_cons_zero,List.getElem?_cons_succ]) (by first | rfl | simp [LM1,zah,zad,renL,AV.ren,AEnd.ren,zac,mbF.fren,zaa,zae,List.getElem?_cons_zero,List.getElem?_cons_succ]) ?_
       rintro _ _ ⟨rfl,rfl⟩
       refine⟨.ret (.tup []),[.rw (R2.flatMap mbC)],(by show zad _ _ ([0]) ([0]) 0 _;simp [LM1,zah,zad,renL,AV.ren,AEnd.ren,zac,mbF.fren,zaa,zae,List.getElem?_cons_zero,List.getElem?_cons_succ]),(by show AEnd.ren ([0]) _ _;first | rfl | simp [LM1,zah,zad,renL,AV.ren,AEnd.ren,zac,mbF.fren,zaa,zae,List.getElem?_cons_zero,List.getElem?_cons_succ]),?_⟩
       refine aQ62 ?_
       try simp -implicitDefEqProofs only [LM9,eq_self,zao,zag,zaf,zav,Nat.zero_mul,zal,hend,d1,d2,d3,d4,d5,d6,TB,SB,Int.reduceToNat,Nat.reduceAdd,Nat.reduceEqDiff,Nat.reduceLT,Nat.reduceMod,Nat.reducePow,Nat.reduceSub,if_true,reduceIte]
       repeat (with_reducible refine And.intro aQ15 ?_)
       refine ACalls.frame ([0]) (k5 (by omega) (by omega)) rfl (by decide) (by simp [LM1,zah,zad,renL,AV.ren,AEnd.ren,zac,mbF.fren,zaa,zae,List.getElem?_cons_zero,List.getElem?_cons_succ]) (by first | rfl | simp [LM1,zah,zad,renL,AV.ren,AEnd.ren,zac,mbF.fren,zaa,zae,List.getElem?_cons_zero,List.getElem?_cons_succ]) ?_
       rintro _ _ ⟨rfl,rfl⟩
       refine⟨.ret (.tup []),[.rw (R3.flatMap mbC)],(by show zad _ _ ([0]) ([0]) 0 _;simp [LM1,zah,zad,renL,AV.ren,AEnd.ren,zac,mbF.fren,zaa,zae,List.getElem?_cons_zero,List.getElem?_cons_succ]),(by show AEnd.ren ([0]) _ _;first | rfl | simp [LM1,zah,zad,renL,AV.ren,AEnd.ren,zac,mbF.fren,zaa,zae,List.getElem?_cons_zero,List.getElem?_cons_succ]),?_⟩
       refine aQ62 ?_
       try simp -implicitDefEqProofs only [LM9,eq_self,zao,zag,zaf,zav,Nat.zero_mul,zal,hend,d1,d2,d3,d4,d5,d6,TB,SB,Int.reduceToNat,Nat.reduceAdd,Nat.reduceEqDiff,Nat.reduceLT,Nat.reduceMod,Nat.reducePow,Nat.reduceSub,if_true,reduceIte]
       exact zau ⟨rfl,rfl⟩
      ·skip
       have d1:=decide_eq_true (by omega:((X.length+s:Nat):Int) < ((X.length+A.length:Nat):Int))
       have d2:=decide_eq_true (by omega:((X.length+A.length:Nat):Int) < ((X.length+A.length+(h - s):Nat):Int))
       have d3:=decide_eq_false (by omega:¬ (X.length:Int) < ((X.length+s:Nat):Int))
       have d4:=decide_eq_true (by omega:((X.length+s:Nat):Int) < ((X.length+h:Nat):Int))
       have d5:=decide_eq_true (by omega:((X.length+h:Nat):Int) < ((X.length+A.length+(h - s):Nat):Int))
       have d6:=decide_eq_false (by omega:¬ ((X.length+A.length+(h - s):Nat):Int) < ((X.length+A.length+B.length:Nat):Int))
       rw [k4 (by omega)] at k1
       rw [k6 (by omega)] at k1
       try simp -implicitDefEqProofs only [LM9,eq_self,zao,zag,zaf,zav,Nat.zero_mul,zal,hend,d1,d2,d3,d4,d5,d6,TB,SB,Int.reduceToNat,Nat.reduceAdd,Nat.reduceEqDiff,Nat.reduceLT,Nat.reduceMod,Nat.reducePow,Nat.reduceSub,if_true,reduceIte]
       repeat (with_reducible refine And.intro aQ15 ?_)
       refine ACalls.frame ([0]) (k1 (by omega) (by omega)) rfl (by decide) (by simp [LM1,zah,zad,renL,AV.ren,AEnd.ren,zac,mbF.fren,zaa,zae,List.getElem?_cons_zero,List.getElem?_cons_succ]) (by first | rfl | simp [LM1,zah,zad,renL,AV.ren,AEnd.ren,zac,mbF.fren,zaa,zae,List.getElem?_cons_zero,List.getElem?_cons_succ]) ?_
       rintro _ _ ⟨rfl,rfl⟩
       refine⟨.ret (.tup []),[.rw (R3.flatMap mbC)],(by show zad _ _ ([0]) ([0]) 0 _;simp [LM1,zah,zad,renL,AV.ren,AEnd.ren,zac,mbF.fren,zaa,zae,List.getElem?_cons_zero,List.getElem?_cons_succ]),(by show AEnd.ren ([0]) _ _;first | rfl | simp [LM1,zah,zad,renL,AV.ren,AEnd.ren,zac,mbF.fren,zaa,zae,List.getElem?_cons_zero,List.getElem?_cons_succ]),?_⟩
       refine aQ62 ?_
       try simp -implicitDefEqProofs only [LM9,eq_self,zao,zag,zaf,zav,Nat.zero_mul,zal,hend,d1,d2,d3,d4,d5,d6,TB,SB,Int.reduceToNat,Nat.reduceAdd,Nat.reduceEqDiff,Nat.reduceLT,Nat.reduceMod,Nat.reducePow,Nat.reduceSub,if_true,reduceIte]
       exact zau ⟨rfl,rfl⟩
    ·by_cases q4:h - s < B.length
     ·skip
      have d1:=decide_eq_true (by omega:((X.length+s:Nat):Int) < ((X.length+A.length:Nat):Int))
      have d2:=decide_eq_false (by omega:¬ ((X.length+A.length:Nat):Int) < ((X.length+A.length+(h - s):Nat):Int))
      have d3:=decide_eq_true (by omega:(X.length:Int) < ((X.length+s:Nat):Int))
      have d4:=decide_eq_false (by omega:¬ ((X.length+s:Nat):Int) < ((X.length+h:Nat):Int))
      have d5:=decide_eq_true (by omega:((X.length+h:Nat):Int) < ((X.length+A.length+(h - s):Nat):Int))
      have d6:=decide_eq_true (by omega:((X.length+A.length+(h - s):Nat):Int) < ((X.length+A.length+B.length:Nat):Int))
      rw [k2 (by omega)]
      rw [k4 (by omega)]
      try simp -implicitDefEqProofs only [LM9,eq_self,zao,zag,zaf,zav,Nat.zero_mul,zal,hend,d1,d2,d3,d4,d5,d6,TB,SB,Int.reduceToNat,Nat.reduceAdd,Nat.reduceEqDiff,Nat.reduceLT,Nat.reduceMod,Nat.reducePow,Nat.reduceSub,if_true,reduceIte]
      repeat (with_reducible refine And.intro aQ15 ?_)
      repeat (with_reducible refine And.intro aQ15 ?_)
      refine ACalls.frame ([0]) (k5 (by omega) (by omega)) rfl (by decide) (by simp [LM1,zah,zad,renL,AV.ren,AEnd.ren,zac,mbF.fren,zaa,zae,List.getElem?_cons_zero,List.getElem?_cons_succ]) (by first | rfl | simp [LM1,zah,zad,renL,AV.ren,AEnd.ren,zac,mbF.fren,zaa,zae,List.getElem?_cons_zero,List.getElem?_cons_succ]) ?_
      rintro _ _ ⟨rfl,rfl⟩
      refine⟨.ret (.tup []),[.rw (R3.flatMap mbC)],(by show zad _ _ ([0]) ([0]) 0 _;simp [LM1,zah,zad,renL,AV.ren,AEnd.ren,zac,mbF.fren,zaa,zae,List.getElem?_cons_zero,List.getElem?_cons_succ]),(by show AEnd.ren ([0]) _ _;first | rfl | simp [LM1,zah,zad,renL,AV.ren,AEnd.ren,zac,mbF.fren,zaa,zae,List.getElem?_cons_zero,List.getElem?_cons_succ]),?_⟩
      refine aQ62 ?_
      try simp -implicitDefEqProofs only [LM9,eq_self,zao,zag,zaf,zav,Nat.zero_mul,zal,hend,d1,d2,d3,d4,d5,d6,TB,SB,Int.reduceToNat,Nat.reduceAdd,Nat.reduceEqDiff,Nat.reduceLT,Nat.reduceMod,Nat.reducePow,Nat.reduceSub,if_true,reduceIte]
      exact zau ⟨rfl,rfl⟩
     ·skip
      have d1:=decide_eq_true (by omega:((X.length+s:Nat):Int) < ((X.length+A.length:Nat):Int))
      have d2:=decide_eq_false (by omega:¬ ((X.length+A.length:Nat):Int) < ((X.length+A.length+(h - s):Nat):Int))
      have d3:=decide_eq_true (by omega:(X.length:Int) < ((X.length+s:Nat):Int))
      have d4:=decide_eq_false (by omega:¬ ((X.length+s:Nat):Int) < ((X.length+h:Nat):Int))
      have d5:=decide_eq_true (by omega:((X.length+h:Nat):Int) < ((X.length+A.length+(h - s):Nat):Int))
      have d6:=decide_eq_false (by omega:¬ ((X.length+A.length+(h - s):Nat):Int) < ((X.length+A.length+B.length:Nat):Int))
      rw [k2 (by omega)]
      rw [k4 (by omega)]
      rw [k6 (by omega)]
      try simp -implicitDefEqProofs only [LM9,eq_self,zao,zag,zaf,zav,Nat.zero_mul,zal,hend,d1,d2,d3,d4,d5,d6,TB,SB,Int.reduceToNat,Nat.reduceAdd,Nat.reduceEqDiff,Nat.reduceLT,Nat.reduceMod,Nat.reducePow,Nat.reduceSub,if_true,reduceIte]
      repeat (with_reducible refine And.intro aQ15 ?_)
      exact zau ⟨rfl,rfl⟩
   ·by_cases q2:s < h
    ·by_cases q3:0 < s
     ·skip
      have d1:=decide_eq_false (by omega:¬ ((X.length+s:Nat):Int) < ((X.length+A.length:Nat):Int))
      have d2:=decide_eq_true (by omega:((X.length+A.length:Nat):Int) < ((X.length+A.length+(h - s):Nat):Int))
      have d3:=decide_eq_true (by omega:(X.length:Int) < ((X.length+s:Nat):Int))
      have d4:=decide_eq_true (by omega:((X.length+s:Nat):Int) < ((X.length+h:Nat):Int))
      have d5:=decide_eq_false (by omega:¬ ((X.length+h:Nat):Int) < ((X.length+A.length+(h - s):Nat):Int))
      rw [k2 (by omega)]
      rw [k6 (by omega)] at k3
      try simp -implicitDefEqProofs only [LM9,eq_self,zao,zag,zaf,zav,Nat.zero_mul,zal,hend,d1,d2,d3,d4,d5,TB,SB,Int.reduceToNat,Nat.reduceAdd,Nat.reduceEqDiff,Nat.reduceLT,Nat.reduceMod,Nat.reducePow,Nat.reduceSub,if_true,reduceIte]
      repeat (with_reducible refine And.intro aQ15 ?_)
      repeat (with_reducible refine And.intro aQ15 ?_)
      refine ACalls.frame ([0]) (k3 (by omega) (by omega)) rfl (by decide) (by simp [LM1,zah,zad,renL,AV.ren,AEnd.ren,zac,mbF.fren,zaa,zae,List.getElem?_cons_zero,List.getElem?_cons_succ]) (by first | rfl | simp [LM1,zah,zad,renL,AV.ren,AEnd.ren,zac,mbF.fren,zaa,zae,List.getElem?_cons_zero,List.getElem?_cons_succ]) ?_
      rintro _ _ ⟨rfl,rfl⟩
      refine⟨.ret (.tup []),[.rw (R3.flatMap mbC)],(by show zad _ _ ([0]) ([0]) 0 _;simp [LM1,zah,zad,renL,AV.ren,AEnd.ren,zac,mbF.fren,zaa,zae,List.getElem?_cons_zero,List.getElem?_cons_succ]),(by show AEnd.ren ([0]) _ _;first | rfl | simp [LM1,zah,zad,renL,AV.ren,AEnd.ren,zac,mbF.fren,zaa,zae,List.getElem?_cons_zero,List.getElem?_cons_succ]),?_⟩
      refine aQ62 ?_
      try simp -implicitDefEqProofs only [LM9,eq_self,zao,zag,zaf,zav,Nat.zero_mul,zal,hend,d1,d2,d3,d4,d5,TB,SB,Int.reduceToNat,Nat.reduceAdd,Nat.reduceEqDiff,Nat.reduceLT,Nat.reduceMod,Nat.reducePow,Nat.reduceSub,if_true,reduceIte]
      exact zau ⟨rfl,rfl⟩
     ·skip
      have d1:=decide_eq_false (by omega:¬ ((X.length+s:Nat):Int) < ((X.length+A.length:Nat):Int))
      have d2:=decide_eq_true (by omega:((X.length+A.length:Nat):Int) < ((X.length+A.length+(h - s):Nat):Int))
      have d3:=decide_eq_false (by omega:¬ (X.length:Int) < ((X.length+s:Nat):Int))
      have d4:=decide_eq_true (by omega:((X.length+s:Nat):Int) < ((X.length+h:Nat):Int))
      have d5:=decide_eq_false (by omega:¬ ((X.length+h:Nat):Int) < ((X.length+A.length+(h - s):Nat):Int))
      rw [k2 (by omega)]
      rw [k4 (by omega)]
      rw [k6 (by omega)]
      try simp -implicitDefEqProofs only [LM9,eq_self,zao,zag,zaf,zav,Nat.zero_mul,zal,hend,d1,d2,d3,d4,d5,TB,SB,Int.reduceToNat,Nat.reduceAdd,Nat.reduceEqDiff,Nat.reduceLT,Nat.reduceMod,Nat.reducePow,Nat.reduceSub,if_true,reduceIte]
      repeat (with_reducible refine And.intro aQ15 ?_)
      exact zau ⟨rfl,rfl⟩
    ·skip
     have d1:=decide_eq_false (by omega:¬ ((X.length+s:Nat):Int) < ((X.length+A.length:Nat):Int))
     have d2:=decide_eq_false (by omega:¬ ((X.length+A.length:Nat):Int) < ((X.length+A.length+(h - s):Nat):Int))
     have d3:=decide_eq_true (by omega:(X.length:Int) < ((X.length+s:Nat):Int))
     have d4:=decide_eq_false (by omega:¬ ((X.length+s:Nat):Int) < ((X.length+h:Nat):Int))
     have d5:=decide_eq_false (by omega:¬ ((X.length+h:Nat):Int) < ((X.length+A.length+(h - s):Nat):Int))
     rw [k2 (by omega)]
     rw [k4 (by omega)]
     rw [k6 (by omega)]
     try simp -implicitDefEqProofs only [LM9,eq_self,zao,zag,zaf,zav,Nat.zero_mul,zal,hend,d1,d2,d3,d4,d5,TB,SB,Int.reduceToNat,Nat.reduceAdd,Nat.reduceEqDiff,Nat.reduceLT,Nat.reduceMod,Nat.reducePow,Nat.reduceSub,if_true,reduceIte]
     repeat (with_reducible refine And.intro aQ15 ?_)
     exact zau ⟨rfl,rfl⟩
 ·refine⟨by unfold inI;omega,?_⟩
  obtain⟨s0,r0,es,er,hs0,hr,hrh,hb,e0,e1⟩:∃ s0 r0,s0=0∧r0=A.length∧s0≤r0∧r0≤A.length∧r0≤h∧h - s0≤B.length∧(s0=0∨h - s0=B.length)∧(r0=h∨r0=A.length):=⟨0,A.length,rfl,rfl,by omega,by omega,by omega,by omega,by omega,by omega⟩
  rw [za6]
  refine⟨Nat × Nat,fun z=>s0≤z.1∧z.1≤z.2∧z.2≤r0∧(∀ t,s0≤t→t < z.1→¬ (B.getD (h - 1 - t) m0d).1 < (A.getD t m0d).1)∧(∀ t,z.2≤t→t < r0→(B.getD (h - 1 - t) m0d).1 < (A.getD t m0d).1),fun z=>[.ref 0 0 (X.length+A.length+B.length+Y.length) 2,i64 X.length,i64 ((X.length+A.length:Nat):Int),i64 ((X.length+A.length+B.length:Nat):Int),.fn (.func 125) [] [],.bot,.bot,.bot,.bot,.bot,.bot,.bot,.bot,.bot,.bot,.bot,.bot,.bot,i64 ((X.length+h:Nat):Int),i64 (((X.length+h:Nat):Int)+((X.length+A.length:Nat):Int)),i64 ((X.length+z.1:Nat):Int),i64 ((X.length+z.2:Nat):Int),i64 (((X.length+h:Nat):Int)+((X.length+A.length:Nat):Int) - 1),.bot,.bot,.bot,.bot,.bot,.bot,.bot,.bot,.bot,.bot,.bot,.bot,.bot,.bot,.bot,.bot,.bot,.bot,.bot,.bot,.bot,.bot,.bot,.bot,.bot,.bot,.bot,.bot,.bot,.bot,.bot,.bot,.bot,.bot,.bot,.bot,.bot,.bot,.bot,.bot,.bot,.bot,.bot,.bot,.bot,.bot,.bot,.bot,.bot,.bot,.bot,.bot,.bot,.bot,.bot,.bot,.bot,.bot,.bot,.bot,.bot,.bot,.bot,.bot,.bot,.bot,.bot,.bot,.bot,.bot,.bot,.bot,.bot,.bot,.bot,.bot,.bot,.bot,.bot,.bot,.bot,.bot,.bot,.bot,.bot,.bot,.bot,.bot,.bot,.bot,.bot,.bot,.bot,.bot,.bot,.bot,.bot,.bot,.bot,.bot,.bot,.bot,.bot,.bot,.bot,.bot,.bot,.bot,.bot,.bot,.bot,.bot,.bot,.bot,.bot,.bot,.bot,.bot,.bot,.bot,.bot,.bot,.bot,.bot,.bot,.bot,.bot,.bot,.bot,.bot,.bot,.bot,.bot,.bot,.bot,.bot,.bot,.bot,.bot,.bot,.bot,.bot,.bot,.bot,.bot,.bot,.bot,.bot,.bot,.bot,.bot,.bot,.bot,.bot,.bot,.bot,.bot,.bot,.bot,.bot,.bot,.bot,.bot,.bot,.bot,.bot,.bot,.bot,.bot,.bot,.bot,.bot,.bot,.bot,.bot,.bot,.bot,.bot,.bot,.bot,.bot,.bot,.bot,.bot,.bot,.bot,.bot,.bot,.bot,.bot,.bot,.bot,.bot,.bot,.bot,.bot,.bot],fun z=>[.rw (R.flatMap mbC)],fun z=>z.2 - z.1,(s0,r0),⟨Nat.le_refl _,hs0,Nat.le_refl _,fun t h h'=>absurd h' (by omega),fun t h h'=>absurd h' (by omega)⟩,zak (q:=[0]) rfl rfl (by decide) ?_ ?_,?_⟩
  ·refine aQ27 ?_
   exact⟨by simp [renL],.inr (by omega),.inr (by omega)⟩
  ·exact zaW _
  rintro⟨s,r⟩ ⟨hss,hsr,hrr,h1,h2⟩
  dsimp only at hss hsr hrr h1 h2 ⊢
  have hhf:=zdO (X.length+s) (X.length+r) (X.length+(s+r) / 2) (by omega) (by omega)
  try simp -implicitDefEqProofs only [LM9,eq_self,zao,zag,zaf,zav,Nat.zero_mul,zal,hhf,TB,SB,Int.reduceToNat,Nat.reduceAdd,Nat.reduceEqDiff,Nat.reduceLT,Nat.reduceMod,Nat.reducePow,Nat.reduceSub,if_true,reduceIte]
  refine⟨fun hlt=>?_,fun hge=>?_⟩
  ·refine⟨by unfold inI;omega,?_⟩
   obtain⟨c,hcd⟩:∃ c,c=(s+r) / 2:=⟨_,rfl⟩
   rw [← hcd]
   have hpc:((X.length+h:Nat):Int)+((X.length+A.length:Nat):Int) - 1 - ((X.length+c:Nat):Int)=((X.length+A.length+(h - 1 - c):Nat):Int):=by omega
   refine zdG (by kernel_rfl) (by kernel_rfl) ?_
   try simp -implicitDefEqProofs only [LM9,eq_self,zao,zag,zaf,zav,Nat.zero_mul,zal,hpc,TB,SB,Int.reduceToNat,Nat.reduceAdd,Nat.reduceEqDiff,Nat.reduceLT,Nat.reduceMod,Nat.reducePow,Nat.reduceSub,if_true,reduceIte]
   refine⟨by unfold inI;omega,?_⟩
   repeat (with_reducible refine And.intro aQ15 ?_)
   rw [hga c (by omega),hgb (h - 1 - c) (by omega)]
   refine zcM (zhu (B.getD (h - 1 - c) m0d) (A.getD c m0d)) (by simp [renL,zht]) (zaq _ _) ?_
   by_cases hneg:cmpM (B.getD (h - 1 - c) m0d) (A.getD c m0d) < 0
   ·try simp -implicitDefEqProofs only [LM9,eq_self,zao,zag,zaf,zav,Nat.zero_mul,zal,decide_eq_true hneg,TB,SB,Int.reduceToNat,Nat.reduceAdd,Nat.reduceEqDiff,Nat.reduceLT,Nat.reduceMod,Nat.reducePow,Nat.reduceSub,if_true,reduceIte]
    rw [zam]
    refine⟨(s,c),⟨hss,by dsimp only;omega,by dsimp only;omega,h1,fun t ht ht2=>?_⟩,by (show c - s < r - s);omega,zak (q:=[0]) rfl rfl (by decide) ?_ ?_⟩
    ·exact leM_lt (zct hB (by omega:h - 1 - t≤h - 1 - c) (by omega)) (lt_leM ((zdp _ _).1 hneg) (zct hA ht (by omega)))
    ·refine aQ27 ?_
     try simp [renL]
    ·exact zaW _
   ·try simp -implicitDefEqProofs only [LM9,eq_self,zao,zag,zaf,zav,Nat.zero_mul,zal,decide_eq_false hneg,show ((X.length+c:Nat):Int)+1=((X.length+(c+1):Nat):Int) by omega,TB,SB,Int.reduceToNat,Nat.reduceAdd,Nat.reduceEqDiff,Nat.reduceLT,Nat.reduceMod,Nat.reducePow,Nat.reduceSub,if_true,reduceIte]
    repeat (with_reducible refine And.intro aQ15 ?_)
    rw [zam]
    refine⟨(c+1,r),⟨by dsimp only;omega,by dsimp only;omega,hrr,fun t ht ht2=>?_,h2⟩,by (show r - (c+1) < r - s);omega,zak (q:=[0]) rfl rfl (by decide) ?_ ?_⟩
    ·have hn:¬ (B.getD (h - 1 - c) m0d).1 < (A.getD c m0d).1:=fun hh=>hneg ((zdp _ _).2 hh)
     exact sym_mono hA hB (by omega:t≤c) (by omega) (by omega) hn
    ·refine aQ27 ?_
     try simp [renL]
    ·exact zaW _
  ·obtain rfl:s=r:=by omega
   obtain⟨R1,R2,k1,k2,k3,k4,k5,k6⟩:=rest h s s0 r0 hh hss hrr hr hrh hb e0 e1 h1 h2
   have hend:((X.length+h:Nat):Int)+((X.length+A.length:Nat):Int) - ((X.length+s:Nat):Int)=((X.length+A.length+(h - s):Nat):Int):=by omega
   by_cases q1:s < A.length
   ·by_cases q2:s < h
    ·by_cases q3:0 < s
     ·by_cases q4:h - s < B.length
      ·skip
       have d1:=decide_eq_true (by omega:((X.length+s:Nat):Int) < ((X.length+A.length:Nat):Int))
       have d2:=decide_eq_true (by omega:((X.length+A.length:Nat):Int) < ((X.length+A.length+(h - s):Nat):Int))
       have d3:=decide_eq_true (by omega:(X.length:Int) < ((X.length+s:Nat):Int))
       have d4:=decide_eq_true (by omega:((X.length+s:Nat):Int) < ((X.length+h:Nat):Int))
       have d5:=decide_eq_true (by omega:((X.length+h:Nat):Int) < ((X.length+A.length+(h - s):Nat):Int))
       have d6:=decide_eq_true (by omega:((X.length+A.length+(h - s):Nat):Int) < ((X.length+A.length+B.length:Nat):Int))
       try simp -implicitDefEqProofs only [LM9,eq_self,zao,zag,zaf,zav,Nat.zero_mul,zal,hend,d1,d2,d3,d4,d5,d6,TB,SB,Int.reduceToNat,Nat.reduceAdd,Nat.reduceEqDiff,Nat.reduceLT,Nat.reduceMod,Nat.reducePow,Nat.reduceSub,if_true,reduceIte]
       repeat (with_reducible refine And.intro aQ15 ?_)
       refine ACalls.frame ([0]) (k1 (by omega) (by omega)) rfl (by decide) (by simp [LM1,zah,zad,renL,AV.ren,AEnd.ren,zac,mbF.fren,zaa,zae,List.getElem?_cons_zero,List.getElem?_cons_succ]) (by first | rfl | simp [LM1,zah,zad,renL,AV.ren,AEnd.ren,zac,mbF.fren,zaa,zae,List.getElem?_cons_zero,List.getElem?_cons_succ]) ?_
       rintro _ _ ⟨rfl,rfl⟩
       refine⟨.ret (.tup []),[.rw (R1.flatMap mbC)],(by show zad _ _ ([0]) ([0]) 0 _;simp [LM1,zah,zad,renL,AV.ren,AEnd.ren,zac,mbF.fren,zaa,zae,List.getElem?_cons_zero,List.getElem?_cons_succ]),(by show AEnd.ren ([0]) _ _;first | rfl | simp [LM1,zah,zad,renL,AV.ren,AEnd.ren,zac,mbF.fren,zaa,zae,List.getElem?_cons_zero,List.getElem?_cons_succ]),?_⟩
       refine aQ62 ?_
       try simp -implicitDefEqProofs only [LM9,eq_self,zao,zag,zaf,zav,Nat.zero_mul,zal,hend,d1,d2,d3,d4,d5,d6,TB,SB,Int.reduceToNat,Nat.reduceAdd,Nat.reduceEqDiff,Nat.reduceLT,Nat.reduceMod,Nat.reducePow,Nat.reduceSub,if_true,reduceIte]
       repeat (with_reducible refine And.intro aQ15 ?_)
       refine ACalls.frame ([0]) (k3 (by omega) (by omega)) rfl (by decide) (by simp [LM1,zah,zad,renL,AV.ren,AEnd.ren,zac,mbF.fren,zaa,zae,List.getElem?_cons_zero,List.getElem?_cons_succ]) (by first | rfl | simp [LM1,zah,zad,renL,AV.ren,AEnd.ren,zac,mbF.fren,zaa,zae,List.getElem?_cons_zero,List.getElem?_cons_succ]) ?_
       rintro _ _ ⟨rfl,rfl⟩
       refine⟨.ret (.tup []),[.rw (R2.flatMap mbC)],(by show zad _ _ ([0]) ([0]) 0 _;simp [LM1,zah,zad,renL,AV.ren,AEnd.ren,zac,mbF.fren,zaa,zae,List.getElem?_cons_zero,List.getElem?_cons_succ]),(by show AEnd.ren ([0]) _ _;first | rfl | simp [LM1,zah,zad,renL,AV.ren,AEnd.ren,zac,mbF.fren,zaa,zae,List.getElem?_cons_zero,List.getElem?_cons_succ]),?_⟩
       refine aQ62 ?_
       try simp -implicitDefEqProofs only [LM9,eq_self,zao,zag,zaf,zav,Nat.zero_mul,zal,hend,d1,d2,d3,d4,d5,d6,TB,SB,Int.reduceToNat,Nat.reduceAdd,Nat.reduceEqDiff,Nat.reduceLT,Nat.reduceMod,Nat.reducePow,Nat.reduceSub,if_true,reduceIte]
       repeat (with_reducible refine And.intro aQ15 ?_)
       refine ACalls.frame ([0]) (k5 (by omega) (by omega)) rfl (by decide) (by simp [LM1,zah,zad,renL,AV.ren,AEnd.ren,zac,mbF.fren,zaa,zae,List.getElem?_cons_zero,List.getElem?_cons_succ]) (by first | rfl | simp [LM1,zah,zad,renL,AV.ren,AEnd.ren,zac,mbF.fren,zaa,zae,List.getElem?_cons_zero,List.getElem?_cons_succ]) ?_
       rintro _ _ ⟨rfl,rfl⟩
       refine⟨.ret (.tup []),[.rw (R3.flatMap mbC)],(by show zad _ _ ([0]) ([0]) 0 _;simp [LM1,zah,zad,renL,AV.ren,AEnd.ren,zac,mbF.fren,zaa,zae,List.getElem?_cons_zero,List.getElem?_cons_succ]),(by show AEnd.ren ([0]) _ _;first | rfl | simp [LM1,zah,zad,renL,AV.ren,AEnd.ren,zac,mbF.fren,zaa,zae,List.getElem?_cons_zero,List.getElem?_cons_succ]),?_⟩
       refine aQ62 ?_
       try simp -implicitDefEqProofs only [LM9,eq_self,zao,zag,zaf,zav,Nat.zero_mul,zal,hend,d1,d2,d3,d4,d5,d6,TB,SB,Int.reduceToNat,Nat.reduceAdd,Nat.reduceEqDiff,Nat.reduceLT,Nat.reduceMod,Nat.reducePow,Nat.reduceSub,if_true,reduceIte]
       exact zau ⟨rfl,rfl⟩
      ·skip
       have d1:=decide_eq_true (by omega:((X.length+s:Nat):Int) < ((X.length+A.length:Nat):Int))
       have d2:=decide_eq_true (by omega:((X.length+A.length:Nat):Int) < ((X.length+A.length+(h - s):Nat):Int))
       have d3:=decide_eq_true (by omega:(X.length:Int) < ((X.length+s:Nat):Int))
       have d4:=decide_eq_true (by omega:((X.length+s:Nat):Int) < ((X.length+h:Nat):Int))
       have d5:=decide_eq_true (by omega:((X.length+h:Nat):Int) < ((X.length+A.length+(h - s):Nat):Int))
       have d6:=decide_eq_false (by omega:¬ ((X.length+A.length+(h - s):Nat):Int) < ((X.length+A.length+B.length:Nat):Int))
       rw [k6 (by omega)] at k3
       try simp -implicitDefEqProofs only [LM9,eq_self,zao,zag,zaf,zav,Nat.zero_mul,zal,hend,d1,d2,d3,d4,d5,d6,TB,SB,Int.reduceToNat,Nat.reduceAdd,Nat.reduceEqDiff,Nat.reduceLT,Nat.reduceMod,Nat.reducePow,Nat.reduceSub,if_true,reduceIte]
       repeat (with_reducible refine And.intro aQ15 ?_)
       refine ACalls.frame ([0]) (k1 (by omega) (by omega)) rfl (by decide) (by simp [LM1,zah,zad,renL,AV.ren,AEnd.ren,zac,mbF.fren,zaa,zae,List.getElem?_cons_zero,List.getElem?_cons_succ]) (by first | rfl | simp [LM1,zah,zad,renL,AV.ren,AEnd.ren,zac,mbF.fren,zaa,zae,List.getElem?_cons_zero,List.getElem?_cons_succ]) ?_
       rintro _ _ ⟨rfl,rfl⟩
       refine⟨.ret (.tup []),[.rw (R1.flatMap mbC)],(by show zad _ _ ([0]) ([0]) 0 _;simp [LM1,zah,zad,renL,AV.ren,AEnd.ren,zac,mbF.fren,zaa,zae,List.getElem?_cons_zero,List.getElem?_cons_succ]),(by show AEnd.ren ([0]) _ _;first | rfl | simp [LM1,zah,zad,renL,AV.ren,AEnd.ren,zac,mbF.fren,zaa,zae,List.getElem?_cons_zero,List.getElem?_cons_succ]),?_⟩
       refine aQ62 ?_
       try simp -implicitDefEqProofs only [LM9,eq_self,zao,zag,zaf,zav,Nat.zero_mul,zal,hend,d1,d2,d3,d4,d5,d6,TB,SB,Int.reduceToNat,Nat.reduceAdd,Nat.reduceEqDiff,Nat.reduceLT,Nat.reduceMod,Nat.reducePow,Nat.reduceSub,if_true,reduceIte]
       repeat (with_reducible refine And.intro aQ15 ?_)
       refine ACalls.frame ([0]) (k3 (by omega) (by omega)) rfl (by decide) (by simp [LM1,zah,zad,renL,AV.ren,AEnd.ren,zac,mbF.fren,zaa,zae,List.getElem?_cons_zero,List.getElem?_cons_succ]) (by first | rfl | simp [LM1,zah,zad,renL,AV.ren,AEnd.ren,zac,mbF.fren,zaa,zae,List.getElem?_cons_zero,List.getElem?_cons_succ]) ?_
       rintro _ _ ⟨rfl,rfl⟩
       refine⟨.ret (.tup []),[.rw (R3.flatMap mbC)],(by show zad _ _ ([0]) ([0]) 0 _;simp [LM1,zah,zad,renL,AV.ren,AEnd.ren,zac,mbF.fren,zaa,zae,List.getElem?_cons_zero,List.getElem?_cons_succ]),(by show AEnd.ren ([0]) _ _;first | rfl | simp [LM1,zah,zad,renL,AV.ren,AEnd.ren,zac,mbF.fren,zaa,zae,List.getElem?_cons_zero,List.getElem?_cons_succ]),?_⟩
       refine aQ62 ?_
       try simp -implicitDefEqProofs only [LM9,eq_self,zao,zag,zaf,zav,Nat.zero_mul,zal,hend,d1,d2,d3,d4,d5,d6,TB,SB,Int.reduceToNat,Nat.reduceAdd,Nat.reduceEqDiff,Nat.reduceLT,Nat.reduceMod,Nat.reducePow,Nat.reduceSub,if_true,reduceIte]
       exact zau ⟨rfl,rfl⟩
     ·by_cases q4:h - s < B.length
      ·skip
       have d1:=decide_eq_true (by omega:((X.length+s:Nat):Int) < ((X.length+A.length:Nat):Int))
       have d2:=decide_eq_true (by omega:((X.length+A.length:Nat):Int) < ((X.length+A.length+(h - s):Nat):Int))
       have d3:=decide_eq_false (by omega:¬ (X.length:Int) < ((X.length+s:Nat):Int))
       have d4:=decide_eq_true (by omega:((X.length+s:Nat):Int) < ((X.length+h:Nat):Int))
       have d5:=decide_eq_true (by omega:((X.length+h:Nat):Int) < ((X.length+A.length+(h - s):Nat):Int))
       have d6:=decide_eq_true (by omega:((X.length+A.length+(h - s):Nat):Int) < ((X.length+A.length+B.length:Nat):Int))
       rw [k4 (by omega)] at k1
       try simp -implicitDefEqProofs only [LM9,eq_self,zao,zag,zaf,zav,Nat.zero_mul,zal,hend,d1,d2,d3,d4,d5,d6,TB,SB,Int.reduceToNat,Nat.reduceAdd,Nat.reduceEqDiff,Nat.reduceLT,Nat.reduceMod,Nat.reducePow,Nat.reduceSub,if_true,reduceIte]
       repeat (with_reducible refine And.intro aQ15 ?_)
       refine ACalls.frame ([0]) (k1 (by omega) (by omega)) rfl (by decide) (by simp [LM1,zah,zad,renL,AV.ren,AEnd.ren,zac,mbF.fren,zaa,zae,List.getElem?_cons_zero,List.getElem?_cons_succ]) (by first | rfl | simp [LM1,zah,zad,renL,AV.ren,AEnd.ren,zac,mbF.fren,zaa,zae,List.getElem?_cons_zero,List.getElem?_cons_succ]) ?_
       rintro _ _ ⟨rfl,rfl⟩
       refine⟨.ret (.tup []),[.rw (R2.flatMap mbC)],(by show zad _ _ ([0]) ([0]) 0 _;simp [LM1,zah,zad,renL,AV.ren,AEnd.ren,zac,mbF.fren,zaa,zae,List.getElem?_cons_zero,List.getElem?_cons_succ]),(by show AEnd.ren ([0]) _ _;first | rfl | simp [LM1,zah,zad,renL,AV.ren,AEnd.ren,zac,mbF.fren,zaa,zae,List.getElem?_cons_zero,List.getElem?_cons_succ]),?_⟩
       refine aQ62 ?_
       try simp -implicitDefEqProofs only [LM9,eq_self,zao,zag,zaf,zav,Nat.zero_mul,zal,hend,d1,d2,d3,d4,d5,d6,TB,SB,Int.reduceToNat,Nat.reduceAdd,Nat.reduceEqDiff,Nat.reduceLT,Nat.reduceMod,Nat.reducePow,Nat.reduceSub,if_true,reduceIte]
       repeat (with_reducible refine And.intro aQ15 ?_)
       refine ACalls.frame ([0]) (k5 (by omega) (by omega)) rfl (by decide) (by simp [LM1,zah,zad,renL,AV.ren,AEnd.ren,zac,mbF.fren,zaa,zae,List.getElem?_cons_zero,List.getElem?_cons_succ]) (by first | rfl | simp [LM1,zah,zad,renL,AV.ren,AEnd.ren,zac,mbF.fren,zaa,zae,List.getElem?_cons_zero,List.getElem?_cons_succ]) ?_
       rintro _ _ ⟨rfl,rfl⟩
       refine⟨.ret (.tup []),[.rw (R3.flatMap mbC)],(by show zad _ _ ([0]) ([0]) 0 _;simp [LM1,zah,zad,renL,AV.ren,AEnd.ren,zac,mbF.fren,zaa,zae,List.getElem?_cons_zero,List.getElem?_cons_succ]),(by show AEnd.ren ([0]) _ _;first | rfl | simp [LM1,zah,zad,renL,AV.ren,AEnd.ren,zac,mbF.fren,zaa,zae,List.getElem?_cons_zero,List.getElem?_cons_succ]),?_⟩
       refine aQ62 ?_
       try simp -implicitDefEqProofs only [LM9,eq_self,zao,zag,zaf,zav,Nat.zero_mul,zal,hend,d1,d2,d3,d4,d5,d6,TB,SB,Int.reduceToNat,Nat.reduceAdd,Nat.reduceEqDiff,Nat.reduceLT,Nat.reduceMod,Nat.reducePow,Nat.reduceSub,if_true,reduceIte]
       exact zau ⟨rfl,rfl⟩
      ·skip
       have d1:=decide_eq_true (by omega:((X.length+s:Nat):Int) < ((X.length+A.length:Nat):Int))
       have d2:=decide_eq_true (by omega:((X.length+A.length:Nat):Int) < ((X.length+A.length+(h - s):Nat):Int))
       have d3:=decide_eq_false (by omega:¬ (X.length:Int) < ((X.length+s:Nat):Int))
       have d4:=decide_eq_true (by omega:((X.length+s:Nat):Int) < ((X.length+h:Nat):Int))
       have d5:=decide_eq_true (by omega:((X.length+h:Nat):Int) < ((X.length+A.length+(h - s):Nat):Int))
       have d6:=decide_eq_false (by omega:¬ ((X.length+A.length+(h - s):Nat):Int) < ((X.length+A.length+B.length:Nat):Int))
       rw [k4 (by omega)] at k1
       rw [k6 (by omega)] at k1
       try simp -implicitDefEqProofs only [LM9,eq_self,zao,zag,zaf,zav,Nat.zero_mul,zal,hend,d1,d2,d3,d4,d5,d6,TB,SB,Int.reduceToNat,Nat.reduceAdd,Nat.reduceEqDiff,Nat.reduceLT,Nat.reduceMod,Nat.reducePow,Nat.reduceSub,if_true,reduceIte]
       repeat (with_reducible refine And.intro aQ15 ?_)
       refine ACalls.frame ([0]) (k1 (by omega) (by omega)) rfl (by decide) (by simp [LM1,zah,zad,renL,AV.ren,AEnd.ren,zac,mbF.fren,zaa,zae,List.getElem?_cons_zero,List.getElem?_cons_succ]) (by first | rfl | simp [LM1,zah,zad,renL,AV.ren,AEnd.ren,zac,mbF.fren,zaa,zae,List.getElem?_cons_zero,List.getElem?_cons_succ]) ?_
       rintro _ _ ⟨rfl,rfl⟩
       refine⟨.ret (.tup []),[.rw (R3.flatMap mbC)],(by show zad _ _ ([0]) ([0]) 0 _;simp [LM1,zah,zad,renL,AV.ren,AEnd.ren,zac,mbF.fren,zaa,zae,List.getElem?_cons_zero,List.getElem?_cons_succ]),(by show AEnd.ren ([0]) _ _;first | rfl | simp [LM1,zah,zad,renL,AV.ren,AEnd.ren,zac,mbF.fren,zaa,zae,List.getElem?_cons_zero,List.getElem?_cons_succ]),?_⟩
       refine aQ62 ?_
       try simp -implicitDefEqProofs only [LM9,eq_self,zao,zag,zaf,zav,Nat.zero_mul,zal,hend,d1,d2,d3,d4,d5,d6,TB,SB,Int.reduceToNat,Nat.reduceAdd,Nat.reduceEqDiff,Nat.reduceLT,Nat.reduceMod,Nat.reducePow,Nat.reduceSub,if_true,reduceIte]
       exact zau ⟨rfl,rfl⟩
    ·by_cases q4:h - s < B.length
     ·skip
      have d1:=decide_eq_true (by omega:((X.length+s:Nat):Int) < ((X.length+A.length:Nat):Int))
      have d2:=decide_eq_false (by omega:¬ ((X.length+A.length:Nat):Int) < ((X.length+A.length+(h - s):Nat):Int))
      have d3:=decide_eq_true (by omega:(X.length:Int) < ((X.length+s:Nat):Int))
      have d4:=decide_eq_false (by omega:¬ ((X.length+s:Nat):Int) < ((X.length+h:Nat):Int))
      have d5:=decide_eq_true (by omega:((X.length+h:Nat):Int) < ((X.length+A.length+(h - s):Nat):Int))
      have d6:=decide_eq_true (by omega:((X.length+A.length+(h - s):Nat):Int) < ((X.length+A.length+B.length:Nat):Int))
      rw [k2 (by omega)]
      rw [k4 (by omega)]
      try simp -implicitDefEqProofs only [LM9,eq_self,zao,zag,zaf,zav,Nat.zero_mul,zal,hend,d1,d2,d3,d4,d5,d6,TB,SB,Int.reduceToNat,Nat.reduceAdd,Nat.reduceEqDiff,Nat.reduceLT,Nat.reduceMod,Nat.reducePow,Nat.reduceSub,if_true,reduceIte]
      repeat (with_reducible refine And.intro aQ15 ?_)
      repeat (with_reducible refine And.intro aQ15 ?_)
      refine ACalls.frame ([0]) (k5 (by omega) (by omega)) rfl (by decide) (by simp [LM1,zah,zad,renL,AV.ren,AEnd.ren,zac,mbF.fren,zaa,zae,List.getElem?_cons_zero,List.getElem?_cons_succ]) (by first | rfl | simp [LM1,zah,zad,renL,AV.ren,AEnd.ren,zac,mbF.fren,zaa,zae,List.getElem?_cons_zero,List.getElem?_cons_succ]) ?_
      rintro _ _ ⟨rfl,rfl⟩
      refine⟨.ret (.tup []),[.rw (R3.flatMap mbC)],(by show zad _ _ ([0]) ([0]) 0 _;simp [LM1,zah,zad,renL,AV.ren,AEnd.ren,zac,mbF.fren,zaa,zae,List.getElem?_cons_zero,List.getElem?_cons_succ]),(by show AEnd.ren ([0]) _ _;first | rfl | simp [LM1,zah,zad,renL,AV.ren,AEnd.ren,zac,mbF.fren,zaa,zae,List.getElem?_cons_zero,List.getElem?_cons_succ]),?_⟩
      refine aQ62 ?_
      try simp -implicitDefEqProofs only [LM9,eq_self,zao,zag,zaf,zav,Nat.zero_mul,zal,hend,d1,d2,d3,d4,d5,d6,TB,SB,Int.reduceToNat,Nat.reduceAdd,Nat.reduceEqDiff,Nat.reduceLT,Nat.reduceMod,Nat.reducePow,Nat.reduceSub,if_true,reduceIte]
      exact zau ⟨rfl,rfl⟩
     ·skip
      have d1:=decide_eq_true (by omega:((X.length+s:Nat):Int) < ((X.length+A.length:Nat):Int))
      have d2:=decide_eq_false (by omega:¬ ((X.length+A.length:Nat):Int) < ((X.length+A.length+(h - s):Nat):Int))
      have d3:=decide_eq_true (by omega:(X.length:Int) < ((X.length+s:Nat):Int))
      have d4:=decide_eq_false (by omega:¬ ((X.length+s:Nat):Int) < ((X.length+h:Nat):Int))
      have d5:=decide_eq_true (by omega:((X.length+h:Nat):Int) < ((X.length+A.length+(h - s):Nat):Int))
      have d6:=decide_eq_false (by omega:¬ ((X.length+A.length+(h - s):Nat):Int) < ((X.length+A.length+B.length:Nat):Int))
      rw [k2 (by omega)]
      rw [k4 (by omega)]
      rw [k6 (by omega)]
      try simp -implicitDefEqProofs only [LM9,eq_self,zao,zag,zaf,zav,Nat.zero_mul,zal,hend,d1,d2,d3,d4,d5,d6,TB,SB,Int.reduceToNat,Nat.reduceAdd,Nat.reduceEqDiff,Nat.reduceLT,Nat.reduceMod,Nat.reducePow,Nat.reduceSub,if_true,reduceIte]
      repeat (with_reducible refine And.intro aQ15 ?_)
      exact zau ⟨rfl,rfl⟩
   ·by_cases q2:s < h
    ·by_cases q3:0 < s
     ·skip
      have d1:=decide_eq_false (by omega:¬ ((X.length+s:Nat):Int) < ((X.length+A.length:Nat):Int))
      have d2:=decide_eq_true (by omega:((X.length+A.length:Nat):Int) < ((X.length+A.length+(h - s):Nat):Int))
      have d3:=decide_eq_true (by omega:(X.length:Int) < ((X.length+s:Nat):Int))
      have d4:=decide_eq_true (by omega:((X.length+s:Nat):Int) < ((X.length+h:Nat):Int))
      have d5:=decide_eq_false (by omega:¬ ((X.length+h:Nat):Int) < ((X.length+A.length+(h - s):Nat):Int))
      rw [k2 (by omega)]
      rw [k6 (by omega)] at k3
      try simp -implicitDefEqProofs only [LM9,eq_self,zao,zag,zaf,zav,Nat.zero_mul,zal,hend,d1,d2,d3,d4,d5,TB,SB,Int.reduceToNat,Nat.reduceAdd,Nat.reduceEqDiff,Nat.reduceLT,Nat.reduceMod,Nat.reducePow,Nat.reduceSub,if_true,reduceIte]
      repeat (with_reducible refine And.intro aQ15 ?_)
      repeat (with_reducible refine And.intro aQ15 ?_)
      refine ACalls.frame ([0]) (k3 (by omega) (by omega)) rfl (by decide) (by simp [LM1,zah,zad,renL,AV.ren,AEnd.ren,zac,mbF.fren,zaa,zae,List.getElem?_cons_zero,List.getElem?_cons_succ]) (by first | rfl | simp [LM1,zah,zad,renL,AV.ren,AEnd.ren,zac,mbF.fren,zaa,zae,List.getElem?_cons_zero,List.getElem?_cons_succ]) ?_
      rintro _ _ ⟨rfl,rfl⟩
      refine⟨.ret (.tup []),[.rw (R3.flatMap mbC)],(by show zad _ _ ([0]) ([0]) 0 _;simp [LM1,zah,zad,renL,AV.ren,AEnd.ren,zac,mbF.fren,zaa,zae,List.getElem?_cons_zero,List.getElem?_cons_succ]),(by show AEnd.ren ([0]) _ _;first | rfl | simp [LM1,zah,zad,renL,AV.ren,AEnd.ren,zac,mbF.fren,zaa,zae,List.getElem?_cons_zero,List.getElem?_cons_succ]),?_⟩
      refine aQ62 ?_
      try simp -implicitDefEqProofs only [LM9,eq_self,zao,zag,zaf,zav,Nat.zero_mul,zal,hend,d1,d2,d3,d4,d5,TB,SB,Int.reduceToNat,Nat.reduceAdd,Nat.reduceEqDiff,Nat.reduceLT,Nat.reduceMod,Nat.reducePow,Nat.reduceSub,if_true,reduceIte]
      exact zau ⟨rfl,rfl⟩
     ·skip
      have d1:=decide_eq_false (by omega:¬ ((X.length+s:Nat):Int) < ((X.length+A.length:Nat):Int))
      have d2:=decide_eq_true (by omega:((X.length+A.length:Nat):Int) < ((X.length+A.length+(h - s):Nat):Int))
      have d3:=decide_eq_false (by omega:¬ (X.length:Int) < ((X.length+s:Nat):Int))
      have d4:=decide_eq_true (by omega:((X.length+s:Nat):Int) < ((X.length+h:Nat):Int))
      have d5:=decide_eq_false (by omega:¬ ((X.length+h:Nat):Int) < ((X.length+A.length+(h - s):Nat):Int))
      rw [k2 (by omega)]
      rw [k4 (by omega)]
      rw [k6 (by omega)]
      try simp -implicitDefEqProofs only [LM9,eq_self,zao,zag,zaf,zav,Nat.zero_mul,zal,hend,d1,d2,d3,d4,d5,TB,SB,Int.reduceToNat,Nat.reduceAdd,Nat.reduceEqDiff,Nat.reduceLT,Nat.reduceMod,Nat.reducePow,Nat.reduceSub,if_true,reduceIte]
      repeat (with_reducible refine And.intro aQ15 ?_)
      exact zau ⟨rfl,rfl⟩
    ·skip
     have d1:=decide_eq_false (by omega:¬ ((X.length+s:Nat):Int) < ((X.length+A.length:Nat):Int))
     have d2:=decide_eq_false (by omega:¬ ((X.length+A.length:Nat):Int) < ((X.length+A.length+(h - s):Nat):Int))
     have d3:=decide_eq_true (by omega:(X.length:Int) < ((X.length+s:Nat):Int))
     have d4:=decide_eq_false (by omega:¬ ((X.length+s:Nat):Int) < ((X.length+h:Nat):Int))
     have d5:=decide_eq_false (by omega:¬ ((X.length+h:Nat):Int) < ((X.length+A.length+(h - s):Nat):Int))
     rw [k2 (by omega)]
     rw [k4 (by omega)]
     rw [k6 (by omega)]
     try simp -implicitDefEqProofs only [LM9,eq_self,zao,zag,zaf,zav,Nat.zero_mul,zal,hend,d1,d2,d3,d4,d5,TB,SB,Int.reduceToNat,Nat.reduceAdd,Nat.reduceEqDiff,Nat.reduceLT,Nat.reduceMod,Nat.reducePow,Nat.reduceSub,if_true,reduceIte]
     repeat (with_reducible refine And.intro aQ15 ?_)
     exact zau ⟨rfl,rfl⟩
end Go.Proofs.YtnghkomgefieoaaGreatDoor
end

