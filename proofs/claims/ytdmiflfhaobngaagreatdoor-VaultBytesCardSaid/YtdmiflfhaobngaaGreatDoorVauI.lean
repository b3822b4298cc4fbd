/-
  The document's example, the law's walk, what comes in, and what the listed variables hold. No condition.
-/
import Derived.Test.YtdmiflfhaobngaaGreatDoorVauH
set_option linter.unusedSimpArgs false
set_option linter.unusedVariables false
set_option linter.unusedSectionVars false
section
namespace Go.Proofs.YtdmiflfhaobngaaGreatDoor
open Go Go.Eng
set_option linter.defProp false in
def LB28:=And.intro @zaE (And.intro @zaF (And.intro @zaX (And.intro @zaO (And.intro @zaY (And.intro @zaP (And.intro @zco (And.intro @zcp (And.intro @zcq (And.intro @zaZ (And.intro @za0 (And.intro @za1 (And.intro @zbp (And.intro @zbq (@zbr))))))))))))))
set_option linter.defProp false in
def LM7:=And.intro LM1 (LB28)
theorem zaJ {K:AV→Prop} (i j n m:Nat) (h:List UInt8) (k:Int):zaQ T 24 [(0,.ref i 0 n 2),(1,.ref j 0 m 2),(2,str h),(3,i64 k)] K=K (.agg [.ref i 0 n 2,.ref j 0 m 2,str h,i64 k]):=by
 simp [zaQ,T24,T3,T9,T22,tySv,zbs,zaK,zbT,zad,zb8,zb1,cells_ref,one_ref,zbc,tyStr,tySl,zbB]
theorem frz_It {σ:zag} {id n:Nat} {l:List It} (h:σ[id]?=some (.ro (l.flatMap itC))) (hn:n=l.length):frzA σ (.ref id 0 n 2) (slT l):=by
 subst hn
 refine .inr ⟨_,h,by rw [itF.flen];omega,?_⟩
 rw [List.drop_zero,itF.full]
 rfl
theorem end_sv6 {σ:zag} {K:AV→zag→Prop} (hk:K (.tup [svA s0,i64 6]) []):endQ 0 (.tup [.agg [.lit (.slice none 0 0),.lit (.slice none 0 0),str [],i64 0],i64 6]) σ K :=
 zce [] (.tup [svA s0,i64 6]) ⟨_,rfl,_,_,rfl,⟨_,rfl,_,_,rfl,.inr ⟨rfl,rfl⟩,_,_,rfl,.inr ⟨rfl,rfl⟩,_,_,rfl,.inl rfl,_,_,rfl,.inl rfl,rfl⟩,_,_,rfl,.inl rfl,rfl⟩ ⟨[],.tup [svA s0,i64 6],[],rfl,rfl,by decide,by simp [AV.ren,renL,zcn,zaj],trivial,hk⟩
theorem end_ap {σ:zag} {i j n m:Nat} {h:List UInt8} {k e:Int} {K:AV→zag→Prop} (B C:List It) (h1:(zch σ [i,j])[i]?=some (.ro (B.flatMap itC))) (h2:(zch σ [i,j])[j]?=some (.ro (C.flatMap itC))) (hn:n=B.length) (hm:m=C.length) (hK:K (.tup [svA ⟨B,C,h,k⟩,i64 e]) []):endQ 0 (.tup [.agg [.ref i 0 n 2,.ref j 0 m 2,str h,i64 k],i64 e]) σ K :=
 zce [i,j] (.tup [svA ⟨B,C,h,k⟩,i64 e]) ⟨_,rfl,_,_,rfl,⟨_,rfl,_,_,rfl,frz_It h1 hn,_,_,rfl,frz_It h2 hm,_,_,rfl,.inl rfl,_,_,rfl,.inl rfl,rfl⟩,_,_,rfl,.inl rfl,rfl⟩ ⟨[],.tup [svA ⟨B,C,h,k⟩,i64 e],[],rfl,rfl,by decide,by simp [AV.ren,renL,zcn,zaj],trivial,hK⟩
set_option maxHeartbeats 3200000 in
theorem ap0_ok (o:Vo) (hk:o.kind=0) (hB:zbf [o]=true) (h:List UInt8) (n:Int) (hC:chkS ⟨[],[],h,n⟩=true) (hn:n < 1073741824):ACalls Tryz.prog 11 [svA ⟨[],[],h,n⟩,.sl ([o].flatMap voC) 1] [] (fun z _=>z=.ret (.tup [svA ⟨[⟨o.label,o.box⟩],[],shaR (h++(putV [o]).1),n+1⟩,i64 0])):=by
 have hck:=zfN ⟨[],[],h,n⟩ (by simp) (by simp)
 have hib:=zh5 [o]
 rw [hC,if_pos rfl] at hck
 rw [hB] at hib
 obtain⟨-,-,l3,l4,l5⟩:=ze3 hC
 have hd:=do0_ok o hk hB [] h l3 n ⟨l4,hn⟩
 have hcl:=zeh [] (by simp)
 have hc2:=zeh [] (by simp)
 simp only [zbZ,zbl] at hck ⊢
 simp only [List.flatMap_cons,List.flatMap_nil,List.append_nil,zbn,List.length_nil,List.length_cons,Nat.zero_add] at hck hd hcl hc2 ⊢
 refine ACalls.body T_ok Tryz.func11 (by kernel_rfl) rfl Tryz.ntmps11 (congrArg Array.toList Tryz.results11) ?_
 try simp -implicitDefEqProofs only [LM7,eq_self,zab (h:=T68),zad,zac,zaa,zah,zaJ,TB,SB,Int.reduceToNat,Nat.reduceAdd,Nat.reduceEqDiff,Nat.reduceLT,Nat.reduceMod,Nat.reducePow,Nat.reduceSub,if_true,reduceIte]
 refine hck.pure (by simp [renL,zaH,AV.ren,zae,zaj]) ?_
 rintro _ σ rfl
 refine⟨zaj _ _,?_⟩
 try simp -implicitDefEqProofs only [LM7,eq_self,zab (h:=T68),zad,zac,zaa,zah,zaJ,TB,SB,Int.reduceToNat,Nat.reduceAdd,Nat.reduceEqDiff,Nat.reduceLT,Nat.reduceMod,Nat.reducePow,Nat.reduceSub,if_true,reduceIte]
 refine hib.pure (by simp [renL,zaH,AV.ren,zae,zaj,voC]) ?_
 rintro _ σ rfl
 refine⟨zax _ _,?_⟩
 try simp -implicitDefEqProofs only [LM7,eq_self,zab (h:=T68),zad,zac,zaa,zah,zaJ,TB,SB,Int.reduceToNat,Nat.reduceAdd,Nat.reduceEqDiff,Nat.reduceLT,Nat.reduceMod,Nat.reducePow,Nat.reduceSub,if_true,reduceIte]
 refine zgl true [[.rw [.sl [] 0,.sl [] 0,str h,i64 n],.rw [.lit (.slice none 0 0),.lit (.slice none 0 0),str [],i64 0]],[.rw [.sl [] 0,.sl [] 0,str h,i64 n],.rw [.lit (.slice none 0 0),.lit (.slice none 0 0),str [],i64 0],.rw []],[.rw [.sl [] 0,.sl [] 0,str h,i64 n],.rw [.lit (.slice none 0 0),.lit (.slice none 0 0),str [],i64 0],.rw [],.rw []]] [2,5] 11 7 24 12 (by kernel_rfl) (by kernel_rfl) (by kernel_rfl) (fun _=>⟨_,T24⟩) rfl ?_
 simp only [List.take_succ_cons,List.take_zero]
 refine wg_q [0,1,2] (.ptr 0 0) (by kernel_rfl) (by kernel_rfl) rfl (by kernel_rfl) ?_ ?_
 ·simp only [qAll,List.getD_cons_zero,List.getD_cons_succ]
  refine⟨?_,?_,?_,trivial⟩
  ·try simp -implicitDefEqProofs only [LM7,eq_self,zab (h:=T68),zad,zac,zaa,zah,zaJ,TB,SB,Int.reduceToNat,Nat.reduceAdd,Nat.reduceEqDiff,Nat.reduceLT,Nat.reduceMod,Nat.reducePow,Nat.reduceSub,if_true,reduceIte]
  ·try simp -implicitDefEqProofs only [LM7,eq_self,zab (h:=T68),zad,zac,zaa,zah,zaJ,TB,SB,Int.reduceToNat,Nat.reduceAdd,Nat.reduceEqDiff,Nat.reduceLT,Nat.reduceMod,Nat.reducePow,Nat.reduceSub,if_true,reduceIte]
  ·try simp -implicitDefEqProofs only [LM7,eq_self,zab (h:=T68),zad,zac,zaa,zah,zaJ,TB,SB,Int.reduceToNat,Nat.reduceAdd,Nat.reduceEqDiff,Nat.reduceLT,Nat.reduceMod,Nat.reducePow,Nat.reduceSub,if_true,reduceIte]
 refine wg_q [0,1,2] (.sl [] 0) (by kernel_rfl) (by kernel_rfl) rfl (by kernel_rfl) ?_ ?_
 ·simp only [qAll,List.getD_cons_zero,List.getD_cons_succ]
  refine⟨?_,?_,?_,trivial⟩
  ·try simp -implicitDefEqProofs only [LM7,eq_self,zab (h:=T68),zad,zac,zaa,zah,zaJ,TB,SB,Int.reduceToNat,Nat.reduceAdd,Nat.reduceEqDiff,Nat.reduceLT,Nat.reduceMod,Nat.reducePow,Nat.reduceSub,if_true,reduceIte]
  ·try simp -implicitDefEqProofs only [LM7,eq_self,zab (h:=T68),zad,zac,zaa,zah,zaJ,TB,SB,Int.reduceToNat,Nat.reduceAdd,Nat.reduceEqDiff,Nat.reduceLT,Nat.reduceMod,Nat.reducePow,Nat.reduceSub,if_true,reduceIte]
  ·try simp -implicitDefEqProofs only [LM7,eq_self,zab (h:=T68),zad,zac,zaa,zah,zaJ,TB,SB,Int.reduceToNat,Nat.reduceAdd,Nat.reduceEqDiff,Nat.reduceLT,Nat.reduceMod,Nat.reducePow,Nat.reduceSub,if_true,reduceIte]
 refine wg_c (.ref 2 0 0 2) (by kernel_rfl) (by kernel_rfl) ?_ ?_
 ·simp only [show ([2,5]:List Nat).idxOf 2=0 from rfl,Nat.zero_add,List.getD_cons_zero,List.getD_cons_succ]
  try simp -implicitDefEqProofs only [LM7,eq_self,zab (h:=T68),zad,zac,zaa,zah,zaJ,TB,SB,Int.reduceToNat,Nat.reduceAdd,Nat.reduceEqDiff,Nat.reduceLT,Nat.reduceMod,Nat.reducePow,Nat.reduceSub,if_true,reduceIte]
  refine ACalls.frame ([]) (hcl) rfl (by decide) (by simp [LM13,zao,zas,renL,AV.ren,AEnd.ren,zaf str zae,zaq,List.getElem?_cons_zero,List.getElem?_cons_succ]) (by first | rfl | simp [LM13,zao,zas,renL,AV.ren,AEnd.ren,zaf str zae,zaq,List.getElem?_cons_zero,List.getElem?_cons_succ]) ?_
  rintro _ _ ⟨rfl,rfl⟩
  refine⟨.ret (.ref 2 0 0 2),[.rw [.sl [] 0,.sl [] 0,str h,i64 n],.rw [.lit (.slice none 0 0),.lit (.slice none 0 0),str [],i64 0],.rw []],(by show zas _ _ ([1,1,0]) ([1,1,0]) 0 _;simp [LM13,zao,zas,renL,AV.ren,AEnd.ren,zaf str zae,zaq,List.getElem?_cons_zero,List.getElem?_cons_succ]),(by show AEnd.ren ([1,1,0]) _ _;first | rfl | simp [LM13,zao,zas,renL,AV.ren,AEnd.ren,zaf str zae,zaq,List.getElem?_cons_zero,List.getElem?_cons_succ]),?_⟩
  try simp -implicitDefEqProofs only [LM7,eq_self,zab (h:=T68),zad,zac,zaa,zah,zaJ,TB,SB,Int.reduceToNat,Nat.reduceAdd,Nat.reduceEqDiff,Nat.reduceLT,Nat.reduceMod,Nat.reducePow,Nat.reduceSub,if_true,reduceIte]
 refine wg_q [0,1,2] (.ptr 0 1) (by kernel_rfl) (by kernel_rfl) rfl (by kernel_rfl) ?_ ?_
 ·simp only [qAll,List.getD_cons_zero,List.getD_cons_succ]
  refine⟨?_,?_,?_,trivial⟩
  ·try simp -implicitDefEqProofs only [LM7,eq_self,zab (h:=T68),zad,zac,zaa,zah,zaJ,TB,SB,Int.reduceToNat,Nat.reduceAdd,Nat.reduceEqDiff,Nat.reduceLT,Nat.reduceMod,Nat.reducePow,Nat.reduceSub,if_true,reduceIte]
  ·try simp -implicitDefEqProofs only [LM7,eq_self,zab (h:=T68),zad,zac,zaa,zah,zaJ,TB,SB,Int.reduceToNat,Nat.reduceAdd,Nat.reduceEqDiff,Nat.reduceLT,Nat.reduceMod,Nat.reducePow,Nat.reduceSub,if_true,reduceIte]
  ·try simp -implicitDefEqProofs only [LM7,eq_self,zab (h:=T68),zad,zac,zaa,zah,zaJ,TB,SB,Int.reduceToNat,Nat.reduceAdd,Nat.reduceEqDiff,Nat.reduceLT,Nat.reduceMod,Nat.reducePow,Nat.reduceSub,if_true,reduceIte]
 refine wg_q [0,1,2] (.sl [] 0) (by kernel_rfl) (by kernel_rfl) rfl (by kernel_rfl) ?_ ?_
 ·simp only [qAll,List.getD_cons_zero,List.getD_cons_succ]
  refine⟨?_,?_,?_,trivial⟩
  ·try simp -implicitDefEqProofs only [LM7,eq_self,zab (h:=T68),zad,zac,zaa,zah,zaJ,TB,SB,Int.reduceToNat,Nat.reduceAdd,Nat.reduceEqDiff,Nat.reduceLT,Nat.reduceMod,Nat.reducePow,Nat.reduceSub,if_true,reduceIte]
  ·try simp -implicitDefEqProofs only [LM7,eq_self,zab (h:=T68),zad,zac,zaa,zah,zaJ,TB,SB,Int.reduceToNat,Nat.reduceAdd,Nat.reduceEqDiff,Nat.reduceLT,Nat.reduceMod,Nat.reducePow,Nat.reduceSub,if_true,reduceIte]
  ·try simp -implicitDefEqProofs only [LM7,eq_self,zab (h:=T68),zad,zac,zaa,zah,zaJ,TB,SB,Int.reduceToNat,Nat.reduceAdd,Nat.reduceEqDiff,Nat.reduceLT,Nat.reduceMod,Nat.reducePow,Nat.reduceSub,if_true,reduceIte]
 refine wg_c (.ref 3 0 0 2) (by kernel_rfl) (by kernel_rfl) ?_ ?_
 ·simp only [show ([2,5]:List Nat).idxOf 5=1 from rfl,Nat.zero_add,List.getD_cons_zero,List.getD_cons_succ]
  try simp -implicitDefEqProofs only [LM7,eq_self,zab (h:=T68),zad,zac,zaa,zah,zaJ,TB,SB,Int.reduceToNat,Nat.reduceAdd,Nat.reduceEqDiff,Nat.reduceLT,Nat.reduceMod,Nat.reducePow,Nat.reduceSub,if_true,reduceIte]
  refine ACalls.frame ([]) (hc2) rfl (by decide) (by simp [LM13,zao,zas,renL,AV.ren,AEnd.ren,zaf str zae,zaq,List.getElem?_cons_zero,List.getElem?_cons_succ]) (by first | rfl | simp [LM13,zao,zas,renL,AV.ren,AEnd.ren,zaf str zae,zaq,List.getElem?_cons_zero,List.getElem?_cons_succ]) ?_
  rintro _ _ ⟨rfl,rfl⟩
  refine⟨.ret (.ref 3 0 0 2),[.rw [.sl [] 0,.sl [] 0,str h,i64 n],.rw [.lit (.slice none 0 0),.lit (.slice none 0 0),str [],i64 0],.rw [],.rw []],(by show zas _ _ ([1,1,1,0]) ([1,1,1,0]) 0 _;simp [LM13,zao,zas,renL,AV.ren,AEnd.ren,zaf str zae,zaq,List.getElem?_cons_zero,List.getElem?_cons_succ]),(by show AEnd.ren ([1,1,1,0]) _ _;first | rfl | simp [LM13,zao,zas,renL,AV.ren,AEnd.ren,zaf str zae,zaq,List.getElem?_cons_zero,List.getElem?_cons_succ]),?_⟩
  try simp -implicitDefEqProofs only [LM7,eq_self,zab (h:=T68),zad,zac,zaa,zah,zaJ,TB,SB,Int.reduceToNat,Nat.reduceAdd,Nat.reduceEqDiff,Nat.reduceLT,Nat.reduceMod,Nat.reducePow,Nat.reduceSub,if_true,reduceIte]
 refine wg_q [0,1,2] (.ptr 0 2) (by kernel_rfl) (by kernel_rfl) rfl (by kernel_rfl) ?_ ?_
 ·simp only [qAll,List.getD_cons_zero,List.getD_cons_succ]
  refine⟨?_,?_,?_,trivial⟩
  ·try simp -implicitDefEqProofs only [LM7,eq_self,zab (h:=T68),zad,zac,zaa,zah,zaJ,TB,SB,Int.reduceToNat,Nat.reduceAdd,Nat.reduceEqDiff,Nat.reduceLT,Nat.reduceMod,Nat.reducePow,Nat.reduceSub,if_true,reduceIte]
  ·try simp -implicitDefEqProofs only [LM7,eq_self,zab (h:=T68),zad,zac,zaa,zah,zaJ,TB,SB,Int.reduceToNat,Nat.reduceAdd,Nat.reduceEqDiff,Nat.reduceLT,Nat.reduceMod,Nat.reducePow,Nat.reduceSub,if_true,reduceIte]
  ·try simp -implicitDefEqProofs only [LM7,eq_self,zab (h:=T68),zad,zac,zaa,zah,zaJ,TB,SB,Int.reduceToNat,Nat.reduceAdd,Nat.reduceEqDiff,Nat.reduceLT,Nat.reduceMod,Nat.reducePow,Nat.reduceSub,if_true,reduceIte]
 refine wg_q [0,1,2] (str h) (by kernel_rfl) (by kernel_rfl) rfl (by kernel_rfl) ?_ ?_
 ·simp only [qAll,List.getD_cons_zero,List.getD_cons_succ]
  refine⟨?_,?_,?_,trivial⟩
  ·try simp -implicitDefEqProofs only [LM7,eq_self,zab (h:=T68),zad,zac,zaa,zah,zaJ,TB,SB,Int.reduceToNat,Nat.reduceAdd,Nat.reduceEqDiff,Nat.reduceLT,Nat.reduceMod,Nat.reducePow,Nat.reduceSub,if_true,reduceIte]
  ·try simp -implicitDefEqProofs only [LM7,eq_self,zab (h:=T68),zad,zac,zaa,zah,zaJ,TB,SB,Int.reduceToNat,Nat.reduceAdd,Nat.reduceEqDiff,Nat.reduceLT,Nat.reduceMod,Nat.reducePow,Nat.reduceSub,if_true,reduceIte]
  ·try simp -implicitDefEqProofs only [LM7,eq_self,zab (h:=T68),zad,zac,zaa,zah,zaJ,TB,SB,Int.reduceToNat,Nat.reduceAdd,Nat.reduceEqDiff,Nat.reduceLT,Nat.reduceMod,Nat.reducePow,Nat.reduceSub,if_true,reduceIte]
 refine wg_q [0,1,2] (.ptr 0 3) (by kernel_rfl) (by kernel_rfl) rfl (by kernel_rfl) ?_ ?_
 ·simp only [qAll,List.getD_cons_zero,List.getD_cons_succ]
  refine⟨?_,?_,?_,trivial⟩
  ·try simp -implicitDefEqProofs only [LM7,eq_self,zab (h:=T68),zad,zac,zaa,zah,zaJ,TB,SB,Int.reduceToNat,Nat.reduceAdd,Nat.reduceEqDiff,Nat.reduceLT,Nat.reduceMod,Nat.reducePow,Nat.reduceSub,if_true,reduceIte]
  ·try simp -implicitDefEqProofs only [LM7,eq_self,zab (h:=T68),zad,zac,zaa,zah,zaJ,TB,SB,Int.reduceToNat,Nat.reduceAdd,Nat.reduceEqDiff,Nat.reduceLT,Nat.reduceMod,Nat.reducePow,Nat.reduceSub,if_true,reduceIte]
  ·try simp -implicitDefEqProofs only [LM7,eq_self,zab (h:=T68),zad,zac,zaa,zah,zaJ,TB,SB,Int.reduceToNat,Nat.reduceAdd,Nat.reduceEqDiff,Nat.reduceLT,Nat.reduceMod,Nat.reducePow,Nat.reduceSub,if_true,reduceIte]
 refine wg_q [0,1,2] (i64 n) (by kernel_rfl) (by kernel_rfl) rfl (by kernel_rfl) ?_ ?_
 ·simp only [qAll,List.getD_cons_zero,List.getD_cons_succ]
  refine⟨?_,?_,?_,trivial⟩
  ·try simp -implicitDefEqProofs only [LM7,eq_self,zab (h:=T68),zad,zac,zaa,zah,zaJ,TB,SB,Int.reduceToNat,Nat.reduceAdd,Nat.reduceEqDiff,Nat.reduceLT,Nat.reduceMod,Nat.reducePow,Nat.reduceSub,if_true,reduceIte]
  ·try simp -implicitDefEqProofs only [LM7,eq_self,zab (h:=T68),zad,zac,zaa,zah,zaJ,TB,SB,Int.reduceToNat,Nat.reduceAdd,Nat.reduceEqDiff,Nat.reduceLT,Nat.reduceMod,Nat.reducePow,Nat.reduceSub,if_true,reduceIte]
  ·try simp -implicitDefEqProofs only [LM7,eq_self,zab (h:=T68),zad,zac,zaa,zah,zaJ,TB,SB,Int.reduceToNat,Nat.reduceAdd,Nat.reduceEqDiff,Nat.reduceLT,Nat.reduceMod,Nat.reducePow,Nat.reduceSub,if_true,reduceIte]
 refine wg_q [0,1,2] (.agg [.ref 2 0 0 2,.ref 3 0 0 2,str h,i64 n]) (by kernel_rfl) (by kernel_rfl) rfl (by kernel_rfl) ?_ ?_
 ·simp only [qAll,List.getD_cons_zero,List.getD_cons_succ]
  refine⟨?_,?_,?_,trivial⟩
  ·try simp -implicitDefEqProofs only [LM7,eq_self,zab (h:=T68),zad,zac,zaa,zah,zaJ,TB,SB,Int.reduceToNat,Nat.reduceAdd,Nat.reduceEqDiff,Nat.reduceLT,Nat.reduceMod,Nat.reducePow,Nat.reduceSub,if_true,reduceIte]
  ·try simp -implicitDefEqProofs only [LM7,eq_self,zab (h:=T68),zad,zac,zaa,zah,zaJ,TB,SB,Int.reduceToNat,Nat.reduceAdd,Nat.reduceEqDiff,Nat.reduceLT,Nat.reduceMod,Nat.reducePow,Nat.reduceSub,if_true,reduceIte]
  ·try simp -implicitDefEqProofs only [LM7,eq_self,zab (h:=T68),zad,zac,zaa,zah,zaJ,TB,SB,Int.reduceToNat,Nat.reduceAdd,Nat.reduceEqDiff,Nat.reduceLT,Nat.reduceMod,Nat.reducePow,Nat.reduceSub,if_true,reduceIte]
 refine wg_f (by kernel_rfl) ?_
 refine wg_n (fun _=>?_)
 simp only [wgL,show (11 < 12) from by decide,if_true,List.length_cons,List.length_nil,Nat.zero_add,Nat.reduceAdd,List.getD_cons_zero,List.getD_cons_succ,List.drop_succ_cons,List.drop_zero]
 simp only [T24]
 rw [show zaK tySv.zero=[.lit (.slice none 0 0),.lit (.slice none 0 0),str [],i64 0] from rfl]
 try simp -implicitDefEqProofs only [LM7,eq_self,zab (h:=T68),zad,zac,zaa,zah,zaJ,TB,SB,Int.reduceToNat,Nat.reduceAdd,Nat.reduceEqDiff,Nat.reduceLT,Nat.reduceMod,Nat.reducePow,Nat.reduceSub,if_true,reduceIte]
 refine ACalls.frame ([4,2,3]) (hd) rfl (by decide) (by simp [LM13,zao,zas,renL,AV.ren,AEnd.ren,zaf str zae,zaq,List.getElem?_cons_zero,List.getElem?_cons_succ]) (by first | rfl | simp [LM13,zao,zas,renL,AV.ren,AEnd.ren,zaf str zae,zaq,List.getElem?_cons_zero,List.getElem?_cons_succ]) ?_
 rintro _ _ ⟨rfl,rfl⟩
 refine⟨.ret (i64 0),[.rw [.sl [] 0,.sl [] 0,str h,i64 n],.rw [.lit (.slice none 0 0),.lit (.slice none 0 0),str [],i64 0],.dead,.rw [],.rw [.ref 5 0 1 2,.ref 3 0 0 2,str (shaR (h++(putV [o]).1)),i64 (n+1)],.rw [str o.label,str o.box]],(by show zas _ _ ([4,4,1,2,0,3]) ([4,4,1,2,0,3]) 0 _;simp [LM13,zao,zas,renL,AV.ren,AEnd.ren,zaf str zae,zaq,List.getElem?_cons_zero,List.getElem?_cons_succ]),(by show AEnd.ren ([4,4,1,2,0,3]) _ _;first | rfl | simp [LM13,zao,zas,renL,AV.ren,AEnd.ren,zaf str zae,zaq,List.getElem?_cons_zero,List.getElem?_cons_succ]),?_⟩
 try simp -implicitDefEqProofs only [LM7,eq_self,zab (h:=T68),zad,zac,zaa,zah,zaJ,TB,SB,Int.reduceToNat,Nat.reduceAdd,Nat.reduceEqDiff,Nat.reduceLT,Nat.reduceMod,Nat.reducePow,Nat.reduceSub,if_true,reduceIte]
 try simp -implicitDefEqProofs only [LM7,eq_self,zab (h:=T68),zad,zac,zaa,zah,zaJ,show decide ((0:Int)=0)=true from rfl,TB,SB,Int.reduceToNat,Nat.reduceAdd,Nat.reduceEqDiff,Nat.reduceLT,Nat.reduceMod,Nat.reducePow,Nat.reduceSub,if_true,reduceIte]
 exact end_ap [⟨o.label,o.box⟩] [] rfl rfl rfl rfl rfl
set_option maxHeartbeats 3200000 in
theorem ap1_ok (o:Vo) (hk:o.kind=0) (hB:zbf [o]=true) (y:It) (hy:y.label=o.label) (h:List UInt8) (n:Int) (hC:chkS ⟨[y],[],h,n⟩=true) (hn:n < 1073741824):ACalls Tryz.prog 11 [svA ⟨[y],[],h,n⟩,.sl ([o].flatMap voC) 1] [] (fun z _=>z=.ret (.tup [svA ⟨[⟨o.label,o.box⟩],[],shaR (h++(putV [o]).1),n+1⟩,i64 0])):=by
 have hck:=zfN ⟨[y],[],h,n⟩ (by simp) (by simp)
 have hib:=zh5 [o]
 rw [hC,if_pos rfl] at hck
 rw [hB] at hib
 obtain⟨-,-,l3,l4,l5⟩:=ze3 hC
 have hd:=do1_ok o hk hB y hy [] h l3 n ⟨l4,hn⟩
 have hcl:=zeh [y] (by simp)
 have hc2:=zeh [] (by simp)
 simp only [zbZ,zbl] at hck ⊢
 simp only [List.flatMap_cons,List.flatMap_nil,List.append_nil,zbn,List.length_nil,List.length_cons,Nat.zero_add] at hck hd hcl hc2 ⊢
 refine ACalls.body T_ok Tryz.func11 (by kernel_rfl) rfl Tryz.ntmps11 (congrArg Array.toList Tryz.results11) ?_
 try simp -implicitDefEqProofs only [LM7,eq_self,zab (h:=T68),zad,zac,zaa,zah,zaJ,TB,SB,Int.reduceToNat,Nat.reduceAdd,Nat.reduceEqDiff,Nat.reduceLT,Nat.reduceMod,Nat.reducePow,Nat.reduceSub,if_true,reduceIte]
 refine hck.pure (by simp [renL,zaH,AV.ren,zae,zaj]) ?_
 rintro _ σ rfl
 refine⟨zaj _ _,?_⟩
 try simp -implicitDefEqProofs only [LM7,eq_self,zab (h:=T68),zad,zac,zaa,zah,zaJ,TB,SB,Int.reduceToNat,Nat.reduceAdd,Nat.reduceEqDiff,Nat.reduceLT,Nat.reduceMod,Nat.reducePow,Nat.reduceSub,if_true,reduceIte]
 refine hib.pure (by simp [renL,zaH,AV.ren,zae,zaj,voC]) ?_
 rintro _ σ rfl
 refine⟨zax _ _,?_⟩
 try simp -implicitDefEqProofs only [LM7,eq_self,zab (h:=T68),zad,zac,zaa,zah,zaJ,TB,SB,Int.reduceToNat,Nat.reduceAdd,Nat.reduceEqDiff,Nat.reduceLT,Nat.reduceMod,Nat.reducePow,Nat.reduceSub,if_true,reduceIte]
 refine zgl true [[.rw [.sl [str y.label,str y.box] 1,.sl [] 0,str h,i64 n],.rw [.lit (.slice none 0 0),.lit (.slice none 0 0),str [],i64 0]],[.rw [.sl [str y.label,str y.box] 1,.sl [] 0,str h,i64 n],.rw [.lit (.slice none 0 0),.lit (.slice none 0 0),str [],i64 0],.rw [str y.label,str y.box]],[.rw [.sl [str y.label,str y.box] 1,.sl [] 0,str h,i64 n],.rw [.lit (.slice none 0 0),.lit (.slice none 0 0),str [],i64 0],.rw [str y.label,str y.box],.rw []]] [2,5] 11 7 24 12 (by kernel_rfl) (by kernel_rfl) (by kernel_rfl) (fun _=>⟨_,T24⟩) rfl ?_
 simp only [List.take_succ_cons,List.take_zero]
 refine wg_q [0,1,2] (.ptr 0 0) (by kernel_rfl) (by kernel_rfl) rfl (by kernel_rfl) ?_ ?_
 ·simp only [qAll,List.getD_cons_zero,List.getD_cons_succ]
  refine⟨?_,?_,?_,trivial⟩
  ·try simp -implicitDefEqProofs only [LM7,eq_self,zab (h:=T68),zad,zac,zaa,zah,zaJ,TB,SB,Int.reduceToNat,Nat.reduceAdd,Nat.reduceEqDiff,Nat.reduceLT,Nat.reduceMod,Nat.reducePow,Nat.reduceSub,if_true,reduceIte]
  ·try simp -implicitDefEqProofs only [LM7,eq_self,zab (h:=T68),zad,zac,zaa,zah,zaJ,TB,SB,Int.reduceToNat,Nat.reduceAdd,Nat.reduceEqDiff,Nat.reduceLT,Nat.reduceMod,Nat.reducePow,Nat.reduceSub,if_true,reduceIte]
  ·try simp -implicitDefEqProofs only [LM7,eq_self,zab (h:=T68),zad,zac,zaa,zah,zaJ,TB,SB,Int.reduceToNat,Nat.reduceAdd,Nat.reduceEqDiff,Nat.reduceLT,Nat.reduceMod,Nat.reducePow,Nat.reduceSub,if_true,reduceIte]
 refine wg_q [0,1,2] (.sl [str y.label,str y.box] 1) (by kernel_rfl) (by kernel_rfl) rfl (by kernel_rfl) ?_ ?_
 ·simp only [qAll,List.getD_cons_zero,List.getD_cons_succ]
  refine⟨?_,?_,?_,trivial⟩
  ·try simp -implicitDefEqProofs only [LM7,eq_self,zab (h:=T68),zad,zac,zaa,zah,zaJ,TB,SB,Int.reduceToNat,Nat.reduceAdd,Nat.reduceEqDiff,Nat.reduceLT,Nat.reduceMod,Nat.reducePow,Nat.reduceSub,if_true,reduceIte]
  ·try simp -implicitDefEqProofs only [LM7,eq_self,zab (h:=T68),zad,zac,zaa,zah,zaJ,TB,SB,Int.reduceToNat,Nat.reduceAdd,Nat.reduceEqDiff,Nat.reduceLT,Nat.reduceMod,Nat.reducePow,Nat.reduceSub,if_true,reduceIte]
  ·try simp -implicitDefEqProofs only [LM7,eq_self,zab (h:=T68),zad,zac,zaa,zah,zaJ,TB,SB,Int.reduceToNat,Nat.reduceAdd,Nat.reduceEqDiff,Nat.reduceLT,Nat.reduceMod,Nat.reducePow,Nat.reduceSub,if_true,reduceIte]
 refine wg_c (.ref 2 0 1 2) (by kernel_rfl) (by kernel_rfl) ?_ ?_
 ·simp only [show ([2,5]:List Nat).idxOf 2=0 from rfl,Nat.zero_add,List.getD_cons_zero,List.getD_cons_succ]
  try simp -implicitDefEqProofs only [LM7,eq_self,zab (h:=T68),zad,zac,zaa,zah,zaJ,TB,SB,Int.reduceToNat,Nat.reduceAdd,Nat.reduceEqDiff,Nat.reduceLT,Nat.reduceMod,Nat.reducePow,Nat.reduceSub,if_true,reduceIte]
  refine ACalls.frame ([]) (hcl) rfl (by decide) (by simp [LM13,zao,zas,renL,AV.ren,AEnd.ren,zaf str zae,zaq,List.getElem?_cons_zero,List.getElem?_cons_succ]) (by first | rfl | simp [LM13,zao,zas,renL,AV.ren,AEnd.ren,zaf str zae,zaq,List.getElem?_cons_zero,List.getElem?_cons_succ]) ?_
  rintro _ _ ⟨rfl,rfl⟩
  refine⟨.ret (.ref 2 0 1 2),[.rw [.sl [str y.label,str y.box] 1,.sl [] 0,str h,i64 n],.rw [.lit (.slice none 0 0),.lit (.slice none 0 0),str [],i64 0],.rw [str y.label,str y.box]],(by show zas _ _ ([1,1,0]) ([1,1,0]) 0 _;simp [LM13,zao,zas,renL,AV.ren,AEnd.ren,zaf str zae,zaq,List.getElem?_cons_zero,List.getElem?_cons_succ]),(by show AEnd.ren ([1,1,0]) _ _;first | rfl | simp [LM13,zao,zas,renL,AV.ren,AEnd.ren,zaf str zae,zaq,List.getElem?_cons_zero,List.getElem?_cons_succ]),?_⟩
  try simp -implicitDefEqProofs only [LM7,eq_self,zab (h:=T68),zad,zac,zaa,zah,zaJ,TB,SB,Int.reduceToNat,Nat.reduceAdd,Nat.reduceEqDiff,Nat.reduceLT,Nat.reduceMod,Nat.reducePow,Nat.reduceSub,if_true,reduceIte]
 refine wg_q [0,1,2] (.ptr 0 1) (by kernel_rfl) (by kernel_rfl) rfl (by kernel_rfl) ?_ ?_
 ·simp only [qAll,List.getD_cons_zero,List.getD_cons_succ]
  refine⟨?_,?_,?_,trivial⟩
  ·try simp -implicitDefEqProofs only [LM7,eq_self,zab (h:=T68),zad,zac,zaa,zah,zaJ,TB,SB,Int.reduceToNat,Nat.reduceAdd,Nat.reduceEqDiff,Nat.reduceLT,Nat.reduceMod,Nat.reducePow,Nat.reduceSub,if_true,reduceIte]
  ·try simp -implicitDefEqProofs only [LM7,eq_self,zab (h:=T68),zad,zac,zaa,zah,zaJ,TB,SB,Int.reduceToNat,Nat.reduceAdd,Nat.reduceEqDiff,Nat.reduceLT,Nat.reduceMod,Nat.reducePow,Nat.reduceSub,if_true,reduceIte]
  ·try simp -implicitDefEqProofs only [LM7,eq_self,zab (h:=T68),zad,zac,zaa,zah,zaJ,TB,SB,Int.reduceToNat,Nat.reduceAdd,Nat.reduceEqDiff,Nat.reduceLT,Nat.reduceMod,Nat.reducePow,Nat.reduceSub,if_true,reduceIte]
 refine wg_q [0,1,2] (.sl [] 0) (by kernel_rfl) (by kernel_rfl) rfl (by kernel_rfl) ?_ ?_
 ·simp only [qAll,List.getD_cons_zero,List.getD_cons_succ]
  refine⟨?_,?_,?_,trivial⟩
  ·try simp -implicitDefEqProofs only [LM7,eq_self,zab (h:=T68),zad,zac,zaa,zah,zaJ,TB,SB,Int.reduceToNat,Nat.reduceAdd,Nat.reduceEqDiff,Nat.reduceLT,Nat.reduceMod,Nat.reducePow,Nat.reduceSub,if_true,reduceIte]
  ·try simp -implicitDefEqProofs only [LM7,eq_self,zab (h:=T68),zad,zac,zaa,zah,zaJ,TB,SB,Int.reduceToNat,Nat.reduceAdd,Nat.reduceEqDiff,Nat.reduceLT,Nat.reduceMod,Nat.reducePow,Nat.reduceSub,if_true,reduceIte]
  ·try simp -implicitDefEqProofs only [LM7,eq_self,zab (h:=T68),zad,zac,zaa,zah,zaJ,TB,SB,Int.reduceToNat,Nat.reduceAdd,Nat.reduceEqDiff,Nat.reduceLT,Nat.reduceMod,Nat.reducePow,Nat.reduceSub,if_true,reduceIte]
 refine wg_c (.ref 3 0 0 2) (by kernel_rfl) (by kernel_rfl) ?_ ?_
 ·simp only [show ([2,5]:List Nat).idxOf 5=1 from rfl,Nat.zero_add,List.getD_cons_zero,List.getD_cons_succ]
  try simp -implicitDefEqProofs only [LM7,eq_self,zab (h:=T68),zad,zac,zaa,zah,zaJ,TB,SB,Int.reduceToNat,Nat.reduceAdd,Nat.reduceEqDiff,Nat.reduceLT,Nat.reduceMod,Nat.reducePow,Nat.reduceSub,if_true,reduceIte]
  refine ACalls.frame ([]) (hc2) rfl (by decide) (by simp [LM13,zao,zas,renL,AV.ren,AEnd.ren,zaf str zae,zaq,List.getElem?_cons_zero,List.getElem?_cons_succ]) (by first | rfl | simp [LM13,zao,zas,renL,AV.ren,AEnd.ren,zaf str zae,zaq,List.getElem?_cons_zero,List.getElem?_cons_succ]) ?_
  rintro _ _ ⟨rfl,rfl⟩
  refine⟨.ret (.ref 3 0 0 2),[.rw [.sl [str y.label,str y.box] 1,.sl [] 0,str h,i64 n],.rw [.lit (.slice none 0 0),.lit (.slice none 0 0),str [],i64 0],.rw [str y.label,str y.box],.rw []],(by show zas _ _ ([1,1,1,0]) ([1,1,1,0]) 0 _;simp [LM13,zao,zas,renL,AV.ren,AEnd.ren,zaf str zae,zaq,List.getElem?_cons_zero,List.getElem?_cons_succ]),(by show AEnd.ren ([1,1,1,0]) _ _;first | rfl | simp [LM13,zao,zas,renL,AV.ren,AEnd.ren,zaf str zae,zaq,List.getElem?_cons_zero,List.getElem?_cons_succ]),?_⟩
  try simp -implicitDefEqProofs only [LM7,eq_self,zab (h:=T68),zad,zac,zaa,zah,zaJ,TB,SB,Int.reduceToNat,Nat.reduceAdd,Nat.reduceEqDiff,Nat.reduceLT,Nat.reduceMod,Nat.reducePow,Nat.reduceSub,if_true,reduceIte]
 refine wg_q [0,1,2] (.ptr 0 2) (by kernel_rfl) (by kernel_rfl) rfl (by kernel_rfl) ?_ ?_
 ·simp only [qAll,List.getD_cons_zero,List.getD_cons_succ]
  refine⟨?_,?_,?_,trivial⟩
  ·try simp -implicitDefEqProofs only [LM7,eq_self,zab (h:=T68),zad,zac,zaa,zah,zaJ,TB,SB,Int.reduceToNat,Nat.reduceAdd,Nat.reduceEqDiff,Nat.reduceLT,Nat.reduceMod,Nat.reducePow,Nat.reduceSub,if_true,reduceIte]
  ·try simp -implicitDefEqProofs only [LM7,eq_self,zab (h:=T68),zad,zac,zaa,zah,zaJ,TB,SB,Int.reduceToNat,Nat.reduceAdd,Nat.reduceEqDiff,Nat.reduceLT,Nat.reduceMod,Nat.reducePow,Nat.reduceSub,if_true,reduceIte]
  ·try simp -implicitDefEqProofs only [LM7,eq_self,zab (h:=T68),zad,zac,zaa,zah,zaJ,TB,SB,Int.reduceToNat,Nat.reduceAdd,Nat.reduceEqDiff,Nat.reduceLT,Nat.reduceMod,Nat.reducePow,Nat.reduceSub,if_true,reduceIte]
 refine wg_q [0,1,2] (str h) (by kernel_rfl) (by kernel_rfl) rfl (by kernel_rfl) ?_ ?_
 ·simp only [qAll,List.getD_cons_zero,List.getD_cons_succ]
  refine⟨?_,?_,?_,trivial⟩
  ·try simp -implicitDefEqProofs only [LM7,eq_self,zab (h:=T68),zad,zac,zaa,zah,zaJ,TB,SB,Int.reduceToNat,Nat.reduceAdd,Nat.reduceEqDiff,Nat.reduceLT,Nat.reduceMod,Nat.reducePow,Nat.reduceSub,if_true,reduceIte]
  ·try simp -implicitDefEqProofs only [LM7,eq_self,zab (h:=T68),zad,zac,zaa,zah,zaJ,TB,SB,Int.reduceToNat,Nat.reduceAdd,Nat.reduceEqDiff,Nat.reduceLT,Nat.reduceMod,Nat.reducePow,Nat.reduceSub,if_true,reduceIte]
  ·try simp -implicitDefEqProofs only [LM7,eq_self,zab (h:=T68),zad,zac,zaa,zah,zaJ,TB,SB,Int.reduceToNat,Nat.reduceAdd,Nat.reduceEqDiff,Nat.reduceLT,Nat.reduceMod,Nat.reducePow,Nat.reduceSub,if_true,reduceIte]
 refine wg_q [0,1,2] (.ptr 0 3) (by kernel_rfl) (by kernel_rfl) rfl (by kernel_rfl) ?_ ?_
 ·simp only [qAll,List.getD_cons_zero,List.getD_cons_succ]
  refine⟨?_,?_,?_,trivial⟩
  ·try simp -implicitDefEqProofs only [LM7,eq_self,zab (h:=T68),zad,zac,zaa,zah,zaJ,TB,SB,Int.reduceToNat,Nat.reduceAdd,Nat.reduceEqDiff,Nat.reduceLT,Nat.reduceMod,Nat.reducePow,Nat.reduceSub,if_true,reduceIte]
  ·try simp -implicitDefEqProofs only [LM7,eq_self,zab (h:=T68),zad,zac,zaa,zah,zaJ,TB,SB,Int.reduceToNat,Nat.reduceAdd,Nat.reduceEqDiff,Nat.reduceLT,Nat.reduceMod,Nat.reducePow,Nat.reduceSub,if_true,reduceIte]
  ·try simp -implicitDefEqProofs only [LM7,eq_self,zab (h:=T68),zad,zac,zaa,zah,zaJ,TB,SB,Int.reduceToNat,Nat.reduceAdd,Nat.reduceEqDiff,Nat.reduceLT,Nat.reduceMod,Nat.reducePow,Nat.reduceSub,if_true,reduceIte]
 refine wg_q [0,1,2] (i64 n) (by kernel_rfl) (by kernel_rfl) rfl (by kernel_rfl) ?_ ?_
 ·simp only [qAll,List.getD_cons_zero,List.getD_cons_succ]
  refine⟨?_,?_,?_,trivial⟩
  ·try simp -implicitDefEqProofs only [LM7,eq_self,zab (h:=T68),zad,zac,zaa,zah,zaJ,TB,SB,Int.reduceToNat,Nat.reduceAdd,Nat.reduceEqDiff,Nat.reduceLT,Nat.reduceMod,Nat.reducePow,Nat.reduceSub,if_true,reduceIte]
  ·try simp -implicitDefEqProofs only [LM7,eq_self,zab (h:=T68),zad,zac,zaa,zah,zaJ,TB,SB,Int.reduceToNat,Nat.reduceAdd,Nat.reduceEqDiff,Nat.reduceLT,Nat.reduceMod,Nat.reducePow,Nat.reduceSub,if_true,reduceIte]
  ·try simp -implicitDefEqProofs only [LM7,eq_self,zab (h:=T68),zad,zac,zaa,zah,zaJ,TB,SB,Int.reduceToNat,Nat.reduceAdd,Nat.reduceEqDiff,Nat.reduceLT,Nat.reduceMod,Nat.reducePow,Nat.reduceSub,if_true,reduceIte]
 refine wg_q [0,1,2] (.agg [.ref 2 0 1 2,.ref 3 0 0 2,str h,i64 n]) (by kernel_rfl) (by kernel_rfl) rfl (by kernel_rfl) ?_ ?_
 ·simp only [qAll,List.getD_cons_zero,List.getD_cons_succ]
  refine⟨?_,?_,?_,trivial⟩
  ·try simp -implicitDefEqProofs only [LM7,eq_self,zab (h:=T68),zad,zac,zaa,zah,zaJ,TB,SB,Int.reduceToNat,Nat.reduceAdd,Nat.reduceEqDiff,Nat.reduceLT,Nat.reduceMod,Nat.reducePow,Nat.reduceSub,if_true,reduceIte]
  ·try simp -implicitDefEqProofs only [LM7,eq_self,zab (h:=T68),zad,zac,zaa,zah,zaJ,TB,SB,Int.reduceToNat,Nat.reduceAdd,Nat.reduceEqDiff,Nat.reduceLT,Nat.reduceMod,Nat.reducePow,Nat.reduceSub,if_true,reduceIte]
  ·try simp -implicitDefEqProofs only [LM7,eq_self,zab (h:=T68),zad,zac,zaa,zah,zaJ,TB,SB,Int.reduceToNat,Nat.reduceAdd,Nat.reduceEqDiff,Nat.reduceLT,Nat.reduceMod,Nat.reducePow,Nat.reduceSub,if_true,reduceIte]
 refine wg_f (by kernel_rfl) ?_
 refine wg_n (fun _=>?_)
 simp only [wgL,show (11 < 12) from by decide,if_true,List.length_cons,List.length_nil,Nat.zero_add,Nat.reduceAdd,List.getD_cons_zero,List.getD_cons_succ,List.drop_succ_cons,List.drop_zero]
 simp only [T24]
 rw [show zaK tySv.zero=[.lit (.slice none 0 0),.lit (.slice none 0 0),str [],i64 0] from rfl]
 try simp -implicitDefEqProofs only [LM7,eq_self,zab (h:=T68),zad,zac,zaa,zah,zaJ,TB,SB,Int.reduceToNat,Nat.reduceAdd,Nat.reduceEqDiff,Nat.reduceLT,Nat.reduceMod,Nat.reducePow,Nat.reduceSub,if_true,reduceIte]
 refine ACalls.frame ([4,2,3]) (hd) rfl (by decide) (by simp [LM13,zao,zas,renL,AV.ren,AEnd.ren,zaf str zae,zaq,List.getElem?_cons_zero,List.getElem?_cons_succ]) (by first | rfl | simp [LM13,zao,zas,renL,AV.ren,AEnd.ren,zaf str zae,zaq,List.getElem?_cons_zero,List.getElem?_cons_succ]) ?_
 rintro _ _ ⟨rfl,rfl⟩
 refine⟨.ret (i64 0),[.rw [.sl [str y.label,str y.box] 1,.sl [] 0,str h,i64 n],.rw [.lit (.slice none 0 0),.lit (.slice none 0 0),str [],i64 0],.rw [str o.label,str o.box],.rw [],.rw [.ref 2 0 1 2,.ref 3 0 0 2,str (shaR (h++(putV [o]).1)),i64 (n+1)]],(by show zas _ _ ([3,3,1,2,0]) ([3,3,1,2,0]) 0 _;simp [LM13,zao,zas,renL,AV.ren,AEnd.ren,zaf str zae,zaq,List.getElem?_cons_zero,List.getElem?_cons_succ]),(by show AEnd.ren ([3,3,1,2,0]) _ _;first | rfl | simp [LM13,zao,zas,renL,AV.ren,AEnd.ren,zaf str zae,zaq,List.getElem?_cons_zero,List.getElem?_cons_succ]),?_⟩
 try simp -implicitDefEqProofs only [LM7,eq_self,zab (h:=T68),zad,zac,zaa,zah,zaJ,TB,SB,Int.reduceToNat,Nat.reduceAdd,Nat.reduceEqDiff,Nat.reduceLT,Nat.reduceMod,Nat.reducePow,Nat.reduceSub,if_true,reduceIte]
 try simp -implicitDefEqProofs only [LM7,eq_self,zab (h:=T68),zad,zac,zaa,zah,zaJ,show decide ((0:Int)=0)=true from rfl,TB,SB,Int.reduceToNat,Nat.reduceAdd,Nat.reduceEqDiff,Nat.reduceLT,Nat.reduceMod,Nat.reducePow,Nat.reduceSub,if_true,reduceIte]
 exact end_ap [⟨o.label,o.box⟩] [] rfl rfl rfl rfl rfl
set_option maxHeartbeats 3200000 in
theorem ap2_ok (o:Vo) (hk:o.kind=1) (hB:zbf [o]=true) (y:It) (hy:y.label < o.label) (h:List UInt8) (n:Int) (hC:chkS ⟨[y],[],h,n⟩=true) (hn:n < 1073741824):ACalls Tryz.prog 11 [svA ⟨[y],[],h,n⟩,.sl ([o].flatMap voC) 1] [] (fun z _=>z=.ret (.tup [svA ⟨[],[],[],0⟩,i64 6])):=by
 have hck:=zfN ⟨[y],[],h,n⟩ (by simp) (by simp)
 have hib:=zh5 [o]
 rw [hC,if_pos rfl] at hck
 rw [hB] at hib
 obtain⟨-,-,l3,l4,l5⟩:=ze3 hC
 have hd:=do2_ok o hk hB y hy [] h l3 n ⟨l4,hn⟩
 have hcl:=zeh [y] (by simp)
 have hc2:=zeh [] (by simp)
 simp only [zbZ,zbl] at hck ⊢
 simp only [List.flatMap_cons,List.flatMap_nil,List.append_nil,zbn,List.length_nil,List.length_cons,Nat.zero_add] at hck hd hcl hc2 ⊢
 refine ACalls.body T_ok Tryz.func11 (by kernel_rfl) rfl Tryz.ntmps11 (congrArg Array.toList Tryz.results11) ?_
 try simp -implicitDefEqProofs only [LM7,eq_self,zab (h:=T68),zad,zac,zaa,zah,zaJ,TB,SB,Int.reduceToNat,Nat.reduceAdd,Nat.reduceEqDiff,Nat.reduceLT,Nat.reduceMod,Nat.reducePow,Nat.reduceSub,if_true,reduceIte]
 refine hck.pure (by simp [renL,zaH,AV.ren,zae,zaj]) ?_
 rintro _ σ rfl
 refine⟨zaj _ _,?_⟩
 try simp -implicitDefEqProofs only [LM7,eq_self,zab (h:=T68),zad,zac,zaa,zah,zaJ,TB,SB,Int.reduceToNat,Nat.reduceAdd,Nat.reduceEqDiff,Nat.reduceLT,Nat.reduceMod,Nat.reducePow,Nat.reduceSub,if_true,reduceIte]
 refine hib.pure (by simp [renL,zaH,AV.ren,zae,zaj,voC]) ?_
 rintro _ σ rfl
 refine⟨zax _ _,?_⟩
 try simp -implicitDefEqProofs only [LM7,eq_self,zab (h:=T68),zad,zac,zaa,zah,zaJ,TB,SB,Int.reduceToNat,Nat.reduceAdd,Nat.reduceEqDiff,Nat.reduceLT,Nat.reduceMod,Nat.reducePow,Nat.reduceSub,if_true,reduceIte]
 refine zgl true [[.rw [.sl [str y.label,str y.box] 1,.sl [] 0,str h,i64 n],.rw [.lit (.slice none 0 0),.lit (.slice none 0 0),str [],i64 0]],[.rw [.sl [str y.label,str y.box] 1,.sl [] 0,str h,i64 n],.rw [.lit (.slice none 0 0),.lit (.slice none 0 0),str [],i64 0],.rw [str y.label,str y.box]],[.rw [.sl [str y.label,str y.box] 1,.sl [] 0,str h,i64 n],.rw [.lit (.slice none 0 0),.lit (.slice none 0 0),str [],i64 0],.rw [str y.label,str y.box],.rw []]] [2,5] 11 7 24 12 (by kernel_rfl) (by kernel_rfl) (by kernel_rfl) (fun _=>⟨_,T24⟩) rfl ?_
 simp only [List.take_succ_cons,List.take_zero]
 refine wg_q [0,1,2] (.ptr 0 0) (by kernel_rfl) (by kernel_rfl) rfl (by kernel_rfl) ?_ ?_
 ·simp only [qAll,List.getD_cons_zero,List.getD_cons_succ]
  refine⟨?_,?_,?_,trivial⟩
  ·try simp -implicitDefEqProofs only [LM7,eq_self,zab (h:=T68),zad,zac,zaa,zah,zaJ,TB,SB,Int.reduceToNat,Nat.reduceAdd,Nat.reduceEqDiff,Nat.reduceLT,Nat.reduceMod,Nat.reducePow,Nat.reduceSub,if_true,reduceIte]
  ·try simp -implicitDefEqProofs only [LM7,eq_self,zab (h:=T68),zad,zac,zaa,zah,zaJ,TB,SB,Int.reduceToNat,Nat.reduceAdd,Nat.reduceEqDiff,Nat.reduceLT,Nat.reduceMod,Nat.reducePow,Nat.reduceSub,if_true,reduceIte]
  ·try simp -implicitDefEqProofs only [LM7,eq_self,zab (h:=T68),zad,zac,zaa,zah,zaJ,TB,SB,Int.reduceToNat,Nat.reduceAdd,Nat.reduceEqDiff,Nat.reduceLT,Nat.reduceMod,Nat.reducePow,Nat.reduceSub,if_true,reduceIte]
 refine wg_q [0,1,2] (.sl [str y.label,str y.box] 1) (by kernel_rfl) (by kernel_rfl) rfl (by kernel_rfl) ?_ ?_
 ·simp only [qAll,List.getD_cons_zero,List.getD_cons_succ]
  refine⟨?_,?_,?_,trivial⟩
  ·try simp -implicitDefEqProofs only [LM7,eq_self,zab (h:=T68),zad,zac,zaa,zah,zaJ,TB,SB,Int.reduceToNat,Nat.reduceAdd,Nat.reduceEqDiff,Nat.reduceLT,Nat.reduceMod,Nat.reducePow,Nat.reduceSub,if_true,reduceIte]
  ·try simp -implicitDefEqProofs only [LM7,eq_self,zab (h:=T68),zad,zac,zaa,zah,zaJ,TB,SB,Int.reduceToNat,Nat.reduceAdd,Nat.reduceEqDiff,Nat.reduceLT,Nat.reduceMod,Nat.reducePow,Nat.reduceSub,if_true,reduceIte]
  ·try simp -implicitDefEqProofs only [LM7,eq_self,zab (h:=T68),zad,zac,zaa,zah,zaJ,TB,SB,Int.reduceToNat,Nat.reduceAdd,Nat.reduceEqDiff,Nat.reduceLT,Nat.reduceMod,Nat.reducePow,Nat.reduceSub,if_true,reduceIte]
 refine wg_c (.ref 2 0 1 2) (by kernel_rfl) (by kernel_rfl) ?_ ?_
 ·simp only [show ([2,5]:List Nat).idxOf 2=0 from rfl,Nat.zero_add,List.getD_cons_zero,List.getD_cons_succ]
  try simp -implicitDefEqProofs only [LM7,eq_self,zab (h:=T68),zad,zac,zaa,zah,zaJ,TB,SB,Int.reduceToNat,Nat.reduceAdd,Nat.reduceEqDiff,Nat.reduceLT,Nat.reduceMod,Nat.reducePow,Nat.reduceSub,if_true,reduceIte]
  refine ACalls.frame ([]) (hcl) rfl (by decide) (by simp [LM13,zao,zas,renL,AV.ren,AEnd.ren,zaf str zae,zaq,List.getElem?_cons_zero,List.getElem?_cons_succ]) (by first | rfl | simp [LM13,zao,zas,renL,AV.ren,AEnd.ren,zaf str zae,zaq,List.getElem?_cons_zero,List.getElem?_cons_succ]) ?_
  rintro _ _ ⟨rfl,rfl⟩
  refine⟨.ret (.ref 2 0 1 2),[.rw [.sl [str y.label,str y.box] 1,.sl [] 0,str h,i64 n],.rw [.lit (.slice none 0 0),.lit (.slice none 0 0),str [],i64 0],.rw [str y.label,str y.box]],(by show zas _ _ ([1,1,0]) ([1,1,0]) 0 _;simp [LM13,zao,zas,renL,AV.ren,AEnd.ren,zaf str zae,zaq,List.getElem?_cons_zero,List.getElem?_cons_succ]),(by show AEnd.ren ([1,1,0]) _ _;first | rfl | simp [LM13,zao,zas,renL,AV.ren,AEnd.ren,zaf str zae,zaq,List.getElem?_cons_zero,List.getElem?_cons_succ]),?_⟩
  try simp -implicitDefEqProofs only [LM7,eq_self,zab (h:=T68),zad,zac,zaa,zah,zaJ,TB,SB,Int.reduceToNat,Nat.reduceAdd,Nat.reduceEqDiff,Nat.reduceLT,Nat.reduceMod,Nat.reducePow,Nat.reduceSub,if_true,reduceIte]
 refine wg_q [0,1,2] (.ptr 0 1) (by kernel_rfl) (by kernel_rfl) rfl (by kernel_rfl) ?_ ?_
 ·simp only [qAll,List.getD_cons_zero,List.getD_cons_succ]
  refine⟨?_,?_,?_,trivial⟩
  ·try simp -implicitDefEqProofs only [LM7,eq_self,zab (h:=T68),zad,zac,zaa,zah,zaJ,TB,SB,Int.reduceToNat,Nat.reduceAdd,Nat.reduceEqDiff,Nat.reduceLT,Nat.reduceMod,Nat.reducePow,Nat.reduceSub,if_true,reduceIte]
  ·try simp -implicitDefEqProofs only [LM7,eq_self,zab (h:=T68),zad,zac,zaa,zah,zaJ,TB,SB,Int.reduceToNat,Nat.reduceAdd,Nat.reduceEqDiff,Nat.reduceLT,Nat.reduceMod,Nat.reducePow,Nat.reduceSub,if_true,reduceIte]
  ·try simp -implicitDefEqProofs only [LM7,eq_self,zab (h:=T68),zad,zac,zaa,zah,zaJ,TB,SB,Int.reduceToNat,Nat.reduceAdd,Nat.reduceEqDiff,Nat.reduceLT,Nat.reduceMod,Nat.reducePow,Nat.reduceSub,if_true,reduceIte]
 refine wg_q [0,1,2] (.sl [] 0) (by kernel_rfl) (by kernel_rfl) rfl (by kernel_rfl) ?_ ?_
 ·simp only [qAll,List.getD_cons_zero,List.getD_cons_succ]
  refine⟨?_,?_,?_,trivial⟩
  ·try simp -implicitDefEqProofs only [LM7,eq_self,zab (h:=T68),zad,zac,zaa,zah,zaJ,TB,SB,Int.reduceToNat,Nat.reduceAdd,Nat.reduceEqDiff,Nat.reduceLT,Nat.reduceMod,Nat.reducePow,Nat.reduceSub,if_true,reduceIte]
  ·try simp -implicitDefEqProofs only [LM7,eq_self,zab (h:=T68),zad,zac,zaa,zah,zaJ,TB,SB,Int.reduceToNat,Nat.reduceAdd,Nat.reduceEqDiff,Nat.reduceLT,Nat.reduceMod,Nat.reducePow,Nat.reduceSub,if_true,reduceIte]
  ·try simp -implicitDefEqProofs only [LM7,eq_self,zab (h:=T68),zad,zac,zaa,zah,zaJ,TB,SB,Int.reduceToNat,Nat.reduceAdd,Nat.reduceEqDiff,Nat.reduceLT,Nat.reduceMod,Nat.reducePow,Nat.reduceSub,if_true,reduceIte]
 refine wg_c (.ref 3 0 0 2) (by kernel_rfl) (by kernel_rfl) ?_ ?_
 ·simp only [show ([2,5]:List Nat).idxOf 5=1 from rfl,Nat.zero_add,List.getD_cons_zero,List.getD_cons_succ]
  try simp -implicitDefEqProofs only [LM7,eq_self,zab (h:=T68),zad,zac,zaa,zah,zaJ,TB,SB,Int.reduceToNat,Nat.reduceAdd,Nat.reduceEqDiff,Nat.reduceLT,Nat.reduceMod,Nat.reducePow,Nat.reduceSub,if_true,reduceIte]
  refine ACalls.frame ([]) (hc2) rfl (by decide) (by simp [LM13,zao,zas,renL,AV.ren,AEnd.ren,zaf str zae,zaq,List.getElem?_cons_zero,List.getElem?_cons_succ]) (by first | rfl | simp [LM13,zao,zas,renL,AV.ren,AEnd.ren,zaf str zae,zaq,List.getElem?_cons_zero,List.getElem?_cons_succ]) ?_
  rintro _ _ ⟨rfl,rfl⟩
  refine⟨.ret (.ref 3 0 0 2),[.rw [.sl [str y.label,str y.box] 1,.sl [] 0,str h,i64 n],.rw [.lit (.slice none 0 0),.lit (.slice none 0 0),str [],i64 0],.rw [str y.label,str y.box],.rw []],(by show zas _ _ ([1,1,1,0]) ([1,1,1,0]) 0 _;simp [LM13,zao,zas,renL,AV.ren,AEnd.ren,zaf str zae,zaq,List.getElem?_cons_zero,List.getElem?_cons_succ]),(by show AEnd.ren ([1,1,1,0]) _ _;first | rfl | simp [LM13,zao,zas,renL,AV.ren,AEnd.ren,zaf str zae,zaq,List.getElem?_cons_zero,List.getElem?_cons_succ]),?_⟩
  try simp -implicitDefEqProofs only [LM7,eq_self,zab (h:=T68),zad,zac,zaa,zah,zaJ,TB,SB,Int.reduceToNat,Nat.reduceAdd,Nat.reduceEqDiff,Nat.reduceLT,Nat.reduceMod,Nat.reducePow,Nat.reduceSub,if_true,reduceIte]
 refine wg_q [0,1,2] (.ptr 0 2) (by kernel_rfl) (by kernel_rfl) rfl (by kernel_rfl) ?_ ?_
 ·simp only [qAll,List.getD_cons_zero,List.getD_cons_succ]
  refine⟨?_,?_,?_,trivial⟩
  ·try simp -implicitDefEqProofs only [LM7,eq_self,zab (h:=T68),zad,zac,zaa,zah,zaJ,TB,SB,Int.reduceToNat,Nat.reduceAdd,Nat.reduceEqDiff,Nat.reduceLT,Nat.reduceMod,Nat.reducePow,Nat.reduceSub,if_true,reduceIte]
  ·try simp -implicitDefEqProofs only [LM7,eq_self,zab (h:=T68),zad,zac,zaa,zah,zaJ,TB,SB,Int.reduceToNat,Nat.reduceAdd,Nat.reduceEqDiff,Nat.reduceLT,Nat.reduceMod,Nat.reducePow,Nat.reduceSub,if_true,reduceIte]
  ·try simp -implicitDefEqProofs only [LM7,eq_self,zab (h:=T68),zad,zac,zaa,zah,zaJ,TB,SB,Int.reduceToNat,Nat.reduceAdd,Nat.reduceEqDiff,Nat.reduceLT,Nat.reduceMod,Nat.reducePow,Nat.reduceSub,if_true,reduceIte]
 refine wg_q [0,1,2] (str h) (by kernel_rfl) (by kernel_rfl) rfl (by kernel_rfl) ?_ ?_
 ·simp only [qAll,List.getD_cons_zero,List.getD_cons_succ]
  refine⟨?_,?_,?_,trivial⟩
  ·try simp -implicitDefEqProofs only [LM7,eq_self,zab (h:=T68),zad,zac,zaa,zah,zaJ,TB,SB,Int.reduceToNat,Nat.reduceAdd,Nat.reduceEqDiff,Nat.reduceLT,Nat.reduceMod,Nat.reducePow,Nat.reduceSub,if_true,reduceIte]
  ·try simp -implicitDefEqProofs only [LM7,eq_self,zab (h:=T68),zad,zac,zaa,zah,zaJ,TB,SB,Int.reduceToNat,Nat.reduceAdd,Nat.reduceEqDiff,Nat.reduceLT,Nat.reduceMod,Nat.reducePow,Nat.reduceSub,if_true,reduceIte]
  ·try simp -implicitDefEqProofs only [LM7,eq_self,zab (h:=T68),zad,zac,zaa,zah,zaJ,TB,SB,Int.reduceToNat,Nat.reduceAdd,Nat.reduceEqDiff,Nat.reduceLT,Nat.reduceMod,Nat.reducePow,Nat.reduceSub,if_true,reduceIte]
 refine wg_q [0,1,2] (.ptr 0 3) (by kernel_rfl) (by kernel_rfl) rfl (by kernel_rfl) ?_ ?_
 ·simp only [qAll,List.getD_cons_zero,List.getD_cons_succ]
  refine⟨?_,?_,?_,trivial⟩
  ·try simp -implicitDefEqProofs only [LM7,eq_self,zab (h:=T68),zad,zac,zaa,zah,zaJ,TB,SB,Int.reduceToNat,Nat.reduceAdd,Nat.reduceEqDiff,Nat.reduceLT,Nat.reduceMod,Nat.reducePow,Nat.reduceSub,if_true,reduceIte]
  ·try simp -implicitDefEqProofs only [LM7,eq_self,zab (h:=T68),zad,zac,zaa,zah,zaJ,TB,SB,Int.reduceToNat,Nat.reduceAdd,Nat.reduceEqDiff,Nat.reduceLT,Nat.reduceMod,Nat.reducePow,Nat.reduceSub,if_true,reduceIte]
  ·try simp -implicitDefEqProofs only [LM7,eq_self,zab (h:=T68),zad,zac,zaa,zah,zaJ,TB,SB,Int.reduceToNat,Nat.reduceAdd,Nat.reduceEqDiff,Nat.reduceLT,Nat.reduceMod,Nat.reducePow,Nat.reduceSub,if_true,reduceIte]
 refine wg_q [0,1,2] (i64 n) (by kernel_rfl) (by kernel_rfl) rfl (by kernel_rfl) ?_ ?_
 ·simp only [qAll,List.getD_cons_zero,List.getD_cons_succ]
  refine⟨?_,?_,?_,trivial⟩
  ·try simp -implicitDefEqProofs only [LM7,eq_self,zab (h:=T68),zad,zac,zaa,zah,zaJ,TB,SB,Int.reduceToNat,Nat.reduceAdd,Nat.reduceEqDiff,Nat.reduceLT,Nat.reduceMod,Nat.reducePow,Nat.reduceSub,if_true,reduceIte]
  ·try simp -implicitDefEqProofs only [LM7,eq_self,zab (h:=T68),zad,zac,zaa,zah,zaJ,TB,SB,Int.reduceToNat,Nat.reduceAdd,Nat.reduceEqDiff,Nat.reduceLT,Nat.reduceMod,Nat.reducePow,Nat.reduceSub,if_true,reduceIte]
  ·try simp -implicitDefEqProofs only [LM7,eq_self,zab (h:=T68),zad,zac,zaa,zah,zaJ,TB,SB,Int.reduceToNat,Nat.reduceAdd,Nat.reduceEqDiff,Nat.reduceLT,Nat.reduceMod,Nat.reducePow,Nat.reduceSub,if_true,reduceIte]
 refine wg_q [0,1,2] (.agg [.ref 2 0 1 2,.ref 3 0 0 2,str h,i64 n]) (by kernel_rfl) (by kernel_rfl) rfl (by kernel_rfl) ?_ ?_
 ·simp only [qAll,List.getD_cons_zero,List.getD_cons_succ]
  refine⟨?_,?_,?_,trivial⟩
  ·try simp -implicitDefEqProofs only [LM7,eq_self,zab (h:=T68),zad,zac,zaa,zah,zaJ,TB,SB,Int.reduceToNat,Nat.reduceAdd,Nat.reduceEqDiff,Nat.reduceLT,Nat.reduceMod,Nat.reducePow,Nat.reduceSub,if_true,reduceIte]
  ·try simp -implicitDefEqProofs only [LM7,eq_self,zab (h:=T68),zad,zac,zaa,zah,zaJ,TB,SB,Int.reduceToNat,Nat.reduceAdd,Nat.reduceEqDiff,Nat.reduceLT,Nat.reduceMod,Nat.reducePow,Nat.reduceSub,if_true,reduceIte]
  ·try simp -implicitDefEqProofs only [LM7,eq_self,zab (h:=T68),zad,zac,zaa,zah,zaJ,TB,SB,Int.reduceToNat,Nat.reduceAdd,Nat.reduceEqDiff,Nat.reduceLT,Nat.reduceMod,Nat.reducePow,Nat.reduceSub,if_true,reduceIte]
 refine wg_f (by kernel_rfl) ?_
 refine wg_n (fun _=>?_)
 simp only [wgL,show (11 < 12) from by decide,if_true,List.length_cons,List.length_nil,Nat.zero_add,Nat.reduceAdd,List.getD_cons_zero,List.getD_cons_succ,List.drop_succ_cons,List.drop_zero]
 simp only [T24]
 rw [show zaK tySv.zero=[.lit (.slice none 0 0),.lit (.slice none 0 0),str [],i64 0] from rfl]
 try simp -implicitDefEqProofs only [LM7,eq_self,zab (h:=T68),zad,zac,zaa,zah,zaJ,TB,SB,Int.reduceToNat,Nat.reduceAdd,Nat.reduceEqDiff,Nat.reduceLT,Nat.reduceMod,Nat.reducePow,Nat.reduceSub,if_true,reduceIte]
 refine ACalls.frame ([4,2,3]) (hd) rfl (by decide) (by simp [LM13,zao,zas,renL,AV.ren,AEnd.ren,zaf str zae,zaq,List.getElem?_cons_zero,List.getElem?_cons_succ]) (by first | rfl | simp [LM13,zao,zas,renL,AV.ren,AEnd.ren,zaf str zae,zaq,List.getElem?_cons_zero,List.getElem?_cons_succ]) ?_
 rintro _ _ ⟨rfl,rfl⟩
 refine⟨.ret (i64 6),[.rw [.sl [str y.label,str y.box] 1,.sl [] 0,str h,i64 n],.rw [.lit (.slice none 0 0),.lit (.slice none 0 0),str [],i64 0],.dead,.rw [],.rw [.ref 2 0 1 2,.ref 3 0 0 2,str h,i64 n]],(by show zas _ _ ([3,3,1,2,0]) ([3,3,1,2,0]) 0 _;simp [LM13,zao,zas,renL,AV.ren,AEnd.ren,zaf str zae,zaq,List.getElem?_cons_zero,List.getElem?_cons_succ]),(by show AEnd.ren ([3,3,1,2,0]) _ _;first | rfl | simp [LM13,zao,zas,renL,AV.ren,AEnd.ren,zaf str zae,zaq,List.getElem?_cons_zero,List.getElem?_cons_succ]),?_⟩
 try simp -implicitDefEqProofs only [LM7,eq_self,zab (h:=T68),zad,zac,zaa,zah,zaJ,TB,SB,Int.reduceToNat,Nat.reduceAdd,Nat.reduceEqDiff,Nat.reduceLT,Nat.reduceMod,Nat.reducePow,Nat.reduceSub,if_true,reduceIte]
 try simp -implicitDefEqProofs only [LM7,eq_self,zab (h:=T68),zad,zac,zaa,zah,zaJ,show decide ((6:Int)=0)=false from rfl,TB,SB,Int.reduceToNat,Nat.reduceAdd,Nat.reduceEqDiff,Nat.reduceLT,Nat.reduceMod,Nat.reducePow,Nat.reduceSub,if_true,reduceIte]
 refine⟨fun _=>end_sv6 ?_,fun h=>absurd h (by decide)⟩
 rfl
end Go.Proofs.YtdmiflfhaobngaaGreatDoor
end

section
namespace Go.Proofs.YtdmiflfhaobngaaGreatDoor
open Go Go.Eng
def oneO:Vo:=⟨0,[97],[49]⟩
def twoO:Vo:=⟨1,[98],[]⟩
def oneI:It:=⟨[97],[49]⟩
theorem ch0 (h:List UInt8) (n:Int) (h1:h.length=32) (h2:0≤n) (h3:n≤1073741824):chkS ⟨[],[],h,n⟩=true:=by
 simp only [chkS,h1,decide_eq_true h2,decide_eq_true h3]
 decide
theorem ch1 (h:List UInt8) (n:Int) (h1:h.length=32) (h2:0≤n) (h3:n≤1073741824):chkS ⟨[oneI],[],h,n⟩=true:=by
 simp only [chkS,h1,decide_eq_true h2,decide_eq_true h3]
 decide
theorem b1:zbf [oneO]=true:=by decide
theorem b2:zbf [twoO]=true:=by decide
theorem zfn (s:Sv) (e:Int) (q:List Nat):(AV.tup [svA s,i64 e]).ren q=some (.tup [svA s,i64 e]):=by simp [AV.ren,renL,zcn,zaj]
theorem noid_SB (a:List UInt8) (b:Bool) (q:List Nat):(AV.tup [str a,bl b]).ren q=some (.tup [str a,bl b]):=by simp [AV.ren,renL,zax,zae]
section
variable {σ : zag} {K : AV → Prop} {KS : AV → zag → Prop} {id : Nat}
theorem zdG (l b:List UInt8):zaQ T 66 [(1,str l),(2,str b)] K=K (.agg [i64 0,str l,str b]):=by
 simp [zaQ,T66,T3,T9,tyVo,zbs,zaK,zb8,zb1,zbT,zad,zbc,zbB,tyStr]
 rfl
theorem zdH (k:Int) (l:List UInt8):zaQ T 66 [(0,i64 k),(1,str l)] K=K (.agg [i64 k,str l,str []]):=by
 simp [zaQ,T66,T3,T9,tyVo,zbs,zaK,zb8,zb1,zbT,zad,zbc,zbB,tyStr]
 rfl
theorem zdI (k:Int) (l b:List UInt8):bs2 (some tyVo) 1 [(0,.agg [i64 k,str l,str b])] σ KS=KS (.ref σ.length 0 1 3) (σ++[.rw ([(⟨k,l,b⟩:Vo)].flatMap voC)]):=by
 simp [bs2,tyVo,zbs,zb4,AV.cells,zbc,List.range_succ,List.replicate,zad,zb1,voC]
end
theorem bn_vo_one {K:AV→Prop}:wbin T .eql 66 (.agg [i64 oneO.kind,str oneO.label,str oneO.box]) (.agg [i64 0,str [97],str [49]]) K=K (bl true):=by
 apply propext
 constructor
 ·rintro⟨q,hq,hk⟩
  have:=eqPv_vo (a:=oneO) (b:=oneO) hq
  rw [this] at hk
  exact hk
 ·exact fun hk=>⟨_,eqP_vo oneO oneO,hk⟩
theorem zbS {K:AV→Prop} (id off n:Nat) (k:Int):ia3 (some tyVo) (.ref id off n 3) k K=(0≤k∧k < n∧K (.ptr id (off+k.toNat * 3))):=by
 simp [ia3,tyVo]
theorem app1 (h:List UInt8) (hh:h.length=32):ACalls Tryz.prog 11 [svA ⟨[],[],h,0⟩,.sl ([oneO].flatMap voC) 1] [] (fun y _=>y=.ret (.tup [svA ⟨[oneI],[],shaR (h++(putV [oneO]).1),1⟩,i64 0])):=ap0_ok oneO rfl b1 h 0 (ch0 h 0 hh (by decide) (by decide)) (by decide)
theorem app2 (h:List UInt8) (hh:h.length=32):ACalls Tryz.prog 11 [svA ⟨[oneI],[],h,1⟩,.sl ([oneO].flatMap voC) 1] [] (fun y _=>y=.ret (.tup [svA ⟨[oneI],[],shaR (h++(putV [oneO]).1),2⟩,i64 0])):=ap1_ok oneO rfl b1 oneI rfl h 1 (ch1 h 1 hh (by decide) (by decide)) (by decide)
theorem app3 (h:List UInt8) (hh:h.length=32):ACalls Tryz.prog 11 [svA ⟨[oneI],[],h,2⟩,.sl ([twoO].flatMap voC) 1] [] (fun y _=>y=.ret (.tup [svA s0,i64 6])):=ap2_ok twoO rfl b2 oneI (by decide) h 2 (ch1 h 2 hh (by decide) (by decide)) (by decide)
theorem frz_sv {σ:zag} (s:Sv):frzA σ (svA s) (svA s):=⟨_,rfl,_,_,rfl,rfl,_,_,rfl,rfl,_,_,rfl,.inl rfl,_,_,rfl,.inl rfl,rfl⟩
theorem noid_a2 (s:Sv) (l:List Vo) (q:List Nat):renL q [svA s,slV l]=some [svA s,slV l]:=by simp [renL,zcn,zd0]
theorem noid_h1 (h:List UInt8) (l:List Vo) (q:List Nat):renL q [str h,slV l]=some [str h,slV l]:=by simp [renL,zae,zd0]
theorem zgw (l:List Vo) (q:List Nat):renL q [slV l]=some [slV l]:=by simp [renL,zd0]
theorem ze4 (s:Sv) (q:List Nat):renL q [svA s]=some [svA s]:=by simp [renL,zcn]
theorem noid_aa (s t:Sv) (q:List Nat):renL q [svA s,svA t]=some [svA s,svA t]:=by simp [renL,zcn]
set_option maxRecDepth 20000 in
set_option maxHeartbeats 3200000 in
theorem works18_ok:ACalls Tryz.prog 8 [] [] (fun y _=>y=.ret (bl true)):=by
 have hH0:(shaR []).length=32:=zfJ _
 have hnw:=vnew_ok
 generalize shaR []=H0 at hH0 hnw
 have hA1:=app1 H0 hH0
 have hP:=vput_ok [oneO]
 have hPg:=getV_put b1
 have hPl:(putV [oneO]).1.length≤1000:=by decide +kernel
 have hP0:(putV [oneO]).2=0:=by decide +kernel
 have hN:=ziE H0 [oneO] (by omega)
 unfold nextR at hN
 rw [b1,if_pos rfl] at hN
 rw [hP0] at hP
 generalize hpe:(putV [oneO]).1=p at hA1 hP hPg hPl hN
 have hsum:=shaT_ok (H0++p) (by simp;omega)
 have hH1:(shaR (H0++p)).length=32:=zfJ _
 generalize shaR (H0++p)=H1 at hA1 hN hsum hH1
 have hA2:=app2 H1 hH1
 rw [hpe] at hA2
 have hH2:(shaR (H1++p)).length=32:=zfJ _
 generalize shaR (H1++p)=H2 at hA2 hH2
 have hA3:=app3 H2 hH2
 have hC2:=ch1 H2 2 hH2 (by decide) (by decide)
 have hBy:=vbytes_ok ⟨[oneI],[],H2,2⟩ (by simp) (by simp)
 have hRd:=readS_put hC2
 have hBs:zbR ⟨[oneI],[],H2,2⟩=((zbR ⟨[oneI],[],H2,2⟩).1,0):=by simp only [zbR,hC2,if_true]
 have hBl:(zbR ⟨[oneI],[],H2,2⟩).1.length≤1000000:=by
  simp only [zbR,hC2,if_true]
  have h1:=svT_le hC2
  have h2:=ze2 _ h1.2.1
  have h3:(svT ⟨[oneI],[],H2,2⟩).length=5:=rfl
  rw [h3] at h2
  omega
 rw [hBs] at hBy
 generalize (zbR ⟨[oneI],[],H2,2⟩).1=c at hBy hRd hBl
 refine ACalls.body T_ok Tryz.func8 (by kernel_rfl) rfl Tryz.ntmps8 (congrArg Array.toList Tryz.results8) ?_
 try simp -implicitDefEqProofs only [LM7,eq_self,zab (h:=T68),zad,zac,zaa,zah,zdG,zdH,zdI,zbS,TB,SB,Int.reduceToNat,Nat.reduceAdd,Nat.reduceEqDiff,Nat.reduceLT,Nat.reduceMod,Nat.reducePow,Nat.reduceSub,if_true,reduceIte]
 refine hnw.pure rfl ?_
 rintro _ σ rfl
 refine⟨zcn _ _,?_⟩
 simp only [zbZ,zbl]
 try simp -implicitDefEqProofs only [LM7,eq_self,zab (h:=T68),zad,zac,zaa,zah,zdG,zdH,zdI,zbS,TB,SB,Int.reduceToNat,Nat.reduceAdd,Nat.reduceEqDiff,Nat.reduceLT,Nat.reduceMod,Nat.reducePow,Nat.reduceSub,if_true,reduceIte]
 refine ACalls.frz [1] (l':=[svA ⟨[],[],H0,0⟩,slV [oneO]]) ⟨_,_,rfl,frz_sv ⟨[],[],H0,0⟩,_,_,rfl,voF.frz (l:=[oneO]) rfl rfl,rfl⟩ ?_
 refine(hA1:ACalls _ _ [svA ⟨[],[],H0,0⟩,slV [oneO]] _ _).pure (noid_a2 _ _ _) ?_
 rintro _ σ rfl
 refine⟨zfn _ _ _,?_⟩
 simp only [zbZ,zbl]
 simp only [zch,List.getElem?_cons_zero,List.getElem?_cons_succ,List.set_cons_zero,List.set_cons_succ]
 try simp -implicitDefEqProofs only [LM7,eq_self,zab (h:=T68),zad,zac,zaa,zah,zdG,zdH,zdI,zbS,TB,SB,Int.reduceToNat,Nat.reduceAdd,Nat.reduceEqDiff,Nat.reduceLT,Nat.reduceMod,Nat.reducePow,Nat.reduceSub,if_true,reduceIte]
 refine ACalls.frz [] (l':=[svA ⟨[oneI],[],H1,1⟩,slV [oneO]]) ⟨_,_,rfl,frz_sv ⟨[oneI],[],H1,1⟩,_,_,rfl,voF.frz (l:=[oneO]) rfl rfl,rfl⟩ ?_
 refine(hA2:ACalls _ _ [svA ⟨[oneI],[],H1,1⟩,slV [oneO]] _ _).pure (noid_a2 _ _ _) ?_
 rintro _ σ rfl
 refine⟨zfn _ _ _,?_⟩
 simp only [zbZ,zbl]
 simp only [zch,List.getElem?_cons_zero,List.getElem?_cons_succ,List.set_cons_zero,List.set_cons_succ]
 try simp -implicitDefEqProofs only [LM7,eq_self,zab (h:=T68),zad,zac,zaa,zah,zdG,zdH,zdI,zbS,TB,SB,Int.reduceToNat,Nat.reduceAdd,Nat.reduceEqDiff,Nat.reduceLT,Nat.reduceMod,Nat.reducePow,Nat.reduceSub,if_true,reduceIte]
 refine ACalls.frz [4] (l':=[svA ⟨[oneI],[],H2,2⟩,slV [twoO]]) ⟨_,_,rfl,frz_sv ⟨[oneI],[],H2,2⟩,_,_,rfl,voF.frz (l:=[twoO]) rfl rfl,rfl⟩ ?_
 refine(hA3:ACalls _ _ [svA ⟨[oneI],[],H2,2⟩,slV [twoO]] _ _).pure (noid_a2 _ _ _) ?_
 rintro _ σ rfl
 refine⟨zfn _ _ _,?_⟩
 simp only [zbZ,zbl,s0]
 simp only [zch,List.getElem?_cons_zero,List.getElem?_cons_succ,List.set_cons_zero,List.set_cons_succ]
 try simp -implicitDefEqProofs only [LM7,eq_self,zab (h:=T68),zad,zac,zaa,zah,zdG,zdH,zdI,zbS,TB,SB,Int.reduceToNat,Nat.reduceAdd,Nat.reduceEqDiff,Nat.reduceLT,Nat.reduceMod,Nat.reducePow,Nat.reduceSub,if_true,reduceIte]
 refine ACalls.frz [] (l':=[slV [oneO]]) ⟨_,_,rfl,voF.frz (l:=[oneO]) rfl rfl,rfl⟩ ?_
 refine(hP:ACalls _ _ [slV [oneO]] _ _).pure (zgw _ _) ?_
 rintro _ σ rfl
 refine⟨zbY _ _ _,?_⟩
 simp only [zch]
 try simp -implicitDefEqProofs only [LM7,eq_self,zab (h:=T68),zad,zac,zaa,zah,zdG,zdH,zdI,zbS,TB,SB,Int.reduceToNat,Nat.reduceAdd,Nat.reduceEqDiff,Nat.reduceLT,Nat.reduceMod,Nat.reducePow,Nat.reduceSub,if_true,reduceIte]
 refine(vget_ok p (by omega)).pure (by simp [renL,zae]) ?_
 rintro _ σ rfl
 refine⟨zgt _ _ _,?_⟩
 rw [hPg]
 simp only [zgC]
 try simp -implicitDefEqProofs only [LM7,eq_self,zab (h:=T68),zad,zac,zaa,zah,zdG,zdH,zdI,zbS,TB,SB,Int.reduceToNat,Nat.reduceAdd,Nat.reduceEqDiff,Nat.reduceLT,Nat.reduceMod,Nat.reducePow,Nat.reduceSub,if_true,reduceIte]
 refine ACalls.frz [] (l':=[str H0,slV [oneO]]) ⟨_,_,rfl,.inl rfl,_,_,rfl,voF.frz (l:=[oneO]) rfl rfl,rfl⟩ ?_
 refine(hN:ACalls _ _ [str H0,slV [oneO]] _ _).pure (noid_h1 _ _ _) ?_
 rintro _ σ rfl
 refine⟨zbY _ _ _,?_⟩
 simp only [zch]
 try simp -implicitDefEqProofs only [LM7,eq_self,zab (h:=T68),zad,zac,zaa,zah,zdG,zdH,zdI,zbS,TB,SB,Int.reduceToNat,Nat.reduceAdd,Nat.reduceEqDiff,Nat.reduceLT,Nat.reduceMod,Nat.reducePow,Nat.reduceSub,if_true,reduceIte]
 refine(hBy:ACalls _ _ [svA ⟨[oneI],[],H2,2⟩] _ _).pure (ze4 _ _) ?_
 rintro _ σ rfl
 refine⟨zbY _ _ _,?_⟩
 try simp -implicitDefEqProofs only [LM7,eq_self,zab (h:=T68),zad,zac,zaa,zah,zdG,zdH,zdI,zbS,TB,SB,Int.reduceToNat,Nat.reduceAdd,Nat.reduceEqDiff,Nat.reduceLT,Nat.reduceMod,Nat.reducePow,Nat.reduceSub,if_true,reduceIte]
 refine(vread_ok c hBl).pure (by simp [renL,zae]) ?_
 rintro _ σ rfl
 refine⟨zfn _ _ _,?_⟩
 rw [hRd]
 simp only [zbZ,zbl]
 try simp -implicitDefEqProofs only [LM7,eq_self,zab (h:=T68),zad,zac,zaa,zah,zdG,zdH,zdI,zbS,TB,SB,Int.reduceToNat,Nat.reduceAdd,Nat.reduceEqDiff,Nat.reduceLT,Nat.reduceMod,Nat.reducePow,Nat.reduceSub,if_true,reduceIte]
 refine(vfind_ok [oneI] [97] (by decide)).pure (by simp [renL,zae,AV.ren,zaH,oneI,itC]) ?_
 rintro _ σ rfl
 refine⟨noid_SB _ _ _,?_⟩
 rw [show ziD [oneI] [97]=([49],true) by decide]
 try simp -implicitDefEqProofs only [LM7,eq_self,zab (h:=T68),zad,zac,zaa,zah,zdG,zdH,zdI,zbS,TB,SB,Int.reduceToNat,Nat.reduceAdd,Nat.reduceEqDiff,Nat.reduceLT,Nat.reduceMod,Nat.reducePow,Nat.reduceSub,if_true,reduceIte]
 simp only [List.append_eq,List.cons_append,List.nil_append]
 try simp -implicitDefEqProofs only [LM7,eq_self,zab (h:=T68),zad,zac,zaa,zah,zdG,zdH,zdI,zbS,TB,SB,Int.reduceToNat,Nat.reduceAdd,Nat.reduceEqDiff,Nat.reduceLT,Nat.reduceMod,Nat.reducePow,Nat.reduceSub,if_true,reduceIte]
 refine zcb (by kernel_rfl) (by kernel_rfl) ?_
 try simp -implicitDefEqProofs only [LM7,eq_self,zab (h:=T68),zad,zac,zaa,zah,zdG,zdH,zdI,zbS,show decide (((1:Nat):Int)=1)=true from rfl,show decide ((0:Int)=0)=true from rfl,show decide ((2:Int)=2)=true from rfl,show decide ((6:Int)=6)=true from rfl,TB,SB,Int.reduceToNat,Nat.reduceAdd,Nat.reduceEqDiff,Nat.reduceLT,Nat.reduceMod,Nat.reducePow,Nat.reduceSub,if_true,reduceIte]
 refine⟨by decide,by decide,by decide,?_⟩
 try simp -implicitDefEqProofs only [LM7,eq_self,zab (h:=T68),zad,zac,zaa,zah,zdG,zdH,zdI,zbS,TB,SB,Int.reduceToNat,Nat.reduceAdd,Nat.reduceEqDiff,Nat.reduceLT,Nat.reduceMod,Nat.reducePow,Nat.reduceSub,if_true,reduceIte]
 refine⟨by decide,by decide,?_⟩
 rw [Nat.zero_mul]
 try simp -implicitDefEqProofs only [LM7,eq_self,zab (h:=T68),zad,zac,zaa,zah,zdG,zdH,zdI,zbS,show decide ((0:Int)=0)=true from rfl,TB,SB,Int.reduceToNat,Nat.reduceAdd,Nat.reduceEqDiff,Nat.reduceLT,Nat.reduceMod,Nat.reducePow,Nat.reduceSub,if_true,reduceIte]
 rw [bn_vo_one]
 try simp -implicitDefEqProofs only [LM7,eq_self,zab (h:=T68),zad,zac,zaa,zah,zdG,zdH,zdI,zbS,show decide ((0:Int)=0)=true from rfl,eq_self,TB,SB,Int.reduceToNat,Nat.reduceAdd,Nat.reduceEqDiff,Nat.reduceLT,Nat.reduceMod,Nat.reducePow,Nat.reduceSub,if_true,reduceIte]
 refine⟨by omega,?_⟩
 refine zbt hsum (by simp [renL,zae]) (by simp [AEnd.noid,zae]) ?_
 try simp -implicitDefEqProofs only [LM7,eq_self,zab (h:=T68),zad,zac,zaa,zah,zdG,zdH,zdI,zbS,show decide ((0:Int)=0)=true from rfl,show decide ((1:Int)=1)=true from rfl,eq_self,TB,SB,Int.reduceToNat,Nat.reduceAdd,Nat.reduceEqDiff,Nat.reduceLT,Nat.reduceMod,Nat.reducePow,Nat.reduceSub,if_true,reduceIte]
 refine zbt (vsame_ok ⟨[oneI],[],H2,2⟩ ⟨[oneI],[],H2,2⟩ (by dsimp only;omega) (by simp) (by simp)) (noid_aa ⟨[oneI],[],H2,2⟩ ⟨[oneI],[],H2,2⟩ []) (zax _ _) ?_
 rw [decide_eq_true rfl]
 try simp -implicitDefEqProofs only [LM7,eq_self,zab (h:=T68),zad,zac,zaa,zah,zdG,zdH,zdI,zbS,show decide ((0:Int)=0)=true from rfl,show decide ((1:Int)=1)=true from rfl,eq_self,TB,SB,Int.reduceToNat,Nat.reduceAdd,Nat.reduceEqDiff,Nat.reduceLT,Nat.reduceMod,Nat.reducePow,Nat.reduceSub,if_true,reduceIte]
 refine zbt (vsame_ok ⟨[],[],H0,0⟩ ⟨[oneI],[],H1,1⟩ (by dsimp only;omega) (by simp) (by simp)) (noid_aa ⟨[],[],H0,0⟩ ⟨[oneI],[],H1,1⟩ []) (zax _ _) ?_
 rw [decide_eq_false (fun h=>absurd (show (0:Int)=1 from congrArg Sv.n h) (by decide))]
 try simp -implicitDefEqProofs only [LM7,eq_self,zab (h:=T68),zad,zac,zaa,zah,zdG,zdH,zdI,zbS,show decide ((0:Int)=0)=true from rfl,show decide ((1:Int)=1)=true from rfl,eq_self,TB,SB,Int.reduceToNat,Nat.reduceAdd,Nat.reduceEqDiff,Nat.reduceLT,Nat.reduceMod,Nat.reducePow,Nat.reduceSub,if_true,reduceIte]
 have hk1:=zfN ⟨[],[],H0,0⟩ (by simp) (by simp)
 rw [ch0 H0 0 hH0 (by decide) (by decide),if_pos rfl] at hk1
 refine zbt hk1 (ze4 ⟨[],[],H0,0⟩ []) (zaj _ _) ?_
 try simp -implicitDefEqProofs only [LM7,eq_self,zab (h:=T68),zad,zac,zaa,zah,zdG,zdH,zdI,zbS,show decide ((0:Int)=0)=true from rfl,show decide ((1:Int)=1)=true from rfl,eq_self,TB,SB,Int.reduceToNat,Nat.reduceAdd,Nat.reduceEqDiff,Nat.reduceLT,Nat.reduceMod,Nat.reducePow,Nat.reduceSub,if_true,reduceIte]
 have hk2:=zfN s0 (by simp [s0]) (by simp [s0])
 rw [show chkS s0=false by decide,if_neg (by decide)] at hk2
 refine⟨i64 1,ACalls.frz [] (l':=[svA s0]) ⟨_,_,rfl,⟨_,rfl,_,_,rfl,.inr ⟨rfl,rfl⟩,_,_,rfl,.inr ⟨rfl,rfl⟩,_,_,rfl,.inl rfl,_,_,rfl,.inl rfl,rfl⟩,rfl⟩ (hk2.pure (ze4 _ _) (by rintro _ _ rfl;exact⟨zaj _ _,rfl,rfl⟩)),?_⟩
 try simp -implicitDefEqProofs only [LM7,eq_self,zab (h:=T68),zad,zac,zaa,zah,zdG,zdH,zdI,zbS,show decide ((0:Int)=0)=true from rfl,show decide ((1:Int)=1)=true from rfl,eq_self,TB,SB,Int.reduceToNat,Nat.reduceAdd,Nat.reduceEqDiff,Nat.reduceLT,Nat.reduceMod,Nat.reducePow,Nat.reduceSub,if_true,reduceIte]
 exact zaI rfl
end Go.Proofs.YtdmiflfhaobngaaGreatDoor
end

section
namespace Go.Proofs.YtdmiflfhaobngaaGreatDoor
open Go Go.Eng
set_option linter.defProp false in
def LB29:=And.intro @zaJ (And.intro @zdG (And.intro @zdH (And.intro @zdI (@zbS))))
theorem get_all {α:Type} {P:α→Prop} {l:List α} {d:α} {k:Nat} (hk:l.length≤k) (h:∀ j,j < k→P (l.getD j d)):∀ x∈l,P x:=by
 intro x hx
 obtain⟨j,hj,rfl⟩:=List.getElem_of_mem hx
 have:=h j (by omega)
 rwa [List.getD_eq_getElem?_getD,List.getElem?_eq_getElem hj] at this
def fewV (l:List Vo):Prop:=l.length≤20∧∀ o∈l,o.label.length≤80∧o.box.length≤200
theorem fewV_ok (l:List Vo) (hl:l.length≤9223372036854775807):ACalls Tryz.prog 10 [.sl (l.flatMap voC) l.length] [] (fun y _=>∃ b:Bool,y=.ret (bl b)∧(b=true→fewV l)):=by
 have hno:∀ σ:zag,endQ 0 (bl false) σ (fun r _=>∃ b:Bool,AEnd.ret r=.ret (bl b)∧(b=true→fewV l)):=fun σ=>zaI ⟨false,rfl,fun h=>by cases h⟩
 refine ACalls.body T_ok Tryz.func10 (by kernel_rfl) rfl Tryz.ntmps10 (congrArg Array.toList Tryz.results10) ?_
 try simp -implicitDefEqProofs only [LM7,LB29,eq_self,zab (h:=T68),zad,zac,zaa,zah,TB,SB,Int.reduceToNat,Nat.reduceAdd,Nat.reduceEqDiff,Nat.reduceLT,Nat.reduceMod,Nat.reducePow,Nat.reduceSub,if_true,reduceIte]
 rw [za9]
 refine⟨Nat,fun k=>k≤21∧k≤l.length∧∀ j,j < k→(l.getD j v0).label.length≤80∧(l.getD j v0).box.length≤200,fun k=>[.sl (l.flatMap voC) l.length,.bot,.bot,i64 k,.bot,.bot,.bot,.bot,.bot,.bot,.bot,.bot,.bot,.bot,.bot,.bot,.bot,.bot,.bot,.bot,.bot,.bot,.bot,.bot,.bot,.bot,.bot,.bot,.bot,.bot,.bot,.bot,.bot],fun _=>[],fun k=>22 - k,0,⟨by omega,Nat.zero_le _,fun j h=>absurd h (by omega)⟩,zal (q:=[]) rfl rfl (by decide) ?_ ?_,?_⟩
 ·skip
  try simp only [FB,AV.ren,Nat.reduceAdd,reduceCtorEq]
  simp [zci,AV.ren]
 ·skip
  try simp only [FB,AV.ren,Nat.reduceAdd,reduceCtorEq]
 ·rintro k ⟨hk,hk',hj⟩
  try simp -implicitDefEqProofs only [LM7,LB29,eq_self,zab (h:=T68),zad,zac,zaa,zah,TB,SB,Int.reduceToNat,Nat.reduceAdd,Nat.reduceEqDiff,Nat.reduceLT,Nat.reduceMod,Nat.reducePow,Nat.reduceSub,if_true,reduceIte]
  by_cases h1:(k:Int) < l.length
  rotate_left
  ·rw [decide_eq_false h1]
   try simp -implicitDefEqProofs only [LM7,LB29,eq_self,zab (h:=T68),zad,zac,zaa,zah,TB,SB,Int.reduceToNat,Nat.reduceAdd,Nat.reduceEqDiff,Nat.reduceLT,Nat.reduceMod,Nat.reducePow,Nat.reduceSub,if_true,reduceIte]
   refine zaI ⟨_,rfl,fun h=>?_⟩
   have:=of_decide_eq_true h
   exact⟨by omega,get_all (by omega) hj⟩
  rw [decide_eq_true h1]
  try simp -implicitDefEqProofs only [LM7,LB29,eq_self,zab (h:=T68),zad,zac,zaa,zah,TB,SB,Int.reduceToNat,Nat.reduceAdd,Nat.reduceEqDiff,Nat.reduceLT,Nat.reduceMod,Nat.reducePow,Nat.reduceSub,if_true,reduceIte]
  refine⟨fun h2=>?_,fun h2=>?_⟩
  ·have hk2:k < l.length:=by omega
   repeat (with_reducible refine zaW ?_)
   by_cases h3:80 < ((l.getD k v0).label.length:Int)
   ·rw [decide_eq_true h3]
    try simp -implicitDefEqProofs only [LM7,LB29,eq_self,zab (h:=T68),zad,zac,zaa,zah,TB,SB,Int.reduceToNat,Nat.reduceAdd,Nat.reduceEqDiff,Nat.reduceLT,Nat.reduceMod,Nat.reducePow,Nat.reduceSub,if_true,reduceIte]
    exact hno _
   rw [decide_eq_false h3]
   try simp -implicitDefEqProofs only [LM7,LB29,eq_self,zab (h:=T68),zad,zac,zaa,zah,TB,SB,Int.reduceToNat,Nat.reduceAdd,Nat.reduceEqDiff,Nat.reduceLT,Nat.reduceMod,Nat.reducePow,Nat.reduceSub,if_true,reduceIte]
   refine⟨by omega,by omega,by omega,by omega,fun h4=>hno _,fun h4=>⟨by unfold inI;omega,?_⟩⟩
   rw [zan]
   refine⟨k+1,⟨by omega,by omega,fun j h=>?_⟩,by (show 22 - (k+1) < 22 - k);omega,zal (q:=[]) rfl rfl (by decide) ?_ ?_⟩
   ·rcases Nat.lt_succ_iff_lt_or_eq.1 h with h | rfl
    ·exact hj j h
    ·exact⟨by omega,by omega⟩
   ·skip
    try simp only [FB,AV.ren,Nat.reduceAdd,reduceCtorEq]
    simp [zci,AV.ren]
   ·skip
    try simp only [FB,AV.ren,Nat.reduceAdd,reduceCtorEq]
  ·exact zaI ⟨_,rfl,fun h=>by have:=of_decide_eq_true h;omega⟩
def fewI (l:List It):Prop:=l.length≤20∧∀ o∈l,o.label.length≤80∧o.box.length≤200
theorem fewI_ok (l:List It) (hl:l.length≤9223372036854775807):ACalls Tryz.prog 34 [.sl (l.flatMap itC) l.length] [] (fun y _=>∃ b:Bool,y=.ret (bl b)∧(b=true→fewI l)):=by
 have hno:∀ σ:zag,endQ 0 (bl false) σ (fun r _=>∃ b:Bool,AEnd.ret r=.ret (bl b)∧(b=true→fewI l)):=fun σ=>zaI ⟨false,rfl,fun h=>by cases h⟩
 refine ACalls.body T_ok Tryz.func34 (by kernel_rfl) rfl Tryz.ntmps34 (congrArg Array.toList Tryz.results34) ?_
 try simp -implicitDefEqProofs only [LM7,LB29,eq_self,zab (h:=T68),zad,zac,zaa,zah,TB,SB,Int.reduceToNat,Nat.reduceAdd,Nat.reduceEqDiff,Nat.reduceLT,Nat.reduceMod,Nat.reducePow,Nat.reduceSub,if_true,reduceIte]
 rw [za9]
 refine⟨Nat,fun k=>k≤21∧k≤l.length∧∀ j,j < k→(l.getD j i0).label.length≤80∧(l.getD j i0).box.length≤200,fun k=>[.sl (l.flatMap itC) l.length,.bot,.bot,i64 k,.bot,.bot,.bot,.bot,.bot,.bot,.bot,.bot,.bot,.bot,.bot,.bot,.bot,.bot,.bot,.bot,.bot,.bot,.bot,.bot,.bot,.bot,.bot,.bot,.bot,.bot,.bot,.bot,.bot],fun _=>[],fun k=>22 - k,0,⟨by omega,Nat.zero_le _,fun j h=>absurd h (by omega)⟩,zal (q:=[]) rfl rfl (by decide) ?_ ?_,?_⟩
 ·skip
  try simp only [FB,AV.ren,Nat.reduceAdd,reduceCtorEq]
  simp [zaH,AV.ren]
 ·skip
  try simp only [FB,AV.ren,Nat.reduceAdd,reduceCtorEq]
 ·rintro k ⟨hk,hk',hj⟩
  try simp -implicitDefEqProofs only [LM7,LB29,eq_self,zab (h:=T68),zad,zac,zaa,zah,TB,SB,Int.reduceToNat,Nat.reduceAdd,Nat.reduceEqDiff,Nat.reduceLT,Nat.reduceMod,Nat.reducePow,Nat.reduceSub,if_true,reduceIte]
  by_cases h1:(k:Int) < l.length
  rotate_left
  ·rw [decide_eq_false h1]
   try simp -implicitDefEqProofs only [LM7,LB29,eq_self,zab (h:=T68),zad,zac,zaa,zah,TB,SB,Int.reduceToNat,Nat.reduceAdd,Nat.reduceEqDiff,Nat.reduceLT,Nat.reduceMod,Nat.reducePow,Nat.reduceSub,if_true,reduceIte]
   refine zaI ⟨_,rfl,fun h=>?_⟩
   have:=of_decide_eq_true h
   exact⟨by omega,get_all (by omega) hj⟩
  rw [decide_eq_true h1]
  try simp -implicitDefEqProofs only [LM7,LB29,eq_self,zab (h:=T68),zad,zac,zaa,zah,TB,SB,Int.reduceToNat,Nat.reduceAdd,Nat.reduceEqDiff,Nat.reduceLT,Nat.reduceMod,Nat.reducePow,Nat.reduceSub,if_true,reduceIte]
  refine⟨fun h2=>?_,fun h2=>?_⟩
  ·have hk2:k < l.length:=by omega
   repeat (with_reducible refine zaW ?_)
   by_cases h3:80 < ((l.getD k i0).label.length:Int)
   ·rw [decide_eq_true h3]
    try simp -implicitDefEqProofs only [LM7,LB29,eq_self,zab (h:=T68),zad,zac,zaa,zah,TB,SB,Int.reduceToNat,Nat.reduceAdd,Nat.reduceEqDiff,Nat.reduceLT,Nat.reduceMod,Nat.reducePow,Nat.reduceSub,if_true,reduceIte]
    exact hno _
   rw [decide_eq_false h3]
   try simp -implicitDefEqProofs only [LM7,LB29,eq_self,zab (h:=T68),zad,zac,zaa,zah,TB,SB,Int.reduceToNat,Nat.reduceAdd,Nat.reduceEqDiff,Nat.reduceLT,Nat.reduceMod,Nat.reducePow,Nat.reduceSub,if_true,reduceIte]
   refine⟨by omega,by omega,by omega,by omega,fun h4=>hno _,fun h4=>⟨by unfold inI;omega,?_⟩⟩
   rw [zan]
   refine⟨k+1,⟨by omega,by omega,fun j h=>?_⟩,by (show 22 - (k+1) < 22 - k);omega,zal (q:=[]) rfl rfl (by decide) ?_ ?_⟩
   ·rcases Nat.lt_succ_iff_lt_or_eq.1 h with h | rfl
    ·exact hj j h
    ·exact⟨by omega,by omega⟩
   ·skip
    try simp only [FB,AV.ren,Nat.reduceAdd,reduceCtorEq]
    simp [zaH,AV.ren]
   ·skip
    try simp only [FB,AV.ren,Nat.reduceAdd,reduceCtorEq]
  ·exact zaI ⟨_,rfl,fun h=>by have:=of_decide_eq_true h;omega⟩
section
variable {σ : zag} {K : AV → Prop} {KS : AV → zag → Prop} {id : Nat}
theorem zdJ (cs:List AV):zap T 66 (.rp cs) 0 K=K (.rp (cs.drop 0)):=fzR T66 rfl rfl T3 (by decide) cs
theorem zdK (o:Nat):zap T 77 (.ptr id o) 0 K=K (.ptr id (o+0)):=fzP T77 rfl rfl T3 (by decide) id o
theorem zdL (o:Nat):zap T 77 (.ptr id o) 1 K=K (.ptr id (o+1)):=fzP T77 rfl rfl T9 (by decide) id o
theorem zdM (o:Nat):zap T 77 (.ptr id o) 2 K=K (.ptr id (o+2)):=fzP T77 rfl rfl T9 (by decide) id o
theorem zcu (l:List Vo) (k:Nat):ld2 (some zbB) (some ((l.drop k).flatMap voC)) 0 K=(k < l.length∧K (i64 (l.getD k v0).kind)):=voF.ldf0 rfl rfl (by decide) v0 l k
theorem bd_O (k:Int) (l b:List UInt8):zaQ T 77 [(0,i64 k),(1,str l),(2,str b)] K=K (.agg [i64 k,str l,str b]):=by
 simp [zaQ,T77,T3,T9,tyVo,zbs,zaK,zb8,zb1,zbT,zad,zbc,zbB,tyStr]
theorem ldz_V0 (l:List Vo):ld2 (some zbB) (some (l.flatMap voC)) 0 K=(0 < l.length∧K (i64 (l.getD 0 v0).kind)):=by have:=zcu (K:=K) l 0;rwa [List.drop_zero] at this
theorem ldz_V1 (l:List Vo):ld2 (some tyStr) (some ((l.flatMap voC).drop 1)) 0 K=(0 < l.length∧K (str (l.getD 0 v0).label)):=by have:=ldf_V1 (K:=K) l 0;rwa [List.drop_zero] at this
theorem ldz_V2 (l:List Vo):ld2 (some tyStr) (some ((l.flatMap voC).drop 2)) 0 K=(0 < l.length∧K (str (l.getD 0 v0).box)):=by have:=ldf_V2 (K:=K) l 0;rwa [List.drop_zero] at this
end
theorem vo9_nil {σ:zag} {KS:AV→zag→Prop} {y:Vo} {x:AV} (hx:asrc σ 3 x=some ([y].flatMap voC,1)) (hk:KS (.ref σ.length 0 1 3) (σ++[.rw ([y].flatMap voC)])):zbD T #[38,38] (.lit (.slice none 0 0)) x σ KS :=
 voF.appN rfl rfl T38 T38 (zdz _) T77 rfl rfl hx rfl (by decide) (by decide) hk
theorem vo9_app {σ:zag} {KS:AV→zag→Prop} {id n:Nat} {l:List Vo} {y:Vo} {x:AV} (hc:σ[id]?=some (.rw (l.flatMap voC))) (hn:n=l.length) (hx:asrc σ 3 x=some ([y].flatMap voC,1)) (g:l.length≤1000000) (hk:KS (.ref σ.length 0 (n+1) 3) (σ.set id .dead++[.rw ((l++[y]).flatMap voC)])):zbD T #[38,38] (.ref id 0 n 3) x σ KS:=by
 subst hn
 exact voF.app rfl rfl T38 T38 (zdz _) T77 rfl rfl hc hx rfl (by omega) (by simp only [tyVo];omega) hk
def opA:Nat→AV
 | 0=>.lit (.slice none 0 0)
 | a+1=>.ref 0 0 (a+1) 3
def opS (l:List Vo):Nat→zag
 | 0=>[]
 | a+1=>[.rw ((l.take (a+1)).flatMap voC)]
theorem opA_0:opA 0=.lit (.slice none 0 0):=rfl
theorem opA_1 (a:Nat):opA (a+1)=.ref 0 0 (a+1) 3:=rfl
theorem opS_0 (l:List Vo):opS l 0=[]:=rfl
theorem opS_1 (l:List Vo) (a:Nat):opS l (a+1)=[.rw ((l.take (a+1)).flatMap voC)]:=rfl
theorem zc9 {α:Type} {l:List α} {k:Nat} (d:α) (h:k < l.length):l.take (k+1)=l.take k++[l.getD k d]:=by
 rw [List.take_succ_eq_append_getElem h,List.getD_eq_getElem?_getD,List.getElem?_eq_getElem h]
 rfl
theorem endV_nil {σ:zag} {K:AV→zag→Prop} (h:K (slV []) []):endQ 0 (.lit (.slice none 0 0)) σ K :=
 zce [] (slV []) (.inr ⟨rfl,rfl⟩) ⟨[],_,[],rfl,rfl,by decide,zd0 _ _,trivial,h⟩
theorem endV_ref {σ:zag} {id n:Nat} {l:List Vo} {K:AV→zag→Prop} (hc:σ[id]?=some (.rw (l.flatMap voC))) (hn:n=l.length) (h:K (slV l) []):endQ 0 (.ref id 0 n 3) σ K :=
 zce [id] (slV l) (voF.frz (zf9 hc) hn) ⟨[],_,[],rfl,rfl,by decide,zd0 _ _,trivial,h⟩
theorem rops_ok (l:List Vo) (hl:l.length≤1000000):ACalls Tryz.prog 14 [slV l] [] (fun y _=>y=.ret (slV l)):=by
 rw [zgC]
 refine ACalls.body T_ok Tryz.func14 (by kernel_rfl) rfl Tryz.ntmps14 (congrArg Array.toList Tryz.results14) ?_
 try simp -implicitDefEqProofs only [LM7,LB29,eq_self,zab (h:=T68),zad,zac,zaa,zah,zdJ,zdK,zdL,zdM,zcu,bd_O,TB,SB,Int.reduceToNat,Nat.reduceAdd,Nat.reduceEqDiff,Nat.reduceLT,Nat.reduceMod,Nat.reducePow,Nat.reduceSub,if_true,reduceIte]
 rw [za9]
 refine⟨Nat,fun k=>k≤l.length,fun k=>[.sl (l.flatMap voC) l.length,.bot,.lit (.slice none 0 0),opA k,i64 k,.bot,.bot,.bot,.bot,.bot,.bot,.bot,.bot,.bot,.bot,.bot,.bot,.bot,.bot,.bot,.bot,.bot,.bot,.bot,.bot,.bot,.bot,.bot,.bot,.bot,.bot],fun k=>opS l k,fun k=>l.length - k,0,Nat.zero_le _,?_,?_⟩
 ·refine zal (q:=[]) rfl rfl (by decide) ?_ ?_
  ·try simp only [FB,AV.ren,Nat.reduceAdd,reduceCtorEq]
   simp [zci,opA,AV.ren]
  ·try simp only [FB,AV.ren,Nat.reduceAdd,reduceCtorEq]
   simp [opS,zao]
 intro k hk
 by_cases hlt:k < l.length
 ·have dl:decide ((k:Int) < (l.length:Int))=true:=decide_eq_true (by omega)
  cases k with
  | zero =>
   simp only [opA_0,opS_0]
   try simp -implicitDefEqProofs only [LM7,LB29,eq_self,zab (h:=T68),zad,zac,zaa,zah,zdJ,zdK,zdL,zdM,zcu,bd_O,dl,TB,SB,Int.reduceToNat,Nat.reduceAdd,Nat.reduceEqDiff,Nat.reduceLT,Nat.reduceMod,Nat.reducePow,Nat.reduceSub,if_true,reduceIte]
   refine zbg [18] (by kernel_rfl) (by kernel_rfl) (by kernel_rfl) ?_
   try simp -implicitDefEqProofs only [LM7,LB29,eq_self,zab (h:=T68),zad,zac,zaa,zah,zdJ,zdK,zdL,zdM,zcu,bd_O,ldz_V0,ldz_V1,ldz_V2,TB,SB,Int.reduceToNat,Nat.reduceAdd,Nat.reduceEqDiff,Nat.reduceLT,Nat.reduceMod,Nat.reducePow,Nat.reduceSub,if_true,reduceIte]
   refine⟨by omega,by omega,by omega,by omega,by omega,by omega,by omega,by omega,by omega,by omega,by omega,by omega,?_⟩
   try simp -implicitDefEqProofs only [LM7,LB29,eq_self,zab (h:=T68),zad,zac,zaa,zah,zdJ,zdK,zdL,zdM,zcu,bd_O,qb_V,TB,SB,Int.reduceToNat,Nat.reduceAdd,Nat.reduceEqDiff,Nat.reduceLT,Nat.reduceMod,Nat.reducePow,Nat.reduceSub,if_true,reduceIte]
   refine vo9_nil (y:=l.getD 0 v0) rfl ?_
   try simp -implicitDefEqProofs only [LM7,LB29,eq_self,zab (h:=T68),zad,zac,zaa,zah,zdJ,zdK,zdL,zdM,zcu,bd_O,TB,SB,Int.reduceToNat,Nat.reduceAdd,Nat.reduceEqDiff,Nat.reduceLT,Nat.reduceMod,Nat.reducePow,Nat.reduceSub,if_true,reduceIte]
   refine⟨by unfold inI;omega,?_⟩
   rw [zan]
   refine⟨1,by omega,by omega,zal (q:=[0]) rfl rfl (by decide) ?_ ?_⟩
   ·try simp only [FB,AV.ren,Nat.reduceAdd,reduceCtorEq]
    rw [zci]
    exact⟨rfl,.inr rfl,.inr (by omega)⟩
   ·try simp only [FB,AV.ren,Nat.reduceAdd,reduceCtorEq]
    rw [opS_1,zc9 v0 (by omega)]
    simp [zao,Blk.ren,zbm,voC,renL,zaj,zae]
  | succ a =>
   simp only [opA_1,opS_1]
   try simp -implicitDefEqProofs only [LM7,LB29,eq_self,zab (h:=T68),zad,zac,zaa,zah,zdJ,zdK,zdL,zdM,zcu,bd_O,dl,TB,SB,Int.reduceToNat,Nat.reduceAdd,Nat.reduceEqDiff,Nat.reduceLT,Nat.reduceMod,Nat.reducePow,Nat.reduceSub,if_true,reduceIte]
   refine zbg [18] (by kernel_rfl) (by kernel_rfl) (by kernel_rfl) ?_
   try simp -implicitDefEqProofs only [LM7,LB29,eq_self,zab (h:=T68),zad,zac,zaa,zah,zdJ,zdK,zdL,zdM,zcu,bd_O,TB,SB,Int.reduceToNat,Nat.reduceAdd,Nat.reduceEqDiff,Nat.reduceLT,Nat.reduceMod,Nat.reducePow,Nat.reduceSub,if_true,reduceIte]
   refine⟨by omega,by omega,by omega,by omega,by omega,by omega,by omega,by omega,by omega,by omega,by omega,by omega,?_⟩
   try simp -implicitDefEqProofs only [LM7,LB29,eq_self,zab (h:=T68),zad,zac,zaa,zah,zdJ,zdK,zdL,zdM,zcu,bd_O,qb_V,TB,SB,Int.reduceToNat,Nat.reduceAdd,Nat.reduceEqDiff,Nat.reduceLT,Nat.reduceMod,Nat.reducePow,Nat.reduceSub,if_true,reduceIte]
   refine vo9_app (l:=l.take (a+1)) (y:=l.getD (a+1) v0) rfl (by rw [List.length_take];omega) rfl (by rw [List.length_take];omega) ?_
   rw [← zc9 v0 hlt]
   try simp -implicitDefEqProofs only [LM7,LB29,eq_self,zab (h:=T68),zad,zac,zaa,zah,zdJ,zdK,zdL,zdM,zcu,bd_O,TB,SB,Int.reduceToNat,Nat.reduceAdd,Nat.reduceEqDiff,Nat.reduceLT,Nat.reduceMod,Nat.reducePow,Nat.reduceSub,if_true,reduceIte]
   refine⟨by unfold inI;omega,?_⟩
   rw [zan]
   refine⟨a+1+1,by omega,by omega,zal (q:=[1]) rfl rfl (by decide) ?_ ?_⟩
   ·try simp only [FB,AV.ren,Nat.reduceAdd,reduceCtorEq]
    rw [zci]
    exact⟨rfl,.inr rfl,.inr (by omega)⟩
   ·try simp only [FB,AV.ren,Nat.reduceAdd,reduceCtorEq]
    rw [opS_1]
    simp [zao,Blk.ren,zbm,zci]
 ·obtain rfl:k=l.length:=by omega
  have dl:decide ((l.length:Int) < (l.length:Int))=false:=decide_eq_false (by omega)
  cases hk0:l.length with
  | zero =>
   rw [hk0] at dl
   have e:l=[]:=List.eq_nil_of_length_eq_zero hk0
   subst e
   simp only [opA_0,opS_0]
   try simp -implicitDefEqProofs only [LM7,LB29,eq_self,zab (h:=T68),zad,zac,zaa,zah,zdJ,zdK,zdL,zdM,zcu,bd_O,dl,TB,SB,Int.reduceToNat,Nat.reduceAdd,Nat.reduceEqDiff,Nat.reduceLT,Nat.reduceMod,Nat.reducePow,Nat.reduceSub,if_true,reduceIte]
   exact endV_nil rfl
  | succ a =>
   rw [hk0] at dl
   simp only [opA_1,opS_1]
   try simp -implicitDefEqProofs only [LM7,LB29,eq_self,zab (h:=T68),zad,zac,zaa,zah,zdJ,zdK,zdL,zdM,zcu,bd_O,dl,TB,SB,Int.reduceToNat,Nat.reduceAdd,Nat.reduceEqDiff,Nat.reduceLT,Nat.reduceMod,Nat.reducePow,Nat.reduceSub,if_true,reduceIte]
   rw [show l.take (a+1)=l from List.take_of_length_le (by omega)]
   exact endV_ref (l:=l) (K:=fun y _=>AEnd.ret y=_) rfl hk0.symm (by rw [zgC,hk0])
theorem fit_vo9 (n:Vo):fitE T 2 77 (voQ n):=by
 rw [fitE]
 simp only [T77,tyVo]
 refine⟨trivial,rfl,rfl,?_⟩
 intro f hf
 simp only [List.mem_cons,List.not_mem_nil,or_false] at hf
 rcases hf with rfl | rfl | rfl
 ·exact⟨⟨_,T3⟩,zhF T3 rfl⟩
 ·exact⟨⟨_,T9⟩,zhF T9 rfl⟩
 ·exact⟨⟨_,T9⟩,zhF T9 rfl⟩
theorem eqP_vo9 (a b:Vo):eqP T 77 (voC a) (voC b) (2,voQ a,voQ b,decide (a=b)) :=
 ⟨rfl,rfl,(by show 2≤100;omega),⟨tyVo,T77,rfl⟩,fit_vo9 a,fit_vo9 b,by simp only [decide_eq_true_eq];exact⟨fun h=>by rw [h],fun h=>ziB h⟩⟩
theorem eqPv_vo9 {a b:Vo} {q:Nat × List Value × List Value × Bool} (h:eqP T 77 (voC a) (voC b) q):q.2.2.2=decide (a=b):=by
 obtain⟨h1,h2,_,_,_,_,h3⟩:=h
 have e1:=zcJ (l:=voQ a) h1
 have e2:=zcJ (l:=voQ b) h2
 rw [Bool.eq_iff_iff,h3,← e1,← e2,decide_eq_true_eq]
 exact⟨ziB,fun h=>by rw [h]⟩
theorem bn_vo_neq9 {a b:Vo} {K:AV→Prop}:wbin T .neq 77 (.agg (voC a)) (.agg (voC b)) K=K (bl (!decide (a=b))):=by
 apply propext
 constructor
 ·rintro⟨q,hq,hk⟩
  rw [← eqPv_vo9 hq]
  exact hk
 ·exact fun hk=>⟨_,eqP_vo9 a b,hk⟩
theorem rsameV_ok (a b:List Vo) (ha:a.length≤1000000000000):ACalls Tryz.prog 31 [.sl (a.flatMap voC) a.length,.sl (b.flatMap voC) b.length] [] (fun y _=>y=.ret (bl (decide (a=b)))):=by
 refine ACalls.body T_ok Tryz.func31 (by kernel_rfl) rfl Tryz.ntmps31 (congrArg Array.toList Tryz.results31) ?_
 try simp -implicitDefEqProofs only [LM7,LB29,eq_self,zab (h:=T68),zad,zac,zaa,zah,zdJ,zdK,zdL,zdM,zcu,bd_O,TB,SB,Int.reduceToNat,Nat.reduceAdd,Nat.reduceEqDiff,Nat.reduceLT,Nat.reduceMod,Nat.reducePow,Nat.reduceSub,if_true,reduceIte]
 refine⟨fun hne=>?_,fun heq=>?_⟩
 ·refine zaI ?_
  rw [decide_eq_false (fun h=>hne (by rw [h]))]
 have hl:a.length=b.length:=by omega
 rw [za9]
 refine⟨Nat,fun k=>k≤a.length∧∀ i,i < k→a.getD i v0=b.getD i v0,fun k=>[.sl (a.flatMap voC) a.length,.sl (b.flatMap voC) b.length,.bot,.bot,.bot,i64 k,.bot,.bot,.bot,.bot,.bot,.bot,.bot,.bot,.bot,.bot,.bot,.bot,.bot,.bot,.bot,.bot,.bot,.bot,.bot,.bot],fun _=>[],fun k=>a.length - k,0,⟨Nat.zero_le _,fun i hi=>by omega⟩,?_,?_⟩
 ·refine zal (q:=[]) rfl rfl (by decide) ?_ ?_
  ·skip
   try simp only [FB,AV.ren,Nat.reduceAdd,reduceCtorEq]
   simp [zci]
  ·skip
   try simp only [FB,AV.ren,Nat.reduceAdd,reduceCtorEq]
 ·rintro k ⟨hk,hsame⟩
  try simp -implicitDefEqProofs only [LM7,LB29,eq_self,zab (h:=T68),zad,zac,zaa,zah,zdJ,zdK,zdL,zdM,zcu,bd_O,TB,SB,Int.reduceToNat,Nat.reduceAdd,Nat.reduceEqDiff,Nat.reduceLT,Nat.reduceMod,Nat.reducePow,Nat.reduceSub,if_true,reduceIte]
  refine⟨fun hlt=>?_,fun hge=>?_⟩
  ·skip
   refine zcb (by kernel_rfl) (by kernel_rfl) ?_
   try simp -implicitDefEqProofs only [LM7,LB29,eq_self,zab (h:=T68),zad,zac,zaa,zah,zdJ,zdK,zdL,zdM,zcu,bd_O,TB,SB,Int.reduceToNat,Nat.reduceAdd,Nat.reduceEqDiff,Nat.reduceLT,Nat.reduceMod,Nat.reducePow,Nat.reduceSub,if_true,reduceIte]
   repeat (with_reducible refine zaW ?_)
   rw [← zeI,← zeI,bn_vo_neq9]
   try simp -implicitDefEqProofs only [LM7,LB29,eq_self,zab (h:=T68),zad,zac,zaa,zah,zdJ,zdK,zdL,zdM,zcu,bd_O,TB,SB,Int.reduceToNat,Nat.reduceAdd,Nat.reduceEqDiff,Nat.reduceLT,Nat.reduceMod,Nat.reducePow,Nat.reduceSub,if_true,reduceIte]
   refine⟨fun hne=>?_,fun heq=>?_⟩
   ·refine zaI ?_
    rw [decide_eq_false (by rintro rfl;exact hne rfl)]
   ·skip
    repeat (with_reducible refine zaW ?_)
    rw [zan]
    refine⟨k+1,⟨by omega,fun i hi=>?_⟩,by omega,zal (q:=[]) rfl rfl (by decide) ?_ ?_⟩
    ·rcases Nat.lt_succ_iff_lt_or_eq.1 hi with h | rfl
     ·exact hsame i h
     ·simpa using heq
    ·skip
     try simp only [FB,AV.ren,Nat.reduceAdd,reduceCtorEq]
     simp [zci]
    ·skip
     try simp only [FB,AV.ren,Nat.reduceAdd,reduceCtorEq]
  ·obtain rfl:k=a.length:=by omega
   try simp -implicitDefEqProofs only [LM7,LB29,eq_self,zab (h:=T68),zad,zac,zaa,zah,zdJ,zdK,zdL,zdM,zcu,bd_O,TB,SB,Int.reduceToNat,Nat.reduceAdd,Nat.reduceEqDiff,Nat.reduceLT,Nat.reduceMod,Nat.reducePow,Nat.reduceSub,if_true,reduceIte]
   refine zaI ?_
   rw [decide_eq_true (List.ext_getElem hl fun i h1 h2=>by have:=hsame i h1;simpa [h1,h2] using this)]
def fewS (s:Sv):Prop:=fewI s.blobs∧fewI s.cells∧s.head.length≤80
theorem fewS_ok (s:Sv) (h1:s.blobs.length≤9223372036854775807) (h2:s.cells.length≤9223372036854775807):ACalls Tryz.prog 9 [svA s] [] (fun y _=>∃ b:Bool,y=.ret (bl b)∧(b=true→fewS s)):=by
 obtain⟨sb,sc,sh,sn⟩:=s
 have ha:=fewI_ok sb h1
 have hb:=fewI_ok sc h2
 dsimp only at h1 h2
 simp only [zbZ,zbl]
 refine ACalls.body T_ok Tryz.func9 (by kernel_rfl) rfl Tryz.ntmps9 (congrArg Array.toList Tryz.results9) ?_
 try simp -implicitDefEqProofs only [LM7,LB29,eq_self,zab (h:=T68),zad,zac,zaa,zah,zdJ,zdK,zdL,zdM,zcu,bd_O,TB,SB,Int.reduceToNat,Nat.reduceAdd,Nat.reduceEqDiff,Nat.reduceLT,Nat.reduceMod,Nat.reducePow,Nat.reduceSub,if_true,reduceIte]
 refine ha.pure (by simp [renL,zaH,AV.ren]) ?_
 rintro _ σ ⟨a,rfl,fa⟩
 refine⟨zax _ _,?_⟩
 try simp -implicitDefEqProofs only [LM7,LB29,eq_self,zab (h:=T68),zad,zac,zaa,zah,zdJ,zdK,zdL,zdM,zcu,bd_O,TB,SB,Int.reduceToNat,Nat.reduceAdd,Nat.reduceEqDiff,Nat.reduceLT,Nat.reduceMod,Nat.reducePow,Nat.reduceSub,if_true,reduceIte]
 refine hb.pure (by simp [renL,zaH,AV.ren]) ?_
 rintro _ σ ⟨b,rfl,fb⟩
 refine⟨zax _ _,?_⟩
 cases a with
 | false =>
  try simp -implicitDefEqProofs only [LM7,LB29,eq_self,zab (h:=T68),zad,zac,zaa,zah,zdJ,zdK,zdL,zdM,zcu,bd_O,TB,SB,Int.reduceToNat,Nat.reduceAdd,Nat.reduceEqDiff,Nat.reduceLT,Nat.reduceMod,Nat.reducePow,Nat.reduceSub,if_true,reduceIte]
  exact zaI ⟨false,rfl,fun h=>by cases h⟩
 | true =>
  cases b with
  | false =>
   try simp -implicitDefEqProofs only [LM7,LB29,eq_self,zab (h:=T68),zad,zac,zaa,zah,zdJ,zdK,zdL,zdM,zcu,bd_O,TB,SB,Int.reduceToNat,Nat.reduceAdd,Nat.reduceEqDiff,Nat.reduceLT,Nat.reduceMod,Nat.reducePow,Nat.reduceSub,if_true,reduceIte]
   exact zaI ⟨false,rfl,fun h=>by cases h⟩
  | true =>
   try simp -implicitDefEqProofs only [LM7,LB29,eq_self,zab (h:=T68),zad,zac,zaa,zah,zdJ,zdK,zdL,zdM,zcu,bd_O,TB,SB,Int.reduceToNat,Nat.reduceAdd,Nat.reduceEqDiff,Nat.reduceLT,Nat.reduceMod,Nat.reducePow,Nat.reduceSub,if_true,reduceIte]
   exact zaI ⟨_,rfl,fun h=>⟨fa rfl,fb rfl,by have:=of_decide_eq_true h;show sh.length≤80;omega⟩⟩
end Go.Proofs.YtdmiflfhaobngaaGreatDoor
end

section
namespace Go.Proofs.YtdmiflfhaobngaaGreatDoor
open Go Go.Eng
set_option linter.defProp false in
def LB30:=And.intro @zdJ (And.intro @zdK (And.intro @zdL (And.intro @zdM (And.intro @zcu (@bd_O)))))
end Go.Proofs.YtdmiflfhaobngaaGreatDoor
end

