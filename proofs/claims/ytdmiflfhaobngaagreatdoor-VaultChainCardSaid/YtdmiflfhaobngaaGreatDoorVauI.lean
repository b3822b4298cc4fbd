/-
  The document's example, the law's walk, what comes in, and what the listed variables hold. No condition.
-/
import Derived.Test.YtdmiflfhaobngaaGreatDoorVauH
import Derived.WalkKit
import Derived.ProofKit
import Derived.OpenShut
import Derived.ShutString
import Derived.SliceStrings
import Derived.LaidMore
import Derived.Lay
import Derived.LaidHandle
import Derived.Stop.LaidErr
import Derived.Lib.LaidTab
import Derived.Stop.Joined
import Derived.HandedShaped
import Derived.Shelf.Strings.Shaped
set_option linter.unusedSimpArgs false
set_option linter.unusedVariables false
set_option linter.unusedSectionVars false
section
namespace Go.Proofs.YtdmiflfhaobngaaGreatDoor
open Go Go.Eng
set_option linter.defProp false in
def LB28:=And.intro @zaE (And.intro @zaF (And.intro @zaX (And.intro @zaM (And.intro @zaY (And.intro @zaN (And.intro @zb5 (And.intro @zb6 (And.intro @zb7 (And.intro @zaZ (And.intro @za0 (And.intro @za1 (And.intro @zbh (And.intro @zbi (@zbj))))))))))))))
set_option linter.defProp false in
def LM6:=And.intro LM0 (LB28)
theorem zaI {K:AV→Prop} (i j n m:Nat) (h:List UInt8) (k:Int):za3 T 24 [(0,.ref i 0 n 2),(1,.ref j 0 m 2),(2,str h),(3,i64 k)] K=K (.agg [.ref i 0 n 2,.ref j 0 m 2,str h,i64 k]):=by
 simp [za3,T24,T3,T9,T22,tySv,zbE,zaL,zct,zae,zcL,zcB,cells_ref,one_ref,zbe,tyStr,tySl,zbM]
theorem frz_It {σ:zai} {id n:Nat} {l:List It} (h:σ[id]?=some (.ro (l.flatMap itC))) (hn:n=l.length):frzA σ (.ref id 0 n 2) (slT l):=by
 subst hn
 refine .inr ⟨_,h,by rw [itF.flen];omega,?_⟩
 rw [List.drop_zero,itF.full]
 rfl
theorem end_sv6 {σ:zai} {K:AV→zai→Prop} (hk:K (.tup [svA s0,i64 6]) []):endQ 0 (.tup [.agg [.lit (.slice none 0 0),.lit (.slice none 0 0),str [],i64 0],i64 6]) σ K :=
 zc9 [] (.tup [svA s0,i64 6]) ⟨_,rfl,_,_,rfl,⟨_,rfl,_,_,rfl,.inr ⟨rfl,rfl⟩,_,_,rfl,.inr ⟨rfl,rfl⟩,_,_,rfl,.inl rfl,_,_,rfl,.inl rfl,rfl⟩,_,_,rfl,.inl rfl,rfl⟩ ⟨[],.tup [svA s0,i64 6],[],rfl,rfl,by decide,by simp [AV.ren,renL,zdN,zag],trivial,hk⟩
theorem end_ap {σ:zai} {i j n m:Nat} {h:List UInt8} {k e:Int} {K:AV→zai→Prop} (B C:List It) (h1:(zcE σ [i,j])[i]?=some (.ro (B.flatMap itC))) (h2:(zcE σ [i,j])[j]?=some (.ro (C.flatMap itC))) (hn:n=B.length) (hm:m=C.length) (hK:K (.tup [svA ⟨B,C,h,k⟩,i64 e]) []):endQ 0 (.tup [.agg [.ref i 0 n 2,.ref j 0 m 2,str h,i64 k],i64 e]) σ K :=
 zc9 [i,j] (.tup [svA ⟨B,C,h,k⟩,i64 e]) ⟨_,rfl,_,_,rfl,⟨_,rfl,_,_,rfl,frz_It h1 hn,_,_,rfl,frz_It h2 hm,_,_,rfl,.inl rfl,_,_,rfl,.inl rfl,rfl⟩,_,_,rfl,.inl rfl,rfl⟩ ⟨[],.tup [svA ⟨B,C,h,k⟩,i64 e],[],rfl,rfl,by decide,by simp [AV.ren,renL,zdN,zag],trivial,hK⟩
set_option maxHeartbeats 3200000 in
theorem ap0_ok (o:Vo) (hk:o.kind=0) (hB:zbG [o]=true) (h:List UInt8) (n:Int) (hC:chkS ⟨[],[],h,n⟩=true) (hn:n < 1073741824):ACalls Tryz.prog 11 [svA ⟨[],[],h,n⟩,.sl ([o].flatMap voC) 1] [] (fun z _=>z=.ret (.tup [svA ⟨[⟨o.label,o.box⟩],[],shaR (h++(putV [o]).1),n+1⟩,i64 0])):=by
 have hck:=zfn ⟨[],[],h,n⟩ (by simp) (by simp)
 have hib:=zht [o]
 rw [hC,if_pos rfl] at hck
 rw [hB] at hib
 obtain⟨-,-,l3,l4,l5⟩:=zf3 hC
 have hd:=do0_ok o hk hB [] h l3 n ⟨l4,hn⟩
 have hcl:=zd1 [] (by simp)
 have hc2:=zd1 [] (by simp)
 simp only [zdF,zcj] at hck ⊢
 simp only [List.flatMap_cons,List.flatMap_nil,List.append_nil,zbC,List.length_nil,List.length_cons,Nat.zero_add] at hck hd hcl hc2 ⊢
 refine ACalls.body T_ok Tryz.func11 (by kernel_rfl) rfl Tryz.ntmps11 (congrArg Array.toList Tryz.results11) ?_
 try simp -implicitDefEqProofs only [LM6,eq_self,zab (h:=T68),zae,zac,zaa,zal,zaI,TB,SB,Int.reduceToNat,Nat.reduceAdd,Nat.reduceEqDiff,Nat.reduceLT,Nat.reduceMod,Nat.reducePow,Nat.reduceSub,if_true,reduceIte]
 refine hck.pure (by simp [renL,za2,AV.ren,zah,zag]) ?_
 rintro _ σ rfl
 refine⟨zag _ _,?_⟩
 try simp -implicitDefEqProofs only [LM6,eq_self,zab (h:=T68),zae,zac,zaa,zal,zaI,TB,SB,Int.reduceToNat,Nat.reduceAdd,Nat.reduceEqDiff,Nat.reduceLT,Nat.reduceMod,Nat.reducePow,Nat.reduceSub,if_true,reduceIte]
 refine hib.pure (by simp [renL,za2,AV.ren,zah,zag,voC]) ?_
 rintro _ σ rfl
 refine⟨zaG _ _,?_⟩
 try simp -implicitDefEqProofs only [LM6,eq_self,zab (h:=T68),zae,zac,zaa,zal,zaI,TB,SB,Int.reduceToNat,Nat.reduceAdd,Nat.reduceEqDiff,Nat.reduceLT,Nat.reduceMod,Nat.reducePow,Nat.reduceSub,if_true,reduceIte]
 refine zfV true [[.rw [.sl [] 0,.sl [] 0,str h,i64 n],.rw [.lit (.slice none 0 0),.lit (.slice none 0 0),str [],i64 0]],[.rw [.sl [] 0,.sl [] 0,str h,i64 n],.rw [.lit (.slice none 0 0),.lit (.slice none 0 0),str [],i64 0],.rw []],[.rw [.sl [] 0,.sl [] 0,str h,i64 n],.rw [.lit (.slice none 0 0),.lit (.slice none 0 0),str [],i64 0],.rw [],.rw []]] [2,5] 11 7 24 12 (by kernel_rfl) (by kernel_rfl) (by kernel_rfl) (fun _=>⟨_,T24⟩) rfl ?_
 simp only [List.take_succ_cons,List.take_zero]
 refine wg_q [0,1,2] (.ptr 0 0) (by kernel_rfl) (by kernel_rfl) rfl (by kernel_rfl) ?_ ?_
 ·simp only [qAll,List.getD_cons_zero,List.getD_cons_succ]
  refine⟨?_,?_,?_,trivial⟩
  ·try simp -implicitDefEqProofs only [LM6,eq_self,zab (h:=T68),zae,zac,zaa,zal,zaI,TB,SB,Int.reduceToNat,Nat.reduceAdd,Nat.reduceEqDiff,Nat.reduceLT,Nat.reduceMod,Nat.reducePow,Nat.reduceSub,if_true,reduceIte]
  ·try simp -implicitDefEqProofs only [LM6,eq_self,zab (h:=T68),zae,zac,zaa,zal,zaI,TB,SB,Int.reduceToNat,Nat.reduceAdd,Nat.reduceEqDiff,Nat.reduceLT,Nat.reduceMod,Nat.reducePow,Nat.reduceSub,if_true,reduceIte]
  ·try simp -implicitDefEqProofs only [LM6,eq_self,zab (h:=T68),zae,zac,zaa,zal,zaI,TB,SB,Int.reduceToNat,Nat.reduceAdd,Nat.reduceEqDiff,Nat.reduceLT,Nat.reduceMod,Nat.reducePow,Nat.reduceSub,if_true,reduceIte]
 refine wg_q [0,1,2] (.sl [] 0) (by kernel_rfl) (by kernel_rfl) rfl (by kernel_rfl) ?_ ?_
 ·simp only [qAll,List.getD_cons_zero,List.getD_cons_succ]
  refine⟨?_,?_,?_,trivial⟩
  ·try simp -implicitDefEqProofs only [LM6,eq_self,zab (h:=T68),zae,zac,zaa,zal,zaI,TB,SB,Int.reduceToNat,Nat.reduceAdd,Nat.reduceEqDiff,Nat.reduceLT,Nat.reduceMod,Nat.reducePow,Nat.reduceSub,if_true,reduceIte]
  ·try simp -implicitDefEqProofs only [LM6,eq_self,zab (h:=T68),zae,zac,zaa,zal,zaI,TB,SB,Int.reduceToNat,Nat.reduceAdd,Nat.reduceEqDiff,Nat.reduceLT,Nat.reduceMod,Nat.reducePow,Nat.reduceSub,if_true,reduceIte]
  ·try simp -implicitDefEqProofs only [LM6,eq_self,zab (h:=T68),zae,zac,zaa,zal,zaI,TB,SB,Int.reduceToNat,Nat.reduceAdd,Nat.reduceEqDiff,Nat.reduceLT,Nat.reduceMod,Nat.reducePow,Nat.reduceSub,if_true,reduceIte]
 refine wg_c (.ref 2 0 0 2) (by kernel_rfl) (by kernel_rfl) ?_ ?_
 ·simp only [show ([2,5]:List Nat).idxOf 2=0 from rfl,Nat.zero_add,List.getD_cons_zero,List.getD_cons_succ]
  try simp -implicitDefEqProofs only [LM6,eq_self,zab (h:=T68),zae,zac,zaa,zal,zaI,TB,SB,Int.reduceToNat,Nat.reduceAdd,Nat.reduceEqDiff,Nat.reduceLT,Nat.reduceMod,Nat.reducePow,Nat.reduceSub,if_true,reduceIte]
  refine ACalls.frame ([]) (hcl) rfl (by decide) (by simp [LM13,zar,zas,renL,AV.ren,AEnd.ren,zad str zah,zaq,List.getElem?_cons_zero,List.getElem?_cons_succ]) (by first | rfl | simp [LM13,zar,zas,renL,AV.ren,AEnd.ren,zad str zah,zaq,List.getElem?_cons_zero,List.getElem?_cons_succ]) ?_
  rintro _ _ ⟨rfl,rfl⟩
  refine⟨.ret (.ref 2 0 0 2),[.rw [.sl [] 0,.sl [] 0,str h,i64 n],.rw [.lit (.slice none 0 0),.lit (.slice none 0 0),str [],i64 0],.rw []],(by show zas _ _ ([1,1,0]) ([1,1,0]) 0 _;simp [LM13,zar,zas,renL,AV.ren,AEnd.ren,zad str zah,zaq,List.getElem?_cons_zero,List.getElem?_cons_succ]),(by show AEnd.ren ([1,1,0]) _ _;first | rfl | simp [LM13,zar,zas,renL,AV.ren,AEnd.ren,zad str zah,zaq,List.getElem?_cons_zero,List.getElem?_cons_succ]),?_⟩
  try simp -implicitDefEqProofs only [LM6,eq_self,zab (h:=T68),zae,zac,zaa,zal,zaI,TB,SB,Int.reduceToNat,Nat.reduceAdd,Nat.reduceEqDiff,Nat.reduceLT,Nat.reduceMod,Nat.reducePow,Nat.reduceSub,if_true,reduceIte]
 refine wg_q [0,1,2] (.ptr 0 1) (by kernel_rfl) (by kernel_rfl) rfl (by kernel_rfl) ?_ ?_
 ·simp only [qAll,List.getD_cons_zero,List.getD_cons_succ]
  refine⟨?_,?_,?_,trivial⟩
  ·try simp -implicitDefEqProofs only [LM6,eq_self,zab (h:=T68),zae,zac,zaa,zal,zaI,TB,SB,Int.reduceToNat,Nat.reduceAdd,Nat.reduceEqDiff,Nat.reduceLT,Nat.reduceMod,Nat.reducePow,Nat.reduceSub,if_true,reduceIte]
  ·try simp -implicitDefEqProofs only [LM6,eq_self,zab (h:=T68),zae,zac,zaa,zal,zaI,TB,SB,Int.reduceToNat,Nat.reduceAdd,Nat.reduceEqDiff,Nat.reduceLT,Nat.reduceMod,Nat.reducePow,Nat.reduceSub,if_true,reduceIte]
  ·try simp -implicitDefEqProofs only [LM6,eq_self,zab (h:=T68),zae,zac,zaa,zal,zaI,TB,SB,Int.reduceToNat,Nat.reduceAdd,Nat.reduceEqDiff,Nat.reduceLT,Nat.reduceMod,Nat.reducePow,Nat.reduceSub,if_true,reduceIte]
 refine wg_q [0,1,2] (.sl [] 0) (by kernel_rfl) (by kernel_rfl) rfl (by kernel_rfl) ?_ ?_
 ·simp only [qAll,List.getD_cons_zero,List.getD_cons_succ]
  refine⟨?_,?_,?_,trivial⟩
  ·try simp -implicitDefEqProofs only [LM6,eq_self,zab (h:=T68),zae,zac,zaa,zal,zaI,TB,SB,Int.reduceToNat,Nat.reduceAdd,Nat.reduceEqDiff,Nat.reduceLT,Nat.reduceMod,Nat.reducePow,Nat.reduceSub,if_true,reduceIte]
  ·try simp -implicitDefEqProofs only [LM6,eq_self,zab (h:=T68),zae,zac,zaa,zal,zaI,TB,SB,Int.reduceToNat,Nat.reduceAdd,Nat.reduceEqDiff,Nat.reduceLT,Nat.reduceMod,Nat.reducePow,Nat.reduceSub,if_true,reduceIte]
  ·try simp -implicitDefEqProofs only [LM6,eq_self,zab (h:=T68),zae,zac,zaa,zal,zaI,TB,SB,Int.reduceToNat,Nat.reduceAdd,Nat.reduceEqDiff,Nat.reduceLT,Nat.reduceMod,Nat.reducePow,Nat.reduceSub,if_true,reduceIte]
 refine wg_c (.ref 3 0 0 2) (by kernel_rfl) (by kernel_rfl) ?_ ?_
 ·simp only [show ([2,5]:List Nat).idxOf 5=1 from rfl,Nat.zero_add,List.getD_cons_zero,List.getD_cons_succ]
  try simp -implicitDefEqProofs only [LM6,eq_self,zab (h:=T68),zae,zac,zaa,zal,zaI,TB,SB,Int.reduceToNat,Nat.reduceAdd,Nat.reduceEqDiff,Nat.reduceLT,Nat.reduceMod,Nat.reducePow,Nat.reduceSub,if_true,reduceIte]
  refine ACalls.frame ([]) (hc2) rfl (by decide) (by simp [LM13,zar,zas,renL,AV.ren,AEnd.ren,zad str zah,zaq,List.getElem?_cons_zero,List.getElem?_cons_succ]) (by first | rfl | simp [LM13,zar,zas,renL,AV.ren,AEnd.ren,zad str zah,zaq,List.getElem?_cons_zero,List.getElem?_cons_succ]) ?_
  rintro _ _ ⟨rfl,rfl⟩
  refine⟨.ret (.ref 3 0 0 2),[.rw [.sl [] 0,.sl [] 0,str h,i64 n],.rw [.lit (.slice none 0 0),.lit (.slice none 0 0),str [],i64 0],.rw [],.rw []],(by show zas _ _ ([1,1,1,0]) ([1,1,1,0]) 0 _;simp [LM13,zar,zas,renL,AV.ren,AEnd.ren,zad str zah,zaq,List.getElem?_cons_zero,List.getElem?_cons_succ]),(by show AEnd.ren ([1,1,1,0]) _ _;first | rfl | simp [LM13,zar,zas,renL,AV.ren,AEnd.ren,zad str zah,zaq,List.getElem?_cons_zero,List.getElem?_cons_succ]),?_⟩
  try simp -implicitDefEqProofs only [LM6,eq_self,zab (h:=T68),zae,zac,zaa,zal,zaI,TB,SB,Int.reduceToNat,Nat.reduceAdd,Nat.reduceEqDiff,Nat.reduceLT,Nat.reduceMod,Nat.reducePow,Nat.reduceSub,if_true,reduceIte]
 refine wg_q [0,1,2] (.ptr 0 2) (by kernel_rfl) (by kernel_rfl) rfl (by kernel_rfl) ?_ ?_
 ·simp only [qAll,List.getD_cons_zero,List.getD_cons_succ]
  refine⟨?_,?_,?_,trivial⟩
  ·try simp -implicitDefEqProofs only [LM6,eq_self,zab (h:=T68),zae,zac,zaa,zal,zaI,TB,SB,Int.reduceToNat,Nat.reduceAdd,Nat.reduceEqDiff,Nat.reduceLT,Nat.reduceMod,Nat.reducePow,Nat.reduceSub,if_true,reduceIte]
  ·try simp -implicitDefEqProofs only [LM6,eq_self,zab (h:=T68),zae,zac,zaa,zal,zaI,TB,SB,Int.reduceToNat,Nat.reduceAdd,Nat.reduceEqDiff,Nat.reduceLT,Nat.reduceMod,Nat.reducePow,Nat.reduceSub,if_true,reduceIte]
  ·try simp -implicitDefEqProofs only [LM6,eq_self,zab (h:=T68),zae,zac,zaa,zal,zaI,TB,SB,Int.reduceToNat,Nat.reduceAdd,Nat.reduceEqDiff,Nat.reduceLT,Nat.reduceMod,Nat.reducePow,Nat.reduceSub,if_true,reduceIte]
 refine wg_q [0,1,2] (str h) (by kernel_rfl) (by kernel_rfl) rfl (by kernel_rfl) ?_ ?_
 ·simp only [qAll,List.getD_cons_zero,List.getD_cons_succ]
  refine⟨?_,?_,?_,trivial⟩
  ·try simp -implicitDefEqProofs only [LM6,eq_self,zab (h:=T68),zae,zac,zaa,zal,zaI,TB,SB,Int.reduceToNat,Nat.reduceAdd,Nat.reduceEqDiff,Nat.reduceLT,Nat.reduceMod,Nat.reducePow,Nat.reduceSub,if_true,reduceIte]
  ·try simp -implicitDefEqProofs only [LM6,eq_self,zab (h:=T68),zae,zac,zaa,zal,zaI,TB,SB,Int.reduceToNat,Nat.reduceAdd,Nat.reduceEqDiff,Nat.reduceLT,Nat.reduceMod,Nat.reducePow,Nat.reduceSub,if_true,reduceIte]
  ·try simp -implicitDefEqProofs only [LM6,eq_self,zab (h:=T68),zae,zac,zaa,zal,zaI,TB,SB,Int.reduceToNat,Nat.reduceAdd,Nat.reduceEqDiff,Nat.reduceLT,Nat.reduceMod,Nat.reducePow,Nat.reduceSub,if_true,reduceIte]
 refine wg_q [0,1,2] (.ptr 0 3) (by kernel_rfl) (by kernel_rfl) rfl (by kernel_rfl) ?_ ?_
 ·simp only [qAll,List.getD_cons_zero,List.getD_cons_succ]
  refine⟨?_,?_,?_,trivial⟩
  ·try simp -implicitDefEqProofs only [LM6,eq_self,zab (h:=T68),zae,zac,zaa,zal,zaI,TB,SB,Int.reduceToNat,Nat.reduceAdd,Nat.reduceEqDiff,Nat.reduceLT,Nat.reduceMod,Nat.reducePow,Nat.reduceSub,if_true,reduceIte]
  ·try simp -implicitDefEqProofs only [LM6,eq_self,zab (h:=T68),zae,zac,zaa,zal,zaI,TB,SB,Int.reduceToNat,Nat.reduceAdd,Nat.reduceEqDiff,Nat.reduceLT,Nat.reduceMod,Nat.reducePow,Nat.reduceSub,if_true,reduceIte]
  ·try simp -implicitDefEqProofs only [LM6,eq_self,zab (h:=T68),zae,zac,zaa,zal,zaI,TB,SB,Int.reduceToNat,Nat.reduceAdd,Nat.reduceEqDiff,Nat.reduceLT,Nat.reduceMod,Nat.reducePow,Nat.reduceSub,if_true,reduceIte]
 refine wg_q [0,1,2] (i64 n) (by kernel_rfl) (by kernel_rfl) rfl (by kernel_rfl) ?_ ?_
 ·simp only [qAll,List.getD_cons_zero,List.getD_cons_succ]
  refine⟨?_,?_,?_,trivial⟩
  ·try simp -implicitDefEqProofs only [LM6,eq_self,zab (h:=T68),zae,zac,zaa,zal,zaI,TB,SB,Int.reduceToNat,Nat.reduceAdd,Nat.reduceEqDiff,Nat.reduceLT,Nat.reduceMod,Nat.reducePow,Nat.reduceSub,if_true,reduceIte]
  ·try simp -implicitDefEqProofs only [LM6,eq_self,zab (h:=T68),zae,zac,zaa,zal,zaI,TB,SB,Int.reduceToNat,Nat.reduceAdd,Nat.reduceEqDiff,Nat.reduceLT,Nat.reduceMod,Nat.reducePow,Nat.reduceSub,if_true,reduceIte]
  ·try simp -implicitDefEqProofs only [LM6,eq_self,zab (h:=T68),zae,zac,zaa,zal,zaI,TB,SB,Int.reduceToNat,Nat.reduceAdd,Nat.reduceEqDiff,Nat.reduceLT,Nat.reduceMod,Nat.reducePow,Nat.reduceSub,if_true,reduceIte]
 refine wg_q [0,1,2] (.agg [.ref 2 0 0 2,.ref 3 0 0 2,str h,i64 n]) (by kernel_rfl) (by kernel_rfl) rfl (by kernel_rfl) ?_ ?_
 ·simp only [qAll,List.getD_cons_zero,List.getD_cons_succ]
  refine⟨?_,?_,?_,trivial⟩
  ·try simp -implicitDefEqProofs only [LM6,eq_self,zab (h:=T68),zae,zac,zaa,zal,zaI,TB,SB,Int.reduceToNat,Nat.reduceAdd,Nat.reduceEqDiff,Nat.reduceLT,Nat.reduceMod,Nat.reducePow,Nat.reduceSub,if_true,reduceIte]
  ·try simp -implicitDefEqProofs only [LM6,eq_self,zab (h:=T68),zae,zac,zaa,zal,zaI,TB,SB,Int.reduceToNat,Nat.reduceAdd,Nat.reduceEqDiff,Nat.reduceLT,Nat.reduceMod,Nat.reducePow,Nat.reduceSub,if_true,reduceIte]
  ·try simp -implicitDefEqProofs only [LM6,eq_self,zab (h:=T68),zae,zac,zaa,zal,zaI,TB,SB,Int.reduceToNat,Nat.reduceAdd,Nat.reduceEqDiff,Nat.reduceLT,Nat.reduceMod,Nat.reducePow,Nat.reduceSub,if_true,reduceIte]
 refine wg_f (by kernel_rfl) ?_
 refine wg_n (fun _=>?_)
 simp only [wgL,show (11 < 12) from by decide,if_true,List.length_cons,List.length_nil,Nat.zero_add,Nat.reduceAdd,List.getD_cons_zero,List.getD_cons_succ,List.drop_succ_cons,List.drop_zero]
 simp only [T24]
 rw [show zaL tySv.zero=[.lit (.slice none 0 0),.lit (.slice none 0 0),str [],i64 0] from rfl]
 try simp -implicitDefEqProofs only [LM6,eq_self,zab (h:=T68),zae,zac,zaa,zal,zaI,TB,SB,Int.reduceToNat,Nat.reduceAdd,Nat.reduceEqDiff,Nat.reduceLT,Nat.reduceMod,Nat.reducePow,Nat.reduceSub,if_true,reduceIte]
 refine ACalls.frame ([4,2,3]) (hd) rfl (by decide) (by simp [LM13,zar,zas,renL,AV.ren,AEnd.ren,zad str zah,zaq,List.getElem?_cons_zero,List.getElem?_cons_succ]) (by first | rfl | simp [LM13,zar,zas,renL,AV.ren,AEnd.ren,zad str zah,zaq,List.getElem?_cons_zero,List.getElem?_cons_succ]) ?_
 rintro _ _ ⟨rfl,rfl⟩
 refine⟨.ret (i64 0),[.rw [.sl [] 0,.sl [] 0,str h,i64 n],.rw [.lit (.slice none 0 0),.lit (.slice none 0 0),str [],i64 0],.dead,.rw [],.rw [.ref 5 0 1 2,.ref 3 0 0 2,str (shaR (h++(putV [o]).1)),i64 (n+1)],.rw [str o.label,str o.box]],(by show zas _ _ ([4,4,1,2,0,3]) ([4,4,1,2,0,3]) 0 _;simp [LM13,zar,zas,renL,AV.ren,AEnd.ren,zad str zah,zaq,List.getElem?_cons_zero,List.getElem?_cons_succ]),(by show AEnd.ren ([4,4,1,2,0,3]) _ _;first | rfl | simp [LM13,zar,zas,renL,AV.ren,AEnd.ren,zad str zah,zaq,List.getElem?_cons_zero,List.getElem?_cons_succ]),?_⟩
 try simp -implicitDefEqProofs only [LM6,eq_self,zab (h:=T68),zae,zac,zaa,zal,zaI,TB,SB,Int.reduceToNat,Nat.reduceAdd,Nat.reduceEqDiff,Nat.reduceLT,Nat.reduceMod,Nat.reducePow,Nat.reduceSub,if_true,reduceIte]
 try simp -implicitDefEqProofs only [LM6,eq_self,zab (h:=T68),zae,zac,zaa,zal,zaI,show decide ((0:Int)=0)=true from rfl,TB,SB,Int.reduceToNat,Nat.reduceAdd,Nat.reduceEqDiff,Nat.reduceLT,Nat.reduceMod,Nat.reducePow,Nat.reduceSub,if_true,reduceIte]
 exact end_ap [⟨o.label,o.box⟩] [] rfl rfl rfl rfl rfl
set_option maxHeartbeats 3200000 in
theorem ap1_ok (o:Vo) (hk:o.kind=0) (hB:zbG [o]=true) (y:It) (hy:y.label=o.label) (h:List UInt8) (n:Int) (hC:chkS ⟨[y],[],h,n⟩=true) (hn:n < 1073741824):ACalls Tryz.prog 11 [svA ⟨[y],[],h,n⟩,.sl ([o].flatMap voC) 1] [] (fun z _=>z=.ret (.tup [svA ⟨[⟨o.label,o.box⟩],[],shaR (h++(putV [o]).1),n+1⟩,i64 0])):=by
 have hck:=zfn ⟨[y],[],h,n⟩ (by simp) (by simp)
 have hib:=zht [o]
 rw [hC,if_pos rfl] at hck
 rw [hB] at hib
 obtain⟨-,-,l3,l4,l5⟩:=zf3 hC
 have hd:=do1_ok o hk hB y hy [] h l3 n ⟨l4,hn⟩
 have hcl:=zd1 [y] (by simp)
 have hc2:=zd1 [] (by simp)
 simp only [zdF,zcj] at hck ⊢
 simp only [List.flatMap_cons,List.flatMap_nil,List.append_nil,zbC,List.length_nil,List.length_cons,Nat.zero_add] at hck hd hcl hc2 ⊢
 refine ACalls.body T_ok Tryz.func11 (by kernel_rfl) rfl Tryz.ntmps11 (congrArg Array.toList Tryz.results11) ?_
 try simp -implicitDefEqProofs only [LM6,eq_self,zab (h:=T68),zae,zac,zaa,zal,zaI,TB,SB,Int.reduceToNat,Nat.reduceAdd,Nat.reduceEqDiff,Nat.reduceLT,Nat.reduceMod,Nat.reducePow,Nat.reduceSub,if_true,reduceIte]
 refine hck.pure (by simp [renL,za2,AV.ren,zah,zag]) ?_
 rintro _ σ rfl
 refine⟨zag _ _,?_⟩
 try simp -implicitDefEqProofs only [LM6,eq_self,zab (h:=T68),zae,zac,zaa,zal,zaI,TB,SB,Int.reduceToNat,Nat.reduceAdd,Nat.reduceEqDiff,Nat.reduceLT,Nat.reduceMod,Nat.reducePow,Nat.reduceSub,if_true,reduceIte]
 refine hib.pure (by simp [renL,za2,AV.ren,zah,zag,voC]) ?_
 rintro _ σ rfl
 refine⟨zaG _ _,?_⟩
 try simp -implicitDefEqProofs only [LM6,eq_self,zab (h:=T68),zae,zac,zaa,zal,zaI,TB,SB,Int.reduceToNat,Nat.reduceAdd,Nat.reduceEqDiff,Nat.reduceLT,Nat.reduceMod,Nat.reducePow,Nat.reduceSub,if_true,reduceIte]
 refine zfV true [[.rw [.sl [str y.label,str y.box] 1,.sl [] 0,str h,i64 n],.rw [.lit (.slice none 0 0),.lit (.slice none 0 0),str [],i64 0]],[.rw [.sl [str y.label,str y.box] 1,.sl [] 0,str h,i64 n],.rw [.lit (.slice none 0 0),.lit (.slice none 0 0),str [],i64 0],.rw [str y.label,str y.box]],[.rw [.sl [str y.label,str y.box] 1,.sl [] 0,str h,i64 n],.rw [.lit (.slice none 0 0),.lit (.slice none 0 0),str [],i64 0],.rw [str y.label,str y.box],.rw []]] [2,5] 11 7 24 12 (by kernel_rfl) (by kernel_rfl) (by kernel_rfl) (fun _=>⟨_,T24⟩) rfl ?_
 simp only [List.take_succ_cons,List.take_zero]
 refine wg_q [0,1,2] (.ptr 0 0) (by kernel_rfl) (by kernel_rfl) rfl (by kernel_rfl) ?_ ?_
 ·simp only [qAll,List.getD_cons_zero,List.getD_cons_succ]
  refine⟨?_,?_,?_,trivial⟩
  ·try simp -implicitDefEqProofs only [LM6,eq_self,zab (h:=T68),zae,zac,zaa,zal,zaI,TB,SB,Int.reduceToNat,Nat.reduceAdd,Nat.reduceEqDiff,Nat.reduceLT,Nat.reduceMod,Nat.reducePow,Nat.reduceSub,if_true,reduceIte]
  ·try simp -implicitDefEqProofs only [LM6,eq_self,zab (h:=T68),zae,zac,zaa,zal,zaI,TB,SB,Int.reduceToNat,Nat.reduceAdd,Nat.reduceEqDiff,Nat.reduceLT,Nat.reduceMod,Nat.reducePow,Nat.reduceSub,if_true,reduceIte]
  ·try simp -implicitDefEqProofs only [LM6,eq_self,zab (h:=T68),zae,zac,zaa,zal,zaI,TB,SB,Int.reduceToNat,Nat.reduceAdd,Nat.reduceEqDiff,Nat.reduceLT,Nat.reduceMod,Nat.reducePow,Nat.reduceSub,if_true,reduceIte]
 refine wg_q [0,1,2] (.sl [str y.label,str y.box] 1) (by kernel_rfl) (by kernel_rfl) rfl (by kernel_rfl) ?_ ?_
 ·simp only [qAll,List.getD_cons_zero,List.getD_cons_succ]
  refine⟨?_,?_,?_,trivial⟩
  ·try simp -implicitDefEqProofs only [LM6,eq_self,zab (h:=T68),zae,zac,zaa,zal,zaI,TB,SB,Int.reduceToNat,Nat.reduceAdd,Nat.reduceEqDiff,Nat.reduceLT,Nat.reduceMod,Nat.reducePow,Nat.reduceSub,if_true,reduceIte]
  ·try simp -implicitDefEqProofs only [LM6,eq_self,zab (h:=T68),zae,zac,zaa,zal,zaI,TB,SB,Int.reduceToNat,Nat.reduceAdd,Nat.reduceEqDiff,Nat.reduceLT,Nat.reduceMod,Nat.reducePow,Nat.reduceSub,if_true,reduceIte]
  ·try simp -implicitDefEqProofs only [LM6,eq_self,zab (h:=T68),zae,zac,zaa,zal,zaI,TB,SB,Int.reduceToNat,Nat.reduceAdd,Nat.reduceEqDiff,Nat.reduceLT,Nat.reduceMod,Nat.reducePow,Nat.reduceSub,if_true,reduceIte]
 refine wg_c (.ref 2 0 1 2) (by kernel_rfl) (by kernel_rfl) ?_ ?_
 ·simp only [show ([2,5]:List Nat).idxOf 2=0 from rfl,Nat.zero_add,List.getD_cons_zero,List.getD_cons_succ]
  try simp -implicitDefEqProofs only [LM6,eq_self,zab (h:=T68),zae,zac,zaa,zal,zaI,TB,SB,Int.reduceToNat,Nat.reduceAdd,Nat.reduceEqDiff,Nat.reduceLT,Nat.reduceMod,Nat.reducePow,Nat.reduceSub,if_true,reduceIte]
  refine ACalls.frame ([]) (hcl) rfl (by decide) (by simp [LM13,zar,zas,renL,AV.ren,AEnd.ren,zad str zah,zaq,List.getElem?_cons_zero,List.getElem?_cons_succ]) (by first | rfl | simp [LM13,zar,zas,renL,AV.ren,AEnd.ren,zad str zah,zaq,List.getElem?_cons_zero,List.getElem?_cons_succ]) ?_
  rintro _ _ ⟨rfl,rfl⟩
  refine⟨.ret (.ref 2 0 1 2),[.rw [.sl [str y.label,str y.box] 1,.sl [] 0,str h,i64 n],.rw [.lit (.slice none 0 0),.lit (.slice none 0 0),str [],i64 0],.rw [str y.label,str y.box]],(by show zas _ _ ([1,1,0]) ([1,1,0]) 0 _;simp [LM13,zar,zas,renL,AV.ren,AEnd.ren,zad str zah,zaq,List.getElem?_cons_zero,List.getElem?_cons_succ]),(by show AEnd.ren ([1,1,0]) _ _;first | rfl | simp [LM13,zar,zas,renL,AV.ren,AEnd.ren,zad str zah,zaq,List.getElem?_cons_zero,List.getElem?_cons_succ]),?_⟩
  try simp -implicitDefEqProofs only [LM6,eq_self,zab (h:=T68),zae,zac,zaa,zal,zaI,TB,SB,Int.reduceToNat,Nat.reduceAdd,Nat.reduceEqDiff,Nat.reduceLT,Nat.reduceMod,Nat.reducePow,Nat.reduceSub,if_true,reduceIte]
 refine wg_q [0,1,2] (.ptr 0 1) (by kernel_rfl) (by kernel_rfl) rfl (by kernel_rfl) ?_ ?_
 ·simp only [qAll,List.getD_cons_zero,List.getD_cons_succ]
  refine⟨?_,?_,?_,trivial⟩
  ·try simp -implicitDefEqProofs only [LM6,eq_self,zab (h:=T68),zae,zac,zaa,zal,zaI,TB,SB,Int.reduceToNat,Nat.reduceAdd,Nat.reduceEqDiff,Nat.reduceLT,Nat.reduceMod,Nat.reducePow,Nat.reduceSub,if_true,reduceIte]
  ·try simp -implicitDefEqProofs only [LM6,eq_self,zab (h:=T68),zae,zac,zaa,zal,zaI,TB,SB,Int.reduceToNat,Nat.reduceAdd,Nat.reduceEqDiff,Nat.reduceLT,Nat.reduceMod,Nat.reducePow,Nat.reduceSub,if_true,reduceIte]
  ·try simp -implicitDefEqProofs only [LM6,eq_self,zab (h:=T68),zae,zac,zaa,zal,zaI,TB,SB,Int.reduceToNat,Nat.reduceAdd,Nat.reduceEqDiff,Nat.reduceLT,Nat.reduceMod,Nat.reducePow,Nat.reduceSub,if_true,reduceIte]
 refine wg_q [0,1,2] (.sl [] 0) (by kernel_rfl) (by kernel_rfl) rfl (by kernel_rfl) ?_ ?_
 ·simp only [qAll,List.getD_cons_zero,List.getD_cons_succ]
  refine⟨?_,?_,?_,trivial⟩
  ·try simp -implicitDefEqProofs only [LM6,eq_self,zab (h:=T68),zae,zac,zaa,zal,zaI,TB,SB,Int.reduceToNat,Nat.reduceAdd,Nat.reduceEqDiff,Nat.reduceLT,Nat.reduceMod,Nat.reducePow,Nat.reduceSub,if_true,reduceIte]
  ·try simp -implicitDefEqProofs only [LM6,eq_self,zab (h:=T68),zae,zac,zaa,zal,zaI,TB,SB,Int.reduceToNat,Nat.reduceAdd,Nat.reduceEqDiff,Nat.reduceLT,Nat.reduceMod,Nat.reducePow,Nat.reduceSub,if_true,reduceIte]
  ·try simp -implicitDefEqProofs only [LM6,eq_self,zab (h:=T68),zae,zac,zaa,zal,zaI,TB,SB,Int.reduceToNat,Nat.reduceAdd,Nat.reduceEqDiff,Nat.reduceLT,Nat.reduceMod,Nat.reducePow,Nat.reduceSub,if_true,reduceIte]
 refine wg_c (.ref 3 0 0 2) (by kernel_rfl) (by kernel_rfl) ?_ ?_
 ·simp only [show ([2,5]:List Nat).idxOf 5=1 from rfl,Nat.zero_add,List.getD_cons_zero,List.getD_cons_succ]
  try simp -implicitDefEqProofs only [LM6,eq_self,zab (h:=T68),zae,zac,zaa,zal,zaI,TB,SB,Int.reduceToNat,Nat.reduceAdd,Nat.reduceEqDiff,Nat.reduceLT,Nat.reduceMod,Nat.reducePow,Nat.reduceSub,if_true,reduceIte]
  refine ACalls.frame ([]) (hc2) rfl (by decide) (by simp [LM13,zar,zas,renL,AV.ren,AEnd.ren,zad str zah,zaq,List.getElem?_cons_zero,List.getElem?_cons_succ]) (by first | rfl | simp [LM13,zar,zas,renL,AV.ren,AEnd.ren,zad str zah,zaq,List.getElem?_cons_zero,List.getElem?_cons_succ]) ?_
  rintro _ _ ⟨rfl,rfl⟩
  refine⟨.ret (.ref 3 0 0 2),[.rw [.sl [str y.label,str y.box] 1,.sl [] 0,str h,i64 n],.rw [.lit (.slice none 0 0),.lit (.slice none 0 0),str [],i64 0],.rw [str y.label,str y.box],.rw []],(by show zas _ _ ([1,1,1,0]) ([1,1,1,0]) 0 _;simp [LM13,zar,zas,renL,AV.ren,AEnd.ren,zad str zah,zaq,List.getElem?_cons_zero,List.getElem?_cons_succ]),(by show AEnd.ren ([1,1,1,0]) _ _;first | rfl | simp [LM13,zar,zas,renL,AV.ren,AEnd.ren,zad str zah,zaq,List.getElem?_cons_zero,List.getElem?_cons_succ]),?_⟩
  try simp -implicitDefEqProofs only [LM6,eq_self,zab (h:=T68),zae,zac,zaa,zal,zaI,TB,SB,Int.reduceToNat,Nat.reduceAdd,Nat.reduceEqDiff,Nat.reduceLT,Nat.reduceMod,Nat.reducePow,Nat.reduceSub,if_true,reduceIte]
 refine wg_q [0,1,2] (.ptr 0 2) (by kernel_rfl) (by kernel_rfl) rfl (by kernel_rfl) ?_ ?_
 ·simp only [qAll,List.getD_cons_zero,List.getD_cons_succ]
  refine⟨?_,?_,?_,trivial⟩
  ·try simp -implicitDefEqProofs only [LM6,eq_self,zab (h:=T68),zae,zac,zaa,zal,zaI,TB,SB,Int.reduceToNat,Nat.reduceAdd,Nat.reduceEqDiff,Nat.reduceLT,Nat.reduceMod,Nat.reducePow,Nat.reduceSub,if_true,reduceIte]
  ·try simp -implicitDefEqProofs only [LM6,eq_self,zab (h:=T68),zae,zac,zaa,zal,zaI,TB,SB,Int.reduceToNat,Nat.reduceAdd,Nat.reduceEqDiff,Nat.reduceLT,Nat.reduceMod,Nat.reducePow,Nat.reduceSub,if_true,reduceIte]
  ·try simp -implicitDefEqProofs only [LM6,eq_self,zab (h:=T68),zae,zac,zaa,zal,zaI,TB,SB,Int.reduceToNat,Nat.reduceAdd,Nat.reduceEqDiff,Nat.reduceLT,Nat.reduceMod,Nat.reducePow,Nat.reduceSub,if_true,reduceIte]
 refine wg_q [0,1,2] (str h) (by kernel_rfl) (by kernel_rfl) rfl (by kernel_rfl) ?_ ?_
 ·simp only [qAll,List.getD_cons_zero,List.getD_cons_succ]
  refine⟨?_,?_,?_,trivial⟩
  ·try simp -implicitDefEqProofs only [LM6,eq_self,zab (h:=T68),zae,zac,zaa,zal,zaI,TB,SB,Int.reduceToNat,Nat.reduceAdd,Nat.reduceEqDiff,Nat.reduceLT,Nat.reduceMod,Nat.reducePow,Nat.reduceSub,if_true,reduceIte]
  ·try simp -implicitDefEqProofs only [LM6,eq_self,zab (h:=T68),zae,zac,zaa,zal,zaI,TB,SB,Int.reduceToNat,Nat.reduceAdd,Nat.reduceEqDiff,Nat.reduceLT,Nat.reduceMod,Nat.reducePow,Nat.reduceSub,if_true,reduceIte]
  ·try simp -implicitDefEqProofs only [LM6,eq_self,zab (h:=T68),zae,zac,zaa,zal,zaI,TB,SB,Int.reduceToNat,Nat.reduceAdd,Nat.reduceEqDiff,Nat.reduceLT,Nat.reduceMod,Nat.reducePow,Nat.reduceSub,if_true,reduceIte]
 refine wg_q [0,1,2] (.ptr 0 3) (by kernel_rfl) (by kernel_rfl) rfl (by kernel_rfl) ?_ ?_
 ·simp only [qAll,List.getD_cons_zero,List.getD_cons_succ]
  refine⟨?_,?_,?_,trivial⟩
  ·try simp -implicitDefEqProofs only [LM6,eq_self,zab (h:=T68),zae,zac,zaa,zal,zaI,TB,SB,Int.reduceToNat,Nat.reduceAdd,Nat.reduceEqDiff,Nat.reduceLT,Nat.reduceMod,Nat.reducePow,Nat.reduceSub,if_true,reduceIte]
  ·try simp -implicitDefEqProofs only [LM6,eq_self,zab (h:=T68),zae,zac,zaa,zal,zaI,TB,SB,Int.reduceToNat,Nat.reduceAdd,Nat.reduceEqDiff,Nat.reduceLT,Nat.reduceMod,Nat.reducePow,Nat.reduceSub,if_true,reduceIte]
  ·try simp -implicitDefEqProofs only [LM6,eq_self,zab (h:=T68),zae,zac,zaa,zal,zaI,TB,SB,Int.reduceToNat,Nat.reduceAdd,Nat.reduceEqDiff,Nat.reduceLT,Nat.reduceMod,Nat.reducePow,Nat.reduceSub,if_true,reduceIte]
 refine wg_q [0,1,2] (i64 n) (by kernel_rfl) (by kernel_rfl) rfl (by kernel_rfl) ?_ ?_
 ·simp only [qAll,List.getD_cons_zero,List.getD_cons_succ]
  refine⟨?_,?_,?_,trivial⟩
  ·try simp -implicitDefEqProofs only [LM6,eq_self,zab (h:=T68),zae,zac,zaa,zal,zaI,TB,SB,Int.reduceToNat,Nat.reduceAdd,Nat.reduceEqDiff,Nat.reduceLT,Nat.reduceMod,Nat.reducePow,Nat.reduceSub,if_true,reduceIte]
  ·try simp -implicitDefEqProofs only [LM6,eq_self,zab (h:=T68),zae,zac,zaa,zal,zaI,TB,SB,Int.reduceToNat,Nat.reduceAdd,Nat.reduceEqDiff,Nat.reduceLT,Nat.reduceMod,Nat.reducePow,Nat.reduceSub,if_true,reduceIte]
  ·try simp -implicitDefEqProofs only [LM6,eq_self,zab (h:=T68),zae,zac,zaa,zal,zaI,TB,SB,Int.reduceToNat,Nat.reduceAdd,Nat.reduceEqDiff,Nat.reduceLT,Nat.reduceMod,Nat.reducePow,Nat.reduceSub,if_true,reduceIte]
 refine wg_q [0,1,2] (.agg [.ref 2 0 1 2,.ref 3 0 0 2,str h,i64 n]) (by kernel_rfl) (by kernel_rfl) rfl (by kernel_rfl) ?_ ?_
 ·simp only [qAll,List.getD_cons_zero,List.getD_cons_succ]
  refine⟨?_,?_,?_,trivial⟩
  ·try simp -implicitDefEqProofs only [LM6,eq_self,zab (h:=T68),zae,zac,zaa,zal,zaI,TB,SB,Int.reduceToNat,Nat.reduceAdd,Nat.reduceEqDiff,Nat.reduceLT,Nat.reduceMod,Nat.reducePow,Nat.reduceSub,if_true,reduceIte]
  ·try simp -implicitDefEqProofs only [LM6,eq_self,zab (h:=T68),zae,zac,zaa,zal,zaI,TB,SB,Int.reduceToNat,Nat.reduceAdd,Nat.reduceEqDiff,Nat.reduceLT,Nat.reduceMod,Nat.reducePow,Nat.reduceSub,if_true,reduceIte]
  ·try simp -implicitDefEqProofs only [LM6,eq_self,zab (h:=T68),zae,zac,zaa,zal,zaI,TB,SB,Int.reduceToNat,Nat.reduceAdd,Nat.reduceEqDiff,Nat.reduceLT,Nat.reduceMod,Nat.reducePow,Nat.reduceSub,if_true,reduceIte]
 refine wg_f (by kernel_rfl) ?_
 refine wg_n (fun _=>?_)
 simp only [wgL,show (11 < 12) from by decide,if_true,List.length_cons,List.length_nil,Nat.zero_add,Nat.reduceAdd,List.getD_cons_zero,List.getD_cons_succ,List.drop_succ_cons,List.drop_zero]
 simp only [T24]
 rw [show zaL tySv.zero=[.lit (.slice none 0 0),.lit (.slice none 0 0),str [],i64 0] from rfl]
 try simp -implicitDefEqProofs only [LM6,eq_self,zab (h:=T68),zae,zac,zaa,zal,zaI,TB,SB,Int.reduceToNat,Nat.reduceAdd,Nat.reduceEqDiff,Nat.reduceLT,Nat.reduceMod,Nat.reducePow,Nat.reduceSub,if_true,reduceIte]
 refine ACalls.frame ([4,2,3]) (hd) rfl (by decide) (by simp [LM13,zar,zas,renL,AV.ren,AEnd.ren,zad str zah,zaq,List.getElem?_cons_zero,List.getElem?_cons_succ]) (by first | rfl | simp [LM13,zar,zas,renL,AV.ren,AEnd.ren,zad str zah,zaq,List.getElem?_cons_zero,List.getElem?_cons_succ]) ?_
 rintro _ _ ⟨rfl,rfl⟩
 refine⟨.ret (i64 0),[.rw [.sl [str y.label,str y.box] 1,.sl [] 0,str h,i64 n],.rw [.lit (.slice none 0 0),.lit (.slice none 0 0),str [],i64 0],.rw [str o.label,str o.box],.rw [],.rw [.ref 2 0 1 2,.ref 3 0 0 2,str (shaR (h++(putV [o]).1)),i64 (n+1)]],(by show zas _ _ ([3,3,1,2,0]) ([3,3,1,2,0]) 0 _;simp [LM13,zar,zas,renL,AV.ren,AEnd.ren,zad str zah,zaq,List.getElem?_cons_zero,List.getElem?_cons_succ]),(by show AEnd.ren ([3,3,1,2,0]) _ _;first | rfl | simp [LM13,zar,zas,renL,AV.ren,AEnd.ren,zad str zah,zaq,List.getElem?_cons_zero,List.getElem?_cons_succ]),?_⟩
 try simp -implicitDefEqProofs only [LM6,eq_self,zab (h:=T68),zae,zac,zaa,zal,zaI,TB,SB,Int.reduceToNat,Nat.reduceAdd,Nat.reduceEqDiff,Nat.reduceLT,Nat.reduceMod,Nat.reducePow,Nat.reduceSub,if_true,reduceIte]
 try simp -implicitDefEqProofs only [LM6,eq_self,zab (h:=T68),zae,zac,zaa,zal,zaI,show decide ((0:Int)=0)=true from rfl,TB,SB,Int.reduceToNat,Nat.reduceAdd,Nat.reduceEqDiff,Nat.reduceLT,Nat.reduceMod,Nat.reducePow,Nat.reduceSub,if_true,reduceIte]
 exact end_ap [⟨o.label,o.box⟩] [] rfl rfl rfl rfl rfl
set_option maxHeartbeats 3200000 in
theorem ap2_ok (o:Vo) (hk:o.kind=1) (hB:zbG [o]=true) (y:It) (hy:y.label < o.label) (h:List UInt8) (n:Int) (hC:chkS ⟨[y],[],h,n⟩=true) (hn:n < 1073741824):ACalls Tryz.prog 11 [svA ⟨[y],[],h,n⟩,.sl ([o].flatMap voC) 1] [] (fun z _=>z=.ret (.tup [svA ⟨[],[],[],0⟩,i64 6])):=by
 have hck:=zfn ⟨[y],[],h,n⟩ (by simp) (by simp)
 have hib:=zht [o]
 rw [hC,if_pos rfl] at hck
 rw [hB] at hib
 obtain⟨-,-,l3,l4,l5⟩:=zf3 hC
 have hd:=do2_ok o hk hB y hy [] h l3 n ⟨l4,hn⟩
 have hcl:=zd1 [y] (by simp)
 have hc2:=zd1 [] (by simp)
 simp only [zdF,zcj] at hck ⊢
 simp only [List.flatMap_cons,List.flatMap_nil,List.append_nil,zbC,List.length_nil,List.length_cons,Nat.zero_add] at hck hd hcl hc2 ⊢
 refine ACalls.body T_ok Tryz.func11 (by kernel_rfl) rfl Tryz.ntmps11 (congrArg Array.toList Tryz.results11) ?_
 try simp -implicitDefEqProofs only [LM6,eq_self,zab (h:=T68),zae,zac,zaa,zal,zaI,TB,SB,Int.reduceToNat,Nat.reduceAdd,Nat.reduceEqDiff,Nat.reduceLT,Nat.reduceMod,Nat.reducePow,Nat.reduceSub,if_true,reduceIte]
 refine hck.pure (by simp [renL,za2,AV.ren,zah,zag]) ?_
 rintro _ σ rfl
 refine⟨zag _ _,?_⟩
 try simp -implicitDefEqProofs only [LM6,eq_self,zab (h:=T68),zae,zac,zaa,zal,zaI,TB,SB,Int.reduceToNat,Nat.reduceAdd,Nat.reduceEqDiff,Nat.reduceLT,Nat.reduceMod,Nat.reducePow,Nat.reduceSub,if_true,reduceIte]
 refine hib.pure (by simp [renL,za2,AV.ren,zah,zag,voC]) ?_
 rintro _ σ rfl
 refine⟨zaG _ _,?_⟩
 try simp -implicitDefEqProofs only [LM6,eq_self,zab (h:=T68),zae,zac,zaa,zal,zaI,TB,SB,Int.reduceToNat,Nat.reduceAdd,Nat.reduceEqDiff,Nat.reduceLT,Nat.reduceMod,Nat.reducePow,Nat.reduceSub,if_true,reduceIte]
 refine zfV true [[.rw [.sl [str y.label,str y.box] 1,.sl [] 0,str h,i64 n],.rw [.lit (.slice none 0 0),.lit (.slice none 0 0),str [],i64 0]],[.rw [.sl [str y.label,str y.box] 1,.sl [] 0,str h,i64 n],.rw [.lit (.slice none 0 0),.lit (.slice none 0 0),str [],i64 0],.rw [str y.label,str y.box]],[.rw [.sl [str y.label,str y.box] 1,.sl [] 0,str h,i64 n],.rw [.lit (.slice none 0 0),.lit (.slice none 0 0),str [],i64 0],.rw [str y.label,str y.box],.rw []]] [2,5] 11 7 24 12 (by kernel_rfl) (by kernel_rfl) (by kernel_rfl) (fun _=>⟨_,T24⟩) rfl ?_
 simp only [List.take_succ_cons,List.take_zero]
 refine wg_q [0,1,2] (.ptr 0 0) (by kernel_rfl) (by kernel_rfl) rfl (by kernel_rfl) ?_ ?_
 ·simp only [qAll,List.getD_cons_zero,List.getD_cons_succ]
  refine⟨?_,?_,?_,trivial⟩
  ·try simp -implicitDefEqProofs only [LM6,eq_self,zab (h:=T68),zae,zac,zaa,zal,zaI,TB,SB,Int.reduceToNat,Nat.reduceAdd,Nat.reduceEqDiff,Nat.reduceLT,Nat.reduceMod,Nat.reducePow,Nat.reduceSub,if_true,reduceIte]
  ·try simp -implicitDefEqProofs only [LM6,eq_self,zab (h:=T68),zae,zac,zaa,zal,zaI,TB,SB,Int.reduceToNat,Nat.reduceAdd,Nat.reduceEqDiff,Nat.reduceLT,Nat.reduceMod,Nat.reducePow,Nat.reduceSub,if_true,reduceIte]
  ·try simp -implicitDefEqProofs only [LM6,eq_self,zab (h:=T68),zae,zac,zaa,zal,zaI,TB,SB,Int.reduceToNat,Nat.reduceAdd,Nat.reduceEqDiff,Nat.reduceLT,Nat.reduceMod,Nat.reducePow,Nat.reduceSub,if_true,reduceIte]
 refine wg_q [0,1,2] (.sl [str y.label,str y.box] 1) (by kernel_rfl) (by kernel_rfl) rfl (by kernel_rfl) ?_ ?_
 ·simp only [qAll,List.getD_cons_zero,List.getD_cons_succ]
  refine⟨?_,?_,?_,trivial⟩
  ·try simp -implicitDefEqProofs only [LM6,eq_self,zab (h:=T68),zae,zac,zaa,zal,zaI,TB,SB,Int.reduceToNat,Nat.reduceAdd,Nat.reduceEqDiff,Nat.reduceLT,Nat.reduceMod,Nat.reducePow,Nat.reduceSub,if_true,reduceIte]
  ·try simp -implicitDefEqProofs only [LM6,eq_self,zab (h:=T68),zae,zac,zaa,zal,zaI,TB,SB,Int.reduceToNat,Nat.reduceAdd,Nat.reduceEqDiff,Nat.reduceLT,Nat.reduceMod,Nat.reducePow,Nat.reduceSub,if_true,reduceIte]
  ·try simp -implicitDefEqProofs only [LM6,eq_self,zab (h:=T68),zae,zac,zaa,zal,zaI,TB,SB,Int.reduceToNat,Nat.reduceAdd,Nat.reduceEqDiff,Nat.reduceLT,Nat.reduceMod,Nat.reducePow,Nat.reduceSub,if_true,reduceIte]
 refine wg_c (.ref 2 0 1 2) (by kernel_rfl) (by kernel_rfl) ?_ ?_
 ·simp only [show ([2,5]:List Nat).idxOf 2=0 from rfl,Nat.zero_add,List.getD_cons_zero,List.getD_cons_succ]
  try simp -implicitDefEqProofs only [LM6,eq_self,zab (h:=T68),zae,zac,zaa,zal,zaI,TB,SB,Int.reduceToNat,Nat.reduceAdd,Nat.reduceEqDiff,Nat.reduceLT,Nat.reduceMod,Nat.reducePow,Nat.reduceSub,if_true,reduceIte]
  refine ACalls.frame ([]) (hcl) rfl (by decide) (by simp [LM13,zar,zas,renL,AV.ren,AEnd.ren,zad str zah,zaq,List.getElem?_cons_zero,List.getElem?_cons_succ]) (by first | rfl | simp [LM13,zar,zas,renL,AV.ren,AEnd.ren,zad str zah,zaq,List.getElem?_cons_zero,List.getElem?_cons_succ]) ?_
  rintro _ _ ⟨rfl,rfl⟩
  refine⟨.ret (.ref 2 0 1 2),[.rw [.sl [str y.label,str y.box] 1,.sl [] 0,str h,i64 n],.rw [.lit (.slice none 0 0),.lit (.slice none 0 0),str [],i64 0],.rw [str y.label,str y.box]],(by show zas _ _ ([1,1,0]) ([1,1,0]) 0 _;simp [LM13,zar,zas,renL,AV.ren,AEnd.ren,zad str zah,zaq,List.getElem?_cons_zero,List.getElem?_cons_succ]),(by show AEnd.ren ([1,1,0]) _ _;first | rfl | simp [LM13,zar,zas,renL,AV.ren,AEnd.ren,zad str zah,zaq,List.getElem?_cons_zero,List.getElem?_cons_succ]),?_⟩
  try simp -implicitDefEqProofs only [LM6,eq_self,zab (h:=T68),zae,zac,zaa,zal,zaI,TB,SB,Int.reduceToNat,Nat.reduceAdd,Nat.reduceEqDiff,Nat.reduceLT,Nat.reduceMod,Nat.reducePow,Nat.reduceSub,if_true,reduceIte]
 refine wg_q [0,1,2] (.ptr 0 1) (by kernel_rfl) (by kernel_rfl) rfl (by kernel_rfl) ?_ ?_
 ·simp only [qAll,List.getD_cons_zero,List.getD_cons_succ]
  refine⟨?_,?_,?_,trivial⟩
  ·try simp -implicitDefEqProofs only [LM6,eq_self,zab (h:=T68),zae,zac,zaa,zal,zaI,TB,SB,Int.reduceToNat,Nat.reduceAdd,Nat.reduceEqDiff,Nat.reduceLT,Nat.reduceMod,Nat.reducePow,Nat.reduceSub,if_true,reduceIte]
  ·try simp -implicitDefEqProofs only [LM6,eq_self,zab (h:=T68),zae,zac,zaa,zal,zaI,TB,SB,Int.reduceToNat,Nat.reduceAdd,Nat.reduceEqDiff,Nat.reduceLT,Nat.reduceMod,Nat.reducePow,Nat.reduceSub,if_true,reduceIte]
  ·try simp -implicitDefEqProofs only [LM6,eq_self,zab (h:=T68),zae,zac,zaa,zal,zaI,TB,SB,Int.reduceToNat,Nat.reduceAdd,Nat.reduceEqDiff,Nat.reduceLT,Nat.reduceMod,Nat.reducePow,Nat.reduceSub,if_true,reduceIte]
 refine wg_q [0,1,2] (.sl [] 0) (by kernel_rfl) (by kernel_rfl) rfl (by kernel_rfl) ?_ ?_
 ·simp only [qAll,List.getD_cons_zero,List.getD_cons_succ]
  refine⟨?_,?_,?_,trivial⟩
  ·try simp -implicitDefEqProofs only [LM6,eq_self,zab (h:=T68),zae,zac,zaa,zal,zaI,TB,SB,Int.reduceToNat,Nat.reduceAdd,Nat.reduceEqDiff,Nat.reduceLT,Nat.reduceMod,Nat.reducePow,Nat.reduceSub,if_true,reduceIte]
  ·try simp -implicitDefEqProofs only [LM6,eq_self,zab (h:=T68),zae,zac,zaa,zal,zaI,TB,SB,Int.reduceToNat,Nat.reduceAdd,Nat.reduceEqDiff,Nat.reduceLT,Nat.reduceMod,Nat.reducePow,Nat.reduceSub,if_true,reduceIte]
  ·try simp -implicitDefEqProofs only [LM6,eq_self,zab (h:=T68),zae,zac,zaa,zal,zaI,TB,SB,Int.reduceToNat,Nat.reduceAdd,Nat.reduceEqDiff,Nat.reduceLT,Nat.reduceMod,Nat.reducePow,Nat.reduceSub,if_true,reduceIte]
 refine wg_c (.ref 3 0 0 2) (by kernel_rfl) (by kernel_rfl) ?_ ?_
 ·simp only [show ([2,5]:List Nat).idxOf 5=1 from rfl,Nat.zero_add,List.getD_cons_zero,List.getD_cons_succ]
  try simp -implicitDefEqProofs only [LM6,eq_self,zab (h:=T68),zae,zac,zaa,zal,zaI,TB,SB,Int.reduceToNat,Nat.reduceAdd,Nat.reduceEqDiff,Nat.reduceLT,Nat.reduceMod,Nat.reducePow,Nat.reduceSub,if_true,reduceIte]
  refine ACalls.frame ([]) (hc2) rfl (by decide) (by simp [LM13,zar,zas,renL,AV.ren,AEnd.ren,zad str zah,zaq,List.getElem?_cons_zero,List.getElem?_cons_succ]) (by first | rfl | simp [LM13,zar,zas,renL,AV.ren,AEnd.ren,zad str zah,zaq,List.getElem?_cons_zero,List.getElem?_cons_succ]) ?_
  rintro _ _ ⟨rfl,rfl⟩
  refine⟨.ret (.ref 3 0 0 2),[.rw [.sl [str y.label,str y.box] 1,.sl [] 0,str h,i64 n],.rw [.lit (.slice none 0 0),.lit (.slice none 0 0),str [],i64 0],.rw [str y.label,str y.box],.rw []],(by show zas _ _ ([1,1,1,0]) ([1,1,1,0]) 0 _;simp [LM13,zar,zas,renL,AV.ren,AEnd.ren,zad str zah,zaq,List.getElem?_cons_zero,List.getElem?_cons_succ]),(by show AEnd.ren ([1,1,1,0]) _ _;first | rfl | simp [LM13,zar,zas,renL,AV.ren,AEnd.ren,zad str zah,zaq,List.getElem?_cons_zero,List.getElem?_cons_succ]),?_⟩
  try simp -implicitDefEqProofs only [LM6,eq_self,zab (h:=T68),zae,zac,zaa,zal,zaI,TB,SB,Int.reduceToNat,Nat.reduceAdd,Nat.reduceEqDiff,Nat.reduceLT,Nat.reduceMod,Nat.reducePow,Nat.reduceSub,if_true,reduceIte]
 refine wg_q [0,1,2] (.ptr 0 2) (by kernel_rfl) (by kernel_rfl) rfl (by kernel_rfl) ?_ ?_
 ·simp only [qAll,List.getD_cons_zero,List.getD_cons_succ]
  refine⟨?_,?_,?_,trivial⟩
  ·try simp -implicitDefEqProofs only [LM6,eq_self,zab (h:=T68),zae,zac,zaa,zal,zaI,TB,SB,Int.reduceToNat,Nat.reduceAdd,Nat.reduceEqDiff,Nat.reduceLT,Nat.reduceMod,Nat.reducePow,Nat.reduceSub,if_true,reduceIte]
  ·try simp -implicitDefEqProofs only [LM6,eq_self,zab (h:=T68),zae,zac,zaa,zal,zaI,TB,SB,Int.reduceToNat,Nat.reduceAdd,Nat.reduceEqDiff,Nat.reduceLT,Nat.reduceMod,Nat.reducePow,Nat.reduceSub,if_true,reduceIte]
  ·try simp -implicitDefEqProofs only [LM6,eq_self,zab (h:=T68),zae,zac,zaa,zal,zaI,TB,SB,Int.reduceToNat,Nat.reduceAdd,Nat.reduceEqDiff,Nat.reduceLT,Nat.reduceMod,Nat.reducePow,Nat.reduceSub,if_true,reduceIte]
 refine wg_q [0,1,2] (str h) (by kernel_rfl) (by kernel_rfl) rfl (by kernel_rfl) ?_ ?_
 ·simp only [qAll,List.getD_cons_zero,List.getD_cons_succ]
  refine⟨?_,?_,?_,trivial⟩
  ·try simp -implicitDefEqProofs only [LM6,eq_self,zab (h:=T68),zae,zac,zaa,zal,zaI,TB,SB,Int.reduceToNat,Nat.reduceAdd,Nat.reduceEqDiff,Nat.reduceLT,Nat.reduceMod,Nat.reducePow,Nat.reduceSub,if_true,reduceIte]
  ·try simp -implicitDefEqProofs only [LM6,eq_self,zab (h:=T68),zae,zac,zaa,zal,zaI,TB,SB,Int.reduceToNat,Nat.reduceAdd,Nat.reduceEqDiff,Nat.reduceLT,Nat.reduceMod,Nat.reducePow,Nat.reduceSub,if_true,reduceIte]
  ·try simp -implicitDefEqProofs only [LM6,eq_self,zab (h:=T68),zae,zac,zaa,zal,zaI,TB,SB,Int.reduceToNat,Nat.reduceAdd,Nat.reduceEqDiff,Nat.reduceLT,Nat.reduceMod,Nat.reducePow,Nat.reduceSub,if_true,reduceIte]
 refine wg_q [0,1,2] (.ptr 0 3) (by kernel_rfl) (by kernel_rfl) rfl (by kernel_rfl) ?_ ?_
 ·simp only [qAll,List.getD_cons_zero,List.getD_cons_succ]
  refine⟨?_,?_,?_,trivial⟩
  ·try simp -implicitDefEqProofs only [LM6,eq_self,zab (h:=T68),zae,zac,zaa,zal,zaI,TB,SB,Int.reduceToNat,Nat.reduceAdd,Nat.reduceEqDiff,Nat.reduceLT,Nat.reduceMod,Nat.reducePow,Nat.reduceSub,if_true,reduceIte]
  ·try simp -implicitDefEqProofs only [LM6,eq_self,zab (h:=T68),zae,zac,zaa,zal,zaI,TB,SB,Int.reduceToNat,Nat.reduceAdd,Nat.reduceEqDiff,Nat.reduceLT,Nat.reduceMod,Nat.reducePow,Nat.reduceSub,if_true,reduceIte]
  ·try simp -implicitDefEqProofs only [LM6,eq_self,zab (h:=T68),zae,zac,zaa,zal,zaI,TB,SB,Int.reduceToNat,Nat.reduceAdd,Nat.reduceEqDiff,Nat.reduceLT,Nat.reduceMod,Nat.reducePow,Nat.reduceSub,if_true,reduceIte]
 refine wg_q [0,1,2] (i64 n) (by kernel_rfl) (by kernel_rfl) rfl (by kernel_rfl) ?_ ?_
 ·simp only [qAll,List.getD_cons_zero,List.getD_cons_succ]
  refine⟨?_,?_,?_,trivial⟩
  ·try simp -implicitDefEqProofs only [LM6,eq_self,zab (h:=T68),zae,zac,zaa,zal,zaI,TB,SB,Int.reduceToNat,Nat.reduceAdd,Nat.reduceEqDiff,Nat.reduceLT,Nat.reduceMod,Nat.reducePow,Nat.reduceSub,if_true,reduceIte]
  ·try simp -implicitDefEqProofs only [LM6,eq_self,zab (h:=T68),zae,zac,zaa,zal,zaI,TB,SB,Int.reduceToNat,Nat.reduceAdd,Nat.reduceEqDiff,Nat.reduceLT,Nat.reduceMod,Nat.reducePow,Nat.reduceSub,if_true,reduceIte]
  ·try simp -implicitDefEqProofs only [LM6,eq_self,zab (h:=T68),zae,zac,zaa,zal,zaI,TB,SB,Int.reduceToNat,Nat.reduceAdd,Nat.reduceEqDiff,Nat.reduceLT,Nat.reduceMod,Nat.reducePow,Nat.reduceSub,if_true,reduceIte]
 refine wg_q [0,1,2] (.agg [.ref 2 0 1 2,.ref 3 0 0 2,str h,i64 n]) (by kernel_rfl) (by kernel_rfl) rfl (by kernel_rfl) ?_ ?_
 ·simp only [qAll,List.getD_cons_zero,List.getD_cons_succ]
  refine⟨?_,?_,?_,trivial⟩
  ·try simp -implicitDefEqProofs only [LM6,eq_self,zab (h:=T68),zae,zac,zaa,zal,zaI,TB,SB,Int.reduceToNat,Nat.reduceAdd,Nat.reduceEqDiff,Nat.reduceLT,Nat.reduceMod,Nat.reducePow,Nat.reduceSub,if_true,reduceIte]
  ·try simp -implicitDefEqProofs only [LM6,eq_self,zab (h:=T68),zae,zac,zaa,zal,zaI,TB,SB,Int.reduceToNat,Nat.reduceAdd,Nat.reduceEqDiff,Nat.reduceLT,Nat.reduceMod,Nat.reducePow,Nat.reduceSub,if_true,reduceIte]
  ·try simp -implicitDefEqProofs only [LM6,eq_self,zab (h:=T68),zae,zac,zaa,zal,zaI,TB,SB,Int.reduceToNat,Nat.reduceAdd,Nat.reduceEqDiff,Nat.reduceLT,Nat.reduceMod,Nat.reducePow,Nat.reduceSub,if_true,reduceIte]
 refine wg_f (by kernel_rfl) ?_
 refine wg_n (fun _=>?_)
 simp only [wgL,show (11 < 12) from by decide,if_true,List.length_cons,List.length_nil,Nat.zero_add,Nat.reduceAdd,List.getD_cons_zero,List.getD_cons_succ,List.drop_succ_cons,List.drop_zero]
 simp only [T24]
 rw [show zaL tySv.zero=[.lit (.slice none 0 0),.lit (.slice none 0 0),str [],i64 0] from rfl]
 try simp -implicitDefEqProofs only [LM6,eq_self,zab (h:=T68),zae,zac,zaa,zal,zaI,TB,SB,Int.reduceToNat,Nat.reduceAdd,Nat.reduceEqDiff,Nat.reduceLT,Nat.reduceMod,Nat.reducePow,Nat.reduceSub,if_true,reduceIte]
 refine ACalls.frame ([4,2,3]) (hd) rfl (by decide) (by simp [LM13,zar,zas,renL,AV.ren,AEnd.ren,zad str zah,zaq,List.getElem?_cons_zero,List.getElem?_cons_succ]) (by first | rfl | simp [LM13,zar,zas,renL,AV.ren,AEnd.ren,zad str zah,zaq,List.getElem?_cons_zero,List.getElem?_cons_succ]) ?_
 rintro _ _ ⟨rfl,rfl⟩
 refine⟨.ret (i64 6),[.rw [.sl [str y.label,str y.box] 1,.sl [] 0,str h,i64 n],.rw [.lit (.slice none 0 0),.lit (.slice none 0 0),str [],i64 0],.dead,.rw [],.rw [.ref 2 0 1 2,.ref 3 0 0 2,str h,i64 n]],(by show zas _ _ ([3,3,1,2,0]) ([3,3,1,2,0]) 0 _;simp [LM13,zar,zas,renL,AV.ren,AEnd.ren,zad str zah,zaq,List.getElem?_cons_zero,List.getElem?_cons_succ]),(by show AEnd.ren ([3,3,1,2,0]) _ _;first | rfl | simp [LM13,zar,zas,renL,AV.ren,AEnd.ren,zad str zah,zaq,List.getElem?_cons_zero,List.getElem?_cons_succ]),?_⟩
 try simp -implicitDefEqProofs only [LM6,eq_self,zab (h:=T68),zae,zac,zaa,zal,zaI,TB,SB,Int.reduceToNat,Nat.reduceAdd,Nat.reduceEqDiff,Nat.reduceLT,Nat.reduceMod,Nat.reducePow,Nat.reduceSub,if_true,reduceIte]
 try simp -implicitDefEqProofs only [LM6,eq_self,zab (h:=T68),zae,zac,zaa,zal,zaI,show decide ((6:Int)=0)=false from rfl,TB,SB,Int.reduceToNat,Nat.reduceAdd,Nat.reduceEqDiff,Nat.reduceLT,Nat.reduceMod,Nat.reducePow,Nat.reduceSub,if_true,reduceIte]
 refine⟨fun _=>end_sv6 ?_,fun h=>absurd h (by decide)⟩
 rfl
end Go.Proofs.YtdmiflfhaobngaaGreatDoor
end

section
namespace Go.Proofs.YtdmiflfhaobngaaGreatDoor
open Go Go.Eng
def oneO:Vo:=⟨0,[97],[49]⟩
def twoO:Vo:=⟨1,[98],[]⟩
def oneI:It:=⟨[97],[49]⟩
theorem ch0 (h:List UInt8) (n:Int) (h1:h.length=32) (h2:0≤n) (h3:n≤1073741824):chkS ⟨[],[],h,n⟩=true:=by
 simp only [chkS,h1,decide_eq_true h2,decide_eq_true h3]
 decide
theorem ch1 (h:List UInt8) (n:Int) (h1:h.length=32) (h2:0≤n) (h3:n≤1073741824):chkS ⟨[oneI],[],h,n⟩=true:=by
 simp only [chkS,h1,decide_eq_true h2,decide_eq_true h3]
 decide
theorem b1:zbG [oneO]=true:=by decide
theorem b2:zbG [twoO]=true:=by decide
theorem zgk (s:Sv) (e:Int) (q:List Nat):(AV.tup [svA s,i64 e]).ren q=some (.tup [svA s,i64 e]):=by simp [AV.ren,renL,zdN,zag]
theorem noid_SB (a:List UInt8) (b:Bool) (q:List Nat):(AV.tup [str a,bl b]).ren q=some (.tup [str a,bl b]):=by simp [AV.ren,renL,zaG,zah]
section
variable {σ : zai} {K : AV → Prop} {KS : AV → zai → Prop} {id : Nat}
theorem zdx (l b:List UInt8):za3 T 66 [(1,str l),(2,str b)] K=K (.agg [i64 0,str l,str b]):=by
 simp [za3,T66,T3,T9,tyVo,zbE,zaL,zcL,zcB,zct,zae,zbe,zbM,tyStr]
 rfl
theorem zdy (k:Int) (l:List UInt8):za3 T 66 [(0,i64 k),(1,str l)] K=K (.agg [i64 k,str l,str []]):=by
 simp [za3,T66,T3,T9,tyVo,zbE,zaL,zcL,zcB,zct,zae,zbe,zbM,tyStr]
 rfl
theorem zdz (k:Int) (l b:List UInt8):bs2 (some tyVo) 1 [(0,.agg [i64 k,str l,str b])] σ KS=KS (.ref σ.length 0 1 3) (σ++[.rw ([(⟨k,l,b⟩:Vo)].flatMap voC)]):=by
 simp [bs2,tyVo,zbE,zbU,AV.cells,zbe,List.range_succ,List.replicate,zae,zcB,voC]
end
theorem bn_vo_one {K:AV→Prop}:wbin T .eql 66 (.agg [i64 oneO.kind,str oneO.label,str oneO.box]) (.agg [i64 0,str [97],str [49]]) K=K (bl true):=by
 apply propext
 constructor
 ·rintro⟨q,hq,hk⟩
  have:=eqPv_vo (a:=oneO) (b:=oneO) hq
  rw [this] at hk
  exact hk
 ·exact fun hk=>⟨_,eqP_vo oneO oneO,hk⟩
theorem zbH {K:AV→Prop} (id off n:Nat) (k:Int):ia3 (some tyVo) (.ref id off n 3) k K=(0≤k∧k < n∧K (.ptr id (off+k.toNat * 3))):=by
 simp [ia3,tyVo]
theorem app1 (h:List UInt8) (hh:h.length=32):ACalls Tryz.prog 11 [svA ⟨[],[],h,0⟩,.sl ([oneO].flatMap voC) 1] [] (fun y _=>y=.ret (.tup [svA ⟨[oneI],[],shaR (h++(putV [oneO]).1),1⟩,i64 0])):=ap0_ok oneO rfl b1 h 0 (ch0 h 0 hh (by decide) (by decide)) (by decide)
theorem app2 (h:List UInt8) (hh:h.length=32):ACalls Tryz.prog 11 [svA ⟨[oneI],[],h,1⟩,.sl ([oneO].flatMap voC) 1] [] (fun y _=>y=.ret (.tup [svA ⟨[oneI],[],shaR (h++(putV [oneO]).1),2⟩,i64 0])):=ap1_ok oneO rfl b1 oneI rfl h 1 (ch1 h 1 hh (by decide) (by decide)) (by decide)
theorem app3 (h:List UInt8) (hh:h.length=32):ACalls Tryz.prog 11 [svA ⟨[oneI],[],h,2⟩,.sl ([twoO].flatMap voC) 1] [] (fun y _=>y=.ret (.tup [svA s0,i64 6])):=ap2_ok twoO rfl b2 oneI (by decide) h 2 (ch1 h 2 hh (by decide) (by decide)) (by decide)
theorem frz_sv {σ:zai} (s:Sv):frzA σ (svA s) (svA s):=⟨_,rfl,_,_,rfl,rfl,_,_,rfl,rfl,_,_,rfl,.inl rfl,_,_,rfl,.inl rfl,rfl⟩
theorem noid_a2 (s:Sv) (l:List Vo) (q:List Nat):renL q [svA s,slV l]=some [svA s,slV l]:=by simp [renL,zdN,zfl]
theorem noid_h1 (h:List UInt8) (l:List Vo) (q:List Nat):renL q [str h,slV l]=some [str h,slV l]:=by simp [renL,zah,zfl]
theorem zg0 (l:List Vo) (q:List Nat):renL q [slV l]=some [slV l]:=by simp [renL,zfl]
theorem noid_a1 (s:Sv) (q:List Nat):renL q [svA s]=some [svA s]:=by simp [renL,zdN]
theorem noid_aa (s t:Sv) (q:List Nat):renL q [svA s,svA t]=some [svA s,svA t]:=by simp [renL,zdN]
set_option maxRecDepth 20000 in
set_option maxHeartbeats 3200000 in
theorem works18_ok:ACalls Tryz.prog 8 [] [] (fun y _=>y=.ret (bl true)):=by
 have hH0:(shaR []).length=32:=zdw _
 have hnw:=vnew_ok
 generalize shaR []=H0 at hH0 hnw
 have hA1:=app1 H0 hH0
 have hP:=zhX [oneO]
 have hPg:=getV_put b1
 have hPl:(putV [oneO]).1.length≤1000:=by decide +kernel
 have hP0:(putV [oneO]).2=0:=by decide +kernel
 have hN:=zfJ H0 [oneO] (by omega)
 unfold zg7 at hN
 rw [b1,if_pos rfl] at hN
 rw [hP0] at hP
 generalize hpe:(putV [oneO]).1=p at hA1 hP hPg hPl hN
 have hsum:=zeD (H0++p) (by simp;omega)
 have hH1:(shaR (H0++p)).length=32:=zdw _
 generalize shaR (H0++p)=H1 at hA1 hN hsum hH1
 have hA2:=app2 H1 hH1
 rw [hpe] at hA2
 have hH2:(shaR (H1++p)).length=32:=zdw _
 generalize shaR (H1++p)=H2 at hA2 hH2
 have hA3:=app3 H2 hH2
 have hC2:=ch1 H2 2 hH2 (by decide) (by decide)
 have hBy:=vbytes_ok ⟨[oneI],[],H2,2⟩ (by simp) (by simp)
 have hRd:=readS_put hC2
 have hBs:zek ⟨[oneI],[],H2,2⟩=((zek ⟨[oneI],[],H2,2⟩).1,0):=by simp only [zek,hC2,if_true]
 have hBl:(zek ⟨[oneI],[],H2,2⟩).1.length≤1000000:=by
  simp only [zek,hC2,if_true]
  have h1:=svT_le hC2
  have h2:=zeE _ h1.2.1
  have h3:(svT ⟨[oneI],[],H2,2⟩).length=5:=rfl
  rw [h3] at h2
  omega
 rw [hBs] at hBy
 generalize (zek ⟨[oneI],[],H2,2⟩).1=c at hBy hRd hBl
 refine ACalls.body T_ok Tryz.func8 (by kernel_rfl) rfl Tryz.ntmps8 (congrArg Array.toList Tryz.results8) ?_
 try simp -implicitDefEqProofs only [LM6,eq_self,zab (h:=T68),zae,zac,zaa,zal,zdx,zdy,zdz,zbH,TB,SB,Int.reduceToNat,Nat.reduceAdd,Nat.reduceEqDiff,Nat.reduceLT,Nat.reduceMod,Nat.reducePow,Nat.reduceSub,if_true,reduceIte]
 refine hnw.pure rfl ?_
 rintro _ σ rfl
 refine⟨zdN _ _,?_⟩
 simp only [zdF,zcj]
 try simp -implicitDefEqProofs only [LM6,eq_self,zab (h:=T68),zae,zac,zaa,zal,zdx,zdy,zdz,zbH,TB,SB,Int.reduceToNat,Nat.reduceAdd,Nat.reduceEqDiff,Nat.reduceLT,Nat.reduceMod,Nat.reducePow,Nat.reduceSub,if_true,reduceIte]
 refine ACalls.frz [1] (l':=[svA ⟨[],[],H0,0⟩,slV [oneO]]) ⟨_,_,rfl,frz_sv ⟨[],[],H0,0⟩,_,_,rfl,voF.frz (l:=[oneO]) rfl rfl,rfl⟩ ?_
 refine(hA1:ACalls _ _ [svA ⟨[],[],H0,0⟩,slV [oneO]] _ _).pure (noid_a2 _ _ _) ?_
 rintro _ σ rfl
 refine⟨zgk _ _ _,?_⟩
 simp only [zdF,zcj]
 simp only [zcE,List.getElem?_cons_zero,List.getElem?_cons_succ,List.set_cons_zero,List.set_cons_succ]
 try simp -implicitDefEqProofs only [LM6,eq_self,zab (h:=T68),zae,zac,zaa,zal,zdx,zdy,zdz,zbH,TB,SB,Int.reduceToNat,Nat.reduceAdd,Nat.reduceEqDiff,Nat.reduceLT,Nat.reduceMod,Nat.reducePow,Nat.reduceSub,if_true,reduceIte]
 refine ACalls.frz [] (l':=[svA ⟨[oneI],[],H1,1⟩,slV [oneO]]) ⟨_,_,rfl,frz_sv ⟨[oneI],[],H1,1⟩,_,_,rfl,voF.frz (l:=[oneO]) rfl rfl,rfl⟩ ?_
 refine(hA2:ACalls _ _ [svA ⟨[oneI],[],H1,1⟩,slV [oneO]] _ _).pure (noid_a2 _ _ _) ?_
 rintro _ σ rfl
 refine⟨zgk _ _ _,?_⟩
 simp only [zdF,zcj]
 simp only [zcE,List.getElem?_cons_zero,List.getElem?_cons_succ,List.set_cons_zero,List.set_cons_succ]
 try simp -implicitDefEqProofs only [LM6,eq_self,zab (h:=T68),zae,zac,zaa,zal,zdx,zdy,zdz,zbH,TB,SB,Int.reduceToNat,Nat.reduceAdd,Nat.reduceEqDiff,Nat.reduceLT,Nat.reduceMod,Nat.reducePow,Nat.reduceSub,if_true,reduceIte]
 refine ACalls.frz [4] (l':=[svA ⟨[oneI],[],H2,2⟩,slV [twoO]]) ⟨_,_,rfl,frz_sv ⟨[oneI],[],H2,2⟩,_,_,rfl,voF.frz (l:=[twoO]) rfl rfl,rfl⟩ ?_
 refine(hA3:ACalls _ _ [svA ⟨[oneI],[],H2,2⟩,slV [twoO]] _ _).pure (noid_a2 _ _ _) ?_
 rintro _ σ rfl
 refine⟨zgk _ _ _,?_⟩
 simp only [zdF,zcj,s0]
 simp only [zcE,List.getElem?_cons_zero,List.getElem?_cons_succ,List.set_cons_zero,List.set_cons_succ]
 try simp -implicitDefEqProofs only [LM6,eq_self,zab (h:=T68),zae,zac,zaa,zal,zdx,zdy,zdz,zbH,TB,SB,Int.reduceToNat,Nat.reduceAdd,Nat.reduceEqDiff,Nat.reduceLT,Nat.reduceMod,Nat.reducePow,Nat.reduceSub,if_true,reduceIte]
 refine ACalls.frz [] (l':=[slV [oneO]]) ⟨_,_,rfl,voF.frz (l:=[oneO]) rfl rfl,rfl⟩ ?_
 refine(hP:ACalls _ _ [slV [oneO]] _ _).pure (zg0 _ _) ?_
 rintro _ σ rfl
 refine⟨zcN _ _ _,?_⟩
 simp only [zcE]
 try simp -implicitDefEqProofs only [LM6,eq_self,zab (h:=T68),zae,zac,zaa,zal,zdx,zdy,zdz,zbH,TB,SB,Int.reduceToNat,Nat.reduceAdd,Nat.reduceEqDiff,Nat.reduceLT,Nat.reduceMod,Nat.reducePow,Nat.reduceSub,if_true,reduceIte]
 refine(vget_ok p (by omega)).pure (by simp [renL,zah]) ?_
 rintro _ σ rfl
 refine⟨noid_VE _ _ _,?_⟩
 rw [hPg]
 simp only [zgU]
 try simp -implicitDefEqProofs only [LM6,eq_self,zab (h:=T68),zae,zac,zaa,zal,zdx,zdy,zdz,zbH,TB,SB,Int.reduceToNat,Nat.reduceAdd,Nat.reduceEqDiff,Nat.reduceLT,Nat.reduceMod,Nat.reducePow,Nat.reduceSub,if_true,reduceIte]
 refine ACalls.frz [] (l':=[str H0,slV [oneO]]) ⟨_,_,rfl,.inl rfl,_,_,rfl,voF.frz (l:=[oneO]) rfl rfl,rfl⟩ ?_
 refine(hN:ACalls _ _ [str H0,slV [oneO]] _ _).pure (noid_h1 _ _ _) ?_
 rintro _ σ rfl
 refine⟨zcN _ _ _,?_⟩
 simp only [zcE]
 try simp -implicitDefEqProofs only [LM6,eq_self,zab (h:=T68),zae,zac,zaa,zal,zdx,zdy,zdz,zbH,TB,SB,Int.reduceToNat,Nat.reduceAdd,Nat.reduceEqDiff,Nat.reduceLT,Nat.reduceMod,Nat.reducePow,Nat.reduceSub,if_true,reduceIte]
 refine(hBy:ACalls _ _ [svA ⟨[oneI],[],H2,2⟩] _ _).pure (noid_a1 _ _) ?_
 rintro _ σ rfl
 refine⟨zcN _ _ _,?_⟩
 try simp -implicitDefEqProofs only [LM6,eq_self,zab (h:=T68),zae,zac,zaa,zal,zdx,zdy,zdz,zbH,TB,SB,Int.reduceToNat,Nat.reduceAdd,Nat.reduceEqDiff,Nat.reduceLT,Nat.reduceMod,Nat.reducePow,Nat.reduceSub,if_true,reduceIte]
 refine(vread_ok c hBl).pure (by simp [renL,zah]) ?_
 rintro _ σ rfl
 refine⟨zgk _ _ _,?_⟩
 rw [hRd]
 simp only [zdF,zcj]
 try simp -implicitDefEqProofs only [LM6,eq_self,zab (h:=T68),zae,zac,zaa,zal,zdx,zdy,zdz,zbH,TB,SB,Int.reduceToNat,Nat.reduceAdd,Nat.reduceEqDiff,Nat.reduceLT,Nat.reduceMod,Nat.reducePow,Nat.reduceSub,if_true,reduceIte]
 refine(vfind_ok [oneI] [97] (by decide)).pure (by simp [renL,zah,AV.ren,za2,oneI,itC]) ?_
 rintro _ σ rfl
 refine⟨noid_SB _ _ _,?_⟩
 rw [show zh2 [oneI] [97]=([49],true) by decide]
 try simp -implicitDefEqProofs only [LM6,eq_self,zab (h:=T68),zae,zac,zaa,zal,zdx,zdy,zdz,zbH,TB,SB,Int.reduceToNat,Nat.reduceAdd,Nat.reduceEqDiff,Nat.reduceLT,Nat.reduceMod,Nat.reducePow,Nat.reduceSub,if_true,reduceIte]
 simp only [List.append_eq,List.cons_append,List.nil_append]
 try simp -implicitDefEqProofs only [LM6,eq_self,zab (h:=T68),zae,zac,zaa,zal,zdx,zdy,zdz,zbH,TB,SB,Int.reduceToNat,Nat.reduceAdd,Nat.reduceEqDiff,Nat.reduceLT,Nat.reduceMod,Nat.reducePow,Nat.reduceSub,if_true,reduceIte]
 refine zcs (by kernel_rfl) (by kernel_rfl) ?_
 try simp -implicitDefEqProofs only [LM6,eq_self,zab (h:=T68),zae,zac,zaa,zal,zdx,zdy,zdz,zbH,show decide (((1:Nat):Int)=1)=true from rfl,show decide ((0:Int)=0)=true from rfl,show decide ((2:Int)=2)=true from rfl,show decide ((6:Int)=6)=true from rfl,TB,SB,Int.reduceToNat,Nat.reduceAdd,Nat.reduceEqDiff,Nat.reduceLT,Nat.reduceMod,Nat.reducePow,Nat.reduceSub,if_true,reduceIte]
 refine⟨by decide,by decide,by decide,?_⟩
 try simp -implicitDefEqProofs only [LM6,eq_self,zab (h:=T68),zae,zac,zaa,zal,zdx,zdy,zdz,zbH,TB,SB,Int.reduceToNat,Nat.reduceAdd,Nat.reduceEqDiff,Nat.reduceLT,Nat.reduceMod,Nat.reducePow,Nat.reduceSub,if_true,reduceIte]
 refine⟨by decide,by decide,?_⟩
 rw [Nat.zero_mul]
 try simp -implicitDefEqProofs only [LM6,eq_self,zab (h:=T68),zae,zac,zaa,zal,zdx,zdy,zdz,zbH,show decide ((0:Int)=0)=true from rfl,TB,SB,Int.reduceToNat,Nat.reduceAdd,Nat.reduceEqDiff,Nat.reduceLT,Nat.reduceMod,Nat.reducePow,Nat.reduceSub,if_true,reduceIte]
 rw [bn_vo_one]
 try simp -implicitDefEqProofs only [LM6,eq_self,zab (h:=T68),zae,zac,zaa,zal,zdx,zdy,zdz,zbH,show decide ((0:Int)=0)=true from rfl,eq_self,TB,SB,Int.reduceToNat,Nat.reduceAdd,Nat.reduceEqDiff,Nat.reduceLT,Nat.reduceMod,Nat.reducePow,Nat.reduceSub,if_true,reduceIte]
 refine⟨by omega,?_⟩
 refine zbk hsum (by simp [renL,zah]) (by simp [AEnd.noid,zah]) ?_
 try simp -implicitDefEqProofs only [LM6,eq_self,zab (h:=T68),zae,zac,zaa,zal,zdx,zdy,zdz,zbH,show decide ((0:Int)=0)=true from rfl,show decide ((1:Int)=1)=true from rfl,eq_self,TB,SB,Int.reduceToNat,Nat.reduceAdd,Nat.reduceEqDiff,Nat.reduceLT,Nat.reduceMod,Nat.reducePow,Nat.reduceSub,if_true,reduceIte]
 refine zbk (vsame_ok ⟨[oneI],[],H2,2⟩ ⟨[oneI],[],H2,2⟩ (by dsimp only;omega) (by simp) (by simp)) (noid_aa ⟨[oneI],[],H2,2⟩ ⟨[oneI],[],H2,2⟩ []) (zaG _ _) ?_
 rw [decide_eq_true rfl]
 try simp -implicitDefEqProofs only [LM6,eq_self,zab (h:=T68),zae,zac,zaa,zal,zdx,zdy,zdz,zbH,show decide ((0:Int)=0)=true from rfl,show decide ((1:Int)=1)=true from rfl,eq_self,TB,SB,Int.reduceToNat,Nat.reduceAdd,Nat.reduceEqDiff,Nat.reduceLT,Nat.reduceMod,Nat.reducePow,Nat.reduceSub,if_true,reduceIte]
 refine zbk (vsame_ok ⟨[],[],H0,0⟩ ⟨[oneI],[],H1,1⟩ (by dsimp only;omega) (by simp) (by simp)) (noid_aa ⟨[],[],H0,0⟩ ⟨[oneI],[],H1,1⟩ []) (zaG _ _) ?_
 rw [decide_eq_false (fun h=>absurd (show (0:Int)=1 from congrArg Sv.n h) (by decide))]
 try simp -implicitDefEqProofs only [LM6,eq_self,zab (h:=T68),zae,zac,zaa,zal,zdx,zdy,zdz,zbH,show decide ((0:Int)=0)=true from rfl,show decide ((1:Int)=1)=true from rfl,eq_self,TB,SB,Int.reduceToNat,Nat.reduceAdd,Nat.reduceEqDiff,Nat.reduceLT,Nat.reduceMod,Nat.reducePow,Nat.reduceSub,if_true,reduceIte]
 have hk1:=zfn ⟨[],[],H0,0⟩ (by simp) (by simp)
 rw [ch0 H0 0 hH0 (by decide) (by decide),if_pos rfl] at hk1
 refine zbk hk1 (noid_a1 ⟨[],[],H0,0⟩ []) (zag _ _) ?_
 try simp -implicitDefEqProofs only [LM6,eq_self,zab (h:=T68),zae,zac,zaa,zal,zdx,zdy,zdz,zbH,show decide ((0:Int)=0)=true from rfl,show decide ((1:Int)=1)=true from rfl,eq_self,TB,SB,Int.reduceToNat,Nat.reduceAdd,Nat.reduceEqDiff,Nat.reduceLT,Nat.reduceMod,Nat.reducePow,Nat.reduceSub,if_true,reduceIte]
 have hk2:=zfn s0 (by simp [s0]) (by simp [s0])
 rw [show chkS s0=false by decide,if_neg (by decide)] at hk2
 refine⟨i64 1,ACalls.frz [] (l':=[svA s0]) ⟨_,_,rfl,⟨_,rfl,_,_,rfl,.inr ⟨rfl,rfl⟩,_,_,rfl,.inr ⟨rfl,rfl⟩,_,_,rfl,.inl rfl,_,_,rfl,.inl rfl,rfl⟩,rfl⟩ (hk2.pure (noid_a1 _ _) (by rintro _ _ rfl;exact⟨zag _ _,rfl,rfl⟩)),?_⟩
 try simp -implicitDefEqProofs only [LM6,eq_self,zab (h:=T68),zae,zac,zaa,zal,zdx,zdy,zdz,zbH,show decide ((0:Int)=0)=true from rfl,show decide ((1:Int)=1)=true from rfl,eq_self,TB,SB,Int.reduceToNat,Nat.reduceAdd,Nat.reduceEqDiff,Nat.reduceLT,Nat.reduceMod,Nat.reducePow,Nat.reduceSub,if_true,reduceIte]
 exact zaP rfl
end Go.Proofs.YtdmiflfhaobngaaGreatDoor
end

section
namespace Go.Proofs.YtdmiflfhaobngaaGreatDoor
open Go Go.Eng
set_option linter.defProp false in
def LB29:=And.intro @zaI (And.intro @zdx (And.intro @zdy (And.intro @zdz (@zbH))))
set_option linter.defProp false in
def LM11:=And.intro LM6 (LB29)
theorem get_all {α:Type} {P:α→Prop} {l:List α} {d:α} {k:Nat} (hk:l.length≤k) (h:∀ j,j < k→P (l.getD j d)):∀ x∈l,P x:=by
 intro x hx
 obtain⟨j,hj,rfl⟩:=List.getElem_of_mem hx
 have:=h j (by omega)
 rwa [List.getD_eq_getElem?_getD,List.getElem?_eq_getElem hj] at this
def fewV (l:List Vo):Prop:=l.length≤20∧∀ o∈l,o.label.length≤80∧o.box.length≤200
theorem fewV_ok (l:List Vo) (hl:l.length≤9223372036854775807):ACalls Tryz.prog 10 [.sl (l.flatMap voC) l.length] [] (fun y _=>∃ b:Bool,y=.ret (bl b)∧(b=true→fewV l)):=by
 have hno:∀ σ:zai,endQ 0 (bl false) σ (fun r _=>∃ b:Bool,AEnd.ret r=.ret (bl b)∧(b=true→fewV l)):=fun σ=>zaP ⟨false,rfl,fun h=>by cases h⟩
 refine ACalls.body T_ok Tryz.func10 (by kernel_rfl) rfl Tryz.ntmps10 (congrArg Array.toList Tryz.results10) ?_
 try simp -implicitDefEqProofs only [LM11,eq_self,zab (h:=T68),zae,zac,zaa,zal,TB,SB,Int.reduceToNat,Nat.reduceAdd,Nat.reduceEqDiff,Nat.reduceLT,Nat.reduceMod,Nat.reducePow,Nat.reduceSub,if_true,reduceIte]
 rw [zbI]
 refine⟨Nat,fun k=>k≤21∧k≤l.length∧∀ j,j < k→(l.getD j v0).label.length≤80∧(l.getD j v0).box.length≤200,fun k=>[.sl (l.flatMap voC) l.length,.bot,.bot,i64 k,.bot,.bot,.bot,.bot,.bot,.bot,.bot,.bot,.bot,.bot,.bot,.bot,.bot,.bot,.bot,.bot,.bot,.bot,.bot,.bot,.bot,.bot,.bot,.bot,.bot,.bot,.bot,.bot,.bot],fun _=>[],fun k=>22 - k,0,⟨by omega,Nat.zero_le _,fun j h=>absurd h (by omega)⟩,zav (q:=[]) rfl rfl (by decide) ?_ ?_,?_⟩
 ·skip
  try simp only [LM5,List.set_cons_zero,List.set_cons_succ,List.length_cons,List.length_nil,Nat.reduceAdd,List.cons_append,List.nil_append,zad u8 zak,AV.ren,zaf u8 zak,zaf u32 zan,zaf i64 zag,zaf u64 zao,zad i64 zag,List.getElem?_cons_zero,List.getElem?_cons_succ,Option.map_some,true_and,and_true,or_true,true_or,reduceCtorEq,false_or,Option.some.injEq,Blk.rw.injEq,AV.sl.injEq,AV.ref.injEq,AV.ptr.injEq]
  simp [zej,AV.ren]
 ·skip
  try simp only [LM5,List.set_cons_zero,List.set_cons_succ,List.length_cons,List.length_nil,Nat.reduceAdd,List.cons_append,List.nil_append,zad u8 zak,AV.ren,zaf u8 zak,zaf u32 zan,zaf i64 zag,zaf u64 zao,zad i64 zag,List.getElem?_cons_zero,List.getElem?_cons_succ,Option.map_some,true_and,and_true,or_true,true_or,reduceCtorEq,false_or,Option.some.injEq,Blk.rw.injEq,AV.sl.injEq,AV.ref.injEq,AV.ptr.injEq]
 ·rintro k ⟨hk,hk',hj⟩
  try simp -implicitDefEqProofs only [LM11,eq_self,zab (h:=T68),zae,zac,zaa,zal,TB,SB,Int.reduceToNat,Nat.reduceAdd,Nat.reduceEqDiff,Nat.reduceLT,Nat.reduceMod,Nat.reducePow,Nat.reduceSub,if_true,reduceIte]
  by_cases h1:(k:Int) < l.length
  rotate_left
  ·rw [decide_eq_false h1]
   try simp -implicitDefEqProofs only [LM11,eq_self,zab (h:=T68),zae,zac,zaa,zal,TB,SB,Int.reduceToNat,Nat.reduceAdd,Nat.reduceEqDiff,Nat.reduceLT,Nat.reduceMod,Nat.reducePow,Nat.reduceSub,if_true,reduceIte]
   refine zaP ⟨_,rfl,fun h=>?_⟩
   have:=of_decide_eq_true h
   exact⟨by omega,get_all (by omega) hj⟩
  rw [decide_eq_true h1]
  try simp -implicitDefEqProofs only [LM11,eq_self,zab (h:=T68),zae,zac,zaa,zal,TB,SB,Int.reduceToNat,Nat.reduceAdd,Nat.reduceEqDiff,Nat.reduceLT,Nat.reduceMod,Nat.reducePow,Nat.reduceSub,if_true,reduceIte]
  refine⟨fun h2=>?_,fun h2=>?_⟩
  ·have hk2:k < l.length:=by omega
   repeat (with_reducible refine And.intro (by first | omega | decide | (unfold inI;omega) | (simp only [List.length_append,List.length_reverse,List.length_take,List.length_drop,List.length_cons,List.length_nil,List.length_map,List.length_replicate];omega)) ?_)
   by_cases h3:80 < ((l.getD k v0).label.length:Int)
   ·rw [decide_eq_true h3]
    try simp -implicitDefEqProofs only [LM11,eq_self,zab (h:=T68),zae,zac,zaa,zal,TB,SB,Int.reduceToNat,Nat.reduceAdd,Nat.reduceEqDiff,Nat.reduceLT,Nat.reduceMod,Nat.reducePow,Nat.reduceSub,if_true,reduceIte]
    exact hno _
   rw [decide_eq_false h3]
   try simp -implicitDefEqProofs only [LM11,eq_self,zab (h:=T68),zae,zac,zaa,zal,TB,SB,Int.reduceToNat,Nat.reduceAdd,Nat.reduceEqDiff,Nat.reduceLT,Nat.reduceMod,Nat.reducePow,Nat.reduceSub,if_true,reduceIte]
   refine⟨by omega,by omega,by omega,by omega,fun h4=>hno _,fun h4=>⟨by unfold inI;omega,?_⟩⟩
   rw [zaC]
   refine⟨k+1,⟨by omega,by omega,fun j h=>?_⟩,by (show 22 - (k+1) < 22 - k);omega,zav (q:=[]) rfl rfl (by decide) ?_ ?_⟩
   ·rcases Nat.lt_succ_iff_lt_or_eq.1 h with h | rfl
    ·exact hj j h
    ·exact⟨by omega,by omega⟩
   ·skip
    try simp only [LM5,List.set_cons_zero,List.set_cons_succ,List.length_cons,List.length_nil,Nat.reduceAdd,List.cons_append,List.nil_append,zad u8 zak,AV.ren,zaf u8 zak,zaf u32 zan,zaf i64 zag,zaf u64 zao,zad i64 zag,List.getElem?_cons_zero,List.getElem?_cons_succ,Option.map_some,true_and,and_true,or_true,true_or,reduceCtorEq,false_or,Option.some.injEq,Blk.rw.injEq,AV.sl.injEq,AV.ref.injEq,AV.ptr.injEq]
    simp [zej,AV.ren]
   ·skip
    try simp only [LM5,List.set_cons_zero,List.set_cons_succ,List.length_cons,List.length_nil,Nat.reduceAdd,List.cons_append,List.nil_append,zad u8 zak,AV.ren,zaf u8 zak,zaf u32 zan,zaf i64 zag,zaf u64 zao,zad i64 zag,List.getElem?_cons_zero,List.getElem?_cons_succ,Option.map_some,true_and,and_true,or_true,true_or,reduceCtorEq,false_or,Option.some.injEq,Blk.rw.injEq,AV.sl.injEq,AV.ref.injEq,AV.ptr.injEq]
  ·exact zaP ⟨_,rfl,fun h=>by have:=of_decide_eq_true h;omega⟩
section
variable {σ : zai} {K : AV → Prop} {KS : AV → zai → Prop} {id : Nat}
end
end Go.Proofs.YtdmiflfhaobngaaGreatDoor
end

section
namespace Go.Proofs.YtdmiflfhaobngaaGreatDoor
open Go Go.Eng
theorem put_few {l:List Vo} (h:fewV l):(∃ p,putV l=(p,0)∧p.length≤1000000∧getV p=(l,0))∨putV l=([],1):=by
 cases hb:zbG l with
 | false=>exact .inr (by rw [putV,hb,if_neg (by decide)])
 | true =>
  refine .inl ⟨zbg (opsT l),by rw [putV,if_pos hb],?_,by have:=getV_put hb;rwa [putV,if_pos hb] at this⟩
  have h4:(zbg (opsT l)).length≤(2 * 200+3) * (opsT l).length:=zeE (opsT l) fun s hs=>by
   simp only [opsT,List.mem_flatMap,opT,List.mem_cons,List.not_mem_nil,or_false] at hs
   obtain⟨o,ho,rfl | rfl | rfl⟩:=hs
   ·rw [zcd];omega
   ·have:=(h.2 o ho).1;omega
   ·have:=(h.2 o ho).2;omega
  rw [zfI] at h4
  have:=h.1
  omega
end Go.Proofs.YtdmiflfhaobngaaGreatDoor
end

section
namespace Go.Proofs.YtdmiflfhaobngaaGreatDoor
open Go Go.Eng
def O0:Nat→Prop:=own (fun _=>False) [] []
theorem no_own (b:Nat):¬ own (fun _=>False) [] [] b:=by
 rintro(hb | ⟨i,cs,hi,_⟩)
 ·exact hb
 ·simp at hi
def IsRows {α:Type} (w:World) (f:α→List AV) (v:Value):Prop:=∃ (ad:Option Addr) (len cap:Nat) (l:List α),v=.slice ad len cap∧len≤cap∧cap≤maxLen∧l.length=len∧(len=0∨∃ b off,ad=some ⟨b,off,none⟩∧b < w.heap.size∧za5 w O0 [] b (l.flatMap f) off)
theorem rep_rows {α:Type} {f:α→List AV} {w:World} {v:Value} (h:IsRows w f v):∃ l:List α,l.length≤9223372036854775807∧rep w O0 [] (.sl (l.flatMap f) l.length) v:=by
 obtain⟨ad,len,cap,l,rfl,h1,h2,h3,h5⟩:=h
 refine⟨l,by unfold maxLen at h2;omega,?_⟩
 simp only [rep]
 rw [h3]
 refine⟨ad,cap,rfl,h1,h2,?_⟩
 rcases h5 with h5 | ⟨b,off,rfl,hb,hat⟩
 ·refine .inl ?_
  have:l=[]:=by rw [h5] at h3;exact List.eq_nil_of_length_eq_zero h3
  subst this
  rfl
 ·exact .inr ⟨b,off,rfl,no_own b,hb,hat⟩
theorem repAt_app {w:World} {O:Nat→Prop} {m:Ids} {b:Nat}:∀ (l r:List AV) (off:Nat),za5 w O m b l off→za5 w O m b r (off+l.length)→za5 w O m b (l++r) off
 | [],r,off,_,h=>by simpa using h
 | a::l,r,off,h,g=>by
  simp only [List.cons_append,za5] at h ⊢
  exact⟨h.1,repAt_app l r (off+1) h.2 (by rwa [List.length_cons,show off+(l.length+1)=off+1+l.length by omega] at g)⟩
theorem add_none (b off n:Nat):(⟨b,off,none⟩:Addr).add n=⟨b,off+n,none⟩:=by
 by_cases h:n=0
 ·subst h
  simp [Addr.add]
 ·simp [Addr.add,h]
theorem rep_rowN {α:Type} {f:α→List AV} {wd:Nat} (F:RowF f wd) {w:World} {O:Nat→Prop} {m:Ids} {b off:Nat}:∀ (n:Nat),(∀ i,i < n→∃ a:α,za5 w O m b (f a) (off+i * wd))→∃ l:List α,l.length=n∧za5 w O m b (l.flatMap f) off
 | 0,_=>⟨[],rfl,by simp [za5]⟩
 | n+1,h=>by
  obtain⟨l,h1,h3⟩:=rep_rowN F n fun i hi=>h i (by omega)
  obtain⟨a,h5⟩:=h n (by omega)
  refine⟨l++[a],by simp [h1],?_⟩
  rw [List.flatMap_append]
  refine repAt_app _ _ _ h3 ?_
  rw [F.flen,h1,List.flatMap_cons,List.flatMap_nil,List.append_nil]
  exact h5
theorem zfK {w:World} {O:Nat→Prop} {m:Ids} {b:Nat}:∀ (l:List AV) (vs:List Value) (off:Nat),reps w O m l vs→(∀ i,i < l.length→w.cell? ⟨b,off+i,none⟩=vs[i]?)→za5 w O m b l off
 | [],_,_,_,_=>by simp [za5]
 | a::l,vs,off,h,g=>by
  simp only [reps] at h
  obtain⟨v,r,rfl,h1,h2⟩:=h
  simp only [za5]
  refine⟨⟨v,by simpa using g 0 (by simp),h1⟩,zfK l r (off+1) h2 fun i hi=>?_⟩
  have:=g (i+1) (by simpa using hi)
  rwa [List.getElem?_cons_succ,show off+(i+1)=off+1+i by omega] at this
theorem three {cs:List Value} (h:cs.length=3):∃ a b c,cs=[a,b,c]:=by
 match cs,h with
 | [a,b,c],_=>exact⟨a,b,c,rfl⟩
theorem two {cs:List Value} (h:cs.length=2):∃ a b,cs=[a,b]:=by
 match cs,h with
 | [a,b],_=>exact⟨a,b,rfl⟩
section
open Go.ChangeShapes Go.WideShapes Go.ChangeAt Go.RowKit
variable {H : Type} {enc : TypeId × Value → H} {P : Program} {w : World} {base : Nat} {held : Bool}
theorem open_rows {α:Type} {f:α→List AV} {wd:Nat} (F:RowF f wd) (hp:0 < wd) {t0 t:TypeId} {fuel:Nat} {v:Value} {x:DataW H × List MemPlace} (ht0:P.underlying t0=some (.slice t)) (c4:P.cellsOf t=wd)
  (row:∀ fuel cs y,DataW.trod enc P w base (fun _=>true) held fuel t cs=some y→cs.length=wd→∃ a:α,reps w O0 [] (f a) cs)
  (hf:DataW.trod enc P w base (fun _=>true) held fuel t0 [v]=some x):IsRows w f v:=by
 rcases DataW.trod_slice ht0 hf with ⟨hcs,_⟩ | ⟨x,len,cap,elems,rest,n,_,hcs,_,_,hl,hm,hlen,hel,_,_⟩
 ·simp at hcs
  exact⟨none,0,0,[],hcs,Nat.le_refl _,by simp [maxLen],rfl,.inl rfl⟩
 ·simp at hcs
  by_cases hz:len=0
  ·exact⟨_,len,cap,[],hcs,hl,hm,hz.symm,.inl hz⟩
  rw [c4] at hel
  have each:∀ i,i < len→∃ (y:α) (cs:List Value),reps w O0 [] (f y) cs∧cs.length=wd∧∀ j,j < wd→w.cell? ((x.add (i * wd)).add j)=cs[j]?:=by
   intro i hi
   have hi':=hel i hi
   rw [List.getElem?_eq_getElem (by omega),Option.bind_eq_some_iff] at hi'
   obtain⟨cs,hcs,hy⟩:=hi'
   obtain⟨_,hn,hc⟩:=World.cells?_some hcs
   obtain⟨a,ha⟩:=row _ _ _ hy hn
   exact⟨a,cs,ha,hn,hc⟩
  obtain⟨y,cs,_,hn,hc⟩:=each 0 (by omega)
  obtain⟨b,off,spot⟩:=x
  have hv0:=hc 0 hp
  rw [List.getElem?_eq_getElem (by omega)] at hv0
  have hspot:spot=none:=by simpa [Addr.add] using World.cell?_spot hv0
  subst hspot
  obtain⟨l,hl1,hl3⟩:=rep_rowN F (w:=w) (O:=O0) (m:=[]) (b:=b) (off:=off) len fun i hi=>by
   obtain⟨y,cs,h4,h5,h6⟩:=each i hi
   refine⟨y,zfK _ _ _ h4 fun j hj=>?_⟩
   rw [F.len] at hj
   have:=h6 j hj
   rwa [add_none,add_none] at this
  have hne:l.flatMap f≠[]:=by
   intro h
   have:=F.flen l
   rw [h,hl1,List.length_nil] at this
   rcases Nat.mul_eq_zero.1 this.symm with h | h <;> omega
  exact⟨_,len,cap,l,hcs,hl,hm,hl1,.inr ⟨b,off,rfl,zbA hl3 hne,hl3⟩⟩
theorem row_vo {t ts ti:TypeId} {f0 f1 f2:Field} (ht:P.underlying t=some (.struct #[f0,f1,f2])) (h0:f0.type=ti∧f0.offset=0) (h1:f1.type=ts∧f1.offset=1) (h2:f2.type=ts∧f2.offset=2)
  (hts:P.underlying ts=some .string) (hti:P.underlying ti=some (.int .i64)) (c0:P.cellsOf ts=1) (c2:P.cellsOf ti=1) (fuel:Nat) (cs:List Value) (y:DataW H × List MemPlace)
  (hy:DataW.trod enc P w base (fun _=>true) held fuel t cs=some y) (hn:cs.length=3):∃ a:Vo,reps w O0 [] (voC a) cs:=by
 obtain⟨xs,m,_,_,_,hxl,hx⟩:=DataW.trod_struct ht hy
 obtain⟨v0,v1,v2,rfl⟩:=three hn
 have g0:=hx 0 f0 rfl
 have g1:=hx 1 f1 rfl
 have g2:=hx 2 f2 rfl
 rw [h0.1,h0.2,c2] at g0
 rw [h1.1,h1.2,c0] at g1
 rw [h2.1,h2.2,c0] at g2
 match xs,hxl with
 | [x0,x1,x2],_ =>
  obtain⟨k,e0,_,w0⟩:=DataW.trod_int hti g0
  obtain⟨s,e1,_,w1⟩:=DataW.trod_string hts g1
  obtain⟨p,e2,_,w2⟩:=DataW.trod_string hts g2
  simp at e0 e1 e2
  subst e0 e1 e2
  refine⟨⟨k,s.data.toList,p.data.toList⟩,?_⟩
  simp only [voC,reps]
  exact⟨_,_,rfl,rep_i64 _,_,_,rfl,rep_str _,_,_,rfl,rep_str _,rfl⟩
end
end Go.Proofs.YtdmiflfhaobngaaGreatDoor
end

section
namespace Go.Proofs.YtdmiflfhaobngaaGreatDoor
open Go Go.Eng
def vvC (o:List Vo):List AV:=[slV o]
theorem vvF:RowF vvC 1:=⟨fun _=>rfl,fun _=>rfl,fun q a=>by simp [vvC,renL,zfl]⟩
section
variable {σ : zai} {K : AV → Prop} {KS : AV → zai → Prop} {t : TypeId} {id : Nat}
theorem ia_W (e:TypeId) (l:List (List Vo)) (m:Nat) (k:Int):ia3 (some (tySl e)) (.sl (l.flatMap vvC) m) k K=(0≤k∧k < m∧m≤l.length∧K (.rp ((l.drop k.toNat).flatMap vvC))):=vvF.ia rfl (by decide) l m k
theorem ld_W (e:TypeId) (l:List (List Vo)) (k:Nat):ld2 (some (tySl e)) (some ((l.drop k).flatMap vvC)) 0 K=(k < l.length∧K (slV (l.getD k []))):=vvF.ldf0 rfl rfl (by decide) [] l k
theorem bs_s1 (a:List UInt8):bs2 (some tyStr) 1 [(0,str a)] σ KS=KS (.ref σ.length 0 1 1) (σ++[.rw ([a].map str)]):=by
 simp [bs2,tyStr,zbE,zbU,AV.cells,zbe,List.range_succ,List.replicate,str,AV.one,Value.oneCell']
theorem fv_S2 (a b c d:AV):ze0 T 24 (.agg [a,b,c,d]) 2 K=K c:=fvA T24 rfl rfl T9 rfl rfl rfl
theorem ia_refS (n:Nat) (k:Int):ia3 (some tyStr) (.ref id 0 n 1) k K=(0≤k∧k < n∧K (.ptr id k.toNat)):=by
 simp [ia3,tyStr]
theorem ld_strsV (l:List (List UInt8)) (off:Nat):ld2 (some tyStr) (some (l.map str)) off K=(off < l.length∧K (str (l.getD off []))):=ld2_map zcJ _ _ _ _
end
def hdN (h:List UInt8) (a:List (List UInt8)):Nat→List UInt8
 | 0=>h
 | j+1=>shaR (hdN h a j++a.getD j [])
def hds (h:List UInt8) (a:List (List UInt8)):List (List UInt8):=(List.range (a.length+1)).map (hdN h a)
theorem zh3 {h:List UInt8} {a:List (List UInt8)} {p:List UInt8}:∀ {j:Nat},j≤a.length→hdN h (a++[p]) j=hdN h a j
 | 0,_=>rfl
 | j+1,hj=>by
  rw [hdN,hdN,zh3 (by omega),List.getD_eq_getElem?_getD,List.getD_eq_getElem?_getD,List.getElem?_append_left (by omega)]
theorem zf5 (h:List UInt8) (a:List (List UInt8)):(hds h a).length=a.length+1:=by simp [hds]
theorem hds_app (h:List UInt8) (a:List (List UInt8)) (p:List UInt8):hds h (a++[p])=hds h a++[shaR (hdN h a a.length++p)]:=by
 rw [hds,List.length_append,List.length_singleton,List.range_succ,List.map_append,hds]
 congr 1
 ·refine List.map_congr_left fun j hj=>zh3 ?_
  have:=List.mem_range.1 hj
  omega
 ·simp [hdN,zh3]
theorem hdN_last (h:List UInt8) (a:List (List UInt8)) (p:List UInt8):hdN h (a++[p]) (a++[p]).length=shaR (hdN h a a.length++p):=by
 rw [List.length_append,List.length_singleton,hdN,zh3 (Nat.le_refl _)]
 simp
theorem zgl {h:List UInt8} {a:List (List UInt8)} {j:Nat} (hj:j≤a.length):(hds h a).getD j []=hdN h a j:=by
 rw [hds,List.getD_eq_getElem?_getD,List.getElem?_map,List.getElem?_range (by omega)]
 rfl
theorem zf6 {h:List UInt8} (hh:h.length=32) (a:List (List UInt8)):∀ j,(hdN h a j).length=32
 | 0=>hh
 | _+1=>zdw _
theorem hds_nil (h:List UInt8):hds h []=[h]:=rfl
theorem putNext (x:List UInt8) (o:List Vo):(∃ p,zbG o=true∧putV o=(p,0)∧zg7 x o=(shaR (x++p),0))∨(putV o=([],1)∧zg7 x o=([],1)):=by
 cases hb:zbG o with
 | false=>exact .inr ⟨by rw [putV,hb,if_neg (by decide)],by rw [zg7,hb,if_neg (by decide)]⟩
 | true =>
  have e:putV o=(zbg (opsT o),0):=by rw [putV,if_pos hb]
  exact .inl ⟨zbg (opsT o),rfl,e,by rw [zg7,if_pos hb,e]⟩
end Go.Proofs.YtdmiflfhaobngaaGreatDoor
end

section
namespace Go.Proofs.YtdmiflfhaobngaaGreatDoor
open Go Go.Eng
set_option linter.defProp false in
def LB30:=And.intro @ia_W (And.intro @ld_W (And.intro @bs_s1 (And.intro @fv_S2 (And.intro @ia_refS (@ld_strsV)))))
def vvA (l:List (List Vo)):AV:=.sl (l.flatMap vvC) l.length
theorem zc6 (q:List Nat) (l:List (List Vo)):renL q (l.flatMap vvC)=some (l.flatMap vvC):=vvF.fren q l
def pok (a:List (List UInt8)):Prop:=∀ p∈a,p.length≤1000000
theorem pok_app {a:List (List UInt8)} {p:List UInt8} (h:pok a) (hp:p.length≤1000000):pok (a++[p]):=by
 intro x hx
 rcases List.mem_append.1 hx with hx | hx
 ·exact h x hx
 ·rw [List.mem_singleton.1 hx];exact hp
theorem zh4 {a:List (List UInt8)} (h:pok a) (j:Nat):(a.getD j []).length≤1000000:=by
 rw [List.getD_eq_getElem?_getD]
 by_cases hj:j < a.length
 ·rw [List.getElem?_eq_getElem hj];exact h _ (List.getElem_mem hj)
 ·rw [List.getElem?_eq_none (by omega)];simp
def chA (l m:List (List Vo)) (h:List UInt8) (k:Nat) (a:List (List UInt8)):List AV:=[.sl (l.flatMap vvC) l.length,.sl (m.flatMap vvC) m.length,.bot,.bot,bl false,bl true,.bot,.ref 2 0 a.length 1,.lit (.slice none 0 0),str (hdN h a a.length),str h,.ref 0 0 (a.length+1) 1,.ref 1 0 1 1,i64 k,.bot,.bot,.bot,.bot,.bot,.bot,.bot,.bot,.bot,.bot,.bot,.bot,.bot,.bot,.bot,.bot,.bot,.bot,.bot,.bot,.bot,.bot,.bot,.bot,.bot,.bot,.bot,.bot,.bot,.bot,.bot,.bot,.bot,.bot,.bot,.bot,.bot,.bot,.bot,.bot,.bot,.bot,.bot,.bot,.bot,.bot,.bot,.bot,.bot,.bot,.bot,.bot,.bot,.bot,.bot,.bot,.bot,.bot,.bot,.bot,.bot,.bot,.bot,.bot,.bot,.bot,.bot,.bot,.bot,.bot,.bot,.bot,.bot,.bot,.bot,.bot,.bot,.bot,.bot,.bot,.bot,.bot,.bot,.bot,.bot,.bot,.bot,.bot,.bot,.bot,.bot,.bot,.bot,.bot,.bot,.bot,.bot,.bot,.bot,.bot,.bot,.bot,.bot,.bot,.bot,.bot,.bot,.bot,.bot,.bot,.bot,.bot,.bot,.bot,.bot,.bot,.bot,.bot,.bot,.bot,.bot,.bot,.bot,.bot,.bot,.bot,.bot,.bot,.bot,.bot,.bot,.bot,.bot,.bot,.bot,.bot,.bot,.bot,.bot,.bot,.bot,.bot,.bot,.bot,.bot,.bot,.bot,.bot,.bot,.bot,.bot,.bot,.bot,.bot,.bot,.bot,.bot,.bot,.bot,.bot,.bot,.bot,.bot,.bot,.bot,.bot,.bot,.bot,.bot,.bot,.bot,.bot,.bot,.bot,.bot,.bot,.bot,.bot,.bot,.bot,.bot,.bot,.bot,.bot,.bot,.bot,.bot,.bot,.bot,.bot,.bot,.bot,.bot,.bot,.bot,.bot,.bot,.bot,.bot,.bot,.bot,.bot,.bot,.bot,.bot,.bot,.bot,.bot,.bot,.bot,.bot,.bot,.bot,.bot,.bot,.bot,.bot,.bot,.bot,.bot,.bot,.bot,.bot,.bot,.bot,.bot,.bot,.bot,.bot,.bot,.bot,.bot,.bot,.bot,.bot,.bot,.bot,.bot,.bot,.bot,.bot,.bot,.bot,.bot,.bot,.bot,.bot,.bot,.bot]
def chSA (h:List UInt8) (a:List (List UInt8)):zai:=[.rw ((hds h a).map str),.rw ([h].map str),.rw (a.map str)]
def chB (l m:List (List Vo)) (h:List UInt8) (a:List (List UInt8)) (k:Nat) (b:List (List UInt8)):List AV:=[.sl (l.flatMap vvC) l.length,.sl (m.flatMap vvC) m.length,.bot,.bot,bl false,bl true,.bot,.ref 2 0 a.length 1,.ref 3 0 b.length 1,str (hdN h a a.length),str (hdN h b b.length),.ref 0 0 (a.length+1) 1,.ref 1 0 (b.length+1) 1,.bot,.bot,.bot,.bot,.bot,.bot,i64 k,.bot,.bot,.bot,.bot,.bot,.bot,.bot,.bot,.bot,.bot,.bot,.bot,.bot,.bot,.bot,.bot,.bot,.bot,.bot,.bot,.bot,.bot,.bot,.bot,.bot,.bot,.bot,.bot,.bot,.bot,.bot,.bot,.bot,.bot,.bot,.bot,.bot,.bot,.bot,.bot,.bot,.bot,.bot,.bot,.bot,.bot,.bot,.bot,.bot,.bot,.bot,.bot,.bot,.bot,.bot,.bot,.bot,.bot,.bot,.bot,.bot,.bot,.bot,.bot,.bot,.bot,.bot,.bot,.bot,.bot,.bot,.bot,.bot,.bot,.bot,.bot,.bot,.bot,.bot,.bot,.bot,.bot,.bot,.bot,.bot,.bot,.bot,.bot,.bot,.bot,.bot,.bot,.bot,.bot,.bot,.bot,.bot,.bot,.bot,.bot,.bot,.bot,.bot,.bot,.bot,.bot,.bot,.bot,.bot,.bot,.bot,.bot,.bot,.bot,.bot,.bot,.bot,.bot,.bot,.bot,.bot,.bot,.bot,.bot,.bot,.bot,.bot,.bot,.bot,.bot,.bot,.bot,.bot,.bot,.bot,.bot,.bot,.bot,.bot,.bot,.bot,.bot,.bot,.bot,.bot,.bot,.bot,.bot,.bot,.bot,.bot,.bot,.bot,.bot,.bot,.bot,.bot,.bot,.bot,.bot,.bot,.bot,.bot,.bot,.bot,.bot,.bot,.bot,.bot,.bot,.bot,.bot,.bot,.bot,.bot,.bot,.bot,.bot,.bot,.bot,.bot,.bot,.bot,.bot,.bot,.bot,.bot,.bot,.bot,.bot,.bot,.bot,.bot,.bot,.bot,.bot,.bot,.bot,.bot,.bot,.bot,.bot,.bot,.bot,.bot,.bot,.bot,.bot,.bot,.bot,.bot,.bot,.bot,.bot,.bot,.bot,.bot,.bot,.bot,.bot,.bot,.bot,.bot,.bot,.bot,.bot,.bot,.bot,.bot,.bot,.bot,.bot,.bot,.bot,.bot,.bot,.bot,.bot,.bot,.bot,.bot,.bot,.bot]
def chSB (h:List UInt8) (a b:List (List UInt8)):zai:=[.rw ((hds h a).map str),.rw ((hds h b).map str),.rw (a.map str),.rw (b.map str)]
def chC (l m:List (List Vo)) (h:List UInt8) (a b:List (List UInt8)) (i k:Nat):List AV:=[.sl (l.flatMap vvC) l.length,.sl (m.flatMap vvC) m.length,.bot,.bot,bl false,bl true,.bot,.ref 2 0 a.length 1,.ref 3 0 b.length 1,str (hdN h a a.length),str (hdN h b b.length),.ref 0 0 (a.length+1) 1,.ref 1 0 (b.length+1) 1,.bot,.bot,.bot,.bot,.bot,.bot,.bot,.bot,.bot,.bot,.bot,.bot,i64 i,i64 k,.bot,.bot,.bot,.bot,.bot,.bot,.bot,.bot,.bot,.bot,.bot,.bot,.bot,.bot,.bot,.bot,.bot,.bot,.bot,.bot,.bot,.bot,.bot,.bot,.bot,.bot,.bot,.bot,.bot,.bot,.bot,.bot,.bot,.bot,.bot,.bot,.bot,.bot,.bot,.bot,.bot,.bot,.bot,.bot,.bot,.bot,.bot,.bot,.bot,.bot,.bot,.bot,.bot,.bot,.bot,.bot,.bot,.bot,.bot,.bot,.bot,.bot,.bot,.bot,.bot,.bot,.bot,.bot,.bot,.bot,.bot,.bot,.bot,.bot,.bot,.bot,.bot,.bot,.bot,.bot,.bot,.bot,.bot,.bot,.bot,.bot,.bot,.bot,.bot,.bot,.bot,.bot,.bot,.bot,.bot,.bot,.bot,.bot,.bot,.bot,.bot,.bot,.bot,.bot,.bot,.bot,.bot,.bot,.bot,.bot,.bot,.bot,.bot,.bot,.bot,.bot,.bot,.bot,.bot,.bot,.bot,.bot,.bot,.bot,.bot,.bot,.bot,.bot,.bot,.bot,.bot,.bot,.bot,.bot,.bot,.bot,.bot,.bot,.bot,.bot,.bot,.bot,.bot,.bot,.bot,.bot,.bot,.bot,.bot,.bot,.bot,.bot,.bot,.bot,.bot,.bot,.bot,.bot,.bot,.bot,.bot,.bot,.bot,.bot,.bot,.bot,.bot,.bot,.bot,.bot,.bot,.bot,.bot,.bot,.bot,.bot,.bot,.bot,.bot,.bot,.bot,.bot,.bot,.bot,.bot,.bot,.bot,.bot,.bot,.bot,.bot,.bot,.bot,.bot,.bot,.bot,.bot,.bot,.bot,.bot,.bot,.bot,.bot,.bot,.bot,.bot,.bot,.bot,.bot,.bot,.bot,.bot,.bot,.bot,.bot,.bot,.bot,.bot,.bot,.bot,.bot,.bot,.bot,.bot,.bot,.bot,.bot,.bot,.bot,.bot,.bot,.bot,.bot,.bot,.bot,.bot]
set_option maxRecDepth 20000 in
set_option maxHeartbeats 6400000 in
theorem VaultChain_ok (l m:List (List Vo)) (h1:l.length≤9223372036854775807) (g1:∀ o∈l,o.length≤9223372036854775807) (h2:m.length≤9223372036854775807) (g2:∀ o∈m,o.length≤9223372036854775807):ACalls Tryz.prog 7 [vvA l,vvA m] [] (fun y _=>y=.ret (bl true)):=by
 have hw:=works18_ok
 have hnw:=vnew_ok
 have hH:(shaR []).length=32:=zdw _
 have hs0:=zeD [] (by simp)
 generalize shaR []=H at hnw hH hs0
 simp only [zdF,zcj] at hnw
 unfold vvA
 refine ACalls.body T_ok Tryz.func7 (by kernel_rfl) rfl Tryz.ntmps7 (congrArg Array.toList Tryz.results7) ?_
 try simp -implicitDefEqProofs only [LM11,LB30,eq_self,zab (h:=T68),zae,zac,zaa,zal,TB,SB,Int.reduceToNat,Nat.reduceAdd,Nat.reduceEqDiff,Nat.reduceLT,Nat.reduceMod,Nat.reducePow,Nat.reduceSub,if_true,reduceIte]
 refine hw.pure rfl ?_
 rintro _ σ rfl
 refine⟨zaG _ _,?_⟩
 by_cases c1:20 < (l.length:Int)
 ·have d1:=decide_eq_true c1
  try simp -implicitDefEqProofs only [LM11,LB30,eq_self,zab (h:=T68),zae,zac,zaa,zal,d1,TB,SB,Int.reduceToNat,Nat.reduceAdd,Nat.reduceEqDiff,Nat.reduceLT,Nat.reduceMod,Nat.reducePow,Nat.reduceSub,if_true,reduceIte]
  exact zaP rfl
 have d1:=decide_eq_false c1
 by_cases c2:20 < (m.length:Int)
 ·have d2:=decide_eq_true c2
  try simp -implicitDefEqProofs only [LM11,LB30,eq_self,zab (h:=T68),zae,zac,zaa,zal,d1,d2,TB,SB,Int.reduceToNat,Nat.reduceAdd,Nat.reduceEqDiff,Nat.reduceLT,Nat.reduceMod,Nat.reducePow,Nat.reduceSub,if_true,reduceIte]
  exact zaP rfl
 have d2:=decide_eq_false c2
 try simp -implicitDefEqProofs only [LM11,LB30,eq_self,zab (h:=T68),zae,zac,zaa,zal,d1,d2,TB,SB,Int.reduceToNat,Nat.reduceAdd,Nat.reduceEqDiff,Nat.reduceLT,Nat.reduceMod,Nat.reducePow,Nat.reduceSub,if_true,reduceIte]
 refine hnw.pure rfl ?_
 rintro _ σ rfl
 refine⟨by simp [AEnd.noid,AV.ren,renL,zah,zag],?_⟩
 try simp -implicitDefEqProofs only [LM11,LB30,eq_self,zab (h:=T68),zae,zac,zaa,zal,TB,SB,Int.reduceToNat,Nat.reduceAdd,Nat.reduceEqDiff,Nat.reduceLT,Nat.reduceMod,Nat.reducePow,Nat.reduceSub,if_true,reduceIte]
 rw [zbI]
 refine⟨Nat × List (List UInt8),fun x=>x.1≤l.length∧x.2.length≤x.1∧pok x.2,fun x=>chA l m H x.1 x.2,fun x=>chSA H x.2,fun x=>l.length - x.1,(0,[]),⟨Nat.zero_le _,Nat.le_refl _,fun p hp=>by simp at hp⟩,zgf 7 1 rfl (zav (q:=[0,1,2]) rfl rfl (by decide) ?_ ?_),?_⟩
 ·unfold chA
  try simp only [LM5,List.set_cons_zero,List.set_cons_succ,List.length_cons,List.length_nil,Nat.reduceAdd,List.cons_append,List.nil_append,zad u8 zak,AV.ren,zaf u8 zak,zaf u32 zan,zaf i64 zag,zaf u64 zao,zad i64 zag,List.getElem?_cons_zero,List.getElem?_cons_succ,Option.map_some,true_and,and_true,or_true,true_or,reduceCtorEq,false_or,Option.some.injEq,Blk.rw.injEq,AV.sl.injEq,AV.ref.injEq,AV.ptr.injEq]
  rw [zc6,zc6]
  exact⟨rfl,rfl,.inr rfl,.inr rfl⟩
 ·unfold chSA
  simp [zar,Blk.ren,renL,zah,hds_nil]
 ·rintro⟨k,a⟩ ⟨i1,i2,i3⟩
  dsimp only at i1 i2 ⊢
  unfold chA chSA
  by_cases c3:(k:Int) < l.length
  rotate_left
  ·have d3:=decide_eq_false c3
   obtain rfl:k=l.length:=by omega
   try simp -implicitDefEqProofs only [LM11,LB30,eq_self,zab (h:=T68),zae,zac,zaa,zal,d3,TB,SB,Int.reduceToNat,Nat.reduceAdd,Nat.reduceEqDiff,Nat.reduceLT,Nat.reduceMod,Nat.reducePow,Nat.reduceSub,if_true,reduceIte]
   have hal:=i2
   rw [zbI]
   refine⟨Nat × List (List UInt8),fun x=>x.1≤m.length∧x.2.length≤x.1∧pok x.2,fun x=>chB l m H a x.1 x.2,fun x=>chSB H a x.2,fun x=>m.length - x.1,(0,[]),⟨Nat.zero_le _,Nat.le_refl _,fun p hp=>by simp at hp⟩,zgf 8 1 rfl (zav (q:=[0,1,2,3]) rfl rfl (by decide) ?_ ?_),?_⟩
   ·unfold chB
    try simp only [LM5,List.set_cons_zero,List.set_cons_succ,List.length_cons,List.length_nil,Nat.reduceAdd,List.cons_append,List.nil_append,zad u8 zak,AV.ren,zaf u8 zak,zaf u32 zan,zaf i64 zag,zaf u64 zao,zad i64 zag,List.getElem?_cons_zero,List.getElem?_cons_succ,Option.map_some,true_and,and_true,or_true,true_or,reduceCtorEq,false_or,Option.some.injEq,Blk.rw.injEq,AV.sl.injEq,AV.ref.injEq,AV.ptr.injEq]
    rw [zc6,zc6]
    exact⟨rfl,rfl,.inr rfl,.inr rfl⟩
   ·unfold chSB
    simp [zar,Blk.ren,renL,zad str zah,zah,hds_nil]
   ·rintro⟨k,b⟩ ⟨i4,i5,i6⟩
    dsimp only at i4 i5 ⊢
    unfold chB chSB
    by_cases c3:(k:Int) < m.length
    rotate_left
    ·have d3:=decide_eq_false c3
     obtain rfl:k=m.length:=by omega
     try simp -implicitDefEqProofs only [LM11,LB30,eq_self,zab (h:=T68),zae,zac,zaa,zal,d3,TB,SB,Int.reduceToNat,Nat.reduceAdd,Nat.reduceEqDiff,Nat.reduceLT,Nat.reduceMod,Nat.reducePow,Nat.reduceSub,if_true,reduceIte]
     refine⟨fun _=>zaP rfl,fun heq=>?_⟩
     rw [zbI]
     refine⟨Nat × Nat,fun x=>x.1≤a.length∧x.2≤b.length∧hdN H a x.1=hdN H b x.2,fun x=>chC l m H a b x.1 x.2,fun _=>chSB H a b,fun x=>x.1,(a.length,b.length),⟨Nat.le_refl _,Nat.le_refl _,heq⟩,zav (q:=[0,1,2,3]) rfl rfl (by decide) ?_ ?_,?_⟩
     ·unfold chC
      try simp only [LM5,List.set_cons_zero,List.set_cons_succ,List.length_cons,List.length_nil,Nat.reduceAdd,List.cons_append,List.nil_append,zad u8 zak,AV.ren,zaf u8 zak,zaf u32 zan,zaf i64 zag,zaf u64 zao,zad i64 zag,List.getElem?_cons_zero,List.getElem?_cons_succ,Option.map_some,true_and,and_true,or_true,true_or,reduceCtorEq,false_or,Option.some.injEq,Blk.rw.injEq,AV.sl.injEq,AV.ref.injEq,AV.ptr.injEq]
      rw [zc6,zc6]
      exact⟨rfl,rfl⟩
     ·show zar _ _ _ [.rw ((hds H a).map str),.rw ((hds H b).map str),.rw (a.map str),.rw (b.map str)]
      rw [zaf str zah,zaf str zah,zaf str zah,zaf str zah]
      exact⟨rfl,rfl,rfl,rfl,trivial⟩
     ·rintro⟨i,k⟩ ⟨j1,j2,j3⟩
      dsimp only at j1 j2 j3 ⊢
      unfold chC chSB
      rcases Nat.eq_zero_or_pos i with rfl | ci
      ·rcases Nat.eq_zero_or_pos k with rfl | ck
       ·try simp -implicitDefEqProofs only [LM11,LB30,eq_self,zab (h:=T68),zae,zac,zaa,zal,show decide (0 < ((0:Nat):Int))=false from rfl,show decide (((0:Nat):Int)=0)=true from rfl,TB,SB,Int.reduceToNat,Nat.reduceAdd,Nat.reduceEqDiff,Nat.reduceLT,Nat.reduceMod,Nat.reducePow,Nat.reduceSub,if_true,reduceIte]
        exact zaP rfl
       ·obtain⟨k,rfl⟩:∃ k',k=k'+1:=⟨k - 1,by omega⟩
        have ek:decide (0 < ((k+1:Nat):Int))=true:=decide_eq_true (by omega)
        have nk:decide (((k+1:Nat):Int)=0)=false:=decide_eq_false (by omega)
        have sk:((k+1:Nat):Int) - 1=k:=by omega
        try simp -implicitDefEqProofs only [LM11,LB30,eq_self,zab (h:=T68),zae,zac,zaa,zal,show decide (0 < ((0:Nat):Int))=false from rfl,show decide (((0:Nat):Int)=0)=true from rfl,ek,nk,sk,TB,SB,Int.reduceToNat,Nat.reduceAdd,Nat.reduceEqDiff,Nat.reduceLT,Nat.reduceMod,Nat.reducePow,Nat.reduceSub,if_true,reduceIte]
        refine zcs (by kernel_rfl) (by kernel_rfl) ?_
        have gk:(hds H b).getD k []=hdN H b k:=zgl (by omega)
        have bk:=zf6 hH b k
        have pk:(b.getD k []).length≤1000000:=zh4 i6 k
        have hl1:=zf5 H b
        try simp -implicitDefEqProofs only [LM11,LB30,eq_self,zab (h:=T68),zae,zac,zaa,zal,sk,gk,TB,SB,Int.reduceToNat,Nat.reduceAdd,Nat.reduceEqDiff,Nat.reduceLT,Nat.reduceMod,Nat.reducePow,Nat.reduceSub,if_true,reduceIte]
        refine⟨by unfold inI;omega,by omega,by omega,?_⟩
        try simp -implicitDefEqProofs only [LM11,LB30,eq_self,zab (h:=T68),zae,zac,zaa,zal,sk,gk,TB,SB,Int.reduceToNat,Nat.reduceAdd,Nat.reduceEqDiff,Nat.reduceLT,Nat.reduceMod,Nat.reducePow,Nat.reduceSub,if_true,reduceIte]
        refine⟨by omega,by unfold inI;omega,by omega,by omega,by omega,by omega,?_⟩
        have hq:=zeD (hdN H b k++b.getD k []) (by rw [List.length_append];omega)
        have e:shaR (hdN H b k++b.getD k [])=H:=j3.symm
        rw [e] at hq
        refine zbk hq (by simp [renL,zah]) (by simp [AEnd.noid,zah]) ?_
        try simp -implicitDefEqProofs only [LM11,LB30,eq_self,zab (h:=T68),zae,zac,zaa,zal,TB,SB,Int.reduceToNat,Nat.reduceAdd,Nat.reduceEqDiff,Nat.reduceLT,Nat.reduceMod,Nat.reducePow,Nat.reduceSub,if_true,reduceIte]
        refine zbk hs0 (by simp [renL,zah]) (by simp [AEnd.noid,zah]) ?_
        try simp -implicitDefEqProofs only [LM11,LB30,eq_self,zab (h:=T68),zae,zac,zaa,zal,TB,SB,Int.reduceToNat,Nat.reduceAdd,Nat.reduceEqDiff,Nat.reduceLT,Nat.reduceMod,Nat.reducePow,Nat.reduceSub,if_true,reduceIte]
        exact zaP rfl
      ·obtain⟨i,rfl⟩:∃ i',i=i'+1:=⟨i - 1,by omega⟩
       have ei:decide (0 < ((i+1:Nat):Int))=true:=decide_eq_true (by omega)
       have ni:decide (((i+1:Nat):Int)=0)=false:=decide_eq_false (by omega)
       have si:((i+1:Nat):Int) - 1=i:=by omega
       rcases Nat.eq_zero_or_pos k with rfl | ck
       ·try simp -implicitDefEqProofs only [LM11,LB30,eq_self,zab (h:=T68),zae,zac,zaa,zal,show decide (0 < ((0:Nat):Int))=false from rfl,show decide (((0:Nat):Int)=0)=true from rfl,ei,ni,si,TB,SB,Int.reduceToNat,Nat.reduceAdd,Nat.reduceEqDiff,Nat.reduceLT,Nat.reduceMod,Nat.reducePow,Nat.reduceSub,if_true,reduceIte]
        refine zcs (by kernel_rfl) (by kernel_rfl) ?_
        have gi:(hds H a).getD i []=hdN H a i:=zgl (by omega)
        have ai:=zf6 hH a i
        have pi:(a.getD i []).length≤1000000:=zh4 i3 i
        have hl0:=zf5 H a
        try simp -implicitDefEqProofs only [LM11,LB30,eq_self,zab (h:=T68),zae,zac,zaa,zal,si,gi,TB,SB,Int.reduceToNat,Nat.reduceAdd,Nat.reduceEqDiff,Nat.reduceLT,Nat.reduceMod,Nat.reducePow,Nat.reduceSub,if_true,reduceIte]
        refine⟨by unfold inI;omega,by omega,by omega,?_⟩
        try simp -implicitDefEqProofs only [LM11,LB30,eq_self,zab (h:=T68),zae,zac,zaa,zal,si,gi,TB,SB,Int.reduceToNat,Nat.reduceAdd,Nat.reduceEqDiff,Nat.reduceLT,Nat.reduceMod,Nat.reducePow,Nat.reduceSub,if_true,reduceIte]
        refine⟨by omega,by unfold inI;omega,by omega,by omega,by omega,by omega,?_⟩
        have hq:=zeD (hdN H a i++a.getD i []) (by rw [List.length_append];omega)
        have e:shaR (hdN H a i++a.getD i [])=H:=j3
        rw [e] at hq
        refine zbk hq (by simp [renL,zah]) (by simp [AEnd.noid,zah]) ?_
        try simp -implicitDefEqProofs only [LM11,LB30,eq_self,zab (h:=T68),zae,zac,zaa,zal,TB,SB,Int.reduceToNat,Nat.reduceAdd,Nat.reduceEqDiff,Nat.reduceLT,Nat.reduceMod,Nat.reducePow,Nat.reduceSub,if_true,reduceIte]
        refine zbk hs0 (by simp [renL,zah]) (by simp [AEnd.noid,zah]) ?_
        try simp -implicitDefEqProofs only [LM11,LB30,eq_self,zab (h:=T68),zae,zac,zaa,zal,TB,SB,Int.reduceToNat,Nat.reduceAdd,Nat.reduceEqDiff,Nat.reduceLT,Nat.reduceMod,Nat.reducePow,Nat.reduceSub,if_true,reduceIte]
        exact zaP rfl
       ·obtain⟨k,rfl⟩:∃ k',k=k'+1:=⟨k - 1,by omega⟩
        have ek:decide (0 < ((k+1:Nat):Int))=true:=decide_eq_true (by omega)
        have nk:decide (((k+1:Nat):Int)=0)=false:=decide_eq_false (by omega)
        have sk:((k+1:Nat):Int) - 1=k:=by omega
        try simp -implicitDefEqProofs only [LM11,LB30,eq_self,zab (h:=T68),zae,zac,zaa,zal,ei,ni,si,ek,nk,sk,TB,SB,Int.reduceToNat,Nat.reduceAdd,Nat.reduceEqDiff,Nat.reduceLT,Nat.reduceMod,Nat.reducePow,Nat.reduceSub,if_true,reduceIte]
        refine zcs (by kernel_rfl) (by kernel_rfl) ?_
        have gi:(hds H a).getD i []=hdN H a i:=zgl (by omega)
        have gk:(hds H b).getD k []=hdN H b k:=zgl (by omega)
        have ai:=zf6 hH a i
        have bk:=zf6 hH b k
        have pi:(a.getD i []).length≤1000000:=zh4 i3 i
        have pk:(b.getD k []).length≤1000000:=zh4 i6 k
        have hl0:=zf5 H a
        have hl1:=zf5 H b
        try simp -implicitDefEqProofs only [LM11,LB30,eq_self,zab (h:=T68),zae,zac,zaa,zal,ei,ni,si,ek,nk,sk,gi,gk,TB,SB,Int.reduceToNat,Nat.reduceAdd,Nat.reduceEqDiff,Nat.reduceLT,Nat.reduceMod,Nat.reducePow,Nat.reduceSub,if_true,reduceIte]
        refine⟨by unfold inI;omega,by omega,by omega,by omega,by unfold inI;omega,by omega,by omega,by omega,by omega,by unfold inI;omega,by omega,by omega,by omega,by unfold inI;omega,by omega,by omega,by omega,by omega,fun hne=>?_,fun heq=>?_⟩
        ·refine zcs (by kernel_rfl) (by kernel_rfl) ?_
         try simp -implicitDefEqProofs only [LM11,LB30,eq_self,zab (h:=T68),zae,zac,zaa,zal,ei,ni,si,ek,nk,sk,gi,gk,TB,SB,Int.reduceToNat,Nat.reduceAdd,Nat.reduceEqDiff,Nat.reduceLT,Nat.reduceMod,Nat.reducePow,Nat.reduceSub,if_true,reduceIte]
         refine⟨by unfold inI;omega,by omega,by omega,by omega,by unfold inI;omega,by omega,by omega,by omega,by omega,?_⟩
         have hq1:=zeD (hdN H a i++a.getD i []) (by rw [List.length_append];omega)
         have hq2:=zeD (hdN H b k++b.getD k []) (by rw [List.length_append];omega)
         have e:shaR (hdN H a i++a.getD i [])=shaR (hdN H b k++b.getD k []):=j3
         rw [e] at hq1
         refine zbk hq1 (by simp [renL,zah]) (by simp [AEnd.noid,zah]) ?_
         try simp -implicitDefEqProofs only [LM11,LB30,eq_self,zab (h:=T68),zae,zac,zaa,zal,ei,ni,si,ek,nk,sk,gi,gk,TB,SB,Int.reduceToNat,Nat.reduceAdd,Nat.reduceEqDiff,Nat.reduceLT,Nat.reduceMod,Nat.reducePow,Nat.reduceSub,if_true,reduceIte]
         refine⟨by unfold inI;omega,by omega,by omega,by omega,by unfold inI;omega,by omega,by omega,by omega,by omega,?_⟩
         refine zbk hq2 (by simp [renL,zah]) (by simp [AEnd.noid,zah]) ?_
         try simp -implicitDefEqProofs only [LM11,LB30,eq_self,zab (h:=T68),zae,zac,zaa,zal,TB,SB,Int.reduceToNat,Nat.reduceAdd,Nat.reduceEqDiff,Nat.reduceLT,Nat.reduceMod,Nat.reducePow,Nat.reduceSub,if_true,reduceIte]
         exact zaP rfl
        ·refine⟨by unfold inI;omega,by unfold inI;omega,?_⟩
         rw [zaC]
         refine⟨(i,k),⟨by (show i≤a.length);omega,by (show k≤b.length);omega,(List.append_inj heq (by rw [ai,bk])).1⟩,by (show i < i+1);omega,zav (q:=[0,1,2,3]) rfl rfl (by decide) ?_ ?_⟩
         ·try simp only [LM5,List.set_cons_zero,List.set_cons_succ,List.length_cons,List.length_nil,Nat.reduceAdd,List.cons_append,List.nil_append,zad u8 zak,AV.ren,zaf u8 zak,zaf u32 zan,zaf i64 zag,zaf u64 zao,zad i64 zag,List.getElem?_cons_zero,List.getElem?_cons_succ,Option.map_some,true_and,and_true,or_true,true_or,reduceCtorEq,false_or,Option.some.injEq,Blk.rw.injEq,AV.sl.injEq,AV.ref.injEq,AV.ptr.injEq]
          rw [zc6,zc6]
          exact⟨rfl,rfl⟩
         ·show zar _ _ _ [.rw ((hds H a).map str),.rw ((hds H b).map str),.rw (a.map str),.rw (b.map str)]
          rw [zaf str zah,zaf str zah,zaf str zah,zaf str zah]
          exact⟨rfl,rfl,rfl,rfl,trivial⟩
    have d3:=decide_eq_true c3
    have hk:k < m.length:=by omega
    try simp -implicitDefEqProofs only [LM11,LB30,eq_self,zab (h:=T68),zae,zac,zaa,zal,d3,TB,SB,Int.reduceToNat,Nat.reduceAdd,Nat.reduceEqDiff,Nat.reduceLT,Nat.reduceMod,Nat.reducePow,Nat.reduceSub,if_true,reduceIte]
    refine⟨by omega,by omega,by omega,hk,?_⟩
    have hkm:m.getD k []∈m:=by rw [List.getD_eq_getElem?_getD,List.getElem?_eq_getElem hk];exact List.getElem_mem hk
    have hpu:=zhX (m.getD k [])
    have hfv:=fewV_ok (m.getD k []) (g2 _ hkm)
    have hnx:=zfJ (hdN H b b.length) (m.getD k []) (by rw [zf6 hH];decide)
    have hpn:=putNext (hdN H b b.length) (m.getD k [])
    have hpf:=@put_few (m.getD k [])
    generalize hO:m.getD k []=o at hpu hfv hnx hpn hpf ⊢
    simp only [zgU]
    try simp -implicitDefEqProofs only [LM11,LB30,eq_self,zab (h:=T68),zae,zac,zaa,zal,TB,SB,Int.reduceToNat,Nat.reduceAdd,Nat.reduceEqDiff,Nat.reduceLT,Nat.reduceMod,Nat.reducePow,Nat.reduceSub,if_true,reduceIte]
    refine hpu.pure (zg0 o _) ?_
    rintro _ σ rfl
    refine⟨zcN _ _ _,?_⟩
    try simp -implicitDefEqProofs only [LM11,LB30,eq_self,zab (h:=T68),zae,zac,zaa,zal,TB,SB,Int.reduceToNat,Nat.reduceAdd,Nat.reduceEqDiff,Nat.reduceLT,Nat.reduceMod,Nat.reducePow,Nat.reduceSub,if_true,reduceIte]
    refine⟨by omega,by omega,by omega,hk,?_⟩
    rw [hO]
    simp only [zgU]
    try simp -implicitDefEqProofs only [LM11,LB30,eq_self,zab (h:=T68),zae,zac,zaa,zal,TB,SB,Int.reduceToNat,Nat.reduceAdd,Nat.reduceEqDiff,Nat.reduceLT,Nat.reduceMod,Nat.reducePow,Nat.reduceSub,if_true,reduceIte]
    refine hfv.pure (zg0 o _) ?_
    rintro _ σ ⟨fo,rfl,fV⟩
    refine⟨zaG _ _,?_⟩
    try simp -implicitDefEqProofs only [LM11,LB30,eq_self,zab (h:=T68),zae,zac,zaa,zal,TB,SB,Int.reduceToNat,Nat.reduceAdd,Nat.reduceEqDiff,Nat.reduceLT,Nat.reduceMod,Nat.reducePow,Nat.reduceSub,if_true,reduceIte]
    refine⟨by omega,by omega,by omega,hk,?_⟩
    rw [hO]
    simp only [zgU]
    try simp -implicitDefEqProofs only [LM11,LB30,eq_self,zab (h:=T68),zae,zac,zaa,zal,TB,SB,Int.reduceToNat,Nat.reduceAdd,Nat.reduceEqDiff,Nat.reduceLT,Nat.reduceMod,Nat.reducePow,Nat.reduceSub,if_true,reduceIte]
    refine hnx.pure (noid_h1 _ o _) ?_
    rintro _ σ rfl
    refine⟨zcN _ _ _,?_⟩
    rcases hpn with ⟨p,e0,e1,e2⟩ | ⟨e1,e2⟩
    ·rw [e1,e2]
     cases fo with
     | false =>
      try simp -implicitDefEqProofs only [LM11,LB30,eq_self,zab (h:=T68),zae,zac,zaa,zal,show decide ((1:Int)=0)=false from rfl,TB,SB,Int.reduceToNat,Nat.reduceAdd,Nat.reduceEqDiff,Nat.reduceLT,Nat.reduceMod,Nat.reducePow,Nat.reduceSub,if_true,reduceIte]
      exact zaP rfl
     | true =>
      have hp:p.length≤1000000:=by
       rcases hpf (fV rfl) with ⟨p',q1,q2,-⟩ | q1
       ·rw [e1] at q1;cases q1;exact q2
       ·rw [e1] at q1;cases q1
      try simp -implicitDefEqProofs only [LM11,LB30,eq_self,zab (h:=T68),zae,zac,zaa,zal,show decide ((1:Int)=0)=false from rfl,TB,SB,Int.reduceToNat,Nat.reduceAdd,Nat.reduceEqDiff,Nat.reduceLT,Nat.reduceMod,Nat.reducePow,Nat.reduceSub,if_true,reduceIte]
      refine zbT str zae rfl rfl T68 T68 (zez _) T9 zcJ (l:=b) (ys:=[p]) (m:=1) rfl rfl rfl (by omega) (by simp only [tyStr];omega) ?_
      try simp -implicitDefEqProofs only [LM11,LB30,eq_self,zab (h:=T68),zae,zac,zaa,zal,show decide ((1:Int)=0)=false from rfl,TB,SB,Int.reduceToNat,Nat.reduceAdd,Nat.reduceEqDiff,Nat.reduceLT,Nat.reduceMod,Nat.reducePow,Nat.reduceSub,if_true,reduceIte]
      refine zbT str zae rfl rfl T68 T68 (zez _) T9 zcJ (l:=hds H b) (ys:=[shaR (hdN H b b.length++p)]) (m:=1) rfl (by rw [zf5]) rfl (by omega) (by simp only [tyStr];omega) ?_
      try simp -implicitDefEqProofs only [LM11,LB30,eq_self,zab (h:=T68),zae,zac,zaa,zal,show decide ((1:Int)=0)=false from rfl,TB,SB,Int.reduceToNat,Nat.reduceAdd,Nat.reduceEqDiff,Nat.reduceLT,Nat.reduceMod,Nat.reducePow,Nat.reduceSub,if_true,reduceIte]
      refine⟨by unfold inI;omega,?_⟩
      rw [zaC]
      refine⟨(k+1,b++[p]),⟨by (show k+1≤m.length);omega,by (show (b++[p]).length≤k+1);simp;omega,pok_app i6 hp⟩,by (show m.length - (k+1) < m.length - k);omega,zav (q:=[0,7,2,5]) rfl rfl (by decide) ?_ ?_⟩
      ·try simp only [LM5,List.set_cons_zero,List.set_cons_succ,List.length_cons,List.length_nil,Nat.reduceAdd,List.cons_append,List.nil_append,zad u8 zak,AV.ren,zaf u8 zak,zaf u32 zan,zaf i64 zag,zaf u64 zao,zad i64 zag,List.getElem?_cons_zero,List.getElem?_cons_succ,Option.map_some,true_and,and_true,or_true,true_or,reduceCtorEq,false_or,Option.some.injEq,Blk.rw.injEq,AV.sl.injEq,AV.ref.injEq,AV.ptr.injEq]
       rw [zc6,zc6]
       exact⟨rfl,rfl,by simp,.inr (hdN_last _ _ _),by simp,.inr (by omega)⟩
      ·show zar _ _ _ [.rw ((hds H a).map str),.rw ((hds H (b++[p])).map str),.rw (a.map str),.rw ((b++[p]).map str)]
       rw [hds_app,zaf str zah,zaf str zah,zaf str zah,zaf str zah]
       exact⟨rfl,rfl,rfl,rfl,trivial⟩
    ·rw [e1,e2]
     cases fo with
     | false =>
      try simp -implicitDefEqProofs only [LM11,LB30,eq_self,zab (h:=T68),zae,zac,zaa,zal,show decide ((1:Int)=0)=false from rfl,TB,SB,Int.reduceToNat,Nat.reduceAdd,Nat.reduceEqDiff,Nat.reduceLT,Nat.reduceMod,Nat.reducePow,Nat.reduceSub,if_true,reduceIte]
      exact zaP rfl
     | true =>
      try simp -implicitDefEqProofs only [LM11,LB30,eq_self,zab (h:=T68),zae,zac,zaa,zal,show decide ((1:Int)=0)=false from rfl,TB,SB,Int.reduceToNat,Nat.reduceAdd,Nat.reduceEqDiff,Nat.reduceLT,Nat.reduceMod,Nat.reducePow,Nat.reduceSub,if_true,reduceIte]
      refine⟨by unfold inI;omega,?_⟩
      rw [zaC]
      refine⟨(k+1,b),⟨by (show k+1≤m.length);omega,by (show b.length≤k+1);omega,i6⟩,by (show m.length - (k+1) < m.length - k);omega,zav (q:=[0,1,2,3]) rfl rfl (by decide) ?_ ?_⟩
      ·try simp only [LM5,List.set_cons_zero,List.set_cons_succ,List.length_cons,List.length_nil,Nat.reduceAdd,List.cons_append,List.nil_append,zad u8 zak,AV.ren,zaf u8 zak,zaf u32 zan,zaf i64 zag,zaf u64 zao,zad i64 zag,List.getElem?_cons_zero,List.getElem?_cons_succ,Option.map_some,true_and,and_true,or_true,true_or,reduceCtorEq,false_or,Option.some.injEq,Blk.rw.injEq,AV.sl.injEq,AV.ref.injEq,AV.ptr.injEq]
       rw [zc6,zc6]
       exact⟨rfl,rfl,.inr (by omega)⟩
      ·simp [zar,Blk.ren,zad str zah,renL,zah]
  have d3:=decide_eq_true c3
  have hk:k < l.length:=by omega
  try simp -implicitDefEqProofs only [LM11,LB30,eq_self,zab (h:=T68),zae,zac,zaa,zal,d3,TB,SB,Int.reduceToNat,Nat.reduceAdd,Nat.reduceEqDiff,Nat.reduceLT,Nat.reduceMod,Nat.reducePow,Nat.reduceSub,if_true,reduceIte]
  refine⟨by omega,by omega,by omega,hk,?_⟩
  have hkm:l.getD k []∈l:=by rw [List.getD_eq_getElem?_getD,List.getElem?_eq_getElem hk];exact List.getElem_mem hk
  have hpu:=zhX (l.getD k [])
  have hfv:=fewV_ok (l.getD k []) (g1 _ hkm)
  have hnx:=zfJ (hdN H a a.length) (l.getD k []) (by rw [zf6 hH];decide)
  have hpn:=putNext (hdN H a a.length) (l.getD k [])
  have hpf:=@put_few (l.getD k [])
  generalize hO:l.getD k []=o at hpu hfv hnx hpn hpf ⊢
  simp only [zgU]
  try simp -implicitDefEqProofs only [LM11,LB30,eq_self,zab (h:=T68),zae,zac,zaa,zal,TB,SB,Int.reduceToNat,Nat.reduceAdd,Nat.reduceEqDiff,Nat.reduceLT,Nat.reduceMod,Nat.reducePow,Nat.reduceSub,if_true,reduceIte]
  refine hpu.pure (zg0 o _) ?_
  rintro _ σ rfl
  refine⟨zcN _ _ _,?_⟩
  try simp -implicitDefEqProofs only [LM11,LB30,eq_self,zab (h:=T68),zae,zac,zaa,zal,TB,SB,Int.reduceToNat,Nat.reduceAdd,Nat.reduceEqDiff,Nat.reduceLT,Nat.reduceMod,Nat.reducePow,Nat.reduceSub,if_true,reduceIte]
  refine⟨by omega,by omega,by omega,hk,?_⟩
  rw [hO]
  simp only [zgU]
  try simp -implicitDefEqProofs only [LM11,LB30,eq_self,zab (h:=T68),zae,zac,zaa,zal,TB,SB,Int.reduceToNat,Nat.reduceAdd,Nat.reduceEqDiff,Nat.reduceLT,Nat.reduceMod,Nat.reducePow,Nat.reduceSub,if_true,reduceIte]
  refine hfv.pure (zg0 o _) ?_
  rintro _ σ ⟨fo,rfl,fV⟩
  refine⟨zaG _ _,?_⟩
  try simp -implicitDefEqProofs only [LM11,LB30,eq_self,zab (h:=T68),zae,zac,zaa,zal,TB,SB,Int.reduceToNat,Nat.reduceAdd,Nat.reduceEqDiff,Nat.reduceLT,Nat.reduceMod,Nat.reducePow,Nat.reduceSub,if_true,reduceIte]
  refine⟨by omega,by omega,by omega,hk,?_⟩
  rw [hO]
  simp only [zgU]
  try simp -implicitDefEqProofs only [LM11,LB30,eq_self,zab (h:=T68),zae,zac,zaa,zal,TB,SB,Int.reduceToNat,Nat.reduceAdd,Nat.reduceEqDiff,Nat.reduceLT,Nat.reduceMod,Nat.reducePow,Nat.reduceSub,if_true,reduceIte]
  refine hnx.pure (noid_h1 _ o _) ?_
  rintro _ σ rfl
  refine⟨zcN _ _ _,?_⟩
  rcases hpn with ⟨p,e0,e1,e2⟩ | ⟨e1,e2⟩
  ·rw [e1,e2]
   cases fo with
   | false =>
    try simp -implicitDefEqProofs only [LM11,LB30,eq_self,zab (h:=T68),zae,zac,zaa,zal,show decide ((1:Int)=0)=false from rfl,TB,SB,Int.reduceToNat,Nat.reduceAdd,Nat.reduceEqDiff,Nat.reduceLT,Nat.reduceMod,Nat.reducePow,Nat.reduceSub,if_true,reduceIte]
    exact zaP rfl
   | true =>
    have hp:p.length≤1000000:=by
     rcases hpf (fV rfl) with ⟨p',q1,q2,-⟩ | q1
     ·rw [e1] at q1;cases q1;exact q2
     ·rw [e1] at q1;cases q1
    try simp -implicitDefEqProofs only [LM11,LB30,eq_self,zab (h:=T68),zae,zac,zaa,zal,show decide ((1:Int)=0)=false from rfl,TB,SB,Int.reduceToNat,Nat.reduceAdd,Nat.reduceEqDiff,Nat.reduceLT,Nat.reduceMod,Nat.reducePow,Nat.reduceSub,if_true,reduceIte]
    refine zbT str zae rfl rfl T68 T68 (zez _) T9 zcJ (l:=a) (ys:=[p]) (m:=1) rfl rfl rfl (by omega) (by simp only [tyStr];omega) ?_
    try simp -implicitDefEqProofs only [LM11,LB30,eq_self,zab (h:=T68),zae,zac,zaa,zal,show decide ((1:Int)=0)=false from rfl,TB,SB,Int.reduceToNat,Nat.reduceAdd,Nat.reduceEqDiff,Nat.reduceLT,Nat.reduceMod,Nat.reducePow,Nat.reduceSub,if_true,reduceIte]
    refine zbT str zae rfl rfl T68 T68 (zez _) T9 zcJ (l:=hds H a) (ys:=[shaR (hdN H a a.length++p)]) (m:=1) rfl (by rw [zf5]) rfl (by omega) (by simp only [tyStr];omega) ?_
    try simp -implicitDefEqProofs only [LM11,LB30,eq_self,zab (h:=T68),zae,zac,zaa,zal,show decide ((1:Int)=0)=false from rfl,TB,SB,Int.reduceToNat,Nat.reduceAdd,Nat.reduceEqDiff,Nat.reduceLT,Nat.reduceMod,Nat.reducePow,Nat.reduceSub,if_true,reduceIte]
    refine⟨by unfold inI;omega,?_⟩
    rw [zaC]
    refine⟨(k+1,a++[p]),⟨by (show k+1≤l.length);omega,by (show (a++[p]).length≤k+1);simp;omega,pok_app i3 hp⟩,by (show l.length - (k+1) < l.length - k);omega,zav (q:=[6,1,4]) rfl rfl (by decide) ?_ ?_⟩
    ·try simp only [LM5,List.set_cons_zero,List.set_cons_succ,List.length_cons,List.length_nil,Nat.reduceAdd,List.cons_append,List.nil_append,zad u8 zak,AV.ren,zaf u8 zak,zaf u32 zan,zaf i64 zag,zaf u64 zao,zad i64 zag,List.getElem?_cons_zero,List.getElem?_cons_succ,Option.map_some,true_and,and_true,or_true,true_or,reduceCtorEq,false_or,Option.some.injEq,Blk.rw.injEq,AV.sl.injEq,AV.ref.injEq,AV.ptr.injEq]
     rw [zc6,zc6]
     exact⟨rfl,rfl,by simp,.inr (hdN_last _ _ _),by simp,.inr (by omega)⟩
    ·show zar _ _ _ [.rw ((hds H (a++[p])).map str),.rw ([H].map str),.rw ((a++[p]).map str)]
     rw [hds_app,zaf str zah,zaf str zah,zaf str zah]
     exact⟨rfl,rfl,rfl,trivial⟩
  ·rw [e1,e2]
   cases fo with
   | false =>
    try simp -implicitDefEqProofs only [LM11,LB30,eq_self,zab (h:=T68),zae,zac,zaa,zal,show decide ((1:Int)=0)=false from rfl,TB,SB,Int.reduceToNat,Nat.reduceAdd,Nat.reduceEqDiff,Nat.reduceLT,Nat.reduceMod,Nat.reducePow,Nat.reduceSub,if_true,reduceIte]
    exact zaP rfl
   | true =>
    try simp -implicitDefEqProofs only [LM11,LB30,eq_self,zab (h:=T68),zae,zac,zaa,zal,show decide ((1:Int)=0)=false from rfl,TB,SB,Int.reduceToNat,Nat.reduceAdd,Nat.reduceEqDiff,Nat.reduceLT,Nat.reduceMod,Nat.reducePow,Nat.reduceSub,if_true,reduceIte]
    refine⟨by unfold inI;omega,?_⟩
    rw [zaC]
    refine⟨(k+1,a),⟨by (show k+1≤l.length);omega,by (show a.length≤k+1);omega,i3⟩,by (show l.length - (k+1) < l.length - k);omega,zav (q:=[0,1,2]) rfl rfl (by decide) ?_ ?_⟩
    ·try simp only [LM5,List.set_cons_zero,List.set_cons_succ,List.length_cons,List.length_nil,Nat.reduceAdd,List.cons_append,List.nil_append,zad u8 zak,AV.ren,zaf u8 zak,zaf u32 zan,zaf i64 zag,zaf u64 zao,zad i64 zag,List.getElem?_cons_zero,List.getElem?_cons_succ,Option.map_some,true_and,and_true,or_true,true_or,reduceCtorEq,false_or,Option.some.injEq,Blk.rw.injEq,AV.sl.injEq,AV.ref.injEq,AV.ptr.injEq]
     rw [zc6,zc6]
     exact⟨rfl,rfl,.inr (by omega)⟩
    ·simp [zar,Blk.ren,zad str zah,renL,zah]
end Go.Proofs.YtdmiflfhaobngaaGreatDoor
end

section
namespace Go.Proofs.YtdmiflfhaobngaaGreatDoor
open Go Go.Eng
structure Vb where
 row:List Vo
 le:row.length≤9223372036854775807
def vbC (o:Vb):List AV:=vvC o.row
theorem vbF:RowF vbC 1:=⟨fun _=>rfl,fun _=>rfl,fun q a=>vvF.ren q a.row⟩
def zhz (w:World) (v:Value):Prop:=IsRows w vbC v
section
open Go.ChangeShapes Go.WideShapes Go.ChangeAt Go.RowKit
variable {H : Type} {enc : TypeId × Value → H} {P : Program} {w : World} {base : Nat} {held : Bool}
theorem row_vb {t tO ts ti:TypeId} {o0 o1 o2:Field} (hv:P.underlying t=some (.slice tO)) (ho:P.underlying tO=some (.struct #[o0,o1,o2])) (i0:o0.type=ti∧o0.offset=0) (i1:o1.type=ts∧o1.offset=1) (i2:o2.type=ts∧o2.offset=2)
  (hti:P.underlying ti=some (.int .i64)) (hts:P.underlying ts=some .string) (c0:P.cellsOf ti=1) (c2:P.cellsOf ts=1) (c5:P.cellsOf tO=3) (fuel:Nat) (cs:List Value) (y:DataW H × List MemPlace)
  (hy:DataW.trod enc P w base (fun _=>true) held fuel t cs=some y) (hn:cs.length=1):∃ a:Vb,reps w O0 [] (vbC a) cs:=by
 match cs,hn with
 | [v0],_ =>
  obtain⟨o,ho1,r1⟩:=rep_rows (open_rows voF (by decide) hv c5 (row_vo ho i0 i1 i2 hts hti c2 c0) hy)
  exact⟨⟨o,ho1⟩,⟨_,_,rfl,r1,rfl⟩⟩
theorem open_voss {r:Reach} {b0:Nat} {t1 t tO ts ti:TypeId} {o0 o1 o2:Field} {v:Value} {d:DataW H} {ps:List MemPlace} (ht1:P.underlying t1=some (.slice t)) (hv:P.underlying t=some (.slice tO)) (ho:P.underlying tO=some (.struct #[o0,o1,o2])) (i0:o0.type=ti∧o0.offset=0) (i1:o1.type=ts∧o1.offset=1) (i2:o2.type=ts∧o2.offset=2)
  (hti:P.underlying ti=some (.int .i64)) (hts:P.underlying ts=some .string) (c0:P.cellsOf ti=1) (c2:P.cellsOf ts=1) (c5:P.cellsOf tO=3) (c6:P.cellsOf t=1)
  (hval:Value.okWide P w r b0 t1 v) (hd:DataW.Trod enc P w base (fun _=>true) held t1 v d ps):zhz w v:=by
 obtain⟨a,len,cap,rfl⟩:=okWide_slice ht1 hval
 obtain⟨fuel,hf⟩:=hd
 have hf':DataW.trod enc P w base (fun _=>true) held fuel t1 [.slice a len cap]=some (d,ps):=hf
 exact open_rows vbF (by decide) ht1 c6 (row_vb hv ho i0 i1 i2 hti hts c0 c2 c5) hf'
end
theorem rep_voss {w:World} {v:Value} (h:zhz w v):∃ l:List (List Vo),l.length≤9223372036854775807∧(∀ o∈l,o.length≤9223372036854775807)∧rep w (own (fun _=>False) [] []) [] (vvA l) v:=by
 obtain⟨L,hL,r1⟩:=rep_rows h
 have e:∀ L:List Vb,L.flatMap vbC=(L.map Vb.row).flatMap vvC:=fun L=>by
  induction L with
  | nil=>rfl
  | cons a L ih=>rw [List.flatMap_cons,List.map_cons,List.flatMap_cons,ih];rfl
 refine⟨L.map Vb.row,by rw [List.length_map];exact hL,fun o ho=>?_,?_⟩
 ·obtain⟨a,_,rfl⟩:=List.mem_map.1 ho
  exact a.le
 ·unfold vvA
  rw [← e,List.length_map]
  exact r1
end Go.Proofs.YtdmiflfhaobngaaGreatDoor
end

section
namespace Go.Eng
open Go
theorem Glob.of_vars3 [Globs] {w:World} (h:∀ g cs,Globs.tab g=some cs→∃ (P:Program) (n:String),P.globalNamed n=some g∧w.var? P n=some cs.toArray) (hi:∀ g,g∈Globs.ints→∃ n:Int,w.cell? ⟨g,0,none⟩=some (.int .i64 n)) (he:∀ g,g∈Globs.errs→∃ (t:TypeId) (v:Value),w.cell? ⟨g,0,none⟩=some (.iface t v)):Glob w (Go.Eng.own (fun _=>False) [] []):=by
 have no:∀ g,¬ Go.Eng.own (fun _=>False) [] [] g:=by
  rintro g (hb | ⟨i,cs,hi,_⟩)
  ·exact hb
  ·simp at hi
 refine⟨fun g cs hg=>?_,fun g hg=>?_,fun g hg=>?_⟩
 ·obtain⟨P,n,h1,h2⟩:=h g cs hg
  have hb:∃ e f,w.heap[g]?=some (.cells cs.toArray e f):=by
   have h3:=h2
   simp only [World.var?,h1,Option.bind_some] at h3
   split at h3
   ·rename_i cs' e' f' e
    cases Option.some.inj h3
    exact⟨_,_,e⟩
   ·cases h3
  refine⟨no g,?_,hb,fun j v hv=>?_⟩
  ·obtain⟨_,_,e⟩:=hb
   rcases Nat.lt_or_ge g w.heap.size with hlt | hge
   ·exact hlt
   ·rw [Array.getElem?_eq_none hge] at e;cases e
  ·rw [World.var?_cell h1 h2 j,List.getElem?_toArray,hv]
 ·obtain⟨n,hn⟩:=hi g hg
  refine⟨no g,?_,n,hn⟩
  rcases Nat.lt_or_ge g w.heap.size with hlt | hge
  ·exact hlt
  ·simp [World.cell?,Array.getElem?_eq_none hge] at hn
 ·obtain⟨t,v,hn⟩:=he g hg
  refine⟨no g,?_,t,v,hn⟩
  rcases Nat.lt_or_ge g w.heap.size with hlt | hge
  ·exact hlt
  ·simp [World.cell?,Array.getElem?_eq_none hge] at hn
theorem wrap_and_shaped {H:Type} {enc:TypeId × Value→H} {a:Assume} {C:Checked} {os:Os} {f:FuncId} {fn:Func} {s:ChangeSpec} {conds:List PathCond} {apart fresh handsOn again:Bool} {X:World→Array Value→Prop}
  (hX:∀ (w w':World) (args:Array Value),w.heap=w'.heap→X w args→X w' args)
  (h1:ownKnob C.prog.godebug=none) (h2:os.Started) (h3:C.prog.inits.idxOf? f=none) (hfn:C.prog.funcs[f]?=some fn)
  (h4:∃ (w:World) (tape:Tape) (i:Input),w.os=os∧(w.forCall tape i).Shaped C.prog∧i.vars=[]∧Input.okWide C.prog (w.forCall tape i) .any w.heap.size f i ∧
   ((s.pre enc C.prog fn conds apart (w.forCall tape i).memory i.args∧X (w.forCall tape i).memory i.args)∧sizedMet enc C.prog fn (OpenSpec.ofChange s) apart (w.forCall tape i).memory i.args)∧a.holds C.prog (lone (Frame.enter C.prog f i.args .normal) [] (w.forCall tape i)))
  (h5:∀ (W:World) (base:Nat) (args:Array Value) (ds gs:List (DataW H)) (before:List MemPlace),
   (∀ (j:Nat) t v,fn.params[j]?=some t→args[j]?=some v→Value.okWide C.prog W .any base t v) →
   DataW.Whole enc C.prog fn.params.toList s.vars apart W args.toList ds gs before →
   conds.all (PathCond.test C.prog ⟨fn.params.toList,ds,s.plain.varTypes C.prog,gs⟩)=true →
   (DataW.weightsEach C.prog (fn.params.toList++s.plain.varTypes C.prog) (ds++gs)).all (·≤reachBytes)=true→X W args→W.ShapedOpen C.prog →
   a.holds C.prog (lone (Frame.enter C.prog f args .normal) [] W) →
   Calls C.prog f args W fun e W'=>∃ v,e=.returned v∧s.post enc C.prog fn apart fresh handsOn again W args v W') :
  ReturnsInHanded a C os f .any (fun w args=>(s.pre enc C.prog fn conds apart w args∧X w args)∧sizedMet enc C.prog fn (OpenSpec.ofChange s) apart w args) (s.post enc C.prog fn apart fresh handsOn again):=by
 refine returnsInHanded_of_calls h1 h2 h3 h4 ?_
 intro w tape i _ hsh _ hok hpre hh
 have hval:∀ (j:Nat) t v,fn.params[j]?=some t→i.args[j]?=some v→Value.okWide C.prog (w.forCall tape i) .any w.heap.size t v:=by
  obtain⟨_,_,_,fn',hfn',_,_,_,_,hv⟩:=hok
  cases Option.some.inj (hfn'.symm.trans hfn)
  exact hv
 obtain⟨⟨⟨ds,gs,bf,hw,hc⟩,hx⟩,hz⟩:=hpre
 have key:=h5 (w.forCall tape i) w.heap.size i.args ds gs bf hval (DataW.Whole.of_heap (w':=w.forCall tape i) (by rfl) hw) hc (hz.weights hw) (hX _ _ _ (by rfl) hx) hsh hh
 refine key.mono ?_
 rintro e W' ⟨v,rfl,hp⟩
 exact ChangeSpec.post_blind hp
end Go.Eng
namespace Go.Proofs.YtdmiflfhaobngaaGreatDoor
open Go Go.Eng
def zg8:List (String × DataW Unit):=Rows.vaultChainRow.laid
def nm (i : Nat) : String := (zg8[i]?.map (·.1)).getD ""
def dt (i:Nat):DataW Unit:=(zg8[i]?.map (·.2)).getD .nil
theorem laid3_tab:zg8=[(nm 0,dt 0),(nm 1,Lib.tabData .u32 (firstL.map fun b=>(b.toNat:Int))),(nm 2,Lib.tabData .u32 (kL.map fun b=>(b.toNat:Int))),(nm 3,dt 3)]:=by kernel_rfl
theorem ownK:ownKnob Tryz.prog.godebug=none:=by kernel_rfl
theorem laidOut:laidOutB Tryz.prog=true:=by kernel_rfl
theorem glob_of_laid {w:World} (h:laidMetH Tryz.prog zg8 w) (hsh:w.ShapedOpen Tryz.prog):Glob w (Go.Eng.own (fun _=>False) [] []):=by
 rw [MakeChecks.laidMetH_plain _ _ _ (by kernel_rfl),laid3_tab] at h
 have t2:=Lib.tabIs_of_head (g:=0) (by kernel_rfl) (by kernel_rfl) Tryz.underlying146 Tryz.underlying113 (by kernel_rfl) (by kernel_rfl) h.tail
 have t3:=Lib.tabIs_of_head (g:=1) (by kernel_rfl) (by kernel_rfl) Tryz.underlying169 Tryz.underlying113 (by kernel_rfl) (by kernel_rfl) h.tail.tail
 refine Glob.of_vars3 (fun g cs hg=>?_) (fun g hg=>?_) (fun g hg=>absurd (show g∈([]:List Nat) from hg) (by simp))
 ·match g,hg with
  | 0,hg =>
   obtain rfl:=Option.some.inj (show some (firstL.map zih)=some cs from hg)
   exact⟨_,_,(by kernel_rfl:Tryz.prog.globalNamed (nm 1)=some 0),by rw [show (firstL.map zih)=(firstL.map fun b=>(b.toNat:Int)).map fun z=>Value.int .u32 z by rw [List.map_map];rfl];exact t2⟩
  | 1,hg =>
   obtain rfl:=Option.some.inj (show some (kL.map zih)=some cs from hg)
   exact⟨_,_,(by kernel_rfl:Tryz.prog.globalNamed (nm 2)=some 1),by rw [show (kL.map zih)=(kL.map fun b=>(b.toNat:Int)).map fun z=>Value.int .u32 z by rw [List.map_map];rfl];exact t3⟩
  | _+2,hg=>exact nomatch (show none=some cs from hg)
 ·have hg':g=2:=by
   have:g∈[2]:=hg
   simpa using this
  subst hg'
  exact Go.Proofs.cell_of_shapedOpen_int (zero:=#[.int .i64 0]) (t:=3) hsh (of_decide_eq_true (by kernel_rfl)) (by kernel_rfl) rfl (by kernel_rfl) (by kernel_rfl) Tryz.underlying3
theorem laid_met (os:Os) (args:Array Value):laidMetH Tryz.prog zg8 ((World.laidAll Tryz.prog os zg8).forCall (fun _ _=>0) ⟨#[],args,[]⟩).memory:=by
 rw [MakeChecks.laidMetH_plain _ _ _ (by kernel_rfl)]
 exact laidMet_laidAll _ (by kernel_rfl) (by kernel_rfl)
end Go.Proofs.YtdmiflfhaobngaaGreatDoor
end

