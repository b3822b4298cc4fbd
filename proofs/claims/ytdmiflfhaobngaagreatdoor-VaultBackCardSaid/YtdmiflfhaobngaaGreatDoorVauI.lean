/-
  The document's example, the law's walk, what comes in, and what the listed variables hold. No condition.
-/
import Derived.Test.YtdmiflfhaobngaaGreatDoorVauH
import Derived.WalkKit
import Derived.ProofKit
import Derived.OpenShut
import Derived.ShutString
import Derived.SliceStrings
import Derived.LaidMore
import Derived.Lay
import Derived.LaidHandle
import Derived.Stop.LaidErr
import Derived.Lib.LaidTab
import Derived.Stop.Joined
import Derived.HandedShaped
import Derived.Shelf.Strings.Shaped
set_option linter.unusedSimpArgs false
set_option linter.unusedVariables false
set_option linter.unusedSectionVars false
section
namespace Go.Proofs.YtdmiflfhaobngaaGreatDoor
open Go Go.Eng
set_option linter.defProp false in
def LB28:=And.intro @zaE (And.intro @zaF (And.intro @zaY (And.intro @zaN (And.intro @zaZ (And.intro @zaO (And.intro @zb6 (And.intro @zb7 (And.intro @zb8 (And.intro @za0 (And.intro @za1 (And.intro @za2 (And.intro @zbi (And.intro @zbj (@zbk))))))))))))))
set_option linter.defProp false in
def LM7:=And.intro LM0 (LB28)
theorem zaI {K:AV→Prop} (i j n m:Nat) (h:List UInt8) (k:Int):za3 T 24 [(0,.ref i 0 n 2),(1,.ref j 0 m 2),(2,str h),(3,i64 k)] K=K (.agg [.ref i 0 n 2,.ref j 0 m 2,str h,i64 k]):=by
 simp [za3,T24,T3,T9,T22,tySv,zbD,zaL,zch,zae,zcu,zco,cells_ref,one_ref,zbf,tyStr,tySl,zbE]
theorem frz_It {σ:zah} {id n:Nat} {l:List It} (h:σ[id]?=some (.ro (l.flatMap itC))) (hn:n=l.length):frzA σ (.ref id 0 n 2) (slT l):=by
 subst hn
 refine .inr ⟨_,h,by rw [itF.flen];omega,?_⟩
 rw [List.drop_zero,itF.full]
 rfl
theorem end_sv6 {σ:zah} {K:AV→zah→Prop} (hk:K (.tup [svA s0,i64 6]) []):endQ 0 (.tup [.agg [.lit (.slice none 0 0),.lit (.slice none 0 0),str [],i64 0],i64 6]) σ K :=
 zcE [] (.tup [svA s0,i64 6]) ⟨_,rfl,_,_,rfl,⟨_,rfl,_,_,rfl,.inr ⟨rfl,rfl⟩,_,_,rfl,.inr ⟨rfl,rfl⟩,_,_,rfl,.inl rfl,_,_,rfl,.inl rfl,rfl⟩,_,_,rfl,.inl rfl,rfl⟩ ⟨[],.tup [svA s0,i64 6],[],rfl,rfl,by decide,by simp [AV.ren,renL,zdQ,zag],trivial,hk⟩
theorem end_ap {σ:zah} {i j n m:Nat} {h:List UInt8} {k e:Int} {K:AV→zah→Prop} (B C:List It) (h1:(zcI σ [i,j])[i]?=some (.ro (B.flatMap itC))) (h2:(zcI σ [i,j])[j]?=some (.ro (C.flatMap itC))) (hn:n=B.length) (hm:m=C.length) (hK:K (.tup [svA ⟨B,C,h,k⟩,i64 e]) []):endQ 0 (.tup [.agg [.ref i 0 n 2,.ref j 0 m 2,str h,i64 k],i64 e]) σ K :=
 zcE [i,j] (.tup [svA ⟨B,C,h,k⟩,i64 e]) ⟨_,rfl,_,_,rfl,⟨_,rfl,_,_,rfl,frz_It h1 hn,_,_,rfl,frz_It h2 hm,_,_,rfl,.inl rfl,_,_,rfl,.inl rfl,rfl⟩,_,_,rfl,.inl rfl,rfl⟩ ⟨[],.tup [svA ⟨B,C,h,k⟩,i64 e],[],rfl,rfl,by decide,by simp [AV.ren,renL,zdQ,zag],trivial,hK⟩
set_option maxHeartbeats 3200000 in
theorem ap0_ok (o:Vo) (hk:o.kind=0) (hB:zbK [o]=true) (h:List UInt8) (n:Int) (hC:chkS ⟨[],[],h,n⟩=true) (hn:n < 1073741824):ACalls Tryz.prog 11 [svA ⟨[],[],h,n⟩,.sl ([o].flatMap voC) 1] [] (fun z _=>z=.ret (.tup [svA ⟨[⟨o.label,o.box⟩],[],shaR (h++(putV [o]).1),n+1⟩,i64 0])):=by
 have hck:=zft ⟨[],[],h,n⟩ (by simp) (by simp)
 have hib:=zhx [o]
 rw [hC,if_pos rfl] at hck
 rw [hB] at hib
 obtain⟨-,-,l3,l4,l5⟩:=zfs hC
 have hd:=do0_ok o hk hB [] h l3 n ⟨l4,hn⟩
 have hcl:=zd7 [] (by simp)
 have hc2:=zd7 [] (by simp)
 simp only [zcx,zbV] at hck ⊢
 simp only [List.flatMap_cons,List.flatMap_nil,List.append_nil,zbB,List.length_nil,List.length_cons,Nat.zero_add] at hck hd hcl hc2 ⊢
 refine ACalls.body T_ok Tryz.func11 (by kernel_rfl) rfl Tryz.ntmps11 (congrArg Array.toList Tryz.results11) ?_
 try simp -implicitDefEqProofs only [LM7,eq_self,zab (h:=T68),zae,zac,zaa,zal,zaI,TB,SB,Int.reduceToNat,Nat.reduceAdd,Nat.reduceEqDiff,Nat.reduceLT,Nat.reduceMod,Nat.reducePow,Nat.reduceSub,if_true,reduceIte]
 refine hck.pure (by simp [renL,zaR,AV.ren,zai,zag]) ?_
 rintro _ σ rfl
 refine⟨zag _ _,?_⟩
 try simp -implicitDefEqProofs only [LM7,eq_self,zab (h:=T68),zae,zac,zaa,zal,zaI,TB,SB,Int.reduceToNat,Nat.reduceAdd,Nat.reduceEqDiff,Nat.reduceLT,Nat.reduceMod,Nat.reducePow,Nat.reduceSub,if_true,reduceIte]
 refine hib.pure (by simp [renL,zaR,AV.ren,zai,zag,voC]) ?_
 rintro _ σ rfl
 refine⟨zaG _ _,?_⟩
 try simp -implicitDefEqProofs only [LM7,eq_self,zab (h:=T68),zae,zac,zaa,zal,zaI,TB,SB,Int.reduceToNat,Nat.reduceAdd,Nat.reduceEqDiff,Nat.reduceLT,Nat.reduceMod,Nat.reducePow,Nat.reduceSub,if_true,reduceIte]
 refine zf1 true [[.rw [.sl [] 0,.sl [] 0,str h,i64 n],.rw [.lit (.slice none 0 0),.lit (.slice none 0 0),str [],i64 0]],[.rw [.sl [] 0,.sl [] 0,str h,i64 n],.rw [.lit (.slice none 0 0),.lit (.slice none 0 0),str [],i64 0],.rw []],[.rw [.sl [] 0,.sl [] 0,str h,i64 n],.rw [.lit (.slice none 0 0),.lit (.slice none 0 0),str [],i64 0],.rw [],.rw []]] [2,5] 11 7 24 12 (by kernel_rfl) (by kernel_rfl) (by kernel_rfl) (fun _=>⟨_,T24⟩) rfl ?_
 simp only [List.take_succ_cons,List.take_zero]
 refine wg_q [0,1,2] (.ptr 0 0) (by kernel_rfl) (by kernel_rfl) rfl (by kernel_rfl) ?_ ?_
 ·simp only [qAll,List.getD_cons_zero,List.getD_cons_succ]
  refine⟨?_,?_,?_,trivial⟩
  ·try simp -implicitDefEqProofs only [LM7,eq_self,zab (h:=T68),zae,zac,zaa,zal,zaI,TB,SB,Int.reduceToNat,Nat.reduceAdd,Nat.reduceEqDiff,Nat.reduceLT,Nat.reduceMod,Nat.reducePow,Nat.reduceSub,if_true,reduceIte]
  ·try simp -implicitDefEqProofs only [LM7,eq_self,zab (h:=T68),zae,zac,zaa,zal,zaI,TB,SB,Int.reduceToNat,Nat.reduceAdd,Nat.reduceEqDiff,Nat.reduceLT,Nat.reduceMod,Nat.reducePow,Nat.reduceSub,if_true,reduceIte]
  ·try simp -implicitDefEqProofs only [LM7,eq_self,zab (h:=T68),zae,zac,zaa,zal,zaI,TB,SB,Int.reduceToNat,Nat.reduceAdd,Nat.reduceEqDiff,Nat.reduceLT,Nat.reduceMod,Nat.reducePow,Nat.reduceSub,if_true,reduceIte]
 refine wg_q [0,1,2] (.sl [] 0) (by kernel_rfl) (by kernel_rfl) rfl (by kernel_rfl) ?_ ?_
 ·simp only [qAll,List.getD_cons_zero,List.getD_cons_succ]
  refine⟨?_,?_,?_,trivial⟩
  ·try simp -implicitDefEqProofs only [LM7,eq_self,zab (h:=T68),zae,zac,zaa,zal,zaI,TB,SB,Int.reduceToNat,Nat.reduceAdd,Nat.reduceEqDiff,Nat.reduceLT,Nat.reduceMod,Nat.reducePow,Nat.reduceSub,if_true,reduceIte]
  ·try simp -implicitDefEqProofs only [LM7,eq_self,zab (h:=T68),zae,zac,zaa,zal,zaI,TB,SB,Int.reduceToNat,Nat.reduceAdd,Nat.reduceEqDiff,Nat.reduceLT,Nat.reduceMod,Nat.reducePow,Nat.reduceSub,if_true,reduceIte]
  ·try simp -implicitDefEqProofs only [LM7,eq_self,zab (h:=T68),zae,zac,zaa,zal,zaI,TB,SB,Int.reduceToNat,Nat.reduceAdd,Nat.reduceEqDiff,Nat.reduceLT,Nat.reduceMod,Nat.reducePow,Nat.reduceSub,if_true,reduceIte]
 refine wg_c (.ref 2 0 0 2) (by kernel_rfl) (by kernel_rfl) ?_ ?_
 ·simp only [show ([2,5]:List Nat).idxOf 2=0 from rfl,Nat.zero_add,List.getD_cons_zero,List.getD_cons_succ]
  try simp -implicitDefEqProofs only [LM7,eq_self,zab (h:=T68),zae,zac,zaa,zal,zaI,TB,SB,Int.reduceToNat,Nat.reduceAdd,Nat.reduceEqDiff,Nat.reduceLT,Nat.reduceMod,Nat.reducePow,Nat.reduceSub,if_true,reduceIte]
  refine ACalls.frame ([]) (hcl) rfl (by decide) (by simp [LM12,zar,zas,renL,AV.ren,AEnd.ren,zad str zai,zaq,List.getElem?_cons_zero,List.getElem?_cons_succ]) (by first | rfl | simp [LM12,zar,zas,renL,AV.ren,AEnd.ren,zad str zai,zaq,List.getElem?_cons_zero,List.getElem?_cons_succ]) ?_
  rintro _ _ ⟨rfl,rfl⟩
  refine⟨.ret (.ref 2 0 0 2),[.rw [.sl [] 0,.sl [] 0,str h,i64 n],.rw [.lit (.slice none 0 0),.lit (.slice none 0 0),str [],i64 0],.rw []],(by show zas _ _ ([1,1,0]) ([1,1,0]) 0 _;simp [LM12,zar,zas,renL,AV.ren,AEnd.ren,zad str zai,zaq,List.getElem?_cons_zero,List.getElem?_cons_succ]),(by show AEnd.ren ([1,1,0]) _ _;first | rfl | simp [LM12,zar,zas,renL,AV.ren,AEnd.ren,zad str zai,zaq,List.getElem?_cons_zero,List.getElem?_cons_succ]),?_⟩
  try simp -implicitDefEqProofs only [LM7,eq_self,zab (h:=T68),zae,zac,zaa,zal,zaI,TB,SB,Int.reduceToNat,Nat.reduceAdd,Nat.reduceEqDiff,Nat.reduceLT,Nat.reduceMod,Nat.reducePow,Nat.reduceSub,if_true,reduceIte]
 refine wg_q [0,1,2] (.ptr 0 1) (by kernel_rfl) (by kernel_rfl) rfl (by kernel_rfl) ?_ ?_
 ·simp only [qAll,List.getD_cons_zero,List.getD_cons_succ]
  refine⟨?_,?_,?_,trivial⟩
  ·try simp -implicitDefEqProofs only [LM7,eq_self,zab (h:=T68),zae,zac,zaa,zal,zaI,TB,SB,Int.reduceToNat,Nat.reduceAdd,Nat.reduceEqDiff,Nat.reduceLT,Nat.reduceMod,Nat.reducePow,Nat.reduceSub,if_true,reduceIte]
  ·try simp -implicitDefEqProofs only [LM7,eq_self,zab (h:=T68),zae,zac,zaa,zal,zaI,TB,SB,Int.reduceToNat,Nat.reduceAdd,Nat.reduceEqDiff,Nat.reduceLT,Nat.reduceMod,Nat.reducePow,Nat.reduceSub,if_true,reduceIte]
  ·try simp -implicitDefEqProofs only [LM7,eq_self,zab (h:=T68),zae,zac,zaa,zal,zaI,TB,SB,Int.reduceToNat,Nat.reduceAdd,Nat.reduceEqDiff,Nat.reduceLT,Nat.reduceMod,Nat.reducePow,Nat.reduceSub,if_true,reduceIte]
 refine wg_q [0,1,2] (.sl [] 0) (by kernel_rfl) (by kernel_rfl) rfl (by kernel_rfl) ?_ ?_
 ·simp only [qAll,List.getD_cons_zero,List.getD_cons_succ]
  refine⟨?_,?_,?_,trivial⟩
  ·try simp -implicitDefEqProofs only [LM7,eq_self,zab (h:=T68),zae,zac,zaa,zal,zaI,TB,SB,Int.reduceToNat,Nat.reduceAdd,Nat.reduceEqDiff,Nat.reduceLT,Nat.reduceMod,Nat.reducePow,Nat.reduceSub,if_true,reduceIte]
  ·try simp -implicitDefEqProofs only [LM7,eq_self,zab (h:=T68),zae,zac,zaa,zal,zaI,TB,SB,Int.reduceToNat,Nat.reduceAdd,Nat.reduceEqDiff,Nat.reduceLT,Nat.reduceMod,Nat.reducePow,Nat.reduceSub,if_true,reduceIte]
  ·try simp -implicitDefEqProofs only [LM7,eq_self,zab (h:=T68),zae,zac,zaa,zal,zaI,TB,SB,Int.reduceToNat,Nat.reduceAdd,Nat.reduceEqDiff,Nat.reduceLT,Nat.reduceMod,Nat.reducePow,Nat.reduceSub,if_true,reduceIte]
 refine wg_c (.ref 3 0 0 2) (by kernel_rfl) (by kernel_rfl) ?_ ?_
 ·simp only [show ([2,5]:List Nat).idxOf 5=1 from rfl,Nat.zero_add,List.getD_cons_zero,List.getD_cons_succ]
  try simp -implicitDefEqProofs only [LM7,eq_self,zab (h:=T68),zae,zac,zaa,zal,zaI,TB,SB,Int.reduceToNat,Nat.reduceAdd,Nat.reduceEqDiff,Nat.reduceLT,Nat.reduceMod,Nat.reducePow,Nat.reduceSub,if_true,reduceIte]
  refine ACalls.frame ([]) (hc2) rfl (by decide) (by simp [LM12,zar,zas,renL,AV.ren,AEnd.ren,zad str zai,zaq,List.getElem?_cons_zero,List.getElem?_cons_succ]) (by first | rfl | simp [LM12,zar,zas,renL,AV.ren,AEnd.ren,zad str zai,zaq,List.getElem?_cons_zero,List.getElem?_cons_succ]) ?_
  rintro _ _ ⟨rfl,rfl⟩
  refine⟨.ret (.ref 3 0 0 2),[.rw [.sl [] 0,.sl [] 0,str h,i64 n],.rw [.lit (.slice none 0 0),.lit (.slice none 0 0),str [],i64 0],.rw [],.rw []],(by show zas _ _ ([1,1,1,0]) ([1,1,1,0]) 0 _;simp [LM12,zar,zas,renL,AV.ren,AEnd.ren,zad str zai,zaq,List.getElem?_cons_zero,List.getElem?_cons_succ]),(by show AEnd.ren ([1,1,1,0]) _ _;first | rfl | simp [LM12,zar,zas,renL,AV.ren,AEnd.ren,zad str zai,zaq,List.getElem?_cons_zero,List.getElem?_cons_succ]),?_⟩
  try simp -implicitDefEqProofs only [LM7,eq_self,zab (h:=T68),zae,zac,zaa,zal,zaI,TB,SB,Int.reduceToNat,Nat.reduceAdd,Nat.reduceEqDiff,Nat.reduceLT,Nat.reduceMod,Nat.reducePow,Nat.reduceSub,if_true,reduceIte]
 refine wg_q [0,1,2] (.ptr 0 2) (by kernel_rfl) (by kernel_rfl) rfl (by kernel_rfl) ?_ ?_
 ·simp only [qAll,List.getD_cons_zero,List.getD_cons_succ]
  refine⟨?_,?_,?_,trivial⟩
  ·try simp -implicitDefEqProofs only [LM7,eq_self,zab (h:=T68),zae,zac,zaa,zal,zaI,TB,SB,Int.reduceToNat,Nat.reduceAdd,Nat.reduceEqDiff,Nat.reduceLT,Nat.reduceMod,Nat.reducePow,Nat.reduceSub,if_true,reduceIte]
  ·try simp -implicitDefEqProofs only [LM7,eq_self,zab (h:=T68),zae,zac,zaa,zal,zaI,TB,SB,Int.reduceToNat,Nat.reduceAdd,Nat.reduceEqDiff,Nat.reduceLT,Nat.reduceMod,Nat.reducePow,Nat.reduceSub,if_true,reduceIte]
  ·try simp -implicitDefEqProofs only [LM7,eq_self,zab (h:=T68),zae,zac,zaa,zal,zaI,TB,SB,Int.reduceToNat,Nat.reduceAdd,Nat.reduceEqDiff,Nat.reduceLT,Nat.reduceMod,Nat.reducePow,Nat.reduceSub,if_true,reduceIte]
 refine wg_q [0,1,2] (str h) (by kernel_rfl) (by kernel_rfl) rfl (by kernel_rfl) ?_ ?_
 ·simp only [qAll,List.getD_cons_zero,List.getD_cons_succ]
  refine⟨?_,?_,?_,trivial⟩
  ·try simp -implicitDefEqProofs only [LM7,eq_self,zab (h:=T68),zae,zac,zaa,zal,zaI,TB,SB,Int.reduceToNat,Nat.reduceAdd,Nat.reduceEqDiff,Nat.reduceLT,Nat.reduceMod,Nat.reducePow,Nat.reduceSub,if_true,reduceIte]
  ·try simp -implicitDefEqProofs only [LM7,eq_self,zab (h:=T68),zae,zac,zaa,zal,zaI,TB,SB,Int.reduceToNat,Nat.reduceAdd,Nat.reduceEqDiff,Nat.reduceLT,Nat.reduceMod,Nat.reducePow,Nat.reduceSub,if_true,reduceIte]
  ·try simp -implicitDefEqProofs only [LM7,eq_self,zab (h:=T68),zae,zac,zaa,zal,zaI,TB,SB,Int.reduceToNat,Nat.reduceAdd,Nat.reduceEqDiff,Nat.reduceLT,Nat.reduceMod,Nat.reducePow,Nat.reduceSub,if_true,reduceIte]
 refine wg_q [0,1,2] (.ptr 0 3) (by kernel_rfl) (by kernel_rfl) rfl (by kernel_rfl) ?_ ?_
 ·simp only [qAll,List.getD_cons_zero,List.getD_cons_succ]
  refine⟨?_,?_,?_,trivial⟩
  ·try simp -implicitDefEqProofs only [LM7,eq_self,zab (h:=T68),zae,zac,zaa,zal,zaI,TB,SB,Int.reduceToNat,Nat.reduceAdd,Nat.reduceEqDiff,Nat.reduceLT,Nat.reduceMod,Nat.reducePow,Nat.reduceSub,if_true,reduceIte]
  ·try simp -implicitDefEqProofs only [LM7,eq_self,zab (h:=T68),zae,zac,zaa,zal,zaI,TB,SB,Int.reduceToNat,Nat.reduceAdd,Nat.reduceEqDiff,Nat.reduceLT,Nat.reduceMod,Nat.reducePow,Nat.reduceSub,if_true,reduceIte]
  ·try simp -implicitDefEqProofs only [LM7,eq_self,zab (h:=T68),zae,zac,zaa,zal,zaI,TB,SB,Int.reduceToNat,Nat.reduceAdd,Nat.reduceEqDiff,Nat.reduceLT,Nat.reduceMod,Nat.reducePow,Nat.reduceSub,if_true,reduceIte]
 refine wg_q [0,1,2] (i64 n) (by kernel_rfl) (by kernel_rfl) rfl (by kernel_rfl) ?_ ?_
 ·simp only [qAll,List.getD_cons_zero,List.getD_cons_succ]
  refine⟨?_,?_,?_,trivial⟩
  ·try simp -implicitDefEqProofs only [LM7,eq_self,zab (h:=T68),zae,zac,zaa,zal,zaI,TB,SB,Int.reduceToNat,Nat.reduceAdd,Nat.reduceEqDiff,Nat.reduceLT,Nat.reduceMod,Nat.reducePow,Nat.reduceSub,if_true,reduceIte]
  ·try simp -implicitDefEqProofs only [LM7,eq_self,zab (h:=T68),zae,zac,zaa,zal,zaI,TB,SB,Int.reduceToNat,Nat.reduceAdd,Nat.reduceEqDiff,Nat.reduceLT,Nat.reduceMod,Nat.reducePow,Nat.reduceSub,if_true,reduceIte]
  ·try simp -implicitDefEqProofs only [LM7,eq_self,zab (h:=T68),zae,zac,zaa,zal,zaI,TB,SB,Int.reduceToNat,Nat.reduceAdd,Nat.reduceEqDiff,Nat.reduceLT,Nat.reduceMod,Nat.reducePow,Nat.reduceSub,if_true,reduceIte]
 refine wg_q [0,1,2] (.agg [.ref 2 0 0 2,.ref 3 0 0 2,str h,i64 n]) (by kernel_rfl) (by kernel_rfl) rfl (by kernel_rfl) ?_ ?_
 ·simp only [qAll,List.getD_cons_zero,List.getD_cons_succ]
  refine⟨?_,?_,?_,trivial⟩
  ·try simp -implicitDefEqProofs only [LM7,eq_self,zab (h:=T68),zae,zac,zaa,zal,zaI,TB,SB,Int.reduceToNat,Nat.reduceAdd,Nat.reduceEqDiff,Nat.reduceLT,Nat.reduceMod,Nat.reducePow,Nat.reduceSub,if_true,reduceIte]
  ·try simp -implicitDefEqProofs only [LM7,eq_self,zab (h:=T68),zae,zac,zaa,zal,zaI,TB,SB,Int.reduceToNat,Nat.reduceAdd,Nat.reduceEqDiff,Nat.reduceLT,Nat.reduceMod,Nat.reducePow,Nat.reduceSub,if_true,reduceIte]
  ·try simp -implicitDefEqProofs only [LM7,eq_self,zab (h:=T68),zae,zac,zaa,zal,zaI,TB,SB,Int.reduceToNat,Nat.reduceAdd,Nat.reduceEqDiff,Nat.reduceLT,Nat.reduceMod,Nat.reducePow,Nat.reduceSub,if_true,reduceIte]
 refine wg_f (by kernel_rfl) ?_
 refine wg_n (fun _=>?_)
 simp only [wgL,show (11 < 12) from by decide,if_true,List.length_cons,List.length_nil,Nat.zero_add,Nat.reduceAdd,List.getD_cons_zero,List.getD_cons_succ,List.drop_succ_cons,List.drop_zero]
 simp only [T24]
 rw [show zaL tySv.zero=[.lit (.slice none 0 0),.lit (.slice none 0 0),str [],i64 0] from rfl]
 try simp -implicitDefEqProofs only [LM7,eq_self,zab (h:=T68),zae,zac,zaa,zal,zaI,TB,SB,Int.reduceToNat,Nat.reduceAdd,Nat.reduceEqDiff,Nat.reduceLT,Nat.reduceMod,Nat.reducePow,Nat.reduceSub,if_true,reduceIte]
 refine ACalls.frame ([4,2,3]) (hd) rfl (by decide) (by simp [LM12,zar,zas,renL,AV.ren,AEnd.ren,zad str zai,zaq,List.getElem?_cons_zero,List.getElem?_cons_succ]) (by first | rfl | simp [LM12,zar,zas,renL,AV.ren,AEnd.ren,zad str zai,zaq,List.getElem?_cons_zero,List.getElem?_cons_succ]) ?_
 rintro _ _ ⟨rfl,rfl⟩
 refine⟨.ret (i64 0),[.rw [.sl [] 0,.sl [] 0,str h,i64 n],.rw [.lit (.slice none 0 0),.lit (.slice none 0 0),str [],i64 0],.dead,.rw [],.rw [.ref 5 0 1 2,.ref 3 0 0 2,str (shaR (h++(putV [o]).1)),i64 (n+1)],.rw [str o.label,str o.box]],(by show zas _ _ ([4,4,1,2,0,3]) ([4,4,1,2,0,3]) 0 _;simp [LM12,zar,zas,renL,AV.ren,AEnd.ren,zad str zai,zaq,List.getElem?_cons_zero,List.getElem?_cons_succ]),(by show AEnd.ren ([4,4,1,2,0,3]) _ _;first | rfl | simp [LM12,zar,zas,renL,AV.ren,AEnd.ren,zad str zai,zaq,List.getElem?_cons_zero,List.getElem?_cons_succ]),?_⟩
 try simp -implicitDefEqProofs only [LM7,eq_self,zab (h:=T68),zae,zac,zaa,zal,zaI,TB,SB,Int.reduceToNat,Nat.reduceAdd,Nat.reduceEqDiff,Nat.reduceLT,Nat.reduceMod,Nat.reducePow,Nat.reduceSub,if_true,reduceIte]
 try simp -implicitDefEqProofs only [LM7,eq_self,zab (h:=T68),zae,zac,zaa,zal,zaI,show decide ((0:Int)=0)=true from rfl,TB,SB,Int.reduceToNat,Nat.reduceAdd,Nat.reduceEqDiff,Nat.reduceLT,Nat.reduceMod,Nat.reducePow,Nat.reduceSub,if_true,reduceIte]
 exact end_ap [⟨o.label,o.box⟩] [] rfl rfl rfl rfl rfl
set_option maxHeartbeats 3200000 in
theorem ap1_ok (o:Vo) (hk:o.kind=0) (hB:zbK [o]=true) (y:It) (hy:y.label=o.label) (h:List UInt8) (n:Int) (hC:chkS ⟨[y],[],h,n⟩=true) (hn:n < 1073741824):ACalls Tryz.prog 11 [svA ⟨[y],[],h,n⟩,.sl ([o].flatMap voC) 1] [] (fun z _=>z=.ret (.tup [svA ⟨[⟨o.label,o.box⟩],[],shaR (h++(putV [o]).1),n+1⟩,i64 0])):=by
 have hck:=zft ⟨[y],[],h,n⟩ (by simp) (by simp)
 have hib:=zhx [o]
 rw [hC,if_pos rfl] at hck
 rw [hB] at hib
 obtain⟨-,-,l3,l4,l5⟩:=zfs hC
 have hd:=do1_ok o hk hB y hy [] h l3 n ⟨l4,hn⟩
 have hcl:=zd7 [y] (by simp)
 have hc2:=zd7 [] (by simp)
 simp only [zcx,zbV] at hck ⊢
 simp only [List.flatMap_cons,List.flatMap_nil,List.append_nil,zbB,List.length_nil,List.length_cons,Nat.zero_add] at hck hd hcl hc2 ⊢
 refine ACalls.body T_ok Tryz.func11 (by kernel_rfl) rfl Tryz.ntmps11 (congrArg Array.toList Tryz.results11) ?_
 try simp -implicitDefEqProofs only [LM7,eq_self,zab (h:=T68),zae,zac,zaa,zal,zaI,TB,SB,Int.reduceToNat,Nat.reduceAdd,Nat.reduceEqDiff,Nat.reduceLT,Nat.reduceMod,Nat.reducePow,Nat.reduceSub,if_true,reduceIte]
 refine hck.pure (by simp [renL,zaR,AV.ren,zai,zag]) ?_
 rintro _ σ rfl
 refine⟨zag _ _,?_⟩
 try simp -implicitDefEqProofs only [LM7,eq_self,zab (h:=T68),zae,zac,zaa,zal,zaI,TB,SB,Int.reduceToNat,Nat.reduceAdd,Nat.reduceEqDiff,Nat.reduceLT,Nat.reduceMod,Nat.reducePow,Nat.reduceSub,if_true,reduceIte]
 refine hib.pure (by simp [renL,zaR,AV.ren,zai,zag,voC]) ?_
 rintro _ σ rfl
 refine⟨zaG _ _,?_⟩
 try simp -implicitDefEqProofs only [LM7,eq_self,zab (h:=T68),zae,zac,zaa,zal,zaI,TB,SB,Int.reduceToNat,Nat.reduceAdd,Nat.reduceEqDiff,Nat.reduceLT,Nat.reduceMod,Nat.reducePow,Nat.reduceSub,if_true,reduceIte]
 refine zf1 true [[.rw [.sl [str y.label,str y.box] 1,.sl [] 0,str h,i64 n],.rw [.lit (.slice none 0 0),.lit (.slice none 0 0),str [],i64 0]],[.rw [.sl [str y.label,str y.box] 1,.sl [] 0,str h,i64 n],.rw [.lit (.slice none 0 0),.lit (.slice none 0 0),str [],i64 0],.rw [str y.label,str y.box]],[.rw [.sl [str y.label,str y.box] 1,.sl [] 0,str h,i64 n],.rw [.lit (.slice none 0 0),.lit (.slice none 0 0),str [],i64 0],.rw [str y.label,str y.box],.rw []]] [2,5] 11 7 24 12 (by kernel_rfl) (by kernel_rfl) (by kernel_rfl) (fun _=>⟨_,T24⟩) rfl ?_
 simp only [List.take_succ_cons,List.take_zero]
 refine wg_q [0,1,2] (.ptr 0 0) (by kernel_rfl) (by kernel_rfl) rfl (by kernel_rfl) ?_ ?_
 ·simp only [qAll,List.getD_cons_zero,List.getD_cons_succ]
  refine⟨?_,?_,?_,trivial⟩
  ·try simp -implicitDefEqProofs only [LM7,eq_self,zab (h:=T68),zae,zac,zaa,zal,zaI,TB,SB,Int.reduceToNat,Nat.reduceAdd,Nat.reduceEqDiff,Nat.reduceLT,Nat.reduceMod,Nat.reducePow,Nat.reduceSub,if_true,reduceIte]
  ·try simp -implicitDefEqProofs only [LM7,eq_self,zab (h:=T68),zae,zac,zaa,zal,zaI,TB,SB,Int.reduceToNat,Nat.reduceAdd,Nat.reduceEqDiff,Nat.reduceLT,Nat.reduceMod,Nat.reducePow,Nat.reduceSub,if_true,reduceIte]
  ·try simp -implicitDefEqProofs only [LM7,eq_self,zab (h:=T68),zae,zac,zaa,zal,zaI,TB,SB,Int.reduceToNat,Nat.reduceAdd,Nat.reduceEqDiff,Nat.reduceLT,Nat.reduceMod,Nat.reducePow,Nat.reduceSub,if_true,reduceIte]
 refine wg_q [0,1,2] (.sl [str y.label,str y.box] 1) (by kernel_rfl) (by kernel_rfl) rfl (by kernel_rfl) ?_ ?_
 ·simp only [qAll,List.getD_cons_zero,List.getD_cons_succ]
  refine⟨?_,?_,?_,trivial⟩
  ·try simp -implicitDefEqProofs only [LM7,eq_self,zab (h:=T68),zae,zac,zaa,zal,zaI,TB,SB,Int.reduceToNat,Nat.reduceAdd,Nat.reduceEqDiff,Nat.reduceLT,Nat.reduceMod,Nat.reducePow,Nat.reduceSub,if_true,reduceIte]
  ·try simp -implicitDefEqProofs only [LM7,eq_self,zab (h:=T68),zae,zac,zaa,zal,zaI,TB,SB,Int.reduceToNat,Nat.reduceAdd,Nat.reduceEqDiff,Nat.reduceLT,Nat.reduceMod,Nat.reducePow,Nat.reduceSub,if_true,reduceIte]
  ·try simp -implicitDefEqProofs only [LM7,eq_self,zab (h:=T68),zae,zac,zaa,zal,zaI,TB,SB,Int.reduceToNat,Nat.reduceAdd,Nat.reduceEqDiff,Nat.reduceLT,Nat.reduceMod,Nat.reducePow,Nat.reduceSub,if_true,reduceIte]
 refine wg_c (.ref 2 0 1 2) (by kernel_rfl) (by kernel_rfl) ?_ ?_
 ·simp only [show ([2,5]:List Nat).idxOf 2=0 from rfl,Nat.zero_add,List.getD_cons_zero,List.getD_cons_succ]
  try simp -implicitDefEqProofs only [LM7,eq_self,zab (h:=T68),zae,zac,zaa,zal,zaI,TB,SB,Int.reduceToNat,Nat.reduceAdd,Nat.reduceEqDiff,Nat.reduceLT,Nat.reduceMod,Nat.reducePow,Nat.reduceSub,if_true,reduceIte]
  refine ACalls.frame ([]) (hcl) rfl (by decide) (by simp [LM12,zar,zas,renL,AV.ren,AEnd.ren,zad str zai,zaq,List.getElem?_cons_zero,List.getElem?_cons_succ]) (by first | rfl | simp [LM12,zar,zas,renL,AV.ren,AEnd.ren,zad str zai,zaq,List.getElem?_cons_zero,List.getElem?_cons_succ]) ?_
  rintro _ _ ⟨rfl,rfl⟩
  refine⟨.ret (.ref 2 0 1 2),[.rw [.sl [str y.label,str y.box] 1,.sl [] 0,str h,i64 n],.rw [.lit (.slice none 0 0),.lit (.slice none 0 0),str [],i64 0],.rw [str y.label,str y.box]],(by show zas _ _ ([1,1,0]) ([1,1,0]) 0 _;simp [LM12,zar,zas,renL,AV.ren,AEnd.ren,zad str zai,zaq,List.getElem?_cons_zero,List.getElem?_cons_succ]),(by show AEnd.ren ([1,1,0]) _ _;first | rfl | simp [LM12,zar,zas,renL,AV.ren,AEnd.ren,zad str zai,zaq,List.getElem?_cons_zero,List.getElem?_cons_succ]),?_⟩
  try simp -implicitDefEqProofs only [LM7,eq_self,zab (h:=T68),zae,zac,zaa,zal,zaI,TB,SB,Int.reduceToNat,Nat.reduceAdd,Nat.reduceEqDiff,Nat.reduceLT,Nat.reduceMod,Nat.reducePow,Nat.reduceSub,if_true,reduceIte]
 refine wg_q [0,1,2] (.ptr 0 1) (by kernel_rfl) (by kernel_rfl) rfl (by kernel_rfl) ?_ ?_
 ·simp only [qAll,List.getD_cons_zero,List.getD_cons_succ]
  refine⟨?_,?_,?_,trivial⟩
  ·try simp -implicitDefEqProofs only [LM7,eq_self,zab (h:=T68),zae,zac,zaa,zal,zaI,TB,SB,Int.reduceToNat,Nat.reduceAdd,Nat.reduceEqDiff,Nat.reduceLT,Nat.reduceMod,Nat.reducePow,Nat.reduceSub,if_true,reduceIte]
  ·try simp -implicitDefEqProofs only [LM7,eq_self,zab (h:=T68),zae,zac,zaa,zal,zaI,TB,SB,Int.reduceToNat,Nat.reduceAdd,Nat.reduceEqDiff,Nat.reduceLT,Nat.reduceMod,Nat.reducePow,Nat.reduceSub,if_true,reduceIte]
  ·try simp -implicitDefEqProofs only [LM7,eq_self,zab (h:=T68),zae,zac,zaa,zal,zaI,TB,SB,Int.reduceToNat,Nat.reduceAdd,Nat.reduceEqDiff,Nat.reduceLT,Nat.reduceMod,Nat.reducePow,Nat.reduceSub,if_true,reduceIte]
 refine wg_q [0,1,2] (.sl [] 0) (by kernel_rfl) (by kernel_rfl) rfl (by kernel_rfl) ?_ ?_
 ·simp only [qAll,List.getD_cons_zero,List.getD_cons_succ]
  refine⟨?_,?_,?_,trivial⟩
  ·try simp -implicitDefEqProofs only [LM7,eq_self,zab (h:=T68),zae,zac,zaa,zal,zaI,TB,SB,Int.reduceToNat,Nat.reduceAdd,Nat.reduceEqDiff,Nat.reduceLT,Nat.reduceMod,Nat.reducePow,Nat.reduceSub,if_true,reduceIte]
  ·try simp -implicitDefEqProofs only [LM7,eq_self,zab (h:=T68),zae,zac,zaa,zal,zaI,TB,SB,Int.reduceToNat,Nat.reduceAdd,Nat.reduceEqDiff,Nat.reduceLT,Nat.reduceMod,Nat.reducePow,Nat.reduceSub,if_true,reduceIte]
  ·try simp -implicitDefEqProofs only [LM7,eq_self,zab (h:=T68),zae,zac,zaa,zal,zaI,TB,SB,Int.reduceToNat,Nat.reduceAdd,Nat.reduceEqDiff,Nat.reduceLT,Nat.reduceMod,Nat.reducePow,Nat.reduceSub,if_true,reduceIte]
 refine wg_c (.ref 3 0 0 2) (by kernel_rfl) (by kernel_rfl) ?_ ?_
 ·simp only [show ([2,5]:List Nat).idxOf 5=1 from rfl,Nat.zero_add,List.getD_cons_zero,List.getD_cons_succ]
  try simp -implicitDefEqProofs only [LM7,eq_self,zab (h:=T68),zae,zac,zaa,zal,zaI,TB,SB,Int.reduceToNat,Nat.reduceAdd,Nat.reduceEqDiff,Nat.reduceLT,Nat.reduceMod,Nat.reducePow,Nat.reduceSub,if_true,reduceIte]
  refine ACalls.frame ([]) (hc2) rfl (by decide) (by simp [LM12,zar,zas,renL,AV.ren,AEnd.ren,zad str zai,zaq,List.getElem?_cons_zero,List.getElem?_cons_succ]) (by first | rfl | simp [LM12,zar,zas,renL,AV.ren,AEnd.ren,zad str zai,zaq,List.getElem?_cons_zero,List.getElem?_cons_succ]) ?_
  rintro _ _ ⟨rfl,rfl⟩
  refine⟨.ret (.ref 3 0 0 2),[.rw [.sl [str y.label,str y.box] 1,.sl [] 0,str h,i64 n],.rw [.lit (.slice none 0 0),.lit (.slice none 0 0),str [],i64 0],.rw [str y.label,str y.box],.rw []],(by show zas _ _ ([1,1,1,0]) ([1,1,1,0]) 0 _;simp [LM12,zar,zas,renL,AV.ren,AEnd.ren,zad str zai,zaq,List.getElem?_cons_zero,List.getElem?_cons_succ]),(by show AEnd.ren ([1,1,1,0]) _ _;first | rfl | simp [LM12,zar,zas,renL,AV.ren,AEnd.ren,zad str zai,zaq,List.getElem?_cons_zero,List.getElem?_cons_succ]),?_⟩
  try simp -implicitDefEqProofs only [LM7,eq_self,zab (h:=T68),zae,zac,zaa,zal,zaI,TB,SB,Int.reduceToNat,Nat.reduceAdd,Nat.reduceEqDiff,Nat.reduceLT,Nat.reduceMod,Nat.reducePow,Nat.reduceSub,if_true,reduceIte]
 refine wg_q [0,1,2] (.ptr 0 2) (by kernel_rfl) (by kernel_rfl) rfl (by kernel_rfl) ?_ ?_
 ·simp only [qAll,List.getD_cons_zero,List.getD_cons_succ]
  refine⟨?_,?_,?_,trivial⟩
  ·try simp -implicitDefEqProofs only [LM7,eq_self,zab (h:=T68),zae,zac,zaa,zal,zaI,TB,SB,Int.reduceToNat,Nat.reduceAdd,Nat.reduceEqDiff,Nat.reduceLT,Nat.reduceMod,Nat.reducePow,Nat.reduceSub,if_true,reduceIte]
  ·try simp -implicitDefEqProofs only [LM7,eq_self,zab (h:=T68),zae,zac,zaa,zal,zaI,TB,SB,Int.reduceToNat,Nat.reduceAdd,Nat.reduceEqDiff,Nat.reduceLT,Nat.reduceMod,Nat.reducePow,Nat.reduceSub,if_true,reduceIte]
  ·try simp -implicitDefEqProofs only [LM7,eq_self,zab (h:=T68),zae,zac,zaa,zal,zaI,TB,SB,Int.reduceToNat,Nat.reduceAdd,Nat.reduceEqDiff,Nat.reduceLT,Nat.reduceMod,Nat.reducePow,Nat.reduceSub,if_true,reduceIte]
 refine wg_q [0,1,2] (str h) (by kernel_rfl) (by kernel_rfl) rfl (by kernel_rfl) ?_ ?_
 ·simp only [qAll,List.getD_cons_zero,List.getD_cons_succ]
  refine⟨?_,?_,?_,trivial⟩
  ·try simp -implicitDefEqProofs only [LM7,eq_self,zab (h:=T68),zae,zac,zaa,zal,zaI,TB,SB,Int.reduceToNat,Nat.reduceAdd,Nat.reduceEqDiff,Nat.reduceLT,Nat.reduceMod,Nat.reducePow,Nat.reduceSub,if_true,reduceIte]
  ·try simp -implicitDefEqProofs only [LM7,eq_self,zab (h:=T68),zae,zac,zaa,zal,zaI,TB,SB,Int.reduceToNat,Nat.reduceAdd,Nat.reduceEqDiff,Nat.reduceLT,Nat.reduceMod,Nat.reducePow,Nat.reduceSub,if_true,reduceIte]
  ·try simp -implicitDefEqProofs only [LM7,eq_self,zab (h:=T68),zae,zac,zaa,zal,zaI,TB,SB,Int.reduceToNat,Nat.reduceAdd,Nat.reduceEqDiff,Nat.reduceLT,Nat.reduceMod,Nat.reducePow,Nat.reduceSub,if_true,reduceIte]
 refine wg_q [0,1,2] (.ptr 0 3) (by kernel_rfl) (by kernel_rfl) rfl (by kernel_rfl) ?_ ?_
 ·simp only [qAll,List.getD_cons_zero,List.getD_cons_succ]
  refine⟨?_,?_,?_,trivial⟩
  ·try simp -implicitDefEqProofs only [LM7,eq_self,zab (h:=T68),zae,zac,zaa,zal,zaI,TB,SB,Int.reduceToNat,Nat.reduceAdd,Nat.reduceEqDiff,Nat.reduceLT,Nat.reduceMod,Nat.reducePow,Nat.reduceSub,if_true,reduceIte]
  ·try simp -implicitDefEqProofs only [LM7,eq_self,zab (h:=T68),zae,zac,zaa,zal,zaI,TB,SB,Int.reduceToNat,Nat.reduceAdd,Nat.reduceEqDiff,Nat.reduceLT,Nat.reduceMod,Nat.reducePow,Nat.reduceSub,if_true,reduceIte]
  ·try simp -implicitDefEqProofs only [LM7,eq_self,zab (h:=T68),zae,zac,zaa,zal,zaI,TB,SB,Int.reduceToNat,Nat.reduceAdd,Nat.reduceEqDiff,Nat.reduceLT,Nat.reduceMod,Nat.reducePow,Nat.reduceSub,if_true,reduceIte]
 refine wg_q [0,1,2] (i64 n) (by kernel_rfl) (by kernel_rfl) rfl (by kernel_rfl) ?_ ?_
 ·simp only [qAll,List.getD_cons_zero,List.getD_cons_succ]
  refine⟨?_,?_,?_,trivial⟩
  ·try simp -implicitDefEqProofs only [LM7,eq_self,zab (h:=T68),zae,zac,zaa,zal,zaI,TB,SB,Int.reduceToNat,Nat.reduceAdd,Nat.reduceEqDiff,Nat.reduceLT,Nat.reduceMod,Nat.reducePow,Nat.reduceSub,if_true,reduceIte]
  ·try simp -implicitDefEqProofs only [LM7,eq_self,zab (h:=T68),zae,zac,zaa,zal,zaI,TB,SB,Int.reduceToNat,Nat.reduceAdd,Nat.reduceEqDiff,Nat.reduceLT,Nat.reduceMod,Nat.reducePow,Nat.reduceSub,if_true,reduceIte]
  ·try simp -implicitDefEqProofs only [LM7,eq_self,zab (h:=T68),zae,zac,zaa,zal,zaI,TB,SB,Int.reduceToNat,Nat.reduceAdd,Nat.reduceEqDiff,Nat.reduceLT,Nat.reduceMod,Nat.reducePow,Nat.reduceSub,if_true,reduceIte]
 refine wg_q [0,1,2] (.agg [.ref 2 0 1 2,.ref 3 0 0 2,str h,i64 n]) (by kernel_rfl) (by kernel_rfl) rfl (by kernel_rfl) ?_ ?_
 ·simp only [qAll,List.getD_cons_zero,List.getD_cons_succ]
  refine⟨?_,?_,?_,trivial⟩
  ·try simp -implicitDefEqProofs only [LM7,eq_self,zab (h:=T68),zae,zac,zaa,zal,zaI,TB,SB,Int.reduceToNat,Nat.reduceAdd,Nat.reduceEqDiff,Nat.reduceLT,Nat.reduceMod,Nat.reducePow,Nat.reduceSub,if_true,reduceIte]
  ·try simp -implicitDefEqProofs only [LM7,eq_self,zab (h:=T68),zae,zac,zaa,zal,zaI,TB,SB,Int.reduceToNat,Nat.reduceAdd,Nat.reduceEqDiff,Nat.reduceLT,Nat.reduceMod,Nat.reducePow,Nat.reduceSub,if_true,reduceIte]
  ·try simp -implicitDefEqProofs only [LM7,eq_self,zab (h:=T68),zae,zac,zaa,zal,zaI,TB,SB,Int.reduceToNat,Nat.reduceAdd,Nat.reduceEqDiff,Nat.reduceLT,Nat.reduceMod,Nat.reducePow,Nat.reduceSub,if_true,reduceIte]
 refine wg_f (by kernel_rfl) ?_
 refine wg_n (fun _=>?_)
 simp only [wgL,show (11 < 12) from by decide,if_true,List.length_cons,List.length_nil,Nat.zero_add,Nat.reduceAdd,List.getD_cons_zero,List.getD_cons_succ,List.drop_succ_cons,List.drop_zero]
 simp only [T24]
 rw [show zaL tySv.zero=[.lit (.slice none 0 0),.lit (.slice none 0 0),str [],i64 0] from rfl]
 try simp -implicitDefEqProofs only [LM7,eq_self,zab (h:=T68),zae,zac,zaa,zal,zaI,TB,SB,Int.reduceToNat,Nat.reduceAdd,Nat.reduceEqDiff,Nat.reduceLT,Nat.reduceMod,Nat.reducePow,Nat.reduceSub,if_true,reduceIte]
 refine ACalls.frame ([4,2,3]) (hd) rfl (by decide) (by simp [LM12,zar,zas,renL,AV.ren,AEnd.ren,zad str zai,zaq,List.getElem?_cons_zero,List.getElem?_cons_succ]) (by first | rfl | simp [LM12,zar,zas,renL,AV.ren,AEnd.ren,zad str zai,zaq,List.getElem?_cons_zero,List.getElem?_cons_succ]) ?_
 rintro _ _ ⟨rfl,rfl⟩
 refine⟨.ret (i64 0),[.rw [.sl [str y.label,str y.box] 1,.sl [] 0,str h,i64 n],.rw [.lit (.slice none 0 0),.lit (.slice none 0 0),str [],i64 0],.rw [str o.label,str o.box],.rw [],.rw [.ref 2 0 1 2,.ref 3 0 0 2,str (shaR (h++(putV [o]).1)),i64 (n+1)]],(by show zas _ _ ([3,3,1,2,0]) ([3,3,1,2,0]) 0 _;simp [LM12,zar,zas,renL,AV.ren,AEnd.ren,zad str zai,zaq,List.getElem?_cons_zero,List.getElem?_cons_succ]),(by show AEnd.ren ([3,3,1,2,0]) _ _;first | rfl | simp [LM12,zar,zas,renL,AV.ren,AEnd.ren,zad str zai,zaq,List.getElem?_cons_zero,List.getElem?_cons_succ]),?_⟩
 try simp -implicitDefEqProofs only [LM7,eq_self,zab (h:=T68),zae,zac,zaa,zal,zaI,TB,SB,Int.reduceToNat,Nat.reduceAdd,Nat.reduceEqDiff,Nat.reduceLT,Nat.reduceMod,Nat.reducePow,Nat.reduceSub,if_true,reduceIte]
 try simp -implicitDefEqProofs only [LM7,eq_self,zab (h:=T68),zae,zac,zaa,zal,zaI,show decide ((0:Int)=0)=true from rfl,TB,SB,Int.reduceToNat,Nat.reduceAdd,Nat.reduceEqDiff,Nat.reduceLT,Nat.reduceMod,Nat.reducePow,Nat.reduceSub,if_true,reduceIte]
 exact end_ap [⟨o.label,o.box⟩] [] rfl rfl rfl rfl rfl
set_option maxHeartbeats 3200000 in
theorem ap2_ok (o:Vo) (hk:o.kind=1) (hB:zbK [o]=true) (y:It) (hy:y.label < o.label) (h:List UInt8) (n:Int) (hC:chkS ⟨[y],[],h,n⟩=true) (hn:n < 1073741824):ACalls Tryz.prog 11 [svA ⟨[y],[],h,n⟩,.sl ([o].flatMap voC) 1] [] (fun z _=>z=.ret (.tup [svA ⟨[],[],[],0⟩,i64 6])):=by
 have hck:=zft ⟨[y],[],h,n⟩ (by simp) (by simp)
 have hib:=zhx [o]
 rw [hC,if_pos rfl] at hck
 rw [hB] at hib
 obtain⟨-,-,l3,l4,l5⟩:=zfs hC
 have hd:=do2_ok o hk hB y hy [] h l3 n ⟨l4,hn⟩
 have hcl:=zd7 [y] (by simp)
 have hc2:=zd7 [] (by simp)
 simp only [zcx,zbV] at hck ⊢
 simp only [List.flatMap_cons,List.flatMap_nil,List.append_nil,zbB,List.length_nil,List.length_cons,Nat.zero_add] at hck hd hcl hc2 ⊢
 refine ACalls.body T_ok Tryz.func11 (by kernel_rfl) rfl Tryz.ntmps11 (congrArg Array.toList Tryz.results11) ?_
 try simp -implicitDefEqProofs only [LM7,eq_self,zab (h:=T68),zae,zac,zaa,zal,zaI,TB,SB,Int.reduceToNat,Nat.reduceAdd,Nat.reduceEqDiff,Nat.reduceLT,Nat.reduceMod,Nat.reducePow,Nat.reduceSub,if_true,reduceIte]
 refine hck.pure (by simp [renL,zaR,AV.ren,zai,zag]) ?_
 rintro _ σ rfl
 refine⟨zag _ _,?_⟩
 try simp -implicitDefEqProofs only [LM7,eq_self,zab (h:=T68),zae,zac,zaa,zal,zaI,TB,SB,Int.reduceToNat,Nat.reduceAdd,Nat.reduceEqDiff,Nat.reduceLT,Nat.reduceMod,Nat.reducePow,Nat.reduceSub,if_true,reduceIte]
 refine hib.pure (by simp [renL,zaR,AV.ren,zai,zag,voC]) ?_
 rintro _ σ rfl
 refine⟨zaG _ _,?_⟩
 try simp -implicitDefEqProofs only [LM7,eq_self,zab (h:=T68),zae,zac,zaa,zal,zaI,TB,SB,Int.reduceToNat,Nat.reduceAdd,Nat.reduceEqDiff,Nat.reduceLT,Nat.reduceMod,Nat.reducePow,Nat.reduceSub,if_true,reduceIte]
 refine zf1 true [[.rw [.sl [str y.label,str y.box] 1,.sl [] 0,str h,i64 n],.rw [.lit (.slice none 0 0),.lit (.slice none 0 0),str [],i64 0]],[.rw [.sl [str y.label,str y.box] 1,.sl [] 0,str h,i64 n],.rw [.lit (.slice none 0 0),.lit (.slice none 0 0),str [],i64 0],.rw [str y.label,str y.box]],[.rw [.sl [str y.label,str y.box] 1,.sl [] 0,str h,i64 n],.rw [.lit (.slice none 0 0),.lit (.slice none 0 0),str [],i64 0],.rw [str y.label,str y.box],.rw []]] [2,5] 11 7 24 12 (by kernel_rfl) (by kernel_rfl) (by kernel_rfl) (fun _=>⟨_,T24⟩) rfl ?_
 simp only [List.take_succ_cons,List.take_zero]
 refine wg_q [0,1,2] (.ptr 0 0) (by kernel_rfl) (by kernel_rfl) rfl (by kernel_rfl) ?_ ?_
 ·simp only [qAll,List.getD_cons_zero,List.getD_cons_succ]
  refine⟨?_,?_,?_,trivial⟩
  ·try simp -implicitDefEqProofs only [LM7,eq_self,zab (h:=T68),zae,zac,zaa,zal,zaI,TB,SB,Int.reduceToNat,Nat.reduceAdd,Nat.reduceEqDiff,Nat.reduceLT,Nat.reduceMod,Nat.reducePow,Nat.reduceSub,if_true,reduceIte]
  ·try simp -implicitDefEqProofs only [LM7,eq_self,zab (h:=T68),zae,zac,zaa,zal,zaI,TB,SB,Int.reduceToNat,Nat.reduceAdd,Nat.reduceEqDiff,Nat.reduceLT,Nat.reduceMod,Nat.reducePow,Nat.reduceSub,if_true,reduceIte]
  ·try simp -implicitDefEqProofs only [LM7,eq_self,zab (h:=T68),zae,zac,zaa,zal,zaI,TB,SB,Int.reduceToNat,Nat.reduceAdd,Nat.reduceEqDiff,Nat.reduceLT,Nat.reduceMod,Nat.reducePow,Nat.reduceSub,if_true,reduceIte]
 refine wg_q [0,1,2] (.sl [str y.label,str y.box] 1) (by kernel_rfl) (by kernel_rfl) rfl (by kernel_rfl) ?_ ?_
 ·simp only [qAll,List.getD_cons_zero,List.getD_cons_succ]
  refine⟨?_,?_,?_,trivial⟩
  ·try simp -implicitDefEqProofs only [LM7,eq_self,zab (h:=T68),zae,zac,zaa,zal,zaI,TB,SB,Int.reduceToNat,Nat.reduceAdd,Nat.reduceEqDiff,Nat.reduceLT,Nat.reduceMod,Nat.reducePow,Nat.reduceSub,if_true,reduceIte]
  ·try simp -implicitDefEqProofs only [LM7,eq_self,zab (h:=T68),zae,zac,zaa,zal,zaI,TB,SB,Int.reduceToNat,Nat.reduceAdd,Nat.reduceEqDiff,Nat.reduceLT,Nat.reduceMod,Nat.reducePow,Nat.reduceSub,if_true,reduceIte]
  ·try simp -implicitDefEqProofs only [LM7,eq_self,zab (h:=T68),zae,zac,zaa,zal,zaI,TB,SB,Int.reduceToNat,Nat.reduceAdd,Nat.reduceEqDiff,Nat.reduceLT,Nat.reduceMod,Nat.reducePow,Nat.reduceSub,if_true,reduceIte]
 refine wg_c (.ref 2 0 1 2) (by kernel_rfl) (by kernel_rfl) ?_ ?_
 ·simp only [show ([2,5]:List Nat).idxOf 2=0 from rfl,Nat.zero_add,List.getD_cons_zero,List.getD_cons_succ]
  try simp -implicitDefEqProofs only [LM7,eq_self,zab (h:=T68),zae,zac,zaa,zal,zaI,TB,SB,Int.reduceToNat,Nat.reduceAdd,Nat.reduceEqDiff,Nat.reduceLT,Nat.reduceMod,Nat.reducePow,Nat.reduceSub,if_true,reduceIte]
  refine ACalls.frame ([]) (hcl) rfl (by decide) (by simp [LM12,zar,zas,renL,AV.ren,AEnd.ren,zad str zai,zaq,List.getElem?_cons_zero,List.getElem?_cons_succ]) (by first | rfl | simp [LM12,zar,zas,renL,AV.ren,AEnd.ren,zad str zai,zaq,List.getElem?_cons_zero,List.getElem?_cons_succ]) ?_
  rintro _ _ ⟨rfl,rfl⟩
  refine⟨.ret (.ref 2 0 1 2),[.rw [.sl [str y.label,str y.box] 1,.sl [] 0,str h,i64 n],.rw [.lit (.slice none 0 0),.lit (.slice none 0 0),str [],i64 0],.rw [str y.label,str y.box]],(by show zas _ _ ([1,1,0]) ([1,1,0]) 0 _;simp [LM12,zar,zas,renL,AV.ren,AEnd.ren,zad str zai,zaq,List.getElem?_cons_zero,List.getElem?_cons_succ]),(by show AEnd.ren ([1,1,0]) _ _;first | rfl | simp [LM12,zar,zas,renL,AV.ren,AEnd.ren,zad str zai,zaq,List.getElem?_cons_zero,List.getElem?_cons_succ]),?_⟩
  try simp -implicitDefEqProofs only [LM7,eq_self,zab (h:=T68),zae,zac,zaa,zal,zaI,TB,SB,Int.reduceToNat,Nat.reduceAdd,Nat.reduceEqDiff,Nat.reduceLT,Nat.reduceMod,Nat.reducePow,Nat.reduceSub,if_true,reduceIte]
 refine wg_q [0,1,2] (.ptr 0 1) (by kernel_rfl) (by kernel_rfl) rfl (by kernel_rfl) ?_ ?_
 ·simp only [qAll,List.getD_cons_zero,List.getD_cons_succ]
  refine⟨?_,?_,?_,trivial⟩
  ·try simp -implicitDefEqProofs only [LM7,eq_self,zab (h:=T68),zae,zac,zaa,zal,zaI,TB,SB,Int.reduceToNat,Nat.reduceAdd,Nat.reduceEqDiff,Nat.reduceLT,Nat.reduceMod,Nat.reducePow,Nat.reduceSub,if_true,reduceIte]
  ·try simp -implicitDefEqProofs only [LM7,eq_self,zab (h:=T68),zae,zac,zaa,zal,zaI,TB,SB,Int.reduceToNat,Nat.reduceAdd,Nat.reduceEqDiff,Nat.reduceLT,Nat.reduceMod,Nat.reducePow,Nat.reduceSub,if_true,reduceIte]
  ·try simp -implicitDefEqProofs only [LM7,eq_self,zab (h:=T68),zae,zac,zaa,zal,zaI,TB,SB,Int.reduceToNat,Nat.reduceAdd,Nat.reduceEqDiff,Nat.reduceLT,Nat.reduceMod,Nat.reducePow,Nat.reduceSub,if_true,reduceIte]
 refine wg_q [0,1,2] (.sl [] 0) (by kernel_rfl) (by kernel_rfl) rfl (by kernel_rfl) ?_ ?_
 ·simp only [qAll,List.getD_cons_zero,List.getD_cons_succ]
  refine⟨?_,?_,?_,trivial⟩
  ·try simp -implicitDefEqProofs only [LM7,eq_self,zab (h:=T68),zae,zac,zaa,zal,zaI,TB,SB,Int.reduceToNat,Nat.reduceAdd,Nat.reduceEqDiff,Nat.reduceLT,Nat.reduceMod,Nat.reducePow,Nat.reduceSub,if_true,reduceIte]
  ·try simp -implicitDefEqProofs only [LM7,eq_self,zab (h:=T68),zae,zac,zaa,zal,zaI,TB,SB,Int.reduceToNat,Nat.reduceAdd,Nat.reduceEqDiff,Nat.reduceLT,Nat.reduceMod,Nat.reducePow,Nat.reduceSub,if_true,reduceIte]
  ·try simp -implicitDefEqProofs only [LM7,eq_self,zab (h:=T68),zae,zac,zaa,zal,zaI,TB,SB,Int.reduceToNat,Nat.reduceAdd,Nat.reduceEqDiff,Nat.reduceLT,Nat.reduceMod,Nat.reducePow,Nat.reduceSub,if_true,reduceIte]
 refine wg_c (.ref 3 0 0 2) (by kernel_rfl) (by kernel_rfl) ?_ ?_
 ·simp only [show ([2,5]:List Nat).idxOf 5=1 from rfl,Nat.zero_add,List.getD_cons_zero,List.getD_cons_succ]
  try simp -implicitDefEqProofs only [LM7,eq_self,zab (h:=T68),zae,zac,zaa,zal,zaI,TB,SB,Int.reduceToNat,Nat.reduceAdd,Nat.reduceEqDiff,Nat.reduceLT,Nat.reduceMod,Nat.reducePow,Nat.reduceSub,if_true,reduceIte]
  refine ACalls.frame ([]) (hc2) rfl (by decide) (by simp [LM12,zar,zas,renL,AV.ren,AEnd.ren,zad str zai,zaq,List.getElem?_cons_zero,List.getElem?_cons_succ]) (by first | rfl | simp [LM12,zar,zas,renL,AV.ren,AEnd.ren,zad str zai,zaq,List.getElem?_cons_zero,List.getElem?_cons_succ]) ?_
  rintro _ _ ⟨rfl,rfl⟩
  refine⟨.ret (.ref 3 0 0 2),[.rw [.sl [str y.label,str y.box] 1,.sl [] 0,str h,i64 n],.rw [.lit (.slice none 0 0),.lit (.slice none 0 0),str [],i64 0],.rw [str y.label,str y.box],.rw []],(by show zas _ _ ([1,1,1,0]) ([1,1,1,0]) 0 _;simp [LM12,zar,zas,renL,AV.ren,AEnd.ren,zad str zai,zaq,List.getElem?_cons_zero,List.getElem?_cons_succ]),(by show AEnd.ren ([1,1,1,0]) _ _;first | rfl | simp [LM12,zar,zas,renL,AV.ren,AEnd.ren,zad str zai,zaq,List.getElem?_cons_zero,List.getElem?_cons_succ]),?_⟩
  try simp -implicitDefEqProofs only [LM7,eq_self,zab (h:=T68),zae,zac,zaa,zal,zaI,TB,SB,Int.reduceToNat,Nat.reduceAdd,Nat.reduceEqDiff,Nat.reduceLT,Nat.reduceMod,Nat.reducePow,Nat.reduceSub,if_true,reduceIte]
 refine wg_q [0,1,2] (.ptr 0 2) (by kernel_rfl) (by kernel_rfl) rfl (by kernel_rfl) ?_ ?_
 ·simp only [qAll,List.getD_cons_zero,List.getD_cons_succ]
  refine⟨?_,?_,?_,trivial⟩
  ·try simp -implicitDefEqProofs only [LM7,eq_self,zab (h:=T68),zae,zac,zaa,zal,zaI,TB,SB,Int.reduceToNat,Nat.reduceAdd,Nat.reduceEqDiff,Nat.reduceLT,Nat.reduceMod,Nat.reducePow,Nat.reduceSub,if_true,reduceIte]
  ·try simp -implicitDefEqProofs only [LM7,eq_self,zab (h:=T68),zae,zac,zaa,zal,zaI,TB,SB,Int.reduceToNat,Nat.reduceAdd,Nat.reduceEqDiff,Nat.reduceLT,Nat.reduceMod,Nat.reducePow,Nat.reduceSub,if_true,reduceIte]
  ·try simp -implicitDefEqProofs only [LM7,eq_self,zab (h:=T68),zae,zac,zaa,zal,zaI,TB,SB,Int.reduceToNat,Nat.reduceAdd,Nat.reduceEqDiff,Nat.reduceLT,Nat.reduceMod,Nat.reducePow,Nat.reduceSub,if_true,reduceIte]
 refine wg_q [0,1,2] (str h) (by kernel_rfl) (by kernel_rfl) rfl (by kernel_rfl) ?_ ?_
 ·simp only [qAll,List.getD_cons_zero,List.getD_cons_succ]
  refine⟨?_,?_,?_,trivial⟩
  ·try simp -implicitDefEqProofs only [LM7,eq_self,zab (h:=T68),zae,zac,zaa,zal,zaI,TB,SB,Int.reduceToNat,Nat.reduceAdd,Nat.reduceEqDiff,Nat.reduceLT,Nat.reduceMod,Nat.reducePow,Nat.reduceSub,if_true,reduceIte]
  ·try simp -implicitDefEqProofs only [LM7,eq_self,zab (h:=T68),zae,zac,zaa,zal,zaI,TB,SB,Int.reduceToNat,Nat.reduceAdd,Nat.reduceEqDiff,Nat.reduceLT,Nat.reduceMod,Nat.reducePow,Nat.reduceSub,if_true,reduceIte]
  ·try simp -implicitDefEqProofs only [LM7,eq_self,zab (h:=T68),zae,zac,zaa,zal,zaI,TB,SB,Int.reduceToNat,Nat.reduceAdd,Nat.reduceEqDiff,Nat.reduceLT,Nat.reduceMod,Nat.reducePow,Nat.reduceSub,if_true,reduceIte]
 refine wg_q [0,1,2] (.ptr 0 3) (by kernel_rfl) (by kernel_rfl) rfl (by kernel_rfl) ?_ ?_
 ·simp only [qAll,List.getD_cons_zero,List.getD_cons_succ]
  refine⟨?_,?_,?_,trivial⟩
  ·try simp -implicitDefEqProofs only [LM7,eq_self,zab (h:=T68),zae,zac,zaa,zal,zaI,TB,SB,Int.reduceToNat,Nat.reduceAdd,Nat.reduceEqDiff,Nat.reduceLT,Nat.reduceMod,Nat.reducePow,Nat.reduceSub,if_true,reduceIte]
  ·try simp -implicitDefEqProofs only [LM7,eq_self,zab (h:=T68),zae,zac,zaa,zal,zaI,TB,SB,Int.reduceToNat,Nat.reduceAdd,Nat.reduceEqDiff,Nat.reduceLT,Nat.reduceMod,Nat.reducePow,Nat.reduceSub,if_true,reduceIte]
  ·try simp -implicitDefEqProofs only [LM7,eq_self,zab (h:=T68),zae,zac,zaa,zal,zaI,TB,SB,Int.reduceToNat,Nat.reduceAdd,Nat.reduceEqDiff,Nat.reduceLT,Nat.reduceMod,Nat.reducePow,Nat.reduceSub,if_true,reduceIte]
 refine wg_q [0,1,2] (i64 n) (by kernel_rfl) (by kernel_rfl) rfl (by kernel_rfl) ?_ ?_
 ·simp only [qAll,List.getD_cons_zero,List.getD_cons_succ]
  refine⟨?_,?_,?_,trivial⟩
  ·try simp -implicitDefEqProofs only [LM7,eq_self,zab (h:=T68),zae,zac,zaa,zal,zaI,TB,SB,Int.reduceToNat,Nat.reduceAdd,Nat.reduceEqDiff,Nat.reduceLT,Nat.reduceMod,Nat.reducePow,Nat.reduceSub,if_true,reduceIte]
  ·try simp -implicitDefEqProofs only [LM7,eq_self,zab (h:=T68),zae,zac,zaa,zal,zaI,TB,SB,Int.reduceToNat,Nat.reduceAdd,Nat.reduceEqDiff,Nat.reduceLT,Nat.reduceMod,Nat.reducePow,Nat.reduceSub,if_true,reduceIte]
  ·try simp -implicitDefEqProofs only [LM7,eq_self,zab (h:=T68),zae,zac,zaa,zal,zaI,TB,SB,Int.reduceToNat,Nat.reduceAdd,Nat.reduceEqDiff,Nat.reduceLT,Nat.reduceMod,Nat.reducePow,Nat.reduceSub,if_true,reduceIte]
 refine wg_q [0,1,2] (.agg [.ref 2 0 1 2,.ref 3 0 0 2,str h,i64 n]) (by kernel_rfl) (by kernel_rfl) rfl (by kernel_rfl) ?_ ?_
 ·simp only [qAll,List.getD_cons_zero,List.getD_cons_succ]
  refine⟨?_,?_,?_,trivial⟩
  ·try simp -implicitDefEqProofs only [LM7,eq_self,zab (h:=T68),zae,zac,zaa,zal,zaI,TB,SB,Int.reduceToNat,Nat.reduceAdd,Nat.reduceEqDiff,Nat.reduceLT,Nat.reduceMod,Nat.reducePow,Nat.reduceSub,if_true,reduceIte]
  ·try simp -implicitDefEqProofs only [LM7,eq_self,zab (h:=T68),zae,zac,zaa,zal,zaI,TB,SB,Int.reduceToNat,Nat.reduceAdd,Nat.reduceEqDiff,Nat.reduceLT,Nat.reduceMod,Nat.reducePow,Nat.reduceSub,if_true,reduceIte]
  ·try simp -implicitDefEqProofs only [LM7,eq_self,zab (h:=T68),zae,zac,zaa,zal,zaI,TB,SB,Int.reduceToNat,Nat.reduceAdd,Nat.reduceEqDiff,Nat.reduceLT,Nat.reduceMod,Nat.reducePow,Nat.reduceSub,if_true,reduceIte]
 refine wg_f (by kernel_rfl) ?_
 refine wg_n (fun _=>?_)
 simp only [wgL,show (11 < 12) from by decide,if_true,List.length_cons,List.length_nil,Nat.zero_add,Nat.reduceAdd,List.getD_cons_zero,List.getD_cons_succ,List.drop_succ_cons,List.drop_zero]
 simp only [T24]
 rw [show zaL tySv.zero=[.lit (.slice none 0 0),.lit (.slice none 0 0),str [],i64 0] from rfl]
 try simp -implicitDefEqProofs only [LM7,eq_self,zab (h:=T68),zae,zac,zaa,zal,zaI,TB,SB,Int.reduceToNat,Nat.reduceAdd,Nat.reduceEqDiff,Nat.reduceLT,Nat.reduceMod,Nat.reducePow,Nat.reduceSub,if_true,reduceIte]
 refine ACalls.frame ([4,2,3]) (hd) rfl (by decide) (by simp [LM12,zar,zas,renL,AV.ren,AEnd.ren,zad str zai,zaq,List.getElem?_cons_zero,List.getElem?_cons_succ]) (by first | rfl | simp [LM12,zar,zas,renL,AV.ren,AEnd.ren,zad str zai,zaq,List.getElem?_cons_zero,List.getElem?_cons_succ]) ?_
 rintro _ _ ⟨rfl,rfl⟩
 refine⟨.ret (i64 6),[.rw [.sl [str y.label,str y.box] 1,.sl [] 0,str h,i64 n],.rw [.lit (.slice none 0 0),.lit (.slice none 0 0),str [],i64 0],.dead,.rw [],.rw [.ref 2 0 1 2,.ref 3 0 0 2,str h,i64 n]],(by show zas _ _ ([3,3,1,2,0]) ([3,3,1,2,0]) 0 _;simp [LM12,zar,zas,renL,AV.ren,AEnd.ren,zad str zai,zaq,List.getElem?_cons_zero,List.getElem?_cons_succ]),(by show AEnd.ren ([3,3,1,2,0]) _ _;first | rfl | simp [LM12,zar,zas,renL,AV.ren,AEnd.ren,zad str zai,zaq,List.getElem?_cons_zero,List.getElem?_cons_succ]),?_⟩
 try simp -implicitDefEqProofs only [LM7,eq_self,zab (h:=T68),zae,zac,zaa,zal,zaI,TB,SB,Int.reduceToNat,Nat.reduceAdd,Nat.reduceEqDiff,Nat.reduceLT,Nat.reduceMod,Nat.reducePow,Nat.reduceSub,if_true,reduceIte]
 try simp -implicitDefEqProofs only [LM7,eq_self,zab (h:=T68),zae,zac,zaa,zal,zaI,show decide ((6:Int)=0)=false from rfl,TB,SB,Int.reduceToNat,Nat.reduceAdd,Nat.reduceEqDiff,Nat.reduceLT,Nat.reduceMod,Nat.reducePow,Nat.reduceSub,if_true,reduceIte]
 refine⟨fun _=>end_sv6 ?_,fun h=>absurd h (by decide)⟩
 rfl
end Go.Proofs.YtdmiflfhaobngaaGreatDoor
end

section
namespace Go.Proofs.YtdmiflfhaobngaaGreatDoor
open Go Go.Eng
def oneO:Vo:=⟨0,[97],[49]⟩
def twoO:Vo:=⟨1,[98],[]⟩
def oneI:It:=⟨[97],[49]⟩
theorem ch0 (h:List UInt8) (n:Int) (h1:h.length=32) (h2:0≤n) (h3:n≤1073741824):chkS ⟨[],[],h,n⟩=true:=by
 simp only [chkS,h1,decide_eq_true h2,decide_eq_true h3]
 decide
theorem ch1 (h:List UInt8) (n:Int) (h1:h.length=32) (h2:0≤n) (h3:n≤1073741824):chkS ⟨[oneI],[],h,n⟩=true:=by
 simp only [chkS,h1,decide_eq_true h2,decide_eq_true h3]
 decide
theorem b1:zbK [oneO]=true:=by decide
theorem b2:zbK [twoO]=true:=by decide
theorem zem (s:Sv) (e:Int) (q:List Nat):(AV.tup [svA s,i64 e]).ren q=some (.tup [svA s,i64 e]):=by simp [AV.ren,renL,zdQ,zag]
theorem noid_SB (a:List UInt8) (b:Bool) (q:List Nat):(AV.tup [str a,bl b]).ren q=some (.tup [str a,bl b]):=by simp [AV.ren,renL,zaG,zai]
section
variable {σ : zah} {K : AV → Prop} {KS : AV → zah → Prop} {id : Nat}
theorem zdz (l b:List UInt8):za3 T 66 [(1,str l),(2,str b)] K=K (.agg [i64 0,str l,str b]):=by
 simp [za3,T66,T3,T9,tyVo,zbD,zaL,zcu,zco,zch,zae,zbf,zbE,tyStr]
 rfl
theorem zdA (k:Int) (l:List UInt8):za3 T 66 [(0,i64 k),(1,str l)] K=K (.agg [i64 k,str l,str []]):=by
 simp [za3,T66,T3,T9,tyVo,zbD,zaL,zcu,zco,zch,zae,zbf,zbE,tyStr]
 rfl
theorem zdB (k:Int) (l b:List UInt8):bs2 (some tyVo) 1 [(0,.agg [i64 k,str l,str b])] σ KS=KS (.ref σ.length 0 1 3) (σ++[.rw ([(⟨k,l,b⟩:Vo)].flatMap voC)]):=by
 simp [bs2,tyVo,zbD,zbZ,AV.cells,zbf,List.range_succ,List.replicate,zae,zco,voC]
end
theorem bn_vo_one {K:AV→Prop}:wbin T .eql 66 (.agg [i64 oneO.kind,str oneO.label,str oneO.box]) (.agg [i64 0,str [97],str [49]]) K=K (bl true):=by
 apply propext
 constructor
 ·rintro⟨q,hq,hk⟩
  have:=eqPv_vo (a:=oneO) (b:=oneO) hq
  rw [this] at hk
  exact hk
 ·exact fun hk=>⟨_,eqP_vo oneO oneO,hk⟩
theorem zbH {K:AV→Prop} (id off n:Nat) (k:Int):ia3 (some tyVo) (.ref id off n 3) k K=(0≤k∧k < n∧K (.ptr id (off+k.toNat * 3))):=by
 simp [ia3,tyVo]
theorem app1 (h:List UInt8) (hh:h.length=32):ACalls Tryz.prog 11 [svA ⟨[],[],h,0⟩,.sl ([oneO].flatMap voC) 1] [] (fun y _=>y=.ret (.tup [svA ⟨[oneI],[],shaR (h++(putV [oneO]).1),1⟩,i64 0])):=ap0_ok oneO rfl b1 h 0 (ch0 h 0 hh (by decide) (by decide)) (by decide)
theorem app2 (h:List UInt8) (hh:h.length=32):ACalls Tryz.prog 11 [svA ⟨[oneI],[],h,1⟩,.sl ([oneO].flatMap voC) 1] [] (fun y _=>y=.ret (.tup [svA ⟨[oneI],[],shaR (h++(putV [oneO]).1),2⟩,i64 0])):=ap1_ok oneO rfl b1 oneI rfl h 1 (ch1 h 1 hh (by decide) (by decide)) (by decide)
theorem app3 (h:List UInt8) (hh:h.length=32):ACalls Tryz.prog 11 [svA ⟨[oneI],[],h,2⟩,.sl ([twoO].flatMap voC) 1] [] (fun y _=>y=.ret (.tup [svA s0,i64 6])):=ap2_ok twoO rfl b2 oneI (by decide) h 2 (ch1 h 2 hh (by decide) (by decide)) (by decide)
theorem frz_sv {σ:zah} (s:Sv):frzA σ (svA s) (svA s):=⟨_,rfl,_,_,rfl,rfl,_,_,rfl,rfl,_,_,rfl,.inl rfl,_,_,rfl,.inl rfl,rfl⟩
theorem noid_a2 (s:Sv) (l:List Vo) (q:List Nat):renL q [svA s,slV l]=some [svA s,slV l]:=by simp [renL,zdQ,zdP]
theorem noid_h1 (h:List UInt8) (l:List Vo) (q:List Nat):renL q [str h,slV l]=some [str h,slV l]:=by simp [renL,zai,zdP]
theorem zgc (l:List Vo) (q:List Nat):renL q [slV l]=some [slV l]:=by simp [renL,zdP]
theorem zgd (s:Sv) (q:List Nat):renL q [svA s]=some [svA s]:=by simp [renL,zdQ]
theorem noid_aa (s t:Sv) (q:List Nat):renL q [svA s,svA t]=some [svA s,svA t]:=by simp [renL,zdQ]
set_option maxRecDepth 20000 in
set_option maxHeartbeats 3200000 in
theorem works18_ok:ACalls Tryz.prog 8 [] [] (fun y _=>y=.ret (bl true)):=by
 have hH0:(shaR []).length=32:=zfq _
 have hnw:=vnew_ok
 generalize shaR []=H0 at hH0 hnw
 have hA1:=app1 H0 hH0
 have hP:=zhY [oneO]
 have hPg:=getV_put b1
 have hPl:(putV [oneO]).1.length≤1000:=by decide +kernel
 have hP0:(putV [oneO]).2=0:=by decide +kernel
 have hN:=zh6 H0 [oneO] (by omega)
 unfold nextR at hN
 rw [b1,if_pos rfl] at hN
 rw [hP0] at hP
 generalize hpe:(putV [oneO]).1=p at hA1 hP hPg hPl hN
 have hsum:=shaT_ok (H0++p) (by simp;omega)
 have hH1:(shaR (H0++p)).length=32:=zfq _
 generalize shaR (H0++p)=H1 at hA1 hN hsum hH1
 have hA2:=app2 H1 hH1
 rw [hpe] at hA2
 have hH2:(shaR (H1++p)).length=32:=zfq _
 generalize shaR (H1++p)=H2 at hA2 hH2
 have hA3:=app3 H2 hH2
 have hC2:=ch1 H2 2 hH2 (by decide) (by decide)
 have hBy:=zg2 ⟨[oneI],[],H2,2⟩ (by simp) (by simp)
 have hRd:=readS_put hC2
 have hBs:zcy ⟨[oneI],[],H2,2⟩=((zcy ⟨[oneI],[],H2,2⟩).1,0):=by simp only [zcy,hC2,if_true]
 have hBl:(zcy ⟨[oneI],[],H2,2⟩).1.length≤1000000:=by
  simp only [zcy,hC2,if_true]
  have h1:=svT_le hC2
  have h2:=zd4 _ h1.2.1
  have h3:(svT ⟨[oneI],[],H2,2⟩).length=5:=rfl
  rw [h3] at h2
  omega
 rw [hBs] at hBy
 generalize (zcy ⟨[oneI],[],H2,2⟩).1=c at hBy hRd hBl
 refine ACalls.body T_ok Tryz.func8 (by kernel_rfl) rfl Tryz.ntmps8 (congrArg Array.toList Tryz.results8) ?_
 try simp -implicitDefEqProofs only [LM7,eq_self,zab (h:=T68),zae,zac,zaa,zal,zdz,zdA,zdB,zbH,TB,SB,Int.reduceToNat,Nat.reduceAdd,Nat.reduceEqDiff,Nat.reduceLT,Nat.reduceMod,Nat.reducePow,Nat.reduceSub,if_true,reduceIte]
 refine hnw.pure rfl ?_
 rintro _ σ rfl
 refine⟨zdQ _ _,?_⟩
 simp only [zcx,zbV]
 try simp -implicitDefEqProofs only [LM7,eq_self,zab (h:=T68),zae,zac,zaa,zal,zdz,zdA,zdB,zbH,TB,SB,Int.reduceToNat,Nat.reduceAdd,Nat.reduceEqDiff,Nat.reduceLT,Nat.reduceMod,Nat.reducePow,Nat.reduceSub,if_true,reduceIte]
 refine ACalls.frz [1] (l':=[svA ⟨[],[],H0,0⟩,slV [oneO]]) ⟨_,_,rfl,frz_sv ⟨[],[],H0,0⟩,_,_,rfl,voF.frz (l:=[oneO]) rfl rfl,rfl⟩ ?_
 refine(hA1:ACalls _ _ [svA ⟨[],[],H0,0⟩,slV [oneO]] _ _).pure (noid_a2 _ _ _) ?_
 rintro _ σ rfl
 refine⟨zem _ _ _,?_⟩
 simp only [zcx,zbV]
 simp only [zcI,List.getElem?_cons_zero,List.getElem?_cons_succ,List.set_cons_zero,List.set_cons_succ]
 try simp -implicitDefEqProofs only [LM7,eq_self,zab (h:=T68),zae,zac,zaa,zal,zdz,zdA,zdB,zbH,TB,SB,Int.reduceToNat,Nat.reduceAdd,Nat.reduceEqDiff,Nat.reduceLT,Nat.reduceMod,Nat.reducePow,Nat.reduceSub,if_true,reduceIte]
 refine ACalls.frz [] (l':=[svA ⟨[oneI],[],H1,1⟩,slV [oneO]]) ⟨_,_,rfl,frz_sv ⟨[oneI],[],H1,1⟩,_,_,rfl,voF.frz (l:=[oneO]) rfl rfl,rfl⟩ ?_
 refine(hA2:ACalls _ _ [svA ⟨[oneI],[],H1,1⟩,slV [oneO]] _ _).pure (noid_a2 _ _ _) ?_
 rintro _ σ rfl
 refine⟨zem _ _ _,?_⟩
 simp only [zcx,zbV]
 simp only [zcI,List.getElem?_cons_zero,List.getElem?_cons_succ,List.set_cons_zero,List.set_cons_succ]
 try simp -implicitDefEqProofs only [LM7,eq_self,zab (h:=T68),zae,zac,zaa,zal,zdz,zdA,zdB,zbH,TB,SB,Int.reduceToNat,Nat.reduceAdd,Nat.reduceEqDiff,Nat.reduceLT,Nat.reduceMod,Nat.reducePow,Nat.reduceSub,if_true,reduceIte]
 refine ACalls.frz [4] (l':=[svA ⟨[oneI],[],H2,2⟩,slV [twoO]]) ⟨_,_,rfl,frz_sv ⟨[oneI],[],H2,2⟩,_,_,rfl,voF.frz (l:=[twoO]) rfl rfl,rfl⟩ ?_
 refine(hA3:ACalls _ _ [svA ⟨[oneI],[],H2,2⟩,slV [twoO]] _ _).pure (noid_a2 _ _ _) ?_
 rintro _ σ rfl
 refine⟨zem _ _ _,?_⟩
 simp only [zcx,zbV,s0]
 simp only [zcI,List.getElem?_cons_zero,List.getElem?_cons_succ,List.set_cons_zero,List.set_cons_succ]
 try simp -implicitDefEqProofs only [LM7,eq_self,zab (h:=T68),zae,zac,zaa,zal,zdz,zdA,zdB,zbH,TB,SB,Int.reduceToNat,Nat.reduceAdd,Nat.reduceEqDiff,Nat.reduceLT,Nat.reduceMod,Nat.reducePow,Nat.reduceSub,if_true,reduceIte]
 refine ACalls.frz [] (l':=[slV [oneO]]) ⟨_,_,rfl,voF.frz (l:=[oneO]) rfl rfl,rfl⟩ ?_
 refine(hP:ACalls _ _ [slV [oneO]] _ _).pure (zgc _ _) ?_
 rintro _ σ rfl
 refine⟨zcQ _ _ _,?_⟩
 simp only [zcI]
 try simp -implicitDefEqProofs only [LM7,eq_self,zab (h:=T68),zae,zac,zaa,zal,zdz,zdA,zdB,zbH,TB,SB,Int.reduceToNat,Nat.reduceAdd,Nat.reduceEqDiff,Nat.reduceLT,Nat.reduceMod,Nat.reducePow,Nat.reduceSub,if_true,reduceIte]
 refine(zh2 p (by omega)).pure (by simp [renL,zai]) ?_
 rintro _ σ rfl
 refine⟨zf8 _ _ _,?_⟩
 rw [hPg]
 simp only [zfb]
 try simp -implicitDefEqProofs only [LM7,eq_self,zab (h:=T68),zae,zac,zaa,zal,zdz,zdA,zdB,zbH,TB,SB,Int.reduceToNat,Nat.reduceAdd,Nat.reduceEqDiff,Nat.reduceLT,Nat.reduceMod,Nat.reducePow,Nat.reduceSub,if_true,reduceIte]
 refine ACalls.frz [] (l':=[str H0,slV [oneO]]) ⟨_,_,rfl,.inl rfl,_,_,rfl,voF.frz (l:=[oneO]) rfl rfl,rfl⟩ ?_
 refine(hN:ACalls _ _ [str H0,slV [oneO]] _ _).pure (noid_h1 _ _ _) ?_
 rintro _ σ rfl
 refine⟨zcQ _ _ _,?_⟩
 simp only [zcI]
 try simp -implicitDefEqProofs only [LM7,eq_self,zab (h:=T68),zae,zac,zaa,zal,zdz,zdA,zdB,zbH,TB,SB,Int.reduceToNat,Nat.reduceAdd,Nat.reduceEqDiff,Nat.reduceLT,Nat.reduceMod,Nat.reducePow,Nat.reduceSub,if_true,reduceIte]
 refine(hBy:ACalls _ _ [svA ⟨[oneI],[],H2,2⟩] _ _).pure (zgd _ _) ?_
 rintro _ σ rfl
 refine⟨zcQ _ _ _,?_⟩
 try simp -implicitDefEqProofs only [LM7,eq_self,zab (h:=T68),zae,zac,zaa,zal,zdz,zdA,zdB,zbH,TB,SB,Int.reduceToNat,Nat.reduceAdd,Nat.reduceEqDiff,Nat.reduceLT,Nat.reduceMod,Nat.reducePow,Nat.reduceSub,if_true,reduceIte]
 refine(zgq c hBl).pure (by simp [renL,zai]) ?_
 rintro _ σ rfl
 refine⟨zem _ _ _,?_⟩
 rw [hRd]
 simp only [zcx,zbV]
 try simp -implicitDefEqProofs only [LM7,eq_self,zab (h:=T68),zae,zac,zaa,zal,zdz,zdA,zdB,zbH,TB,SB,Int.reduceToNat,Nat.reduceAdd,Nat.reduceEqDiff,Nat.reduceLT,Nat.reduceMod,Nat.reducePow,Nat.reduceSub,if_true,reduceIte]
 refine(vfind_ok [oneI] [97] (by decide)).pure (by simp [renL,zai,AV.ren,zaR,oneI,itC]) ?_
 rintro _ σ rfl
 refine⟨noid_SB _ _ _,?_⟩
 rw [show zh5 [oneI] [97]=([49],true) by decide]
 try simp -implicitDefEqProofs only [LM7,eq_self,zab (h:=T68),zae,zac,zaa,zal,zdz,zdA,zdB,zbH,TB,SB,Int.reduceToNat,Nat.reduceAdd,Nat.reduceEqDiff,Nat.reduceLT,Nat.reduceMod,Nat.reducePow,Nat.reduceSub,if_true,reduceIte]
 simp only [List.append_eq,List.cons_append,List.nil_append]
 try simp -implicitDefEqProofs only [LM7,eq_self,zab (h:=T68),zae,zac,zaa,zal,zdz,zdA,zdB,zbH,TB,SB,Int.reduceToNat,Nat.reduceAdd,Nat.reduceEqDiff,Nat.reduceLT,Nat.reduceMod,Nat.reducePow,Nat.reduceSub,if_true,reduceIte]
 refine zcZ (by kernel_rfl) (by kernel_rfl) ?_
 try simp -implicitDefEqProofs only [LM7,eq_self,zab (h:=T68),zae,zac,zaa,zal,zdz,zdA,zdB,zbH,show decide (((1:Nat):Int)=1)=true from rfl,show decide ((0:Int)=0)=true from rfl,show decide ((2:Int)=2)=true from rfl,show decide ((6:Int)=6)=true from rfl,TB,SB,Int.reduceToNat,Nat.reduceAdd,Nat.reduceEqDiff,Nat.reduceLT,Nat.reduceMod,Nat.reducePow,Nat.reduceSub,if_true,reduceIte]
 refine⟨by decide,by decide,by decide,?_⟩
 try simp -implicitDefEqProofs only [LM7,eq_self,zab (h:=T68),zae,zac,zaa,zal,zdz,zdA,zdB,zbH,TB,SB,Int.reduceToNat,Nat.reduceAdd,Nat.reduceEqDiff,Nat.reduceLT,Nat.reduceMod,Nat.reducePow,Nat.reduceSub,if_true,reduceIte]
 refine⟨by decide,by decide,?_⟩
 rw [Nat.zero_mul]
 try simp -implicitDefEqProofs only [LM7,eq_self,zab (h:=T68),zae,zac,zaa,zal,zdz,zdA,zdB,zbH,show decide ((0:Int)=0)=true from rfl,TB,SB,Int.reduceToNat,Nat.reduceAdd,Nat.reduceEqDiff,Nat.reduceLT,Nat.reduceMod,Nat.reducePow,Nat.reduceSub,if_true,reduceIte]
 rw [bn_vo_one]
 try simp -implicitDefEqProofs only [LM7,eq_self,zab (h:=T68),zae,zac,zaa,zal,zdz,zdA,zdB,zbH,show decide ((0:Int)=0)=true from rfl,eq_self,TB,SB,Int.reduceToNat,Nat.reduceAdd,Nat.reduceEqDiff,Nat.reduceLT,Nat.reduceMod,Nat.reducePow,Nat.reduceSub,if_true,reduceIte]
 refine⟨by omega,?_⟩
 refine zbJ hsum (by simp [renL,zai]) (by simp [AEnd.noid,zai]) ?_
 try simp -implicitDefEqProofs only [LM7,eq_self,zab (h:=T68),zae,zac,zaa,zal,zdz,zdA,zdB,zbH,show decide ((0:Int)=0)=true from rfl,show decide ((1:Int)=1)=true from rfl,eq_self,TB,SB,Int.reduceToNat,Nat.reduceAdd,Nat.reduceEqDiff,Nat.reduceLT,Nat.reduceMod,Nat.reducePow,Nat.reduceSub,if_true,reduceIte]
 refine zbJ (zh7 ⟨[oneI],[],H2,2⟩ ⟨[oneI],[],H2,2⟩ (by dsimp only;omega) (by simp) (by simp)) (noid_aa ⟨[oneI],[],H2,2⟩ ⟨[oneI],[],H2,2⟩ []) (zaG _ _) ?_
 rw [decide_eq_true rfl]
 try simp -implicitDefEqProofs only [LM7,eq_self,zab (h:=T68),zae,zac,zaa,zal,zdz,zdA,zdB,zbH,show decide ((0:Int)=0)=true from rfl,show decide ((1:Int)=1)=true from rfl,eq_self,TB,SB,Int.reduceToNat,Nat.reduceAdd,Nat.reduceEqDiff,Nat.reduceLT,Nat.reduceMod,Nat.reducePow,Nat.reduceSub,if_true,reduceIte]
 refine zbJ (zh7 ⟨[],[],H0,0⟩ ⟨[oneI],[],H1,1⟩ (by dsimp only;omega) (by simp) (by simp)) (noid_aa ⟨[],[],H0,0⟩ ⟨[oneI],[],H1,1⟩ []) (zaG _ _) ?_
 rw [decide_eq_false (fun h=>absurd (show (0:Int)=1 from congrArg Sv.n h) (by decide))]
 try simp -implicitDefEqProofs only [LM7,eq_self,zab (h:=T68),zae,zac,zaa,zal,zdz,zdA,zdB,zbH,show decide ((0:Int)=0)=true from rfl,show decide ((1:Int)=1)=true from rfl,eq_self,TB,SB,Int.reduceToNat,Nat.reduceAdd,Nat.reduceEqDiff,Nat.reduceLT,Nat.reduceMod,Nat.reducePow,Nat.reduceSub,if_true,reduceIte]
 have hk1:=zft ⟨[],[],H0,0⟩ (by simp) (by simp)
 rw [ch0 H0 0 hH0 (by decide) (by decide),if_pos rfl] at hk1
 refine zbJ hk1 (zgd ⟨[],[],H0,0⟩ []) (zag _ _) ?_
 try simp -implicitDefEqProofs only [LM7,eq_self,zab (h:=T68),zae,zac,zaa,zal,zdz,zdA,zdB,zbH,show decide ((0:Int)=0)=true from rfl,show decide ((1:Int)=1)=true from rfl,eq_self,TB,SB,Int.reduceToNat,Nat.reduceAdd,Nat.reduceEqDiff,Nat.reduceLT,Nat.reduceMod,Nat.reducePow,Nat.reduceSub,if_true,reduceIte]
 have hk2:=zft s0 (by simp [s0]) (by simp [s0])
 rw [show chkS s0=false by decide,if_neg (by decide)] at hk2
 refine⟨i64 1,ACalls.frz [] (l':=[svA s0]) ⟨_,_,rfl,⟨_,rfl,_,_,rfl,.inr ⟨rfl,rfl⟩,_,_,rfl,.inr ⟨rfl,rfl⟩,_,_,rfl,.inl rfl,_,_,rfl,.inl rfl,rfl⟩,rfl⟩ (hk2.pure (zgd _ _) (by rintro _ _ rfl;exact⟨zag _ _,rfl,rfl⟩)),?_⟩
 try simp -implicitDefEqProofs only [LM7,eq_self,zab (h:=T68),zae,zac,zaa,zal,zdz,zdA,zdB,zbH,show decide ((0:Int)=0)=true from rfl,show decide ((1:Int)=1)=true from rfl,eq_self,TB,SB,Int.reduceToNat,Nat.reduceAdd,Nat.reduceEqDiff,Nat.reduceLT,Nat.reduceMod,Nat.reducePow,Nat.reduceSub,if_true,reduceIte]
 exact zaQ rfl
end Go.Proofs.YtdmiflfhaobngaaGreatDoor
end

section
namespace Go.Proofs.YtdmiflfhaobngaaGreatDoor
open Go Go.Eng
set_option linter.defProp false in
def LB29:=And.intro @zaI (And.intro @zdz (And.intro @zdA (And.intro @zdB (@zbH))))
theorem get_all {α:Type} {P:α→Prop} {l:List α} {d:α} {k:Nat} (hk:l.length≤k) (h:∀ j,j < k→P (l.getD j d)):∀ x∈l,P x:=by
 intro x hx
 obtain⟨j,hj,rfl⟩:=List.getElem_of_mem hx
 have:=h j (by omega)
 rwa [List.getD_eq_getElem?_getD,List.getElem?_eq_getElem hj] at this
def fewV (l:List Vo):Prop:=l.length≤20∧∀ o∈l,o.label.length≤80∧o.box.length≤200
theorem fewV_ok (l:List Vo) (hl:l.length≤9223372036854775807):ACalls Tryz.prog 10 [.sl (l.flatMap voC) l.length] [] (fun y _=>∃ b:Bool,y=.ret (bl b)∧(b=true→fewV l)):=by
 have hno:∀ σ:zah,endQ 0 (bl false) σ (fun r _=>∃ b:Bool,AEnd.ret r=.ret (bl b)∧(b=true→fewV l)):=fun σ=>zaQ ⟨false,rfl,fun h=>by cases h⟩
 refine ACalls.body T_ok Tryz.func10 (by kernel_rfl) rfl Tryz.ntmps10 (congrArg Array.toList Tryz.results10) ?_
 try simp -implicitDefEqProofs only [LM7,LB29,eq_self,zab (h:=T68),zae,zac,zaa,zal,TB,SB,Int.reduceToNat,Nat.reduceAdd,Nat.reduceEqDiff,Nat.reduceLT,Nat.reduceMod,Nat.reducePow,Nat.reduceSub,if_true,reduceIte]
 rw [zbI]
 refine⟨Nat,fun k=>k≤21∧k≤l.length∧∀ j,j < k→(l.getD j v0).label.length≤80∧(l.getD j v0).box.length≤200,fun k=>[.sl (l.flatMap voC) l.length,.bot,.bot,i64 k,.bot,.bot,.bot,.bot,.bot,.bot,.bot,.bot,.bot,.bot,.bot,.bot,.bot,.bot,.bot,.bot,.bot,.bot,.bot,.bot,.bot,.bot,.bot,.bot,.bot,.bot,.bot,.bot,.bot],fun _=>[],fun k=>22 - k,0,⟨by omega,Nat.zero_le _,fun j h=>absurd h (by omega)⟩,zav (q:=[]) rfl rfl (by decide) ?_ ?_,?_⟩
 ·skip
  try simp only [LM5,List.set_cons_zero,List.set_cons_succ,List.length_cons,List.length_nil,Nat.reduceAdd,List.cons_append,List.nil_append,zad u8 zak,AV.ren,zaf u8 zak,zaf u32 zan,zaf i64 zag,zaf u64 zao,zad i64 zag,List.getElem?_cons_zero,List.getElem?_cons_succ,Option.map_some,true_and,and_true,or_true,true_or,reduceCtorEq,false_or,Option.some.injEq,Blk.rw.injEq,AV.sl.injEq,AV.ref.injEq,AV.ptr.injEq]
  simp [zcG,AV.ren]
 ·skip
  try simp only [LM5,List.set_cons_zero,List.set_cons_succ,List.length_cons,List.length_nil,Nat.reduceAdd,List.cons_append,List.nil_append,zad u8 zak,AV.ren,zaf u8 zak,zaf u32 zan,zaf i64 zag,zaf u64 zao,zad i64 zag,List.getElem?_cons_zero,List.getElem?_cons_succ,Option.map_some,true_and,and_true,or_true,true_or,reduceCtorEq,false_or,Option.some.injEq,Blk.rw.injEq,AV.sl.injEq,AV.ref.injEq,AV.ptr.injEq]
 ·rintro k ⟨hk,hk',hj⟩
  try simp -implicitDefEqProofs only [LM7,LB29,eq_self,zab (h:=T68),zae,zac,zaa,zal,TB,SB,Int.reduceToNat,Nat.reduceAdd,Nat.reduceEqDiff,Nat.reduceLT,Nat.reduceMod,Nat.reducePow,Nat.reduceSub,if_true,reduceIte]
  by_cases h1:(k:Int) < l.length
  rotate_left
  ·rw [decide_eq_false h1]
   try simp -implicitDefEqProofs only [LM7,LB29,eq_self,zab (h:=T68),zae,zac,zaa,zal,TB,SB,Int.reduceToNat,Nat.reduceAdd,Nat.reduceEqDiff,Nat.reduceLT,Nat.reduceMod,Nat.reducePow,Nat.reduceSub,if_true,reduceIte]
   refine zaQ ⟨_,rfl,fun h=>?_⟩
   have:=of_decide_eq_true h
   exact⟨by omega,get_all (by omega) hj⟩
  rw [decide_eq_true h1]
  try simp -implicitDefEqProofs only [LM7,LB29,eq_self,zab (h:=T68),zae,zac,zaa,zal,TB,SB,Int.reduceToNat,Nat.reduceAdd,Nat.reduceEqDiff,Nat.reduceLT,Nat.reduceMod,Nat.reducePow,Nat.reduceSub,if_true,reduceIte]
  refine⟨fun h2=>?_,fun h2=>?_⟩
  ·have hk2:k < l.length:=by omega
   repeat (with_reducible refine And.intro (by first | omega | decide | (unfold inI;omega) | (simp only [List.length_append,List.length_reverse,List.length_take,List.length_drop,List.length_cons,List.length_nil,List.length_map,List.length_replicate];omega)) ?_)
   by_cases h3:80 < ((l.getD k v0).label.length:Int)
   ·rw [decide_eq_true h3]
    try simp -implicitDefEqProofs only [LM7,LB29,eq_self,zab (h:=T68),zae,zac,zaa,zal,TB,SB,Int.reduceToNat,Nat.reduceAdd,Nat.reduceEqDiff,Nat.reduceLT,Nat.reduceMod,Nat.reducePow,Nat.reduceSub,if_true,reduceIte]
    exact hno _
   rw [decide_eq_false h3]
   try simp -implicitDefEqProofs only [LM7,LB29,eq_self,zab (h:=T68),zae,zac,zaa,zal,TB,SB,Int.reduceToNat,Nat.reduceAdd,Nat.reduceEqDiff,Nat.reduceLT,Nat.reduceMod,Nat.reducePow,Nat.reduceSub,if_true,reduceIte]
   refine⟨by omega,by omega,by omega,by omega,fun h4=>hno _,fun h4=>⟨by unfold inI;omega,?_⟩⟩
   rw [zaC]
   refine⟨k+1,⟨by omega,by omega,fun j h=>?_⟩,by (show 22 - (k+1) < 22 - k);omega,zav (q:=[]) rfl rfl (by decide) ?_ ?_⟩
   ·rcases Nat.lt_succ_iff_lt_or_eq.1 h with h | rfl
    ·exact hj j h
    ·exact⟨by omega,by omega⟩
   ·skip
    try simp only [LM5,List.set_cons_zero,List.set_cons_succ,List.length_cons,List.length_nil,Nat.reduceAdd,List.cons_append,List.nil_append,zad u8 zak,AV.ren,zaf u8 zak,zaf u32 zan,zaf i64 zag,zaf u64 zao,zad i64 zag,List.getElem?_cons_zero,List.getElem?_cons_succ,Option.map_some,true_and,and_true,or_true,true_or,reduceCtorEq,false_or,Option.some.injEq,Blk.rw.injEq,AV.sl.injEq,AV.ref.injEq,AV.ptr.injEq]
    simp [zcG,AV.ren]
   ·skip
    try simp only [LM5,List.set_cons_zero,List.set_cons_succ,List.length_cons,List.length_nil,Nat.reduceAdd,List.cons_append,List.nil_append,zad u8 zak,AV.ren,zaf u8 zak,zaf u32 zan,zaf i64 zag,zaf u64 zao,zad i64 zag,List.getElem?_cons_zero,List.getElem?_cons_succ,Option.map_some,true_and,and_true,or_true,true_or,reduceCtorEq,false_or,Option.some.injEq,Blk.rw.injEq,AV.sl.injEq,AV.ref.injEq,AV.ptr.injEq]
  ·exact zaQ ⟨_,rfl,fun h=>by have:=of_decide_eq_true h;omega⟩
def fewI (l:List It):Prop:=l.length≤20∧∀ o∈l,o.label.length≤80∧o.box.length≤200
theorem fewI_ok (l:List It) (hl:l.length≤9223372036854775807):ACalls Tryz.prog 34 [.sl (l.flatMap itC) l.length] [] (fun y _=>∃ b:Bool,y=.ret (bl b)∧(b=true→fewI l)):=by
 have hno:∀ σ:zah,endQ 0 (bl false) σ (fun r _=>∃ b:Bool,AEnd.ret r=.ret (bl b)∧(b=true→fewI l)):=fun σ=>zaQ ⟨false,rfl,fun h=>by cases h⟩
 refine ACalls.body T_ok Tryz.func34 (by kernel_rfl) rfl Tryz.ntmps34 (congrArg Array.toList Tryz.results34) ?_
 try simp -implicitDefEqProofs only [LM7,LB29,eq_self,zab (h:=T68),zae,zac,zaa,zal,TB,SB,Int.reduceToNat,Nat.reduceAdd,Nat.reduceEqDiff,Nat.reduceLT,Nat.reduceMod,Nat.reducePow,Nat.reduceSub,if_true,reduceIte]
 rw [zbI]
 refine⟨Nat,fun k=>k≤21∧k≤l.length∧∀ j,j < k→(l.getD j i0).label.length≤80∧(l.getD j i0).box.length≤200,fun k=>[.sl (l.flatMap itC) l.length,.bot,.bot,i64 k,.bot,.bot,.bot,.bot,.bot,.bot,.bot,.bot,.bot,.bot,.bot,.bot,.bot,.bot,.bot,.bot,.bot,.bot,.bot,.bot,.bot,.bot,.bot,.bot,.bot,.bot,.bot,.bot,.bot],fun _=>[],fun k=>22 - k,0,⟨by omega,Nat.zero_le _,fun j h=>absurd h (by omega)⟩,zav (q:=[]) rfl rfl (by decide) ?_ ?_,?_⟩
 ·skip
  try simp only [LM5,List.set_cons_zero,List.set_cons_succ,List.length_cons,List.length_nil,Nat.reduceAdd,List.cons_append,List.nil_append,zad u8 zak,AV.ren,zaf u8 zak,zaf u32 zan,zaf i64 zag,zaf u64 zao,zad i64 zag,List.getElem?_cons_zero,List.getElem?_cons_succ,Option.map_some,true_and,and_true,or_true,true_or,reduceCtorEq,false_or,Option.some.injEq,Blk.rw.injEq,AV.sl.injEq,AV.ref.injEq,AV.ptr.injEq]
  simp [zaR,AV.ren]
 ·skip
  try simp only [LM5,List.set_cons_zero,List.set_cons_succ,List.length_cons,List.length_nil,Nat.reduceAdd,List.cons_append,List.nil_append,zad u8 zak,AV.ren,zaf u8 zak,zaf u32 zan,zaf i64 zag,zaf u64 zao,zad i64 zag,List.getElem?_cons_zero,List.getElem?_cons_succ,Option.map_some,true_and,and_true,or_true,true_or,reduceCtorEq,false_or,Option.some.injEq,Blk.rw.injEq,AV.sl.injEq,AV.ref.injEq,AV.ptr.injEq]
 ·rintro k ⟨hk,hk',hj⟩
  try simp -implicitDefEqProofs only [LM7,LB29,eq_self,zab (h:=T68),zae,zac,zaa,zal,TB,SB,Int.reduceToNat,Nat.reduceAdd,Nat.reduceEqDiff,Nat.reduceLT,Nat.reduceMod,Nat.reducePow,Nat.reduceSub,if_true,reduceIte]
  by_cases h1:(k:Int) < l.length
  rotate_left
  ·rw [decide_eq_false h1]
   try simp -implicitDefEqProofs only [LM7,LB29,eq_self,zab (h:=T68),zae,zac,zaa,zal,TB,SB,Int.reduceToNat,Nat.reduceAdd,Nat.reduceEqDiff,Nat.reduceLT,Nat.reduceMod,Nat.reducePow,Nat.reduceSub,if_true,reduceIte]
   refine zaQ ⟨_,rfl,fun h=>?_⟩
   have:=of_decide_eq_true h
   exact⟨by omega,get_all (by omega) hj⟩
  rw [decide_eq_true h1]
  try simp -implicitDefEqProofs only [LM7,LB29,eq_self,zab (h:=T68),zae,zac,zaa,zal,TB,SB,Int.reduceToNat,Nat.reduceAdd,Nat.reduceEqDiff,Nat.reduceLT,Nat.reduceMod,Nat.reducePow,Nat.reduceSub,if_true,reduceIte]
  refine⟨fun h2=>?_,fun h2=>?_⟩
  ·have hk2:k < l.length:=by omega
   repeat (with_reducible refine And.intro (by first | omega | decide | (unfold inI;omega) | (simp only [List.length_append,List.length_reverse,List.length_take,List.length_drop,List.length_cons,List.length_nil,List.length_map,List.length_replicate];omega)) ?_)
   by_cases h3:80 < ((l.getD k i0).label.length:Int)
   ·rw [decide_eq_true h3]
    try simp -implicitDefEqProofs only [LM7,LB29,eq_self,zab (h:=T68),zae,zac,zaa,zal,TB,SB,Int.reduceToNat,Nat.reduceAdd,Nat.reduceEqDiff,Nat.reduceLT,Nat.reduceMod,Nat.reducePow,Nat.reduceSub,if_true,reduceIte]
    exact hno _
   rw [decide_eq_false h3]
   try simp -implicitDefEqProofs only [LM7,LB29,eq_self,zab (h:=T68),zae,zac,zaa,zal,TB,SB,Int.reduceToNat,Nat.reduceAdd,Nat.reduceEqDiff,Nat.reduceLT,Nat.reduceMod,Nat.reducePow,Nat.reduceSub,if_true,reduceIte]
   refine⟨by omega,by omega,by omega,by omega,fun h4=>hno _,fun h4=>⟨by unfold inI;omega,?_⟩⟩
   rw [zaC]
   refine⟨k+1,⟨by omega,by omega,fun j h=>?_⟩,by (show 22 - (k+1) < 22 - k);omega,zav (q:=[]) rfl rfl (by decide) ?_ ?_⟩
   ·rcases Nat.lt_succ_iff_lt_or_eq.1 h with h | rfl
    ·exact hj j h
    ·exact⟨by omega,by omega⟩
   ·skip
    try simp only [LM5,List.set_cons_zero,List.set_cons_succ,List.length_cons,List.length_nil,Nat.reduceAdd,List.cons_append,List.nil_append,zad u8 zak,AV.ren,zaf u8 zak,zaf u32 zan,zaf i64 zag,zaf u64 zao,zad i64 zag,List.getElem?_cons_zero,List.getElem?_cons_succ,Option.map_some,true_and,and_true,or_true,true_or,reduceCtorEq,false_or,Option.some.injEq,Blk.rw.injEq,AV.sl.injEq,AV.ref.injEq,AV.ptr.injEq]
    simp [zaR,AV.ren]
   ·skip
    try simp only [LM5,List.set_cons_zero,List.set_cons_succ,List.length_cons,List.length_nil,Nat.reduceAdd,List.cons_append,List.nil_append,zad u8 zak,AV.ren,zaf u8 zak,zaf u32 zan,zaf i64 zag,zaf u64 zao,zad i64 zag,List.getElem?_cons_zero,List.getElem?_cons_succ,Option.map_some,true_and,and_true,or_true,true_or,reduceCtorEq,false_or,Option.some.injEq,Blk.rw.injEq,AV.sl.injEq,AV.ref.injEq,AV.ptr.injEq]
  ·exact zaQ ⟨_,rfl,fun h=>by have:=of_decide_eq_true h;omega⟩
section
variable {σ : zah} {K : AV → Prop} {KS : AV → zah → Prop} {id : Nat}
theorem zdC (cs:List AV):zax T 66 (.rp cs) 0 K=K (.rp (cs.drop 0)):=fzR T66 rfl rfl T3 (by decide) cs
theorem zce (l:List Vo) (k:Nat):ld2 (some zbE) (some ((l.drop k).flatMap voC)) 0 K=(k < l.length∧K (i64 (l.getD k v0).kind)):=voF.ldf0 rfl rfl (by decide) v0 l k
theorem bd_O (k:Int) (l b:List UInt8):za3 T 77 [(0,i64 k),(1,str l),(2,str b)] K=K (.agg [i64 k,str l,str b]):=by
 simp [za3,T77,T3,T9,tyVo,zbD,zaL,zcu,zco,zch,zae,zbf,zbE,tyStr]
theorem ldz_V0 (l:List Vo):ld2 (some zbE) (some (l.flatMap voC)) 0 K=(0 < l.length∧K (i64 (l.getD 0 v0).kind)):=by have:=zce (K:=K) l 0;rwa [List.drop_zero] at this
theorem ldz_V1 (l:List Vo):ld2 (some tyStr) (some ((l.flatMap voC).drop 1)) 0 K=(0 < l.length∧K (str (l.getD 0 v0).label)):=by have:=ldf_V1 (K:=K) l 0;rwa [List.drop_zero] at this
theorem ldz_V2 (l:List Vo):ld2 (some tyStr) (some ((l.flatMap voC).drop 2)) 0 K=(0 < l.length∧K (str (l.getD 0 v0).box)):=by have:=ldf_V2 (K:=K) l 0;rwa [List.drop_zero] at this
end
theorem vo9_nil {σ:zah} {KS:AV→zah→Prop} {y:Vo} {x:AV} (hx:asrc σ 3 x=some ([y].flatMap voC,1)) (hk:KS (.ref σ.length 0 1 3) (σ++[.rw ([y].flatMap voC)])):zbG T #[38,38] (.lit (.slice none 0 0)) x σ KS :=
 voF.appN rfl rfl T38 T38 (zfl _) T77 rfl rfl hx rfl (by decide) (by decide) hk
theorem vo9_app {σ:zah} {KS:AV→zah→Prop} {id n:Nat} {l:List Vo} {y:Vo} {x:AV} (hc:σ[id]?=some (.rw (l.flatMap voC))) (hn:n=l.length) (hx:asrc σ 3 x=some ([y].flatMap voC,1)) (g:l.length≤1000000) (hk:KS (.ref σ.length 0 (n+1) 3) (σ.set id .dead++[.rw ((l++[y]).flatMap voC)])):zbG T #[38,38] (.ref id 0 n 3) x σ KS:=by
 subst hn
 exact voF.app rfl rfl T38 T38 (zfl _) T77 rfl rfl hc hx rfl (by omega) (by simp only [tyVo];omega) hk
def opA:Nat→AV
 | 0=>.lit (.slice none 0 0)
 | a+1=>.ref 0 0 (a+1) 3
def opS (l:List Vo):Nat→zah
 | 0=>[]
 | a+1=>[.rw ((l.take (a+1)).flatMap voC)]
theorem opA_0:opA 0=.lit (.slice none 0 0):=rfl
theorem opA_1 (a:Nat):opA (a+1)=.ref 0 0 (a+1) 3:=rfl
theorem opS_0 (l:List Vo):opS l 0=[]:=rfl
theorem opS_1 (l:List Vo) (a:Nat):opS l (a+1)=[.rw ((l.take (a+1)).flatMap voC)]:=rfl
theorem take_getD {α:Type} {l:List α} {k:Nat} (d:α) (h:k < l.length):l.take (k+1)=l.take k++[l.getD k d]:=by
 rw [List.take_succ_eq_append_getElem h,List.getD_eq_getElem?_getD,List.getElem?_eq_getElem h]
 rfl
theorem endV_nil {σ:zah} {K:AV→zah→Prop} (h:K (slV []) []):endQ 0 (.lit (.slice none 0 0)) σ K :=
 zcE [] (slV []) (.inr ⟨rfl,rfl⟩) ⟨[],_,[],rfl,rfl,by decide,zdP _ _,trivial,h⟩
theorem endV_ref {σ:zah} {id n:Nat} {l:List Vo} {K:AV→zah→Prop} (hc:σ[id]?=some (.rw (l.flatMap voC))) (hn:n=l.length) (h:K (slV l) []):endQ 0 (.ref id 0 n 3) σ K :=
 zcE [id] (slV l) (voF.frz (setRo_get hc) hn) ⟨[],_,[],rfl,rfl,by decide,zdP _ _,trivial,h⟩
theorem rops_ok (l:List Vo) (hl:l.length≤1000000):ACalls Tryz.prog 14 [slV l] [] (fun y _=>y=.ret (slV l)):=by
 rw [zfb]
 refine ACalls.body T_ok Tryz.func14 (by kernel_rfl) rfl Tryz.ntmps14 (congrArg Array.toList Tryz.results14) ?_
 try simp -implicitDefEqProofs only [LM7,LB29,eq_self,zab (h:=T68),zae,zac,zaa,zal,zdC,zce,bd_O,TB,SB,Int.reduceToNat,Nat.reduceAdd,Nat.reduceEqDiff,Nat.reduceLT,Nat.reduceMod,Nat.reducePow,Nat.reduceSub,if_true,reduceIte]
 rw [zbI]
 refine⟨Nat,fun k=>k≤l.length,fun k=>[.sl (l.flatMap voC) l.length,.bot,.lit (.slice none 0 0),opA k,i64 k,.bot,.bot,.bot,.bot,.bot,.bot,.bot,.bot,.bot,.bot,.bot,.bot,.bot,.bot,.bot,.bot,.bot,.bot,.bot,.bot,.bot,.bot,.bot,.bot,.bot,.bot],fun k=>opS l k,fun k=>l.length - k,0,Nat.zero_le _,?_,?_⟩
 ·refine zav (q:=[]) rfl rfl (by decide) ?_ ?_
  ·try simp only [LM5,List.set_cons_zero,List.set_cons_succ,List.length_cons,List.length_nil,Nat.reduceAdd,List.cons_append,List.nil_append,zad u8 zak,AV.ren,zaf u8 zak,zaf u32 zan,zaf i64 zag,zaf u64 zao,zad i64 zag,List.getElem?_cons_zero,List.getElem?_cons_succ,Option.map_some,true_and,and_true,or_true,true_or,reduceCtorEq,false_or,Option.some.injEq,Blk.rw.injEq,AV.sl.injEq,AV.ref.injEq,AV.ptr.injEq]
   simp [zcG,opA,AV.ren]
  ·try simp only [LM5,List.set_cons_zero,List.set_cons_succ,List.length_cons,List.length_nil,Nat.reduceAdd,List.cons_append,List.nil_append,zad u8 zak,AV.ren,zaf u8 zak,zaf u32 zan,zaf i64 zag,zaf u64 zao,zad i64 zag,List.getElem?_cons_zero,List.getElem?_cons_succ,Option.map_some,true_and,and_true,or_true,true_or,reduceCtorEq,false_or,Option.some.injEq,Blk.rw.injEq,AV.sl.injEq,AV.ref.injEq,AV.ptr.injEq]
   simp [opS,zar]
 intro k hk
 by_cases hlt:k < l.length
 ·have dl:decide ((k:Int) < (l.length:Int))=true:=decide_eq_true (by omega)
  cases k with
  | zero =>
   simp only [opA_0,opS_0]
   try simp -implicitDefEqProofs only [LM7,LB29,eq_self,zab (h:=T68),zae,zac,zaa,zal,zdC,zce,bd_O,dl,TB,SB,Int.reduceToNat,Nat.reduceAdd,Nat.reduceEqDiff,Nat.reduceLT,Nat.reduceMod,Nat.reducePow,Nat.reduceSub,if_true,reduceIte]
   refine zbU [18] (by kernel_rfl) (by kernel_rfl) (by kernel_rfl) ?_
   try simp -implicitDefEqProofs only [LM7,LB29,eq_self,zab (h:=T68),zae,zac,zaa,zal,zdC,zce,bd_O,ldz_V0,ldz_V1,ldz_V2,TB,SB,Int.reduceToNat,Nat.reduceAdd,Nat.reduceEqDiff,Nat.reduceLT,Nat.reduceMod,Nat.reducePow,Nat.reduceSub,if_true,reduceIte]
   refine⟨by omega,by omega,by omega,by omega,by omega,by omega,by omega,by omega,by omega,by omega,by omega,by omega,?_⟩
   try simp -implicitDefEqProofs only [LM7,LB29,eq_self,zab (h:=T68),zae,zac,zaa,zal,zdC,zce,bd_O,qb_V,TB,SB,Int.reduceToNat,Nat.reduceAdd,Nat.reduceEqDiff,Nat.reduceLT,Nat.reduceMod,Nat.reducePow,Nat.reduceSub,if_true,reduceIte]
   refine vo9_nil (y:=l.getD 0 v0) rfl ?_
   try simp -implicitDefEqProofs only [LM7,LB29,eq_self,zab (h:=T68),zae,zac,zaa,zal,zdC,zce,bd_O,TB,SB,Int.reduceToNat,Nat.reduceAdd,Nat.reduceEqDiff,Nat.reduceLT,Nat.reduceMod,Nat.reducePow,Nat.reduceSub,if_true,reduceIte]
   refine⟨by unfold inI;omega,?_⟩
   rw [zaC]
   refine⟨1,by omega,by omega,zav (q:=[0]) rfl rfl (by decide) ?_ ?_⟩
   ·try simp only [LM5,List.set_cons_zero,List.set_cons_succ,List.length_cons,List.length_nil,Nat.reduceAdd,List.cons_append,List.nil_append,zad u8 zak,AV.ren,zaf u8 zak,zaf u32 zan,zaf i64 zag,zaf u64 zao,zad i64 zag,List.getElem?_cons_zero,List.getElem?_cons_succ,Option.map_some,true_and,and_true,or_true,true_or,reduceCtorEq,false_or,Option.some.injEq,Blk.rw.injEq,AV.sl.injEq,AV.ref.injEq,AV.ptr.injEq]
    rw [zcG]
    exact⟨rfl,.inr rfl,.inr (by omega)⟩
   ·try simp only [LM5,List.set_cons_zero,List.set_cons_succ,List.length_cons,List.length_nil,Nat.reduceAdd,List.cons_append,List.nil_append,zad u8 zak,AV.ren,zaf u8 zak,zaf u32 zan,zaf i64 zag,zaf u64 zao,zad i64 zag,List.getElem?_cons_zero,List.getElem?_cons_succ,Option.map_some,true_and,and_true,or_true,true_or,reduceCtorEq,false_or,Option.some.injEq,Blk.rw.injEq,AV.sl.injEq,AV.ref.injEq,AV.ptr.injEq]
    rw [opS_1,take_getD v0 (by omega)]
    simp [zar,Blk.ren,zgT,voC,renL,zag,zai]
  | succ a =>
   simp only [opA_1,opS_1]
   try simp -implicitDefEqProofs only [LM7,LB29,eq_self,zab (h:=T68),zae,zac,zaa,zal,zdC,zce,bd_O,dl,TB,SB,Int.reduceToNat,Nat.reduceAdd,Nat.reduceEqDiff,Nat.reduceLT,Nat.reduceMod,Nat.reducePow,Nat.reduceSub,if_true,reduceIte]
   refine zbU [18] (by kernel_rfl) (by kernel_rfl) (by kernel_rfl) ?_
   try simp -implicitDefEqProofs only [LM7,LB29,eq_self,zab (h:=T68),zae,zac,zaa,zal,zdC,zce,bd_O,TB,SB,Int.reduceToNat,Nat.reduceAdd,Nat.reduceEqDiff,Nat.reduceLT,Nat.reduceMod,Nat.reducePow,Nat.reduceSub,if_true,reduceIte]
   refine⟨by omega,by omega,by omega,by omega,by omega,by omega,by omega,by omega,by omega,by omega,by omega,by omega,?_⟩
   try simp -implicitDefEqProofs only [LM7,LB29,eq_self,zab (h:=T68),zae,zac,zaa,zal,zdC,zce,bd_O,qb_V,TB,SB,Int.reduceToNat,Nat.reduceAdd,Nat.reduceEqDiff,Nat.reduceLT,Nat.reduceMod,Nat.reducePow,Nat.reduceSub,if_true,reduceIte]
   refine vo9_app (l:=l.take (a+1)) (y:=l.getD (a+1) v0) rfl (by rw [List.length_take];omega) rfl (by rw [List.length_take];omega) ?_
   rw [← take_getD v0 hlt]
   try simp -implicitDefEqProofs only [LM7,LB29,eq_self,zab (h:=T68),zae,zac,zaa,zal,zdC,zce,bd_O,TB,SB,Int.reduceToNat,Nat.reduceAdd,Nat.reduceEqDiff,Nat.reduceLT,Nat.reduceMod,Nat.reducePow,Nat.reduceSub,if_true,reduceIte]
   refine⟨by unfold inI;omega,?_⟩
   rw [zaC]
   refine⟨a+1+1,by omega,by omega,zav (q:=[1]) rfl rfl (by decide) ?_ ?_⟩
   ·try simp only [LM5,List.set_cons_zero,List.set_cons_succ,List.length_cons,List.length_nil,Nat.reduceAdd,List.cons_append,List.nil_append,zad u8 zak,AV.ren,zaf u8 zak,zaf u32 zan,zaf i64 zag,zaf u64 zao,zad i64 zag,List.getElem?_cons_zero,List.getElem?_cons_succ,Option.map_some,true_and,and_true,or_true,true_or,reduceCtorEq,false_or,Option.some.injEq,Blk.rw.injEq,AV.sl.injEq,AV.ref.injEq,AV.ptr.injEq]
    rw [zcG]
    exact⟨rfl,.inr rfl,.inr (by omega)⟩
   ·try simp only [LM5,List.set_cons_zero,List.set_cons_succ,List.length_cons,List.length_nil,Nat.reduceAdd,List.cons_append,List.nil_append,zad u8 zak,AV.ren,zaf u8 zak,zaf u32 zan,zaf i64 zag,zaf u64 zao,zad i64 zag,List.getElem?_cons_zero,List.getElem?_cons_succ,Option.map_some,true_and,and_true,or_true,true_or,reduceCtorEq,false_or,Option.some.injEq,Blk.rw.injEq,AV.sl.injEq,AV.ref.injEq,AV.ptr.injEq]
    rw [opS_1]
    simp [zar,Blk.ren,zgT,zcG]
 ·obtain rfl:k=l.length:=by omega
  have dl:decide ((l.length:Int) < (l.length:Int))=false:=decide_eq_false (by omega)
  cases hk0:l.length with
  | zero =>
   rw [hk0] at dl
   have e:l=[]:=List.eq_nil_of_length_eq_zero hk0
   subst e
   simp only [opA_0,opS_0]
   try simp -implicitDefEqProofs only [LM7,LB29,eq_self,zab (h:=T68),zae,zac,zaa,zal,zdC,zce,bd_O,dl,TB,SB,Int.reduceToNat,Nat.reduceAdd,Nat.reduceEqDiff,Nat.reduceLT,Nat.reduceMod,Nat.reducePow,Nat.reduceSub,if_true,reduceIte]
   exact endV_nil rfl
  | succ a =>
   rw [hk0] at dl
   simp only [opA_1,opS_1]
   try simp -implicitDefEqProofs only [LM7,LB29,eq_self,zab (h:=T68),zae,zac,zaa,zal,zdC,zce,bd_O,dl,TB,SB,Int.reduceToNat,Nat.reduceAdd,Nat.reduceEqDiff,Nat.reduceLT,Nat.reduceMod,Nat.reducePow,Nat.reduceSub,if_true,reduceIte]
   rw [show l.take (a+1)=l from List.take_of_length_le (by omega)]
   exact endV_ref (l:=l) (K:=fun y _=>AEnd.ret y=_) rfl hk0.symm (by rw [zfb,hk0])
theorem fit_vo9 (n:Vo):fitE T 2 77 (voQ n):=by
 rw [fitE]
 simp only [T77,tyVo]
 refine⟨trivial,rfl,rfl,?_⟩
 intro f hf
 simp only [List.mem_cons,List.not_mem_nil,or_false] at hf
 rcases hf with rfl | rfl | rfl
 ·exact⟨⟨_,T3⟩,zin T3 rfl⟩
 ·exact⟨⟨_,T9⟩,zin T9 rfl⟩
 ·exact⟨⟨_,T9⟩,zin T9 rfl⟩
theorem eqP_vo9 (a b:Vo):eqP T 77 (voC a) (voC b) (2,voQ a,voQ b,decide (a=b)) :=
 ⟨rfl,rfl,(by show 2≤100;omega),⟨tyVo,T77,rfl⟩,fit_vo9 a,fit_vo9 b,by simp only [decide_eq_true_eq];exact⟨fun h=>by rw [h],fun h=>zh3 h⟩⟩
theorem eqPv_vo9 {a b:Vo} {q:Nat × List Value × List Value × Bool} (h:eqP T 77 (voC a) (voC b) q):q.2.2.2=decide (a=b):=by
 obtain⟨h1,h2,_,_,_,_,h3⟩:=h
 have e1:=zdi (l:=voQ a) h1
 have e2:=zdi (l:=voQ b) h2
 rw [Bool.eq_iff_iff,h3,← e1,← e2,decide_eq_true_eq]
 exact⟨zh3,fun h=>by rw [h]⟩
theorem bn_vo_neq9 {a b:Vo} {K:AV→Prop}:wbin T .neq 77 (.agg (voC a)) (.agg (voC b)) K=K (bl (!decide (a=b))):=by
 apply propext
 constructor
 ·rintro⟨q,hq,hk⟩
  rw [← eqPv_vo9 hq]
  exact hk
 ·exact fun hk=>⟨_,eqP_vo9 a b,hk⟩
theorem rsameV_ok (a b:List Vo) (ha:a.length≤1000000000000):ACalls Tryz.prog 31 [.sl (a.flatMap voC) a.length,.sl (b.flatMap voC) b.length] [] (fun y _=>y=.ret (bl (decide (a=b)))):=by
 refine ACalls.body T_ok Tryz.func31 (by kernel_rfl) rfl Tryz.ntmps31 (congrArg Array.toList Tryz.results31) ?_
 try simp -implicitDefEqProofs only [LM7,LB29,eq_self,zab (h:=T68),zae,zac,zaa,zal,zdC,zce,bd_O,TB,SB,Int.reduceToNat,Nat.reduceAdd,Nat.reduceEqDiff,Nat.reduceLT,Nat.reduceMod,Nat.reducePow,Nat.reduceSub,if_true,reduceIte]
 refine⟨fun hne=>?_,fun heq=>?_⟩
 ·refine zaQ ?_
  rw [decide_eq_false (fun h=>hne (by rw [h]))]
 have hl:a.length=b.length:=by omega
 rw [zbI]
 refine⟨Nat,fun k=>k≤a.length∧∀ i,i < k→a.getD i v0=b.getD i v0,fun k=>[.sl (a.flatMap voC) a.length,.sl (b.flatMap voC) b.length,.bot,.bot,.bot,i64 k,.bot,.bot,.bot,.bot,.bot,.bot,.bot,.bot,.bot,.bot,.bot,.bot,.bot,.bot,.bot,.bot,.bot,.bot,.bot,.bot],fun _=>[],fun k=>a.length - k,0,⟨Nat.zero_le _,fun i hi=>by omega⟩,?_,?_⟩
 ·refine zav (q:=[]) rfl rfl (by decide) ?_ ?_
  ·skip
   try simp only [LM5,List.set_cons_zero,List.set_cons_succ,List.length_cons,List.length_nil,Nat.reduceAdd,List.cons_append,List.nil_append,zad u8 zak,AV.ren,zaf u8 zak,zaf u32 zan,zaf i64 zag,zaf u64 zao,zad i64 zag,List.getElem?_cons_zero,List.getElem?_cons_succ,Option.map_some,true_and,and_true,or_true,true_or,reduceCtorEq,false_or,Option.some.injEq,Blk.rw.injEq,AV.sl.injEq,AV.ref.injEq,AV.ptr.injEq]
   simp [zcG]
  ·skip
   try simp only [LM5,List.set_cons_zero,List.set_cons_succ,List.length_cons,List.length_nil,Nat.reduceAdd,List.cons_append,List.nil_append,zad u8 zak,AV.ren,zaf u8 zak,zaf u32 zan,zaf i64 zag,zaf u64 zao,zad i64 zag,List.getElem?_cons_zero,List.getElem?_cons_succ,Option.map_some,true_and,and_true,or_true,true_or,reduceCtorEq,false_or,Option.some.injEq,Blk.rw.injEq,AV.sl.injEq,AV.ref.injEq,AV.ptr.injEq]
 ·rintro k ⟨hk,hsame⟩
  try simp -implicitDefEqProofs only [LM7,LB29,eq_self,zab (h:=T68),zae,zac,zaa,zal,zdC,zce,bd_O,TB,SB,Int.reduceToNat,Nat.reduceAdd,Nat.reduceEqDiff,Nat.reduceLT,Nat.reduceMod,Nat.reducePow,Nat.reduceSub,if_true,reduceIte]
  refine⟨fun hlt=>?_,fun hge=>?_⟩
  ·skip
   refine zcZ (by kernel_rfl) (by kernel_rfl) ?_
   try simp -implicitDefEqProofs only [LM7,LB29,eq_self,zab (h:=T68),zae,zac,zaa,zal,zdC,zce,bd_O,TB,SB,Int.reduceToNat,Nat.reduceAdd,Nat.reduceEqDiff,Nat.reduceLT,Nat.reduceMod,Nat.reducePow,Nat.reduceSub,if_true,reduceIte]
   repeat (with_reducible refine And.intro (by first | omega | decide | (unfold inI;omega) | (simp only [List.length_append,List.length_reverse,List.length_take,List.length_drop,List.length_cons,List.length_nil,List.length_map,List.length_replicate];omega)) ?_)
   rw [← zeq,← zeq,bn_vo_neq9]
   try simp -implicitDefEqProofs only [LM7,LB29,eq_self,zab (h:=T68),zae,zac,zaa,zal,zdC,zce,bd_O,TB,SB,Int.reduceToNat,Nat.reduceAdd,Nat.reduceEqDiff,Nat.reduceLT,Nat.reduceMod,Nat.reducePow,Nat.reduceSub,if_true,reduceIte]
   refine⟨fun hne=>?_,fun heq=>?_⟩
   ·refine zaQ ?_
    rw [decide_eq_false (by rintro rfl;exact hne rfl)]
   ·skip
    repeat (with_reducible refine And.intro (by first | omega | decide | (unfold inI;omega) | (simp only [List.length_append,List.length_reverse,List.length_take,List.length_drop,List.length_cons,List.length_nil,List.length_map,List.length_replicate];omega)) ?_)
    rw [zaC]
    refine⟨k+1,⟨by omega,fun i hi=>?_⟩,by omega,zav (q:=[]) rfl rfl (by decide) ?_ ?_⟩
    ·rcases Nat.lt_succ_iff_lt_or_eq.1 hi with h | rfl
     ·exact hsame i h
     ·simpa using heq
    ·skip
     try simp only [LM5,List.set_cons_zero,List.set_cons_succ,List.length_cons,List.length_nil,Nat.reduceAdd,List.cons_append,List.nil_append,zad u8 zak,AV.ren,zaf u8 zak,zaf u32 zan,zaf i64 zag,zaf u64 zao,zad i64 zag,List.getElem?_cons_zero,List.getElem?_cons_succ,Option.map_some,true_and,and_true,or_true,true_or,reduceCtorEq,false_or,Option.some.injEq,Blk.rw.injEq,AV.sl.injEq,AV.ref.injEq,AV.ptr.injEq]
     simp [zcG]
    ·skip
     try simp only [LM5,List.set_cons_zero,List.set_cons_succ,List.length_cons,List.length_nil,Nat.reduceAdd,List.cons_append,List.nil_append,zad u8 zak,AV.ren,zaf u8 zak,zaf u32 zan,zaf i64 zag,zaf u64 zao,zad i64 zag,List.getElem?_cons_zero,List.getElem?_cons_succ,Option.map_some,true_and,and_true,or_true,true_or,reduceCtorEq,false_or,Option.some.injEq,Blk.rw.injEq,AV.sl.injEq,AV.ref.injEq,AV.ptr.injEq]
  ·obtain rfl:k=a.length:=by omega
   try simp -implicitDefEqProofs only [LM7,LB29,eq_self,zab (h:=T68),zae,zac,zaa,zal,zdC,zce,bd_O,TB,SB,Int.reduceToNat,Nat.reduceAdd,Nat.reduceEqDiff,Nat.reduceLT,Nat.reduceMod,Nat.reducePow,Nat.reduceSub,if_true,reduceIte]
   refine zaQ ?_
   rw [decide_eq_true (List.ext_getElem hl fun i h1 h2=>by have:=hsame i h1;simpa [h1,h2] using this)]
def fewS (s:Sv):Prop:=fewI s.blobs∧fewI s.cells∧s.head.length≤80
theorem fewS_ok (s:Sv) (h1:s.blobs.length≤9223372036854775807) (h2:s.cells.length≤9223372036854775807):ACalls Tryz.prog 9 [svA s] [] (fun y _=>∃ b:Bool,y=.ret (bl b)∧(b=true→fewS s)):=by
 obtain⟨sb,sc,sh,sn⟩:=s
 have ha:=fewI_ok sb h1
 have hb:=fewI_ok sc h2
 dsimp only at h1 h2
 simp only [zcx,zbV]
 refine ACalls.body T_ok Tryz.func9 (by kernel_rfl) rfl Tryz.ntmps9 (congrArg Array.toList Tryz.results9) ?_
 try simp -implicitDefEqProofs only [LM7,LB29,eq_self,zab (h:=T68),zae,zac,zaa,zal,zdC,zce,bd_O,TB,SB,Int.reduceToNat,Nat.reduceAdd,Nat.reduceEqDiff,Nat.reduceLT,Nat.reduceMod,Nat.reducePow,Nat.reduceSub,if_true,reduceIte]
 refine ha.pure (by simp [renL,zaR,AV.ren]) ?_
 rintro _ σ ⟨a,rfl,fa⟩
 refine⟨zaG _ _,?_⟩
 try simp -implicitDefEqProofs only [LM7,LB29,eq_self,zab (h:=T68),zae,zac,zaa,zal,zdC,zce,bd_O,TB,SB,Int.reduceToNat,Nat.reduceAdd,Nat.reduceEqDiff,Nat.reduceLT,Nat.reduceMod,Nat.reducePow,Nat.reduceSub,if_true,reduceIte]
 refine hb.pure (by simp [renL,zaR,AV.ren]) ?_
 rintro _ σ ⟨b,rfl,fb⟩
 refine⟨zaG _ _,?_⟩
 cases a with
 | false =>
  try simp -implicitDefEqProofs only [LM7,LB29,eq_self,zab (h:=T68),zae,zac,zaa,zal,zdC,zce,bd_O,TB,SB,Int.reduceToNat,Nat.reduceAdd,Nat.reduceEqDiff,Nat.reduceLT,Nat.reduceMod,Nat.reducePow,Nat.reduceSub,if_true,reduceIte]
  exact zaQ ⟨false,rfl,fun h=>by cases h⟩
 | true =>
  cases b with
  | false =>
   try simp -implicitDefEqProofs only [LM7,LB29,eq_self,zab (h:=T68),zae,zac,zaa,zal,zdC,zce,bd_O,TB,SB,Int.reduceToNat,Nat.reduceAdd,Nat.reduceEqDiff,Nat.reduceLT,Nat.reduceMod,Nat.reducePow,Nat.reduceSub,if_true,reduceIte]
   exact zaQ ⟨false,rfl,fun h=>by cases h⟩
  | true =>
   try simp -implicitDefEqProofs only [LM7,LB29,eq_self,zab (h:=T68),zae,zac,zaa,zal,zdC,zce,bd_O,TB,SB,Int.reduceToNat,Nat.reduceAdd,Nat.reduceEqDiff,Nat.reduceLT,Nat.reduceMod,Nat.reducePow,Nat.reduceSub,if_true,reduceIte]
   exact zaQ ⟨_,rfl,fun h=>⟨fa rfl,fb rfl,by have:=of_decide_eq_true h;show sh.length≤80;omega⟩⟩
end Go.Proofs.YtdmiflfhaobngaaGreatDoor
end

section
namespace Go.Proofs.YtdmiflfhaobngaaGreatDoor
open Go Go.Eng
set_option linter.defProp false in
def LB30:=And.intro @zdC (And.intro @zce (@bd_O))
theorem put_few {l:List Vo} (h:fewV l):(∃ p,putV l=(p,0)∧p.length≤1000000∧getV p=(l,0))∨putV l=([],1):=by
 cases hb:zbK l with
 | false=>exact .inr (by rw [putV,hb,if_neg (by decide)])
 | true =>
  refine .inl ⟨zbh (opsT l),by rw [putV,if_pos hb],?_,by have:=getV_put hb;rwa [putV,if_pos hb] at this⟩
  have h4:(zbh (opsT l)).length≤(2 * 200+3) * (opsT l).length:=zd4 (opsT l) fun s hs=>by
   simp only [opsT,List.mem_flatMap,opT,List.mem_cons,List.not_mem_nil,or_false] at hs
   obtain⟨o,ho,rfl | rfl | rfl⟩:=hs
   ·rw [zbO];omega
   ·have:=(h.2 o ho).1;omega
   ·have:=(h.2 o ho).2;omega
  rw [zfO] at h4
  have:=h.1
  omega
theorem bytes_few {s:Sv} (h:fewS s):(∃ c,zcy s=(c,0)∧c.length≤1000000∧ze2 c=(s,0))∨zcy s=([],1):=by
 cases hb:chkS s with
 | false=>exact .inr (by rw [zcy,hb,if_neg (by decide)])
 | true =>
  refine .inl ⟨zbh (svT s),by rw [zcy,if_pos hb],?_,by have:=readS_put hb;rwa [zcy,if_pos hb] at this⟩
  obtain⟨f1,f2,f3⟩:=h
  have hi:∀ l:List It,fewI l→∀ x∈itT l,x.length≤200:=fun l h x hx=>by
   simp only [itT,List.mem_flatMap,List.mem_cons,List.not_mem_nil,or_false] at hx
   obtain⟨o,ho,rfl | rfl⟩:=hx
   ·have:=(h.2 o ho).1;omega
   ·have:=(h.2 o ho).2;omega
  have h4:(zbh (svT s)).length≤(2 * 200+3) * (svT s).length:=zd4 (svT s) fun x hx=>by
   simp only [svT,List.mem_cons,List.mem_append] at hx
   rcases hx with rfl | rfl | rfl | hx | hx
   ·omega
   ·rw [zbO];omega
   ·rw [zbO];omega
   ·exact hi _ f1 x hx
   ·exact hi _ f2 x hx
  have hlen:(svT s).length=3+2 * s.blobs.length+2 * s.cells.length:=by
   simp only [svT,List.length_cons,List.length_append,zeJ];omega
  rw [hlen] at h4
  have:=f1.1
  have:=f2.1
  omega
set_option maxRecDepth 20000 in
set_option maxHeartbeats 3200000 in
theorem VaultBack_ok (s:Sv) (l:List Vo) (b:List UInt8) (h1:s.blobs.length≤9223372036854775807∧s.cells.length≤9223372036854775807) (h2:l.length≤9223372036854775807):ACalls Tryz.prog 5 [svA s,slV l,str b] [] (fun y _=>y=.ret (bl true)):=by
 have hw:=works18_ok
 have hfs:=fewS_ok s h1.1 h1.2
 have hfv:=fewV_ok l h2
 have hpu:=zhY l
 have hby:=zg2 s h1.1 h1.2
 have hpf:=@put_few l
 have hbf:=@bytes_few s
 simp only [zcx,zbV,zfb] at hfs hby ⊢
 refine ACalls.body T_ok Tryz.func5 (by kernel_rfl) rfl Tryz.ntmps5 (congrArg Array.toList Tryz.results5) ?_
 try simp -implicitDefEqProofs only [LM7,LB29,LB30,eq_self,zab (h:=T68),zae,zac,zaa,zal,TB,SB,Int.reduceToNat,Nat.reduceAdd,Nat.reduceEqDiff,Nat.reduceLT,Nat.reduceMod,Nat.reducePow,Nat.reduceSub,if_true,reduceIte]
 refine hw.pure rfl ?_
 rintro _ σ rfl
 refine⟨zaG _ _,?_⟩
 try simp -implicitDefEqProofs only [LM7,LB29,LB30,eq_self,zab (h:=T68),zae,zac,zaa,zal,TB,SB,Int.reduceToNat,Nat.reduceAdd,Nat.reduceEqDiff,Nat.reduceLT,Nat.reduceMod,Nat.reducePow,Nat.reduceSub,if_true,reduceIte]
 refine hfs.pure (zgd s _) ?_
 rintro _ σ ⟨fs,rfl,fS⟩
 refine⟨zaG _ _,?_⟩
 cases fs with
 | false =>
  try simp -implicitDefEqProofs only [LM7,LB29,LB30,eq_self,zab (h:=T68),zae,zac,zaa,zal,TB,SB,Int.reduceToNat,Nat.reduceAdd,Nat.reduceEqDiff,Nat.reduceLT,Nat.reduceMod,Nat.reducePow,Nat.reduceSub,if_true,reduceIte]
  exact zaQ rfl
 | true =>
 try simp -implicitDefEqProofs only [LM7,LB29,LB30,eq_self,zab (h:=T68),zae,zac,zaa,zal,TB,SB,Int.reduceToNat,Nat.reduceAdd,Nat.reduceEqDiff,Nat.reduceLT,Nat.reduceMod,Nat.reducePow,Nat.reduceSub,if_true,reduceIte]
 refine hfv.pure (zgc l _) ?_
 rintro _ σ ⟨fo,rfl,fV⟩
 refine⟨zaG _ _,?_⟩
 cases fo with
 | false =>
  try simp -implicitDefEqProofs only [LM7,LB29,LB30,eq_self,zab (h:=T68),zae,zac,zaa,zal,TB,SB,Int.reduceToNat,Nat.reduceAdd,Nat.reduceEqDiff,Nat.reduceLT,Nat.reduceMod,Nat.reducePow,Nat.reduceSub,if_true,reduceIte]
  exact zaQ rfl
 | true =>
 have fS:=fS rfl
 have fV:=fV rfl
 by_cases hbl:3000 < (b.length:Int)
 ·have dl:=decide_eq_true hbl
  try simp -implicitDefEqProofs only [LM7,LB29,LB30,eq_self,zab (h:=T68),zae,zac,zaa,zal,dl,TB,SB,Int.reduceToNat,Nat.reduceAdd,Nat.reduceEqDiff,Nat.reduceLT,Nat.reduceMod,Nat.reducePow,Nat.reduceSub,if_true,reduceIte]
  exact zaQ rfl
 have dl:=decide_eq_false hbl
 try simp -implicitDefEqProofs only [LM7,LB29,LB30,eq_self,zab (h:=T68),zae,zac,zaa,zal,dl,TB,SB,Int.reduceToNat,Nat.reduceAdd,Nat.reduceEqDiff,Nat.reduceLT,Nat.reduceMod,Nat.reducePow,Nat.reduceSub,if_true,reduceIte]
 refine hpu.pure (zgc l _) ?_
 rintro _ σ rfl
 refine⟨zcQ _ _ _,?_⟩
 rcases hpf fV with ⟨p,e1,e2,e3⟩ | e1
 case' inl =>
  rw [e1]
  try simp -implicitDefEqProofs only [LM7,LB29,LB30,eq_self,zab (h:=T68),zae,zac,zaa,zal,TB,SB,Int.reduceToNat,Nat.reduceAdd,Nat.reduceEqDiff,Nat.reduceLT,Nat.reduceMod,Nat.reducePow,Nat.reduceSub,if_true,reduceIte]
  refine(zh2 p e2).pure (by simp [renL,zai]) ?_
  rintro _ σ rfl
  refine⟨zf8 _ _ _,?_⟩
  rw [e3]
  simp only [zfb]
  try simp -implicitDefEqProofs only [LM7,LB29,LB30,eq_self,zab (h:=T68),zae,zac,zaa,zal,TB,SB,Int.reduceToNat,Nat.reduceAdd,Nat.reduceEqDiff,Nat.reduceLT,Nat.reduceMod,Nat.reducePow,Nat.reduceSub,if_true,reduceIte]
  refine(rops_ok l (by have:=fV.1;omega)).pure (zgc l _) ?_
  rintro _ σ rfl
  refine⟨zdP _ _,?_⟩
  simp only [zfb]
  try simp -implicitDefEqProofs only [LM7,LB29,LB30,eq_self,zab (h:=T68),zae,zac,zaa,zal,TB,SB,Int.reduceToNat,Nat.reduceAdd,Nat.reduceEqDiff,Nat.reduceLT,Nat.reduceMod,Nat.reducePow,Nat.reduceSub,if_true,reduceIte]
  refine(rops_ok l (by have:=fV.1;omega)).pure (zgc l _) ?_
  rintro _ σ rfl
  refine⟨zdP _ _,?_⟩
  simp only [zfb]
  try simp -implicitDefEqProofs only [LM7,LB29,LB30,eq_self,zab (h:=T68),zae,zac,zaa,zal,TB,SB,Int.reduceToNat,Nat.reduceAdd,Nat.reduceEqDiff,Nat.reduceLT,Nat.reduceMod,Nat.reducePow,Nat.reduceSub,if_true,reduceIte]
  refine(rsameV_ok l l (by have:=fV.1;omega)).pure (by simp [renL,zcG,AV.ren]) ?_
  rintro _ σ rfl
  refine⟨zaG _ _,?_⟩
  rw [decide_eq_true (rfl:l=l)]
  try simp -implicitDefEqProofs only [LM7,LB29,LB30,eq_self,zab (h:=T68),zae,zac,zaa,zal,TB,SB,Int.reduceToNat,Nat.reduceAdd,Nat.reduceEqDiff,Nat.reduceLT,Nat.reduceMod,Nat.reducePow,Nat.reduceSub,if_true,reduceIte]
 case' inr =>
  rw [e1]
  try simp -implicitDefEqProofs only [LM7,LB29,LB30,eq_self,zab (h:=T68),zae,zac,zaa,zal,TB,SB,Int.reduceToNat,Nat.reduceAdd,Nat.reduceEqDiff,Nat.reduceLT,Nat.reduceMod,Nat.reducePow,Nat.reduceSub,if_true,reduceIte]
  refine(zh2 [] (by simp)).pure (by simp [renL,zai]) ?_
  rintro _ σ rfl
  refine⟨zf8 _ _ _,?_⟩
  generalize getV []=X
  simp only [zfb]
  try simp -implicitDefEqProofs only [LM7,LB29,LB30,eq_self,zab (h:=T68),zae,zac,zaa,zal,show decide ((1:Int)=0)=false from rfl,show decide ((0:Int)=0)=true from rfl,show decide ((5:Int)=0)=false from rfl,show decide ((5:Int)=5)=true from rfl,eq_self,TB,SB,Int.reduceToNat,Nat.reduceAdd,Nat.reduceEqDiff,Nat.reduceLT,Nat.reduceMod,Nat.reducePow,Nat.reduceSub,if_true,reduceIte]
 all_goals
  refine hby.pure (zgd s _) ?_
  rintro _ σ rfl
  refine⟨zcQ _ _ _,?_⟩
  rcases hbf fS with ⟨c,g1,g2,g3⟩ | g1
  case' inl =>
   rw [g1]
   try simp -implicitDefEqProofs only [LM7,LB29,LB30,eq_self,zab (h:=T68),zae,zac,zaa,zal,TB,SB,Int.reduceToNat,Nat.reduceAdd,Nat.reduceEqDiff,Nat.reduceLT,Nat.reduceMod,Nat.reducePow,Nat.reduceSub,if_true,reduceIte]
   refine(zgq c g2).pure (by simp [renL,zai]) ?_
   rintro _ σ rfl
   refine⟨zem _ _ _,?_⟩
   rw [g3]
   simp only [zcx,zbV]
   try simp -implicitDefEqProofs only [LM7,LB29,LB30,eq_self,zab (h:=T68),zae,zac,zaa,zal,TB,SB,Int.reduceToNat,Nat.reduceAdd,Nat.reduceEqDiff,Nat.reduceLT,Nat.reduceMod,Nat.reducePow,Nat.reduceSub,if_true,reduceIte]
   refine(zh7 s s (by have:=fS.2.2;omega) (by have:=fS.1.1;omega) (by have:=fS.2.1.1;omega)).pure (noid_aa s s _) ?_
   rintro _ σ rfl
   refine⟨zaG _ _,?_⟩
   rw [decide_eq_true (rfl:s=s)]
   try simp -implicitDefEqProofs only [LM7,LB29,LB30,eq_self,zab (h:=T68),zae,zac,zaa,zal,TB,SB,Int.reduceToNat,Nat.reduceAdd,Nat.reduceEqDiff,Nat.reduceLT,Nat.reduceMod,Nat.reducePow,Nat.reduceSub,if_true,reduceIte]
  case' inr =>
   rw [g1]
   try simp -implicitDefEqProofs only [LM7,LB29,LB30,eq_self,zab (h:=T68),zae,zac,zaa,zal,show decide ((1:Int)=0)=false from rfl,show decide ((0:Int)=0)=true from rfl,show decide ((5:Int)=0)=false from rfl,show decide ((5:Int)=5)=true from rfl,eq_self,TB,SB,Int.reduceToNat,Nat.reduceAdd,Nat.reduceEqDiff,Nat.reduceLT,Nat.reduceMod,Nat.reducePow,Nat.reduceSub,if_true,reduceIte]
   refine(zgq [] (by simp)).pure (by simp [renL,zai]) ?_
   rintro _ σ rfl
   refine⟨zem _ _ _,?_⟩
   generalize ze2 []=Y
   simp only [zcx,zbV]
   try simp -implicitDefEqProofs only [LM7,LB29,LB30,eq_self,zab (h:=T68),zae,zac,zaa,zal,show decide ((1:Int)=0)=false from rfl,show decide ((0:Int)=0)=true from rfl,show decide ((5:Int)=0)=false from rfl,show decide ((5:Int)=5)=true from rfl,eq_self,TB,SB,Int.reduceToNat,Nat.reduceAdd,Nat.reduceEqDiff,Nat.reduceLT,Nat.reduceMod,Nat.reducePow,Nat.reduceSub,if_true,reduceIte]
  all_goals
   refine(zh2 b (by omega)).pure (by simp [renL,zai]) ?_
   rintro _ σ rfl
   refine⟨zf8 _ _ _,?_⟩
   by_cases gi:(getV b).2=0
   case' pos =>
    have hbk:=getV_back gi
    rw [gi]
    generalize (getV b).1=M at hbk ⊢
    simp only [zfb]
    try simp -implicitDefEqProofs only [LM7,LB29,LB30,eq_self,zab (h:=T68),zae,zac,zaa,zal,show decide ((1:Int)=0)=false from rfl,show decide ((0:Int)=0)=true from rfl,show decide ((5:Int)=0)=false from rfl,show decide ((5:Int)=5)=true from rfl,eq_self,TB,SB,Int.reduceToNat,Nat.reduceAdd,Nat.reduceEqDiff,Nat.reduceLT,Nat.reduceMod,Nat.reducePow,Nat.reduceSub,if_true,reduceIte]
    refine(zhY M).pure (zgc M _) ?_
    rintro _ σ rfl
    refine⟨zcQ _ _ _,?_⟩
    rw [hbk]
    try simp -implicitDefEqProofs only [LM7,LB29,LB30,eq_self,zab (h:=T68),zae,zac,zaa,zal,show decide ((1:Int)=0)=false from rfl,show decide ((0:Int)=0)=true from rfl,show decide ((5:Int)=0)=false from rfl,show decide ((5:Int)=5)=true from rfl,eq_self,TB,SB,Int.reduceToNat,Nat.reduceAdd,Nat.reduceEqDiff,Nat.reduceLT,Nat.reduceMod,Nat.reducePow,Nat.reduceSub,if_true,reduceIte]
   case' neg =>
    rw [getV_bad gi]
    simp only [zfb]
    try simp -implicitDefEqProofs only [LM7,LB29,LB30,eq_self,zab (h:=T68),zae,zac,zaa,zal,show decide ((1:Int)=0)=false from rfl,show decide ((0:Int)=0)=true from rfl,show decide ((5:Int)=0)=false from rfl,show decide ((5:Int)=5)=true from rfl,eq_self,TB,SB,Int.reduceToNat,Nat.reduceAdd,Nat.reduceEqDiff,Nat.reduceLT,Nat.reduceMod,Nat.reducePow,Nat.reduceSub,if_true,reduceIte]
   all_goals
    refine(zgq b (by omega)).pure (by simp [renL,zai]) ?_
    rintro _ σ rfl
    refine⟨zem _ _ _,?_⟩
    by_cases gr:(ze2 b).2=0
    case' pos =>
     have hrb:=readS_back gr
     rw [gr]
     generalize (ze2 b).1=u at hrb ⊢
     have hcu:chkS u=true:=by
      cases hc:chkS u with
      | true=>rfl
      | false =>
       rw [zcy,hc,if_neg (by decide)] at hrb
       exact absurd (show (1:Int)=0 from congrArg Prod.snd hrb) (by decide)
     obtain⟨⟨-,l1⟩,⟨-,l2⟩,-⟩:=zfs hcu
     have hbu:=zg2 u (by omega) (by omega)
     rw [hrb] at hbu
     simp only [zcx,zbV] at hbu ⊢
     try simp -implicitDefEqProofs only [LM7,LB29,LB30,eq_self,zab (h:=T68),zae,zac,zaa,zal,show decide ((1:Int)=0)=false from rfl,show decide ((0:Int)=0)=true from rfl,show decide ((5:Int)=0)=false from rfl,show decide ((5:Int)=5)=true from rfl,eq_self,TB,SB,Int.reduceToNat,Nat.reduceAdd,Nat.reduceEqDiff,Nat.reduceLT,Nat.reduceMod,Nat.reducePow,Nat.reduceSub,if_true,reduceIte]
     refine hbu.pure (zgd u _) ?_
     rintro _ σ rfl
     refine⟨zcQ _ _ _,?_⟩
     try simp -implicitDefEqProofs only [LM7,LB29,LB30,eq_self,zab (h:=T68),zae,zac,zaa,zal,show decide ((1:Int)=0)=false from rfl,show decide ((0:Int)=0)=true from rfl,show decide ((5:Int)=0)=false from rfl,show decide ((5:Int)=5)=true from rfl,eq_self,TB,SB,Int.reduceToNat,Nat.reduceAdd,Nat.reduceEqDiff,Nat.reduceLT,Nat.reduceMod,Nat.reducePow,Nat.reduceSub,if_true,reduceIte]
    case' neg =>
     rw [readS_bad gr]
     simp only [zcx,zbV,s0]
     try simp -implicitDefEqProofs only [LM7,LB29,LB30,eq_self,zab (h:=T68),zae,zac,zaa,zal,show decide ((1:Int)=0)=false from rfl,show decide ((0:Int)=0)=true from rfl,show decide ((5:Int)=0)=false from rfl,show decide ((5:Int)=5)=true from rfl,eq_self,TB,SB,Int.reduceToNat,Nat.reduceAdd,Nat.reduceEqDiff,Nat.reduceLT,Nat.reduceMod,Nat.reducePow,Nat.reduceSub,if_true,reduceIte]
    all_goals
     first
     | exact zaQ rfl
     | exact zaQ (by simp)
end Go.Proofs.YtdmiflfhaobngaaGreatDoor
end

section
namespace Go.Proofs.YtdmiflfhaobngaaGreatDoor
open Go Go.Eng
def O0:Nat→Prop:=own (fun _=>False) [] []
theorem no_own (b:Nat):¬ own (fun _=>False) [] [] b:=by
 rintro(hb | ⟨i,cs,hi,_⟩)
 ·exact hb
 ·simp at hi
def zix {α:Type} (w:World) (f:α→List AV) (v:Value):Prop:=∃ (ad:Option Addr) (len cap:Nat) (l:List α),v=.slice ad len cap∧len≤cap∧cap≤maxLen∧l.length=len∧(len=0∨∃ b off,ad=some ⟨b,off,none⟩∧b < w.heap.size∧za5 w O0 [] b (l.flatMap f) off)
theorem zh8 {α:Type} {f:α→List AV} {w:World} {v:Value} (h:zix w f v):∃ l:List α,l.length≤9223372036854775807∧rep w O0 [] (.sl (l.flatMap f) l.length) v:=by
 obtain⟨ad,len,cap,l,rfl,h1,h2,h3,h5⟩:=h
 refine⟨l,by unfold maxLen at h2;omega,?_⟩
 simp only [rep]
 rw [h3]
 refine⟨ad,cap,rfl,h1,h2,?_⟩
 rcases h5 with h5 | ⟨b,off,rfl,hb,hat⟩
 ·refine .inl ?_
  have:l=[]:=by rw [h5] at h3;exact List.eq_nil_of_length_eq_zero h3
  subst this
  rfl
 ·exact .inr ⟨b,off,rfl,no_own b,hb,hat⟩
theorem repAt_app {w:World} {O:Nat→Prop} {m:Ids} {b:Nat}:∀ (l r:List AV) (off:Nat),za5 w O m b l off→za5 w O m b r (off+l.length)→za5 w O m b (l++r) off
 | [],r,off,_,h=>by simpa using h
 | a::l,r,off,h,g=>by
  simp only [List.cons_append,za5] at h ⊢
  exact⟨h.1,repAt_app l r (off+1) h.2 (by rwa [List.length_cons,show off+(l.length+1)=off+1+l.length by omega] at g)⟩
theorem add_none (b off n:Nat):(⟨b,off,none⟩:Addr).add n=⟨b,off+n,none⟩:=by
 by_cases h:n=0
 ·subst h
  simp [Addr.add]
 ·simp [Addr.add,h]
theorem rep_rowN {α:Type} {f:α→List AV} {wd:Nat} (F:RowF f wd) {w:World} {O:Nat→Prop} {m:Ids} {b off:Nat}:∀ (n:Nat),(∀ i,i < n→∃ a:α,za5 w O m b (f a) (off+i * wd))→∃ l:List α,l.length=n∧za5 w O m b (l.flatMap f) off
 | 0,_=>⟨[],rfl,by simp [za5]⟩
 | n+1,h=>by
  obtain⟨l,h1,h3⟩:=rep_rowN F n fun i hi=>h i (by omega)
  obtain⟨a,h5⟩:=h n (by omega)
  refine⟨l++[a],by simp [h1],?_⟩
  rw [List.flatMap_append]
  refine repAt_app _ _ _ h3 ?_
  rw [F.flen,h1,List.flatMap_cons,List.flatMap_nil,List.append_nil]
  exact h5
theorem zfQ {w:World} {O:Nat→Prop} {m:Ids} {b:Nat}:∀ (l:List AV) (vs:List Value) (off:Nat),reps w O m l vs→(∀ i,i < l.length→w.cell? ⟨b,off+i,none⟩=vs[i]?)→za5 w O m b l off
 | [],_,_,_,_=>by simp [za5]
 | a::l,vs,off,h,g=>by
  simp only [reps] at h
  obtain⟨v,r,rfl,h1,h2⟩:=h
  simp only [za5]
  refine⟨⟨v,by simpa using g 0 (by simp),h1⟩,zfQ l r (off+1) h2 fun i hi=>?_⟩
  have:=g (i+1) (by simpa using hi)
  rwa [List.getElem?_cons_succ,show off+(i+1)=off+1+i by omega] at this
theorem four {cs:List Value} (h:cs.length=4):∃ a b c d,cs=[a,b,c,d]:=by
 match cs,h with
 | [a,b,c,d],_=>exact⟨a,b,c,d,rfl⟩
theorem three {cs:List Value} (h:cs.length=3):∃ a b c,cs=[a,b,c]:=by
 match cs,h with
 | [a,b,c],_=>exact⟨a,b,c,rfl⟩
theorem two {cs:List Value} (h:cs.length=2):∃ a b,cs=[a,b]:=by
 match cs,h with
 | [a,b],_=>exact⟨a,b,rfl⟩
section
open Go.ChangeShapes Go.WideShapes Go.ChangeAt Go.RowKit
variable {H : Type} {enc : TypeId × Value → H} {P : Program} {w : World} {base : Nat} {held : Bool}
theorem zg4 {α:Type} {f:α→List AV} {wd:Nat} (F:RowF f wd) (hp:0 < wd) {t0 t:TypeId} {fuel:Nat} {v:Value} {x:DataW H × List MemPlace} (ht0:P.underlying t0=some (.slice t)) (c4:P.cellsOf t=wd)
  (row:∀ fuel cs y,DataW.trod enc P w base (fun _=>true) held fuel t cs=some y→cs.length=wd→∃ a:α,reps w O0 [] (f a) cs)
  (hf:DataW.trod enc P w base (fun _=>true) held fuel t0 [v]=some x):zix w f v:=by
 rcases DataW.trod_slice ht0 hf with ⟨hcs,_⟩ | ⟨x,len,cap,elems,rest,n,_,hcs,_,_,hl,hm,hlen,hel,_,_⟩
 ·simp at hcs
  exact⟨none,0,0,[],hcs,Nat.le_refl _,by simp [maxLen],rfl,.inl rfl⟩
 ·simp at hcs
  by_cases hz:len=0
  ·exact⟨_,len,cap,[],hcs,hl,hm,hz.symm,.inl hz⟩
  rw [c4] at hel
  have each:∀ i,i < len→∃ (y:α) (cs:List Value),reps w O0 [] (f y) cs∧cs.length=wd∧∀ j,j < wd→w.cell? ((x.add (i * wd)).add j)=cs[j]?:=by
   intro i hi
   have hi':=hel i hi
   rw [List.getElem?_eq_getElem (by omega),Option.bind_eq_some_iff] at hi'
   obtain⟨cs,hcs,hy⟩:=hi'
   obtain⟨_,hn,hc⟩:=World.cells?_some hcs
   obtain⟨a,ha⟩:=row _ _ _ hy hn
   exact⟨a,cs,ha,hn,hc⟩
  obtain⟨y,cs,_,hn,hc⟩:=each 0 (by omega)
  obtain⟨b,off,spot⟩:=x
  have hv0:=hc 0 hp
  rw [List.getElem?_eq_getElem (by omega)] at hv0
  have hspot:spot=none:=by simpa [Addr.add] using World.cell?_spot hv0
  subst hspot
  obtain⟨l,hl1,hl3⟩:=rep_rowN F (w:=w) (O:=O0) (m:=[]) (b:=b) (off:=off) len fun i hi=>by
   obtain⟨y,cs,h4,h5,h6⟩:=each i hi
   refine⟨y,zfQ _ _ _ h4 fun j hj=>?_⟩
   rw [F.len] at hj
   have:=h6 j hj
   rwa [add_none,add_none] at this
  have hne:l.flatMap f≠[]:=by
   intro h
   have:=F.flen l
   rw [h,hl1,List.length_nil] at this
   rcases Nat.mul_eq_zero.1 this.symm with h | h <;> omega
  exact⟨_,len,cap,l,hcs,hl,hm,hl1,.inr ⟨b,off,rfl,zbz hl3 hne,hl3⟩⟩
theorem row_vo {t ts ti:TypeId} {f0 f1 f2:Field} (ht:P.underlying t=some (.struct #[f0,f1,f2])) (h0:f0.type=ti∧f0.offset=0) (h1:f1.type=ts∧f1.offset=1) (h2:f2.type=ts∧f2.offset=2)
  (hts:P.underlying ts=some .string) (hti:P.underlying ti=some (.int .i64)) (c0:P.cellsOf ts=1) (c2:P.cellsOf ti=1) (fuel:Nat) (cs:List Value) (y:DataW H × List MemPlace)
  (hy:DataW.trod enc P w base (fun _=>true) held fuel t cs=some y) (hn:cs.length=3):∃ a:Vo,reps w O0 [] (voC a) cs:=by
 obtain⟨xs,m,_,_,_,hxl,hx⟩:=DataW.trod_struct ht hy
 obtain⟨v0,v1,v2,rfl⟩:=three hn
 have g0:=hx 0 f0 rfl
 have g1:=hx 1 f1 rfl
 have g2:=hx 2 f2 rfl
 rw [h0.1,h0.2,c2] at g0
 rw [h1.1,h1.2,c0] at g1
 rw [h2.1,h2.2,c0] at g2
 match xs,hxl with
 | [x0,x1,x2],_ =>
  obtain⟨k,e0,_,w0⟩:=DataW.trod_int hti g0
  obtain⟨s,e1,_,w1⟩:=DataW.trod_string hts g1
  obtain⟨p,e2,_,w2⟩:=DataW.trod_string hts g2
  simp at e0 e1 e2
  subst e0 e1 e2
  refine⟨⟨k,s.data.toList,p.data.toList⟩,?_⟩
  simp only [voC,reps]
  exact⟨_,_,rfl,rep_i64 _,_,_,rfl,rep_str _,_,_,rfl,rep_str _,rfl⟩
theorem row_it {t ts:TypeId} {f0 f1:Field} (ht:P.underlying t=some (.struct #[f0,f1])) (h0:f0.type=ts∧f0.offset=0) (h1:f1.type=ts∧f1.offset=1)
  (hts:P.underlying ts=some .string) (c0:P.cellsOf ts=1) (fuel:Nat) (cs:List Value) (y:DataW H × List MemPlace)
  (hy:DataW.trod enc P w base (fun _=>true) held fuel t cs=some y) (hn:cs.length=2):∃ a:It,reps w O0 [] (itC a) cs:=by
 obtain⟨xs,m,_,_,_,hxl,hx⟩:=DataW.trod_struct ht hy
 obtain⟨v0,v1,rfl⟩:=two hn
 have g0:=hx 0 f0 rfl
 have g1:=hx 1 f1 rfl
 rw [h0.1,h0.2,c0] at g0
 rw [h1.1,h1.2,c0] at g1
 match xs,hxl with
 | [x0,x1],_ =>
  obtain⟨s,e0,_,w1⟩:=DataW.trod_string hts g0
  obtain⟨p,e1,_,w0⟩:=DataW.trod_string hts g1
  simp at e0 e1
  subst e0 e1
  refine⟨⟨s.data.toList,p.data.toList⟩,?_⟩
  simp only [itC,reps]
  exact⟨_,_,rfl,rep_str _,_,_,rfl,rep_str _,rfl⟩
def IsSv (w:World) (v:Value):Prop:=∃ (v1 v2:Value) (s:ByteArray) (k:Int),v=.agg #[v1,v2,.string s,.int .i64 k]∧zix w itC v1∧zix w itC v2
def IsVos (w:World) (v:Value):Prop:=zix w voC v
theorem open_sv {r:Reach} {b0:Nat} {t tv tI ts ti:TypeId} {f0 f1 f2 f3 o0 o1:Field} {v:Value} {d:DataW H} {ps:List MemPlace} (ht:P.underlying t=some (.struct #[f0,f1,f2,f3])) (h0:f0.type=tv∧f0.offset=0) (h1:f1.type=tv∧f1.offset=1) (h2:f2.type=ts∧f2.offset=2) (h3:f3.type=ti∧f3.offset=3)
  (hv:P.underlying tv=some (.slice tI)) (ho:P.underlying tI=some (.struct #[o0,o1])) (i0:o0.type=ts∧o0.offset=0) (i1:o1.type=ts∧o1.offset=1)
  (hti:P.underlying ti=some (.int .i64)) (hts:P.underlying ts=some .string)
  (c0:P.cellsOf ti=1) (c1:P.cellsOf tv=1) (c2:P.cellsOf ts=1) (c4:P.cellsOf t=4) (c5:P.cellsOf tI=2)
  (hval:Value.okWide P w r b0 t v) (hd:DataW.Trod enc P w base (fun _=>true) held t v d ps):IsSv w v:=by
 obtain⟨cs,rfl,_⟩:=okWide_struct ht hval
 obtain⟨fuel,hf⟩:=hd
 obtain⟨xs,n,_,_,hl,hlen,hx⟩:=DataW.trod_struct ht hf
 obtain⟨cs⟩:=cs
 simp only [Value.cells] at hl hx
 rw [c4] at hl
 obtain⟨v0,v1,v2,v3,rfl⟩:=four hl
 have g0:=hx 0 f0 rfl
 have g1:=hx 1 f1 rfl
 have g2:=hx 2 f2 rfl
 have g3:=hx 3 f3 rfl
 rw [h0.1,h0.2,c1] at g0
 rw [h1.1,h1.2,c1] at g1
 rw [h2.1,h2.2,c2] at g2
 rw [h3.1,h3.2,c0] at g3
 match xs,hlen with
 | [x0,x1,x2,x3],_ =>
  have w0:=zg4 itF (by decide) hv c5 (row_it ho i0 i1 hts c2) g0
  have w1:=zg4 itF (by decide) hv c5 (row_it ho i0 i1 hts c2) g1
  obtain⟨s,e2,_,w2⟩:=DataW.trod_string hts g2
  obtain⟨k,e3,_,w3⟩:=DataW.trod_int hti g3
  simp at e2 e3
  subst e2 e3
  exact⟨v0,v1,s,k,rfl,w0,w1⟩
theorem open_vos {r:Reach} {b0:Nat} {t tO ts ti:TypeId} {o0 o1 o2:Field} {v:Value} {d:DataW H} {ps:List MemPlace} (hv:P.underlying t=some (.slice tO)) (ho:P.underlying tO=some (.struct #[o0,o1,o2])) (i0:o0.type=ti∧o0.offset=0) (i1:o1.type=ts∧o1.offset=1) (i2:o2.type=ts∧o2.offset=2)
  (hti:P.underlying ti=some (.int .i64)) (hts:P.underlying ts=some .string) (c0:P.cellsOf ti=1) (c2:P.cellsOf ts=1) (c5:P.cellsOf tO=3)
  (hval:Value.okWide P w r b0 t v) (hd:DataW.Trod enc P w base (fun _=>true) held t v d ps):IsVos w v:=by
 obtain⟨a,len,cap,rfl⟩:=okWide_slice hv hval
 obtain⟨fuel,hf⟩:=hd
 have hf':DataW.trod enc P w base (fun _=>true) held fuel t [.slice a len cap]=some (d,ps):=hf
 exact zg4 voF (by decide) hv c5 (row_vo ho i0 i1 i2 hts hti c2 c0) hf'
end
theorem rep_sv {w:World} {v:Value} (h:IsSv w v):∃ x:Sv,(x.blobs.length≤9223372036854775807∧x.cells.length≤9223372036854775807)∧rep w (own (fun _=>False) [] []) [] (svA x) v:=by
 obtain⟨v1,v2,s,k,rfl,w1,w2⟩:=h
 obtain⟨o,ho,r1⟩:=zh8 w1
 obtain⟨t,ht,r2⟩:=zh8 w2
 refine⟨⟨o,t,s.data.toList,k⟩,⟨ho,ht⟩,?_⟩
 simp only [zcx,zbV]
 rw [rep]
 refine⟨_,rfl,?_⟩
 simp only [reps]
 exact⟨_,_,rfl,r1,_,_,rfl,r2,_,_,rfl,rep_str _,_,_,rfl,rep_i64 _,rfl⟩
theorem rep_vos {w:World} {v:Value} (h:IsVos w v):∃ l:List Vo,l.length≤9223372036854775807∧rep w (own (fun _=>False) [] []) [] (slV l) v:=by
 obtain⟨o,ho,r1⟩:=zh8 h
 exact⟨o,ho,r1⟩
end Go.Proofs.YtdmiflfhaobngaaGreatDoor
end

section
namespace Go.Eng
open Go
theorem Glob.of_vars3 [Globs] {w:World} (h:∀ g cs,Globs.tab g=some cs→∃ (P:Program) (n:String),P.globalNamed n=some g∧w.var? P n=some cs.toArray) (hi:∀ g,g∈Globs.ints→∃ n:Int,w.cell? ⟨g,0,none⟩=some (.int .i64 n)) (he:∀ g,g∈Globs.errs→∃ (t:TypeId) (v:Value),w.cell? ⟨g,0,none⟩=some (.iface t v)):Glob w (Go.Eng.own (fun _=>False) [] []):=by
 have no:∀ g,¬ Go.Eng.own (fun _=>False) [] [] g:=by
  rintro g (hb | ⟨i,cs,hi,_⟩)
  ·exact hb
  ·simp at hi
 refine⟨fun g cs hg=>?_,fun g hg=>?_,fun g hg=>?_⟩
 ·obtain⟨P,n,h1,h2⟩:=h g cs hg
  have hb:∃ e f,w.heap[g]?=some (.cells cs.toArray e f):=by
   have h3:=h2
   simp only [World.var?,h1,Option.bind_some] at h3
   split at h3
   ·rename_i cs' e' f' e
    cases Option.some.inj h3
    exact⟨_,_,e⟩
   ·cases h3
  refine⟨no g,?_,hb,fun j v hv=>?_⟩
  ·obtain⟨_,_,e⟩:=hb
   rcases Nat.lt_or_ge g w.heap.size with hlt | hge
   ·exact hlt
   ·rw [Array.getElem?_eq_none hge] at e;cases e
  ·rw [World.var?_cell h1 h2 j,List.getElem?_toArray,hv]
 ·obtain⟨n,hn⟩:=hi g hg
  refine⟨no g,?_,n,hn⟩
  rcases Nat.lt_or_ge g w.heap.size with hlt | hge
  ·exact hlt
  ·simp [World.cell?,Array.getElem?_eq_none hge] at hn
 ·obtain⟨t,v,hn⟩:=he g hg
  refine⟨no g,?_,t,v,hn⟩
  rcases Nat.lt_or_ge g w.heap.size with hlt | hge
  ·exact hlt
  ·simp [World.cell?,Array.getElem?_eq_none hge] at hn
theorem wrap_and_shaped {H:Type} {enc:TypeId × Value→H} {a:Assume} {C:Checked} {os:Os} {f:FuncId} {fn:Func} {s:ChangeSpec} {conds:List PathCond} {apart fresh handsOn again:Bool} {X:World→Array Value→Prop}
  (hX:∀ (w w':World) (args:Array Value),w.heap=w'.heap→X w args→X w' args)
  (h1:ownKnob C.prog.godebug=none) (h2:os.Started) (h3:C.prog.inits.idxOf? f=none) (hfn:C.prog.funcs[f]?=some fn)
  (h4:∃ (w:World) (tape:Tape) (i:Input),w.os=os∧(w.forCall tape i).Shaped C.prog∧i.vars=[]∧Input.okWide C.prog (w.forCall tape i) .any w.heap.size f i ∧
   ((s.pre enc C.prog fn conds apart (w.forCall tape i).memory i.args∧X (w.forCall tape i).memory i.args)∧sizedMet enc C.prog fn (OpenSpec.ofChange s) apart (w.forCall tape i).memory i.args)∧a.holds C.prog (lone (Frame.enter C.prog f i.args .normal) [] (w.forCall tape i)))
  (h5:∀ (W:World) (base:Nat) (args:Array Value) (ds gs:List (DataW H)) (before:List MemPlace),
   (∀ (j:Nat) t v,fn.params[j]?=some t→args[j]?=some v→Value.okWide C.prog W .any base t v) →
   DataW.Whole enc C.prog fn.params.toList s.vars apart W args.toList ds gs before →
   conds.all (PathCond.test C.prog ⟨fn.params.toList,ds,s.plain.varTypes C.prog,gs⟩)=true →
   (DataW.weightsEach C.prog (fn.params.toList++s.plain.varTypes C.prog) (ds++gs)).all (·≤reachBytes)=true→X W args→W.ShapedOpen C.prog →
   a.holds C.prog (lone (Frame.enter C.prog f args .normal) [] W) →
   Calls C.prog f args W fun e W'=>∃ v,e=.returned v∧s.post enc C.prog fn apart fresh handsOn again W args v W') :
  ReturnsInHanded a C os f .any (fun w args=>(s.pre enc C.prog fn conds apart w args∧X w args)∧sizedMet enc C.prog fn (OpenSpec.ofChange s) apart w args) (s.post enc C.prog fn apart fresh handsOn again):=by
 refine returnsInHanded_of_calls h1 h2 h3 h4 ?_
 intro w tape i _ hsh _ hok hpre hh
 have hval:∀ (j:Nat) t v,fn.params[j]?=some t→i.args[j]?=some v→Value.okWide C.prog (w.forCall tape i) .any w.heap.size t v:=by
  obtain⟨_,_,_,fn',hfn',_,_,_,_,hv⟩:=hok
  cases Option.some.inj (hfn'.symm.trans hfn)
  exact hv
 obtain⟨⟨⟨ds,gs,bf,hw,hc⟩,hx⟩,hz⟩:=hpre
 have key:=h5 (w.forCall tape i) w.heap.size i.args ds gs bf hval (DataW.Whole.of_heap (w':=w.forCall tape i) (by rfl) hw) hc (hz.weights hw) (hX _ _ _ (by rfl) hx) hsh hh
 refine key.mono ?_
 rintro e W' ⟨v,rfl,hp⟩
 exact ChangeSpec.post_blind hp
end Go.Eng
namespace Go.Proofs.YtdmiflfhaobngaaGreatDoor
open Go Go.Eng
def zhb:List (String × DataW Unit):=Rows.vaultBackRow.laid
def nm (i : Nat) : String := (zhb[i]?.map (·.1)).getD ""
def dt (i:Nat):DataW Unit:=(zhb[i]?.map (·.2)).getD .nil
theorem laid3_tab:zhb=[(nm 0,dt 0),(nm 1,Lib.tabData .u32 (firstL.map fun b=>(b.toNat:Int))),(nm 2,Lib.tabData .u32 (kL.map fun b=>(b.toNat:Int))),(nm 3,dt 3)]:=by kernel_rfl
theorem ownK:ownKnob Tryz.prog.godebug=none:=by kernel_rfl
theorem laidOut:laidOutB Tryz.prog=true:=by kernel_rfl
theorem glob_of_laid {w:World} (h:laidMetH Tryz.prog zhb w) (hsh:w.ShapedOpen Tryz.prog):Glob w (Go.Eng.own (fun _=>False) [] []):=by
 rw [MakeChecks.laidMetH_plain _ _ _ (by kernel_rfl),laid3_tab] at h
 have t2:=Lib.tabIs_of_head (g:=0) (by kernel_rfl) (by kernel_rfl) Tryz.underlying146 Tryz.underlying113 (by kernel_rfl) (by kernel_rfl) h.tail
 have t3:=Lib.tabIs_of_head (g:=1) (by kernel_rfl) (by kernel_rfl) Tryz.underlying169 Tryz.underlying113 (by kernel_rfl) (by kernel_rfl) h.tail.tail
 refine Glob.of_vars3 (fun g cs hg=>?_) (fun g hg=>?_) (fun g hg=>absurd (show g∈([]:List Nat) from hg) (by simp))
 ·match g,hg with
  | 0,hg =>
   obtain rfl:=Option.some.inj (show some (firstL.map zim)=some cs from hg)
   exact⟨_,_,(by kernel_rfl:Tryz.prog.globalNamed (nm 1)=some 0),by rw [show (firstL.map zim)=(firstL.map fun b=>(b.toNat:Int)).map fun z=>Value.int .u32 z by rw [List.map_map];rfl];exact t2⟩
  | 1,hg =>
   obtain rfl:=Option.some.inj (show some (kL.map zim)=some cs from hg)
   exact⟨_,_,(by kernel_rfl:Tryz.prog.globalNamed (nm 2)=some 1),by rw [show (kL.map zim)=(kL.map fun b=>(b.toNat:Int)).map fun z=>Value.int .u32 z by rw [List.map_map];rfl];exact t3⟩
  | _+2,hg=>exact nomatch (show none=some cs from hg)
 ·have hg':g=2:=by
   have:g∈[2]:=hg
   simpa using this
  subst hg'
  exact Go.Proofs.cell_of_shapedOpen_int (zero:=#[.int .i64 0]) (t:=3) hsh (of_decide_eq_true (by kernel_rfl)) (by kernel_rfl) rfl (by kernel_rfl) (by kernel_rfl) Tryz.underlying3
theorem laid_met (os:Os) (args:Array Value):laidMetH Tryz.prog zhb ((World.laidAll Tryz.prog os zhb).forCall (fun _ _=>0) ⟨#[],args,[]⟩).memory:=by
 rw [MakeChecks.laidMetH_plain _ _ _ (by kernel_rfl)]
 exact laidMet_laidAll _ (by kernel_rfl) (by kernel_rfl)
end Go.Proofs.YtdmiflfhaobngaaGreatDoor
end

