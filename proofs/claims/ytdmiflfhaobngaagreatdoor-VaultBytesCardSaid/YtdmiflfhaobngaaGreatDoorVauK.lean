/-
  The document's own bytes of states, the law's walk, what comes in, and what the listed variables hold. No condition.
-/
import Derived.Test.YtdmiflfhaobngaaGreatDoorVauJ
import Derived.WalkKit
import Derived.ProofKit
import Derived.OpenShut
import Derived.ShutString
import Derived.SliceStrings
import Derived.LaidMore
import Derived.Lay
import Derived.LaidHandle
import Derived.Stop.LaidErr
import Derived.Lib.LaidTab
import Derived.Stop.Joined
import Derived.HandedShaped
import Derived.Shelf.Strings.Shaped
set_option linter.unusedSimpArgs false
set_option linter.unusedVariables false
set_option linter.unusedSectionVars false
section
namespace Go.Proofs.YtdmiflfhaobngaaGreatDoor
open Go Go.Eng
section
variable {σ : zag} {K : AV → Prop} {KS : AV → zag → Prop} {id : Nat}
theorem zbG (b:List UInt8) (k:Int):zaQ T 34 [(2,str b),(3,i64 k)] K=K (.agg [.lit (.slice none 0 0),.lit (.slice none 0 0),str b,i64 k]):=by
 simp [zaQ,T34,T3,T9,T32,tyS9,zbs,zaK,zbT,zad,zb8,zb1,zbc,tyStr,tySl,zbB]
theorem bd_J (a b:List UInt8):zaQ T 78 [(0,str a),(1,str b)] K=K (.agg [str a,str b]):=by
 simp [zaQ,T78,T9,tyIt,zbs,zaK,zbT,zad,zbc,tyStr]
theorem zbH (p q r s:AV) (b:List UInt8) (a:Int):st2 (some tyS9) (some (.rw [p,q,r,s])) id 0 (.agg [.lit (.slice none 0 0),.lit (.slice none 0 0),str b,i64 a]) σ KS=KS (.lit undef) (σ.set id (.rw [.lit (.slice none 0 0),.lit (.slice none 0 0),str b,i64 a])):=szW rfl rfl rfl id
theorem zbI (p q r s:AV) (i o m z:Nat) (b:List UInt8) (a:Int):st2 (some tyS9) (some (.rw [p,q,r,s])) id 0 (.agg [.ref i o m z,.lit (.slice none 0 0),str b,i64 a]) σ KS=KS (.lit undef) (σ.set id (.rw [.ref i o m z,.lit (.slice none 0 0),str b,i64 a])):=szW rfl rfl rfl id
theorem zbJ (p q r s:AV) (j u v w:Nat) (b:List UInt8) (a:Int):st2 (some tyS9) (some (.rw [p,q,r,s])) id 0 (.agg [.lit (.slice none 0 0),.ref j u v w,str b,i64 a]) σ KS=KS (.lit undef) (σ.set id (.rw [.lit (.slice none 0 0),.ref j u v w,str b,i64 a])):=szW rfl rfl rfl id
theorem zbK (p q r s:AV) (i o m z j u v w:Nat) (b:List UInt8) (a:Int):st2 (some tyS9) (some (.rw [p,q,r,s])) id 0 (.agg [.ref i o m z,.ref j u v w,str b,i64 a]) σ KS=KS (.lit undef) (σ.set id (.rw [.ref i o m z,.ref j u v w,str b,i64 a])):=szW rfl rfl rfl id
theorem ldz_T0 (l:List It):ld2 (some tyStr) (some (l.flatMap itC)) 0 K=(0 < l.length∧K (str (l.getD 0 i0).label)):=by have:=ldf_T0 (K:=K) l 0;rwa [List.drop_zero] at this
theorem ldz_T1 (l:List It):ld2 (some tyStr) (some ((l.flatMap itC).drop 1)) 0 K=(0 < l.length∧K (str (l.getD 0 i0).box)):=by have:=ldf_T1 (K:=K) l 0;rwa [List.drop_zero] at this
end
theorem zgx {σ:zag} {KS:AV→zag→Prop} {y:It} {x:AV} (hx:asrc σ 2 x=some ([y].flatMap itC,1)) (hk:KS (.ref σ.length 0 1 2) (σ++[.rw ([y].flatMap itC)])):zbD T #[32,32] (.lit (.slice none 0 0)) x σ KS :=
 itF.appN rfl rfl T32 T32 (zdz _) T78 rfl rfl hx rfl (by decide) (by decide) hk
theorem zgy {σ:zag} {KS:AV→zag→Prop} {id n:Nat} {l:List It} {y:It} {x:AV} (hc:σ[id]?=some (.rw (l.flatMap itC))) (hn:n=l.length) (hx:asrc σ 2 x=some ([y].flatMap itC,1)) (g:l.length≤1000000) (hk:KS (.ref σ.length 0 (n+1) 2) (σ.set id .dead++[.rw ((l++[y]).flatMap itC)])):zbD T #[32,32] (.ref id 0 n 2) x σ KS:=by
 subst hn
 exact itF.app rfl rfl T32 T32 (zdz _) T78 rfl rfl hc hx rfl (by omega) (by simp only [tyIt];omega) hk
theorem zdg {σ:zag}:frzA σ (.lit (.slice none 0 0)) (slT []):=.inr ⟨rfl,rfl⟩
theorem endZ {σ:zag} {x y:AV} {h:List UInt8} {n:Int} {B C:List It} {K:AV→zag→Prop} (ids:List Nat) (h1:frzA (zch σ ids) x (slT B)) (h2:frzA (zch σ ids) y (slT C)) (hK:K (svA ⟨B,C,h,n⟩) []):endQ 0 (.agg [x,y,str h,i64 n]) σ K :=
 zce ids (svA ⟨B,C,h,n⟩) ⟨_,rfl,_,_,rfl,h1,_,_,rfl,h2,_,_,rfl,.inl rfl,_,_,rfl,.inl rfl,rfl⟩ ⟨[],_,[],rfl,rfl,by decide,zcn _ _,trivial,hK⟩
def oz1 (B C:List It) (h:List UInt8) (n:Int):Nat→zag
 | 0=>[.rw [.sl (B.flatMap itC) B.length,.sl (C.flatMap itC) C.length,str h,i64 n],.rw [.lit (.slice none 0 0),.lit (.slice none 0 0),str [],i64 0],.rw [.lit (.slice none 0 0),.lit (.slice none 0 0),str h,i64 n]]
 | a+1=>[.rw [.sl (B.flatMap itC) B.length,.sl (C.flatMap itC) C.length,str h,i64 n],.rw [.lit (.slice none 0 0),.lit (.slice none 0 0),str [],i64 0],.rw [.ref 3 0 (a+1) 2,.lit (.slice none 0 0),str h,i64 n],.rw ((B.take (a+1)).flatMap itC)]
def oz2 (B C:List It) (h:List UInt8) (n:Int) (x:AV) (E:zag) (id:Nat):Nat→zag
 | 0=>[.rw [.sl (B.flatMap itC) B.length,.sl (C.flatMap itC) C.length,str h,i64 n],.rw [.lit (.slice none 0 0),.lit (.slice none 0 0),str [],i64 0],.rw [x,.lit (.slice none 0 0),str h,i64 n]]++E
 | a+1=>[.rw [.sl (B.flatMap itC) B.length,.sl (C.flatMap itC) C.length,str h,i64 n],.rw [.lit (.slice none 0 0),.lit (.slice none 0 0),str [],i64 0],.rw [x,.ref id 0 (a+1) 2,str h,i64 n]]++E++[.rw ((C.take (a+1)).flatMap itC)]
set_option maxHeartbeats 8000000 in
theorem ofS_ok (s:Sv) (hB:s.blobs.length≤1000000) (hC:s.cells.length≤1000000):ACalls Tryz.prog 13 [svA s] [] (fun y _=>y=.ret (svA s)):=by
 obtain⟨B,C,h,n⟩:=s
 dsimp only at hB hC
 simp only [zbZ,zbl]
 refine ACalls.body T_ok Tryz.func13 (by kernel_rfl) rfl Tryz.ntmps13 (congrArg Array.toList Tryz.results13) ?_
 try simp -implicitDefEqProofs only [LM0,LB32,eq_self,zab (h:=T68),zad,zac,zaa,zah,zai T135,zak,zbG,bd_J,zbH,zbI,zbJ,zbK,TB,SB,Int.reduceToNat,Nat.reduceAdd,Nat.reduceEqDiff,Nat.reduceLT,Nat.reduceMod,Nat.reducePow,Nat.reduceSub,if_true,reduceIte]
 rw [za9]
 refine⟨Nat,fun j=>j≤B.length,fun j=>[.bot,.ptr 0 0,.ptr 1 0,.ptr 2 0,i64 j,.bot,.bot,.bot,.bot,.bot,.bot,.bot,.bot,.bot,.bot,.bot,.bot,.bot,.bot,.bot,.bot,.bot,.bot,.bot,.bot,.bot,.bot,.bot,.bot,.bot,.bot,.bot,.bot,.bot,.bot,.bot,.bot,.bot,.bot,.bot,.bot,.bot,.bot,.bot,.bot,.bot,.bot,.bot,.bot,.bot,.bot,.bot,.bot,.bot,.bot,.bot,.bot,.bot,.bot,.bot,.bot,.bot],fun j=>oz1 B C h n j,fun j=>B.length - j,0,Nat.zero_le _,?_,?_⟩
 ·refine zal (q:=[0,1,2]) rfl rfl (by decide) ?_ ?_
  ·try simp only [FB,AV.ren,Nat.reduceAdd,reduceCtorEq]
   exact .inr rfl
  ·simp [oz1,zao,Blk.ren,zbm,renL,zaH,zaj,zae,AV.ren]
 intro j hj
 by_cases hlt:j < B.length
 ·have dl:decide ((j:Int) < (B.length:Int))=true:=decide_eq_true (by omega)
  cases j with
  | zero =>
   simp only [oz1,List.cons_append,List.nil_append]
   try simp -implicitDefEqProofs only [LM0,LB32,eq_self,zab (h:=T68),zad,zac,zaa,zah,zai T135,zak,zbG,bd_J,zbH,zbI,zbJ,zbK,dl,TB,SB,Int.reduceToNat,Nat.reduceAdd,Nat.reduceEqDiff,Nat.reduceLT,Nat.reduceMod,Nat.reducePow,Nat.reduceSub,if_true,reduceIte]
   refine zbg [16,1] (by kernel_rfl) (by kernel_rfl) (by kernel_rfl) ?_
   try simp -implicitDefEqProofs only [LM0,LB32,eq_self,zab (h:=T68),zad,zac,zaa,zah,zai T135,zak,zbG,bd_J,zbH,zbI,zbJ,zbK,ldz_T0,ldz_T1,TB,SB,Int.reduceToNat,Nat.reduceAdd,Nat.reduceEqDiff,Nat.reduceLT,Nat.reduceMod,Nat.reducePow,Nat.reduceSub,if_true,reduceIte]
   refine⟨by omega,by omega,by omega,by omega,by omega,by omega,by omega,by omega,?_⟩
   try simp -implicitDefEqProofs only [LM0,LB32,eq_self,zab (h:=T68),zad,zac,zaa,zah,zai T135,zak,zbG,bd_J,zbH,zbI,zbJ,zbK,qb_T,TB,SB,Int.reduceToNat,Nat.reduceAdd,Nat.reduceEqDiff,Nat.reduceLT,Nat.reduceMod,Nat.reducePow,Nat.reduceSub,if_true,reduceIte]
   refine zgx (y:=B.getD 0 i0) rfl ?_
   try simp -implicitDefEqProofs only [LM0,LB32,eq_self,zab (h:=T68),zad,zac,zaa,zah,zai T135,zak,zbG,bd_J,zbH,zbI,zbJ,zbK,TB,SB,Int.reduceToNat,Nat.reduceAdd,Nat.reduceEqDiff,Nat.reduceLT,Nat.reduceMod,Nat.reducePow,Nat.reduceSub,if_true,reduceIte]
   refine⟨by unfold inI;omega,?_⟩
   rw [zan]
   refine⟨1,by omega,by omega,zal (q:=[0,1,2,3]) rfl rfl (by decide) ?_ ?_⟩
   ·try simp only [FB,AV.ren,Nat.reduceAdd,reduceCtorEq]
    exact .inr (by omega)
   ·simp only [oz1,List.cons_append,List.nil_append]
    rw [zc9 i0 (by omega)]
    simp [zao,Blk.ren,zbm,renL,zaH,zaj,zae,AV.ren,itC]
  | succ a =>
   simp only [oz1,List.cons_append,List.nil_append]
   try simp -implicitDefEqProofs only [LM0,LB32,eq_self,zab (h:=T68),zad,zac,zaa,zah,zai T135,zak,zbG,bd_J,zbH,zbI,zbJ,zbK,dl,TB,SB,Int.reduceToNat,Nat.reduceAdd,Nat.reduceEqDiff,Nat.reduceLT,Nat.reduceMod,Nat.reducePow,Nat.reduceSub,if_true,reduceIte]
   refine zbg [16,1] (by kernel_rfl) (by kernel_rfl) (by kernel_rfl) ?_
   try simp -implicitDefEqProofs only [LM0,LB32,eq_self,zab (h:=T68),zad,zac,zaa,zah,zai T135,zak,zbG,bd_J,zbH,zbI,zbJ,zbK,TB,SB,Int.reduceToNat,Nat.reduceAdd,Nat.reduceEqDiff,Nat.reduceLT,Nat.reduceMod,Nat.reducePow,Nat.reduceSub,if_true,reduceIte]
   refine⟨by omega,by omega,by omega,by omega,by omega,by omega,by omega,by omega,?_⟩
   try simp -implicitDefEqProofs only [LM0,LB32,eq_self,zab (h:=T68),zad,zac,zaa,zah,zai T135,zak,zbG,bd_J,zbH,zbI,zbJ,zbK,qb_T,TB,SB,Int.reduceToNat,Nat.reduceAdd,Nat.reduceEqDiff,Nat.reduceLT,Nat.reduceMod,Nat.reducePow,Nat.reduceSub,if_true,reduceIte]
   refine zgy (l:=B.take (a+1)) (y:=B.getD (a+1) i0) rfl (by rw [List.length_take];omega) rfl (by rw [List.length_take];omega) ?_
   rw [← zc9 i0 hlt]
   try simp -implicitDefEqProofs only [LM0,LB32,eq_self,zab (h:=T68),zad,zac,zaa,zah,zai T135,zak,zbG,bd_J,zbH,zbI,zbJ,zbK,TB,SB,Int.reduceToNat,Nat.reduceAdd,Nat.reduceEqDiff,Nat.reduceLT,Nat.reduceMod,Nat.reducePow,Nat.reduceSub,if_true,reduceIte]
   refine⟨by unfold inI;omega,?_⟩
   rw [zan]
   refine⟨a+1+1,by omega,by omega,zal (q:=[0,1,2,4]) rfl rfl (by decide) ?_ ?_⟩
   ·try simp only [FB,AV.ren,Nat.reduceAdd,reduceCtorEq]
    exact .inr (by omega)
   ·simp only [oz1,List.cons_append,List.nil_append]
    generalize B.take (a+1+1)=D2
    simp [zao,Blk.ren,zbm,renL,zaH,zaj,zae,AV.ren]
 ·obtain rfl:j=B.length:=by omega
  have dl:decide ((B.length:Int) < (B.length:Int))=false:=decide_eq_false (by omega)
  clear hlt
  cases hB0:B.length with
  | zero =>
   rw [hB0] at dl
   have e:B=[]:=List.eq_nil_of_length_eq_zero hB0
   subst e
   simp only [oz1,List.cons_append,List.nil_append]
   try simp -implicitDefEqProofs only [LM0,LB32,eq_self,zab (h:=T68),zad,zac,zaa,zah,zai T135,zak,zbG,bd_J,zbH,zbI,zbJ,zbK,dl,TB,SB,Int.reduceToNat,Nat.reduceAdd,Nat.reduceEqDiff,Nat.reduceLT,Nat.reduceMod,Nat.reducePow,Nat.reduceSub,if_true,reduceIte]
   rw [za9]
   refine⟨Nat,fun j=>j≤C.length,fun j=>[.bot,.ptr 0 0,.ptr 1 0,.ptr 2 0,.bot,i64 j,.bot,.bot,.bot,.bot,.bot,.bot,.bot,.bot,.bot,.bot,.bot,.bot,.bot,.bot,.bot,.bot,.bot,.bot,.bot,.bot,.bot,.bot,.bot,.bot,.bot,.bot,.bot,.bot,.bot,.bot,.bot,.bot,.bot,.bot,.bot,.bot,.bot,.bot,.bot,.bot,.bot,.bot,.bot,.bot,.bot,.bot,.bot,.bot,.bot,.bot,.bot,.bot,.bot,.bot,.bot,.bot],fun j=>oz2 ([]:List It) C h n (.lit (.slice none 0 0)) [] 3 j,fun j=>C.length - j,0,Nat.zero_le _,?_,?_⟩
   ·refine zal (q:=[0,1,2]) rfl rfl (by decide) ?_ ?_
    ·try simp only [FB,AV.ren,Nat.reduceAdd,reduceCtorEq]
     exact .inr rfl
    ·simp [oz2,zao,Blk.ren,zbm,renL,zaH,zaj,zae,AV.ren]
   intro j hj
   by_cases hlt:j < C.length
   ·have dl:decide ((j:Int) < (C.length:Int))=true:=decide_eq_true (by omega)
    cases j with
    | zero =>
     simp only [oz2,List.cons_append,List.nil_append]
     try simp -implicitDefEqProofs only [LM0,LB32,eq_self,zab (h:=T68),zad,zac,zaa,zah,zai T135,zak,zbG,bd_J,zbH,zbI,zbJ,zbK,dl,TB,SB,Int.reduceToNat,Nat.reduceAdd,Nat.reduceEqDiff,Nat.reduceLT,Nat.reduceMod,Nat.reducePow,Nat.reduceSub,if_true,reduceIte]
     refine zbg [16,1] (by kernel_rfl) (by kernel_rfl) (by kernel_rfl) ?_
     try simp -implicitDefEqProofs only [LM0,LB32,eq_self,zab (h:=T68),zad,zac,zaa,zah,zai T135,zak,zbG,bd_J,zbH,zbI,zbJ,zbK,ldz_T0,ldz_T1,TB,SB,Int.reduceToNat,Nat.reduceAdd,Nat.reduceEqDiff,Nat.reduceLT,Nat.reduceMod,Nat.reducePow,Nat.reduceSub,if_true,reduceIte]
     refine⟨by omega,by omega,by omega,by omega,by omega,by omega,by omega,by omega,?_⟩
     try simp -implicitDefEqProofs only [LM0,LB32,eq_self,zab (h:=T68),zad,zac,zaa,zah,zai T135,zak,zbG,bd_J,zbH,zbI,zbJ,zbK,qb_T,TB,SB,Int.reduceToNat,Nat.reduceAdd,Nat.reduceEqDiff,Nat.reduceLT,Nat.reduceMod,Nat.reducePow,Nat.reduceSub,if_true,reduceIte]
     refine zgx (y:=C.getD 0 i0) rfl ?_
     try simp -implicitDefEqProofs only [LM0,LB32,eq_self,zab (h:=T68),zad,zac,zaa,zah,zai T135,zak,zbG,bd_J,zbH,zbI,zbJ,zbK,TB,SB,Int.reduceToNat,Nat.reduceAdd,Nat.reduceEqDiff,Nat.reduceLT,Nat.reduceMod,Nat.reducePow,Nat.reduceSub,if_true,reduceIte]
     refine⟨by unfold inI;omega,?_⟩
     rw [zan]
     refine⟨1,by omega,by omega,zal (q:=[0,1,2,3]) rfl rfl (by decide) ?_ ?_⟩
     ·try simp only [FB,AV.ren,Nat.reduceAdd,reduceCtorEq]
      exact .inr (by omega)
     ·simp only [oz2,List.cons_append,List.nil_append]
      rw [zc9 i0 (by omega)]
      simp [zao,Blk.ren,zbm,renL,zaH,zaj,zae,AV.ren,itC]
    | succ a =>
     simp only [oz2,List.cons_append,List.nil_append]
     try simp -implicitDefEqProofs only [LM0,LB32,eq_self,zab (h:=T68),zad,zac,zaa,zah,zai T135,zak,zbG,bd_J,zbH,zbI,zbJ,zbK,dl,TB,SB,Int.reduceToNat,Nat.reduceAdd,Nat.reduceEqDiff,Nat.reduceLT,Nat.reduceMod,Nat.reducePow,Nat.reduceSub,if_true,reduceIte]
     refine zbg [16,1] (by kernel_rfl) (by kernel_rfl) (by kernel_rfl) ?_
     try simp -implicitDefEqProofs only [LM0,LB32,eq_self,zab (h:=T68),zad,zac,zaa,zah,zai T135,zak,zbG,bd_J,zbH,zbI,zbJ,zbK,TB,SB,Int.reduceToNat,Nat.reduceAdd,Nat.reduceEqDiff,Nat.reduceLT,Nat.reduceMod,Nat.reducePow,Nat.reduceSub,if_true,reduceIte]
     refine⟨by omega,by omega,by omega,by omega,by omega,by omega,by omega,by omega,?_⟩
     try simp -implicitDefEqProofs only [LM0,LB32,eq_self,zab (h:=T68),zad,zac,zaa,zah,zai T135,zak,zbG,bd_J,zbH,zbI,zbJ,zbK,qb_T,TB,SB,Int.reduceToNat,Nat.reduceAdd,Nat.reduceEqDiff,Nat.reduceLT,Nat.reduceMod,Nat.reducePow,Nat.reduceSub,if_true,reduceIte]
     refine zgy (l:=C.take (a+1)) (y:=C.getD (a+1) i0) rfl (by rw [List.length_take];omega) rfl (by rw [List.length_take];omega) ?_
     rw [← zc9 i0 hlt]
     try simp -implicitDefEqProofs only [LM0,LB32,eq_self,zab (h:=T68),zad,zac,zaa,zah,zai T135,zak,zbG,bd_J,zbH,zbI,zbJ,zbK,TB,SB,Int.reduceToNat,Nat.reduceAdd,Nat.reduceEqDiff,Nat.reduceLT,Nat.reduceMod,Nat.reducePow,Nat.reduceSub,if_true,reduceIte]
     refine⟨by unfold inI;omega,?_⟩
     rw [zan]
     refine⟨a+1+1,by omega,by omega,zal (q:=[0,1,2,4]) rfl rfl (by decide) ?_ ?_⟩
     ·try simp only [FB,AV.ren,Nat.reduceAdd,reduceCtorEq]
      exact .inr (by omega)
     ·simp only [oz2,List.cons_append,List.nil_append]
      generalize C.take (a+1+1)=D2
      simp [zao,Blk.ren,zbm,renL,zaH,zaj,zae,AV.ren]
   ·obtain rfl:j=C.length:=by omega
    have dl:decide ((C.length:Int) < (C.length:Int))=false:=decide_eq_false (by omega)
    clear hlt
    cases hC0:C.length with
    | zero =>
     rw [hC0] at dl
     have e:C=[]:=List.eq_nil_of_length_eq_zero hC0
     subst e
     simp only [oz2,List.cons_append,List.nil_append]
     try simp -implicitDefEqProofs only [LM0,LB32,eq_self,zab (h:=T68),zad,zac,zaa,zah,zai T135,zak,zbG,bd_J,zbH,zbI,zbJ,zbK,dl,TB,SB,Int.reduceToNat,Nat.reduceAdd,Nat.reduceEqDiff,Nat.reduceLT,Nat.reduceMod,Nat.reducePow,Nat.reduceSub,if_true,reduceIte]
     exact endZ (B:=[]) (C:=[]) [] zdg zdg rfl
    | succ a =>
     rw [hC0] at dl
     simp only [oz2,List.cons_append,List.nil_append]
     rw [show C.take (a+1)=C from List.take_of_length_le (by omega)]
     have dl2:decide (((a+1:Nat):Int) < (C.length:Int))=false:=decide_eq_false (by omega)
     try simp -implicitDefEqProofs only [LM0,LB32,eq_self,zab (h:=T68),zad,zac,zaa,zah,zai T135,zak,zbG,bd_J,zbH,zbI,zbJ,zbK,dl2,TB,SB,Int.reduceToNat,Nat.reduceAdd,Nat.reduceEqDiff,Nat.reduceLT,Nat.reduceMod,Nat.reducePow,Nat.reduceSub,if_true,reduceIte]
     exact endZ (B:=[]) (C:=C) [3] zdg (itF.frz (zf9 rfl) hC0.symm) (by rw [zbZ,zbl,zbl,hC0];rfl)
  | succ a =>
   rw [hB0] at dl
   simp only [oz1,List.cons_append,List.nil_append]
   rw [show B.take (a+1)=B from List.take_of_length_le (by omega)]
   have dl2:decide (((a+1:Nat):Int) < (B.length:Int))=false:=decide_eq_false (by omega)
   try simp -implicitDefEqProofs only [LM0,LB32,eq_self,zab (h:=T68),zad,zac,zaa,zah,zai T135,zak,zbG,bd_J,zbH,zbI,zbJ,zbK,dl2,TB,SB,Int.reduceToNat,Nat.reduceAdd,Nat.reduceEqDiff,Nat.reduceLT,Nat.reduceMod,Nat.reducePow,Nat.reduceSub,if_true,reduceIte]
   rw [za9]
   refine⟨Nat,fun j=>j≤C.length,fun j=>[.bot,.ptr 0 0,.ptr 1 0,.ptr 2 0,.bot,i64 j,.bot,.bot,.bot,.bot,.bot,.bot,.bot,.bot,.bot,.bot,.bot,.bot,.bot,.bot,.bot,.bot,.bot,.bot,.bot,.bot,.bot,.bot,.bot,.bot,.bot,.bot,.bot,.bot,.bot,.bot,.bot,.bot,.bot,.bot,.bot,.bot,.bot,.bot,.bot,.bot,.bot,.bot,.bot,.bot,.bot,.bot,.bot,.bot,.bot,.bot,.bot,.bot,.bot,.bot,.bot,.bot],fun j=>oz2 B C h n (.ref 3 0 B.length 2) [.rw (B.flatMap itC)] 4 j,fun j=>C.length - j,0,Nat.zero_le _,?_,?_⟩
   ·refine zal (q:=[0,1,2,3]) rfl rfl (by decide) ?_ ?_
    ·try simp only [FB,AV.ren,Nat.reduceAdd,reduceCtorEq]
     exact .inr rfl
    ·simp [oz2,zao,Blk.ren,zbm,renL,zaH,zaj,zae,AV.ren]
     exact hB0.symm
   intro j hj
   by_cases hlt:j < C.length
   ·have dl:decide ((j:Int) < (C.length:Int))=true:=decide_eq_true (by omega)
    cases j with
    | zero =>
     simp only [oz2,List.cons_append,List.nil_append]
     try simp -implicitDefEqProofs only [LM0,LB32,eq_self,zab (h:=T68),zad,zac,zaa,zah,zai T135,zak,zbG,bd_J,zbH,zbI,zbJ,zbK,dl,TB,SB,Int.reduceToNat,Nat.reduceAdd,Nat.reduceEqDiff,Nat.reduceLT,Nat.reduceMod,Nat.reducePow,Nat.reduceSub,if_true,reduceIte]
     refine zbg [16,1] (by kernel_rfl) (by kernel_rfl) (by kernel_rfl) ?_
     try simp -implicitDefEqProofs only [LM0,LB32,eq_self,zab (h:=T68),zad,zac,zaa,zah,zai T135,zak,zbG,bd_J,zbH,zbI,zbJ,zbK,ldz_T0,ldz_T1,TB,SB,Int.reduceToNat,Nat.reduceAdd,Nat.reduceEqDiff,Nat.reduceLT,Nat.reduceMod,Nat.reducePow,Nat.reduceSub,if_true,reduceIte]
     refine⟨by omega,by omega,by omega,by omega,by omega,by omega,by omega,by omega,?_⟩
     try simp -implicitDefEqProofs only [LM0,LB32,eq_self,zab (h:=T68),zad,zac,zaa,zah,zai T135,zak,zbG,bd_J,zbH,zbI,zbJ,zbK,qb_T,TB,SB,Int.reduceToNat,Nat.reduceAdd,Nat.reduceEqDiff,Nat.reduceLT,Nat.reduceMod,Nat.reducePow,Nat.reduceSub,if_true,reduceIte]
     refine zgx (y:=C.getD 0 i0) rfl ?_
     try simp -implicitDefEqProofs only [LM0,LB32,eq_self,zab (h:=T68),zad,zac,zaa,zah,zai T135,zak,zbG,bd_J,zbH,zbI,zbJ,zbK,TB,SB,Int.reduceToNat,Nat.reduceAdd,Nat.reduceEqDiff,Nat.reduceLT,Nat.reduceMod,Nat.reducePow,Nat.reduceSub,if_true,reduceIte]
     refine⟨by unfold inI;omega,?_⟩
     rw [zan]
     refine⟨1,by omega,by omega,zal (q:=[0,1,2,3,4]) rfl rfl (by decide) ?_ ?_⟩
     ·try simp only [FB,AV.ren,Nat.reduceAdd,reduceCtorEq]
      exact .inr (by omega)
     ·simp only [oz2,List.cons_append,List.nil_append]
      rw [zc9 i0 (by omega)]
      simp [zao,Blk.ren,zbm,renL,zaH,zaj,zae,AV.ren,itC]
    | succ a =>
     simp only [oz2,List.cons_append,List.nil_append]
     try simp -implicitDefEqProofs only [LM0,LB32,eq_self,zab (h:=T68),zad,zac,zaa,zah,zai T135,zak,zbG,bd_J,zbH,zbI,zbJ,zbK,dl,TB,SB,Int.reduceToNat,Nat.reduceAdd,Nat.reduceEqDiff,Nat.reduceLT,Nat.reduceMod,Nat.reducePow,Nat.reduceSub,if_true,reduceIte]
     refine zbg [16,1] (by kernel_rfl) (by kernel_rfl) (by kernel_rfl) ?_
     try simp -implicitDefEqProofs only [LM0,LB32,eq_self,zab (h:=T68),zad,zac,zaa,zah,zai T135,zak,zbG,bd_J,zbH,zbI,zbJ,zbK,TB,SB,Int.reduceToNat,Nat.reduceAdd,Nat.reduceEqDiff,Nat.reduceLT,Nat.reduceMod,Nat.reducePow,Nat.reduceSub,if_true,reduceIte]
     refine⟨by omega,by omega,by omega,by omega,by omega,by omega,by omega,by omega,?_⟩
     try simp -implicitDefEqProofs only [LM0,LB32,eq_self,zab (h:=T68),zad,zac,zaa,zah,zai T135,zak,zbG,bd_J,zbH,zbI,zbJ,zbK,qb_T,TB,SB,Int.reduceToNat,Nat.reduceAdd,Nat.reduceEqDiff,Nat.reduceLT,Nat.reduceMod,Nat.reducePow,Nat.reduceSub,if_true,reduceIte]
     refine zgy (l:=C.take (a+1)) (y:=C.getD (a+1) i0) rfl (by rw [List.length_take];omega) rfl (by rw [List.length_take];omega) ?_
     rw [← zc9 i0 hlt]
     try simp -implicitDefEqProofs only [LM0,LB32,eq_self,zab (h:=T68),zad,zac,zaa,zah,zai T135,zak,zbG,bd_J,zbH,zbI,zbJ,zbK,TB,SB,Int.reduceToNat,Nat.reduceAdd,Nat.reduceEqDiff,Nat.reduceLT,Nat.reduceMod,Nat.reducePow,Nat.reduceSub,if_true,reduceIte]
     refine⟨by unfold inI;omega,?_⟩
     rw [zan]
     refine⟨a+1+1,by omega,by omega,zal (q:=[0,1,2,3,5]) rfl rfl (by decide) ?_ ?_⟩
     ·try simp only [FB,AV.ren,Nat.reduceAdd,reduceCtorEq]
      exact .inr (by omega)
     ·simp only [oz2,List.cons_append,List.nil_append]
      generalize C.take (a+1+1)=D2
      simp [zao,Blk.ren,zbm,renL,zaH,zaj,zae,AV.ren]
   ·obtain rfl:j=C.length:=by omega
    have dl:decide ((C.length:Int) < (C.length:Int))=false:=decide_eq_false (by omega)
    clear hlt
    cases hC0:C.length with
    | zero =>
     rw [hC0] at dl
     have e:C=[]:=List.eq_nil_of_length_eq_zero hC0
     subst e
     simp only [oz2,List.cons_append,List.nil_append]
     try simp -implicitDefEqProofs only [LM0,LB32,eq_self,zab (h:=T68),zad,zac,zaa,zah,zai T135,zak,zbG,bd_J,zbH,zbI,zbJ,zbK,dl,TB,SB,Int.reduceToNat,Nat.reduceAdd,Nat.reduceEqDiff,Nat.reduceLT,Nat.reduceMod,Nat.reducePow,Nat.reduceSub,if_true,reduceIte]
     exact endZ (B:=B) (C:=[]) [3] (itF.frz rfl rfl) zdg (by rw [zbZ,zbl,zbl,hB0];rfl)
    | succ a =>
     rw [hC0] at dl
     simp only [oz2,List.cons_append,List.nil_append]
     rw [show C.take (a+1)=C from List.take_of_length_le (by omega)]
     have dl2:decide (((a+1:Nat):Int) < (C.length:Int))=false:=decide_eq_false (by omega)
     try simp -implicitDefEqProofs only [LM0,LB32,eq_self,zab (h:=T68),zad,zac,zaa,zah,zai T135,zak,zbG,bd_J,zbH,zbI,zbJ,zbK,dl2,TB,SB,Int.reduceToNat,Nat.reduceAdd,Nat.reduceEqDiff,Nat.reduceLT,Nat.reduceMod,Nat.reducePow,Nat.reduceSub,if_true,reduceIte]
     exact endZ (B:=B) (C:=C) [3,4] (itF.frz rfl rfl) (itF.frz rfl hC0.symm) (by rw [zbZ,zbl,zbl,hB0,hC0])
end Go.Proofs.YtdmiflfhaobngaaGreatDoor
end

section
namespace Go.Proofs.YtdmiflfhaobngaaGreatDoor
open Go Go.Eng
set_option linter.defProp false in
def LB33:=And.intro @zbG (And.intro @bd_J (And.intro @zbH (And.intro @zbI (And.intro @zbJ (@zbK)))))
set_option linter.defProp false in
def LM8:=And.intro LM0 (And.intro LB32 (LB33))
theorem rtake_T {L:List It} {k:Nat} (hd:List (List UInt8)) (h:k < L.length):hd++itT (L.take (k+1))=(hd++itT (L.take k))++[(L.getD k i0).label,(L.getD k i0).box]:=by
 rw [itT_succ h,List.append_assoc]
set_option maxHeartbeats 8000000 in
theorem ze5 (s:Sv) (h1:s.blobs.length≤9223372036854775807) (h2:s.cells.length≤9223372036854775807):ACalls Tryz.prog 28 [svA s] [] (fun y _=>y=.ret (.tup [str (zbR s).1,i64 (zbR s).2])):=by
 have hck:=rchk_ok s h1 h2
 have hkl:=@ze3 s
 have hle:=@svT_le s
 have hX:zbR s=if chkS s=true then (zbk (svT s),0) else ([],1):=rfl
 generalize zbR s=X at hX ⊢
 generalize chkS s=cc at hck hkl hle hX
 obtain⟨B,C,h,n⟩:=s
 unfold svT at hle hX
 simp only [zbZ,zbl] at hck ⊢
 dsimp only at hck hkl hle hX h1 h2
 refine ACalls.body T_ok Tryz.func28 (by kernel_rfl) rfl Tryz.ntmps28 (congrArg Array.toList Tryz.results28) ?_
 try simp -implicitDefEqProofs only [LM8,eq_self,zab (h:=T68),zad,zac,zaa,zah,zai T135,zak,TB,SB,Int.reduceToNat,Nat.reduceAdd,Nat.reduceEqDiff,Nat.reduceLT,Nat.reduceMod,Nat.reducePow,Nat.reduceSub,if_true,reduceIte]
 refine hck.pure (by simp [renL,zaH,AV.ren,zae,zaj]) ?_
 rintro _ σ rfl
 refine⟨zax _ _,?_⟩
 cases cc with
 | false =>
  rw [if_neg (by decide)] at hX
  try simp -implicitDefEqProofs only [LM8,eq_self,zab (h:=T68),zad,zac,zaa,zah,zai T135,zak,TB,SB,Int.reduceToNat,Nat.reduceAdd,Nat.reduceEqDiff,Nat.reduceLT,Nat.reduceMod,Nat.reducePow,Nat.reduceSub,if_true,reduceIte]
  exact zbd (zbY _ _ _) (by rw [hX])
 | true =>
 obtain⟨⟨_,l1⟩,⟨_,l2⟩,l3,l4,l5⟩:=hkl rfl
 obtain⟨m1,m2,m3⟩:=hle rfl
 rw [if_pos rfl] at hX
 try simp -implicitDefEqProofs only [LM8,eq_self,zab (h:=T68),zad,zac,zaa,zah,zai T135,zak,TB,SB,Int.reduceToNat,Nat.reduceAdd,Nat.reduceEqDiff,Nat.reduceLT,Nat.reduceMod,Nat.reducePow,Nat.reduceSub,if_true,reduceIte]
 refine zbg [11] (by kernel_rfl) (by kernel_rfl) (by kernel_rfl) ?_
 try simp -implicitDefEqProofs only [LM8,eq_self,zab (h:=T68),zad,zac,zaa,zah,zai T135,zak,TB,SB,Int.reduceToNat,Nat.reduceAdd,Nat.reduceEqDiff,Nat.reduceLT,Nat.reduceMod,Nat.reducePow,Nat.reduceSub,if_true,reduceIte]
 refine zbt (rbig_ok (BitVec.ofInt 64 n) 8) (by first | rfl | simp [renL,AV.ren,zaw,zaf str zae,zaL,zaB,zaA,zaj,zax,zae]) (by first | rfl | simp [AEnd.noid,AV.ren,renL,zaw,zaL,zaB,zaA,zaj,zax,zae]) ?_
 try simp -implicitDefEqProofs only [LM8,eq_self,zab (h:=T68),zad,zac,zaa,zah,zai T135,zak,TB,SB,Int.reduceToNat,Nat.reduceAdd,Nat.reduceEqDiff,Nat.reduceLT,Nat.reduceMod,Nat.reducePow,Nat.reduceSub,if_true,reduceIte]
 refine zbt (rbig_ok (BitVec.ofInt 64 (B.length:Int)) 4) (by first | rfl | simp [renL,AV.ren,zaw,zaf str zae,zaL,zaB,zaA,zaj,zax,zae]) (by first | rfl | simp [AEnd.noid,AV.ren,renL,zaw,zaL,zaB,zaA,zaj,zax,zae]) ?_
 try simp -implicitDefEqProofs only [LM8,eq_self,zab (h:=T68),zad,zac,zaa,zah,zai T135,zak,TB,SB,Int.reduceToNat,Nat.reduceAdd,Nat.reduceEqDiff,Nat.reduceLT,Nat.reduceMod,Nat.reducePow,Nat.reduceSub,if_true,reduceIte]
 rw [show zcP 8=8 from rfl,show zcP 4=4 from rfl]
 try simp -implicitDefEqProofs only [LM8,eq_self,zab (h:=T68),zad,zac,zaa,zah,zai T135,zak,bs_s3,TB,SB,Int.reduceToNat,Nat.reduceAdd,Nat.reduceEqDiff,Nat.reduceLT,Nat.reduceMod,Nat.reducePow,Nat.reduceSub,if_true,reduceIte]
 have hhd:[h,bigL (BitVec.ofInt 64 n) 8,bigL (BitVec.ofInt 64 (B.length:Int)) 4].length=3:=rfl
 have hT:h::bigL (BitVec.ofInt 64 n) 8::bigL (BitVec.ofInt 64 (B.length:Int)) 4::(itT B++itT C)=[h,bigL (BitVec.ofInt 64 n) 8,bigL (BitVec.ofInt 64 (B.length:Int)) 4]++itT B++itT C:=rfl
 rw [hT] at m1 m2 m3 hX
 try rw [show (fun x=>str x)=str from rfl]
 try rw [show [str h,str (bigL (BitVec.ofInt 64 n) 8),str (bigL (BitVec.ofInt 64 (B.length:Int)) 4)]=[h,bigL (BitVec.ofInt 64 n) 8,bigL (BitVec.ofInt 64 (B.length:Int)) 4].map str from rfl]
 rw [show (AV.ref 1 0 3 1)=AV.ref 1 0 [h,bigL (BitVec.ofInt 64 n) 8,bigL (BitVec.ofInt 64 (B.length:Int)) 4].length 1 from rfl]
 generalize [h,bigL (BitVec.ofInt 64 n) 8,bigL (BitVec.ofInt 64 (B.length:Int)) 4]=hd at hhd m1 m2 m3 hX ⊢
 rw [za9]
 refine⟨Nat,fun k=>k≤B.length,fun k=>[.bot,.ptr 0 0,str [],i64 0,.ref 1 0 (hd++itT (B.take k)).length 1,i64 k,.bot,.bot,.bot,.bot,.bot,.bot,.bot,.bot,.bot,.bot,.bot,.bot,.bot,.bot,.bot,.bot,.bot,.bot,.bot,.bot,.bot,.bot,.bot,.bot,.bot,.bot,.bot,.bot,.bot,.bot,.bot,.bot,.bot,.bot,.bot,.bot,.bot,.bot,.bot,.bot,.bot,.bot,.bot,.bot,.bot,.bot,.bot,.bot,.bot,.bot,.bot,.bot,.bot,.bot,.bot,.bot,.bot,.bot,.bot,.bot,.bot,.bot],fun k=>[.rw [.sl (B.flatMap itC) B.length,.sl (C.flatMap itC) C.length,str h,i64 n],.rw ((hd++itT (B.take k)).map str)],fun k=>B.length - k,0,Nat.zero_le _,zal (q:=[0,1]) rfl rfl (by decide) ?_ ?_,?_⟩
 ·try simp only [FB,AV.ren,Nat.reduceAdd,reduceCtorEq]
  exact⟨by simp [itT],.inr rfl⟩
 ·show zao _ _ _ [.rw [.sl (B.flatMap itC) B.length,.sl (C.flatMap itC) C.length,str h,i64 n],.rw ((hd++itT (B.take 0)).map str)]
  rw [List.take_zero,show itT []=[] from rfl,List.append_nil]
  generalize hd=HD
  simp [zao,Blk.ren,renL,zaH,zaf str zae,zae,zaj,AV.ren]
 intro k hk
 have hlen:(hd).length≤5000:=by
  have:=m1
  simp only [List.length_append] at this ⊢
  omega
 have hol:(itT (B.take k)).length=2 * k:=by rw [zeE,List.length_take];omega
 by_cases hlt:k < B.length
 ·have dl:decide ((k:Int) < (B.length:Int))=true:=decide_eq_true (by omega)
  have e:=rtake_T hd hlt
  try simp -implicitDefEqProofs only [LM8,eq_self,zab (h:=T68),zad,zac,zaa,zah,zai T135,zak,dl,TB,SB,Int.reduceToNat,Nat.reduceAdd,Nat.reduceEqDiff,Nat.reduceLT,Nat.reduceMod,Nat.reducePow,Nat.reduceSub,if_true,reduceIte]
  refine zbg [14] (by kernel_rfl) (by kernel_rfl) (by kernel_rfl) ?_
  try simp -implicitDefEqProofs only [LM8,eq_self,zab (h:=T68),zad,zac,zaa,zah,zai T135,zak,TB,SB,Int.reduceToNat,Nat.reduceAdd,Nat.reduceEqDiff,Nat.reduceLT,Nat.reduceMod,Nat.reducePow,Nat.reduceSub,if_true,reduceIte]
  refine⟨by omega,by omega,by omega,by omega,by omega,by omega,by omega,by omega,?_⟩
  try simp -implicitDefEqProofs only [LM8,eq_self,zab (h:=T68),zad,zac,zaa,zah,zai T135,zak,bs_s2V,qb_s2V,TB,SB,Int.reduceToNat,Nat.reduceAdd,Nat.reduceEqDiff,Nat.reduceLT,Nat.reduceMod,Nat.reducePow,Nat.reduceSub,if_true,reduceIte]
  refine zb7 str zad rfl rfl T68 T68 (zdz _) T9 zcN (l:=hd++itT (B.take k)) (ys:=[(B.getD k i0).label,(B.getD k i0).box]) (m:=2) rfl rfl rfl (by rw [List.length_append];omega) (by rw [List.length_append];simp only [tyStr];omega) ?_
  try simp -implicitDefEqProofs only [LM8,eq_self,zab (h:=T68),zad,zac,zaa,zah,zai T135,zak,TB,SB,Int.reduceToNat,Nat.reduceAdd,Nat.reduceEqDiff,Nat.reduceLT,Nat.reduceMod,Nat.reducePow,Nat.reduceSub,if_true,reduceIte]
  refine⟨by unfold inI;omega,?_⟩
  rw [zan]
  refine⟨k+1,by omega,by (show B.length - (k+1) < B.length - k);omega,?_⟩
  have e2:(hd++itT (B.take (k+1))).length=(hd++itT (B.take k)).length+2:=by rw [e,List.length_append];rfl
  rw [e2,e]
  refine zal (q:=[0,2]) rfl rfl (by decide) ?_ ?_
  ·try simp only [FB,AV.ren,Nat.reduceAdd,reduceCtorEq]
   exact .inr (by omega)
  ·generalize (hd++itT (B.take k))++[(B.getD k i0).label,(B.getD k i0).box]=HD
   simp [zao,Blk.ren,renL,zaH,zaf str zae,zae,zaj,AV.ren]
 obtain rfl:k=B.length:=by omega
 have dl:decide ((B.length:Int) < (B.length:Int))=false:=decide_eq_false (by omega)
 try simp -implicitDefEqProofs only [LM8,eq_self,zab (h:=T68),zad,zac,zaa,zah,zai T135,zak,dl,List.take_length,TB,SB,Int.reduceToNat,Nat.reduceAdd,Nat.reduceEqDiff,Nat.reduceLT,Nat.reduceMod,Nat.reducePow,Nat.reduceSub,if_true,reduceIte]
 rw [za9]
 refine⟨Nat,fun k=>k≤C.length,fun k=>[.bot,.ptr 0 0,str [],i64 0,.ref 1 0 (hd++itT B++itT (C.take k)).length 1,.bot,i64 k,.bot,.bot,.bot,.bot,.bot,.bot,.bot,.bot,.bot,.bot,.bot,.bot,.bot,.bot,.bot,.bot,.bot,.bot,.bot,.bot,.bot,.bot,.bot,.bot,.bot,.bot,.bot,.bot,.bot,.bot,.bot,.bot,.bot,.bot,.bot,.bot,.bot,.bot,.bot,.bot,.bot,.bot,.bot,.bot,.bot,.bot,.bot,.bot,.bot,.bot,.bot,.bot,.bot,.bot,.bot,.bot,.bot,.bot,.bot,.bot,.bot],fun k=>[.rw [.sl (B.flatMap itC) B.length,.sl (C.flatMap itC) C.length,str h,i64 n],.rw (((hd++itT B)++itT (C.take k)).map str)],fun k=>C.length - k,0,Nat.zero_le _,zal (q:=[0,1]) rfl rfl (by decide) ?_ ?_,?_⟩
 ·try simp only [FB,AV.ren,Nat.reduceAdd,reduceCtorEq]
  exact⟨by simp [itT],.inr rfl⟩
 ·show zao _ _ _ [.rw [.sl (B.flatMap itC) B.length,.sl (C.flatMap itC) C.length,str h,i64 n],.rw (((hd++itT B)++itT (C.take 0)).map str)]
  rw [List.take_zero,show itT []=[] from rfl,List.append_nil]
  generalize (hd++itT B)=HD
  simp [zao,Blk.ren,renL,zaH,zaf str zae,zae,zaj,AV.ren]
 intro k hk
 have hlen:((hd++itT B)).length≤5000:=by
  have:=m1
  simp only [List.length_append] at this ⊢
  omega
 have hol:(itT (C.take k)).length=2 * k:=by rw [zeE,List.length_take];omega
 by_cases hlt:k < C.length
 ·have dl:decide ((k:Int) < (C.length:Int))=true:=decide_eq_true (by omega)
  have e:=rtake_T (hd++itT B) hlt
  try simp -implicitDefEqProofs only [LM8,eq_self,zab (h:=T68),zad,zac,zaa,zah,zai T135,zak,dl,TB,SB,Int.reduceToNat,Nat.reduceAdd,Nat.reduceEqDiff,Nat.reduceLT,Nat.reduceMod,Nat.reducePow,Nat.reduceSub,if_true,reduceIte]
  refine zbg [14] (by kernel_rfl) (by kernel_rfl) (by kernel_rfl) ?_
  try simp -implicitDefEqProofs only [LM8,eq_self,zab (h:=T68),zad,zac,zaa,zah,zai T135,zak,TB,SB,Int.reduceToNat,Nat.reduceAdd,Nat.reduceEqDiff,Nat.reduceLT,Nat.reduceMod,Nat.reducePow,Nat.reduceSub,if_true,reduceIte]
  refine⟨by omega,by omega,by omega,by omega,by omega,by omega,by omega,by omega,?_⟩
  try simp -implicitDefEqProofs only [LM8,eq_self,zab (h:=T68),zad,zac,zaa,zah,zai T135,zak,bs_s2V,qb_s2V,TB,SB,Int.reduceToNat,Nat.reduceAdd,Nat.reduceEqDiff,Nat.reduceLT,Nat.reduceMod,Nat.reducePow,Nat.reduceSub,if_true,reduceIte]
  refine zb7 str zad rfl rfl T68 T68 (zdz _) T9 zcN (l:=(hd++itT B)++itT (C.take k)) (ys:=[(C.getD k i0).label,(C.getD k i0).box]) (m:=2) rfl rfl rfl (by rw [List.length_append];omega) (by rw [List.length_append];simp only [tyStr];omega) ?_
  try simp -implicitDefEqProofs only [LM8,eq_self,zab (h:=T68),zad,zac,zaa,zah,zai T135,zak,TB,SB,Int.reduceToNat,Nat.reduceAdd,Nat.reduceEqDiff,Nat.reduceLT,Nat.reduceMod,Nat.reducePow,Nat.reduceSub,if_true,reduceIte]
  refine⟨by unfold inI;omega,?_⟩
  rw [zan]
  refine⟨k+1,by omega,by (show C.length - (k+1) < C.length - k);omega,?_⟩
  have e2:((hd++itT B)++itT (C.take (k+1))).length=((hd++itT B)++itT (C.take k)).length+2:=by rw [e,List.length_append];rfl
  rw [e2,e]
  refine zal (q:=[0,2]) rfl rfl (by decide) ?_ ?_
  ·try simp only [FB,AV.ren,Nat.reduceAdd,reduceCtorEq]
   exact .inr (by omega)
  ·generalize ((hd++itT B)++itT (C.take k))++[(C.getD k i0).label,(C.getD k i0).box]=HD
   simp [zao,Blk.ren,renL,zaH,zaf str zae,zae,zaj,AV.ren]
 obtain rfl:k=C.length:=by omega
 have dl:decide ((C.length:Int) < (C.length:Int))=false:=decide_eq_false (by omega)
 try simp -implicitDefEqProofs only [LM8,eq_self,zab (h:=T68),zad,zac,zaa,zah,zai T135,zak,dl,List.take_length,TB,SB,Int.reduceToNat,Nat.reduceAdd,Nat.reduceEqDiff,Nat.reduceLT,Nat.reduceMod,Nat.reducePow,Nat.reduceSub,if_true,reduceIte]
 refine ACalls.frz [1] (l':=[.sl ((hd++itT B++itT C).map str) (hd++itT B++itT C).length]) ⟨_,_,rfl,zi7 (l:=hd++itT B++itT C) rfl rfl,rfl⟩ ?_
 refine(rJoin_ok _ (by omega) (fun s hs=>by have:=m2 s hs;omega) (by omega)).pure (by simp only [renL,AV.ren,zaf str zae];rfl) ?_
 rintro _ σ rfl
 refine⟨zae _ _,?_⟩
 try simp -implicitDefEqProofs only [LM8,eq_self,zab (h:=T68),zad,zac,zaa,zah,zai T135,zak,TB,SB,Int.reduceToNat,Nat.reduceAdd,Nat.reduceEqDiff,Nat.reduceLT,Nat.reduceMod,Nat.reducePow,Nat.reduceSub,if_true,reduceIte]
 exact zbd (zbY _ _ _) (by rw [hX])
end Go.Proofs.YtdmiflfhaobngaaGreatDoor
end

section
namespace Go.Proofs.YtdmiflfhaobngaaGreatDoor
open Go Go.Eng
theorem byte_e {e:Int} (h0:0≤e) (h1:e≤255):(((bigL (BitVec.ofInt 64 e) 1).getD 0 0).toNat:Int)=e:=by
 rw [big1,sw8,List.getD_cons_zero]
 have:(UInt8.ofBitVec (BitVec.ofInt 8 e)).toNat=(BitVec.ofInt 8 e).toNat:=rfl
 rw [this,BitVec.toNat_ofInt]
 simp only [Nat.reducePow]
 omega
theorem putV_0 {l:List Vo} (h:(putV l).2=0):zbf l=true∧putV l=(zbk (opsT l),0):=by
 cases hb:zbf l with
 | true=>exact⟨rfl,by rw [putV,if_pos hb]⟩
 | false=>rw [putV,if_neg (by rw [hb];simp)] at h;cases h
theorem rvL_ops {l:List Vo} (h:∀ o∈l,mayO o=true):rvL (opsT l) l.length=l:=by
 have hk:∀ k,k < l.length→rvAt (opsT l) k=l.getD k v0:=fun k hk=>by
  obtain⟨g1,g2,g3⟩:=zga l k hk
  have hm:=(mayO_iff _).1 (h _ (ziC hk v0))
  rw [rvAt,g1,g2,g3,byte_e hm.1 (by omega)]
 have:rvL (opsT l) l.length=(List.range l.length).map fun k=>l.getD k v0:=by
  rw [rvL]
  refine List.map_congr_left fun k hm=>hk k (List.mem_range.1 hm)
 rw [this,zd1]
theorem rgetV_put {l:List Vo} (h:zbf l=true):ziJ (putV l).1=(l,0):=by
 obtain⟨h1,h2,h3⟩:=zfk h
 have hl:=zeC l
 have e3:(opsT l).length / 3=l.length:=by omega
 have hp:putV l=(zbk (opsT l),0):=by rw [putV,if_pos h]
 have ho:∀ k,k < (opsT l).length / 3→((opsT l).getD (3 * k) []).length=1:=fun k hk=>by
  rw [e3] at hk
  rw [(zga l k hk).1,zcf]
 rw [hp]
 dsimp only
 rw [ziJ,zeB]
 dsimp only
 rw [if_neg (by decide),if_neg (by omega),if_neg (Decidable.not_not.2 ho),e3,rvL_ops h3,hp]
 rw [if_neg (by simp),if_neg (by simp)]
theorem rgetV_eq (b:List UInt8):ziJ b=getV b:=by
 by_cases h:(getV b).2=0
 ·have h2:=getV_back h
  have hb:zbf (getV b).1=true:=by
   cases hb:zbf (getV b).1 with
   | true=>rfl
   | false =>
    rw [putV,if_neg (by rw [hb];decide)] at h2
    exact absurd (show (1:Int)=0 from congrArg Prod.snd h2) (by decide)
  have h3:=rgetV_put hb
  rw [h2] at h3
  rw [show ziJ b=((getV b).1,0) from h3,← h]
 ·rw [getV_bad h]
  have key:∀ l,putV l=(b,0)→False:=fun l hl=>by
   obtain⟨g1,-⟩:=putV_0 (l:=l) (by rw [hl])
   have h4:=getV_put g1
   rw [hl] at h4
   exact h (by rw [show getV b=(l,0) from h4])
  unfold ziJ
  split
  ·rfl
  split
  ·rfl
  split
  ·rfl
  split
  ·rfl
  rename_i q1
  split
  ·rfl
  rename_i q2
  exact(key _ (Prod.ext (Classical.not_not.1 q2) (Classical.not_not.1 q1))).elim
end Go.Proofs.YtdmiflfhaobngaaGreatDoor
end

section
namespace Go.Proofs.YtdmiflfhaobngaaGreatDoor
open Go Go.Eng
def rrS (L:List (List UInt8)):Sv:=⟨(itA (L.drop 3) ((L.length - 3) / 2)).take (zaG (L.getD 2 [])).toNat,(itA (L.drop 3) ((L.length - 3) / 2)).drop (zaG (L.getD 2 [])).toNat,L.getD 0 [],IntKind.i64.wrap ((zaG (L.getD 1 [])).toNat:Int)⟩
def okR (L:List (List UInt8)):Bool:=decide (3≤L.length) && (decide (L.length % 2=1) && (decide ((L.getD 1 []).length=8) && (decide ((L.getD 2 []).length=4) && decide ((zaG (L.getD 1 [])).toNat≤1073741824))))
def zhB (b:List UInt8):Sv × Int :=
 if (zaN b).2≠0 then (s0,5) else if okR (zaN b).1=false then (s0,5)
 else if (zbR (rrS (zaN b).1)).2≠0 then (s0,5) else if (zbR (rrS (zaN b).1)).1≠b then (s0,5) else (rrS (zaN b).1,0)
theorem itA_take (X:List (List UInt8)) {a m:Nat} (h:m≤a):(itA X a).take m=itA X m:=by
 rw [itA,← List.map_take,List.take_range,Nat.min_eq_left h,itA]
theorem itA_drop (X:List (List UInt8)) {a m:Nat} (h:m≤a):(itA X a).drop m=itA (X.drop (2 * m)) (a - m):=by
 refine List.ext_getElem (by simp [itA]) fun i h1 h2=>?_
 simp only [itA,List.getElem_drop,List.getElem_map,List.getElem_range,itAt,List.getD_eq_getElem?_getD,List.getElem?_drop]
 rw [show 2 * (m+i)=2 * m+2 * i by omega,show 2 * m+2 * i+1=2 * m+(2 * i+1) by omega]
theorem rrS_rdS {L:List (List UInt8)} (h:okL L=true):okR L=true∧rrS L=rdS L:=by
 simp only [okL,Bool.and_eq_true,decide_eq_true_eq] at h
 obtain⟨h1,h2,h3,h4,h5,h6⟩:=h
 refine⟨by simp only [okR,Bool.and_eq_true,decide_eq_true_eq];exact⟨h1,h2,h3,h4,h5⟩,?_⟩
 rw [rrS,rdS,itA_take _ (by omega),itA_drop _ (by omega)]
 congr 2
 omega
theorem rreadS_eq (b:List UInt8):zhB b=zdf b:=by
 by_cases h:(zdf b).2=0
 ·have h2:=zh9 h
  have hc:chkS (zdf b).1=true:=by
   cases hc:chkS (zdf b).1 with
   | true=>rfl
   | false =>
    rw [zbR,if_neg (by rw [hc];decide)] at h2
    exact absurd (show (1:Int)=0 from congrArg Prod.snd h2) (by decide)
  have hr:zdf b=((zdf b).1,0):=Prod.ext rfl h
  generalize (zdf b).1=s at h2 hc hr
  obtain⟨g1,g2⟩:=rdS_svT hc
  obtain⟨q1,q2⟩:=rrS_rdS g1
  have hb:zbk (svT s)=b:=by rw [zbR,if_pos hc] at h2;exact congrArg Prod.fst h2
  rw [hr,zhB]
  have hs:zaN b=(svT s,0):=by rw [← hb,zeB]
  rw [hs]
  dsimp only
  rw [if_neg (by decide),if_neg (by rw [q1];decide),q2,g2,h2,if_neg (by simp),if_neg (by simp)]
 ·rw [readS_bad h]
  have key:∀ s,zbR s=(b,0)→False:=fun s hs=>by
   have hc:chkS s=true:=by
    cases hc:chkS s with
    | true=>rfl
    | false =>
     rw [zbR,if_neg (by rw [hc];decide)] at hs
     exact absurd (show (1:Int)=0 from congrArg Prod.snd hs) (by decide)
   have h4:=readS_put hc
   rw [hs] at h4
   exact h (by rw [show zdf b=(s,0) from h4])
  unfold zhB
  split
  ·rfl
  split
  ·rfl
  split
  ·rfl
  rename_i q1
  split
  ·rfl
  rename_i q2
  exact(key _ (Prod.ext (Classical.not_not.1 q2) (Classical.not_not.1 q1))).elim
theorem za2 {K:AV→Prop}:zaQ T 34 [] K=K (.agg [.lit (.slice none 0 0),.lit (.slice none 0 0),str [],i64 0]):=by
 simp [zaQ,T34,T3,T9,T32,tyS9,zbs,zaK]
 rfl
end Go.Proofs.YtdmiflfhaobngaaGreatDoor
end

section
namespace Go.Proofs.YtdmiflfhaobngaaGreatDoor
open Go Go.Eng
theorem zdU {σ:zag} {K:AV→zag→Prop} (hk:K (.tup [svA s0,i64 5]) []):endQ 0 (.tup [.agg [.lit (.slice none 0 0),.lit (.slice none 0 0),str [],i64 0],i64 5]) σ K:=zeF hk
def rz (R:List (List UInt8)) (h:List UInt8) (n:Int):Nat→Nat→zag
 | 0,0=>[.rw [.lit (.slice none 0 0),.lit (.slice none 0 0),str [],i64 0],.rw [.lit (.slice none 0 0),.lit (.slice none 0 0),str h,i64 n]]
 | p+1,0=>[.rw [.lit (.slice none 0 0),.lit (.slice none 0 0),str [],i64 0],.rw [.ref 2 0 (p+1) 2,.lit (.slice none 0 0),str h,i64 n],.rw ((itA R (p+1)).flatMap itC)]
 | 0,q+1=>[.rw [.lit (.slice none 0 0),.lit (.slice none 0 0),str [],i64 0],.rw [.lit (.slice none 0 0),.ref 2 0 (q+1) 2,str h,i64 n],.rw ((itA R (q+1)).flatMap itC)]
 | p+1,q+1=>[.rw [.lit (.slice none 0 0),.lit (.slice none 0 0),str [],i64 0],.rw [.ref 2 0 (p+1) 2,.ref 3 0 (q+1) 2,str h,i64 n],.rw ((itA R (p+1)).flatMap itC),.rw ((itA (R.drop (2 * (p+1))) (q+1)).flatMap itC)]
theorem ziK {t:TypeId} {K:AV→Prop} (x y:BitVec 64):wbin T .lss t (u64 x) (u64 y) K=K (bl (decide (x.toNat < y.toNat))):=by
 simp [wbin,u64,cmpV,bl,zdF]
theorem half_i {j:Nat} (h:j≤1000000):(BitVec.ofInt 64 (((3+2 * j:Nat):Int) - 3) / 2#64).toNat=j:=by
 rw [show (((3+2 * j:Nat):Int) - 3)=((2 * j:Nat):Int) by omega,BitVec.toNat_udiv]
 rw [show (BitVec.ofInt 64 ((2 * j:Nat):Int)).toNat=2 * j by rw [BitVec.toNat_ofInt];omega]
 rw [show (2#64).toNat=2 from rfl]
 omega
theorem zcK (L:List (List UInt8)) (i:Nat):(L.drop 3).getD i []=L.getD (3+i) []:=by
 simp [List.getD_eq_getElem?_getD,List.getElem?_drop]
theorem itAt_drop (X:List (List UInt8)) (m i:Nat):itAt (X.drop (2 * m)) i=itAt X (m+i):=by
 simp only [itAt,List.getD_eq_getElem?_getD,List.getElem?_drop]
 rw [show 2 * m+2 * i=2 * (m+i) by omega,show 2 * m+(2 * i+1)=2 * (m+i)+1 by omega]
theorem itA_one (X:List (List UInt8)):itA X 1=[itAt X 0]:=rfl
theorem endZE {σ:zag} {x y:AV} {h:List UInt8} {n e:Int} {B C:List It} {K:AV→zag→Prop} (ids:List Nat) (h1:frzA (zch σ ids) x (slT B)) (h2:frzA (zch σ ids) y (slT C)) (hK:K (.tup [svA ⟨B,C,h,n⟩,i64 e]) []):endQ 0 (.tup [.agg [x,y,str h,i64 n],i64 e]) σ K :=
 zce ids (.tup [svA ⟨B,C,h,n⟩,i64 e]) ⟨_,rfl,_,_,rfl,⟨_,rfl,_,_,rfl,h1,_,_,rfl,h2,_,_,rfl,.inl rfl,_,_,rfl,.inl rfl,rfl⟩,_,_,rfl,.inl rfl,rfl⟩ ⟨[],.tup [svA ⟨B,C,h,n⟩,i64 e],[],rfl,rfl,by decide,by simp [AV.ren,renL,zcn,zaj],trivial,hK⟩
theorem zgN {p:Prop} (h:p):¬ ¬ p:=fun k=>k h
theorem flat1 (y:It):[y].flatMap itC=itC y:=by simp
set_option maxHeartbeats 8000000 in
theorem rread_ok (b:List UInt8) (hb:b.length≤1000000):ACalls Tryz.prog 30 [str b] [] (fun y _=>y=.ret (.tup [svA (zhB b).1,i64 (zhB b).2])):=by
 have hle:=zf8 b
 obtain⟨X,hX⟩:∃ X,X=zhB b:=⟨_,rfl⟩
 rw [← hX]
 unfold zhB at hX
 refine ACalls.body T_ok Tryz.func30 (by kernel_rfl) rfl Tryz.ntmps30 (congrArg Array.toList Tryz.results30) ?_
 try simp -implicitDefEqProofs only [LM8,eq_self,zab (h:=T68),zad,zac,zaa,zah,zai T135,zak,za2,TB,SB,Int.reduceToNat,Nat.reduceAdd,Nat.reduceEqDiff,Nat.reduceLT,Nat.reduceMod,Nat.reducePow,Nat.reduceSub,if_true,reduceIte]
 refine(rSplit_ok b (by omega)).pure (by simp [renL,zae]) ?_
 rintro _ σ rfl
 refine⟨zhm _ _ _,?_⟩
 generalize zaN b=sp at hX hle ⊢
 obtain⟨L,e⟩:=sp
 dsimp only at hX hle ⊢
 simp only [zgD]
 by_cases he:e=0
 rotate_left
 ·rw [if_pos he] at hX
  have d0:=decide_eq_false he
  try simp -implicitDefEqProofs only [LM8,eq_self,zab (h:=T68),zad,zac,zaa,zah,zai T135,zak,za2,d0,TB,SB,Int.reduceToNat,Nat.reduceAdd,Nat.reduceEqDiff,Nat.reduceLT,Nat.reduceMod,Nat.reducePow,Nat.reduceSub,if_true,reduceIte]
  exact zdU (by rw [hX])
 subst he
 rw [if_neg (by decide)] at hX
 have hno:okR L=false→X=(s0,5):=fun h=>by rw [hX,if_pos h]
 have d0:decide ((0:Int)=0)=true:=rfl
 by_cases g1:(L.length:Int) < 3
 ·have d1:=decide_eq_true g1
  try simp -implicitDefEqProofs only [LM8,eq_self,zab (h:=T68),zad,zac,zaa,zah,zai T135,zak,za2,d0,d1,TB,SB,Int.reduceToNat,Nat.reduceAdd,Nat.reduceEqDiff,Nat.reduceLT,Nat.reduceMod,Nat.reducePow,Nat.reduceSub,if_true,reduceIte]
  exact zdU (by rw [hno (by rw [okR,decide_eq_false (by omega)];rfl)])
 have d1:=decide_eq_false g1
 try simp -implicitDefEqProofs only [LM8,eq_self,zab (h:=T68),zad,zac,zaa,zah,zai T135,zak,za2,d0,d1,TB,SB,Int.reduceToNat,Nat.reduceAdd,Nat.reduceEqDiff,Nat.reduceLT,Nat.reduceMod,Nat.reducePow,Nat.reduceSub,if_true,reduceIte]
 rw [show ((L.length:Int).tmod 2)=((L.length % 2:Nat):Int) from rfl]
 refine⟨by decide,?_⟩
 by_cases g2:((L.length % 2:Nat):Int)=1
 rotate_left
 ·rw [decide_eq_false g2]
  try simp -implicitDefEqProofs only [LM8,eq_self,zab (h:=T68),zad,zac,zaa,zah,zai T135,zak,za2,TB,SB,Int.reduceToNat,Nat.reduceAdd,Nat.reduceEqDiff,Nat.reduceLT,Nat.reduceMod,Nat.reducePow,Nat.reduceSub,if_true,reduceIte]
  exact zdU (by rw [hno (by rw [okR,decide_eq_false (by omega:¬ L.length % 2=1),Bool.false_and,Bool.and_false])])
 rw [decide_eq_true g2]
 try simp -implicitDefEqProofs only [LM8,eq_self,zab (h:=T68),zad,zac,zaa,zah,zai T135,zak,za2,TB,SB,Int.reduceToNat,Nat.reduceAdd,Nat.reduceEqDiff,Nat.reduceLT,Nat.reduceMod,Nat.reducePow,Nat.reduceSub,if_true,reduceIte]
 refine⟨by omega,by omega,by omega,?_⟩
 by_cases g3:((L.getD 1 []).length:Int)=8
 rotate_left
 ·rw [decide_eq_false g3]
  try simp -implicitDefEqProofs only [LM8,eq_self,zab (h:=T68),zad,zac,zaa,zah,zai T135,zak,za2,TB,SB,Int.reduceToNat,Nat.reduceAdd,Nat.reduceEqDiff,Nat.reduceLT,Nat.reduceMod,Nat.reducePow,Nat.reduceSub,if_true,reduceIte]
  exact zdU (by rw [hno (by rw [okR,decide_eq_false (by omega:¬ (L.getD 1 []).length=8),Bool.false_and,Bool.and_false,Bool.and_false])])
 rw [decide_eq_true g3]
 try simp -implicitDefEqProofs only [LM8,eq_self,zab (h:=T68),zad,zac,zaa,zah,zai T135,zak,za2,TB,SB,Int.reduceToNat,Nat.reduceAdd,Nat.reduceEqDiff,Nat.reduceLT,Nat.reduceMod,Nat.reducePow,Nat.reduceSub,if_true,reduceIte]
 refine⟨by omega,by omega,by omega,?_⟩
 refine⟨fun g4=>?_,fun g4=>?_⟩
 ·exact zdU (by rw [hno (by rw [okR,decide_eq_false (by omega:¬ (L.getD 2 []).length=4),Bool.false_and,Bool.and_false,Bool.and_false,Bool.and_false])])
 refine⟨by omega,by omega,by omega,?_⟩
 try simp -implicitDefEqProofs only [LM8,eq_self,zab (h:=T68),zad,zac,zaa,zah,zai T135,zak,za2,TB,SB,Int.reduceToNat,Nat.reduceAdd,Nat.reduceEqDiff,Nat.reduceLT,Nat.reduceMod,Nat.reducePow,Nat.reduceSub,if_true,reduceIte]
 refine(zhj (L.getD 1 []) (by omega)).pure (by simp [renL,zae]) ?_
 rintro _ σ rfl
 refine⟨zaA _ _,?_⟩
 try simp -implicitDefEqProofs only [LM8,eq_self,zab (h:=T68),zad,zac,zaa,zah,zai T135,zak,za2,TB,SB,Int.reduceToNat,Nat.reduceAdd,Nat.reduceEqDiff,Nat.reduceLT,Nat.reduceMod,Nat.reducePow,Nat.reduceSub,if_true,reduceIte]
 refine⟨by omega,by omega,by omega,?_⟩
 refine(zhj (L.getD 2 []) (by omega)).pure (by simp [renL,zae]) ?_
 rintro _ σ rfl
 refine⟨zaA _ _,?_⟩
 by_cases g5:1073741824 < (zaG (L.getD 1 [])).toNat
 ·have d5:=decide_eq_true g5
  try simp -implicitDefEqProofs only [LM8,eq_self,zab (h:=T68),zad,zac,zaa,zah,zai T135,zak,za2,ziG,d5,TB,SB,Int.reduceToNat,Nat.reduceAdd,Nat.reduceEqDiff,Nat.reduceLT,Nat.reduceMod,Nat.reducePow,Nat.reduceSub,if_true,reduceIte]
  exact zdU (by rw [hno (by rw [okR,decide_eq_false (by omega:¬ (zaG (L.getD 1 [])).toNat≤1073741824),Bool.and_false,Bool.and_false,Bool.and_false,Bool.and_false])])
 have d5:=decide_eq_false g5
 try simp -implicitDefEqProofs only [LM8,eq_self,zab (h:=T68),zad,zac,zaa,zah,zai T135,zak,za2,ziG,d5,TB,SB,Int.reduceToNat,Nat.reduceAdd,Nat.reduceEqDiff,Nat.reduceLT,Nat.reduceMod,Nat.reducePow,Nat.reduceSub,if_true,reduceIte]
 refine⟨by omega,by omega,by omega,?_⟩
 try simp -implicitDefEqProofs only [LM8,eq_self,zab (h:=T68),zad,zac,zaa,zah,zai T135,zak,za2,TB,SB,Int.reduceToNat,Nat.reduceAdd,Nat.reduceEqDiff,Nat.reduceLT,Nat.reduceMod,Nat.reducePow,Nat.reduceSub,if_true,reduceIte]
 obtain⟨a,ha⟩:∃ a,L.length=3+2 * a:=⟨(L.length - 3) / 2,by omega⟩
 generalize hn:IntKind.i64.wrap ((zaG (L.getD 1 [])).toNat:Int)=nn
 generalize hm:zaG (L.getD 2 [])=m
 rw [za9]
 refine⟨Nat × Nat,fun x=>x.1+x.2≤a∧x.1≤m.toNat∧(0 < x.2→x.1=m.toNat),fun x=>[str b,.bot,.ptr 0 0,i64 0,.sl (L.map str) L.length,.bot,.bot,u64 m,.ptr 1 0,i64 (3+2 * (x.1+x.2):Nat),.bot,.bot,.bot,.bot,.bot,.bot,.bot,.bot,.bot,.bot,.bot,.bot,.bot,.bot,.bot,.bot,.bot,.bot,.bot,.bot,.bot,.bot,.bot,.bot,.bot,.bot,.bot,.bot,.bot,.bot,.bot,.bot,.bot,.bot,.bot,.bot,.bot,.bot,.bot,.bot,.bot,.bot,.bot,.bot,.bot,.bot,.bot,.bot,.bot,.bot,.bot,.bot,.bot,.bot,.bot,.bot,.bot,.bot,.bot,.bot,.bot,.bot,.bot,.bot,.bot,.bot,.bot,.bot,.bot,.bot,.bot,.bot,.bot,.bot,.bot,.bot,.bot,.bot,.bot,.bot,.bot,.bot,.bot,.bot,.bot,.bot,.bot,.bot,.bot,.bot,.bot,.bot,.bot,.bot,.bot,.bot,.bot,.bot,.bot,.bot,.bot],fun x=>rz (L.drop 3) (L.getD 0 []) nn x.1 x.2,fun x=>a - (x.1+x.2),(0,0),⟨Nat.zero_le _,Nat.zero_le _,fun h=>absurd h (by decide)⟩,zal (q:=[0,1]) rfl rfl (by decide) ?_ ?_,?_⟩
 ·try simp only [FB,AV.ren,Nat.reduceAdd,reduceCtorEq]
  exact⟨by rw [zaf str zae];rfl,.inr rfl⟩
 ·simp [zao,Blk.ren,zbm,renL,zaH,zaj,zae,AV.ren,rz,List.drop_drop]
 rintro⟨p,q⟩ ⟨i1,i2,i3⟩
 dsimp only at i1 i2 i3 ⊢
 by_cases c0:p+q < a
 ·skip
  cases p with
  | zero =>
   cases q with
   | zero =>
    have d0:decide (((3+2 * (0):Nat):Int) < (L.length:Int))=true:=decide_eq_true (by omega)
    simp only [rz]
    try simp -implicitDefEqProofs only [LM8,eq_self,zab (h:=T68),zad,zac,zaa,zah,zai T135,zak,za2,d0,TB,SB,Int.reduceToNat,Nat.reduceAdd,Nat.reduceEqDiff,Nat.reduceLT,Nat.reduceMod,Nat.reducePow,Nat.reduceSub,if_true,reduceIte]
    refine zhc 10 11 10 78 78 (by kernel_rfl) (by kernel_rfl) (by kernel_rfl) (by exact Nat.le_of_ble_eq_true rfl) ?_
    try simp -implicitDefEqProofs only [LM8,eq_self,zab (h:=T68),zad,zac,zaa,zah,zai T135,zak,za2,TB,SB,Int.reduceToNat,Nat.reduceAdd,Nat.reduceEqDiff,Nat.reduceLT,Nat.reduceMod,Nat.reducePow,Nat.reduceSub,if_true,reduceIte]
    refine⟨by omega,by omega,by omega,by unfold inI;omega,by omega,by omega,by omega,?_⟩
    refine⟨rfl,rfl,rfl,?_⟩
    try simp -implicitDefEqProofs only [LM8,eq_self,zab (h:=T68),zad,zac,zaa,zah,zai T135,zak,za2,TB,SB,Int.reduceToNat,Nat.reduceAdd,Nat.reduceEqDiff,Nat.reduceLT,Nat.reduceMod,Nat.reducePow,Nat.reduceSub,if_true,reduceIte]
    refine⟨by unfold inI;omega,by decide,?_⟩
    rw [ziK,half_i (j:=0) (by omega)]
    have g0:L.getD (3+2 * (0)) []=(itAt (L.drop 3) (0)).label:=by simp only [itAt,zcK]
    have g1:L.getD (((3+2 * (0):Nat):Int)+1).toNat []=(itAt (L.drop 3) (0)).box:=by simp only [itAt,zcK,show (((3+2 * (0):Nat):Int)+1).toNat=3+(2 * (0)+1) by omega]
    by_cases c1:0 < m.toNat
    ·have d1:=decide_eq_true c1
     try simp -implicitDefEqProofs only [LM8,eq_self,zab (h:=T68),zad,zac,zaa,zah,zai T135,zak,za2,d1,TB,SB,Int.reduceToNat,Nat.reduceAdd,Nat.reduceEqDiff,Nat.reduceLT,Nat.reduceMod,Nat.reducePow,Nat.reduceSub,if_true,reduceIte]
     refine zgx (y:=itAt (L.drop 3) (0)) (show asrc _ 2 _=some ([itAt (L.drop 3) (0)].flatMap itC,1) from by rw [flat1,zbn,← g0,← g1];rfl) ?_
     rw [← itA_one]
     try simp -implicitDefEqProofs only [LM8,eq_self,zab (h:=T68),zad,zac,zaa,zah,zai T135,zak,za2,TB,SB,Int.reduceToNat,Nat.reduceAdd,Nat.reduceEqDiff,Nat.reduceLT,Nat.reduceMod,Nat.reducePow,Nat.reduceSub,if_true,reduceIte]
     refine⟨by unfold inI;omega,?_⟩
     rw [zan]
     refine⟨(1,0),⟨by omega,by omega,fun h=>absurd h (Nat.lt_irrefl 0)⟩,by (show a - (1+(0)) < a - (0+(0));omega),?_⟩
     refine zal (q:=[0,1,4]) rfl rfl (by decide) ?_ ?_
     ·skip
      try simp only [FB,AV.ren,Nat.reduceAdd,reduceCtorEq]
      exact⟨by rw [zaf str zae];rfl,.inr (by omega)⟩
     ·simp [zao,Blk.ren,zbm,renL,zaH,zaj,zae,AV.ren,rz,List.drop_drop]
    have d1:=decide_eq_false c1
    try simp -implicitDefEqProofs only [LM8,eq_self,zab (h:=T68),zad,zac,zaa,zah,zai T135,zak,za2,d1,TB,SB,Int.reduceToNat,Nat.reduceAdd,Nat.reduceEqDiff,Nat.reduceLT,Nat.reduceMod,Nat.reducePow,Nat.reduceSub,if_true,reduceIte]
    refine zgx (y:=itAt (L.drop 3) (0)) (show asrc _ 2 _=some ([itAt (L.drop 3) (0)].flatMap itC,1) from by rw [flat1,zbn,← g0,← g1];rfl) ?_
    rw [← itA_one]
    try simp -implicitDefEqProofs only [LM8,eq_self,zab (h:=T68),zad,zac,zaa,zah,zai T135,zak,za2,TB,SB,Int.reduceToNat,Nat.reduceAdd,Nat.reduceEqDiff,Nat.reduceLT,Nat.reduceMod,Nat.reducePow,Nat.reduceSub,if_true,reduceIte]
    refine⟨by unfold inI;omega,?_⟩
    rw [zan]
    refine⟨(0,1),⟨by omega,by omega,fun _=>by omega⟩,by (show a - (0+(1)) < a - (0+(0));omega),?_⟩
    refine zal (q:=[0,1,4]) rfl rfl (by decide) ?_ ?_
    ·skip
     try simp only [FB,AV.ren,Nat.reduceAdd,reduceCtorEq]
     exact⟨by rw [zaf str zae];rfl,.inr (by omega)⟩
    ·simp [zao,Blk.ren,zbm,renL,zaH,zaj,zae,AV.ren,rz,List.drop_drop]
   | succ q =>
    have d0:decide (((3+2 * (q+1):Nat):Int) < (L.length:Int))=true:=decide_eq_true (by omega)
    simp only [rz]
    try simp -implicitDefEqProofs only [LM8,eq_self,zab (h:=T68),zad,zac,zaa,zah,zai T135,zak,za2,d0,TB,SB,Int.reduceToNat,Nat.reduceAdd,Nat.reduceEqDiff,Nat.reduceLT,Nat.reduceMod,Nat.reducePow,Nat.reduceSub,if_true,reduceIte]
    refine zhc 10 11 10 78 78 (by kernel_rfl) (by kernel_rfl) (by kernel_rfl) (by exact Nat.le_of_ble_eq_true rfl) ?_
    try simp -implicitDefEqProofs only [LM8,eq_self,zab (h:=T68),zad,zac,zaa,zah,zai T135,zak,za2,TB,SB,Int.reduceToNat,Nat.reduceAdd,Nat.reduceEqDiff,Nat.reduceLT,Nat.reduceMod,Nat.reducePow,Nat.reduceSub,if_true,reduceIte]
    refine⟨by omega,by omega,by omega,by unfold inI;omega,by omega,by omega,by omega,?_⟩
    refine⟨rfl,rfl,rfl,?_⟩
    try simp -implicitDefEqProofs only [LM8,eq_self,zab (h:=T68),zad,zac,zaa,zah,zai T135,zak,za2,TB,SB,Int.reduceToNat,Nat.reduceAdd,Nat.reduceEqDiff,Nat.reduceLT,Nat.reduceMod,Nat.reducePow,Nat.reduceSub,if_true,reduceIte]
    refine⟨by unfold inI;omega,by decide,?_⟩
    rw [ziK,half_i (j:=q+1) (by omega)]
    have g0:L.getD (3+2 * (q+1)) []=(itAt (L.drop 3) (q+1)).label:=by simp only [itAt,zcK]
    have g1:L.getD (((3+2 * (q+1):Nat):Int)+1).toNat []=(itAt (L.drop 3) (q+1)).box:=by simp only [itAt,zcK,show (((3+2 * (q+1):Nat):Int)+1).toNat=3+(2 * (q+1)+1) by omega]
    by_cases c1:q+1 < m.toNat
    ·have d1:=decide_eq_true c1
     have:=i3 (by omega)
     omega
    have d1:=decide_eq_false c1
    try simp -implicitDefEqProofs only [LM8,eq_self,zab (h:=T68),zad,zac,zaa,zah,zai T135,zak,za2,d1,TB,SB,Int.reduceToNat,Nat.reduceAdd,Nat.reduceEqDiff,Nat.reduceLT,Nat.reduceMod,Nat.reducePow,Nat.reduceSub,if_true,reduceIte]
    refine zgy (l:=itA (L.drop 3) (q+1)) (y:=itAt (L.drop 3) (q+1)) rfl (by rw [zbe]) (show asrc _ 2 _=some ([itAt (L.drop 3) (q+1)].flatMap itC,1) from by rw [flat1,zbn,← g0,← g1];rfl) (by rw [zbe];omega) ?_
    rw [← zgL]
    try simp -implicitDefEqProofs only [LM8,eq_self,zab (h:=T68),zad,zac,zaa,zah,zai T135,zak,za2,TB,SB,Int.reduceToNat,Nat.reduceAdd,Nat.reduceEqDiff,Nat.reduceLT,Nat.reduceMod,Nat.reducePow,Nat.reduceSub,if_true,reduceIte]
    refine⟨by unfold inI;omega,?_⟩
    rw [zan]
    have i4:=i3 (by omega)
    refine⟨(0,q+1+1),⟨by omega,by omega,fun _=>by omega⟩,by (show a - (0+(q+1+1)) < a - (0+(q+1));omega),?_⟩
    refine zal (q:=[0,1,5]) rfl rfl (by decide) ?_ ?_
    ·skip
     try simp only [FB,AV.ren,Nat.reduceAdd,reduceCtorEq]
     exact⟨by rw [zaf str zae];rfl,.inr (by omega)⟩
    ·simp [zao,Blk.ren,zbm,renL,zaH,zaj,zae,AV.ren,rz,List.drop_drop]
  | succ p =>
   cases q with
   | zero =>
    have d0:decide (((3+2 * (p+1):Nat):Int) < (L.length:Int))=true:=decide_eq_true (by omega)
    simp only [rz]
    try simp -implicitDefEqProofs only [LM8,eq_self,zab (h:=T68),zad,zac,zaa,zah,zai T135,zak,za2,d0,TB,SB,Int.reduceToNat,Nat.reduceAdd,Nat.reduceEqDiff,Nat.reduceLT,Nat.reduceMod,Nat.reducePow,Nat.reduceSub,if_true,reduceIte]
    refine zhc 10 11 10 78 78 (by kernel_rfl) (by kernel_rfl) (by kernel_rfl) (by exact Nat.le_of_ble_eq_true rfl) ?_
    try simp -implicitDefEqProofs only [LM8,eq_self,zab (h:=T68),zad,zac,zaa,zah,zai T135,zak,za2,TB,SB,Int.reduceToNat,Nat.reduceAdd,Nat.reduceEqDiff,Nat.reduceLT,Nat.reduceMod,Nat.reducePow,Nat.reduceSub,if_true,reduceIte]
    refine⟨by omega,by omega,by omega,by unfold inI;omega,by omega,by omega,by omega,?_⟩
    refine⟨rfl,rfl,rfl,?_⟩
    try simp -implicitDefEqProofs only [LM8,eq_self,zab (h:=T68),zad,zac,zaa,zah,zai T135,zak,za2,TB,SB,Int.reduceToNat,Nat.reduceAdd,Nat.reduceEqDiff,Nat.reduceLT,Nat.reduceMod,Nat.reducePow,Nat.reduceSub,if_true,reduceIte]
    refine⟨by unfold inI;omega,by decide,?_⟩
    rw [ziK,half_i (j:=p+1) (by omega)]
    have g0:L.getD (3+2 * (p+1)) []=(itAt (L.drop 3) (p+1)).label:=by simp only [itAt,zcK]
    have g1:L.getD (((3+2 * (p+1):Nat):Int)+1).toNat []=(itAt (L.drop 3) (p+1)).box:=by simp only [itAt,zcK,show (((3+2 * (p+1):Nat):Int)+1).toNat=3+(2 * (p+1)+1) by omega]
    by_cases c1:p+1 < m.toNat
    ·have d1:=decide_eq_true c1
     try simp -implicitDefEqProofs only [LM8,eq_self,zab (h:=T68),zad,zac,zaa,zah,zai T135,zak,za2,d1,TB,SB,Int.reduceToNat,Nat.reduceAdd,Nat.reduceEqDiff,Nat.reduceLT,Nat.reduceMod,Nat.reducePow,Nat.reduceSub,if_true,reduceIte]
     refine zgy (l:=itA (L.drop 3) (p+1)) (y:=itAt (L.drop 3) (p+1)) rfl (by rw [zbe]) (show asrc _ 2 _=some ([itAt (L.drop 3) (p+1)].flatMap itC,1) from by rw [flat1,zbn,← g0,← g1];rfl) (by rw [zbe];omega) ?_
     rw [← zgL]
     try simp -implicitDefEqProofs only [LM8,eq_self,zab (h:=T68),zad,zac,zaa,zah,zai T135,zak,za2,TB,SB,Int.reduceToNat,Nat.reduceAdd,Nat.reduceEqDiff,Nat.reduceLT,Nat.reduceMod,Nat.reducePow,Nat.reduceSub,if_true,reduceIte]
     refine⟨by unfold inI;omega,?_⟩
     rw [zan]
     refine⟨(p+1+1,0),⟨by omega,by omega,fun h=>absurd h (Nat.lt_irrefl 0)⟩,by (show a - (p+1+1+(0)) < a - (p+1+(0));omega),?_⟩
     refine zal (q:=[0,1,5]) rfl rfl (by decide) ?_ ?_
     ·skip
      try simp only [FB,AV.ren,Nat.reduceAdd,reduceCtorEq]
      exact⟨by rw [zaf str zae];rfl,.inr (by omega)⟩
     ·simp [zao,Blk.ren,zbm,renL,zaH,zaj,zae,AV.ren,rz,List.drop_drop]
    have d1:=decide_eq_false c1
    try simp -implicitDefEqProofs only [LM8,eq_self,zab (h:=T68),zad,zac,zaa,zah,zai T135,zak,za2,d1,TB,SB,Int.reduceToNat,Nat.reduceAdd,Nat.reduceEqDiff,Nat.reduceLT,Nat.reduceMod,Nat.reducePow,Nat.reduceSub,if_true,reduceIte]
    refine zgx (y:=itAt ((L.drop 3).drop (2 * (p+1))) (0)) (show asrc _ 2 _=some ([itAt ((L.drop 3).drop (2 * (p+1))) (0)].flatMap itC,1) from by rw [flat1,zbn,itAt_drop,← g0,← g1];rfl) ?_
    rw [← itA_one]
    try simp -implicitDefEqProofs only [LM8,eq_self,zab (h:=T68),zad,zac,zaa,zah,zai T135,zak,za2,TB,SB,Int.reduceToNat,Nat.reduceAdd,Nat.reduceEqDiff,Nat.reduceLT,Nat.reduceMod,Nat.reducePow,Nat.reduceSub,if_true,reduceIte]
    refine⟨by unfold inI;omega,?_⟩
    rw [zan]
    refine⟨(p+1,1),⟨by omega,by omega,fun _=>by omega⟩,by (show a - (p+1+(1)) < a - (p+1+(0));omega),?_⟩
    refine zal (q:=[0,1,2,5]) rfl rfl (by decide) ?_ ?_
    ·skip
     try simp only [FB,AV.ren,Nat.reduceAdd,reduceCtorEq]
     exact⟨by rw [zaf str zae];rfl,.inr (by omega)⟩
    ·simp [zao,Blk.ren,zbm,renL,zaH,zaj,zae,AV.ren,rz,List.drop_drop]
   | succ q =>
    have d0:decide (((3+2 * (p+1+(q+1)):Nat):Int) < (L.length:Int))=true:=decide_eq_true (by omega)
    simp only [rz]
    try simp -implicitDefEqProofs only [LM8,eq_self,zab (h:=T68),zad,zac,zaa,zah,zai T135,zak,za2,d0,TB,SB,Int.reduceToNat,Nat.reduceAdd,Nat.reduceEqDiff,Nat.reduceLT,Nat.reduceMod,Nat.reducePow,Nat.reduceSub,if_true,reduceIte]
    refine zhc 10 11 10 78 78 (by kernel_rfl) (by kernel_rfl) (by kernel_rfl) (by exact Nat.le_of_ble_eq_true rfl) ?_
    try simp -implicitDefEqProofs only [LM8,eq_self,zab (h:=T68),zad,zac,zaa,zah,zai T135,zak,za2,TB,SB,Int.reduceToNat,Nat.reduceAdd,Nat.reduceEqDiff,Nat.reduceLT,Nat.reduceMod,Nat.reducePow,Nat.reduceSub,if_true,reduceIte]
    refine⟨by omega,by omega,by omega,by unfold inI;omega,by omega,by omega,by omega,?_⟩
    refine⟨rfl,rfl,rfl,?_⟩
    try simp -implicitDefEqProofs only [LM8,eq_self,zab (h:=T68),zad,zac,zaa,zah,zai T135,zak,za2,TB,SB,Int.reduceToNat,Nat.reduceAdd,Nat.reduceEqDiff,Nat.reduceLT,Nat.reduceMod,Nat.reducePow,Nat.reduceSub,if_true,reduceIte]
    refine⟨by unfold inI;omega,by decide,?_⟩
    rw [ziK,half_i (j:=p+1+(q+1)) (by omega)]
    have g0:L.getD (3+2 * (p+1+(q+1))) []=(itAt (L.drop 3) (p+1+(q+1))).label:=by simp only [itAt,zcK]
    have g1:L.getD (((3+2 * (p+1+(q+1)):Nat):Int)+1).toNat []=(itAt (L.drop 3) (p+1+(q+1))).box:=by simp only [itAt,zcK,show (((3+2 * (p+1+(q+1)):Nat):Int)+1).toNat=3+(2 * (p+1+(q+1))+1) by omega]
    by_cases c1:p+1+(q+1) < m.toNat
    ·have d1:=decide_eq_true c1
     have:=i3 (by omega)
     omega
    have d1:=decide_eq_false c1
    try simp -implicitDefEqProofs only [LM8,eq_self,zab (h:=T68),zad,zac,zaa,zah,zai T135,zak,za2,d1,TB,SB,Int.reduceToNat,Nat.reduceAdd,Nat.reduceEqDiff,Nat.reduceLT,Nat.reduceMod,Nat.reducePow,Nat.reduceSub,if_true,reduceIte]
    refine zgy (l:=itA ((L.drop 3).drop (2 * (p+1))) (q+1)) (y:=itAt ((L.drop 3).drop (2 * (p+1))) (q+1)) rfl (by rw [zbe]) (show asrc _ 2 _=some ([itAt ((L.drop 3).drop (2 * (p+1))) (q+1)].flatMap itC,1) from by rw [flat1,zbn,itAt_drop,← g0,← g1];rfl) (by rw [zbe];omega) ?_
    rw [← zgL]
    try simp -implicitDefEqProofs only [LM8,eq_self,zab (h:=T68),zad,zac,zaa,zah,zai T135,zak,za2,TB,SB,Int.reduceToNat,Nat.reduceAdd,Nat.reduceEqDiff,Nat.reduceLT,Nat.reduceMod,Nat.reducePow,Nat.reduceSub,if_true,reduceIte]
    refine⟨by unfold inI;omega,?_⟩
    rw [zan]
    have i4:=i3 (by omega)
    refine⟨(p+1,q+1+1),⟨by omega,by omega,fun _=>by omega⟩,by (show a - (p+1+(q+1+1)) < a - (p+1+(q+1));omega),?_⟩
    refine zal (q:=[0,1,2,6]) rfl rfl (by decide) ?_ ?_
    ·skip
     try simp only [FB,AV.ren,Nat.reduceAdd,reduceCtorEq]
     exact⟨by rw [zaf str zae];rfl,.inr (by omega)⟩
    ·simp [zao,Blk.ren,zbm,renL,zaH,zaj,zae,AV.ren,rz,List.drop_drop]
 have hok:okR L=true:=by
  simp only [okR,Bool.and_eq_true,decide_eq_true_eq]
  exact⟨by omega,by omega,by omega,by omega,by omega⟩
 obtain rfl:a=p+q:=by omega
 cases p with
 | zero =>
  cases q with
  | zero =>
   have d0:decide (((3+2 * (0):Nat):Int) < (L.length:Int))=false:=decide_eq_false (by omega)
   simp only [rz]
   try simp -implicitDefEqProofs only [LM8,eq_self,zab (h:=T68),zad,zac,zaa,zah,zai T135,zak,za2,d0,TB,SB,Int.reduceToNat,Nat.reduceAdd,Nat.reduceEqDiff,Nat.reduceLT,Nat.reduceMod,Nat.reducePow,Nat.reduceSub,if_true,reduceIte]
   have hS:rrS L=⟨[],[],L.getD 0 [],nn⟩:=by
    rw [rrS,hm,hn,show (L.length - 3) / 2=0 by omega]
    rw [List.take_of_length_le (l:=itA (L.drop 3) (0)) (by rw [zbe];omega),(List.drop_eq_nil_of_le (by rw [zbe];omega):(itA (L.drop 3) (0)).drop m.toNat=[])];rfl
   rw [if_neg (by rw [hok];decide),hS] at hX
   refine ACalls.frz [] (l':=[svA ⟨[],[],L.getD 0 [],nn⟩]) ⟨_,_,rfl,⟨_,rfl,_,_,rfl,zdg,_,_,rfl,zdg,_,_,rfl,.inl rfl,_,_,rfl,.inl rfl,rfl⟩,rfl⟩ ?_
   refine(ze5 _ (by simp only [zbe,List.length_nil];omega) (by simp only [zbe,List.length_nil];omega)).pure (by simp only [renL,zcn];rfl) ?_
   rintro _ σ rfl
   refine⟨zbY _ _ _,?_⟩
   rw [show zch [.rw [.lit (.slice none 0 0),.lit (.slice none 0 0),str [],i64 0],.rw [.lit (.slice none 0 0),.lit (.slice none 0 0),str (L.getD 0 []),i64 nn]] []=[.rw [.lit (.slice none 0 0),.lit (.slice none 0 0),str [],i64 0],.rw [.lit (.slice none 0 0),.lit (.slice none 0 0),str (L.getD 0 []),i64 nn]] from rfl]
   generalize zbR ⟨[],[],L.getD 0 [],nn⟩=z at hX ⊢
   obtain⟨c,f⟩:=z
   dsimp only at hX ⊢
   by_cases f0:f=0
   rotate_left
   ·rw [if_pos f0] at hX
    have e0:=decide_eq_false f0
    try simp -implicitDefEqProofs only [LM8,eq_self,zab (h:=T68),zad,zac,zaa,zah,zai T135,zak,za2,e0,TB,SB,Int.reduceToNat,Nat.reduceAdd,Nat.reduceEqDiff,Nat.reduceLT,Nat.reduceMod,Nat.reducePow,Nat.reduceSub,if_true,reduceIte]
    skip
    exact zdU (by rw [hX])
   subst f0
   rw [if_neg (by decide)] at hX
   have dz:decide ((0:Int)=0)=true:=rfl
   by_cases cb:c=b
   rotate_left
   ·rw [if_pos cb] at hX
    have e0:=decide_eq_false cb
    try simp -implicitDefEqProofs only [LM8,eq_self,zab (h:=T68),zad,zac,zaa,zah,zai T135,zak,za2,dz,e0,TB,SB,Int.reduceToNat,Nat.reduceAdd,Nat.reduceEqDiff,Nat.reduceLT,Nat.reduceMod,Nat.reducePow,Nat.reduceSub,if_true,reduceIte]
    exact zdU (by rw [hX])
   rw [if_neg (zgN cb)] at hX
   have e0:=decide_eq_true cb
   try simp -implicitDefEqProofs only [LM8,eq_self,zab (h:=T68),zad,zac,zaa,zah,zai T135,zak,za2,dz,e0,TB,SB,Int.reduceToNat,Nat.reduceAdd,Nat.reduceEqDiff,Nat.reduceLT,Nat.reduceMod,Nat.reducePow,Nat.reduceSub,if_true,reduceIte]
   skip
   exact endZE (B:=[]) (C:=[]) [] zdg zdg (by rw [hX])
  | succ q =>
   have i4:=i3 (by omega)
   have d0:decide (((3+2 * (q+1):Nat):Int) < (L.length:Int))=false:=decide_eq_false (by omega)
   simp only [rz]
   try simp -implicitDefEqProofs only [LM8,eq_self,zab (h:=T68),zad,zac,zaa,zah,zai T135,zak,za2,d0,TB,SB,Int.reduceToNat,Nat.reduceAdd,Nat.reduceEqDiff,Nat.reduceLT,Nat.reduceMod,Nat.reducePow,Nat.reduceSub,if_true,reduceIte]
   have hS:rrS L=⟨[],(itA (L.drop 3) (q+1)),L.getD 0 [],nn⟩:=by
    rw [rrS,hm,hn,show (L.length - 3) / 2=q+1 by omega]
    rw [show m.toNat=0 by omega];rfl
   rw [if_neg (by rw [hok];decide),hS] at hX
   refine ACalls.frz [2] (l':=[svA ⟨[],(itA (L.drop 3) (q+1)),L.getD 0 [],nn⟩]) ⟨_,_,rfl,⟨_,rfl,_,_,rfl,zdg,_,_,rfl,(itF.frz (l:=(itA (L.drop 3) (q+1))) rfl (by rw [zbe])),_,_,rfl,.inl rfl,_,_,rfl,.inl rfl,rfl⟩,rfl⟩ ?_
   refine(ze5 _ (by simp only [zbe,List.length_nil];omega) (by simp only [zbe,List.length_nil];omega)).pure (by simp only [renL,zcn];rfl) ?_
   rintro _ σ rfl
   refine⟨zbY _ _ _,?_⟩
   rw [show zch [.rw [.lit (.slice none 0 0),.lit (.slice none 0 0),str [],i64 0],.rw [.lit (.slice none 0 0),.ref 2 0 (q+1) 2,str (L.getD 0 []),i64 nn],.rw ((itA (L.drop 3) (q+1)).flatMap itC)] [2]=[.rw [.lit (.slice none 0 0),.lit (.slice none 0 0),str [],i64 0],.rw [.lit (.slice none 0 0),.ref 2 0 (q+1) 2,str (L.getD 0 []),i64 nn],.ro ((itA (L.drop 3) (q+1)).flatMap itC)] from rfl]
   generalize zbR ⟨[],(itA (L.drop 3) (q+1)),L.getD 0 [],nn⟩=z at hX ⊢
   obtain⟨c,f⟩:=z
   dsimp only at hX ⊢
   by_cases f0:f=0
   rotate_left
   ·rw [if_pos f0] at hX
    have e0:=decide_eq_false f0
    try simp -implicitDefEqProofs only [LM8,eq_self,zab (h:=T68),zad,zac,zaa,zah,zai T135,zak,za2,e0,TB,SB,Int.reduceToNat,Nat.reduceAdd,Nat.reduceEqDiff,Nat.reduceLT,Nat.reduceMod,Nat.reducePow,Nat.reduceSub,if_true,reduceIte]
    skip
    exact zdU (by rw [hX])
   subst f0
   rw [if_neg (by decide)] at hX
   have dz:decide ((0:Int)=0)=true:=rfl
   by_cases cb:c=b
   rotate_left
   ·rw [if_pos cb] at hX
    have e0:=decide_eq_false cb
    try simp -implicitDefEqProofs only [LM8,eq_self,zab (h:=T68),zad,zac,zaa,zah,zai T135,zak,za2,dz,e0,TB,SB,Int.reduceToNat,Nat.reduceAdd,Nat.reduceEqDiff,Nat.reduceLT,Nat.reduceMod,Nat.reducePow,Nat.reduceSub,if_true,reduceIte]
    exact zdU (by rw [hX])
   rw [if_neg (zgN cb)] at hX
   have e0:=decide_eq_true cb
   try simp -implicitDefEqProofs only [LM8,eq_self,zab (h:=T68),zad,zac,zaa,zah,zai T135,zak,za2,dz,e0,TB,SB,Int.reduceToNat,Nat.reduceAdd,Nat.reduceEqDiff,Nat.reduceLT,Nat.reduceMod,Nat.reducePow,Nat.reduceSub,if_true,reduceIte]
   skip
   exact endZE (B:=[]) (C:=(itA (L.drop 3) (q+1))) [] zdg (itF.frz (l:=(itA (L.drop 3) (q+1))) rfl (by rw [zbe])) (by rw [hX])
 | succ p =>
  cases q with
  | zero =>
   have d0:decide (((3+2 * (p+1):Nat):Int) < (L.length:Int))=false:=decide_eq_false (by omega)
   simp only [rz]
   try simp -implicitDefEqProofs only [LM8,eq_self,zab (h:=T68),zad,zac,zaa,zah,zai T135,zak,za2,d0,TB,SB,Int.reduceToNat,Nat.reduceAdd,Nat.reduceEqDiff,Nat.reduceLT,Nat.reduceMod,Nat.reducePow,Nat.reduceSub,if_true,reduceIte]
   have hS:rrS L=⟨(itA (L.drop 3) (p+1)),[],L.getD 0 [],nn⟩:=by
    rw [rrS,hm,hn,show (L.length - 3) / 2=p+1 by omega]
    rw [List.take_of_length_le (l:=itA (L.drop 3) (p+1)) (by rw [zbe];omega),(List.drop_eq_nil_of_le (by rw [zbe];omega):(itA (L.drop 3) (p+1)).drop m.toNat=[])]
   rw [if_neg (by rw [hok];decide),hS] at hX
   refine ACalls.frz [2] (l':=[svA ⟨(itA (L.drop 3) (p+1)),[],L.getD 0 [],nn⟩]) ⟨_,_,rfl,⟨_,rfl,_,_,rfl,(itF.frz (l:=(itA (L.drop 3) (p+1))) rfl (by rw [zbe])),_,_,rfl,zdg,_,_,rfl,.inl rfl,_,_,rfl,.inl rfl,rfl⟩,rfl⟩ ?_
   refine(ze5 _ (by simp only [zbe,List.length_nil];omega) (by simp only [zbe,List.length_nil];omega)).pure (by simp only [renL,zcn];rfl) ?_
   rintro _ σ rfl
   refine⟨zbY _ _ _,?_⟩
   rw [show zch [.rw [.lit (.slice none 0 0),.lit (.slice none 0 0),str [],i64 0],.rw [.ref 2 0 (p+1) 2,.lit (.slice none 0 0),str (L.getD 0 []),i64 nn],.rw ((itA (L.drop 3) (p+1)).flatMap itC)] [2]=[.rw [.lit (.slice none 0 0),.lit (.slice none 0 0),str [],i64 0],.rw [.ref 2 0 (p+1) 2,.lit (.slice none 0 0),str (L.getD 0 []),i64 nn],.ro ((itA (L.drop 3) (p+1)).flatMap itC)] from rfl]
   generalize zbR ⟨(itA (L.drop 3) (p+1)),[],L.getD 0 [],nn⟩=z at hX ⊢
   obtain⟨c,f⟩:=z
   dsimp only at hX ⊢
   by_cases f0:f=0
   rotate_left
   ·rw [if_pos f0] at hX
    have e0:=decide_eq_false f0
    try simp -implicitDefEqProofs only [LM8,eq_self,zab (h:=T68),zad,zac,zaa,zah,zai T135,zak,za2,e0,TB,SB,Int.reduceToNat,Nat.reduceAdd,Nat.reduceEqDiff,Nat.reduceLT,Nat.reduceMod,Nat.reducePow,Nat.reduceSub,if_true,reduceIte]
    skip
    exact zdU (by rw [hX])
   subst f0
   rw [if_neg (by decide)] at hX
   have dz:decide ((0:Int)=0)=true:=rfl
   by_cases cb:c=b
   rotate_left
   ·rw [if_pos cb] at hX
    have e0:=decide_eq_false cb
    try simp -implicitDefEqProofs only [LM8,eq_self,zab (h:=T68),zad,zac,zaa,zah,zai T135,zak,za2,dz,e0,TB,SB,Int.reduceToNat,Nat.reduceAdd,Nat.reduceEqDiff,Nat.reduceLT,Nat.reduceMod,Nat.reducePow,Nat.reduceSub,if_true,reduceIte]
    exact zdU (by rw [hX])
   rw [if_neg (zgN cb)] at hX
   have e0:=decide_eq_true cb
   try simp -implicitDefEqProofs only [LM8,eq_self,zab (h:=T68),zad,zac,zaa,zah,zai T135,zak,za2,dz,e0,TB,SB,Int.reduceToNat,Nat.reduceAdd,Nat.reduceEqDiff,Nat.reduceLT,Nat.reduceMod,Nat.reducePow,Nat.reduceSub,if_true,reduceIte]
   skip
   exact endZE (B:=(itA (L.drop 3) (p+1))) (C:=[]) [] (itF.frz (l:=(itA (L.drop 3) (p+1))) rfl (by rw [zbe])) zdg (by rw [hX])
  | succ q =>
   have i4:=i3 (by omega)
   have d0:decide (((3+2 * (p+1+(q+1)):Nat):Int) < (L.length:Int))=false:=decide_eq_false (by omega)
   simp only [rz]
   try simp -implicitDefEqProofs only [LM8,eq_self,zab (h:=T68),zad,zac,zaa,zah,zai T135,zak,za2,d0,TB,SB,Int.reduceToNat,Nat.reduceAdd,Nat.reduceEqDiff,Nat.reduceLT,Nat.reduceMod,Nat.reducePow,Nat.reduceSub,if_true,reduceIte]
   have hS:rrS L=⟨(itA (L.drop 3) (p+1)),(itA ((L.drop 3).drop (2 * (p+1))) (q+1)),L.getD 0 [],nn⟩:=by
    rw [rrS,hm,hn,show (L.length - 3) / 2=p+1+(q+1) by omega]
    rw [show m.toNat=p+1 by omega,itA_take _ (by omega),itA_drop _ (by omega),show p+1+(q+1) - (p+1)=q+1 by omega]
   rw [if_neg (by rw [hok];decide),hS] at hX
   refine ACalls.frz [2,3] (l':=[svA ⟨(itA (L.drop 3) (p+1)),(itA ((L.drop 3).drop (2 * (p+1))) (q+1)),L.getD 0 [],nn⟩]) ⟨_,_,rfl,⟨_,rfl,_,_,rfl,(itF.frz (l:=(itA (L.drop 3) (p+1))) rfl (by rw [zbe])),_,_,rfl,(itF.frz (l:=(itA ((L.drop 3).drop (2 * (p+1))) (q+1))) rfl (by rw [zbe])),_,_,rfl,.inl rfl,_,_,rfl,.inl rfl,rfl⟩,rfl⟩ ?_
   refine(ze5 _ (by simp only [zbe,List.length_nil];omega) (by simp only [zbe,List.length_nil];omega)).pure (by simp only [renL,zcn];rfl) ?_
   rintro _ σ rfl
   refine⟨zbY _ _ _,?_⟩
   rw [show zch [.rw [.lit (.slice none 0 0),.lit (.slice none 0 0),str [],i64 0],.rw [.ref 2 0 (p+1) 2,.ref 3 0 (q+1) 2,str (L.getD 0 []),i64 nn],.rw ((itA (L.drop 3) (p+1)).flatMap itC),.rw ((itA ((L.drop 3).drop (2 * (p+1))) (q+1)).flatMap itC)] [2,3]=[.rw [.lit (.slice none 0 0),.lit (.slice none 0 0),str [],i64 0],.rw [.ref 2 0 (p+1) 2,.ref 3 0 (q+1) 2,str (L.getD 0 []),i64 nn],.ro ((itA (L.drop 3) (p+1)).flatMap itC),.ro ((itA ((L.drop 3).drop (2 * (p+1))) (q+1)).flatMap itC)] from rfl]
   generalize zbR ⟨(itA (L.drop 3) (p+1)),(itA ((L.drop 3).drop (2 * (p+1))) (q+1)),L.getD 0 [],nn⟩=z at hX ⊢
   obtain⟨c,f⟩:=z
   dsimp only at hX ⊢
   by_cases f0:f=0
   rotate_left
   ·rw [if_pos f0] at hX
    have e0:=decide_eq_false f0
    try simp -implicitDefEqProofs only [LM8,eq_self,zab (h:=T68),zad,zac,zaa,zah,zai T135,zak,za2,e0,TB,SB,Int.reduceToNat,Nat.reduceAdd,Nat.reduceEqDiff,Nat.reduceLT,Nat.reduceMod,Nat.reducePow,Nat.reduceSub,if_true,reduceIte]
    skip
    exact zdU (by rw [hX])
   subst f0
   rw [if_neg (by decide)] at hX
   have dz:decide ((0:Int)=0)=true:=rfl
   by_cases cb:c=b
   rotate_left
   ·rw [if_pos cb] at hX
    have e0:=decide_eq_false cb
    try simp -implicitDefEqProofs only [LM8,eq_self,zab (h:=T68),zad,zac,zaa,zah,zai T135,zak,za2,dz,e0,TB,SB,Int.reduceToNat,Nat.reduceAdd,Nat.reduceEqDiff,Nat.reduceLT,Nat.reduceMod,Nat.reducePow,Nat.reduceSub,if_true,reduceIte]
    exact zdU (by rw [hX])
   rw [if_neg (zgN cb)] at hX
   have e0:=decide_eq_true cb
   try simp -implicitDefEqProofs only [LM8,eq_self,zab (h:=T68),zad,zac,zaa,zah,zai T135,zak,za2,dz,e0,TB,SB,Int.reduceToNat,Nat.reduceAdd,Nat.reduceEqDiff,Nat.reduceLT,Nat.reduceMod,Nat.reducePow,Nat.reduceSub,if_true,reduceIte]
   skip
   exact endZE (B:=(itA (L.drop 3) (p+1))) (C:=(itA ((L.drop 3).drop (2 * (p+1))) (q+1))) [] (itF.frz (l:=(itA (L.drop 3) (p+1))) rfl (by rw [zbe])) (itF.frz (l:=(itA ((L.drop 3).drop (2 * (p+1))) (q+1))) rfl (by rw [zbe])) (by rw [hX])
end Go.Proofs.YtdmiflfhaobngaaGreatDoor
end

section
namespace Go.Proofs.YtdmiflfhaobngaaGreatDoor
open Go Go.Eng
theorem getV_len (b:List UInt8):(getV b).1.length≤1000000:=by
 by_cases h:(getV b).2=0
 ·have h2:=getV_back h
  cases hb:zbf (getV b).1 with
  | true=>have:=(zfk hb).2.1;have:=(zfk hb).1;omega
  | false =>
   rw [putV,if_neg (by rw [hb];decide)] at h2
   exact absurd (show (1:Int)=0 from congrArg Prod.snd h2) (by decide)
 ·rw [getV_bad h];simp
theorem readS_len (b:List UInt8):(zdf b).1.blobs.length≤1000000∧(zdf b).1.cells.length≤1000000:=by
 by_cases h:(zdf b).2=0
 ·have h2:=zh9 h
  cases hc:chkS (zdf b).1 with
  | true =>
   obtain⟨⟨-,l1⟩,⟨-,l2⟩,-⟩:=ze3 hc
   omega
  | false =>
   rw [zbR,if_neg (by rw [hc];decide)] at h2
   exact absurd (show (1:Int)=0 from congrArg Prod.snd h2) (by decide)
 ·rw [readS_bad h];simp [s0]
theorem sw_Zss {σ:zag} {KS:AV→zag→Prop} {id:Nat} (p q r s:AV) (x y:List AV) (n m:Nat) (b:List UInt8) (a:Int):st2 (some tyS9) (some (.rw [p,q,r,s])) id 0 (.agg [.sl x n,.sl y m,str b,i64 a]) σ KS=KS (.lit undef) (σ.set id (.rw [.sl x n,.sl y m,str b,i64 a])):=szW rfl rfl rfl id
set_option maxRecDepth 20000 in
set_option maxHeartbeats 3200000 in
theorem VaultBytes_ok (s:Sv) (l:List Vo) (b:List UInt8) (h1:s.blobs.length≤9223372036854775807∧s.cells.length≤9223372036854775807) (h2:l.length≤9223372036854775807):ACalls Tryz.prog 4 [svA s,slV l,str b] [] (fun y _=>y=.ret (bl true)):=by
 have hw:=works18_ok
 have hfs:=fewS_ok s h1.1 h1.2
 have hfv:=fewV_ok l h2
 have hpu:=vput_ok l
 have hrp:=rputV_ok l
 have hby:=vbytes_ok s h1.1 h1.2
 have hrb:=ze5 s h1.1 h1.2
 have hof:=ofS_ok s
 simp only [zbZ,zbl,zgC] at hfs hby hrb hof ⊢
 refine ACalls.body T_ok Tryz.func4 (by kernel_rfl) rfl Tryz.ntmps4 (congrArg Array.toList Tryz.results4) ?_
 try simp -implicitDefEqProofs only [LM8,eq_self,zab (h:=T68),zad,zac,zaa,zah,zai T135,zak,za2,TB,SB,Int.reduceToNat,Nat.reduceAdd,Nat.reduceEqDiff,Nat.reduceLT,Nat.reduceMod,Nat.reducePow,Nat.reduceSub,if_true,reduceIte]
 refine hw.pure rfl ?_
 rintro _ σ rfl
 refine⟨zax _ _,?_⟩
 try simp -implicitDefEqProofs only [LM8,eq_self,zab (h:=T68),zad,zac,zaa,zah,zai T135,zak,za2,TB,SB,Int.reduceToNat,Nat.reduceAdd,Nat.reduceEqDiff,Nat.reduceLT,Nat.reduceMod,Nat.reducePow,Nat.reduceSub,if_true,reduceIte]
 refine hfs.pure (ze4 s _) ?_
 rintro _ σ ⟨fs,rfl,fS⟩
 refine⟨zax _ _,?_⟩
 cases fs with
 | false =>
  try simp -implicitDefEqProofs only [LM8,eq_self,zab (h:=T68),zad,zac,zaa,zah,zai T135,zak,za2,TB,SB,Int.reduceToNat,Nat.reduceAdd,Nat.reduceEqDiff,Nat.reduceLT,Nat.reduceMod,Nat.reducePow,Nat.reduceSub,if_true,reduceIte]
  exact zaI rfl
 | true =>
 try simp -implicitDefEqProofs only [LM8,eq_self,zab (h:=T68),zad,zac,zaa,zah,zai T135,zak,za2,TB,SB,Int.reduceToNat,Nat.reduceAdd,Nat.reduceEqDiff,Nat.reduceLT,Nat.reduceMod,Nat.reducePow,Nat.reduceSub,if_true,reduceIte]
 refine hfv.pure (zgw l _) ?_
 rintro _ σ ⟨fo,rfl,fV⟩
 refine⟨zax _ _,?_⟩
 cases fo with
 | false =>
  try simp -implicitDefEqProofs only [LM8,eq_self,zab (h:=T68),zad,zac,zaa,zah,zai T135,zak,za2,TB,SB,Int.reduceToNat,Nat.reduceAdd,Nat.reduceEqDiff,Nat.reduceLT,Nat.reduceMod,Nat.reducePow,Nat.reduceSub,if_true,reduceIte]
  exact zaI rfl
 | true =>
 have fS:=fS rfl
 have fV:=fV rfl
 by_cases hbl:3000 < (b.length:Int)
 ·have dl:=decide_eq_true hbl
  try simp -implicitDefEqProofs only [LM8,eq_self,zab (h:=T68),zad,zac,zaa,zah,zai T135,zak,za2,dl,TB,SB,Int.reduceToNat,Nat.reduceAdd,Nat.reduceEqDiff,Nat.reduceLT,Nat.reduceMod,Nat.reducePow,Nat.reduceSub,if_true,reduceIte]
  exact zaI rfl
 have dl:=decide_eq_false hbl
 try simp -implicitDefEqProofs only [LM8,eq_self,zab (h:=T68),zad,zac,zaa,zah,zai T135,zak,za2,dl,TB,SB,Int.reduceToNat,Nat.reduceAdd,Nat.reduceEqDiff,Nat.reduceLT,Nat.reduceMod,Nat.reducePow,Nat.reduceSub,if_true,reduceIte]
 refine hpu.pure (zgw l _) ?_
 rintro _ σ rfl
 refine⟨zbY _ _ _,?_⟩
 try simp -implicitDefEqProofs only [LM8,eq_self,zab (h:=T68),zad,zac,zaa,zah,zai T135,zak,za2,TB,SB,Int.reduceToNat,Nat.reduceAdd,Nat.reduceEqDiff,Nat.reduceLT,Nat.reduceMod,Nat.reducePow,Nat.reduceSub,if_true,reduceIte]
 refine(rops_ok l (by have:=fV.1;omega)).pure (zgw l _) ?_
 rintro _ σ rfl
 refine⟨zd0 _ _,?_⟩
 try simp only [zgC]
 try simp -implicitDefEqProofs only [LM8,eq_self,zab (h:=T68),zad,zac,zaa,zah,zai T135,zak,za2,TB,SB,Int.reduceToNat,Nat.reduceAdd,Nat.reduceEqDiff,Nat.reduceLT,Nat.reduceMod,Nat.reducePow,Nat.reduceSub,if_true,reduceIte]
 refine hrp.pure (zgw l _) ?_
 rintro _ σ rfl
 refine⟨zbY _ _ _,?_⟩
 generalize putV l=P
 try simp -implicitDefEqProofs only [LM8,eq_self,zab (h:=T68),zad,zac,zaa,zah,zai T135,zak,za2,TB,SB,Int.reduceToNat,Nat.reduceAdd,Nat.reduceEqDiff,Nat.reduceLT,Nat.reduceMod,Nat.reducePow,Nat.reduceSub,if_true,reduceIte]
 refine(vget_ok b (by omega)).pure (by simp [renL,zae]) ?_
 rintro _ σ rfl
 refine⟨zgt _ _ _,?_⟩
 try simp only [zgC]
 try simp -implicitDefEqProofs only [LM8,eq_self,zab (h:=T68),zad,zac,zaa,zah,zai T135,zak,za2,TB,SB,Int.reduceToNat,Nat.reduceAdd,Nat.reduceEqDiff,Nat.reduceLT,Nat.reduceMod,Nat.reducePow,Nat.reduceSub,if_true,reduceIte]
 refine(rgetV_ok b (by omega)).pure (by simp [renL,zae]) ?_
 rintro _ σ rfl
 refine⟨zgt _ _ _,?_⟩
 rw [rgetV_eq]
 have hX:=getV_len b
 generalize getV b=X at hX ⊢
 try simp only [zgC]
 try simp -implicitDefEqProofs only [LM8,eq_self,zab (h:=T68),zad,zac,zaa,zah,zai T135,zak,za2,TB,SB,Int.reduceToNat,Nat.reduceAdd,Nat.reduceEqDiff,Nat.reduceLT,Nat.reduceMod,Nat.reducePow,Nat.reduceSub,if_true,reduceIte]
 refine hby.pure (ze4 s _) ?_
 rintro _ σ rfl
 refine⟨zbY _ _ _,?_⟩
 try simp -implicitDefEqProofs only [LM8,eq_self,zab (h:=T68),zad,zac,zaa,zah,zai T135,zak,za2,TB,SB,Int.reduceToNat,Nat.reduceAdd,Nat.reduceEqDiff,Nat.reduceLT,Nat.reduceMod,Nat.reducePow,Nat.reduceSub,if_true,reduceIte]
 refine(hof (by have:=fS.1.1;omega) (by have:=fS.2.1.1;omega)).pure (ze4 s _) ?_
 rintro _ σ rfl
 refine⟨zcn _ _,?_⟩
 try simp only [zbZ,zbl]
 try simp -implicitDefEqProofs only [LM8,eq_self,zab (h:=T68),zad,zac,zaa,zah,zai T135,zak,za2,TB,SB,Int.reduceToNat,Nat.reduceAdd,Nat.reduceEqDiff,Nat.reduceLT,Nat.reduceMod,Nat.reducePow,Nat.reduceSub,if_true,reduceIte]
 refine hrb.pure (ze4 s _) ?_
 rintro _ σ rfl
 refine⟨zbY _ _ _,?_⟩
 generalize zbR s=B
 try simp -implicitDefEqProofs only [LM8,eq_self,zab (h:=T68),zad,zac,zaa,zah,zai T135,zak,za2,TB,SB,Int.reduceToNat,Nat.reduceAdd,Nat.reduceEqDiff,Nat.reduceLT,Nat.reduceMod,Nat.reducePow,Nat.reduceSub,if_true,reduceIte]
 refine(vread_ok b (by omega)).pure (by simp [renL,zae]) ?_
 rintro _ σ rfl
 refine⟨zfn _ _ _,?_⟩
 try simp only [zbZ,zbl]
 try simp -implicitDefEqProofs only [LM8,eq_self,zab (h:=T68),zad,zac,zaa,zah,zai T135,zak,za2,TB,SB,Int.reduceToNat,Nat.reduceAdd,Nat.reduceEqDiff,Nat.reduceLT,Nat.reduceMod,Nat.reducePow,Nat.reduceSub,if_true,reduceIte]
 refine(rread_ok b (by omega)).pure (by simp [renL,zae]) ?_
 rintro _ σ rfl
 refine⟨zfn _ _ _,?_⟩
 rw [rreadS_eq]
 have hY:=readS_len b
 generalize zdf b=Y at hY ⊢
 try simp only [zbZ,zbl]
 try simp -implicitDefEqProofs only [LM8,eq_self,zab (h:=T68),zad,zac,zaa,zah,zai T135,zak,za2,sw_Zss,TB,SB,Int.reduceToNat,Nat.reduceAdd,Nat.reduceEqDiff,Nat.reduceLT,Nat.reduceMod,Nat.reducePow,Nat.reduceSub,if_true,reduceIte]
 refine(rops_ok X.1 hX).pure (zgw X.1 _) ?_
 rintro _ σ rfl
 refine⟨zd0 _ _,?_⟩
 try simp only [zgC]
 try simp -implicitDefEqProofs only [LM8,eq_self,zab (h:=T68),zad,zac,zaa,zah,zai T135,zak,za2,TB,SB,Int.reduceToNat,Nat.reduceAdd,Nat.reduceEqDiff,Nat.reduceLT,Nat.reduceMod,Nat.reducePow,Nat.reduceSub,if_true,reduceIte]
 refine(rsameV_ok X.1 X.1 (by omega)).pure (by simp [renL,zci,AV.ren]) ?_
 rintro _ σ rfl
 refine⟨zax _ _,?_⟩
 rw [decide_eq_true (rfl:X.1=X.1)]
 try simp -implicitDefEqProofs only [LM8,eq_self,zab (h:=T68),zad,zac,zaa,zah,zai T135,zak,za2,TB,SB,Int.reduceToNat,Nat.reduceAdd,Nat.reduceEqDiff,Nat.reduceLT,Nat.reduceMod,Nat.reducePow,Nat.reduceSub,if_true,reduceIte]
 have hof2:=ofS_ok Y.1 hY.1 hY.2
 have hsm:=rsameS_ok Y.1 Y.1 (by omega) (by omega)
 simp only [zbZ,zbl] at hof2 hsm
 refine zcb (by kernel_rfl) (by kernel_rfl) ?_
 try simp -implicitDefEqProofs only [LM8,eq_self,zab (h:=T68),zad,zac,zaa,zah,zai T135,zak,za2,TB,SB,Int.reduceToNat,Nat.reduceAdd,Nat.reduceEqDiff,Nat.reduceLT,Nat.reduceMod,Nat.reducePow,Nat.reduceSub,if_true,reduceIte]
 refine zbt hof2 (ze4 Y.1 _) (zcn _ Y.1) ?_
 try simp -implicitDefEqProofs only [LM8,eq_self,zab (h:=T68),zad,zac,zaa,zah,zai T135,zak,za2,TB,SB,Int.reduceToNat,Nat.reduceAdd,Nat.reduceEqDiff,Nat.reduceLT,Nat.reduceMod,Nat.reducePow,Nat.reduceSub,if_true,reduceIte]
 refine zbt hsm (noid_aa Y.1 Y.1 _) (zax _ _) ?_
 skip
 try simp -implicitDefEqProofs only [LM8,eq_self,zab (h:=T68),zad,zac,zaa,zah,zai T135,zak,za2,eq_self,TB,SB,Int.reduceToNat,Nat.reduceAdd,Nat.reduceEqDiff,Nat.reduceLT,Nat.reduceMod,Nat.reducePow,Nat.reduceSub,if_true,reduceIte]
 exact zaI rfl
end Go.Proofs.YtdmiflfhaobngaaGreatDoor
end

section
namespace Go.Proofs.YtdmiflfhaobngaaGreatDoor
open Go Go.Eng
def O0:Nat→Prop:=own (fun _=>False) [] []
theorem no_own (b:Nat):¬ own (fun _=>False) [] [] b:=by
 rintro(hb | ⟨i,cs,hi,_⟩)
 ·exact hb
 ·simp at hi
def zjb {α:Type} (w:World) (f:α→List AV) (v:Value):Prop:=∃ (ad:Option Addr) (len cap:Nat) (l:List α),v=.slice ad len cap∧len≤cap∧cap≤maxLen∧l.length=len∧(len=0∨∃ b off,ad=some ⟨b,off,none⟩∧b < w.heap.size∧za8 w O0 [] b (l.flatMap f) off)
theorem ziL {α:Type} {f:α→List AV} {w:World} {v:Value} (h:zjb w f v):∃ l:List α,l.length≤9223372036854775807∧rep w O0 [] (.sl (l.flatMap f) l.length) v:=by
 obtain⟨ad,len,cap,l,rfl,h1,h2,h3,h5⟩:=h
 refine⟨l,by unfold maxLen at h2;omega,?_⟩
 simp only [rep]
 rw [h3]
 refine⟨ad,cap,rfl,h1,h2,?_⟩
 rcases h5 with h5 | ⟨b,off,rfl,hb,hat⟩
 ·refine .inl ?_
  have:l=[]:=by rw [h5] at h3;exact List.eq_nil_of_length_eq_zero h3
  subst this
  rfl
 ·exact .inr ⟨b,off,rfl,no_own b,hb,hat⟩
theorem repAt_app {w:World} {O:Nat→Prop} {m:Ids} {b:Nat}:∀ (l r:List AV) (off:Nat),za8 w O m b l off→za8 w O m b r (off+l.length)→za8 w O m b (l++r) off
 | [],r,off,_,h=>by simpa using h
 | a::l,r,off,h,g=>by
  simp only [List.cons_append,za8] at h ⊢
  exact⟨h.1,repAt_app l r (off+1) h.2 (by rwa [List.length_cons,show off+(l.length+1)=off+1+l.length by omega] at g)⟩
theorem add_none (b off n:Nat):(⟨b,off,none⟩:Addr).add n=⟨b,off+n,none⟩:=by
 by_cases h:n=0
 ·subst h
  simp [Addr.add]
 ·simp [Addr.add,h]
theorem rep_rowN {α:Type} {f:α→List AV} {wd:Nat} (F:RowF f wd) {w:World} {O:Nat→Prop} {m:Ids} {b off:Nat}:∀ (n:Nat),(∀ i,i < n→∃ a:α,za8 w O m b (f a) (off+i * wd))→∃ l:List α,l.length=n∧za8 w O m b (l.flatMap f) off
 | 0,_=>⟨[],rfl,by simp [za8]⟩
 | n+1,h=>by
  obtain⟨l,h1,h3⟩:=rep_rowN F n fun i hi=>h i (by omega)
  obtain⟨a,h5⟩:=h n (by omega)
  refine⟨l++[a],by simp [h1],?_⟩
  rw [List.flatMap_append]
  refine repAt_app _ _ _ h3 ?_
  rw [F.flen,h1,List.flatMap_cons,List.flatMap_nil,List.append_nil]
  exact h5
theorem zgd {w:World} {O:Nat→Prop} {m:Ids} {b:Nat}:∀ (l:List AV) (vs:List Value) (off:Nat),reps w O m l vs→(∀ i,i < l.length→w.cell? ⟨b,off+i,none⟩=vs[i]?)→za8 w O m b l off
 | [],_,_,_,_=>by simp [za8]
 | a::l,vs,off,h,g=>by
  simp only [reps] at h
  obtain⟨v,r,rfl,h1,h2⟩:=h
  simp only [za8]
  refine⟨⟨v,by simpa using g 0 (by simp),h1⟩,zgd l r (off+1) h2 fun i hi=>?_⟩
  have:=g (i+1) (by simpa using hi)
  rwa [List.getElem?_cons_succ,show off+(i+1)=off+1+i by omega] at this
theorem four {cs:List Value} (h:cs.length=4):∃ a b c d,cs=[a,b,c,d]:=by
 match cs,h with
 | [a,b,c,d],_=>exact⟨a,b,c,d,rfl⟩
theorem three {cs:List Value} (h:cs.length=3):∃ a b c,cs=[a,b,c]:=by
 match cs,h with
 | [a,b,c],_=>exact⟨a,b,c,rfl⟩
theorem two {cs:List Value} (h:cs.length=2):∃ a b,cs=[a,b]:=by
 match cs,h with
 | [a,b],_=>exact⟨a,b,rfl⟩
section
open Go.ChangeShapes Go.WideShapes Go.ChangeAt Go.RowKit
variable {H : Type} {enc : TypeId × Value → H} {P : Program} {w : World} {base : Nat} {held : Bool}
theorem zhC {α:Type} {f:α→List AV} {wd:Nat} (F:RowF f wd) (hp:0 < wd) {t0 t:TypeId} {fuel:Nat} {v:Value} {x:DataW H × List MemPlace} (ht0:P.underlying t0=some (.slice t)) (c4:P.cellsOf t=wd)
  (row:∀ fuel cs y,DataW.trod enc P w base (fun _=>true) held fuel t cs=some y→cs.length=wd→∃ a:α,reps w O0 [] (f a) cs)
  (hf:DataW.trod enc P w base (fun _=>true) held fuel t0 [v]=some x):zjb w f v:=by
 rcases DataW.trod_slice ht0 hf with ⟨hcs,_⟩ | ⟨x,len,cap,elems,rest,n,_,hcs,_,_,hl,hm,hlen,hel,_,_⟩
 ·simp at hcs
  exact⟨none,0,0,[],hcs,Nat.le_refl _,by simp [maxLen],rfl,.inl rfl⟩
 ·simp at hcs
  by_cases hz:len=0
  ·exact⟨_,len,cap,[],hcs,hl,hm,hz.symm,.inl hz⟩
  rw [c4] at hel
  have each:∀ i,i < len→∃ (y:α) (cs:List Value),reps w O0 [] (f y) cs∧cs.length=wd∧∀ j,j < wd→w.cell? ((x.add (i * wd)).add j)=cs[j]?:=by
   intro i hi
   have hi':=hel i hi
   rw [List.getElem?_eq_getElem (by omega),Option.bind_eq_some_iff] at hi'
   obtain⟨cs,hcs,hy⟩:=hi'
   obtain⟨_,hn,hc⟩:=World.cells?_some hcs
   obtain⟨a,ha⟩:=row _ _ _ hy hn
   exact⟨a,cs,ha,hn,hc⟩
  obtain⟨y,cs,_,hn,hc⟩:=each 0 (by omega)
  obtain⟨b,off,spot⟩:=x
  have hv0:=hc 0 hp
  rw [List.getElem?_eq_getElem (by omega)] at hv0
  have hspot:spot=none:=by simpa [Addr.add] using World.cell?_spot hv0
  subst hspot
  obtain⟨l,hl1,hl3⟩:=rep_rowN F (w:=w) (O:=O0) (m:=[]) (b:=b) (off:=off) len fun i hi=>by
   obtain⟨y,cs,h4,h5,h6⟩:=each i hi
   refine⟨y,zgd _ _ _ h4 fun j hj=>?_⟩
   rw [F.len] at hj
   have:=h6 j hj
   rwa [add_none,add_none] at this
  have hne:l.flatMap f≠[]:=by
   intro h
   have:=F.flen l
   rw [h,hl1,List.length_nil] at this
   rcases Nat.mul_eq_zero.1 this.symm with h | h <;> omega
  exact⟨_,len,cap,l,hcs,hl,hm,hl1,.inr ⟨b,off,rfl,zbO hl3 hne,hl3⟩⟩
theorem row_vo {t ts ti:TypeId} {f0 f1 f2:Field} (ht:P.underlying t=some (.struct #[f0,f1,f2])) (h0:f0.type=ti∧f0.offset=0) (h1:f1.type=ts∧f1.offset=1) (h2:f2.type=ts∧f2.offset=2)
  (hts:P.underlying ts=some .string) (hti:P.underlying ti=some (.int .i64)) (c0:P.cellsOf ts=1) (c2:P.cellsOf ti=1) (fuel:Nat) (cs:List Value) (y:DataW H × List MemPlace)
  (hy:DataW.trod enc P w base (fun _=>true) held fuel t cs=some y) (hn:cs.length=3):∃ a:Vo,reps w O0 [] (voC a) cs:=by
 obtain⟨xs,m,_,_,_,hxl,hx⟩:=DataW.trod_struct ht hy
 obtain⟨v0,v1,v2,rfl⟩:=three hn
 have g0:=hx 0 f0 rfl
 have g1:=hx 1 f1 rfl
 have g2:=hx 2 f2 rfl
 rw [h0.1,h0.2,c2] at g0
 rw [h1.1,h1.2,c0] at g1
 rw [h2.1,h2.2,c0] at g2
 match xs,hxl with
 | [x0,x1,x2],_ =>
  obtain⟨k,e0,_,w0⟩:=DataW.trod_int hti g0
  obtain⟨s,e1,_,w1⟩:=DataW.trod_string hts g1
  obtain⟨p,e2,_,w2⟩:=DataW.trod_string hts g2
  simp at e0 e1 e2
  subst e0 e1 e2
  refine⟨⟨k,s.data.toList,p.data.toList⟩,?_⟩
  simp only [voC,reps]
  exact⟨_,_,rfl,rep_i64 _,_,_,rfl,rep_str _,_,_,rfl,rep_str _,rfl⟩
theorem row_it {t ts:TypeId} {f0 f1:Field} (ht:P.underlying t=some (.struct #[f0,f1])) (h0:f0.type=ts∧f0.offset=0) (h1:f1.type=ts∧f1.offset=1)
  (hts:P.underlying ts=some .string) (c0:P.cellsOf ts=1) (fuel:Nat) (cs:List Value) (y:DataW H × List MemPlace)
  (hy:DataW.trod enc P w base (fun _=>true) held fuel t cs=some y) (hn:cs.length=2):∃ a:It,reps w O0 [] (itC a) cs:=by
 obtain⟨xs,m,_,_,_,hxl,hx⟩:=DataW.trod_struct ht hy
 obtain⟨v0,v1,rfl⟩:=two hn
 have g0:=hx 0 f0 rfl
 have g1:=hx 1 f1 rfl
 rw [h0.1,h0.2,c0] at g0
 rw [h1.1,h1.2,c0] at g1
 match xs,hxl with
 | [x0,x1],_ =>
  obtain⟨s,e0,_,w1⟩:=DataW.trod_string hts g0
  obtain⟨p,e1,_,w0⟩:=DataW.trod_string hts g1
  simp at e0 e1
  subst e0 e1
  refine⟨⟨s.data.toList,p.data.toList⟩,?_⟩
  simp only [itC,reps]
  exact⟨_,_,rfl,rep_str _,_,_,rfl,rep_str _,rfl⟩
def IsSv (w:World) (v:Value):Prop:=∃ (v1 v2:Value) (s:ByteArray) (k:Int),v=.agg #[v1,v2,.string s,.int .i64 k]∧zjb w itC v1∧zjb w itC v2
def IsVos (w:World) (v:Value):Prop:=zjb w voC v
theorem open_sv {r:Reach} {b0:Nat} {t tv tI ts ti:TypeId} {f0 f1 f2 f3 o0 o1:Field} {v:Value} {d:DataW H} {ps:List MemPlace} (ht:P.underlying t=some (.struct #[f0,f1,f2,f3])) (h0:f0.type=tv∧f0.offset=0) (h1:f1.type=tv∧f1.offset=1) (h2:f2.type=ts∧f2.offset=2) (h3:f3.type=ti∧f3.offset=3)
  (hv:P.underlying tv=some (.slice tI)) (ho:P.underlying tI=some (.struct #[o0,o1])) (i0:o0.type=ts∧o0.offset=0) (i1:o1.type=ts∧o1.offset=1)
  (hti:P.underlying ti=some (.int .i64)) (hts:P.underlying ts=some .string)
  (c0:P.cellsOf ti=1) (c1:P.cellsOf tv=1) (c2:P.cellsOf ts=1) (c4:P.cellsOf t=4) (c5:P.cellsOf tI=2)
  (hval:Value.okWide P w r b0 t v) (hd:DataW.Trod enc P w base (fun _=>true) held t v d ps):IsSv w v:=by
 obtain⟨cs,rfl,_⟩:=okWide_struct ht hval
 obtain⟨fuel,hf⟩:=hd
 obtain⟨xs,n,_,_,hl,hlen,hx⟩:=DataW.trod_struct ht hf
 obtain⟨cs⟩:=cs
 simp only [Value.cells] at hl hx
 rw [c4] at hl
 obtain⟨v0,v1,v2,v3,rfl⟩:=four hl
 have g0:=hx 0 f0 rfl
 have g1:=hx 1 f1 rfl
 have g2:=hx 2 f2 rfl
 have g3:=hx 3 f3 rfl
 rw [h0.1,h0.2,c1] at g0
 rw [h1.1,h1.2,c1] at g1
 rw [h2.1,h2.2,c2] at g2
 rw [h3.1,h3.2,c0] at g3
 match xs,hlen with
 | [x0,x1,x2,x3],_ =>
  have w0:=zhC itF (by decide) hv c5 (row_it ho i0 i1 hts c2) g0
  have w1:=zhC itF (by decide) hv c5 (row_it ho i0 i1 hts c2) g1
  obtain⟨s,e2,_,w2⟩:=DataW.trod_string hts g2
  obtain⟨k,e3,_,w3⟩:=DataW.trod_int hti g3
  simp at e2 e3
  subst e2 e3
  exact⟨v0,v1,s,k,rfl,w0,w1⟩
theorem open_vos {r:Reach} {b0:Nat} {t tO ts ti:TypeId} {o0 o1 o2:Field} {v:Value} {d:DataW H} {ps:List MemPlace} (hv:P.underlying t=some (.slice tO)) (ho:P.underlying tO=some (.struct #[o0,o1,o2])) (i0:o0.type=ti∧o0.offset=0) (i1:o1.type=ts∧o1.offset=1) (i2:o2.type=ts∧o2.offset=2)
  (hti:P.underlying ti=some (.int .i64)) (hts:P.underlying ts=some .string) (c0:P.cellsOf ti=1) (c2:P.cellsOf ts=1) (c5:P.cellsOf tO=3)
  (hval:Value.okWide P w r b0 t v) (hd:DataW.Trod enc P w base (fun _=>true) held t v d ps):IsVos w v:=by
 obtain⟨a,len,cap,rfl⟩:=okWide_slice hv hval
 obtain⟨fuel,hf⟩:=hd
 have hf':DataW.trod enc P w base (fun _=>true) held fuel t [.slice a len cap]=some (d,ps):=hf
 exact zhC voF (by decide) hv c5 (row_vo ho i0 i1 i2 hts hti c2 c0) hf'
end
theorem rep_sv {w:World} {v:Value} (h:IsSv w v):∃ x:Sv,(x.blobs.length≤9223372036854775807∧x.cells.length≤9223372036854775807)∧rep w (own (fun _=>False) [] []) [] (svA x) v:=by
 obtain⟨v1,v2,s,k,rfl,w1,w2⟩:=h
 obtain⟨o,ho,r1⟩:=ziL w1
 obtain⟨t,ht,r2⟩:=ziL w2
 refine⟨⟨o,t,s.data.toList,k⟩,⟨ho,ht⟩,?_⟩
 simp only [zbZ,zbl]
 rw [rep]
 refine⟨_,rfl,?_⟩
 simp only [reps]
 exact⟨_,_,rfl,r1,_,_,rfl,r2,_,_,rfl,rep_str _,_,_,rfl,rep_i64 _,rfl⟩
theorem rep_vos {w:World} {v:Value} (h:IsVos w v):∃ l:List Vo,l.length≤9223372036854775807∧rep w (own (fun _=>False) [] []) [] (slV l) v:=by
 obtain⟨o,ho,r1⟩:=ziL h
 exact⟨o,ho,r1⟩
end Go.Proofs.YtdmiflfhaobngaaGreatDoor
end

section
namespace Go.Eng
open Go
theorem Glob.of_vars3 [Globs] {w:World} (h:∀ g cs,Globs.tab g=some cs→∃ (P:Program) (n:String),P.globalNamed n=some g∧w.var? P n=some cs.toArray) (hi:∀ g,g∈Globs.ints→∃ n:Int,w.cell? ⟨g,0,none⟩=some (.int .i64 n)) (he:∀ g,g∈Globs.errs→∃ (t:TypeId) (v:Value),w.cell? ⟨g,0,none⟩=some (.iface t v)):Glob w (Go.Eng.own (fun _=>False) [] []):=by
 have no:∀ g,¬ Go.Eng.own (fun _=>False) [] [] g:=by
  rintro g (hb | ⟨i,cs,hi,_⟩)
  ·exact hb
  ·simp at hi
 refine⟨fun g cs hg=>?_,fun g hg=>?_,fun g hg=>?_⟩
 ·obtain⟨P,n,h1,h2⟩:=h g cs hg
  have hb:∃ e f,w.heap[g]?=some (.cells cs.toArray e f):=by
   have h3:=h2
   simp only [World.var?,h1,Option.bind_some] at h3
   split at h3
   ·rename_i cs' e' f' e
    cases Option.some.inj h3
    exact⟨_,_,e⟩
   ·cases h3
  refine⟨no g,?_,hb,fun j v hv=>?_⟩
  ·obtain⟨_,_,e⟩:=hb
   rcases Nat.lt_or_ge g w.heap.size with hlt | hge
   ·exact hlt
   ·rw [Array.getElem?_eq_none hge] at e;cases e
  ·rw [World.var?_cell h1 h2 j,List.getElem?_toArray,hv]
 ·obtain⟨n,hn⟩:=hi g hg
  refine⟨no g,?_,n,hn⟩
  rcases Nat.lt_or_ge g w.heap.size with hlt | hge
  ·exact hlt
  ·simp [World.cell?,Array.getElem?_eq_none hge] at hn
 ·obtain⟨t,v,hn⟩:=he g hg
  refine⟨no g,?_,t,v,hn⟩
  rcases Nat.lt_or_ge g w.heap.size with hlt | hge
  ·exact hlt
  ·simp [World.cell?,Array.getElem?_eq_none hge] at hn
theorem wrap_and_shaped {H:Type} {enc:TypeId × Value→H} {a:Assume} {C:Checked} {os:Os} {f:FuncId} {fn:Func} {s:ChangeSpec} {conds:List PathCond} {apart fresh handsOn again:Bool} {X:World→Array Value→Prop}
  (hX:∀ (w w':World) (args:Array Value),w.heap=w'.heap→X w args→X w' args)
  (h1:ownKnob C.prog.godebug=none) (h2:os.Started) (h3:C.prog.inits.idxOf? f=none) (hfn:C.prog.funcs[f]?=some fn)
  (h4:∃ (w:World) (tape:Tape) (i:Input),w.os=os∧(w.forCall tape i).Shaped C.prog∧i.vars=[]∧Input.okWide C.prog (w.forCall tape i) .any w.heap.size f i ∧
   ((s.pre enc C.prog fn conds apart (w.forCall tape i).memory i.args∧X (w.forCall tape i).memory i.args)∧sizedMet enc C.prog fn (OpenSpec.ofChange s) apart (w.forCall tape i).memory i.args)∧a.holds C.prog (lone (Frame.enter C.prog f i.args .normal) [] (w.forCall tape i)))
  (h5:∀ (W:World) (base:Nat) (args:Array Value) (ds gs:List (DataW H)) (before:List MemPlace),
   (∀ (j:Nat) t v,fn.params[j]?=some t→args[j]?=some v→Value.okWide C.prog W .any base t v) →
   DataW.Whole enc C.prog fn.params.toList s.vars apart W args.toList ds gs before →
   conds.all (PathCond.test C.prog ⟨fn.params.toList,ds,s.plain.varTypes C.prog,gs⟩)=true →
   (DataW.weightsEach C.prog (fn.params.toList++s.plain.varTypes C.prog) (ds++gs)).all (·≤reachBytes)=true→X W args→W.ShapedOpen C.prog →
   a.holds C.prog (lone (Frame.enter C.prog f args .normal) [] W) →
   Calls C.prog f args W fun e W'=>∃ v,e=.returned v∧s.post enc C.prog fn apart fresh handsOn again W args v W') :
  ReturnsInHanded a C os f .any (fun w args=>(s.pre enc C.prog fn conds apart w args∧X w args)∧sizedMet enc C.prog fn (OpenSpec.ofChange s) apart w args) (s.post enc C.prog fn apart fresh handsOn again):=by
 refine returnsInHanded_of_calls h1 h2 h3 h4 ?_
 intro w tape i _ hsh _ hok hpre hh
 have hval:∀ (j:Nat) t v,fn.params[j]?=some t→i.args[j]?=some v→Value.okWide C.prog (w.forCall tape i) .any w.heap.size t v:=by
  obtain⟨_,_,_,fn',hfn',_,_,_,_,hv⟩:=hok
  cases Option.some.inj (hfn'.symm.trans hfn)
  exact hv
 obtain⟨⟨⟨ds,gs,bf,hw,hc⟩,hx⟩,hz⟩:=hpre
 have key:=h5 (w.forCall tape i) w.heap.size i.args ds gs bf hval (DataW.Whole.of_heap (w':=w.forCall tape i) (by rfl) hw) hc (hz.weights hw) (hX _ _ _ (by rfl) hx) hsh hh
 refine key.mono ?_
 rintro e W' ⟨v,rfl,hp⟩
 exact ChangeSpec.post_blind hp
end Go.Eng
namespace Go.Proofs.YtdmiflfhaobngaaGreatDoor
open Go Go.Eng
def zhK:List (String × DataW Unit):=Rows.vaultBytesRow.laid
def nm (i : Nat) : String := (zhK[i]?.map (·.1)).getD ""
def dt (i:Nat):DataW Unit:=(zhK[i]?.map (·.2)).getD .nil
theorem laid3_tab:zhK=[(nm 0,dt 0),(nm 1,Lib.tabData .u32 (firstL.map fun b=>(b.toNat:Int))),(nm 2,Lib.tabData .u32 (kL.map fun b=>(b.toNat:Int))),(nm 3,dt 3)]:=by kernel_rfl
theorem ownK:ownKnob Tryz.prog.godebug=none:=by kernel_rfl
theorem laidOut:laidOutB Tryz.prog=true:=by kernel_rfl
theorem glob_of_laid {w:World} (h:laidMetH Tryz.prog zhK w) (hsh:w.ShapedOpen Tryz.prog):Glob w (Go.Eng.own (fun _=>False) [] []):=by
 rw [MakeChecks.laidMetH_plain _ _ _ (by kernel_rfl),laid3_tab] at h
 have t2:=Lib.tabIs_of_head (g:=0) (by kernel_rfl) (by kernel_rfl) Tryz.underlying146 Tryz.underlying113 (by kernel_rfl) (by kernel_rfl) h.tail
 have t3:=Lib.tabIs_of_head (g:=1) (by kernel_rfl) (by kernel_rfl) Tryz.underlying169 Tryz.underlying113 (by kernel_rfl) (by kernel_rfl) h.tail.tail
 refine Glob.of_vars3 (fun g cs hg=>?_) (fun g hg=>?_) (fun g hg=>absurd (show g∈([]:List Nat) from hg) (by simp))
 ·match g,hg with
  | 0,hg =>
   obtain rfl:=Option.some.inj (show some (firstL.map zi0)=some cs from hg)
   exact⟨_,_,(by kernel_rfl:Tryz.prog.globalNamed (nm 1)=some 0),by rw [show (firstL.map zi0)=(firstL.map fun b=>(b.toNat:Int)).map fun z=>Value.int .u32 z by rw [List.map_map];rfl];exact t2⟩
  | 1,hg =>
   obtain rfl:=Option.some.inj (show some (kL.map zi0)=some cs from hg)
   exact⟨_,_,(by kernel_rfl:Tryz.prog.globalNamed (nm 2)=some 1),by rw [show (kL.map zi0)=(kL.map fun b=>(b.toNat:Int)).map fun z=>Value.int .u32 z by rw [List.map_map];rfl];exact t3⟩
  | _+2,hg=>exact nomatch (show none=some cs from hg)
 ·have hg':g=2:=by
   have:g∈[2]:=hg
   simpa using this
  subst hg'
  exact Go.Proofs.cell_of_shapedOpen_int (zero:=#[.int .i64 0]) (t:=3) hsh (of_decide_eq_true (by kernel_rfl)) (by kernel_rfl) rfl (by kernel_rfl) (by kernel_rfl) Tryz.underlying3
theorem laid_met (os:Os) (args:Array Value):laidMetH Tryz.prog zhK ((World.laidAll Tryz.prog os zhK).forCall (fun _ _=>0) ⟨#[],args,[]⟩).memory:=by
 rw [MakeChecks.laidMetH_plain _ _ _ (by kernel_rfl)]
 exact laidMet_laidAll _ (by kernel_rfl) (by kernel_rfl)
end Go.Proofs.YtdmiflfhaobngaaGreatDoor
end

