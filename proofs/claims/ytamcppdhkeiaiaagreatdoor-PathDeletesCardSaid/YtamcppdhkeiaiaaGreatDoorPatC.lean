/-
  Keys, words, bounds, lists, members put in order. No condition.
-/
import Derived.Test.YtamcppdhkeiaiaaGreatDoorPatB
import Derived.Sort.Walk0
set_option linter.unusedSimpArgs false
set_option linter.unusedVariables false
set_option linter.unusedSectionVars false
section
namespace Go.Proofs.YtamcppdhkeiaiaaGreatDoor
open Go Go.Eng
def outV (s:List UInt8) (p:Nat) (x:Except Nat ((List Nd × Int) × Nat)):AEnd→zad→Prop:=fun y σ=>match x with
 | .ok x=>y=.ret (slN x.1.1)∧σ=rS s ((p+x.2:Nat):Int) x.1.2
 | .error k=>y=.pan (flt ((p+k:Nat):Int) 2)∧σ=[.dead]
theorem zac (q:List Nat) (l:List Nd):(slN l).ren q=some (slN l):=zjN q l _
theorem zco {s:List UInt8} {p k:Nat} {x:Except Nat ((List Nd × Int) × Nat)} {σ:zad} (h:x=.error k):endQ 1 (flt ((p+k:Nat):Int) 2) σ (fun r σ=>outV s p x (.pan r) σ):=by
 refine zbQ (za0 _ _ _) ?_
 subst h
 exact⟨rfl,rfl⟩
theorem zab {K:AV→Prop} (k:Int) (j:Int):zbl T 54 [(0,i64 k),(1,i64 j)] K=K (nA ⟨k,j,[],0⟩):=by
 simp [zbl,T54,tyNd,T3,T2,T52,T9,zb9,zaS,zc8,zcl,zbf,zaW,tyStr,nA,nC]
 try rfl
theorem ndF:RowF nC 4:=⟨fun _=>rfl,fun _=>all_n,fun q n=>by simp [nC,renL,zag,zai]⟩
theorem zis {s:List UInt8} {p tw:Int} {l:List Nd} {j n:Nat} {rest:zad} {K:AV→zad→Prop} (hj:rest[j]?=some (.rw (l.flatMap nC))) (hn:n=l.length) (h:K (slN l) (rS s p tw)):endQ 1 (.ref (j+1) 0 n 4) (.rw (rC s p tw)::rest) K:=by
 have hjl:=(List.getElem?_eq_some_iff.1 hj).1
 have e1:zeX (.rw (rC s p tw)::rest) [j+1]=.rw (rC s p tw)::rest.set j (.ro (l.flatMap nC)):=by
  simp only [zeX,List.getElem?_cons_succ,hj,List.set_cons_succ]
 refine zgl [j+1] (slN l) ?_ ?_
 ·rw [e1]
  exact ndF.frz (by rw [List.getElem?_cons_succ,List.getElem?_set_self hjl]) hn
 ·rw [e1]
  refine⟨[0],slN l,rS s p tw,rfl,rfl,by decide,zac _ _,⟨.inr ⟨_,?_,rfl⟩,trivial⟩,h⟩
  rw [zaG,zbo]
  rfl
theorem number_ok (s:List UInt8) (p:Nat) (tw:Int) (hp:p≤s.length) (hs:s.length≤1000000000):ACalls Tryz.prog 87 [.ptr 0 0] (rS s p tw) (outV s p (zkz tw (s.drop p))):=by
 have h:=Number_ok s p hs
 have hna:zkO s p=zeY (s.drop p):=by rw [zkO,if_pos (by omega)];rfl
 rw [hna] at h
 have hw:=wrong_ok s p tw hp hs
 have hf:=zgV s p tw ((p+zfi (s.drop p):Nat):Int)
 unfold rS at hw hf ⊢
 refine ACalls.body T_ok Tryz.func87 (by kernel_rfl) rfl Tryz.ntmps87 (congrArg Array.toList Tryz.results87) ?_
 try simp -implicitDefEqProofs only [LM3,LB9,eq_self,zaa,zab,TB,SB,Int.reduceToNat,Nat.reduceAdd,Nat.reduceEqDiff,Nat.reduceLT,Nat.reduceMod,Nat.reducePow,Nat.reduceSub,if_true,reduceIte]
 refine zdK (by kernel_rfl) (by kernel_rfl) ?_
 try simp -implicitDefEqProofs only [LM3,LB9,eq_self,zaa,zab,TB,SB,Int.reduceToNat,Nat.reduceAdd,Nat.reduceEqDiff,Nat.reduceLT,Nat.reduceMod,Nat.reducePow,Nat.reduceSub,if_true,reduceIte]
 cases hx:zeY (s.drop p) with
 | none =>
  rw [hx] at h
  simp only [numA] at h
  refine zeP (h) (by first | rfl | simp [renL,AV.ren,zav,zak str zai,zaA,zaz,zay,zag,zao,zai]) (by first | rfl | simp [AEnd.noid,AV.ren,renL,zav,zaA,zaz,zay,zag,zao,zai]) ?_
  try simp -implicitDefEqProofs only [LM3,LB9,eq_self,zaa,zab,TB,SB,Int.reduceToNat,Nat.reduceAdd,Nat.reduceEqDiff,Nat.reduceLT,Nat.reduceMod,Nat.reducePow,Nat.reduceSub,if_true,reduceIte]
  refine ACalls.frame ([0]) (hw) rfl (by decide) (by simp [LB7,LB8,LB10,zah,zae,renL,AV.ren,AEnd.ren,List.getElem?_cons_zero,List.getElem?_cons_succ]) (by first | rfl | simp [LB7,LB8,LB10,zah,zae,renL,AV.ren,AEnd.ren,List.getElem?_cons_zero,List.getElem?_cons_succ]) ?_
  rintro _ _ ⟨rfl,rfl⟩
  refine⟨.ret (i64 ((p+zfi (s.drop p):Nat):Int)),[.rw (rC s p tw)],(by show zae _ _ ([0]) ([0]) 0 _;simp [LB7,LB8,LB10,zah,zae,renL,AV.ren,AEnd.ren,List.getElem?_cons_zero,List.getElem?_cons_succ]),(by show AEnd.ren ([0]) _ _;first | rfl | simp [LB7,LB8,LB10,zah,zae,renL,AV.ren,AEnd.ren,List.getElem?_cons_zero,List.getElem?_cons_succ]),?_⟩
  try simp -implicitDefEqProofs only [LM3,LB9,eq_self,zaa,zab,TB,SB,Int.reduceToNat,Nat.reduceAdd,Nat.reduceEqDiff,Nat.reduceLT,Nat.reduceMod,Nat.reducePow,Nat.reduceSub,if_true,reduceIte]
  refine ACalls.frame ([0]) (hf) rfl (by decide) (by simp [LB7,LB8,LB10,zah,zae,renL,AV.ren,AEnd.ren,List.getElem?_cons_zero,List.getElem?_cons_succ]) (by first | rfl | simp [LB7,LB8,LB10,zah,zae,renL,AV.ren,AEnd.ren,List.getElem?_cons_zero,List.getElem?_cons_succ]) ?_
  rintro _ _ ⟨rfl,rfl⟩
  refine⟨.pan (flt ((p+zfi (s.drop p):Nat):Int) 2),[.dead],(by show zae _ _ ([0]) ([0]) 0 _;simp [LB7,LB8,LB10,zah,zae,renL,AV.ren,AEnd.ren,List.getElem?_cons_zero,List.getElem?_cons_succ]),(by show AEnd.ren ([0]) _ _;first | rfl | simp [LB7,LB8,LB10,zah,zae,renL,AV.ren,AEnd.ren,List.getElem?_cons_zero,List.getElem?_cons_succ]),?_⟩
  try simp -implicitDefEqProofs only [LM3,LB9,eq_self,zaa,zab,TB,SB,Int.reduceToNat,Nat.reduceAdd,Nat.reduceEqDiff,Nat.reduceLT,Nat.reduceMod,Nat.reducePow,Nat.reduceSub,if_true,reduceIte]
  refine zco ?_
  rw [zkz,hx]
 | some x =>
  rw [hx] at h
  simp only [numA] at h
  refine zeP (h) (by first | rfl | simp [renL,AV.ren,zav,zak str zai,zaA,zaz,zay,zag,zao,zai]) (by first | rfl | simp [AEnd.noid,AV.ren,renL,zav,zaA,zaz,zay,zag,zao,zai]) ?_
  try simp -implicitDefEqProofs only [LM3,LB9,eq_self,zaa,zab,TB,SB,Int.reduceToNat,Nat.reduceAdd,Nat.reduceEqDiff,Nat.reduceLT,Nat.reduceMod,Nat.reducePow,Nat.reduceSub,if_true,reduceIte]
  rw [show (p:Int)+(x.2:Int)=((p+x.2:Nat):Int) by omega]
  refine zis (j:=0) (l:=[⟨2,x.1,[],0⟩]) rfl rfl ?_
  rw [zkz,hx]
  exact⟨rfl,rfl⟩
theorem wordW_at:∀ (w l:List UInt8) (i:Nat),i≤zfH w l→i < w.length→((l.drop i).head?=some (w.getD i 0) ↔ i+1≤zfH w l)
 | [],_,i,_,h=>by simp at h
 | a::w,[],i,h,_=>by
  simp only [zfH] at h ⊢
  simp
 | a::w,b::l,0,_,_=>by
  rw [List.drop_zero,List.head?_cons,zfH]
  by_cases hb:b=a
  ·simp [hb]
  ·simp [hb]
 | a::w,b::l,i+1,h,hw=>by
  have hb:b=a:=by
   rw [zfH] at h
   split at h
   ·assumption
   ·omega
  rw [zfH,if_pos hb] at h ⊢
  rw [List.drop_succ_cons]
  have:=wordW_at w l i (by omega) (by simpa using hw)
  rw [show (a::w).getD (i+1) 0=w.getD i 0 by simp [List.getD_eq_getElem?_getD]]
  exact this.trans ⟨fun h=>by omega,fun h=>by omega⟩
theorem zjY:∀ (w l:List UInt8),zfH w l≤w.length∧zfH w l≤l.length
 | [],l=>⟨Nat.le_refl _,Nat.zero_le _⟩
 | _::_,[]=>⟨Nat.zero_le _,Nat.le_refl _⟩
 | a::w,b::l=>by
  have:=zjY w l
  simp only [zfH,List.length_cons]
  split <;> omega
def wordsL:List (List UInt8 × Nd):=[(wNull,⟨0,0,[],0⟩),(zkx,⟨1,0,[],0⟩),(wTrue,⟨1,1,[],0⟩)]
def wKS:List Value:=(wordsL.map (·.1)).map keyV
def wVS:List AV:=wordsL.map fun x=>nA x.2
theorem wVS_ren (q:List Nat):renL q wVS=some wVS:=by
 simp [wVS,wordsL,renL,ren_nA]
def zjZ (sn:List Nat):Nat:=(if 0∈sn then 0 else 1)+(if 1∈sn then 0 else 1)+(if 2∈sn then 0 else 1)
theorem untried_lt {sn:List Nat} {j:Nat} (hj:j < 3) (h:j ∉ sn):zjZ (sn++[j]) < zjZ sn:=by
 unfold zjZ
 simp only [List.mem_append,List.mem_singleton]
 match j,hj,h with
 | 0,_,h=>simp only [h,if_false,or_true,if_true];simp
 | 1,_,h=>simp only [h,if_false,or_true,if_true];simp
 | 2,_,h=>simp only [h,if_false,or_true,if_true];simp
end Go.Proofs.YtamcppdhkeiaiaaGreatDoor
end

section
namespace Go.Proofs.YtamcppdhkeiaiaaGreatDoor
open Go Go.Eng
set_option linter.defProp false in
def LB11:=And.intro @zjL (And.intro @wVS_ren (@zgW))
set_option linter.defProp false in
def LM1:=And.intro LB7 (And.intro LB8 (And.intro LB10 (LB11)))
theorem word_ok (s:List UInt8) (p:Nat) (tw:Int) (hp:p≤s.length) (hs:s.length≤1000000000):ACalls Tryz.prog 88 [.ptr 0 0] (rS s p tw) (outV s p (ziT tw (s.drop p))):=by
 have hf:=zgV s p tw p
 unfold rS at hf ⊢
 refine ACalls.body T_ok Tryz.func88 (by kernel_rfl) rfl Tryz.ntmps88 (congrArg Array.toList Tryz.results88) ?_
 try simp -implicitDefEqProofs only [LM3,LB9,eq_self,zaa,zab,TB,SB,Int.reduceToNat,Nat.reduceAdd,Nat.reduceEqDiff,Nat.reduceLT,Nat.reduceMod,Nat.reducePow,Nat.reduceSub,if_true,reduceIte]
 refine zgP (l:=[]) (vs:=[]) (s:=wNull) T193 T9 rfl (fun h=>by cases h) (fun _=>?_)
 try simp -implicitDefEqProofs only [LM3,LB9,eq_self,zaa,zab,TB,SB,Int.reduceToNat,Nat.reduceAdd,Nat.reduceEqDiff,Nat.reduceLT,Nat.reduceMod,Nat.reducePow,Nat.reduceSub,if_true,reduceIte]
 refine zgP (l:=[wNull]) (vs:=[nA ⟨0,0,[],0⟩]) (s:=zkx) T193 T9 rfl (fun h=>absurd h (by decide)) (fun _=>?_)
 try simp -implicitDefEqProofs only [LM3,LB9,eq_self,zaa,zab,TB,SB,Int.reduceToNat,Nat.reduceAdd,Nat.reduceEqDiff,Nat.reduceLT,Nat.reduceMod,Nat.reducePow,Nat.reduceSub,if_true,reduceIte]
 refine zgP (l:=[wNull,zkx]) (vs:=[nA ⟨0,0,[],0⟩,nA ⟨1,0,[],0⟩]) (s:=wTrue) T193 T9 rfl (fun h=>absurd h (by decide)) (fun _=>?_)
 try simp -implicitDefEqProofs only [LM3,LB9,eq_self,zaa,zab,TB,SB,Int.reduceToNat,Nat.reduceAdd,Nat.reduceEqDiff,Nat.reduceLT,Nat.reduceMod,Nat.reducePow,Nat.reduceSub,if_true,reduceIte]
 refine range_m (ks:=wKS) (vs:=wVS) T193 rfl ?_
 try simp -implicitDefEqProofs only [LM3,LB9,eq_self,zaa,zab,TB,SB,Int.reduceToNat,Nat.reduceAdd,Nat.reduceEqDiff,Nat.reduceLT,Nat.reduceMod,Nat.reducePow,Nat.reduceSub,if_true,reduceIte]
 rw [zbe]
 refine⟨List Nat,fun sn=>∀ j,j∈sn→isAt s p ((wordsL.getD j ([],n0d)).1.getD 0 0)=false,fun sn=>[.ptr 0 0,.bot,.lit (.slice none 0 0),.bot,.bot,.bot,.bot,.bot,.bot,.bot,.bot,.bot,.bot,.ptr 2 0,.bot,.bot,.bot,.bot,.bot,.bot,.bot,.bot,.bot,.bot,.bot,.bot,.bot,.bot,.bot,.bot,.bot,.bot,.bot,.bot,.bot,.bot,.bot,.bot,.bot,.bot,.bot,.bot,.bot],fun sn=>[.rw (rC s p tw),.dead,.mpi wKS wVS sn],fun sn=>zjZ sn,[],?_,zaj (q:=[0,1,2]) rfl rfl (by decide) ?_ ?_,?_⟩
 ·intro j hj
  cases hj
 ·try simp only [FB,AV.ren,Nat.reduceAdd,reduceCtorEq]
 ·simp [zah,zaG,zjL,wVS_ren,zbo]
 ·intro sn hsn
  try simp -implicitDefEqProofs only [LM3,LB9,eq_self,zaa,zab,TB,SB,Int.reduceToNat,Nat.reduceAdd,Nat.reduceEqDiff,Nat.reduceLT,Nat.reduceMod,Nat.reducePow,Nat.reduceSub,if_true,reduceIte]
  refine next_m (ks:=wKS) (vs:=wVS) rfl (fun hall=>?_) (fun j k v hj hk hv=>?_)
  ·try simp -implicitDefEqProofs only [LM3,LB9,eq_self,zaa,zab,TB,SB,Int.reduceToNat,Nat.reduceAdd,Nat.reduceEqDiff,Nat.reduceLT,Nat.reduceMod,Nat.reducePow,Nat.reduceSub,if_true,reduceIte]
   refine ACalls.frame ([0]) (hf) rfl (by decide) (by simp [LM1,zah,zae,renL,AV.ren,AEnd.ren,List.getElem?_cons_zero,List.getElem?_cons_succ]) (by first | rfl | simp [LM1,zah,zae,renL,AV.ren,AEnd.ren,List.getElem?_cons_zero,List.getElem?_cons_succ]) ?_
   rintro _ _ ⟨rfl,rfl⟩
   refine⟨.pan (flt p 2),[.dead,.dead,.mpi wKS wVS sn],(by show zae _ _ ([0,1,1]) ([0,1,1]) 0 _;simp [LM1,zah,zae,renL,AV.ren,AEnd.ren,List.getElem?_cons_zero,List.getElem?_cons_succ]),(by show AEnd.ren ([0,1,1]) _ _;first | rfl | simp [LM1,zah,zae,renL,AV.ren,AEnd.ren,List.getElem?_cons_zero,List.getElem?_cons_succ]),?_⟩
   try simp -implicitDefEqProofs only [LM3,LB9,eq_self,zaa,zab,TB,SB,Int.reduceToNat,Nat.reduceAdd,Nat.reduceEqDiff,Nat.reduceLT,Nat.reduceMod,Nat.reducePow,Nat.reduceSub,if_true,reduceIte]
   refine zco (k:=0) ?_
   have n0:=hsn 0 (hall 0 (by decide))
   have n1:=hsn 1 (hall 1 (by decide))
   have n2:=hsn 2 (hall 2 (by decide))
   rw [ziT,if_neg (show ¬ (s.drop p).head?=some 110 from of_decide_eq_false n0),if_neg (show ¬ (s.drop p).head?=some 102 from of_decide_eq_false n1),if_neg (show ¬ (s.drop p).head?=some 116 from of_decide_eq_false n2)]
  ·have hj3:j < 3:=(List.getElem?_eq_some_iff.1 hk).1
   obtain⟨x,hx⟩:∃ x,wordsL[j]?=some x:=⟨_,List.getElem?_eq_getElem hj3⟩
   have hk':k=keyV x.1:=by
    rw [wKS,List.map_map,List.getElem?_map,hx] at hk
    exact(Option.some.inj hk).symm
   have hv':v=nA x.2:=by
    rw [wVS,List.getElem?_map,hx] at hv
    exact(Option.some.inj hv).symm
   subst hk' hv'
   rw [ofVal_key]
   try simp -implicitDefEqProofs only [LM3,LB9,eq_self,zaa,zab,TB,SB,Int.reduceToNat,Nat.reduceAdd,Nat.reduceEqDiff,Nat.reduceLT,Nat.reduceMod,Nat.reducePow,Nat.reduceSub,if_true,reduceIte]
   refine entry_m (ks:=wKS) (vs:=wVS) (sn':=sn) rfl rfl hk hv ?_
   rw [ofVal_key]
   have hx4:4≤x.1.length∧x.1.length≤5:=by
    match j,hj3,hx with
    | 0,_,hx=>cases hx;decide
    | 1,_,hx=>cases hx;decide
    | 2,_,hx=>cases hx;decide
   have hwx:isAt s p (x.1.getD 0 0)=true→ziT tw (s.drop p)=zky x.1 x.2 tw (s.drop p):=fun h=>by
    have h:=of_decide_eq_true h
    match j,hj3,hx with
    | 0,_,hx =>
     cases hx
     rw [ziT,h]
     rfl
    | 1,_,hx =>
     cases hx
     rw [ziT,h]
     rfl
    | 2,_,hx =>
     cases hx
     rw [ziT,h]
     rfl
   have hget:wordsL.getD j ([],n0d)=x:=by rw [List.getD_eq_getElem?_getD,hx];rfl
   try simp -implicitDefEqProofs only [LM3,LB9,eq_self,zaa,zab,TB,SB,Int.reduceToNat,Nat.reduceAdd,Nat.reduceEqDiff,Nat.reduceLT,Nat.reduceMod,Nat.reducePow,Nat.reduceSub,if_true,reduceIte]
   refine⟨by omega,by omega,?_⟩
   have his:=is_ok s p tw (x.1.getD 0 0) hp
   unfold rS at his
   cases hb:isAt s p (x.1.getD 0 0) with
   | false =>
    rw [hb] at his
    refine ACalls.frame ([0]) (his) rfl (by decide) (by simp [LM1,zah,zae,renL,AV.ren,AEnd.ren,List.getElem?_cons_zero,List.getElem?_cons_succ]) (by first | rfl | simp [LM1,zah,zae,renL,AV.ren,AEnd.ren,List.getElem?_cons_zero,List.getElem?_cons_succ]) ?_
    rintro _ _ ⟨rfl,rfl⟩
    refine⟨.ret (bl false),[.rw (rC s p tw),.dead,.mpi wKS wVS (sn++[j]),.rw (nC x.2)],(by show zae _ _ ([0,1,1,1]) ([0,1,1,1]) 0 _;simp [LM1,zah,zae,renL,AV.ren,AEnd.ren,List.getElem?_cons_zero,List.getElem?_cons_succ]),(by show AEnd.ren ([0,1,1,1]) _ _;first | rfl | simp [LM1,zah,zae,renL,AV.ren,AEnd.ren,List.getElem?_cons_zero,List.getElem?_cons_succ]),?_⟩
    try simp -implicitDefEqProofs only [LM3,LB9,eq_self,zaa,zab,TB,SB,Int.reduceToNat,Nat.reduceAdd,Nat.reduceEqDiff,Nat.reduceLT,Nat.reduceMod,Nat.reducePow,Nat.reduceSub,if_true,reduceIte]
    rw [zal]
    refine⟨sn++[j],fun i hi=>?_,untried_lt hj3 hj,zaj (q:=[0,1,2]) rfl rfl (by decide) ?_ ?_⟩
    ·rcases List.mem_append.1 hi with hi | hi
     ·exact hsn i hi
     ·simp only [List.mem_singleton] at hi
      subst hi
      rw [hget]
      exact hb
    ·try simp only [FB,AV.ren,Nat.reduceAdd,reduceCtorEq]
    ·simp [zah,zaG,zjL,wVS_ren,zbo]
   | true =>
    rw [hb] at his
    refine ACalls.frame ([0]) (his) rfl (by decide) (by simp [LM1,zah,zae,renL,AV.ren,AEnd.ren,List.getElem?_cons_zero,List.getElem?_cons_succ]) (by first | rfl | simp [LM1,zah,zae,renL,AV.ren,AEnd.ren,List.getElem?_cons_zero,List.getElem?_cons_succ]) ?_
    rintro _ _ ⟨rfl,rfl⟩
    refine⟨.ret (bl true),[.rw (rC s p tw),.dead,.mpi wKS wVS (sn++[j]),.rw (nC x.2)],(by show zae _ _ ([0,1,1,1]) ([0,1,1,1]) 0 _;simp [LM1,zah,zae,renL,AV.ren,AEnd.ren,List.getElem?_cons_zero,List.getElem?_cons_succ]),(by show AEnd.ren ([0,1,1,1]) _ _;first | rfl | simp [LM1,zah,zae,renL,AV.ren,AEnd.ren,List.getElem?_cons_zero,List.getElem?_cons_succ]),?_⟩
    try simp -implicitDefEqProofs only [LM3,LB9,eq_self,zaa,zab,TB,SB,Int.reduceToNat,Nat.reduceAdd,Nat.reduceEqDiff,Nat.reduceLT,Nat.reduceMod,Nat.reducePow,Nat.reduceSub,if_true,reduceIte]
    rw [zbe]
    have hww:=zjY x.1 (s.drop p)
    rw [List.length_drop] at hww
    refine⟨Nat,fun i=>i≤x.1.length∧i≤zfH x.1 (s.drop p),fun i=>[.ptr 0 0,.bot,.lit (.slice none 0 0),.bot,str x.1,.ptr 3 0,.bot,.bot,.bot,.bot,.bot,.bot,.bot,.bot,.bot,.bot,.bot,.bot,.bot,.bot,.bot,.bot,.bot,.bot,.bot,i64 x.1.length,i64 i,.bot,.bot,.bot,.bot,.bot,.bot,.bot,.bot,.bot,.bot,.bot,.bot,.bot,.bot,.bot,.bot],fun i=>[.rw (rC s ((p+i:Nat):Int) tw),.dead,.dead,.rw (nC x.2)],fun i=>x.1.length - i,0,⟨Nat.zero_le _,Nat.zero_le _⟩,zaj (q:=[0,1,2,3]) rfl rfl (by decide) ?_ ?_,?_⟩
    ·try simp only [FB,AV.ren,Nat.reduceAdd,reduceCtorEq]
     exact .inr rfl
    ·simp [zah,zaG,zaJ,zbo]
    ·rintro i ⟨hi1,hi2⟩
     try simp -implicitDefEqProofs only [LM3,LB9,eq_self,zaa,zab,TB,SB,Int.reduceToNat,Nat.reduceAdd,Nat.reduceEqDiff,Nat.reduceLT,Nat.reduceMod,Nat.reducePow,Nat.reduceSub,if_true,reduceIte]
     refine⟨fun hlt=>?_,fun hge=>?_⟩
     ·refine⟨by omega,by omega,?_⟩
      have hwt:=ziq s (p+i) tw (x.1.getD i 0) (by omega) hs
      have hat:=wordW_at x.1 (s.drop p) i hi2 (by omega)
      rw [List.drop_drop] at hat
      unfold zkB at hwt
      unfold rS at hwt
      cases hb2:isAt s (p+i) (x.1.getD i 0) with
      | true =>
       rw [hb2] at hwt
       refine ACalls.frame ([0]) (hwt) rfl (by decide) (by simp [LM1,zah,zae,renL,AV.ren,AEnd.ren,List.getElem?_cons_zero,List.getElem?_cons_succ]) (by first | rfl | simp [LM1,zah,zae,renL,AV.ren,AEnd.ren,List.getElem?_cons_zero,List.getElem?_cons_succ]) ?_
       rintro _ _ ⟨rfl,rfl⟩
       refine⟨.ret (.tup []),[.rw (rC s ((p+i+1:Nat):Int) tw),.dead,.dead,.rw (nC x.2)],(by show zae _ _ ([0,1,1,1]) ([0,1,1,1]) 0 _;simp [LM1,zah,zae,renL,AV.ren,AEnd.ren,List.getElem?_cons_zero,List.getElem?_cons_succ]),(by show AEnd.ren ([0,1,1,1]) _ _;first | rfl | simp [LM1,zah,zae,renL,AV.ren,AEnd.ren,List.getElem?_cons_zero,List.getElem?_cons_succ]),?_⟩
       try simp -implicitDefEqProofs only [LM3,LB9,eq_self,zaa,zab,TB,SB,Int.reduceToNat,Nat.reduceAdd,Nat.reduceEqDiff,Nat.reduceLT,Nat.reduceMod,Nat.reducePow,Nat.reduceSub,if_true,reduceIte]
       have hi3:=hat.1 (of_decide_eq_true hb2)
       refine⟨by unfold inI;omega,?_⟩
       rw [zal]
       refine⟨i+1,⟨by omega,hi3⟩,(by show x.1.length - (i+1) < x.1.length - i;omega),zaj (q:=[0,1,2,3]) rfl rfl (by decide) ?_ ?_⟩
       ·try simp only [FB,AV.ren,Nat.reduceAdd,reduceCtorEq]
        exact .inr (by omega)
       ·simp [zah,zaG,zaJ,zbo,Nat.add_assoc]
      | false =>
       rw [hb2] at hwt
       refine ACalls.frame ([0]) (hwt) rfl (by decide) (by simp [LM1,zah,zae,renL,AV.ren,AEnd.ren,List.getElem?_cons_zero,List.getElem?_cons_succ]) (by first | rfl | simp [LM1,zah,zae,renL,AV.ren,AEnd.ren,List.getElem?_cons_zero,List.getElem?_cons_succ]) ?_
       rintro _ _ ⟨rfl,rfl⟩
       refine⟨.pan (flt ((p+i:Nat):Int) 2),[.dead,.dead,.dead,.rw (nC x.2)],(by show zae _ _ ([0,1,1,1]) ([0,1,1,1]) 0 _;simp [LM1,zah,zae,renL,AV.ren,AEnd.ren,List.getElem?_cons_zero,List.getElem?_cons_succ]),(by show AEnd.ren ([0,1,1,1]) _ _;first | rfl | simp [LM1,zah,zae,renL,AV.ren,AEnd.ren,List.getElem?_cons_zero,List.getElem?_cons_succ]),?_⟩
       try simp -implicitDefEqProofs only [LM3,LB9,eq_self,zaa,zab,TB,SB,Int.reduceToNat,Nat.reduceAdd,Nat.reduceEqDiff,Nat.reduceLT,Nat.reduceMod,Nat.reducePow,Nat.reduceSub,if_true,reduceIte]
       refine zco (k:=i) ?_
       have hni:¬ i+1≤zfH x.1 (s.drop p):=fun h=>(of_decide_eq_false hb2) (hat.2 h)
       have hwi:zfH x.1 (s.drop p)=i:=by omega
       rw [hwx hb,zky,hwi,if_neg (by omega)]
     ·have hil:i=x.1.length:=by omega
      subst hil
      refine zis (j:=3) (l:=[x.2]) rfl rfl ?_
      rw [hwx hb,zky,if_pos (by omega)]
      exact⟨rfl,rfl⟩
end Go.Proofs.YtamcppdhkeiaiaaGreatDoor
end

section
namespace Go.Proofs.YtamcppdhkeiaiaaGreatDoor
open Go Go.Eng
theorem qbF_le:∀ (n:Nat) (l:List UInt8) (x:List UInt8 × Nat),qbF n l=some x→x.2≤l.length∧1≤x.2
 | 0,l,x,h=>by cases h
 | n+1,[],x,h=>by cases h
 | n+1,c::r,x,h=>by
  rw [qbF] at h
  simp only [List.length_cons]
  split at h
  ·cases h
  ·split at h
   ·cases h;simp
   ·split at h
    ·split at h
     ·cases h
     ·rename_i b k he
      cases hq:qbF n (r.drop k) with
      | none=>rw [hq] at h;cases h
      | some y =>
       rw [hq] at h
       cases h
       have:=qbF_le n _ y hq
       rw [List.length_drop] at this
       simp only
       omega
    ·cases hq:qbF n r with
     | none=>rw [hq] at h;cases h
     | some y =>
      rw [hq] at h
      cases h
      have:=qbF_le n _ y hq
      simp only
      omega
theorem zj0 {l:List UInt8} {x:List UInt8 × Nat} (h:quoL l=some x):x.2≤l.length∧2≤x.2:=by
 rw [quoL] at h
 split at h
 ·rename_i h0
  cases l with
  | nil=>cases h0
  | cons a l =>
   rw [List.drop_succ_cons,List.drop_zero] at h
   cases hq:qbL l with
   | none=>rw [hq] at h;cases h
   | some y =>
    rw [hq] at h
    cases h
    have:=qbF_le _ _ y hq
    simp only [List.length_cons]
    omega
 ·cases h
theorem numPL_le {l:List UInt8} {x:Int × Nat} (h:zeY l=some x):x.2≤l.length∧1≤x.2:=by
 rw [zeY] at h
 obtain⟨b,hb⟩:∃ b,b=if zcZ l then 1 else 0:=⟨_,rfl⟩
 rw [← hb] at h
 have h1:=zjU (l.drop b)
 rw [List.length_drop] at h1
 by_cases h0:digW (l.drop b)=0
 ·rw [if_pos h0] at h
  cases h
 rw [if_neg h0] at h
 by_cases h2:zcZ l=true
 ·rw [if_pos h2] at h
  by_cases h3:digV 0 ((l.drop b).take (digW (l.drop b)))≤9223372036854775808
  ·rw [if_pos h3] at h
   cases h
   simp only
   omega
  ·rw [if_neg h3] at h
   cases h
 ·rw [if_neg h2] at h
  by_cases h3:digV 0 ((l.drop b).take (digW (l.drop b))) < 9223372036854775808
  ·rw [if_pos h3] at h
   cases h
   simp only
   omega
  ·rw [if_neg h3] at h
   cases h
theorem negBad_le {l:List UInt8}:zfi l≤l.length:=by
 rw [zfi]
 split
 ·rename_i h
  cases l with
  | nil=>simp [zcZ] at h
  | cons a l=>simp
 ·exact Nat.zero_le _
def GoodV (V:PV):Prop:=∀ tw p l,match V tw p l with
 | .ok x=>1≤x.2∧x.2≤l.length∧x.1.1.length≤x.2∧1≤x.1.1.length
 | .error k=>k≤l.length
def zhg {γ:Type} (wt cnt:γ→Nat) (a:Nat) (l:List UInt8) (g:γ) (x:Except Nat (γ × Nat)):Prop:=match x with
 | .ok x=>a≤x.2∧1≤x.2∧x.2≤l.length∧wt x.1≤wt g+x.2∧cnt x.1=cnt g+1
 | .error k=>k≤l.length
def ziU {γ:Type} (wt cnt:γ→Nat) (a:Nat) (first:Bool) (l:List UInt8) (g:γ) (x:Except Nat (γ × Nat)):Prop:=match x with
 | .ok x=>1≤x.2∧x.2≤l.length∧wt x.1+1≤wt g+x.2∧cnt g≤cnt x.1∧(cnt x.1 - cnt g) * (a+1)+(if first then 0 else 1)≤x.2
 | .error k=>k≤l.length
theorem zem {γ:Type} (wt cnt:γ→Nat) (a:Nat) (e:UInt8) (step:γ→Nat→List UInt8→Except Nat (γ × Nat)) (hstep:∀ g p l,zhg wt cnt a l g (step g p l)):∀ (n:Nat) (first:Bool) (g:γ) (p:Nat) (l:List UInt8),ziU wt cnt a first l g (zda e step n first g p l)
 | 0,_,_,_,l=>Nat.zero_le _
 | n+1,first,g,p,l=>by
  rw [zda]
  by_cases h1:l.head?=some e
  ·rw [if_pos h1]
   have:1≤l.length:=by
    cases l with
    | nil=>cases h1
    | cons a l=>simp
   refine⟨Nat.le_refl _,this,Nat.le_refl _,Nat.le_refl _,?_⟩
   simp only [Nat.sub_self,Nat.zero_mul,Nat.zero_add]
   split <;> omega
  rw [if_neg h1]
  by_cases h2:(!first && decide (l.head?≠some 44))=true
  ·rw [if_pos h2]
   exact Nat.zero_le _
  rw [if_neg h2]
  have hw:(if first then 0 else 1+zaD (l.drop 1))≤l.length∧(first=false→1≤(if first then 0 else 1+zaD (l.drop 1))):=by
   cases first with
   | true=>exact⟨Nat.zero_le _,fun h=>by cases h⟩
   | false =>
    have hl:1≤l.length:=by
     cases l with
     | nil=>simp at h2
     | cons a l=>simp
    have:=zbx (l.drop 1)
    rw [List.length_drop] at this
    simp only [Bool.false_eq_true,if_false]
    exact⟨by omega,fun _=>by omega⟩
  generalize (if first then 0 else 1+zaD (l.drop 1))=w at hw
  have hs:=hstep g (p+w) (l.drop w)
  dsimp only
  cases hx:step g (p+w) (l.drop w) with
  | error k =>
   rw [hx] at hs
   simp only [zhg,List.length_drop] at hs
   show w+k≤l.length
   omega
  | ok x =>
   rw [hx] at hs
   obtain⟨g',c⟩:=x
   simp only [zhg,List.length_drop] at hs
   dsimp only
   have hb:=zbx (l.drop (w+c))
   rw [List.length_drop] at hb
   have ih:=zem wt cnt a e step hstep n false g' (p+(w+c+zaD (l.drop (w+c)))) (l.drop (w+c+zaD (l.drop (w+c))))
   generalize zaD (l.drop (w+c))=b at hb ih
   cases hy:zda e step n false g' (p+(w+c+b)) (l.drop (w+c+b)) with
   | error k =>
    rw [hy] at ih
    simp only [ziU,List.length_drop] at ih
    show w+c+b+k≤l.length
    omega
   | ok y =>
    rw [hy] at ih
    obtain⟨g'',k⟩:=y
    simp only [ziU,List.length_drop,Bool.false_eq_true,if_false] at ih
    simp only [ziU]
    obtain⟨i1,i2,i3,i4,i5⟩:=ih
    obtain⟨s1,s0,s2,s3,s4⟩:=hs
    refine⟨by omega,by omega,by omega,by omega,?_⟩
    have e1:cnt g'' - cnt g=(cnt g'' - cnt g')+1:=by omega
    rw [e1,Nat.succ_mul]
    cases first with
    | true=>simp only [if_true];omega
    | false =>
     have:=hw.2 rfl
     simp only [Bool.false_eq_true,if_false]
     omega
theorem zgX {V:PV} (hV:GoodV V) (g:List (List Nd) × Int) (p:Nat) (l:List UInt8):zhg (fun g=>g.1.flatten.length) (fun g=>g.1.length) 1 l g (zgU V g p l):=by
 have h:=hV g.2 p l
 rw [zgU]
 cases hx:V g.2 p l with
 | error k=>rw [hx] at h;exact h
 | ok x =>
  rw [hx] at h
  obtain⟨x,c⟩:=x
  simp only at h
  simp only [zhg]
  refine⟨h.1,h.1,h.2.1,?_,by simp⟩
  rw [List.flatten_append,List.length_append]
  simp only [List.flatten_cons,List.flatten_nil,List.append_nil]
  omega
def memW (ms:List Mem):Nat:=(ms.flatMap memR).length
theorem zen {V:PV} (hV:GoodV V) (g:GO) (p:Nat) (l:List UInt8):zhg (fun g=>memW g.1) (fun g=>g.1.length) 4 l g (zdp V g p l):=by
 rw [zdp]
 cases hq:quoL l with
 | none=>exact Nat.zero_le _
 | some x =>
  obtain⟨key,c⟩:=x
  have hc:=zj0 hq
  dsimp only at hc ⊢
  have hb:=zbx (l.drop c)
  rw [List.length_drop] at hb
  generalize hbe:c+zaD (l.drop c)=b at hb
  by_cases h1:(l.drop b).head?=some 58
  ·rw [if_pos h1]
   have hbl:b < l.length:=by
    rcases Nat.lt_or_ge b l.length with h | h
    ·exact h
    ·rw [zcy h] at h1;cases h1
   have hb2:=zbx (l.drop (b+1))
   rw [List.length_drop] at hb2
   generalize hbe2:b+1+zaD (l.drop (b+1))=b2 at hb2
   have h:=hV (twK g.1 g.2.1 p key) (p+b2) (l.drop b2)
   cases hx:V (twK g.1 g.2.1 p key) (p+b2) (l.drop b2) with
   | error k =>
    rw [hx] at h
    simp only [List.length_drop] at h
    simp only [zhg]
    omega
   | ok x =>
    rw [hx] at h
    obtain⟨x,c2⟩:=x
    simp only [List.length_drop] at h
    simp only [zhg]
    refine⟨by omega,by omega,by omega,?_,by simp⟩
    simp only [memW,List.flatMap_append,List.length_append,List.flatMap_cons,List.flatMap_nil,List.append_nil,memR,List.length_cons]
    omega
  ·rw [if_neg h1]
   show b≤l.length
   omega
theorem zit (m:Mem):∀ l:List Mem,(insM m l).Perm (m::l)
 | []=>.refl _
 | x::xs=>by
  rw [insM]
  split
  ·exact .refl _
  ·exact((zit m xs).cons x).trans (.swap m x xs)
theorem zjh:∀ (l acc:List Mem),(l.foldl (fun acc m=>insM m acc) acc).Perm (acc++l)
 | [],acc=>by simp
 | m::l,acc=>by
  rw [List.foldl_cons]
  refine(zjh l _).trans ?_
  refine((zit m acc).append_right l).trans ?_
  exact List.perm_middle.symm
theorem zgY (l:List Mem):(zfI l).Perm l:=zjh l []
theorem memW_sort (ms:List Mem):memW (zfI ms)=memW ms:=((zgY ms).flatMap_right memR).length_eq
theorem inW_le {l:List UInt8} (h:l.length≠0):inW l≤l.length∧1≤inW l:=by
 have hb:=zbx (l.drop 1)
 rw [List.length_drop] at hb
 unfold inW
 omega
theorem zj1 {w:List UInt8} {n:Nd} (hw:1≤w.length) {tw:Int} {l:List UInt8}:match zky w n tw l with
  | .ok x=>1≤x.2∧x.2≤l.length∧x.1.1.length≤x.2∧1≤x.1.1.length
  | .error k=>k≤l.length:=by
 have:=zjY w l
 rw [zky]
 by_cases h:zfH w l=w.length
 ·rw [if_pos h]
  simp only [List.length_singleton]
  omega
 ·rw [if_neg h]
  exact this.2
theorem zcG:∀ n,GoodV (pvF n)
 | 0=>fun _ _ _=>Nat.zero_le _
 | n+1=>fun tw p l=>by
  have ih:=zcG n
  rw [pvF]
  by_cases h0:l.length=0
  ·rw [if_pos h0]
   exact Nat.zero_le _
  rw [if_neg h0]
  have hw:=inW_le h0
  by_cases h1:l.headD 0=91
  ·rw [if_pos h1,zkA]
   have h:=zem _ _ 1 93 _ (zgX ih) (l.length+1) true ([],tw) (p+inW l) (l.drop (inW l))
   cases hx:zda 93 (zgU (pvF n)) (l.length+1) true ([],tw) (p+inW l) (l.drop (inW l)) with
   | error k =>
    rw [hx] at h
    simp only [ziU,List.length_drop] at h
    show inW l+k≤l.length
    omega
   | ok x =>
    rw [hx] at h
    simp only [ziU,List.length_drop,List.flatten_nil,List.length_nil] at h
    simp only [zaL,List.length_cons]
    omega
  rw [if_neg h1]
  by_cases h2:l.headD 0=123
  ·rw [if_pos h2,objV]
   have h:=zem _ _ 4 125 _ (zen ih) (l.length+1) true ([],tw,[]) (p+inW l) (l.drop (inW l))
   cases hx:zda 125 (zdp (pvF n)) (l.length+1) true ([],tw,[]) (p+inW l) (l.drop (inW l)) with
   | error k =>
    rw [hx] at h
    simp only [ziU,List.length_drop] at h
    show inW l+k≤l.length
    omega
   | ok x =>
    rw [hx] at h
    have hm:memW ([]:List Mem)=0:=rfl
    have hs:=memW_sort x.1.1
    simp only [ziU,List.length_drop,List.length_nil,hm] at h
    simp only [memW] at hs h
    simp only [objR,List.length_cons]
    omega
  rw [if_neg h2]
  by_cases h3:l.headD 0=34
  ·rw [if_pos h3,textV]
   cases hq:quoL l with
   | none=>exact Nat.zero_le _
   | some x =>
    have:=zj0 hq
    simp only [List.length_singleton]
    omega
  rw [if_neg h3]
  by_cases h4:l.headD 0=45∨isDg (l.headD 0)=true
  ·rw [if_pos h4,zkz]
   cases hq:zeY l with
   | none=>exact negBad_le
   | some x =>
    have:=numPL_le hq
    simp only [List.length_singleton]
    omega
  rw [if_neg h4,ziT]
  by_cases h5:l.head?=some 110
  ·rw [if_pos h5]
   exact zj1 (w:=wNull) (by decide)
  rw [if_neg h5]
  by_cases h6:l.head?=some 102
  ·rw [if_pos h6]
   exact zj1 (w:=zkx) (by decide)
  rw [if_neg h6]
  by_cases h7:l.head?=some 116
  ·rw [if_pos h7]
   exact zj1 (w:=wTrue) (by decide)
  rw [if_neg h7]
  exact Nat.zero_le _
theorem members_le {n:Nat} {tw:Int} {p:Nat} {l:List UInt8} {x:GO × Nat} (h:zda 125 (zdp (pvF n)) (l.length+1) true ([],tw,[]) (p+inW l) (l.drop (inW l))=.ok x):x.1.1.length * 5≤l.length:=by
 have h1:=zem _ _ 4 125 _ (zen (zcG n)) (l.length+1) true ([],tw,[]) (p+inW l) (l.drop (inW l))
 rw [h] at h1
 simp only [ziU,List.length_drop,List.length_nil,if_true] at h1
 omega
end Go.Proofs.YtamcppdhkeiaiaaGreatDoor
end

section
namespace Go.Proofs.YtamcppdhkeiaiaaGreatDoor
open Go Go.Eng
def LA (s:List UInt8) (p tw:Int) (l:List Nd):zad:=[.rw (rC s p tw),.rw [.ptr 0 0],.rw (l.flatMap nC),.rw [.ref 2 0 l.length 4]]
def LB (s:List UInt8) (p tw:Int) (l:List Nd):zad:=[.rw (rC s p tw),.rw [.ptr 0 0],.dead,.rw [.ref 4 0 l.length 4],.rw (l.flatMap nC)]
def loneK (s:List UInt8) (p:Nat) (x:Except Nat ((List (List Nd) × Int) × Nat)):AEnd→zad→Prop:=fun y σ=>match x with
 | .ok x=>y=.ret (.tup [])∧σ=LB s ((p+x.2:Nat):Int) x.1.2 (zaL x.1.1)
 | .error k=>y=.pan (flt ((p+k:Nat):Int) 2)∧σ=[.dead,.dead,.dead,.dead]
def loneT:Tr:=(.br 0 (.br 1 (.br 2 (.br 3 (.br 4 .done .nil) .nil) .nil) .nil) (.br 1 (.br 0 (.br 2 (.br 3 (.br 4 .done .nil) .nil) .nil) (.br 2 (.br 0 (.br 3 (.br 4 .done .nil) .nil) .nil) .nil)) .nil))
section
variable {σ : zad} {K : AV → Prop} {KS : AV → zad → Prop} {id : Nat}
theorem zbh (id off len:Nat) (n:Int):ia3 (some tyNd) (.ref id off len 4) n K=(0≤n∧n < len∧K (.ptr id (off+n.toNat * 4))):=by simp [ia3,tyNd]
theorem zcY (h:Nd) (t:List Nd):ld2 (some zaW) (some ((h::t).flatMap nC)) 3 K=K (i64 h.kids):=by simp [ld2,wfin,zaW,TD.agg,nC]
theorem zbN (h:Nd) (t:List Nd):(3 < ((h::t).flatMap nC).length)=True:=by simp [nC]
theorem zbO (h:Nd) (t:List Nd) (k:Int):((h::t).flatMap nC).set 3 (i64 k)=(⟨h.kind,h.num,h.text,k⟩::t:List Nd).flatMap nC:=by simp [nC]
end
def zkC (n:Nat) (s:List UInt8):Prop:=∀ (p:Nat) (tw:Int),p≤s.length→s.length - p < n→ACalls Tryz.prog 67 [.ptr 0 0] (rS s p tw) (outV s p (pvF n tw p (s.drop p)))
theorem leI_rfl:∀ e:Env,leI e e
 | []=>trivial
 | a::l=>⟨.inr rfl,leI_rfl l⟩
theorem zeo {n0:Nat} {Q:Post} {env:Env} {σ:zad} (h:Q .normal env σ):fitX n0 Q .normal env σ:=⟨env,σ,zct (leI_rfl _),h⟩
theorem lone_ok (n:Nat) (s:List UInt8) (hs:s.length≤1000000000) (hV:zkC n s) (p:Nat) (tw:Int) (ks:List (List Nd)) (hp:p≤s.length) (hn:s.length - p < n) (hk:ks.flatten.length≤1000000000) (hk2:ks.length≤1000000000):ACalls Tryz.prog 107 [.ptr 3 0,.ptr 1 0] (LA s p tw (zaL ks)) (loneK s p (zgU (pvF n) (ks,tw) p (s.drop p))):=by
 have h:=hV p tw hp hn
 have hg:=zcG n tw p (s.drop p)
 unfold outV rS at h
 unfold LA zaL
 refine ACalls.body T_ok Tryz.func107 (by kernel_rfl) rfl Tryz.ntmps107 (congrArg Array.toList Tryz.results107) ?_
 try simp -implicitDefEqProofs only [LM3,LB9,eq_self,zaa,zab,zbh,zcY,zbN,zbO,Nat.zero_mul,TB,SB,Int.reduceToNat,Nat.reduceAdd,Nat.reduceEqDiff,Nat.reduceLT,Nat.reduceMod,Nat.reducePow,Nat.reduceSub,if_true,reduceIte]
 refine⟨by omega,by omega,by unfold inI;omega,by omega,by omega,?_⟩
 refine zh8 loneT (by kernel_rfl) (by kernel_rfl) ?_
 unfold loneT
 try simp -implicitDefEqProofs only [LM3,LB9,eq_self,zaa,zab,zbh,zcY,zbN,zbO,Nat.zero_mul,TB,SB,Int.reduceToNat,Nat.reduceAdd,Nat.reduceEqDiff,Nat.reduceLT,Nat.reduceMod,Nat.reducePow,Nat.reduceSub,if_true,reduceIte]
 cases hx:pvF n tw p (s.drop p) with
 | error k =>
  rw [hx] at h
  refine⟨?_,?_,?_⟩
  all_goals
   refine ACalls.frame ([0]) (h) rfl (by decide) (by simp [LM1,zah,zae,renL,AV.ren,AEnd.ren,zac,List.getElem?_cons_zero,List.getElem?_cons_succ]) (by first | rfl | simp [LM1,zah,zae,renL,AV.ren,AEnd.ren,zac,List.getElem?_cons_zero,List.getElem?_cons_succ]) ?_
   rintro _ _ ⟨rfl,rfl⟩
   refine⟨.pan (flt ((p+k:Nat):Int) 2),[.dead,.rw [.ptr 0 0],.rw ((⟨4,0,[],(ks.length:Int)+1⟩::ks.flatten:List Nd).flatMap nC),.rw [.ref 2 0 (ks.flatten.length+1) 4]],(by show zae _ _ ([0,1,1,1]) ([0,1,1,1]) 0 _;simp [LM1,zah,zae,renL,AV.ren,AEnd.ren,zac,List.getElem?_cons_zero,List.getElem?_cons_succ]),(by show AEnd.ren ([0,1,1,1]) _ _;first | rfl | simp [LM1,zah,zae,renL,AV.ren,AEnd.ren,zac,List.getElem?_cons_zero,List.getElem?_cons_succ]),?_⟩
   try simp -implicitDefEqProofs only [LM3,LB9,eq_self,zaa,zab,zbh,zcY,zbN,zbO,Nat.zero_mul,TB,SB,Int.reduceToNat,Nat.reduceAdd,Nat.reduceEqDiff,Nat.reduceLT,Nat.reduceMod,Nat.reducePow,Nat.reduceSub,if_true,reduceIte]
   refine zbQ (za0 _ _ _) ?_
   unfold loneK zgU
   rw [hx]
   exact⟨rfl,rfl⟩
 | ok x =>
  rw [hx] at h hg
  obtain⟨x,c⟩:=x
  dsimp only at h hg
  have hr:zaL (ks++[x.1])=(⟨4,0,[],(ks.length:Int)+1⟩::ks.flatten)++x.1:=by
   simp [zaL]
  have hxl:x.1.length≤1000000000:=by rw [List.length_drop] at hg;omega
  refine⟨?_,?_,?_⟩
  all_goals
   refine ACalls.frame ([0]) (h) rfl (by decide) (by simp [LM1,zah,zae,renL,AV.ren,AEnd.ren,zac,List.getElem?_cons_zero,List.getElem?_cons_succ]) (by first | rfl | simp [LM1,zah,zae,renL,AV.ren,AEnd.ren,zac,List.getElem?_cons_zero,List.getElem?_cons_succ]) ?_
   rintro _ _ ⟨rfl,rfl⟩
   refine⟨.ret (slN x.1),[.rw (rC s ((p+c:Nat):Int) x.2),.rw [.ptr 0 0],.rw ((⟨4,0,[],(ks.length:Int)+1⟩::ks.flatten:List Nd).flatMap nC),.rw [.ref 2 0 (ks.flatten.length+1) 4]],(by show zae _ _ ([0,1,1,1]) ([0,1,1,1]) 0 _;simp [LM1,zah,zae,renL,AV.ren,AEnd.ren,zac,List.getElem?_cons_zero,List.getElem?_cons_succ]),(by show AEnd.ren ([0,1,1,1]) _ _;first | rfl | simp [LM1,zah,zae,renL,AV.ren,AEnd.ren,zac,List.getElem?_cons_zero,List.getElem?_cons_succ]),?_⟩
   try simp -implicitDefEqProofs only [LM3,LB9,eq_self,zaa,zab,zbh,zcY,zbN,zbO,Nat.zero_mul,TB,SB,Int.reduceToNat,Nat.reduceAdd,Nat.reduceEqDiff,Nat.reduceLT,Nat.reduceMod,Nat.reducePow,Nat.reduceSub,if_true,reduceIte]
   refine ndF.app rfl rfl T37 T37 (zfX _) T54 rfl rfl (l:=⟨4,0,[],(ks.length:Int)+1⟩::ks.flatten) (ys:=x.1) rfl (ndF.asrc x.1) rfl (by simp only [List.length_cons];omega) (by simp only [List.length_cons,tyNd];omega) ?_
   try simp -implicitDefEqProofs only [LM3,LB9,eq_self,zaa,zab,zbh,zcY,zbN,zbO,Nat.zero_mul,TB,SB,Int.reduceToNat,Nat.reduceAdd,Nat.reduceEqDiff,Nat.reduceLT,Nat.reduceMod,Nat.reducePow,Nat.reduceSub,if_true,reduceIte]
   refine zeo ?_
   try simp -implicitDefEqProofs only [LM3,LB9,eq_self,zaa,zab,zbh,zcY,zbN,zbO,Nat.zero_mul,TB,SB,Int.reduceToNat,Nat.reduceAdd,Nat.reduceEqDiff,Nat.reduceLT,Nat.reduceMod,Nat.reducePow,Nat.reduceSub,if_true,reduceIte]
   refine zaH ?_
   unfold loneK zgU
   rw [hx]
   refine⟨rfl,?_⟩
   simp only [LB]
   rw [hr]
   rw [show ks.flatten.length+1+x.1.length=((⟨4,0,[],(ks.length:Int)+1⟩::ks.flatten:List Nd)++x.1).length by simp only [List.length_append,List.length_cons]]
   rfl
def zhc (s:List UInt8) (p:Nat) (x:Except Nat ((List (List Nd) × Int) × Nat)):AEnd→zad→Prop:=fun y σ=>match x with
 | .ok x=>y=.ret (.tup [])∧σ=(if x.1.1.length=0 then LA s ((p+x.2:Nat):Int) x.1.2 (zaL x.1.1) else LB s ((p+x.2:Nat):Int) x.1.2 (zaL x.1.1))
 | .error k=>y=.pan (flt ((p+k:Nat):Int) 2)∧σ=[.dead,.dead,.dead,.dead]
def shE {γ:Type} (d:Nat):Except Nat (γ × Nat)→Except Nat (γ × Nat)
 | .error k=>.error (d+k)
 | .ok x=>.ok (x.1,d+x.2)
theorem shE_0 {γ:Type} (x:Except Nat (γ × Nat)):shE 0 x=x:=by
 cases x <;> simp [shE]
theorem zj2 {γ:Type} (a b:Nat) (x:Except Nat (γ × Nat)):shE a (shE b x)=shE (a+b) x:=by
 cases x <;> simp [shE,Nat.add_assoc]
theorem zeI {γ:Type} {e:UInt8} {step:γ→Nat→List UInt8→Except Nat (γ × Nat)} {n:Nat} {first:Bool} {g g':γ} {p c w:Nat} {l:List UInt8} (h1:l.head?≠some e) (h2:(!first && decide (l.head?≠some 44))=false) (hw:w=if first then 0 else 1+zaD (l.drop 1)) (hx:step g (p+w) (l.drop w)=.ok (g',c)) :
  zda e step (n+1) first g p l=shE (w+c+zaD (l.drop (w+c))) (zda e step n false g' (p+(w+c+zaD (l.drop (w+c)))) (l.drop (w+c+zaD (l.drop (w+c))))):=by
 subst hw
 rw [zda,if_neg h1,if_neg (by rw [h2];decide)]
 dsimp only
 rw [hx]
 dsimp only
 cases zda e step n false g' _ _ <;> rfl
theorem zgv {γ:Type} {e:UInt8} {step:γ→Nat→List UInt8→Except Nat (γ × Nat)} {n:Nat} {first:Bool} {g:γ} {p k w:Nat} {l:List UInt8} (h1:l.head?≠some e) (h2:(!first && decide (l.head?≠some 44))=false) (hw:w=if first then 0 else 1+zaD (l.drop 1)) (hx:step g (p+w) (l.drop w)=.error k) :
  zda e step (n+1) first g p l=.error (w+k):=by
 subst hw
 rw [zda,if_neg h1,if_neg (by rw [h2];decide)]
 dsimp only
 rw [hx]
theorem zgw {γ:Type} {e:UInt8} {step:γ→Nat→List UInt8→Except Nat (γ × Nat)} {n:Nat} {first:Bool} {g:γ} {p:Nat} {l:List UInt8} (h1:l.head?=some e):zda e step (n+1) first g p l=.ok (g,1):=by
 rw [zda,if_pos h1]
theorem rowsG_no {γ:Type} {e:UInt8} {step:γ→Nat→List UInt8→Except Nat (γ × Nat)} {n:Nat} {g:γ} {p:Nat} {l:List UInt8} (h1:l.head?≠some e) (h2:l.head?≠some 44):zda e step (n+1) false g p l=.error 0:=by
 rw [zda,if_neg h1,if_pos (by simp [h2])]
theorem lrows_ok (n:Nat) (s:List UInt8) (hs:s.length≤100000000) (hV:zkC n s) (p:Nat) (tw:Int) (hp:p < s.length) (hn:s.length - p≤n):ACalls Tryz.prog 106 [.ptr 0 0,u8 93,.fn (.func 107) [] [.ptr 3 0,.ptr 1 0]] (LA s p tw (zaL [])) (zhc s (p+inW (s.drop p)) (zda 93 (zgU (pvF n)) ((s.drop p).length+1) true ([],tw) (p+inW (s.drop p)) (s.drop (p+inW (s.drop p))))):=by
 have hin:inW (s.drop p)=1+zaD (s.drop (p+1)):=by rw [inW,List.drop_drop]
 have hb:=zbx (s.drop (p+1))
 rw [List.length_drop] at hb
 have hsk:=zcW s (p+1) tw (by omega) (by omega)
 rw [show p+1+zaD (s.drop (p+1))=p+inW (s.drop p) by omega] at hsk
 unfold rS at hsk
 obtain⟨p',hp'⟩:∃ p',p'=p+inW (s.drop p):=⟨_,rfl⟩
 rw [← hp'] at hsk ⊢
 unfold LA
 refine ACalls.body T_ok Tryz.func106 (by kernel_rfl) rfl Tryz.ntmps106 (congrArg Array.toList Tryz.results106) ?_
 try simp -implicitDefEqProofs only [LM3,LB9,eq_self,zaa,zab,zbh,zcY,zbN,zbO,Nat.zero_mul,TB,SB,Int.reduceToNat,Nat.reduceAdd,Nat.reduceEqDiff,Nat.reduceLT,Nat.reduceMod,Nat.reducePow,Nat.reduceSub,if_true,reduceIte]
 refine⟨by unfold inI;omega,?_⟩
 refine ACalls.frame ([0]) (hsk) rfl (by decide) (by simp [LM1,zah,zae,renL,AV.ren,AEnd.ren,zac,List.getElem?_cons_zero,List.getElem?_cons_succ]) (by first | rfl | simp [LM1,zah,zae,renL,AV.ren,AEnd.ren,zac,List.getElem?_cons_zero,List.getElem?_cons_succ]) ?_
 rintro _ _ ⟨rfl,rfl⟩
 refine⟨.ret (.tup []),[.rw (rC s p' tw),.rw [.ptr 0 0],.rw ((zaL []).flatMap nC),.rw [.ref 2 0 (zaL []).length 4]],(by show zae _ _ ([0,1,1,1]) ([0,1,1,1]) 0 _;simp [LM1,zah,zae,renL,AV.ren,AEnd.ren,zac,List.getElem?_cons_zero,List.getElem?_cons_succ]),(by show AEnd.ren ([0,1,1,1]) _ _;first | rfl | simp [LM1,zah,zae,renL,AV.ren,AEnd.ren,zac,List.getElem?_cons_zero,List.getElem?_cons_succ]),?_⟩
 try simp -implicitDefEqProofs only [LM3,LB9,eq_self,zaa,zab,zbh,zcY,zbN,zbO,Nat.zero_mul,TB,SB,Int.reduceToNat,Nat.reduceAdd,Nat.reduceEqDiff,Nat.reduceLT,Nat.reduceMod,Nat.reducePow,Nat.reduceSub,if_true,reduceIte]
 rw [zbe]
 refine⟨Nat × Bool × (List (List Nd) × Int) × Nat,fun x=>p'≤x.2.2.2∧x.2.2.2≤s.length∧s.length - x.2.2.2 < x.1∧x.2.2.1.1.flatten.length≤x.2.2.2∧x.2.2.1.1.length≤x.2.2.2∧(x.2.1=decide (x.2.2.1.1.length=0))∧zda 93 (zgU (pvF n)) ((s.drop p).length+1) true ([],tw) p' (s.drop p')=shE (x.2.2.2 - p') (zda 93 (zgU (pvF n)) x.1 x.2.1 x.2.2.1 x.2.2.2 (s.drop x.2.2.2)),fun x=>[.ptr 0 0,u8 93,.fn (.func 107) [] [.ptr 3 0,.ptr 1 0],.bot,.bot,.bot,bl x.2.1,.bot,.bot,.bot,.bot,.bot,.bot,.bot,.bot,.bot,.bot,.bot,.bot,.bot,.bot,.bot,.bot,.bot,.bot,.bot,.bot,.bot,.bot,.bot,.bot,.bot,.bot,.bot,.bot,.bot,.bot],fun x=>if x.2.1 then LA s (x.2.2.2:Int) x.2.2.1.2 (zaL x.2.2.1.1) else LB s (x.2.2.2:Int) x.2.2.1.2 (zaL x.2.2.1.1),fun x=>x.1,((s.drop p).length+1,true,([],tw),p'),⟨Nat.le_refl _,by dsimp only;omega,by dsimp only;rw [List.length_drop];omega,Nat.zero_le _,Nat.zero_le _,rfl,by simp only [Nat.sub_self,shE_0]⟩,zaj (q:=[0,1,2,3]) rfl rfl (by decide) ?_ ?_,?_⟩
 ·try simp only [FB,AV.ren,Nat.reduceAdd,reduceCtorEq]
  rfl
 ·simp only [if_true,LA]
  simp [zah,zaG,ndF.fren,zbo,renL,AV.ren]
 ·rintro⟨i,first,⟨ks,tw'⟩,q⟩ ⟨i1,i2,i3,i4,i5,i7,i6⟩
  dsimp only at i1 i2 i3 i4 i5 i7 i6 ⊢
  obtain⟨i,rfl⟩:∃ j,i=j+1:=⟨i - 1,by omega⟩
  have his:=is_ok s q tw' 93 i2
  unfold rS at his
  have hisAt:isAt s q 93=decide ((s.drop q).head?=some 93):=rfl
  have hq0:1≤p':=by omega
  cases first with
  | true =>
   rw [if_pos rfl]
   unfold LA
   try simp -implicitDefEqProofs only [LM3,LB9,eq_self,zaa,zab,zbh,zcY,zbN,zbO,Nat.zero_mul,TB,SB,Int.reduceToNat,Nat.reduceAdd,Nat.reduceEqDiff,Nat.reduceLT,Nat.reduceMod,Nat.reducePow,Nat.reduceSub,if_true,reduceIte]
   by_cases h93:(s.drop q).head?=some 93
   ·rw [hisAt,decide_eq_true h93] at his
    refine ACalls.frame ([0]) (his) rfl (by decide) (by simp [LM1,zah,zae,renL,AV.ren,AEnd.ren,zac,List.getElem?_cons_zero,List.getElem?_cons_succ]) (by first | rfl | simp [LM1,zah,zae,renL,AV.ren,AEnd.ren,zac,List.getElem?_cons_zero,List.getElem?_cons_succ]) ?_
    rintro _ _ ⟨rfl,rfl⟩
    refine⟨.ret (bl true),[.rw (rC s q tw'),.rw [.ptr 0 0],.rw ((zaL ks).flatMap nC),.rw [.ref 2 0 (zaL ks).length 4]],(by show zae _ _ ([0,1,1,1]) ([0,1,1,1]) 0 _;simp [LM1,zah,zae,renL,AV.ren,AEnd.ren,zac,List.getElem?_cons_zero,List.getElem?_cons_succ]),(by show AEnd.ren ([0,1,1,1]) _ _;first | rfl | simp [LM1,zah,zae,renL,AV.ren,AEnd.ren,zac,List.getElem?_cons_zero,List.getElem?_cons_succ]),?_⟩
    try simp -implicitDefEqProofs only [LM3,LB9,eq_self,zaa,zab,zbh,zcY,zbN,zbO,Nat.zero_mul,TB,SB,Int.reduceToNat,Nat.reduceAdd,Nat.reduceEqDiff,Nat.reduceLT,Nat.reduceMod,Nat.reducePow,Nat.reduceSub,if_true,reduceIte]
    refine⟨by unfold inI;omega,zaH ?_⟩
    unfold zhc
    rw [i6,zgw h93]
    refine⟨rfl,?_⟩
    simp only [shE]
    rw [if_pos (of_decide_eq_true i7.symm)]
    rw [LA,show p'+(q - p'+1)=q+1 by omega]
    rfl
   rw [hisAt,decide_eq_false h93] at his
   refine ACalls.frame ([0]) (his) rfl (by decide) (by simp [LM1,zah,zae,renL,AV.ren,AEnd.ren,zac,List.getElem?_cons_zero,List.getElem?_cons_succ]) (by first | rfl | simp [LM1,zah,zae,renL,AV.ren,AEnd.ren,zac,List.getElem?_cons_zero,List.getElem?_cons_succ]) ?_
   rintro _ _ ⟨rfl,rfl⟩
   refine⟨.ret (bl false),[.rw (rC s q tw'),.rw [.ptr 0 0],.rw ((zaL ks).flatMap nC),.rw [.ref 2 0 (zaL ks).length 4]],(by show zae _ _ ([0,1,1,1]) ([0,1,1,1]) 0 _;simp [LM1,zah,zae,renL,AV.ren,AEnd.ren,zac,List.getElem?_cons_zero,List.getElem?_cons_succ]),(by show AEnd.ren ([0,1,1,1]) _ _;first | rfl | simp [LM1,zah,zae,renL,AV.ren,AEnd.ren,zac,List.getElem?_cons_zero,List.getElem?_cons_succ]),?_⟩
   try simp -implicitDefEqProofs only [LM3,LB9,eq_self,zaa,zab,zbh,zcY,zbN,zbO,Nat.zero_mul,TB,SB,Int.reduceToNat,Nat.reduceAdd,Nat.reduceEqDiff,Nat.reduceLT,Nat.reduceMod,Nat.reducePow,Nat.reduceSub,if_true,reduceIte]
   obtain⟨r,hr⟩:∃ r,r=q+0:=⟨_,rfl⟩
   have hrl:r≤s.length:=by omega
   obtain rfl:r=q:=by omega
   have hl:=lone_ok n s (by omega) hV r tw' ks hrl (by omega) (by omega) (by omega)
   have hg:=zgX (zcG n) (ks,tw') r (s.drop r)
   unfold loneK LA at hl
   have hdr:(s.drop r).drop 0=s.drop r:=rfl
   cases hx:zgU (pvF n) (ks,tw') r (s.drop r) with
   | error k =>
    rw [hx] at hl
    refine ACalls.frame ([0,1,2,3]) (hl) rfl (by decide) (by simp [LM1,zah,zae,renL,AV.ren,AEnd.ren,zac,List.getElem?_cons_zero,List.getElem?_cons_succ]) (by first | rfl | simp [LM1,zah,zae,renL,AV.ren,AEnd.ren,zac,List.getElem?_cons_zero,List.getElem?_cons_succ]) ?_
    rintro _ _ ⟨rfl,rfl⟩
    refine⟨.pan (flt ((r+k:Nat):Int) 2),[.dead,.dead,.dead,.dead],(by show zae _ _ ([0,1,2,3]) ([0,1,2,3]) 0 _;simp [LM1,zah,zae,renL,AV.ren,AEnd.ren,zac,List.getElem?_cons_zero,List.getElem?_cons_succ]),(by show AEnd.ren ([0,1,2,3]) _ _;first | rfl | simp [LM1,zah,zae,renL,AV.ren,AEnd.ren,zac,List.getElem?_cons_zero,List.getElem?_cons_succ]),?_⟩
    try simp -implicitDefEqProofs only [LM3,LB9,eq_self,zaa,zab,zbh,zcY,zbN,zbO,Nat.zero_mul,TB,SB,Int.reduceToNat,Nat.reduceAdd,Nat.reduceEqDiff,Nat.reduceLT,Nat.reduceMod,Nat.reducePow,Nat.reduceSub,if_true,reduceIte]
    refine zbQ (za0 _ _ _) ?_
    unfold zhc
    rw [i6,zgv (w:=0) (k:=k) h93 rfl rfl (by rw [hdr];exact hx)]
    refine⟨?_,rfl⟩
    rw [show p'+(r - p'+(0+k))=r+k by omega]
   | ok x =>
    rw [hx] at hl hg
    obtain⟨⟨ks2,tw2⟩,c⟩:=x
    simp only [zhg,List.length_drop] at hg
    dsimp only [LB] at hl
    refine ACalls.frame ([0,1,2,3]) (hl) rfl (by decide) (by simp [LM1,zah,zae,renL,AV.ren,AEnd.ren,zac,List.getElem?_cons_zero,List.getElem?_cons_succ]) (by first | rfl | simp [LM1,zah,zae,renL,AV.ren,AEnd.ren,zac,List.getElem?_cons_zero,List.getElem?_cons_succ]) ?_
    rintro _ _ ⟨rfl,rfl⟩
    refine⟨.ret (.tup []),[.rw (rC s ((r+c:Nat):Int) tw2),.rw [.ptr 0 0],.dead,.rw [.ref 4 0 (zaL ks2).length 4],.rw ((zaL ks2).flatMap nC)],(by show zae _ _ ([0,1,2,3,4]) ([0,1,2,3,4]) 0 _;simp [LM1,zah,zae,renL,AV.ren,AEnd.ren,zac,List.getElem?_cons_zero,List.getElem?_cons_succ]),(by show AEnd.ren ([0,1,2,3,4]) _ _;first | rfl | simp [LM1,zah,zae,renL,AV.ren,AEnd.ren,zac,List.getElem?_cons_zero,List.getElem?_cons_succ]),?_⟩
    try simp -implicitDefEqProofs only [LM3,LB9,eq_self,zaa,zab,zbh,zcY,zbN,zbO,Nat.zero_mul,TB,SB,Int.reduceToNat,Nat.reduceAdd,Nat.reduceEqDiff,Nat.reduceLT,Nat.reduceMod,Nat.reducePow,Nat.reduceSub,if_true,reduceIte]
    have hsk3:=zcW s (r+c) tw2 (by omega) (by omega)
    have hb3:=zbx (s.drop (r+c))
    rw [List.length_drop] at hb3
    unfold rS at hsk3
    refine ACalls.frame ([0]) (hsk3) rfl (by decide) (by simp [LM1,zah,zae,renL,AV.ren,AEnd.ren,zac,List.getElem?_cons_zero,List.getElem?_cons_succ]) (by first | rfl | simp [LM1,zah,zae,renL,AV.ren,AEnd.ren,zac,List.getElem?_cons_zero,List.getElem?_cons_succ]) ?_
    rintro _ _ ⟨rfl,rfl⟩
    refine⟨.ret (.tup []),[.rw (rC s ((r+c+zaD (s.drop (r+c)):Nat):Int) tw2),.rw [.ptr 0 0],.dead,.rw [.ref 4 0 (zaL ks2).length 4],.rw ((zaL ks2).flatMap nC)],(by show zae _ _ ([0,1,1,1,1]) ([0,1,1,1,1]) 0 _;simp [LM1,zah,zae,renL,AV.ren,AEnd.ren,zac,List.getElem?_cons_zero,List.getElem?_cons_succ]),(by show AEnd.ren ([0,1,1,1,1]) _ _;first | rfl | simp [LM1,zah,zae,renL,AV.ren,AEnd.ren,zac,List.getElem?_cons_zero,List.getElem?_cons_succ]),?_⟩
    try simp -implicitDefEqProofs only [LM3,LB9,eq_self,zaa,zab,zbh,zcY,zbN,zbO,Nat.zero_mul,TB,SB,Int.reduceToNat,Nat.reduceAdd,Nat.reduceEqDiff,Nat.reduceLT,Nat.reduceMod,Nat.reducePow,Nat.reduceSub,if_true,reduceIte]
    rw [zal]
    refine⟨(i,false,(ks2,tw2),r+c+zaD (s.drop (r+c))),⟨by dsimp only;omega,by dsimp only;omega,by dsimp only;omega,by dsimp only at hg ⊢;omega,by dsimp only at hg ⊢;omega,(decide_eq_false (by dsimp only at hg ⊢;omega)).symm,?_⟩,(by show i < i+1;omega),?_⟩
    ·rw [i6,zeI (w:=0) (c:=c) (g':=(ks2,tw2)) h93 rfl rfl (by rw [hdr];exact hx),zj2]
     rw [List.drop_drop,Nat.zero_add,List.drop_drop,show r+(c+zaD (s.drop (r+c)))=r+c+zaD (s.drop (r+c)) by omega,show r - p'+(c+zaD (s.drop (r+c)))=r+c+zaD (s.drop (r+c)) - p' by omega]
    ·dsimp only
     rw [if_neg (by decide)]
     try unfold LB
     refine zaj (q:=[0,1,2,3,4]) rfl rfl (by decide) ?_ ?_
     ·try simp only [FB,AV.ren,Nat.reduceAdd,reduceCtorEq]
      try rfl
     ·simp [zah,zaG,ndF.fren,zbo,renL,AV.ren]
  | false =>
   rw [if_neg (by decide)]
   unfold LB
   try simp -implicitDefEqProofs only [LM3,LB9,eq_self,zaa,zab,zbh,zcY,zbN,zbO,Nat.zero_mul,TB,SB,Int.reduceToNat,Nat.reduceAdd,Nat.reduceEqDiff,Nat.reduceLT,Nat.reduceMod,Nat.reducePow,Nat.reduceSub,if_true,reduceIte]
   by_cases h93:(s.drop q).head?=some 93
   ·rw [hisAt,decide_eq_true h93] at his
    refine ACalls.frame ([0]) (his) rfl (by decide) (by simp [LM1,zah,zae,renL,AV.ren,AEnd.ren,zac,List.getElem?_cons_zero,List.getElem?_cons_succ]) (by first | rfl | simp [LM1,zah,zae,renL,AV.ren,AEnd.ren,zac,List.getElem?_cons_zero,List.getElem?_cons_succ]) ?_
    rintro _ _ ⟨rfl,rfl⟩
    refine⟨.ret (bl true),[.rw (rC s q tw'),.rw [.ptr 0 0],.dead,.rw [.ref 4 0 (zaL ks).length 4],.rw ((zaL ks).flatMap nC)],(by show zae _ _ ([0,1,1,1,1]) ([0,1,1,1,1]) 0 _;simp [LM1,zah,zae,renL,AV.ren,AEnd.ren,zac,List.getElem?_cons_zero,List.getElem?_cons_succ]),(by show AEnd.ren ([0,1,1,1,1]) _ _;first | rfl | simp [LM1,zah,zae,renL,AV.ren,AEnd.ren,zac,List.getElem?_cons_zero,List.getElem?_cons_succ]),?_⟩
    try simp -implicitDefEqProofs only [LM3,LB9,eq_self,zaa,zab,zbh,zcY,zbN,zbO,Nat.zero_mul,TB,SB,Int.reduceToNat,Nat.reduceAdd,Nat.reduceEqDiff,Nat.reduceLT,Nat.reduceMod,Nat.reducePow,Nat.reduceSub,if_true,reduceIte]
    refine⟨by unfold inI;omega,zaH ?_⟩
    unfold zhc
    rw [i6,zgw h93]
    refine⟨rfl,?_⟩
    simp only [shE]
    rw [if_neg (of_decide_eq_false i7.symm)]
    rw [LB,show p'+(q - p'+1)=q+1 by omega]
    rfl
   rw [hisAt,decide_eq_false h93] at his
   refine ACalls.frame ([0]) (his) rfl (by decide) (by simp [LM1,zah,zae,renL,AV.ren,AEnd.ren,zac,List.getElem?_cons_zero,List.getElem?_cons_succ]) (by first | rfl | simp [LM1,zah,zae,renL,AV.ren,AEnd.ren,zac,List.getElem?_cons_zero,List.getElem?_cons_succ]) ?_
   rintro _ _ ⟨rfl,rfl⟩
   refine⟨.ret (bl false),[.rw (rC s q tw'),.rw [.ptr 0 0],.dead,.rw [.ref 4 0 (zaL ks).length 4],.rw ((zaL ks).flatMap nC)],(by show zae _ _ ([0,1,1,1,1]) ([0,1,1,1,1]) 0 _;simp [LM1,zah,zae,renL,AV.ren,AEnd.ren,zac,List.getElem?_cons_zero,List.getElem?_cons_succ]),(by show AEnd.ren ([0,1,1,1,1]) _ _;first | rfl | simp [LM1,zah,zae,renL,AV.ren,AEnd.ren,zac,List.getElem?_cons_zero,List.getElem?_cons_succ]),?_⟩
   try simp -implicitDefEqProofs only [LM3,LB9,eq_self,zaa,zab,zbh,zcY,zbN,zbO,Nat.zero_mul,TB,SB,Int.reduceToNat,Nat.reduceAdd,Nat.reduceEqDiff,Nat.reduceLT,Nat.reduceMod,Nat.reducePow,Nat.reduceSub,if_true,reduceIte]
   have hwt:=ziq s q tw' 44 i2 (by omega)
   unfold zkB at hwt
   unfold rS at hwt
   have hisAt2:isAt s q 44=decide ((s.drop q).head?=some 44):=rfl
   by_cases h44:(s.drop q).head?=some 44
   rotate_left
   ·rw [hisAt2,decide_eq_false h44] at hwt
    refine ACalls.frame ([0]) (hwt) rfl (by decide) (by simp [LM1,zah,zae,renL,AV.ren,AEnd.ren,zac,List.getElem?_cons_zero,List.getElem?_cons_succ]) (by first | rfl | simp [LM1,zah,zae,renL,AV.ren,AEnd.ren,zac,List.getElem?_cons_zero,List.getElem?_cons_succ]) ?_
    rintro _ _ ⟨rfl,rfl⟩
    refine⟨.pan (flt q 2),[.dead,.rw [.ptr 0 0],.dead,.rw [.ref 4 0 (zaL ks).length 4],.rw ((zaL ks).flatMap nC)],(by show zae _ _ ([0,1,1,1,1]) ([0,1,1,1,1]) 0 _;simp [LM1,zah,zae,renL,AV.ren,AEnd.ren,zac,List.getElem?_cons_zero,List.getElem?_cons_succ]),(by show AEnd.ren ([0,1,1,1,1]) _ _;first | rfl | simp [LM1,zah,zae,renL,AV.ren,AEnd.ren,zac,List.getElem?_cons_zero,List.getElem?_cons_succ]),?_⟩
    try simp -implicitDefEqProofs only [LM3,LB9,eq_self,zaa,zab,zbh,zcY,zbN,zbO,Nat.zero_mul,TB,SB,Int.reduceToNat,Nat.reduceAdd,Nat.reduceEqDiff,Nat.reduceLT,Nat.reduceMod,Nat.reducePow,Nat.reduceSub,if_true,reduceIte]
    refine zbQ (za0 _ _ _) ?_
    unfold zhc
    rw [i6,rowsG_no h93 h44]
    refine⟨?_,rfl⟩
    rw [show p'+(q - p'+0)=q by omega]
   have hql:q < s.length:=by
    rcases Nat.lt_or_ge q s.length with h | h
    ·exact h
    ·rw [zcy h] at h44;cases h44
   rw [hisAt2,decide_eq_true h44] at hwt
   refine ACalls.frame ([0]) (hwt) rfl (by decide) (by simp [LM1,zah,zae,renL,AV.ren,AEnd.ren,zac,List.getElem?_cons_zero,List.getElem?_cons_succ]) (by first | rfl | simp [LM1,zah,zae,renL,AV.ren,AEnd.ren,zac,List.getElem?_cons_zero,List.getElem?_cons_succ]) ?_
   rintro _ _ ⟨rfl,rfl⟩
   refine⟨.ret (.tup []),[.rw (rC s ((q+1:Nat):Int) tw'),.rw [.ptr 0 0],.dead,.rw [.ref 4 0 (zaL ks).length 4],.rw ((zaL ks).flatMap nC)],(by show zae _ _ ([0,1,1,1,1]) ([0,1,1,1,1]) 0 _;simp [LM1,zah,zae,renL,AV.ren,AEnd.ren,zac,List.getElem?_cons_zero,List.getElem?_cons_succ]),(by show AEnd.ren ([0,1,1,1,1]) _ _;first | rfl | simp [LM1,zah,zae,renL,AV.ren,AEnd.ren,zac,List.getElem?_cons_zero,List.getElem?_cons_succ]),?_⟩
   try simp -implicitDefEqProofs only [LM3,LB9,eq_self,zaa,zab,zbh,zcY,zbN,zbO,Nat.zero_mul,TB,SB,Int.reduceToNat,Nat.reduceAdd,Nat.reduceEqDiff,Nat.reduceLT,Nat.reduceMod,Nat.reducePow,Nat.reduceSub,if_true,reduceIte]
   have hsk2:=zcW s (q+1) tw' (by omega) (by omega)
   have hb2:=zbx (s.drop (q+1))
   rw [List.length_drop] at hb2
   have hwe:1+zaD ((s.drop q).drop 1)=1+zaD (s.drop (q+1)):=by rw [List.drop_drop]
   obtain⟨w,hw⟩:∃ w,w=1+zaD (s.drop (q+1)):=⟨_,rfl⟩
   obtain⟨r,hr⟩:∃ r,r=q+w:=⟨_,rfl⟩
   have hrl:r≤s.length:=by omega
   rw [show q+1+zaD (s.drop (q+1))=r by omega] at hsk2
   unfold rS at hsk2
   refine ACalls.frame ([0]) (hsk2) rfl (by decide) (by simp [LM1,zah,zae,renL,AV.ren,AEnd.ren,zac,List.getElem?_cons_zero,List.getElem?_cons_succ]) (by first | rfl | simp [LM1,zah,zae,renL,AV.ren,AEnd.ren,zac,List.getElem?_cons_zero,List.getElem?_cons_succ]) ?_
   rintro _ _ ⟨rfl,rfl⟩
   refine⟨.ret (.tup []),[.rw (rC s r tw'),.rw [.ptr 0 0],.dead,.rw [.ref 4 0 (zaL ks).length 4],.rw ((zaL ks).flatMap nC)],(by show zae _ _ ([0,1,1,1,1]) ([0,1,1,1,1]) 0 _;simp [LM1,zah,zae,renL,AV.ren,AEnd.ren,zac,List.getElem?_cons_zero,List.getElem?_cons_succ]),(by show AEnd.ren ([0,1,1,1,1]) _ _;first | rfl | simp [LM1,zah,zae,renL,AV.ren,AEnd.ren,zac,List.getElem?_cons_zero,List.getElem?_cons_succ]),?_⟩
   try simp -implicitDefEqProofs only [LM3,LB9,eq_self,zaa,zab,zbh,zcY,zbN,zbO,Nat.zero_mul,TB,SB,Int.reduceToNat,Nat.reduceAdd,Nat.reduceEqDiff,Nat.reduceLT,Nat.reduceMod,Nat.reducePow,Nat.reduceSub,if_true,reduceIte]
   have hl:=lone_ok n s (by omega) hV r tw' ks hrl (by omega) (by omega) (by omega)
   have hg:=zgX (zcG n) (ks,tw') r (s.drop r)
   unfold loneK LA at hl
   have hdr:(s.drop q).drop w=s.drop r:=by rw [List.drop_drop,hr]
   cases hx:zgU (pvF n) (ks,tw') r (s.drop r) with
   | error k =>
    rw [hx] at hl
    refine ACalls.frame ([0,1,4,3]) (hl) rfl (by decide) (by simp [LM1,zah,zae,renL,AV.ren,AEnd.ren,zac,List.getElem?_cons_zero,List.getElem?_cons_succ]) (by first | rfl | simp [LM1,zah,zae,renL,AV.ren,AEnd.ren,zac,List.getElem?_cons_zero,List.getElem?_cons_succ]) ?_
    rintro _ _ ⟨rfl,rfl⟩
    refine⟨.pan (flt ((r+k:Nat):Int) 2),[.dead,.dead,.dead,.dead,.dead],(by show zae _ _ ([0,1,4,3,2]) ([0,1,4,3,2]) 0 _;simp [LM1,zah,zae,renL,AV.ren,AEnd.ren,zac,List.getElem?_cons_zero,List.getElem?_cons_succ]),(by show AEnd.ren ([0,1,4,3,2]) _ _;first | rfl | simp [LM1,zah,zae,renL,AV.ren,AEnd.ren,zac,List.getElem?_cons_zero,List.getElem?_cons_succ]),?_⟩
    try simp -implicitDefEqProofs only [LM3,LB9,eq_self,zaa,zab,zbh,zcY,zbN,zbO,Nat.zero_mul,TB,SB,Int.reduceToNat,Nat.reduceAdd,Nat.reduceEqDiff,Nat.reduceLT,Nat.reduceMod,Nat.reducePow,Nat.reduceSub,if_true,reduceIte]
    refine zbQ (za0 _ _ _) ?_
    unfold zhc
    rw [i6,zgv (w:=w) (k:=k) h93 (by simp [h44]) (by rw [hw,← hwe];rfl) (by rw [hdr];rw [← hr];exact hx)]
    refine⟨?_,rfl⟩
    rw [show p'+(q - p'+(w+k))=r+k by omega]
   | ok x =>
    rw [hx] at hl hg
    obtain⟨⟨ks2,tw2⟩,c⟩:=x
    simp only [zhg,List.length_drop] at hg
    dsimp only [LB] at hl
    refine ACalls.frame ([0,1,4,3]) (hl) rfl (by decide) (by simp [LM1,zah,zae,renL,AV.ren,AEnd.ren,zac,List.getElem?_cons_zero,List.getElem?_cons_succ]) (by first | rfl | simp [LM1,zah,zae,renL,AV.ren,AEnd.ren,zac,List.getElem?_cons_zero,List.getElem?_cons_succ]) ?_
    rintro _ _ ⟨rfl,rfl⟩
    refine⟨.ret (.tup []),[.rw (rC s ((r+c:Nat):Int) tw2),.rw [.ptr 0 0],.dead,.rw [.ref 5 0 (zaL ks2).length 4],.dead,.rw ((zaL ks2).flatMap nC)],(by show zae _ _ ([0,1,5,3,2,4]) ([0,1,5,3,2,4]) 0 _;simp [LM1,zah,zae,renL,AV.ren,AEnd.ren,zac,List.getElem?_cons_zero,List.getElem?_cons_succ]),(by show AEnd.ren ([0,1,5,3,2,4]) _ _;first | rfl | simp [LM1,zah,zae,renL,AV.ren,AEnd.ren,zac,List.getElem?_cons_zero,List.getElem?_cons_succ]),?_⟩
    try simp -implicitDefEqProofs only [LM3,LB9,eq_self,zaa,zab,zbh,zcY,zbN,zbO,Nat.zero_mul,TB,SB,Int.reduceToNat,Nat.reduceAdd,Nat.reduceEqDiff,Nat.reduceLT,Nat.reduceMod,Nat.reducePow,Nat.reduceSub,if_true,reduceIte]
    have hsk3:=zcW s (r+c) tw2 (by omega) (by omega)
    have hb3:=zbx (s.drop (r+c))
    rw [List.length_drop] at hb3
    unfold rS at hsk3
    refine ACalls.frame ([0]) (hsk3) rfl (by decide) (by simp [LM1,zah,zae,renL,AV.ren,AEnd.ren,zac,List.getElem?_cons_zero,List.getElem?_cons_succ]) (by first | rfl | simp [LM1,zah,zae,renL,AV.ren,AEnd.ren,zac,List.getElem?_cons_zero,List.getElem?_cons_succ]) ?_
    rintro _ _ ⟨rfl,rfl⟩
    refine⟨.ret (.tup []),[.rw (rC s ((r+c+zaD (s.drop (r+c)):Nat):Int) tw2),.rw [.ptr 0 0],.dead,.rw [.ref 5 0 (zaL ks2).length 4],.dead,.rw ((zaL ks2).flatMap nC)],(by show zae _ _ ([0,1,1,1,1,1]) ([0,1,1,1,1,1]) 0 _;simp [LM1,zah,zae,renL,AV.ren,AEnd.ren,zac,List.getElem?_cons_zero,List.getElem?_cons_succ]),(by show AEnd.ren ([0,1,1,1,1,1]) _ _;first | rfl | simp [LM1,zah,zae,renL,AV.ren,AEnd.ren,zac,List.getElem?_cons_zero,List.getElem?_cons_succ]),?_⟩
    try simp -implicitDefEqProofs only [LM3,LB9,eq_self,zaa,zab,zbh,zcY,zbN,zbO,Nat.zero_mul,TB,SB,Int.reduceToNat,Nat.reduceAdd,Nat.reduceEqDiff,Nat.reduceLT,Nat.reduceMod,Nat.reducePow,Nat.reduceSub,if_true,reduceIte]
    rw [zal]
    refine⟨(i,false,(ks2,tw2),r+c+zaD (s.drop (r+c))),⟨by dsimp only;omega,by dsimp only;omega,by dsimp only;omega,by dsimp only at hg ⊢;omega,by dsimp only at hg ⊢;omega,(decide_eq_false (by dsimp only at hg ⊢;omega)).symm,?_⟩,(by show i < i+1;omega),?_⟩
    ·rw [i6,zeI (w:=w) (c:=c) (g':=(ks2,tw2)) h93 (by simp [h44]) (by rw [hw,← hwe];rfl) (by rw [hdr];rw [← hr];exact hx),zj2]
     rw [List.drop_drop,List.drop_drop,show q+(w+c)=r+c by omega,show q+(w+c+zaD (s.drop (r+c)))=r+c+zaD (s.drop (r+c)) by omega,show q - p'+(w+c+zaD (s.drop (r+c)))=r+c+zaD (s.drop (r+c)) - p' by omega]
    ·dsimp only
     rw [if_neg (by decide)]
     try unfold LB
     refine zaj (q:=[0,1,2,3,5]) rfl rfl (by decide) ?_ ?_
     ·try simp only [FB,AV.ren,Nat.reduceAdd,reduceCtorEq]
      try rfl
     ·simp [zah,zaG,ndF.fren,zbo,renL,AV.ren]
theorem list_ok (n:Nat) (s:List UInt8) (hs:s.length≤100000000) (hV:zkC n s) (p:Nat) (tw:Int) (hp:p < s.length) (hn:s.length - p≤n):ACalls Tryz.prog 83 [.ptr 0 0] (rS s p tw) (outV s p (zkA (pvF n) tw p (s.drop p))):=by
 have h:=lrows_ok n s hs hV p tw hp hn
 rw [show zaL []=[⟨4,0,[],0⟩] from rfl] at h
 unfold rS
 refine ACalls.body T_ok Tryz.func83 (by kernel_rfl) rfl Tryz.ntmps83 (congrArg Array.toList Tryz.results83) ?_
 try simp -implicitDefEqProofs only [LM3,LB9,eq_self,zaa,zab,zbh,zcY,zbN,zbO,Nat.zero_mul,TB,SB,Int.reduceToNat,Nat.reduceAdd,Nat.reduceEqDiff,Nat.reduceLT,Nat.reduceMod,Nat.reducePow,Nat.reduceSub,if_true,reduceIte]
 have hdd:(s.drop p).drop (inW (s.drop p))=s.drop (p+inW (s.drop p)):=by rw [List.drop_drop]
 cases hx:zda 93 (zgU (pvF n)) ((s.drop p).length+1) true ([],tw) (p+inW (s.drop p)) (s.drop (p+inW (s.drop p))) with
 | error k =>
  rw [hx] at h
  unfold zhc LA at h
  dsimp only at h
  refine ACalls.frame ([0,1,2,3]) (h) rfl (by decide) (by simp [LM1,zah,zae,renL,AV.ren,AEnd.ren,zac,List.getElem?_cons_zero,List.getElem?_cons_succ]) (by first | rfl | simp [LM1,zah,zae,renL,AV.ren,AEnd.ren,zac,List.getElem?_cons_zero,List.getElem?_cons_succ]) ?_
  rintro _ _ ⟨rfl,rfl⟩
  refine⟨.pan (flt ((p+inW (s.drop p)+k:Nat):Int) 2),[.dead,.dead,.dead,.dead],(by show zae _ _ ([0,1,2,3]) ([0,1,2,3]) 0 _;simp [LM1,zah,zae,renL,AV.ren,AEnd.ren,zac,List.getElem?_cons_zero,List.getElem?_cons_succ]),(by show AEnd.ren ([0,1,2,3]) _ _;first | rfl | simp [LM1,zah,zae,renL,AV.ren,AEnd.ren,zac,List.getElem?_cons_zero,List.getElem?_cons_succ]),?_⟩
  try simp -implicitDefEqProofs only [LM3,LB9,eq_self,zaa,zab,zbh,zcY,zbN,zbO,Nat.zero_mul,TB,SB,Int.reduceToNat,Nat.reduceAdd,Nat.reduceEqDiff,Nat.reduceLT,Nat.reduceMod,Nat.reducePow,Nat.reduceSub,if_true,reduceIte]
  rw [show p+inW (s.drop p)+k=p+(inW (s.drop p)+k) by omega]
  refine zco ?_
  rw [zkA,hdd,hx]
 | ok x =>
  rw [hx] at h
  obtain⟨⟨ks,tw'⟩,c⟩:=x
  unfold zhc at h
  dsimp only at h
  have fin:outV s p (zkA (pvF n) tw p (s.drop p)) (.ret (slN (zaL ks))) (rS s ((p+inW (s.drop p)+c:Nat):Int) tw'):=by
   rw [zkA,hdd,hx]
   refine⟨rfl,?_⟩
   dsimp only
   rw [show p+inW (s.drop p)+c=p+(inW (s.drop p)+c) by omega]
  by_cases hk:ks.length=0
  ·rw [if_pos hk] at h
   unfold LA at h
   refine ACalls.frame ([0,1,2,3]) (h) rfl (by decide) (by simp [LM1,zah,zae,renL,AV.ren,AEnd.ren,zac,List.getElem?_cons_zero,List.getElem?_cons_succ]) (by first | rfl | simp [LM1,zah,zae,renL,AV.ren,AEnd.ren,zac,List.getElem?_cons_zero,List.getElem?_cons_succ]) ?_
   rintro _ _ ⟨rfl,rfl⟩
   refine⟨.ret (.tup []),[.rw (rC s ((p+inW (s.drop p)+c:Nat):Int) tw'),.rw [.ptr 0 0],.rw ((zaL ks).flatMap nC),.rw [.ref 2 0 (zaL ks).length 4]],(by show zae _ _ ([0,1,2,3]) ([0,1,2,3]) 0 _;simp [LM1,zah,zae,renL,AV.ren,AEnd.ren,zac,List.getElem?_cons_zero,List.getElem?_cons_succ]),(by show AEnd.ren ([0,1,2,3]) _ _;first | rfl | simp [LM1,zah,zae,renL,AV.ren,AEnd.ren,zac,List.getElem?_cons_zero,List.getElem?_cons_succ]),?_⟩
   try simp -implicitDefEqProofs only [LM3,LB9,eq_self,zaa,zab,zbh,zcY,zbN,zbO,Nat.zero_mul,TB,SB,Int.reduceToNat,Nat.reduceAdd,Nat.reduceEqDiff,Nat.reduceLT,Nat.reduceMod,Nat.reducePow,Nat.reduceSub,if_true,reduceIte]
   exact zis (j:=1) (l:=zaL ks) rfl rfl fin
  ·rw [if_neg hk] at h
   unfold LA LB at h
   refine ACalls.frame ([0,1,2,3]) (h) rfl (by decide) (by simp [LM1,zah,zae,renL,AV.ren,AEnd.ren,zac,List.getElem?_cons_zero,List.getElem?_cons_succ]) (by first | rfl | simp [LM1,zah,zae,renL,AV.ren,AEnd.ren,zac,List.getElem?_cons_zero,List.getElem?_cons_succ]) ?_
   rintro _ _ ⟨rfl,rfl⟩
   refine⟨.ret (.tup []),[.rw (rC s ((p+inW (s.drop p)+c:Nat):Int) tw'),.rw [.ptr 0 0],.dead,.rw [.ref 4 0 (zaL ks).length 4],.rw ((zaL ks).flatMap nC)],(by show zae _ _ ([0,1,2,3,4]) ([0,1,2,3,4]) 0 _;simp [LM1,zah,zae,renL,AV.ren,AEnd.ren,zac,List.getElem?_cons_zero,List.getElem?_cons_succ]),(by show AEnd.ren ([0,1,2,3,4]) _ _;first | rfl | simp [LM1,zah,zae,renL,AV.ren,AEnd.ren,zac,List.getElem?_cons_zero,List.getElem?_cons_succ]),?_⟩
   try simp -implicitDefEqProofs only [LM3,LB9,eq_self,zaa,zab,zbh,zcY,zbN,zbO,Nat.zero_mul,TB,SB,Int.reduceToNat,Nat.reduceAdd,Nat.reduceEqDiff,Nat.reduceLT,Nat.reduceMod,Nat.reducePow,Nat.reduceSub,if_true,reduceIte]
   exact zis (j:=3) (l:=zaL ks) rfl rfl fin
end Go.Proofs.YtamcppdhkeiaiaaGreatDoor
end

section
namespace Go.Proofs.YtamcppdhkeiaiaaGreatDoor
open Go Go.Eng
theorem cmpB_lt:∀ (a b:List UInt8),(Lib.compareBytes a b < 0) ↔ Op.bytesLess a b=true
 | [],[]=>by simp [Lib.compareBytes,Op.bytesLess]
 | [],_::_=>by simp [Lib.compareBytes,Op.bytesLess]
 | _::_,[]=>by simp [Lib.compareBytes,Op.bytesLess]
 | a::s,b::t=>by
  have ih:=cmpB_lt s t
  rw [Lib.compareBytes,Op.bytesLess]
  by_cases h1:a < b
  ·simp [h1]
  ·rw [if_neg h1]
   by_cases h2:b < a
   ·rw [if_pos h2]
    have hne:(a == b)=false:=by
     rw [beq_eq_false_iff_ne]
     rintro rfl
     exact UInt8.lt_irrefl _ h2
    simp [h1,hne]
   ·rw [if_neg h2,ih]
    have he:a=b:=UInt8.le_antisymm (UInt8.not_lt.1 h2) (UInt8.not_lt.1 h1)
    subst he
    simp
def mbC (m:Mem):List AV:=[str m.1,slN m.2]
def mbA (m:Mem):AV:=.agg (mbC m)
def m0d:Mem:=([],[])
theorem mbF:RowF mbC 2:=⟨fun _=>rfl,fun _=>rfl,fun q m=>by simp [mbC,renL,zai,zac]⟩
section
variable {σ : zad} {K : AV → Prop} {KS : AV → zad → Prop} {id : Nat}
theorem fm_0 (o:Nat):zaq T 185 (.ptr id o) 0 K=K (.ptr id (o+0)):=fzP T185 rfl rfl T9 (by decide) id o
theorem fm_1 (o:Nat):zaq T 185 (.ptr id o) 1 K=K (.ptr id (o+1)):=fzP T185 rfl rfl T37 (by decide) id o
theorem bx_mb (e:TypeId) (m:Mem):wbox e (mbA m) σ KS=KS (.ptr σ.length 0) (σ++[.rw (mbC m)]):=bxW rfl rfl e
theorem ld_mb0 (m:Mem):ld2 (some tyStr) (some (mbC m)) 0 K=K (str m.1):=lz0 rfl rfl _ _
theorem ld_mb1 (e:TypeId) (m:Mem):ld2 (some (tySl e)) (some (mbC m)) 1 K=K (slN m.2):=by rw [mbC,lzS];exact lz0 rfl rfl _ _
theorem ia_mb (id off len:Nat) (n:Int):ia3 (some tyMb) (.ref id off len 2) n K=(0≤n∧n < len∧K (.ptr id (off+n.toNat * 2))):=by simp [ia3,tyMb]
theorem flat_len (l:List Mem):(l.flatMap mbC).length=l.length * 2:=mbF.flen l
theorem ld_mbR (l:List Mem) (k:Nat):ld2 (some tyMb) (some (l.flatMap mbC)) (k * 2) K=(k < l.length∧K (mbA (l.getD k m0d))):=by
 have h:=mbF.ld (K:=K) (ti:=tyMb) rfl (by decide) rfl m0d l k
 rw [← mbF.fdrop] at h
 rw [mbA,← h]
 simp [ld2]
theorem st_mbR (l:List Mem) (k:Nat) (m:Mem) (id:Nat):st2 (some tyMb) (some (.rw (l.flatMap mbC))) id (k * 2) (mbA m) σ KS=(k < l.length∧KS (.lit undef) (σ.set id (.rw ((l.set k m).flatMap mbC)))):=by
 have hp:∀ (l:List Mem) (k:Nat),k < l.length→zbf (l.flatMap mbC) (k * 2) (mbC m)=(l.set k m).flatMap mbC:=by
  intro l
  induction l with
  | nil=>intro k h;simp at h
  | cons a l ih =>
   intro k h
   cases k with
   | zero=>simp [zbf,mbC]
   | succ k =>
    have:=ih k (by simpa using h)
    rw [show (k+1) * 2=k * 2+1+1 by omega]
    simp only [List.flatMap_cons,mbC,List.cons_append,List.nil_append,zbf,List.set_cons_succ] at this ⊢
    rw [this]
 have ha:(mbC m).all AV.one=true:=rfl
 simp only [st2,mbA,AV.cells,show (mbC m).length=2 from rfl,show tyMb.size=2 from rfl,ha,true_and,flat_len]
 by_cases h:k < l.length
 ·rw [hp l k h]
  simp only [h,true_and]
  simp only [show (k * 2+2≤l.length * 2)=True from eq_true (by omega),true_and]
 ·simp only [h,false_and]
  simp only [show (k * 2+2≤l.length * 2)=False from eq_false (by omega),false_and]
end
def cmpM (a b:Mem):Int:=Lib.compareBytes a.1 b.1
theorem ren_mbA (q:List Nat) (m:Mem):(mbA m).ren q=some (mbA m):=by simp [mbA,AV.ren,mbF.ren]
theorem strCmp_ok (a b:List UInt8):ACalls Tryz.prog 113 [str a,str b] [] (fun y _=>y=.ret (i64 (Lib.compareBytes a b))):=by
 intro H w m vs hg hs hr
 refine .inl ⟨by kernel_rfl,?_⟩
 have hvs:vs=#[.string ⟨a.toArray⟩,.string ⟨b.toArray⟩]:=by
  apply Array.ext'
  simp only [reps] at hr
  obtain⟨v,r,e1,h1,v2,r2,e2,h2,e3⟩:=hr
  simp only [str,rep] at h1 h2
  rw [e1,e2,e3,h1,h2]
 subst hvs
 refine(Tryz.strings_Compare ⟨a.toArray⟩ ⟨b.toArray⟩ w).mono ?_
 rintro e w' ⟨rfl,rfl⟩
 exact⟨.ret (i64 (Lib.compareBytes a b)),m,[],hs,Ext.refl _ _ _,by simp only [zcC,i64,rep],rfl⟩
theorem cmpM_ok (a b:Mem):ACalls Tryz.prog 112 [mbA a,mbA b] [] (fun y _=>y=.ret (i64 (cmpM a b))):=by
 refine ACalls.body T_ok Tryz.func112 (by kernel_rfl) rfl Tryz.ntmps112 (congrArg Array.toList Tryz.results112) ?_
 try simp -implicitDefEqProofs only [LM3,LB9,eq_self,zaa,zab,fm_0,fm_1,bx_mb,ld_mb0,ld_mb1,ia_mb,ld_mbR,st_mbR,TB,SB,Int.reduceToNat,Nat.reduceAdd,Nat.reduceEqDiff,Nat.reduceLT,Nat.reduceMod,Nat.reducePow,Nat.reduceSub,if_true,reduceIte]
 refine(strCmp_ok a.1 b.1).pure (by first | rfl | simp [renL,AV.ren,zav,zak str zai,zaA,zaz,zay,zag,zao,zai]) ?_
 rintro _ σ rfl
 refine⟨by first | rfl | simp [AEnd.noid,AV.ren,renL,zav,zak str zai,zaA,zaz,zay,zag,zao,zai],?_⟩
 try simp -implicitDefEqProofs only [LM3,LB9,eq_self,zaa,zab,fm_0,fm_1,bx_mb,ld_mb0,ld_mb1,ia_mb,ld_mbR,st_mbR,TB,SB,Int.reduceToNat,Nat.reduceAdd,Nat.reduceEqDiff,Nat.reduceLT,Nat.reduceMod,Nat.reducePow,Nat.reduceSub,if_true,reduceIte]
 exact zax (zag _ _) rfl
def zf1:AV:=.fn (.func 112) [] []
def posM (p:Mem→Bool) (S:List Mem):Nat→Nat
 | 0=>0
 | j+1=>if p (S.getD j m0d) then posM p S j else j+1
theorem posM_le (p:Mem→Bool) (S:List Mem):∀ j,posM p S j≤j
 | 0=>Nat.le_refl _
 | j+1=>by
  have:=posM_le p S j
  simp only [posM]
  split <;> omega
def insP (p:Mem→Bool) (x:Mem) (S:List Mem):List Mem:=S.take (posM p S S.length)++x::S.drop (posM p S S.length)
def ltM (x y:Mem):Bool:=decide (cmpM x y < 0)
def zeR (L:List Mem):Nat→List Mem
 | 0=>[]
 | k+1=>insP (ltM (L.getD k m0d)) (L.getD k m0d) (zeR L k)
theorem insP_length (p:Mem→Bool) (x:Mem) (S:List Mem):(insP p x S).length=S.length+1:=by
 have:=posM_le p S S.length
 simp [insP]
 omega
theorem zeJ (L:List Mem):∀ k,(zeR L k).length=k
 | 0=>rfl
 | k+1=>by rw [zeR,insP_length,zeJ L k]
def rowM (S:List Mem) (x:Mem) (t:List Mem) (j:Nat):List Mem:=S.take j++x::(S.drop j++t)
theorem rowM_length (S:List Mem) (x:Mem) (t:List Mem) {j:Nat} (h:j≤S.length):(rowM S x t j).length=S.length+1+t.length:=by simp [rowM];omega
theorem rowM_x (S:List Mem) (x:Mem) (t:List Mem) {j:Nat} (h:j≤S.length):(rowM S x t j).getD j m0d=x:=by
 rw [rowM,List.getD_eq_getElem?_getD,List.getElem?_append_right (by simp;omega)]
 simp [Nat.min_eq_left h]
theorem rowM_b (S:List Mem) (x:Mem) (t:List Mem) {j:Nat} (h:j < S.length):(rowM S x t (j+1)).getD j m0d=S.getD j m0d:=by
 rw [rowM,List.getD_eq_getElem?_getD,List.getElem?_append_left (by simp;omega),List.getElem?_take,if_pos (by omega),← List.getD_eq_getElem?_getD]
theorem rowM_swap (S:List Mem) (x:Mem) (t:List Mem) {j:Nat} (h:j < S.length):((rowM S x t (j+1)).set (j+1) (S.getD j m0d)).set j x=rowM S x t j:=by
 have e1:S.take (j+1)=S.take j++[S.getD j m0d]:=by
  rw [List.take_succ_eq_append_getElem h,List.getD_eq_getElem?_getD,List.getElem?_eq_getElem h]
  rfl
 have e2:S.drop j=S.getD j m0d::S.drop (j+1):=by
  rw [List.drop_eq_getElem_cons h,List.getD_eq_getElem?_getD,List.getElem?_eq_getElem h]
  rfl
 have hl:(S.take j).length=j:=by simp;omega
 rw [rowM,rowM,e1,e2]
 generalize S.take j=A at hl
 subst hl
 rw [List.append_assoc,List.set_append_right _ _ (by omega),List.set_append_right _ _ (by omega)]
 simp
theorem sortK_start (L:List Mem):zeR L (min (0+1) L.length)++L.drop (0+1)=L:=by
 cases L with
 | nil=>rfl
 | cons a l=>simp [zeR,insP,posM]
end Go.Proofs.YtamcppdhkeiaiaaGreatDoor
end

section
namespace Go.Proofs.YtamcppdhkeiaiaaGreatDoor
open Go Go.Eng
set_option linter.defProp false in
def LB12:=And.intro @zbh (And.intro @zcY (And.intro @zbN (And.intro @zbO (And.intro @fm_0 (And.intro @fm_1 (And.intro @bx_mb (And.intro @ld_mb0 (And.intro @ld_mb1 (And.intro @ia_mb (And.intro @ld_mbR (@st_mbR)))))))))))
set_option linter.defProp false in
def LM5:=And.intro LM3 (And.intro LB9 (LB12))
def zgx (M:List Mem):List Mem:=zeR M M.length
theorem sortI_length (M:List Mem):(zgx M).length=M.length:=zeJ M _
theorem getD_app (A S:List Mem) (j:Nat):(A++S).getD (A.length+j) m0d=S.getD j m0d:=by
 rw [List.getD_eq_getElem?_getD,List.getElem?_append_right (by omega),Nat.add_sub_cancel_left,← List.getD_eq_getElem?_getD]
theorem zeK (l:List Mem):zah [.rw (l.flatMap mbC)] [0] [0] [.rw (l.flatMap mbC)]:=⟨.inr ⟨_,by rw [zaG,mbF.fren];rfl,rfl⟩,trivial⟩
def zj3 (A M B:List Mem) (k:Nat):List Mem:=A++(zeR M (min (k+1) M.length)++(M.drop (k+1)++B))
theorem misort_ok (A M B:List Mem) (hL:A.length+M.length+B.length≤1000000):ACalls Tryz.prog 138 [.ref 0 0 (A.length+M.length+B.length) 2,i64 A.length,i64 ((A.length+M.length:Nat):Int),zf1] [.rw ((A++(M++B)).flatMap mbC)] (fun y σ=>y=.ret (.tup [])∧σ=[.rw ((A++(zgx M++B)).flatMap mbC)]):=by
 unfold zf1
 refine ACalls.body T_ok Tryz.func138 (by kernel_rfl) rfl Tryz.ntmps138 (congrArg Array.toList Tryz.results138) ?_
 try simp -implicitDefEqProofs only [LM5,eq_self,zaa,zab,Nat.zero_mul,TB,SB,Int.reduceToNat,Nat.reduceAdd,Nat.reduceEqDiff,Nat.reduceLT,Nat.reduceMod,Nat.reducePow,Nat.reduceSub,if_true,reduceIte]
 repeat (with_reducible refine zbY ?_)
 rw [zbe]
 refine⟨Nat,fun k=>k+1≤max M.length 1,fun k=>[.ref 0 0 (A.length+M.length+B.length) 2,i64 A.length,i64 ((A.length+M.length:Nat):Int),.fn (.func 112) [] [],.bot,.bot,.bot,.bot,i64 ((A.length+k+1:Nat):Int),.bot,.bot,.bot,.bot,.bot,.bot,.bot,.bot,.bot,.bot,.bot,.bot,.bot,.bot,.bot,.bot,.bot,.bot,.bot,.bot,.bot,.bot,.bot,.bot,.bot,.bot,.bot,.bot,.bot,.bot,.bot,.bot,.bot,.bot,.bot,.bot,.bot,.bot,.bot,.bot,.bot,.bot,.bot,.bot],fun k=>[.rw ((zj3 A M B k).flatMap mbC)],fun k=>M.length - k,0,by omega,zaj (q:=[0]) rfl rfl (by decide) ?_ ?_,?_⟩
 ·try simp only [FB,AV.ren,Nat.reduceAdd,reduceCtorEq]
  exact⟨by simp [renL],.inr (by omega)⟩
 ·have hst:zj3 A M B 0=A++(M++B):=by
   have:=sortK_start M
   rw [zj3,← List.append_assoc (zeR M _),this]
  show zah _ _ _ [Blk.rw ((zj3 A M B 0).flatMap mbC)]
  rw [hst]
  exact zeK _
 ·intro k hk
  try simp -implicitDefEqProofs only [LM5,eq_self,zaa,zab,Nat.zero_mul,TB,SB,Int.reduceToNat,Nat.reduceAdd,Nat.reduceEqDiff,Nat.reduceLT,Nat.reduceMod,Nat.reducePow,Nat.reduceSub,if_true,reduceIte]
  refine⟨fun hlt=>?_,fun hge=>?_⟩
  rotate_left
  ·refine zaH ⟨rfl,?_⟩
   rw [zj3,Nat.min_eq_right (by omega),List.drop_eq_nil_of_le (show M.length≤k+1 by omega),List.nil_append]
   rfl
  have hlt2:k+1 < M.length:=by omega
  obtain⟨S,hS⟩:∃ S,S=zeR M (k+1):=⟨_,rfl⟩
  obtain⟨x,hx⟩:∃ x,x=M.getD (k+1) m0d:=⟨_,rfl⟩
  have hSl:S.length=k+1:=by rw [hS,zeJ]
  obtain⟨t,ht⟩:∃ t,t=M.drop (k+2)++B:=⟨_,rfl⟩
  have htl:t.length=M.length - (k+2)+B.length:=by rw [ht,List.length_append,List.length_drop]
  obtain⟨S',hS'⟩:∃ S',S'=A++S:=⟨_,rfl⟩
  have hSl':S'.length=A.length+(k+1):=by rw [hS',List.length_append,hSl]
  have hrow:zj3 A M B k=rowM S' x t (A.length+(k+1)):=by
   have e1:S'.take (A.length+(k+1))=S':=List.take_of_length_le (by omega)
   have e2:S'.drop (A.length+(k+1))=[]:=List.drop_eq_nil_of_le (by omega)
   have e3:M.drop (k+1)=x::M.drop (k+2):=by rw [List.drop_eq_getElem_cons hlt2,hx,List.getD_eq_getElem?_getD,List.getElem?_eq_getElem hlt2];rfl
   rw [zj3,Nat.min_eq_left (by omega),← hS,rowM,e1,e2,List.nil_append,e3,ht,hS']
   simp
  rw [hrow]
  have hrl:∀ j,j≤A.length+(k+1)→(rowM S' x t j).length=A.length+M.length+B.length:=fun j hj=>by rw [rowM_length _ _ _ (by omega)];omega
  rw [zbe]
  refine⟨Nat,fun j=>j≤k+1∧posM (ltM x) S S.length=posM (ltM x) S j,fun j=>[.ref 0 0 (A.length+M.length+B.length) 2,i64 A.length,i64 ((A.length+M.length:Nat):Int),.fn (.func 112) [] [],.bot,.bot,.bot,.bot,i64 ((A.length+k+1:Nat):Int),i64 ((A.length+j:Nat):Int),.bot,.bot,.bot,.bot,.bot,.bot,.bot,.bot,.bot,.bot,.bot,.bot,.bot,.bot,.bot,.bot,.bot,.bot,.bot,.bot,.bot,.bot,.bot,.bot,.bot,.bot,.bot,.bot,.bot,.bot,.bot,.bot,.bot,.bot,.bot,.bot,.bot,.bot,.bot,.bot,.bot,.bot,.bot],fun j=>[.rw ((rowM S' x t (A.length+j)).flatMap mbC)],fun j=>j,k+1,⟨Nat.le_refl _,by rw [hSl]⟩,zaj (q:=[0]) rfl rfl (by decide) ?_ ?_,?_⟩
  ·try simp only [FB,AV.ren,Nat.reduceAdd,reduceCtorEq]
   exact⟨by simp [renL],.inr (by omega)⟩
  ·exact zeK _
  ·rintro j ⟨hj,hp⟩
   try simp -implicitDefEqProofs only [LM5,eq_self,zaa,zab,Nat.zero_mul,TB,SB,Int.reduceToNat,Nat.reduceAdd,Nat.reduceEqDiff,Nat.reduceLT,Nat.reduceMod,Nat.reducePow,Nat.reduceSub,if_true,reduceIte]
   refine zdK (by kernel_rfl) (by kernel_rfl) ?_
   try simp -implicitDefEqProofs only [LM5,eq_self,zaa,zab,Nat.zero_mul,TB,SB,Int.reduceToNat,Nat.reduceAdd,Nat.reduceEqDiff,Nat.reduceLT,Nat.reduceMod,Nat.reducePow,Nat.reduceSub,if_true,reduceIte]
   have hdone:posM (ltM x) S S.length=j→rowM S' x t (A.length+j)=zj3 A M B (k+1):=fun h=>by
    have e1:S'.take (A.length+j)=A++S.take j:=by rw [hS',List.take_append,List.take_of_length_le (by omega),Nat.add_sub_cancel_left]
    have e2:S'.drop (A.length+j)=S.drop j:=by rw [hS',List.drop_append,List.drop_eq_nil_of_le (by omega),List.nil_append,Nat.add_sub_cancel_left]
    rw [zj3,Nat.min_eq_left (by omega),zeR,← hS,← hx,insP,h,rowM,e1,e2,ht]
    simp
   by_cases hj0:0 < j
   rotate_left
   ·obtain rfl:j=0:=by omega
    rw [decide_eq_false (by omega:¬ (A.length:Int) < ((A.length+0:Nat):Int))]
    try simp -implicitDefEqProofs only [LM5,eq_self,zaa,zab,Nat.zero_mul,TB,SB,Int.reduceToNat,Nat.reduceAdd,Nat.reduceEqDiff,Nat.reduceLT,Nat.reduceMod,Nat.reducePow,Nat.reduceSub,if_true,reduceIte]
    have hd0:=hdone (by rw [hp];rfl)
    rw [Nat.add_zero] at hd0
    rw [hd0]
    repeat (with_reducible refine zbY ?_)
    rw [zal]
    refine⟨k+1,by omega,by (show M.length - (k+1) < M.length - k);omega,zaj (q:=[0]) rfl rfl (by decide) ?_ ?_⟩
    ·try simp only [FB,AV.ren,Nat.reduceAdd,reduceCtorEq]
     exact⟨by simp [renL],.inr (by omega)⟩
    ·exact zeK _
   obtain⟨i,rfl⟩:∃ i,j=i+1:=⟨j - 1,by omega⟩
   have hrj:=hrl (A.length+(i+1)) (by omega)
   have hi1:((A.length+(i+1):Nat):Int) - 1=((A.length+i:Nat):Int):=by omega
   rw [decide_eq_true (by omega:(A.length:Int) < ((A.length+(i+1):Nat):Int))]
   try simp -implicitDefEqProofs only [LM5,eq_self,zaa,zab,Nat.zero_mul,hi1,TB,SB,Int.reduceToNat,Nat.reduceAdd,Nat.reduceEqDiff,Nat.reduceLT,Nat.reduceMod,Nat.reducePow,Nat.reduceSub,if_true,reduceIte]
   refine⟨by omega,by omega,by omega,by unfold inI;omega,by omega,by omega,by omega,?_⟩
   have eb:S'.getD (A.length+i) m0d=S.getD i m0d:=by rw [hS',getD_app]
   have hsw:=rowM_swap S' x t (j:=A.length+i) (by omega)
   rw [eb] at hsw
   rw [show A.length+(i+1)=A.length+i+1 by omega,rowM_x S' x t (j:=A.length+i+1) (by omega),rowM_b _ _ _ (by omega),eb]
   refine zeP (cmpM_ok x (S.getD i m0d)) (by simp [renL,ren_mbA]) (zag _ _) ?_
   try simp -implicitDefEqProofs only [LM5,eq_self,zaa,zab,Nat.zero_mul,TB,SB,Int.reduceToNat,Nat.reduceAdd,Nat.reduceEqDiff,Nat.reduceLT,Nat.reduceMod,Nat.reducePow,Nat.reduceSub,if_true,reduceIte]
   refine⟨fun hneg=>?_,fun hpos=>?_⟩
   ·refine zjG [15,1] (by kernel_rfl) (by kernel_rfl) (by kernel_rfl) ?_
    have hi2:((A.length+i+1:Nat):Int) - 1=((A.length+i:Nat):Int):=by omega
    have hrj':=hrl (A.length+i+1) (by omega)
    try simp -implicitDefEqProofs only [LM5,eq_self,zaa,zab,Nat.zero_mul,hi2,TB,SB,Int.reduceToNat,Nat.reduceAdd,Nat.reduceEqDiff,Nat.reduceLT,Nat.reduceMod,Nat.reducePow,Nat.reduceSub,if_true,reduceIte]
    refine⟨by unfold inI;omega,by unfold inI;omega,by omega,by omega,by omega,by omega,by omega,by omega,by omega,by omega,by omega,by omega,by omega,by rw [List.length_set];omega,by unfold inI;omega,?_⟩
    rw [zal,rowM_x _ _ _ (by omega),rowM_b _ _ _ (by omega),eb,hsw]
    refine⟨i,⟨by omega,by rw [hp,posM,if_pos (by simpa [ltM] using hneg)]⟩,(by show i < i+1;omega),zaj (q:=[0]) rfl rfl (by decide) ?_ ?_⟩
    ·try simp only [FB,AV.ren,Nat.reduceAdd,reduceCtorEq]
     simp [renL]
    ·exact zeK _
   ·try simp -implicitDefEqProofs only [LM5,eq_self,zaa,zab,Nat.zero_mul,TB,SB,Int.reduceToNat,Nat.reduceAdd,Nat.reduceEqDiff,Nat.reduceLT,Nat.reduceMod,Nat.reducePow,Nat.reduceSub,if_true,reduceIte]
    have hd1:=hdone (by rw [hp,posM,if_neg (by simpa [ltM] using hpos)])
    rw [show A.length+(i+1)=A.length+i+1 by omega] at hd1
    rw [hd1]
    repeat (with_reducible refine zbY ?_)
    rw [zal]
    refine⟨k+1,by omega,by (show M.length - (k+1) < M.length - k);omega,zaj (q:=[0]) rfl rfl (by decide) ?_ ?_⟩
    ·try simp only [FB,AV.ren,Nat.reduceAdd,reduceCtorEq]
     exact⟨by simp [renL],.inr (by omega)⟩
    ·exact zeK _
theorem sortI_nil:zgx []=[]:=rfl
theorem mstable_ok (L:List Mem) (hL:L.length≤20):ACalls Tryz.prog 129 [.ref 0 0 L.length 2,i64 L.length,zf1] [.rw (L.flatMap mbC)] (fun y σ=>y=.ret (.tup [])∧σ=[.rw ((zgx L).flatMap mbC)]):=by
 have hsl:(zgx L).length=L.length:=sortI_length _
 have h1:=misort_ok [] L [] (by simp;omega)
 simp only [List.length_nil,Nat.zero_add,Nat.add_zero,List.nil_append,List.append_nil] at h1
 rw [show (((0:Nat):Nat):Int)=0 from rfl] at h1
 unfold zf1 at h1 ⊢
 refine ACalls.body T_ok Tryz.func129 (by kernel_rfl) rfl Tryz.ntmps129 (congrArg Array.toList Tryz.results129) ?_
 try simp -implicitDefEqProofs only [LM5,eq_self,zaa,zab,Nat.zero_mul,TB,SB,Int.reduceToNat,Nat.reduceAdd,Nat.reduceEqDiff,Nat.reduceLT,Nat.reduceMod,Nat.reducePow,Nat.reduceSub,if_true,reduceIte]
 rw [zbe]
 refine⟨Nat,fun k=>k=0∨(k=1∧L.length=20),fun k=>[.ref 0 0 L.length 2,i64 L.length,.fn (.func 112) [] [],.bot,.bot,.bot,i64 20,i64 ((20 * k:Nat):Int),i64 ((20 * (k+1):Nat):Int),.bot,.bot,.bot,.bot,.bot,.bot,.bot,.bot,.bot,.bot,.bot,.bot,.bot,.bot,.bot,.bot,.bot,.bot,.bot,.bot,.bot,.bot,.bot,.bot,.bot,.bot,.bot,.bot,.bot,.bot,.bot,.bot,.bot,.bot,.bot,.bot,.bot,.bot,.bot,.bot,.bot,.bot,.bot,.bot,.bot,.bot,.bot,.bot,.bot,.bot,.bot,.bot,.bot,.bot],fun k=>[.rw ((if k=0 then L else zgx L).flatMap mbC)],fun k=>1 - k,0,.inl rfl,zaj (q:=[0]) rfl rfl (by decide) ?_ ?_,?_⟩
 ·try simp only [FB,AV.ren,Nat.reduceAdd,reduceCtorEq]
  try exact⟨by simp [renL],.inr rfl,.inr rfl⟩
 ·show zah _ _ _ [.rw (L.flatMap mbC)]
  exact zeK _
 ·rintro k hk
  try simp -implicitDefEqProofs only [LM5,eq_self,zaa,zab,Nat.zero_mul,TB,SB,Int.reduceToNat,Nat.reduceAdd,Nat.reduceEqDiff,Nat.reduceLT,Nat.reduceMod,Nat.reducePow,Nat.reduceSub,if_true,reduceIte]
  refine⟨fun hle=>?_,fun hgt=>?_⟩
  ·obtain rfl:k=0:=by omega
   have h20:((20 * (0+1):Nat):Int)=(L.length:Nat):=by omega
   rw [h20,if_pos rfl]
   refine ACalls.frame ([0]) (h1) rfl (by decide) (by simp [LM1,zah,zae,renL,AV.ren,AEnd.ren,mbF.fren,zac,List.getElem?_cons_zero,List.getElem?_cons_succ]) (by first | rfl | simp [LM1,zah,zae,renL,AV.ren,AEnd.ren,mbF.fren,zac,List.getElem?_cons_zero,List.getElem?_cons_succ]) ?_
   rintro _ _ ⟨rfl,rfl⟩
   refine⟨.ret (.tup []),[.rw ((zgx L).flatMap mbC)],(by show zae _ _ ([0]) ([0]) 0 _;simp [LM1,zah,zae,renL,AV.ren,AEnd.ren,mbF.fren,zac,List.getElem?_cons_zero,List.getElem?_cons_succ]),(by show AEnd.ren ([0]) _ _;first | rfl | simp [LM1,zah,zae,renL,AV.ren,AEnd.ren,mbF.fren,zac,List.getElem?_cons_zero,List.getElem?_cons_succ]),?_⟩
   try simp -implicitDefEqProofs only [LM5,eq_self,zaa,zab,Nat.zero_mul,TB,SB,Int.reduceToNat,Nat.reduceAdd,Nat.reduceEqDiff,Nat.reduceLT,Nat.reduceMod,Nat.reducePow,Nat.reduceSub,if_true,reduceIte]
   repeat (with_reducible refine zbY ?_)
   rw [zal]
   refine⟨1,.inr ⟨rfl,by omega⟩,by decide,zaj (q:=[0]) rfl rfl (by decide) ?_ ?_⟩
   ·try simp only [FB,AV.ren,Nat.reduceAdd,reduceCtorEq]
    try exact⟨by simp [renL],.inr (by omega),.inr (by omega)⟩
   ·rw [if_neg (by decide)]
    exact zeK _
  ·rcases hk with rfl | ⟨rfl,h20⟩
   ·rw [if_pos rfl]
    refine ACalls.frame ([0]) (h1) rfl (by decide) (by simp [LM1,zah,zae,renL,AV.ren,AEnd.ren,mbF.fren,zac,List.getElem?_cons_zero,List.getElem?_cons_succ]) (by first | rfl | simp [LM1,zah,zae,renL,AV.ren,AEnd.ren,mbF.fren,zac,List.getElem?_cons_zero,List.getElem?_cons_succ]) ?_
    rintro _ _ ⟨rfl,rfl⟩
    refine⟨.ret (.tup []),[.rw ((zgx L).flatMap mbC)],(by show zae _ _ ([0]) ([0]) 0 _;simp [LM1,zah,zae,renL,AV.ren,AEnd.ren,mbF.fren,zac,List.getElem?_cons_zero,List.getElem?_cons_succ]),(by show AEnd.ren ([0]) _ _;first | rfl | simp [LM1,zah,zae,renL,AV.ren,AEnd.ren,mbF.fren,zac,List.getElem?_cons_zero,List.getElem?_cons_succ]),?_⟩
    try simp -implicitDefEqProofs only [LM5,eq_self,zaa,zab,Nat.zero_mul,TB,SB,Int.reduceToNat,Nat.reduceAdd,Nat.reduceEqDiff,Nat.reduceLT,Nat.reduceMod,Nat.reducePow,Nat.reduceSub,if_true,reduceIte]
    rw [zbe]
    refine⟨Nat,fun k=>k=0,fun k=>[.bot,i64 L.length,.bot,.bot,.bot,.bot,i64 20,.bot,.bot,.bot,.bot,.bot,.bot,.bot,.bot,.bot,.bot,.bot,.bot,.bot,.bot,.bot,.bot,.bot,.bot,.bot,.bot,.bot,.bot,.bot,.bot,.bot,.bot,.bot,.bot,.bot,.bot,.bot,.bot,.bot,.bot,.bot,.bot,.bot,.bot,.bot,.bot,.bot,.bot,.bot,.bot,.bot,.bot,.bot,.bot,.bot,.bot,.bot,.bot,.bot,.bot,.bot,.bot],fun k=>[.rw ((zgx L).flatMap mbC)],fun k=>0,0,rfl,zaj (q:=[0]) rfl rfl (by decide) ?_ ?_,?_⟩
    ·try simp only [FB,AV.ren,Nat.reduceAdd,reduceCtorEq]
    ·exact zeK _
    ·rintro k rfl
     try simp -implicitDefEqProofs only [LM5,eq_self,zaa,zab,Nat.zero_mul,TB,SB,Int.reduceToNat,Nat.reduceAdd,Nat.reduceEqDiff,Nat.reduceLT,Nat.reduceMod,Nat.reducePow,Nat.reduceSub,if_true,reduceIte]
     exact⟨fun h=>absurd h (by omega),fun _=>zaH ⟨rfl,rfl⟩⟩
   ·rw [if_neg (by decide)]
    have h2:=misort_ok (zgx L) [] [] (by simp [hsl];omega)
    simp only [List.length_nil,Nat.add_zero,List.nil_append,List.append_nil,sortI_nil] at h2
    rw [hsl] at h2
    unfold zf1 at h2
    rw [show ((20 * 1:Nat):Int)=(L.length:Nat) by omega]
    refine ACalls.frame ([0]) (h2) rfl (by decide) (by simp [LM1,zah,zae,renL,AV.ren,AEnd.ren,mbF.fren,zac,List.getElem?_cons_zero,List.getElem?_cons_succ]) (by first | rfl | simp [LM1,zah,zae,renL,AV.ren,AEnd.ren,mbF.fren,zac,List.getElem?_cons_zero,List.getElem?_cons_succ]) ?_
    rintro _ _ ⟨rfl,rfl⟩
    refine⟨.ret (.tup []),[.rw ((zgx L).flatMap mbC)],(by show zae _ _ ([0]) ([0]) 0 _;simp [LM1,zah,zae,renL,AV.ren,AEnd.ren,mbF.fren,zac,List.getElem?_cons_zero,List.getElem?_cons_succ]),(by show AEnd.ren ([0]) _ _;first | rfl | simp [LM1,zah,zae,renL,AV.ren,AEnd.ren,mbF.fren,zac,List.getElem?_cons_zero,List.getElem?_cons_succ]),?_⟩
    try simp -implicitDefEqProofs only [LM5,eq_self,zaa,zab,Nat.zero_mul,TB,SB,Int.reduceToNat,Nat.reduceAdd,Nat.reduceEqDiff,Nat.reduceLT,Nat.reduceMod,Nat.reducePow,Nat.reduceSub,if_true,reduceIte]
    rw [zbe]
    refine⟨Nat,fun k=>k=0,fun k=>[.bot,i64 L.length,.bot,.bot,.bot,.bot,i64 20,.bot,.bot,.bot,.bot,.bot,.bot,.bot,.bot,.bot,.bot,.bot,.bot,.bot,.bot,.bot,.bot,.bot,.bot,.bot,.bot,.bot,.bot,.bot,.bot,.bot,.bot,.bot,.bot,.bot,.bot,.bot,.bot,.bot,.bot,.bot,.bot,.bot,.bot,.bot,.bot,.bot,.bot,.bot,.bot,.bot,.bot,.bot,.bot,.bot,.bot,.bot,.bot,.bot,.bot,.bot,.bot],fun k=>[.rw ((zgx L).flatMap mbC)],fun k=>0,0,rfl,zaj (q:=[0]) rfl rfl (by decide) ?_ ?_,?_⟩
    ·try simp only [FB,AV.ren,Nat.reduceAdd,reduceCtorEq]
    ·exact zeK _
    ·rintro k rfl
     try simp -implicitDefEqProofs only [LM5,eq_self,zaa,zab,Nat.zero_mul,TB,SB,Int.reduceToNat,Nat.reduceAdd,Nat.reduceEqDiff,Nat.reduceLT,Nat.reduceMod,Nat.reducePow,Nat.reduceSub,if_true,reduceIte]
     exact⟨fun h=>absurd h (by omega),fun _=>zaH ⟨rfl,rfl⟩⟩
def zji (N:Nat):Prop:=∀ L:List Mem,L.length≤N→ACalls Tryz.prog 111 [.ref 0 0 L.length 2,zf1] [.rw (L.flatMap mbC)] (fun y σ=>y=.ret (.tup [])∧σ=[.rw ((zfI L).flatMap mbC)])
theorem posM_app (p:Mem→Bool) (S:List Mem) (y:Mem):∀ j,j≤S.length→posM p (S++[y]) j=posM p S j
 | 0,_=>rfl
 | j+1,h=>by
  rw [posM,posM,posM_app p S y j (by omega),List.getD_eq_getElem?_getD,List.getElem?_append_left (by omega),← List.getD_eq_getElem?_getD]
theorem insP_app (p:Mem→Bool) (x:Mem) (S:List Mem) (y:Mem):insP p x (S++[y])=if p y then insP p x S++[y] else S++[y,x]:=by
 have hq:=posM_le p S S.length
 have e:posM p (S++[y]) (S++[y]).length=if p y then posM p S S.length else S.length+1:=by
  rw [List.length_append,List.length_cons,List.length_nil,Nat.zero_add,posM,posM_app p S y _ (Nat.le_refl _)]
  simp
 rw [insP,e]
 split
 ·rw [insP,List.take_append_of_le_length hq,List.drop_append_of_le_length hq]
  simp
 ·rw [List.take_of_length_le (by simp),List.drop_eq_nil_of_le (by simp)]
  simp
theorem ltM_lt (x y:Mem):ltM x y=decide (x.1 < y.1):=by
 rw [← Go.Proofs.bytesLess_eq,ltM]
 have:=cmpB_lt x.1 y.1
 unfold cmpM
 by_cases h:Op.bytesLess x.1 y.1=true
 ·rw [h,decide_eq_true (this.2 h)]
 ·rw [decide_eq_false (fun h'=>h (this.1 h')),Bool.eq_false_iff.2 h]
def Asc (S:List Mem):Prop:=S.Pairwise (fun a b=>¬ b.1 < a.1)
theorem ziu (x y:Mem) (h:ltM x y=true):∀ S:List Mem,insM x (S++[y])=insM x S++[y]
 | []=>by
  have:Op.bytesLess x.1 y.1=true:=by rw [Go.Proofs.bytesLess_eq,← ltM_lt];exact h
  simp [insM,this]
 | a::S=>by
  rw [List.cons_append,insM,insM,ziu x y h S]
  split <;> rfl
theorem insM_end (x:Mem):∀ S:List Mem,(∀ a∈S,¬ x.1 < a.1)→insM x S=S++[x]
 | [],_=>rfl
 | a::S,h=>by
  have:Op.bytesLess x.1 a.1=false:=by rw [Go.Proofs.bytesLess_eq];exact decide_eq_false (h a (by simp))
  rw [insM,this,insM_end x S (fun b hb=>h b (by simp [hb]))]
  rfl
theorem insP_M' (x:Mem):∀ R:List Mem,Asc R.reverse→insP (ltM x) x R.reverse=insM x R.reverse
 | [],_=>rfl
 | y::R,h=>by
  have ih:=insP_M' x R
  rw [List.reverse_cons] at h ⊢
  generalize R.reverse=S at ih h
  have h':=List.pairwise_append.1 h
  rw [insP_app]
  split
  ·rename_i hlt
   rw [ih h'.1,ziu x y hlt]
  ·rename_i hlt
   rw [ltM_lt] at hlt
   have hn:¬ x.1 < y.1:=fun hh=>hlt (decide_eq_true hh)
   rw [insM_end x (S++[y])]
   ·simp
   ·intro a ha
    rcases List.mem_append.1 ha with ha | ha
    ·intro hxa
     have hya:¬ y.1 < a.1:=h'.2.2 a ha y (by simp)
     exact hya (List.lt_of_le_of_lt (List.not_lt.1 hn) hxa)
    ·rw [List.mem_singleton.1 ha]
     exact hn
theorem insP_M (x:Mem) (S:List Mem) (h:Asc S):insP (ltM x) x S=insM x S:=by
 have:=insP_M' x S.reverse
 rw [List.reverse_reverse] at this
 exact this h
theorem insM_asc (x:Mem):∀ S:List Mem,Asc S→Asc (insM x S)
 | [],_=>by simp [insM,Asc]
 | a::S,h=>by
  have h':=List.pairwise_cons.1 h
  rw [insM,Go.Proofs.bytesLess_eq]
  split
  ·rename_i hlt
   have hlt':=of_decide_eq_true hlt
   refine List.pairwise_cons.2 ⟨fun b hb=>?_,h⟩
   rcases List.mem_cons.1 hb with rfl | hb
   ·exact List.not_lt.2 (List.le_of_lt hlt')
   ·exact List.not_lt.2 (List.le_trans (List.le_of_lt hlt') (List.not_lt.1 (h'.1 b hb)))
  ·rename_i hlt
   have hlt':¬ x.1 < a.1:=fun hh=>hlt (decide_eq_true hh)
   refine List.pairwise_cons.2 ⟨fun b hb=>?_,insM_asc x S h'.2⟩
   rcases List.mem_cons.1 ((zit x S).mem_iff.1 hb) with rfl | hb
   ·exact hlt'
   ·exact h'.1 b hb
theorem sortM_asc:∀ (l acc:List Mem),Asc acc→Asc (l.foldl (fun acc m=>insM m acc) acc)
 | [],_,h=>h
 | m::l,acc,h=>sortM_asc l _ (insM_asc m acc h)
theorem zjj (L:List Mem):∀ k,k≤L.length→zeR L k=zfI (L.take k)
 | 0,_=>rfl
 | k+1,h=>by
  rw [zeR,zjj L k (by omega),insP_M _ _ (show Asc (zfI _) from sortM_asc _ _ List.Pairwise.nil),List.getD_eq_getElem?_getD,List.getElem?_eq_getElem (by omega:k < L.length)]
  have e:L.take (k+1)=L.take k++[L[k]]:=List.take_succ_eq_append_getElem (by omega:k < L.length)
  rw [zfI,zfI,e,List.foldl_append]
  rfl
theorem sortI_M (L:List Mem):zgx L=zfI L:=by
 rw [zgx,zjj L _ (Nat.le_refl _),List.take_length]
theorem sort20:zji 20:=fun L hL=>by
 have h:=mstable_ok L hL
 rw [sortI_M] at h
 unfold zf1 at h ⊢
 refine ACalls.body T_ok Tryz.func111 (by kernel_rfl) rfl Tryz.ntmps111 (congrArg Array.toList Tryz.results111) ?_
 try simp -implicitDefEqProofs only [LM5,eq_self,zaa,zab,Nat.zero_mul,TB,SB,Int.reduceToNat,Nat.reduceAdd,Nat.reduceEqDiff,Nat.reduceLT,Nat.reduceMod,Nat.reducePow,Nat.reduceSub,if_true,reduceIte]
 refine ACalls.frame ([0]) (h) rfl (by decide) (by simp [LM1,zah,zae,renL,AV.ren,AEnd.ren,mbF.fren,zac,List.getElem?_cons_zero,List.getElem?_cons_succ]) (by first | rfl | simp [LM1,zah,zae,renL,AV.ren,AEnd.ren,mbF.fren,zac,List.getElem?_cons_zero,List.getElem?_cons_succ]) ?_
 rintro _ _ ⟨rfl,rfl⟩
 refine⟨.ret (.tup []),[.rw ((zfI L).flatMap mbC)],(by show zae _ _ ([0]) ([0]) 0 _;simp [LM1,zah,zae,renL,AV.ren,AEnd.ren,mbF.fren,zac,List.getElem?_cons_zero,List.getElem?_cons_succ]),(by show AEnd.ren ([0]) _ _;first | rfl | simp [LM1,zah,zae,renL,AV.ren,AEnd.ren,mbF.fren,zac,List.getElem?_cons_zero,List.getElem?_cons_succ]),?_⟩
 try simp -implicitDefEqProofs only [LM5,eq_self,zaa,zab,Nat.zero_mul,TB,SB,Int.reduceToNat,Nat.reduceAdd,Nat.reduceEqDiff,Nat.reduceLT,Nat.reduceMod,Nat.reducePow,Nat.reduceSub,if_true,reduceIte]
 exact zaH ⟨rfl,rfl⟩
end Go.Proofs.YtamcppdhkeiaiaaGreatDoor
end

section
namespace Go.Proofs.YtamcppdhkeiaiaaGreatDoor
open Go Go.Eng
section
variable {σ : zad} {K : AV → Prop} {KS : AV → zad → Prop}
theorem zdq (a:List UInt8) (l:List Nd):zbl T 185 [(0,str a),(1,slN l)] K=K (mbA (a,l)):=by
 simp [zbl,T185,tyMb,T9,T37,zb9,zaS,AV.cells,zd5,zbf,tyStr,tySl,mbA,mbC,str,slN]
 try rfl
theorem zdr (m:Mem):bs2 (some tyMb) 1 [(0,mbA m)] σ KS=KS (.ref σ.length 0 1 2) (σ++[.rw (([m]:List Mem).flatMap mbC)]):=by
 have h2:(slN m.2).one=true:=rfl
 simp [bs2,tyMb,zb9,zcq,AV.cells,zbf,List.range_succ,List.replicate,mbA,mbC,zd5,h2]
theorem zca (k v:TypeId) (x:AV):ld2 (some (zhf k v)) (some [x]) 0 K=K x:=by simp [ld2,wfin,zhf,TD.agg]
end
def OA (s:List UInt8) (p tw:Int):zad:=[.rw (rC s p tw),.rw [.ptr 0 0],.rw [nilS],mpS [] [],.rw [.mpt 3]]
def OB (s:List UInt8) (p tw:Int) (ms:List Mem) (zs:List Int):zad:=[.rw (rC s p tw),.rw [.ptr 0 0],.rw [.ref 5 0 ms.length 2],mpS (ksU ms) zs,.rw [.mpt 3],.rw (ms.flatMap mbC)]
def dead5:zad:=[.dead,.dead,.dead,.dead,.dead]
def dead6:zad:=[.dead,.dead,.dead,.dead,.dead,.dead]
def ziv (s:List UInt8) (p:Nat) (d:zad) (x:Except Nat (GO × Nat)):AEnd→zad→Prop:=fun y σ=>match x with
 | .ok x=>y=.ret (.tup [])∧σ=OB s ((p+x.2:Nat):Int) x.1.2.1 x.1.1 x.1.2.2
 | .error k=>y=.pan (flt ((p+k:Nat):Int) 2)∧σ=d
def loneOT:Tr:=(.br 0 (.br 1 (.br 2 (.br 3 (.br 4 (.br 5 (.br 6 (.br 7 .done .nil) .nil) .nil) .nil) .nil) .nil) (.br 2 (.br 1 (.br 3 (.br 4 (.br 5 (.br 6 (.br 7 .done .nil) .nil) .nil) .nil) .nil) (.br 3 (.br 1 (.br 4 (.br 5 (.br 6 (.br 7 .done .nil) .nil) .nil) .nil) .nil) .nil)) .nil)) (.br 1 (.br 0 (.br 2 (.br 3 (.br 4 (.br 5 (.br 6 (.br 7 .done .nil) .nil) .nil) .nil) .nil) .nil) (.br 2 (.br 0 (.br 3 (.br 4 (.br 5 (.br 6 (.br 7 .done .nil) .nil) .nil) .nil) .nil) (.br 3 (.br 0 (.br 4 (.br 5 (.br 6 (.br 7 .done .nil) .nil) .nil) .nil) (.br 4 (.br 0 (.br 5 (.br 6 (.br 7 .done .nil) .nil) .nil) (.br 5 (.br 0 (.br 6 (.br 7 .done .nil) .nil) .nil) .nil)) .nil)) .nil)) .nil)) (.br 2 (.br 0 (.br 1 (.br 3 (.br 4 (.br 5 (.br 6 (.br 7 .done .nil) .nil) .nil) .nil) .nil) (.br 3 (.br 1 (.br 4 (.br 5 (.br 6 (.br 7 .done .nil) .nil) .nil) .nil) .nil) .nil)) (.br 1 (.br 0 (.br 3 (.br 4 (.br 5 (.br 6 (.br 7 .done .nil) .nil) .nil) .nil) .nil) (.br 3 (.br 0 (.br 4 (.br 5 (.br 6 (.br 7 .done .nil) .nil) .nil) .nil) (.br 4 (.br 0 (.br 5 (.br 6 (.br 7 .done .nil) .nil) .nil) (.br 5 (.br 0 (.br 6 (.br 7 .done .nil) .nil) .nil) .nil)) .nil)) .nil)) (.br 3 (.br 0 (.br 1 (.br 4 (.br 5 (.br 6 (.br 7 .done .nil) .nil) .nil) .nil) .nil) (.br 1 (.br 0 (.br 4 (.br 5 (.br 6 (.br 7 .done .nil) .nil) .nil) .nil) (.br 4 (.br 0 (.br 5 (.br 6 (.br 7 .done .nil) .nil) .nil) (.br 5 (.br 0 (.br 6 (.br 7 .done .nil) .nil) .nil) .nil)) .nil)) .nil)) .nil))) .nil)))
theorem zaf (q:List Nat):nilS.ren q=some nilS:=rfl
def OC (s:List UInt8) (p tw:Int) (ms:List Mem) (zs:List Int):zad:=[.rw (rC s p tw),.rw [.ptr 0 0],.rw [.ref 6 0 ms.length 2],mpS (ksU ms) zs,.rw [.mpt 3],.dead,.rw (ms.flatMap mbC)]
def ziw (s:List UInt8) (p:Nat) (d:zad) (x:Except Nat (GO × Nat)):AEnd→zad→Prop:=fun y σ=>match x with
 | .ok x=>y=.ret (.tup [])∧σ=OC s ((p+x.2:Nat):Int) x.1.2.1 x.1.1 x.1.2.2
 | .error k=>y=.pan (flt ((p+k:Nat):Int) 2)∧σ=d
theorem keepOA {x:List AV} {ks:List (List UInt8)} {zs:List Int} {s:List UInt8} {p tw:Int} {ms:List Mem} {n:Nat}:zah [.rw (rC s p tw),.rw [.ptr 0 0],.rw [.ref 6 0 n 2],mpS ks zs,.rw [.mpt 3],.rw x,.rw (ms.flatMap mbC)] [0,1,2,3,4,6] [0,1,2,3,4,6] [.rw (rC s p tw),.rw [.ptr 0 0],.rw [.ref 5 0 n 2],mpS ks zs,.rw [.mpt 3],.rw (ms.flatMap mbC)]:=by
 simp [zah,zaG,mbF.fren,zbo,zgW,renL,AV.ren]
theorem keepOB {x:List AV} {ks:List (List UInt8)} {zs:List Int} {s:List UInt8} {p tw:Int} {ms:List Mem} {n:Nat}:zah [.rw (rC s p tw),.rw [.ptr 0 0],.rw [.ref 7 0 n 2],mpS ks zs,.rw [.mpt 3],.dead,.rw x,.rw (ms.flatMap mbC)] [0,1,2,3,4,5,7] [0,1,2,3,4,5,7] [.rw (rC s p tw),.rw [.ptr 0 0],.rw [.ref 6 0 n 2],mpS ks zs,.rw [.mpt 3],.dead,.rw (ms.flatMap mbC)]:=by
 simp [zah,zaG,mbF.fren,zbo,zgW,renL,AV.ren]
theorem ksU_app (ms:List Mem) (m:Mem):ksU (ms++[m])=zjV (ksU ms) m.1:=by simp [ksU]
theorem zjk {V:PV} {g:GO} {p:Nat} {l:List UInt8} (hq:quoL l=none):zdp V g p l=.error 0:=by
 rw [zdp,hq]
theorem zjl {V:PV} {g:GO} {p c b:Nat} {l key:List UInt8} (hq:quoL l=some (key,c)) (hb:b=c+zaD (l.drop c)) (h:(l.drop b).head?≠some 58):zdp V g p l=.error b:=by
 subst hb
 rw [zdp,hq]
 dsimp only
 rw [if_neg h]
theorem stepO_bad {V:PV} {g:GO} {p c b b2 k:Nat} {l key:List UInt8} (hq:quoL l=some (key,c)) (hb:b=c+zaD (l.drop c)) (h:(l.drop b).head?=some 58) (hb2:b2=b+1+zaD (l.drop (b+1))) (hx:V (twK g.1 g.2.1 p key) (p+b2) (l.drop b2)=.error k):zdp V g p l=.error (b2+k):=by
 subst hb hb2
 rw [zdp,hq]
 dsimp only
 rw [if_pos h,hx]
theorem stepO_ok {V:PV} {g:GO} {p c b b2 c2:Nat} {l key:List UInt8} {x:List Nd × Int} (hq:quoL l=some (key,c)) (hb:b=c+zaD (l.drop c)) (h:(l.drop b).head?=some 58) (hb2:b2=b+1+zaD (l.drop (b+1))) (hx:V (twK g.1 g.2.1 p key) (p+b2) (l.drop b2)=.ok (x,c2)):zdp V g p l=.ok ((g.1++[(key,x.1)],x.2,zjW (ksU g.1) g.2.2 key p),b2+c2):=by
 subst hb hb2
 rw [zdp,hq]
 dsimp only
 rw [if_pos h,hx]
theorem loneA_ok (n:Nat) (s:List UInt8) (hs:s.length≤1000000000) (hV:zkC n s) (p:Nat) (tw:Int) (hp:p≤s.length) (hn:s.length - p≤n):ACalls Tryz.prog 108 [.ptr 1 0,.ptr 4 0,.ptr 2 0] (OA s p tw) (ziv s p dead5 (zdp (pvF n) ([],tw,[]) p (s.drop p))):=by
 have h:=pkey_ok s p tw [] [] rfl hs
 unfold keyK' mS at h
 unfold OA
 refine ACalls.body T_ok Tryz.func108 (by kernel_rfl) rfl Tryz.ntmps108 (congrArg Array.toList Tryz.results108) ?_
 try simp -implicitDefEqProofs only [LM5,eq_self,zaa,zab,Nat.zero_mul,zdq,zdr,zca,TB,SB,Int.reduceToNat,Nat.reduceAdd,Nat.reduceEqDiff,Nat.reduceLT,Nat.reduceMod,Nat.reducePow,Nat.reduceSub,if_true,reduceIte]
 cases hq:quoL (s.drop p) with
 | none =>
  rw [hq] at h
  dsimp only at h
  refine ACalls.frame ([0,3]) (h) rfl (by decide) (by simp [LM1,zah,zae,renL,AV.ren,AEnd.ren,mbF.fren,zac,List.getElem?_cons_zero,List.getElem?_cons_succ]) (by first | rfl | simp [LM1,zah,zae,renL,AV.ren,AEnd.ren,mbF.fren,zac,List.getElem?_cons_zero,List.getElem?_cons_succ]) ?_
  rintro _ _ ⟨rfl,rfl⟩
  refine⟨.pan (flt p 2),[.dead,.rw [.ptr 0 0],.rw [nilS],.dead,.rw [.mpt 3]],(by show zae _ _ ([0,2,2,1,2]) ([0,2,2,1,2]) 0 _;simp [LM1,zah,zae,renL,AV.ren,AEnd.ren,mbF.fren,zac,List.getElem?_cons_zero,List.getElem?_cons_succ]),(by show AEnd.ren ([0,2,2,1,2]) _ _;first | rfl | simp [LM1,zah,zae,renL,AV.ren,AEnd.ren,mbF.fren,zac,List.getElem?_cons_zero,List.getElem?_cons_succ]),?_⟩
  try simp -implicitDefEqProofs only [LM5,eq_self,zaa,zab,Nat.zero_mul,zdq,zdr,zca,TB,SB,Int.reduceToNat,Nat.reduceAdd,Nat.reduceEqDiff,Nat.reduceLT,Nat.reduceMod,Nat.reducePow,Nat.reduceSub,if_true,reduceIte]
  refine zbQ (za0 _ _ _) ?_
  unfold ziv
  rw [zjk hq]
  exact⟨rfl,rfl⟩
 | some x =>
  obtain⟨key,c⟩:=x
  have hc:=zj0 hq
  rw [List.length_drop] at hc
  dsimp only at hc
  rw [hq] at h
  dsimp only at h
  obtain⟨tw2,htw2⟩:∃ t,t=(if key∈([]:List (List UInt8))∧tw < 0 then (p:Int) else tw):=⟨_,rfl⟩
  obtain⟨ks2,hks2⟩:∃ k,k=zjV [] key:=⟨_,rfl⟩
  obtain⟨zs2,hzs2⟩:∃ z,z=zjW [] [] key p:=⟨_,rfl⟩
  rw [← htw2,← hks2,← hzs2] at h
  refine ACalls.frame ([0,3]) (h) rfl (by decide) (by simp [LM1,zah,zae,renL,AV.ren,AEnd.ren,mbF.fren,zac,List.getElem?_cons_zero,List.getElem?_cons_succ]) (by first | rfl | simp [LM1,zah,zae,renL,AV.ren,AEnd.ren,mbF.fren,zac,List.getElem?_cons_zero,List.getElem?_cons_succ]) ?_
  rintro _ _ ⟨rfl,rfl⟩
  refine⟨.ret (str key),[.rw (rC s ((p+c:Nat):Int) tw2),.rw [.ptr 0 0],.rw [nilS],mpS ks2 zs2,.rw [.mpt 3]],(by show zae _ _ ([0,2,2,1,2]) ([0,2,2,1,2]) 0 _;simp [LM1,zah,zae,renL,AV.ren,AEnd.ren,mbF.fren,zac,List.getElem?_cons_zero,List.getElem?_cons_succ]),(by show AEnd.ren ([0,2,2,1,2]) _ _;first | rfl | simp [LM1,zah,zae,renL,AV.ren,AEnd.ren,mbF.fren,zac,List.getElem?_cons_zero,List.getElem?_cons_succ]),?_⟩
  try simp -implicitDefEqProofs only [LM5,eq_self,zaa,zab,Nat.zero_mul,zdq,zdr,zca,TB,SB,Int.reduceToNat,Nat.reduceAdd,Nat.reduceEqDiff,Nat.reduceLT,Nat.reduceMod,Nat.reducePow,Nat.reduceSub,if_true,reduceIte]
  obtain⟨b,hb⟩:∃ b,b=c+zaD ((s.drop p).drop c):=⟨_,rfl⟩
  have hb':=hb
  rw [List.drop_drop] at hb'
  have hbl:=zbx (s.drop (p+c))
  rw [List.length_drop] at hbl
  have hsk:=zcW s (p+c) tw2 (by omega) hs
  rw [show p+c+zaD (s.drop (p+c))=p+b by omega] at hsk
  unfold rS at hsk
  refine ACalls.frame ([0]) (hsk) rfl (by decide) (by simp [LM1,zah,zae,renL,AV.ren,AEnd.ren,mbF.fren,zac,List.getElem?_cons_zero,List.getElem?_cons_succ]) (by first | rfl | simp [LM1,zah,zae,renL,AV.ren,AEnd.ren,mbF.fren,zac,List.getElem?_cons_zero,List.getElem?_cons_succ]) ?_
  rintro _ _ ⟨rfl,rfl⟩
  refine⟨.ret (.tup []),[.rw (rC s ((p+b:Nat):Int) tw2),.rw [.ptr 0 0],.rw [nilS],mpS ks2 zs2,.rw [.mpt 3]],(by show zae _ _ ([0,1,1,1,1]) ([0,1,1,1,1]) 0 _;simp [LM1,zah,zae,renL,AV.ren,AEnd.ren,mbF.fren,zac,List.getElem?_cons_zero,List.getElem?_cons_succ]),(by show AEnd.ren ([0,1,1,1,1]) _ _;first | rfl | simp [LM1,zah,zae,renL,AV.ren,AEnd.ren,mbF.fren,zac,List.getElem?_cons_zero,List.getElem?_cons_succ]),?_⟩
  try simp -implicitDefEqProofs only [LM5,eq_self,zaa,zab,Nat.zero_mul,zdq,zdr,zca,TB,SB,Int.reduceToNat,Nat.reduceAdd,Nat.reduceEqDiff,Nat.reduceLT,Nat.reduceMod,Nat.reducePow,Nat.reduceSub,if_true,reduceIte]
  have hwt:=ziq s (p+b) tw2 58 (by omega) hs
  unfold zkB rS at hwt
  have hisAt:isAt s (p+b) 58=decide (((s.drop p).drop b).head?=some 58):=by rw [List.drop_drop];rfl
  by_cases h58:((s.drop p).drop b).head?=some 58
  rotate_left
  ·rw [hisAt,decide_eq_false h58] at hwt
   dsimp only at hwt
   refine ACalls.frame ([0]) (hwt) rfl (by decide) (by simp [LM1,zah,zae,renL,AV.ren,AEnd.ren,mbF.fren,zac,List.getElem?_cons_zero,List.getElem?_cons_succ]) (by first | rfl | simp [LM1,zah,zae,renL,AV.ren,AEnd.ren,mbF.fren,zac,List.getElem?_cons_zero,List.getElem?_cons_succ]) ?_
   rintro _ _ ⟨rfl,rfl⟩
   refine⟨.pan (flt ((p+b:Nat):Int) 2),[.dead,.rw [.ptr 0 0],.rw [nilS],mpS ks2 zs2,.rw [.mpt 3]],(by show zae _ _ ([0,1,1,1,1]) ([0,1,1,1,1]) 0 _;simp [LM1,zah,zae,renL,AV.ren,AEnd.ren,mbF.fren,zac,List.getElem?_cons_zero,List.getElem?_cons_succ]),(by show AEnd.ren ([0,1,1,1,1]) _ _;first | rfl | simp [LM1,zah,zae,renL,AV.ren,AEnd.ren,mbF.fren,zac,List.getElem?_cons_zero,List.getElem?_cons_succ]),?_⟩
   try simp -implicitDefEqProofs only [LM5,eq_self,zaa,zab,Nat.zero_mul,zdq,zdr,zca,TB,SB,Int.reduceToNat,Nat.reduceAdd,Nat.reduceEqDiff,Nat.reduceLT,Nat.reduceMod,Nat.reducePow,Nat.reduceSub,if_true,reduceIte]
   refine zbQ (za0 _ _ _) ?_
   unfold ziv
   rw [zjl hq hb h58]
   exact⟨rfl,rfl⟩
  rw [hisAt,decide_eq_true h58] at hwt
  dsimp only at hwt
  have hql:p+b < s.length:=by
   rcases Nat.lt_or_ge (p+b) s.length with h | h
   ·exact h
   ·rw [List.drop_drop,zcy h] at h58;cases h58
  refine ACalls.frame ([0]) (hwt) rfl (by decide) (by simp [LM1,zah,zae,renL,AV.ren,AEnd.ren,mbF.fren,zac,List.getElem?_cons_zero,List.getElem?_cons_succ]) (by first | rfl | simp [LM1,zah,zae,renL,AV.ren,AEnd.ren,mbF.fren,zac,List.getElem?_cons_zero,List.getElem?_cons_succ]) ?_
  rintro _ _ ⟨rfl,rfl⟩
  refine⟨.ret (.tup []),[.rw (rC s ((p+b+1:Nat):Int) tw2),.rw [.ptr 0 0],.rw [nilS],mpS ks2 zs2,.rw [.mpt 3]],(by show zae _ _ ([0,1,1,1,1]) ([0,1,1,1,1]) 0 _;simp [LM1,zah,zae,renL,AV.ren,AEnd.ren,mbF.fren,zac,List.getElem?_cons_zero,List.getElem?_cons_succ]),(by show AEnd.ren ([0,1,1,1,1]) _ _;first | rfl | simp [LM1,zah,zae,renL,AV.ren,AEnd.ren,mbF.fren,zac,List.getElem?_cons_zero,List.getElem?_cons_succ]),?_⟩
  try simp -implicitDefEqProofs only [LM5,eq_self,zaa,zab,Nat.zero_mul,zdq,zdr,zca,TB,SB,Int.reduceToNat,Nat.reduceAdd,Nat.reduceEqDiff,Nat.reduceLT,Nat.reduceMod,Nat.reducePow,Nat.reduceSub,if_true,reduceIte]
  obtain⟨b2,hb2⟩:∃ b2,b2=b+1+zaD ((s.drop p).drop (b+1)):=⟨_,rfl⟩
  have hb2':=hb2
  rw [List.drop_drop] at hb2'
  have hbl2:=zbx (s.drop (p+b+1))
  rw [List.length_drop] at hbl2
  have hsk2:=zcW s (p+b+1) tw2 (by omega) hs
  rw [show p+b+1+zaD (s.drop (p+b+1))=p+b2 by rw [hb2',Nat.add_assoc p b 1];omega] at hsk2
  have hbl3:p+b2≤s.length:=by rw [hb2',← Nat.add_assoc p b 1];omega
  unfold rS at hsk2
  refine ACalls.frame ([0]) (hsk2) rfl (by decide) (by simp [LM1,zah,zae,renL,AV.ren,AEnd.ren,mbF.fren,zac,List.getElem?_cons_zero,List.getElem?_cons_succ]) (by first | rfl | simp [LM1,zah,zae,renL,AV.ren,AEnd.ren,mbF.fren,zac,List.getElem?_cons_zero,List.getElem?_cons_succ]) ?_
  rintro _ _ ⟨rfl,rfl⟩
  refine⟨.ret (.tup []),[.rw (rC s ((p+b2:Nat):Int) tw2),.rw [.ptr 0 0],.rw [nilS],mpS ks2 zs2,.rw [.mpt 3]],(by show zae _ _ ([0,1,1,1,1]) ([0,1,1,1,1]) 0 _;simp [LM1,zah,zae,renL,AV.ren,AEnd.ren,mbF.fren,zac,List.getElem?_cons_zero,List.getElem?_cons_succ]),(by show AEnd.ren ([0,1,1,1,1]) _ _;first | rfl | simp [LM1,zah,zae,renL,AV.ren,AEnd.ren,mbF.fren,zac,List.getElem?_cons_zero,List.getElem?_cons_succ]),?_⟩
  try simp -implicitDefEqProofs only [LM5,eq_self,zaa,zab,Nat.zero_mul,zdq,zdr,zca,TB,SB,Int.reduceToNat,Nat.reduceAdd,Nat.reduceEqDiff,Nat.reduceLT,Nat.reduceMod,Nat.reducePow,Nat.reduceSub,if_true,reduceIte]
  have hv:=hV (p+b2) tw2 hbl3 (by omega)
  have hdd:s.drop (p+b2)=(s.drop p).drop b2:=by rw [List.drop_drop]
  rw [hdd] at hv
  have hg:=zcG n tw2 (p+b2) ((s.drop p).drop b2)
  unfold outV rS at hv
  have htw3:twK (([],tw,[]):GO).1 (([],tw,[]):GO).2.1 p key=tw2:=htw2.symm
  refine zh8 loneOT (by kernel_rfl) (by kernel_rfl) ?_
  unfold loneOT
  try simp -implicitDefEqProofs only [LM5,eq_self,zaa,zab,Nat.zero_mul,zdq,zdr,zca,TB,SB,Int.reduceToNat,Nat.reduceAdd,Nat.reduceEqDiff,Nat.reduceLT,Nat.reduceMod,Nat.reducePow,Nat.reduceSub,if_true,reduceIte]
  cases hx:pvF n tw2 (p+b2) ((s.drop p).drop b2) with
  | error k =>
   rw [hx] at hv
   dsimp only at hv
   have hst:=stepO_bad (V:=pvF n) (g:=([],tw,[])) hq hb h58 hb2 (by rw [htw3];exact hx)
   repeat' with_reducible refine And.intro ?_ ?_
   all_goals
    refine ACalls.frame ([0]) (hv) rfl (by decide) (by simp [LM1,zah,zae,renL,AV.ren,AEnd.ren,mbF.fren,zac,List.getElem?_cons_zero,List.getElem?_cons_succ]) (by first | rfl | simp [LM1,zah,zae,renL,AV.ren,AEnd.ren,mbF.fren,zac,List.getElem?_cons_zero,List.getElem?_cons_succ]) ?_
    rintro _ _ ⟨rfl,rfl⟩
    refine⟨.pan (flt ((p+b2+k:Nat):Int) 2),[.dead,.rw [.ptr 0 0],.rw [nilS],mpS ks2 zs2,.rw [.mpt 3]],(by show zae _ _ ([0,1,1,1,1]) ([0,1,1,1,1]) 0 _;simp [LM1,zah,zae,renL,AV.ren,AEnd.ren,mbF.fren,zac,List.getElem?_cons_zero,List.getElem?_cons_succ]),(by show AEnd.ren ([0,1,1,1,1]) _ _;first | rfl | simp [LM1,zah,zae,renL,AV.ren,AEnd.ren,mbF.fren,zac,List.getElem?_cons_zero,List.getElem?_cons_succ]),?_⟩
    try simp -implicitDefEqProofs only [LM5,eq_self,zaa,zab,Nat.zero_mul,zdq,zdr,zca,TB,SB,Int.reduceToNat,Nat.reduceAdd,Nat.reduceEqDiff,Nat.reduceLT,Nat.reduceMod,Nat.reducePow,Nat.reduceSub,if_true,reduceIte]
    refine zbQ (za0 _ _ _) ?_
    unfold ziv
    rw [hst]
    exact⟨by rw [Nat.add_assoc],rfl⟩
  | ok x =>
   rw [hx] at hv hg
   obtain⟨x,c2⟩:=x
   dsimp only at hv hg
   have hst:=stepO_ok (V:=pvF n) (g:=([],tw,[])) hq hb h58 hb2 (by rw [htw3];exact hx)
   have hxl:x.1.length≤1000000000:=by rw [List.length_drop,List.length_drop] at hg;omega
   have fin:ziv s p dead5 (zdp (pvF n) ([],tw,[]) p (s.drop p)) (.ret (.tup [])) [.rw (rC s ((p+b2+c2:Nat):Int) x.2),.rw [.ptr 0 0],.rw [.ref 5 0 ([]++[(key,x.1)]:List Mem).length 2],mpS ks2 zs2,.rw [.mpt 3],.rw (([]++[(key,x.1)]:List Mem).flatMap mbC)]:=by
    unfold ziv
    rw [hst]
    refine⟨rfl,?_⟩
    dsimp only
    rw [OB,ksU_app,hks2,hzs2,Nat.add_assoc]
    try rfl
   have hl1:([]++[(key,x.1)]:List Mem).length=1:=by simp
   rw [hl1] at fin
   repeat' with_reducible refine And.intro ?_ ?_
   all_goals
    refine ACalls.frame ([0]) (hv) rfl (by decide) (by simp [LM1,zah,zae,renL,AV.ren,AEnd.ren,mbF.fren,zac,List.getElem?_cons_zero,List.getElem?_cons_succ]) (by first | rfl | simp [LM1,zah,zae,renL,AV.ren,AEnd.ren,mbF.fren,zac,List.getElem?_cons_zero,List.getElem?_cons_succ]) ?_
    rintro _ _ ⟨rfl,rfl⟩
    refine⟨.ret (slN x.1),[.rw (rC s ((p+b2+c2:Nat):Int) x.2),.rw [.ptr 0 0],.rw [nilS],mpS ks2 zs2,.rw [.mpt 3]],(by show zae _ _ ([0,1,1,1,1]) ([0,1,1,1,1]) 0 _;simp [LM1,zah,zae,renL,AV.ren,AEnd.ren,mbF.fren,zac,List.getElem?_cons_zero,List.getElem?_cons_succ]),(by show AEnd.ren ([0,1,1,1,1]) _ _;first | rfl | simp [LM1,zah,zae,renL,AV.ren,AEnd.ren,mbF.fren,zac,List.getElem?_cons_zero,List.getElem?_cons_succ]),?_⟩
    try simp -implicitDefEqProofs only [LM5,eq_self,zaa,zab,Nat.zero_mul,zdq,zdr,zca,TB,SB,Int.reduceToNat,Nat.reduceAdd,Nat.reduceEqDiff,Nat.reduceLT,Nat.reduceMod,Nat.reducePow,Nat.reduceSub,if_true,reduceIte]
    repeat' with_reducible refine And.intro ?_ ?_
   all_goals
    refine mbF.appN rfl rfl T180 T180 (zfX _) T185 rfl rfl (ys:=[(key,x.1)]) (m:=1) (by exact mbF.asrcR (l:=[(key,x.1)]) rfl) rfl (by omega) (by simp only [tyMb];omega) ?_
    try simp -implicitDefEqProofs only [LM5,eq_self,zaa,zab,Nat.zero_mul,zdq,zdr,zca,TB,SB,Int.reduceToNat,Nat.reduceAdd,Nat.reduceEqDiff,Nat.reduceLT,Nat.reduceMod,Nat.reducePow,Nat.reduceSub,if_true,reduceIte]
    refine zeo ?_
    try simp -implicitDefEqProofs only [LM5,eq_self,zaa,zab,Nat.zero_mul,zdq,zdr,zca,TB,SB,Int.reduceToNat,Nat.reduceAdd,Nat.reduceEqDiff,Nat.reduceLT,Nat.reduceMod,Nat.reducePow,Nat.reduceSub,if_true,reduceIte]
    exact zcc [0,1,2,3,4,6] (.tup []) _ rfl rfl (by decide) rfl keepOA fin
theorem loneB_ok (n:Nat) (s:List UInt8) (hs:s.length≤1000000000) (hV:zkC n s) (p:Nat) (tw:Int) (hp:p≤s.length) (hn:s.length - p≤n) (ms:List Mem) (zs:List Int) (hz:zs.length=(ksU ms).length) (hm:ms.length≤1000000000):ACalls Tryz.prog 108 [.ptr 1 0,.ptr 4 0,.ptr 2 0] (OB s p tw ms zs) (ziw s p dead6 (zdp (pvF n) (ms,tw,zs) p (s.drop p))):=by
 have h:=pkey_ok s p tw (ksU ms) zs hz hs
 unfold keyK' mS at h
 unfold OB
 refine ACalls.body T_ok Tryz.func108 (by kernel_rfl) rfl Tryz.ntmps108 (congrArg Array.toList Tryz.results108) ?_
 try simp -implicitDefEqProofs only [LM5,eq_self,zaa,zab,Nat.zero_mul,zdq,zdr,zca,TB,SB,Int.reduceToNat,Nat.reduceAdd,Nat.reduceEqDiff,Nat.reduceLT,Nat.reduceMod,Nat.reducePow,Nat.reduceSub,if_true,reduceIte]
 cases hq:quoL (s.drop p) with
 | none =>
  rw [hq] at h
  dsimp only at h
  refine ACalls.frame ([0,3]) (h) rfl (by decide) (by simp [LM1,zah,zae,renL,AV.ren,AEnd.ren,mbF.fren,zac,List.getElem?_cons_zero,List.getElem?_cons_succ]) (by first | rfl | simp [LM1,zah,zae,renL,AV.ren,AEnd.ren,mbF.fren,zac,List.getElem?_cons_zero,List.getElem?_cons_succ]) ?_
  rintro _ _ ⟨rfl,rfl⟩
  refine⟨.pan (flt p 2),[.dead,.rw [.ptr 0 0],.rw [.ref 5 0 ms.length 2],.dead,.rw [.mpt 3],.rw (ms.flatMap mbC)],(by show zae _ _ ([0,2,2,1,2,2]) ([0,2,2,1,2,2]) 0 _;simp [LM1,zah,zae,renL,AV.ren,AEnd.ren,mbF.fren,zac,List.getElem?_cons_zero,List.getElem?_cons_succ]),(by show AEnd.ren ([0,2,2,1,2,2]) _ _;first | rfl | simp [LM1,zah,zae,renL,AV.ren,AEnd.ren,mbF.fren,zac,List.getElem?_cons_zero,List.getElem?_cons_succ]),?_⟩
  try simp -implicitDefEqProofs only [LM5,eq_self,zaa,zab,Nat.zero_mul,zdq,zdr,zca,TB,SB,Int.reduceToNat,Nat.reduceAdd,Nat.reduceEqDiff,Nat.reduceLT,Nat.reduceMod,Nat.reducePow,Nat.reduceSub,if_true,reduceIte]
  refine zbQ (za0 _ _ _) ?_
  unfold ziw
  rw [zjk hq]
  exact⟨rfl,rfl⟩
 | some x =>
  obtain⟨key,c⟩:=x
  have hc:=zj0 hq
  rw [List.length_drop] at hc
  dsimp only at hc
  rw [hq] at h
  dsimp only at h
  obtain⟨tw2,htw2⟩:∃ t,t=(if key∈(ksU ms)∧tw < 0 then (p:Int) else tw):=⟨_,rfl⟩
  obtain⟨ks2,hks2⟩:∃ k,k=zjV (ksU ms) key:=⟨_,rfl⟩
  obtain⟨zs2,hzs2⟩:∃ z,z=zjW (ksU ms) zs key p:=⟨_,rfl⟩
  rw [← htw2,← hks2,← hzs2] at h
  refine ACalls.frame ([0,3]) (h) rfl (by decide) (by simp [LM1,zah,zae,renL,AV.ren,AEnd.ren,mbF.fren,zac,List.getElem?_cons_zero,List.getElem?_cons_succ]) (by first | rfl | simp [LM1,zah,zae,renL,AV.ren,AEnd.ren,mbF.fren,zac,List.getElem?_cons_zero,List.getElem?_cons_succ]) ?_
  rintro _ _ ⟨rfl,rfl⟩
  refine⟨.ret (str key),[.rw (rC s ((p+c:Nat):Int) tw2),.rw [.ptr 0 0],.rw [.ref 5 0 ms.length 2],mpS ks2 zs2,.rw [.mpt 3],.rw (ms.flatMap mbC)],(by show zae _ _ ([0,2,2,1,2,2]) ([0,2,2,1,2,2]) 0 _;simp [LM1,zah,zae,renL,AV.ren,AEnd.ren,mbF.fren,zac,List.getElem?_cons_zero,List.getElem?_cons_succ]),(by show AEnd.ren ([0,2,2,1,2,2]) _ _;first | rfl | simp [LM1,zah,zae,renL,AV.ren,AEnd.ren,mbF.fren,zac,List.getElem?_cons_zero,List.getElem?_cons_succ]),?_⟩
  try simp -implicitDefEqProofs only [LM5,eq_self,zaa,zab,Nat.zero_mul,zdq,zdr,zca,TB,SB,Int.reduceToNat,Nat.reduceAdd,Nat.reduceEqDiff,Nat.reduceLT,Nat.reduceMod,Nat.reducePow,Nat.reduceSub,if_true,reduceIte]
  obtain⟨b,hb⟩:∃ b,b=c+zaD ((s.drop p).drop c):=⟨_,rfl⟩
  have hb':=hb
  rw [List.drop_drop] at hb'
  have hbl:=zbx (s.drop (p+c))
  rw [List.length_drop] at hbl
  have hsk:=zcW s (p+c) tw2 (by omega) hs
  rw [show p+c+zaD (s.drop (p+c))=p+b by omega] at hsk
  unfold rS at hsk
  refine ACalls.frame ([0]) (hsk) rfl (by decide) (by simp [LM1,zah,zae,renL,AV.ren,AEnd.ren,mbF.fren,zac,List.getElem?_cons_zero,List.getElem?_cons_succ]) (by first | rfl | simp [LM1,zah,zae,renL,AV.ren,AEnd.ren,mbF.fren,zac,List.getElem?_cons_zero,List.getElem?_cons_succ]) ?_
  rintro _ _ ⟨rfl,rfl⟩
  refine⟨.ret (.tup []),[.rw (rC s ((p+b:Nat):Int) tw2),.rw [.ptr 0 0],.rw [.ref 5 0 ms.length 2],mpS ks2 zs2,.rw [.mpt 3],.rw (ms.flatMap mbC)],(by show zae _ _ ([0,1,1,1,1,1]) ([0,1,1,1,1,1]) 0 _;simp [LM1,zah,zae,renL,AV.ren,AEnd.ren,mbF.fren,zac,List.getElem?_cons_zero,List.getElem?_cons_succ]),(by show AEnd.ren ([0,1,1,1,1,1]) _ _;first | rfl | simp [LM1,zah,zae,renL,AV.ren,AEnd.ren,mbF.fren,zac,List.getElem?_cons_zero,List.getElem?_cons_succ]),?_⟩
  try simp -implicitDefEqProofs only [LM5,eq_self,zaa,zab,Nat.zero_mul,zdq,zdr,zca,TB,SB,Int.reduceToNat,Nat.reduceAdd,Nat.reduceEqDiff,Nat.reduceLT,Nat.reduceMod,Nat.reducePow,Nat.reduceSub,if_true,reduceIte]
  have hwt:=ziq s (p+b) tw2 58 (by omega) hs
  unfold zkB rS at hwt
  have hisAt:isAt s (p+b) 58=decide (((s.drop p).drop b).head?=some 58):=by rw [List.drop_drop];rfl
  by_cases h58:((s.drop p).drop b).head?=some 58
  rotate_left
  ·rw [hisAt,decide_eq_false h58] at hwt
   dsimp only at hwt
   refine ACalls.frame ([0]) (hwt) rfl (by decide) (by simp [LM1,zah,zae,renL,AV.ren,AEnd.ren,mbF.fren,zac,List.getElem?_cons_zero,List.getElem?_cons_succ]) (by first | rfl | simp [LM1,zah,zae,renL,AV.ren,AEnd.ren,mbF.fren,zac,List.getElem?_cons_zero,List.getElem?_cons_succ]) ?_
   rintro _ _ ⟨rfl,rfl⟩
   refine⟨.pan (flt ((p+b:Nat):Int) 2),[.dead,.rw [.ptr 0 0],.rw [.ref 5 0 ms.length 2],mpS ks2 zs2,.rw [.mpt 3],.rw (ms.flatMap mbC)],(by show zae _ _ ([0,1,1,1,1,1]) ([0,1,1,1,1,1]) 0 _;simp [LM1,zah,zae,renL,AV.ren,AEnd.ren,mbF.fren,zac,List.getElem?_cons_zero,List.getElem?_cons_succ]),(by show AEnd.ren ([0,1,1,1,1,1]) _ _;first | rfl | simp [LM1,zah,zae,renL,AV.ren,AEnd.ren,mbF.fren,zac,List.getElem?_cons_zero,List.getElem?_cons_succ]),?_⟩
   try simp -implicitDefEqProofs only [LM5,eq_self,zaa,zab,Nat.zero_mul,zdq,zdr,zca,TB,SB,Int.reduceToNat,Nat.reduceAdd,Nat.reduceEqDiff,Nat.reduceLT,Nat.reduceMod,Nat.reducePow,Nat.reduceSub,if_true,reduceIte]
   refine zbQ (za0 _ _ _) ?_
   unfold ziw
   rw [zjl hq hb h58]
   exact⟨rfl,rfl⟩
  rw [hisAt,decide_eq_true h58] at hwt
  dsimp only at hwt
  have hql:p+b < s.length:=by
   rcases Nat.lt_or_ge (p+b) s.length with h | h
   ·exact h
   ·rw [List.drop_drop,zcy h] at h58;cases h58
  refine ACalls.frame ([0]) (hwt) rfl (by decide) (by simp [LM1,zah,zae,renL,AV.ren,AEnd.ren,mbF.fren,zac,List.getElem?_cons_zero,List.getElem?_cons_succ]) (by first | rfl | simp [LM1,zah,zae,renL,AV.ren,AEnd.ren,mbF.fren,zac,List.getElem?_cons_zero,List.getElem?_cons_succ]) ?_
  rintro _ _ ⟨rfl,rfl⟩
  refine⟨.ret (.tup []),[.rw (rC s ((p+b+1:Nat):Int) tw2),.rw [.ptr 0 0],.rw [.ref 5 0 ms.length 2],mpS ks2 zs2,.rw [.mpt 3],.rw (ms.flatMap mbC)],(by show zae _ _ ([0,1,1,1,1,1]) ([0,1,1,1,1,1]) 0 _;simp [LM1,zah,zae,renL,AV.ren,AEnd.ren,mbF.fren,zac,List.getElem?_cons_zero,List.getElem?_cons_succ]),(by show AEnd.ren ([0,1,1,1,1,1]) _ _;first | rfl | simp [LM1,zah,zae,renL,AV.ren,AEnd.ren,mbF.fren,zac,List.getElem?_cons_zero,List.getElem?_cons_succ]),?_⟩
  try simp -implicitDefEqProofs only [LM5,eq_self,zaa,zab,Nat.zero_mul,zdq,zdr,zca,TB,SB,Int.reduceToNat,Nat.reduceAdd,Nat.reduceEqDiff,Nat.reduceLT,Nat.reduceMod,Nat.reducePow,Nat.reduceSub,if_true,reduceIte]
  obtain⟨b2,hb2⟩:∃ b2,b2=b+1+zaD ((s.drop p).drop (b+1)):=⟨_,rfl⟩
  have hb2':=hb2
  rw [List.drop_drop] at hb2'
  have hbl2:=zbx (s.drop (p+b+1))
  rw [List.length_drop] at hbl2
  have hsk2:=zcW s (p+b+1) tw2 (by omega) hs
  rw [show p+b+1+zaD (s.drop (p+b+1))=p+b2 by rw [hb2',Nat.add_assoc p b 1];omega] at hsk2
  have hbl3:p+b2≤s.length:=by rw [hb2',← Nat.add_assoc p b 1];omega
  unfold rS at hsk2
  refine ACalls.frame ([0]) (hsk2) rfl (by decide) (by simp [LM1,zah,zae,renL,AV.ren,AEnd.ren,mbF.fren,zac,List.getElem?_cons_zero,List.getElem?_cons_succ]) (by first | rfl | simp [LM1,zah,zae,renL,AV.ren,AEnd.ren,mbF.fren,zac,List.getElem?_cons_zero,List.getElem?_cons_succ]) ?_
  rintro _ _ ⟨rfl,rfl⟩
  refine⟨.ret (.tup []),[.rw (rC s ((p+b2:Nat):Int) tw2),.rw [.ptr 0 0],.rw [.ref 5 0 ms.length 2],mpS ks2 zs2,.rw [.mpt 3],.rw (ms.flatMap mbC)],(by show zae _ _ ([0,1,1,1,1,1]) ([0,1,1,1,1,1]) 0 _;simp [LM1,zah,zae,renL,AV.ren,AEnd.ren,mbF.fren,zac,List.getElem?_cons_zero,List.getElem?_cons_succ]),(by show AEnd.ren ([0,1,1,1,1,1]) _ _;first | rfl | simp [LM1,zah,zae,renL,AV.ren,AEnd.ren,mbF.fren,zac,List.getElem?_cons_zero,List.getElem?_cons_succ]),?_⟩
  try simp -implicitDefEqProofs only [LM5,eq_self,zaa,zab,Nat.zero_mul,zdq,zdr,zca,TB,SB,Int.reduceToNat,Nat.reduceAdd,Nat.reduceEqDiff,Nat.reduceLT,Nat.reduceMod,Nat.reducePow,Nat.reduceSub,if_true,reduceIte]
  have hv:=hV (p+b2) tw2 hbl3 (by omega)
  have hdd:s.drop (p+b2)=(s.drop p).drop b2:=by rw [List.drop_drop]
  rw [hdd] at hv
  have hg:=zcG n tw2 (p+b2) ((s.drop p).drop b2)
  unfold outV rS at hv
  have htw3:twK ((ms,tw,zs):GO).1 ((ms,tw,zs):GO).2.1 p key=tw2:=htw2.symm
  refine zh8 loneOT (by kernel_rfl) (by kernel_rfl) ?_
  unfold loneOT
  try simp -implicitDefEqProofs only [LM5,eq_self,zaa,zab,Nat.zero_mul,zdq,zdr,zca,TB,SB,Int.reduceToNat,Nat.reduceAdd,Nat.reduceEqDiff,Nat.reduceLT,Nat.reduceMod,Nat.reducePow,Nat.reduceSub,if_true,reduceIte]
  cases hx:pvF n tw2 (p+b2) ((s.drop p).drop b2) with
  | error k =>
   rw [hx] at hv
   dsimp only at hv
   have hst:=stepO_bad (V:=pvF n) (g:=(ms,tw,zs)) hq hb h58 hb2 (by rw [htw3];exact hx)
   repeat' with_reducible refine And.intro ?_ ?_
   all_goals
    refine ACalls.frame ([0]) (hv) rfl (by decide) (by simp [LM1,zah,zae,renL,AV.ren,AEnd.ren,mbF.fren,zac,List.getElem?_cons_zero,List.getElem?_cons_succ]) (by first | rfl | simp [LM1,zah,zae,renL,AV.ren,AEnd.ren,mbF.fren,zac,List.getElem?_cons_zero,List.getElem?_cons_succ]) ?_
    rintro _ _ ⟨rfl,rfl⟩
    refine⟨.pan (flt ((p+b2+k:Nat):Int) 2),[.dead,.rw [.ptr 0 0],.rw [.ref 5 0 ms.length 2],mpS ks2 zs2,.rw [.mpt 3],.rw (ms.flatMap mbC)],(by show zae _ _ ([0,1,1,1,1,1]) ([0,1,1,1,1,1]) 0 _;simp [LM1,zah,zae,renL,AV.ren,AEnd.ren,mbF.fren,zac,List.getElem?_cons_zero,List.getElem?_cons_succ]),(by show AEnd.ren ([0,1,1,1,1,1]) _ _;first | rfl | simp [LM1,zah,zae,renL,AV.ren,AEnd.ren,mbF.fren,zac,List.getElem?_cons_zero,List.getElem?_cons_succ]),?_⟩
    try simp -implicitDefEqProofs only [LM5,eq_self,zaa,zab,Nat.zero_mul,zdq,zdr,zca,TB,SB,Int.reduceToNat,Nat.reduceAdd,Nat.reduceEqDiff,Nat.reduceLT,Nat.reduceMod,Nat.reducePow,Nat.reduceSub,if_true,reduceIte]
    refine zbQ (za0 _ _ _) ?_
    unfold ziw
    rw [hst]
    exact⟨by rw [Nat.add_assoc],rfl⟩
  | ok x =>
   rw [hx] at hv hg
   obtain⟨x,c2⟩:=x
   dsimp only at hv hg
   have hst:=stepO_ok (V:=pvF n) (g:=(ms,tw,zs)) hq hb h58 hb2 (by rw [htw3];exact hx)
   have hxl:x.1.length≤1000000000:=by rw [List.length_drop,List.length_drop] at hg;omega
   have fin:ziw s p dead6 (zdp (pvF n) (ms,tw,zs) p (s.drop p)) (.ret (.tup [])) [.rw (rC s ((p+b2+c2:Nat):Int) x.2),.rw [.ptr 0 0],.rw [.ref 6 0 (ms++[(key,x.1)]:List Mem).length 2],mpS ks2 zs2,.rw [.mpt 3],.dead,.rw ((ms++[(key,x.1)]:List Mem).flatMap mbC)]:=by
    unfold ziw
    rw [hst]
    refine⟨rfl,?_⟩
    dsimp only
    rw [OC,ksU_app,hks2,hzs2,Nat.add_assoc]
    try rfl
   have hl1:(ms++[(key,x.1)]:List Mem).length=ms.length+1:=by simp
   rw [hl1] at fin
   repeat' with_reducible refine And.intro ?_ ?_
   all_goals
    refine ACalls.frame ([0]) (hv) rfl (by decide) (by simp [LM1,zah,zae,renL,AV.ren,AEnd.ren,mbF.fren,zac,List.getElem?_cons_zero,List.getElem?_cons_succ]) (by first | rfl | simp [LM1,zah,zae,renL,AV.ren,AEnd.ren,mbF.fren,zac,List.getElem?_cons_zero,List.getElem?_cons_succ]) ?_
    rintro _ _ ⟨rfl,rfl⟩
    refine⟨.ret (slN x.1),[.rw (rC s ((p+b2+c2:Nat):Int) x.2),.rw [.ptr 0 0],.rw [.ref 5 0 ms.length 2],mpS ks2 zs2,.rw [.mpt 3],.rw (ms.flatMap mbC)],(by show zae _ _ ([0,1,1,1,1,1]) ([0,1,1,1,1,1]) 0 _;simp [LM1,zah,zae,renL,AV.ren,AEnd.ren,mbF.fren,zac,List.getElem?_cons_zero,List.getElem?_cons_succ]),(by show AEnd.ren ([0,1,1,1,1,1]) _ _;first | rfl | simp [LM1,zah,zae,renL,AV.ren,AEnd.ren,mbF.fren,zac,List.getElem?_cons_zero,List.getElem?_cons_succ]),?_⟩
    try simp -implicitDefEqProofs only [LM5,eq_self,zaa,zab,Nat.zero_mul,zdq,zdr,zca,TB,SB,Int.reduceToNat,Nat.reduceAdd,Nat.reduceEqDiff,Nat.reduceLT,Nat.reduceMod,Nat.reducePow,Nat.reduceSub,if_true,reduceIte]
    repeat' with_reducible refine And.intro ?_ ?_
   all_goals
    refine mbF.app rfl rfl T180 T180 (zfX _) T185 rfl rfl (l:=ms) (ys:=[(key,x.1)]) rfl (m:=1) (by exact mbF.asrcR (l:=[(key,x.1)]) rfl) rfl (by omega) (by simp only [tyMb];omega) ?_
    try simp -implicitDefEqProofs only [LM5,eq_self,zaa,zab,Nat.zero_mul,zdq,zdr,zca,TB,SB,Int.reduceToNat,Nat.reduceAdd,Nat.reduceEqDiff,Nat.reduceLT,Nat.reduceMod,Nat.reducePow,Nat.reduceSub,if_true,reduceIte]
    refine zeo ?_
    try simp -implicitDefEqProofs only [LM5,eq_self,zaa,zab,Nat.zero_mul,zdq,zdr,zca,TB,SB,Int.reduceToNat,Nat.reduceAdd,Nat.reduceEqDiff,Nat.reduceLT,Nat.reduceMod,Nat.reducePow,Nat.reduceSub,if_true,reduceIte]
    exact zcc [0,1,2,3,4,5,7] (.tup []) _ rfl rfl (by decide) rfl keepOB fin
end Go.Proofs.YtamcppdhkeiaiaaGreatDoor
end

