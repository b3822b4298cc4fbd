/-
  Keys, words, bounds, lists. No condition.
-/
import Derived.Test.YtnghkomgefieoaaGreatDoorShrD
set_option linter.unusedSimpArgs false
set_option linter.unusedVariables false
set_option linter.unusedSectionVars false
section
namespace Go.Eng
open Go
theorem aQ5 {a b:zab} {c:Nat} {d:zab} (p:List Nat) (e:zad a b p p c d:=by simp [LB3,LB8,LB16,zah,zad,renL,AV.ren,AEnd.ren,zae,List.getElem?_cons_zero,List.getElem?_cons_succ]):zad a b p p c d:=e
theorem aQ6 {a b:zab} {c:Nat} {d:zab} (p:List Nat) (e:zad a b p p c d:=by simp [LM1,zah,zad,renL,AV.ren,AEnd.ren,zae,List.getElem?_cons_zero,List.getElem?_cons_succ]):zad a b p p c d:=e
theorem aQ7 {a b:zab} {c:Nat} {d:zab} (p:List Nat) (e:zad a b p p c d:=by simp [LM1,zah,zad,renL,AV.ren,AEnd.ren,zaa,zae,List.getElem?_cons_zero,List.getElem?_cons_succ]):zad a b p p c d:=e
theorem aQ12 {a b:AEnd} (p:List Nat) (e:AEnd.ren p a b:=by first | rfl | simp [LB3,LB8,LB16,zah,zad,renL,AV.ren,AEnd.ren,zae,List.getElem?_cons_zero,List.getElem?_cons_succ]):AEnd.ren p a b:=e
theorem aQ13 {a b:AEnd} (p:List Nat) (e:AEnd.ren p a b:=by first | rfl | simp [LM1,zah,zad,renL,AV.ren,AEnd.ren,zae,List.getElem?_cons_zero,List.getElem?_cons_succ]):AEnd.ren p a b:=e
theorem aQ14 {a b:AEnd} (p:List Nat) (e:AEnd.ren p a b:=by first | rfl | simp [LM1,zah,zad,renL,AV.ren,AEnd.ren,zaa,zae,List.getElem?_cons_zero,List.getElem?_cons_succ]):AEnd.ren p a b:=e
theorem aQ50 {P Q:Prop} (h:Q) (e:P=Q:=by first|(simp -implicitDefEqProofs only [LM0,eq_self,zao,zag,zaf,zav,TB,SB,Int.reduceToNat,Nat.reduceAdd,Nat.reduceEqDiff,Nat.reduceLT,Nat.reduceMod,Nat.reducePow,Nat.reduceSub,if_true,reduceIte];first|done|exact rfl)|exact rfl):P:=e ▸ h
theorem aQ51 {P Q:Prop} (h:Q) (e:P=Q:=by first|(simp -implicitDefEqProofs only [LM0,eq_self,zao,zag,zaf,zav,ia_refN,ld_hk,len_hk,set_hk,Nat.zero_mul,TB,SB,Int.reduceToNat,Nat.reduceAdd,Nat.reduceEqDiff,Nat.reduceLT,Nat.reduceMod,Nat.reducePow,Nat.reduceSub,if_true,reduceIte];first|done|exact rfl)|exact rfl):P:=e ▸ h
end Go.Eng
end

section
namespace Go.Proofs.YtnghkomgefieoaaGreatDoor
open Go Go.Eng
set_option linter.defProp false in
def LB16:=And.intro @zbq (@za9)
def mpS (ks:List (List UInt8)) (zs:List Int):Blk:=.mpb (ks.map keyV) (zs.map i64)
theorem zgd (ks:List (List UInt8)) (zs:List Int) (q:List Nat):(mpS ks zs).ren q=some (mpS ks zs):=by
 simp only [mpS,bren_mpb,zey,Option.map_some]
def mS (s:List UInt8) (p tw:Int) (ks:List (List UInt8)) (zs:List Int):zab:=[.rw (rC s p tw),mpS ks zs]
def keyK' (s:List UInt8) (p:Nat) (tw:Int) (ks:List (List UInt8)) (zs:List Int):AEnd→zab→Prop:=fun y σ=>match quoL (s.drop p) with
 | some x=>y=.ret (str x.1)∧σ=mS s ((p+x.2:Nat):Int) (if x.1∈ks∧tw < 0 then (p:Int) else tw) (zgs ks x.1) (zhk ks zs x.1 p)
 | none=>y=.pan (flt p 2)∧σ=[.dead,.dead]
theorem pkey_ok (s:List UInt8) (p:Nat) (tw:Int) (ks:List (List UInt8)) (zs:List Int) (hz:zs.length=ks.length) (hs:s.length≤1000000000):ACalls Tryz.prog 122 [.ptr 0 0,.mpt 1] (mS s p tw ks zs) (keyK' s p tw ks zs):=by
 have h:=ptext_ok s p tw hs
 unfold textK at h
 unfold rS at h
 unfold mS
 refine ACalls.body T_ok Tryz.func122 (by kernel_rfl) rfl Tryz.ntmps122 (congrArg Array.toList Tryz.results122) ?_
 refine aQ36 ?_
 cases hq:quoL (s.drop p) with
 | none =>
  rw [hq] at h
  refine ACalls.frame ([0]) (h) rfl (by decide) (by simp [LB3,LB8,LB16,zah,zad,renL,AV.ren,AEnd.ren,zae,List.getElem?_cons_zero,List.getElem?_cons_succ]) (by first | rfl | simp [LB3,LB8,LB16,zah,zad,renL,AV.ren,AEnd.ren,zae,List.getElem?_cons_zero,List.getElem?_cons_succ]) ?_
  rintro _ _ ⟨rfl,rfl⟩
  refine⟨.pan (flt p 2),[.dead,mpS ks zs],(aQ5 ([0,1])),(aQ12 ([0,1])),?_⟩
  refine aQ36 ?_
  refine zbw (za9 _ _ _) ?_
  unfold keyK'
  rw [hq]
  exact⟨rfl,rfl⟩
 | some x =>
  rw [hq] at h
  refine ACalls.frame ([0]) (h) rfl (by decide) (by simp [LB3,LB8,LB16,zah,zad,renL,AV.ren,AEnd.ren,zae,List.getElem?_cons_zero,List.getElem?_cons_succ]) (by first | rfl | simp [LB3,LB8,LB16,zah,zad,renL,AV.ren,AEnd.ren,zae,List.getElem?_cons_zero,List.getElem?_cons_succ]) ?_
  rintro _ _ ⟨rfl,rfl⟩
  refine⟨.ret (str x.1),[.rw (rC s ((p+x.2:Nat):Int) tw),mpS ks zs],(aQ5 ([0,1])),(aQ12 ([0,1])),?_⟩
  refine aQ36 ?_
  have fin:∀ (tw':Int) (ks':List (List UInt8)) (zs':List Int),tw'=(if x.1∈ks∧tw < 0 then (p:Int) else tw)→ks'=zgs ks x.1→zs'=zhk ks zs x.1 p→endQ 2 (str x.1) [.rw (rC s ((p+x.2:Nat):Int) tw'),.mpb (ks'.map keyV) (zs'.map i64)] (fun r σ=>keyK' s p tw ks zs (.ret r) σ):=by
   rintro _ _ _ rfl rfl rfl
   refine zau ?_
   unfold keyK'
   rw [hq]
   exact⟨rfl,rfl⟩
  refine zf8 true T61 T9 (l:=ks) (vs:=zs.map i64) rfl (by simp;omega) zil (fun r hmem hr=>?_) (fun hnm=>?_)
  ·have kU:zgs ks x.1=ks:=if_pos hmem
   have vU:zhk ks zs x.1 p=zs.set (ks.idxOf x.1) p:=if_pos hmem
   by_cases ht:tw < 0
   ·try simp -implicitDefEqProofs only [LM0,eq_self,zao,zag,zaf,decide_eq_true ht,TB,SB,Int.reduceToNat,Nat.reduceAdd,Nat.reduceEqDiff,Nat.reduceLT,Nat.reduceMod,Nat.reducePow,Nat.reduceSub,if_true,reduceIte]
    refine zfc (l:=ks) (vs:=zs.map i64) T61 T9 rfl (fun _=>?_) (fun h=>absurd hmem h)
    rw [← List.map_set] 
    refine aQ36 ?_
    exact fin _ ks (zs.set (ks.idxOf x.1) p) (by rw [if_pos ⟨hmem,ht⟩]) kU.symm vU.symm
   ·try simp -implicitDefEqProofs only [LM0,eq_self,zao,zag,zaf,decide_eq_false ht,TB,SB,Int.reduceToNat,Nat.reduceAdd,Nat.reduceEqDiff,Nat.reduceLT,Nat.reduceMod,Nat.reducePow,Nat.reduceSub,if_true,reduceIte]
    refine zfc (l:=ks) (vs:=zs.map i64) T61 T9 rfl (fun _=>?_) (fun h=>absurd hmem h)
    rw [← List.map_set] 
    refine aQ36 ?_
    exact fin _ ks (zs.set (ks.idxOf x.1) p) (by rw [if_neg (fun h=>ht h.2)]) kU.symm vU.symm
  ·have kU:zgs ks x.1=ks++[x.1]:=if_neg hnm
   have vU:zhk ks zs x.1 p=zs++[(p:Int)]:=if_neg hnm
   refine aQ36 ?_
   refine zfc (l:=ks) (vs:=zs.map i64) T61 T9 rfl (fun h=>absurd h hnm) (fun _=>?_)
   rw [show zs.map i64++[i64 (p:Int)]=(zs++[(p:Int)]).map i64 by simp]
   refine aQ36 ?_
   exact fin _ (ks++[x.1]) (zs++[(p:Int)]) (by rw [if_neg (fun h=>hnm h.1)]) kU.symm vU.symm
end Go.Proofs.YtnghkomgefieoaaGreatDoor
end

section
namespace Go.Proofs.YtnghkomgefieoaaGreatDoor
open Go Go.Eng
def outV (s:List UInt8) (p:Nat) (x:Except Nat ((List Nd × Int) × Nat)):AEnd→zab→Prop:=fun y σ=>match x with
 | .ok x=>y=.ret (slN x.1.1)∧σ=rS s ((p+x.2:Nat):Int) x.1.2
 | .error k=>y=.pan (flt ((p+k:Nat):Int) 2)∧σ=[.dead]
theorem zaa (q:List Nat) (l:List Nd):(slN l).ren q=some (slN l):=ren_slN q l _
theorem zbR {s:List UInt8} {p k:Nat} {x:Except Nat ((List Nd × Int) × Nat)} {σ:zab} (h:x=.error k):endQ 1 (flt ((p+k:Nat):Int) 2) σ (fun r σ=>outV s p x (.pan r) σ):=by
 refine zbw (za9 _ _ _) ?_
 subst h
 exact⟨rfl,rfl⟩
theorem zav {K:AV→Prop} (k:Int) (j:Int):zbg T 43 [(0,i64 k),(1,i64 j)] K=K (nA ⟨k,j,[],0⟩):=by
 simp [zbg,T43,tyNd,T3,T2,T41,T9,zbZ,zaH,zcj,zbQ,za5,za4,tyStr,nA,nC]
 try rfl
theorem ndF:RowF nC 4:=⟨fun _=>rfl,fun _=>all_n,fun q n=>by simp [nC,renL,zaq,zar]⟩
theorem zhr {s:List UInt8} {p tw:Int} {l:List Nd} {j n:Nat} {rest:zab} {K:AV→zab→Prop} (hj:rest[j]?=some (.rw (l.flatMap nC))) (hn:n=l.length) (h:K (slN l) (rS s p tw)):endQ 1 (.ref (j+1) 0 n 4) (.rw (rC s p tw)::rest) K:=by
 have hjl:=(List.getElem?_eq_some_iff.1 hj).1
 have e1:zef (.rw (rC s p tw)::rest) [j+1]=.rw (rC s p tw)::rest.set j (.ro (l.flatMap nC)):=by
  simp only [zef,List.getElem?_cons_succ,hj,List.set_cons_succ]
 refine zig [j+1] (slN l) ?_ ?_
 ·rw [e1]
  exact ndF.frz (by rw [List.getElem?_cons_succ,List.getElem?_set_self hjl]) hn
 ·rw [e1]
  refine⟨[0],slN l,rS s p tw,rfl,rfl,by decide,zaa _ _,⟨.inr ⟨_,?_,rfl⟩,trivial⟩,h⟩
  rw [zaL,zbq]
  rfl
theorem number_ok (s:List UInt8) (p:Nat) (tw:Int) (hp:p≤s.length) (hs:s.length≤1000000000):ACalls Tryz.prog 86 [.ptr 0 0] (rS s p tw) (outV s p (zgu tw (s.drop p))):=by
 have h:=Number_ok s p hs
 have hna:zi2 s p=zcW (s.drop p):=by rw [zi2,if_pos (by omega)];rfl
 rw [hna] at h
 have hw:=wrong_ok s p tw hp hs
 have hf:=zgc s p tw ((p+zeC (s.drop p):Nat):Int)
 unfold rS at hw hf ⊢
 refine ACalls.body T_ok Tryz.func86 (by kernel_rfl) rfl Tryz.ntmps86 (congrArg Array.toList Tryz.results86) ?_
 refine aQ50 ?_
 refine zdG (by kernel_rfl) (by kernel_rfl) ?_
 refine aQ50 ?_
 cases hx:zcW (s.drop p) with
 | none =>
  rw [hx] at h
  simp only [numA] at h
  refine zcM (h) aQ16 aQ19 ?_
  refine aQ50 ?_
  refine ACalls.frame ([0]) (hw) rfl (by decide) (by simp [LB3,LB8,LB16,zah,zad,renL,AV.ren,AEnd.ren,zae,List.getElem?_cons_zero,List.getElem?_cons_succ]) (by first | rfl | simp [LB3,LB8,LB16,zah,zad,renL,AV.ren,AEnd.ren,zae,List.getElem?_cons_zero,List.getElem?_cons_succ]) ?_
  rintro _ _ ⟨rfl,rfl⟩
  refine⟨.ret (i64 ((p+zeC (s.drop p):Nat):Int)),[.rw (rC s p tw)],(aQ5 ([0])),(aQ12 ([0])),?_⟩
  refine aQ50 ?_
  refine ACalls.frame ([0]) (hf) rfl (by decide) (by simp [LB3,LB8,LB16,zah,zad,renL,AV.ren,AEnd.ren,zae,List.getElem?_cons_zero,List.getElem?_cons_succ]) (by first | rfl | simp [LB3,LB8,LB16,zah,zad,renL,AV.ren,AEnd.ren,zae,List.getElem?_cons_zero,List.getElem?_cons_succ]) ?_
  rintro _ _ ⟨rfl,rfl⟩
  refine⟨.pan (flt ((p+zeC (s.drop p):Nat):Int) 2),[.dead],(aQ5 ([0])),(aQ12 ([0])),?_⟩
  refine aQ50 ?_
  refine zbR ?_
  rw [zgu,hx]
 | some x =>
  rw [hx] at h
  simp only [numA] at h
  refine zcM (h) aQ16 aQ19 ?_
  refine aQ50 ?_
  rw [show (p:Int)+(x.2:Int)=((p+x.2:Nat):Int) by omega]
  refine zhr (j:=0) (l:=[⟨2,x.1,[],0⟩]) rfl rfl ?_
  rw [zgu,hx]
  exact⟨rfl,rfl⟩
theorem wordW_at:∀ (w l:List UInt8) (i:Nat),i≤zcX w l→i < w.length→((l.drop i).head?=some (w.getD i 0) ↔ i+1≤zcX w l)
 | [],_,i,_,h=>by simp at h
 | a::w,[],i,h,_=>by
  simp only [zcX] at h ⊢
  simp
 | a::w,b::l,0,_,_=>by
  rw [List.drop_zero,List.head?_cons,zcX]
  by_cases hb:b=a
  ·simp [hb]
  ·simp [hb]
 | a::w,b::l,i+1,h,hw=>by
  have hb:b=a:=by
   rw [zcX] at h
   split at h
   ·assumption
   ·omega
  rw [zcX,if_pos hb] at h ⊢
  rw [List.drop_succ_cons]
  have:=wordW_at w l i (by omega) (by simpa using hw)
  rw [show (a::w).getD (i+1) 0=w.getD i 0 by simp [List.getD_eq_getElem?_getD]]
  exact this.trans ⟨fun h=>by omega,fun h=>by omega⟩
theorem ziu:∀ (w l:List UInt8),zcX w l≤w.length∧zcX w l≤l.length
 | [],l=>⟨Nat.le_refl _,Nat.zero_le _⟩
 | _::_,[]=>⟨Nat.zero_le _,Nat.le_refl _⟩
 | a::w,b::l=>by
  have:=ziu w l
  simp only [zcX,List.length_cons]
  split <;> omega
def wordsL:List (List UInt8 × Nd):=[(wNull,⟨0,0,[],0⟩),(wFalse,⟨1,0,[],0⟩),(wTrue,⟨1,1,[],0⟩)]
def wKS:List Value:=(wordsL.map (·.1)).map keyV
def wVS:List AV:=wordsL.map fun x=>nA x.2
theorem wVS_ren (q:List Nat):renL q wVS=some wVS:=by
 simp [wVS,wordsL,renL,ren_nA]
def ziv (sn:List Nat):Nat:=(if 0∈sn then 0 else 1)+(if 1∈sn then 0 else 1)+(if 2∈sn then 0 else 1)
theorem untried_lt {sn:List Nat} {j:Nat} (hj:j < 3) (h:j ∉ sn):ziv (sn++[j]) < ziv sn:=by
 unfold ziv
 simp only [List.mem_append,List.mem_singleton]
 match j,hj,h with
 | 0,_,h=>simp only [h,if_false,or_true,if_true];simp
 | 1,_,h=>simp only [h,if_false,or_true,if_true];simp
 | 2,_,h=>simp only [h,if_false,or_true,if_true];simp
end Go.Proofs.YtnghkomgefieoaaGreatDoor
end

section
namespace Go.Proofs.YtnghkomgefieoaaGreatDoor
open Go Go.Eng
set_option linter.defProp false in
def LB17:=And.intro @zii (And.intro @wVS_ren (@zgd))
set_option linter.defProp false in
def LM1:=And.intro LB3 (And.intro LB8 (And.intro LB16 (LB17)))
theorem word_ok (s:List UInt8) (p:Nat) (tw:Int) (hp:p≤s.length) (hs:s.length≤1000000000):ACalls Tryz.prog 87 [.ptr 0 0] (rS s p tw) (outV s p (zgt tw (s.drop p))):=by
 have hf:=zgc s p tw p
 unfold rS at hf ⊢
 refine ACalls.body T_ok Tryz.func87 (by kernel_rfl) rfl Tryz.ntmps87 (congrArg Array.toList Tryz.results87) ?_
 refine aQ50 ?_
 refine zfc (l:=[]) (vs:=[]) (s:=wNull) T192 T9 rfl (fun h=>by cases h) (fun _=>?_)
 refine aQ50 ?_
 refine zfc (l:=[wNull]) (vs:=[nA ⟨0,0,[],0⟩]) (s:=wFalse) T192 T9 rfl (fun h=>absurd h (by decide)) (fun _=>?_)
 refine aQ50 ?_
 refine zfc (l:=[wNull,wFalse]) (vs:=[nA ⟨0,0,[],0⟩,nA ⟨1,0,[],0⟩]) (s:=wTrue) T192 T9 rfl (fun h=>absurd h (by decide)) (fun _=>?_)
 refine aQ50 ?_
 refine range_m (ks:=wKS) (vs:=wVS) T192 rfl ?_
 refine aQ50 ?_
 rw [za6]
 refine⟨List Nat,fun sn=>∀ j,j∈sn→isAt s p ((wordsL.getD j ([],n0d)).1.getD 0 0)=false,fun sn=>[.ptr 0 0,.bot,.lit (.slice none 0 0),.bot,.bot,.bot,.bot,.bot,.bot,.bot,.bot,.bot,.bot,.ptr 2 0,.bot,.bot,.bot,.bot,.bot,.bot,.bot,.bot,.bot,.bot,.bot,.bot,.bot,.bot,.bot,.bot,.bot,.bot,.bot,.bot,.bot,.bot,.bot,.bot,.bot,.bot,.bot,.bot,.bot],fun sn=>[.rw (rC s p tw),.dead,.mpi wKS wVS sn],fun sn=>ziv sn,[],?_,zak (q:=[0,1,2]) rfl rfl (by decide) ?_ ?_,?_⟩
 ·intro j hj
  cases hj
 ·first|exact aQ27 trivial|refine aQ27 ?_
 ·simp [zah,zaL,zii,wVS_ren,zbq]
 ·intro sn hsn
  refine aQ50 ?_
  refine next_m (ks:=wKS) (vs:=wVS) rfl (fun hall=>?_) (fun j k v hj hk hv=>?_)
  ·refine aQ50 ?_
   refine ACalls.frame ([0]) (hf) rfl (by decide) (by simp [LM1,zah,zad,renL,AV.ren,AEnd.ren,zae,List.getElem?_cons_zero,List.getElem?_cons_succ]) (by first | rfl | simp [LM1,zah,zad,renL,AV.ren,AEnd.ren,zae,List.getElem?_cons_zero,List.getElem?_cons_succ]) ?_
   rintro _ _ ⟨rfl,rfl⟩
   refine⟨.pan (flt p 2),[.dead,.dead,.mpi wKS wVS sn],(aQ6 ([0,1,1])),(aQ13 ([0,1,1])),?_⟩
   refine aQ50 ?_
   refine zbR (k:=0) ?_
   have n0:=hsn 0 (hall 0 (by decide))
   have n1:=hsn 1 (hall 1 (by decide))
   have n2:=hsn 2 (hall 2 (by decide))
   rw [zgt,if_neg (show ¬ (s.drop p).head?=some 110 from of_decide_eq_false n0),if_neg (show ¬ (s.drop p).head?=some 102 from of_decide_eq_false n1),if_neg (show ¬ (s.drop p).head?=some 116 from of_decide_eq_false n2)]
  ·have hj3:j < 3:=(List.getElem?_eq_some_iff.1 hk).1
   obtain⟨x,hx⟩:∃ x,wordsL[j]?=some x:=⟨_,List.getElem?_eq_getElem hj3⟩
   have hk':k=keyV x.1:=by
    rw [wKS,List.map_map,List.getElem?_map,hx] at hk
    exact(Option.some.inj hk).symm
   have hv':v=nA x.2:=by
    rw [wVS,List.getElem?_map,hx] at hv
    exact(Option.some.inj hv).symm
   subst hk' hv'
   rw [ofVal_key]
   refine aQ50 ?_
   refine entry_m (ks:=wKS) (vs:=wVS) (sn':=sn) rfl rfl hk hv ?_
   rw [ofVal_key]
   have hx4:4≤x.1.length∧x.1.length≤5:=by
    match j,hj3,hx with
    | 0,_,hx=>cases hx;decide
    | 1,_,hx=>cases hx;decide
    | 2,_,hx=>cases hx;decide
   have hwx:isAt s p (x.1.getD 0 0)=true→zgt tw (s.drop p)=zeB x.1 x.2 tw (s.drop p):=fun h=>by
    have h:=of_decide_eq_true h
    match j,hj3,hx with
    | 0,_,hx =>
     cases hx
     rw [zgt,h]
     rfl
    | 1,_,hx =>
     cases hx
     rw [zgt,h]
     rfl
    | 2,_,hx =>
     cases hx
     rw [zgt,h]
     rfl
   have hget:wordsL.getD j ([],n0d)=x:=by rw [List.getD_eq_getElem?_getD,hx];rfl
   refine aQ50 ?_
   refine⟨by omega,by omega,?_⟩
   have his:=is_ok s p tw (x.1.getD 0 0) hp
   unfold rS at his
   cases hb:isAt s p (x.1.getD 0 0) with
   | false =>
    rw [hb] at his
    refine ACalls.frame ([0]) (his) rfl (by decide) (by simp [LM1,zah,zad,renL,AV.ren,AEnd.ren,zae,List.getElem?_cons_zero,List.getElem?_cons_succ]) (by first | rfl | simp [LM1,zah,zad,renL,AV.ren,AEnd.ren,zae,List.getElem?_cons_zero,List.getElem?_cons_succ]) ?_
    rintro _ _ ⟨rfl,rfl⟩
    refine⟨.ret (bl false),[.rw (rC s p tw),.dead,.mpi wKS wVS (sn++[j]),.rw (nC x.2)],(aQ6 ([0,1,1,1])),(aQ13 ([0,1,1,1])),?_⟩
    refine aQ50 ?_
    rw [zam]
    refine⟨sn++[j],fun i hi=>?_,untried_lt hj3 hj,zak (q:=[0,1,2]) rfl rfl (by decide) ?_ ?_⟩
    ·rcases List.mem_append.1 hi with hi | hi
     ·exact hsn i hi
     ·simp only [List.mem_singleton] at hi
      subst hi
      rw [hget]
      exact hb
    ·first|exact aQ27 trivial|refine aQ27 ?_
    ·simp [zah,zaL,zii,wVS_ren,zbq]
   | true =>
    rw [hb] at his
    refine ACalls.frame ([0]) (his) rfl (by decide) (by simp [LM1,zah,zad,renL,AV.ren,AEnd.ren,zae,List.getElem?_cons_zero,List.getElem?_cons_succ]) (by first | rfl | simp [LM1,zah,zad,renL,AV.ren,AEnd.ren,zae,List.getElem?_cons_zero,List.getElem?_cons_succ]) ?_
    rintro _ _ ⟨rfl,rfl⟩
    refine⟨.ret (bl true),[.rw (rC s p tw),.dead,.mpi wKS wVS (sn++[j]),.rw (nC x.2)],(aQ6 ([0,1,1,1])),(aQ13 ([0,1,1,1])),?_⟩
    refine aQ50 ?_
    rw [za6]
    have hww:=ziu x.1 (s.drop p)
    rw [List.length_drop] at hww
    refine⟨Nat,fun i=>i≤x.1.length∧i≤zcX x.1 (s.drop p),fun i=>[.ptr 0 0,.bot,.lit (.slice none 0 0),.bot,str x.1,.ptr 3 0,.bot,.bot,.bot,.bot,.bot,.bot,.bot,.bot,.bot,.bot,.bot,.bot,.bot,.bot,.bot,.bot,.bot,.bot,.bot,i64 x.1.length,i64 i,.bot,.bot,.bot,.bot,.bot,.bot,.bot,.bot,.bot,.bot,.bot,.bot,.bot,.bot,.bot,.bot],fun i=>[.rw (rC s ((p+i:Nat):Int) tw),.dead,.dead,.rw (nC x.2)],fun i=>x.1.length - i,0,⟨Nat.zero_le _,Nat.zero_le _⟩,zak (q:=[0,1,2,3]) rfl rfl (by decide) ?_ ?_,?_⟩
    ·refine aQ27 ?_
     exact .inr rfl
    ·simp [zah,zaL,zdg,zbq]
    ·rintro i ⟨hi1,hi2⟩
     refine aQ50 ?_
     refine⟨fun hlt=>?_,fun hge=>?_⟩
     ·refine⟨by omega,by omega,?_⟩
      have hwt:=zhm s (p+i) tw (x.1.getD i 0) (by omega) hs
      have hat:=wordW_at x.1 (s.drop p) i hi2 (by omega)
      rw [List.drop_drop] at hat
      unfold ziS at hwt
      unfold rS at hwt
      cases hb2:isAt s (p+i) (x.1.getD i 0) with
      | true =>
       rw [hb2] at hwt
       refine ACalls.frame ([0]) (hwt) rfl (by decide) (by simp [LM1,zah,zad,renL,AV.ren,AEnd.ren,zae,List.getElem?_cons_zero,List.getElem?_cons_succ]) (by first | rfl | simp [LM1,zah,zad,renL,AV.ren,AEnd.ren,zae,List.getElem?_cons_zero,List.getElem?_cons_succ]) ?_
       rintro _ _ ⟨rfl,rfl⟩
       refine⟨.ret (.tup []),[.rw (rC s ((p+i+1:Nat):Int) tw),.dead,.dead,.rw (nC x.2)],(aQ6 ([0,1,1,1])),(aQ13 ([0,1,1,1])),?_⟩
       refine aQ50 ?_
       have hi3:=hat.1 (of_decide_eq_true hb2)
       refine⟨by unfold inI;omega,?_⟩
       rw [zam]
       refine⟨i+1,⟨by omega,hi3⟩,(by show x.1.length - (i+1) < x.1.length - i;omega),zak (q:=[0,1,2,3]) rfl rfl (by decide) ?_ ?_⟩
       ·refine aQ27 ?_
        exact .inr (by omega)
       ·simp [zah,zaL,zdg,zbq,Nat.add_assoc]
      | false =>
       rw [hb2] at hwt
       refine ACalls.frame ([0]) (hwt) rfl (by decide) (by simp [LM1,zah,zad,renL,AV.ren,AEnd.ren,zae,List.getElem?_cons_zero,List.getElem?_cons_succ]) (by first | rfl | simp [LM1,zah,zad,renL,AV.ren,AEnd.ren,zae,List.getElem?_cons_zero,List.getElem?_cons_succ]) ?_
       rintro _ _ ⟨rfl,rfl⟩
       refine⟨.pan (flt ((p+i:Nat):Int) 2),[.dead,.dead,.dead,.rw (nC x.2)],(aQ6 ([0,1,1,1])),(aQ13 ([0,1,1,1])),?_⟩
       refine aQ50 ?_
       refine zbR (k:=i) ?_
       have hni:¬ i+1≤zcX x.1 (s.drop p):=fun h=>(of_decide_eq_false hb2) (hat.2 h)
       have hwi:zcX x.1 (s.drop p)=i:=by omega
       rw [hwx hb,zeB,hwi,if_neg (by omega)]
     ·have hil:i=x.1.length:=by omega
      subst hil
      refine zhr (j:=3) (l:=[x.2]) rfl rfl ?_
      rw [hwx hb,zeB,if_pos (by omega)]
      exact⟨rfl,rfl⟩
end Go.Proofs.YtnghkomgefieoaaGreatDoor
end

section
namespace Go.Proofs.YtnghkomgefieoaaGreatDoor
open Go Go.Eng
theorem qbF_le:∀ (n:Nat) (l:List UInt8) (x:List UInt8 × Nat),qbF n l=some x→x.2≤l.length∧1≤x.2
 | 0,l,x,h=>by cases h
 | n+1,[],x,h=>by cases h
 | n+1,c::r,x,h=>by
  rw [qbF] at h
  simp only [List.length_cons]
  split at h
  ·cases h
  ·split at h
   ·cases h;simp
   ·split at h
    ·split at h
     ·cases h
     ·rename_i b k he
      cases hq:qbF n (r.drop k) with
      | none=>rw [hq] at h;cases h
      | some y =>
       rw [hq] at h
       cases h
       have:=qbF_le n _ y hq
       rw [List.length_drop] at this
       simp only
       omega
    ·cases hq:qbF n r with
     | none=>rw [hq] at h;cases h
     | some y =>
      rw [hq] at h
      cases h
      have:=qbF_le n _ y hq
      simp only
      omega
theorem ziw {l:List UInt8} {x:List UInt8 × Nat} (h:quoL l=some x):x.2≤l.length∧2≤x.2:=by
 rw [quoL] at h
 split at h
 ·rename_i h0
  cases l with
  | nil=>cases h0
  | cons a l =>
   rw [List.drop_succ_cons,List.drop_zero] at h
   cases hq:qbL l with
   | none=>rw [hq] at h;cases h
   | some y =>
    rw [hq] at h
    cases h
    have:=qbF_le _ _ y hq
    simp only [List.length_cons]
    omega
 ·cases h
theorem numPL_le {l:List UInt8} {x:Int × Nat} (h:zcW l=some x):x.2≤l.length∧1≤x.2:=by
 rw [zcW] at h
 obtain⟨b,hb⟩:∃ b,b=if zb5 l then 1 else 0:=⟨_,rfl⟩
 rw [← hb] at h
 have h1:=zhj (l.drop b)
 rw [List.length_drop] at h1
 by_cases h0:digW (l.drop b)=0
 ·rw [if_pos h0] at h
  cases h
 rw [if_neg h0] at h
 by_cases h2:zb5 l=true
 ·rw [if_pos h2] at h
  by_cases h3:digV 0 ((l.drop b).take (digW (l.drop b)))≤9223372036854775808
  ·rw [if_pos h3] at h
   cases h
   simp only
   omega
  ·rw [if_neg h3] at h
   cases h
 ·rw [if_neg h2] at h
  by_cases h3:digV 0 ((l.drop b).take (digW (l.drop b))) < 9223372036854775808
  ·rw [if_pos h3] at h
   cases h
   simp only
   omega
  ·rw [if_neg h3] at h
   cases h
theorem negBad_le {l:List UInt8}:zeC l≤l.length:=by
 rw [zeC]
 split
 ·rename_i h
  cases l with
  | nil=>simp [zb5] at h
  | cons a l=>simp
 ·exact Nat.zero_le _
def GoodV (V:PV):Prop:=∀ tw p l,match V tw p l with
 | .ok x=>1≤x.2∧x.2≤l.length∧x.1.1.length≤x.2∧1≤x.1.1.length
 | .error k=>k≤l.length
def zgv {γ:Type} (wt cnt:γ→Nat) (a:Nat) (l:List UInt8) (g:γ) (x:Except Nat (γ × Nat)):Prop:=match x with
 | .ok x=>a≤x.2∧1≤x.2∧x.2≤l.length∧wt x.1≤wt g+x.2∧cnt x.1=cnt g+1
 | .error k=>k≤l.length
def zhF {γ:Type} (wt cnt:γ→Nat) (a:Nat) (first:Bool) (l:List UInt8) (g:γ) (x:Except Nat (γ × Nat)):Prop:=match x with
 | .ok x=>1≤x.2∧x.2≤l.length∧wt x.1+1≤wt g+x.2∧cnt g≤cnt x.1∧(cnt x.1 - cnt g) * (a+1)+(if first then 0 else 1)≤x.2
 | .error k=>k≤l.length
theorem zdK {γ:Type} (wt cnt:γ→Nat) (a:Nat) (e:UInt8) (step:γ→Nat→List UInt8→Except Nat (γ × Nat)) (hstep:∀ g p l,zgv wt cnt a l g (step g p l)):∀ (n:Nat) (first:Bool) (g:γ) (p:Nat) (l:List UInt8),zhF wt cnt a first l g (zbl e step n first g p l)
 | 0,_,_,_,l=>Nat.zero_le _
 | n+1,first,g,p,l=>by
  rw [zbl]
  by_cases h1:l.head?=some e
  ·rw [if_pos h1]
   have:1≤l.length:=by
    cases l with
    | nil=>cases h1
    | cons a l=>simp
   refine⟨Nat.le_refl _,this,Nat.le_refl _,Nat.le_refl _,?_⟩
   simp only [Nat.sub_self,Nat.zero_mul,Nat.zero_add]
   split <;> omega
  rw [if_neg h1]
  by_cases h2:(!first && decide (l.head?≠some 44))=true
  ·rw [if_pos h2]
   exact Nat.zero_le _
  rw [if_neg h2]
  have hw:(if first then 0 else 1+zax (l.drop 1))≤l.length∧(first=false→1≤(if first then 0 else 1+zax (l.drop 1))):=by
   cases first with
   | true=>exact⟨Nat.zero_le _,fun h=>by cases h⟩
   | false =>
    have hl:1≤l.length:=by
     cases l with
     | nil=>simp at h2
     | cons a l=>simp
    have:=zbd (l.drop 1)
    rw [List.length_drop] at this
    simp only [Bool.false_eq_true,if_false]
    exact⟨by omega,fun _=>by omega⟩
  generalize (if first then 0 else 1+zax (l.drop 1))=w at hw
  have hs:=hstep g (p+w) (l.drop w)
  dsimp only
  cases hx:step g (p+w) (l.drop w) with
  | error k =>
   rw [hx] at hs
   simp only [zgv,List.length_drop] at hs
   show w+k≤l.length
   omega
  | ok x =>
   rw [hx] at hs
   obtain⟨g',c⟩:=x
   simp only [zgv,List.length_drop] at hs
   dsimp only
   have hb:=zbd (l.drop (w+c))
   rw [List.length_drop] at hb
   have ih:=zdK wt cnt a e step hstep n false g' (p+(w+c+zax (l.drop (w+c)))) (l.drop (w+c+zax (l.drop (w+c))))
   generalize zax (l.drop (w+c))=b at hb ih
   cases hy:zbl e step n false g' (p+(w+c+b)) (l.drop (w+c+b)) with
   | error k =>
    rw [hy] at ih
    simp only [zhF,List.length_drop] at ih
    show w+c+b+k≤l.length
    omega
   | ok y =>
    rw [hy] at ih
    obtain⟨g'',k⟩:=y
    simp only [zhF,List.length_drop,Bool.false_eq_true,if_false] at ih
    simp only [zhF]
    obtain⟨i1,i2,i3,i4,i5⟩:=ih
    obtain⟨s1,s0,s2,s3,s4⟩:=hs
    refine⟨by omega,by omega,by omega,by omega,?_⟩
    have e1:cnt g'' - cnt g=(cnt g'' - cnt g')+1:=by omega
    rw [e1,Nat.succ_mul]
    cases first with
    | true=>simp only [if_true];omega
    | false =>
     have:=hw.2 rfl
     simp only [Bool.false_eq_true,if_false]
     omega
theorem zge {V:PV} (hV:GoodV V) (g:List (List Nd) × Int) (p:Nat) (l:List UInt8):zgv (fun g=>g.1.flatten.length) (fun g=>g.1.length) 1 l g (zd5 V g p l):=by
 have h:=hV g.2 p l
 rw [zd5]
 cases hx:V g.2 p l with
 | error k=>rw [hx] at h;exact h
 | ok x =>
  rw [hx] at h
  obtain⟨x,c⟩:=x
  simp only at h
  simp only [zgv]
  refine⟨h.1,h.1,h.2.1,?_,by simp⟩
  rw [List.flatten_append,List.length_append]
  simp only [List.flatten_cons,List.flatten_nil,List.append_nil]
  omega
def memW (ms:List Mem):Nat:=(ms.flatMap memR).length
theorem zdL {V:PV} (hV:GoodV V) (g:GO) (p:Nat) (l:List UInt8):zgv (fun g=>memW g.1) (fun g=>g.1.length) 4 l g (zcf V g p l):=by
 rw [zcf]
 cases hq:quoL l with
 | none=>exact Nat.zero_le _
 | some x =>
  obtain⟨key,c⟩:=x
  have hc:=ziw hq
  dsimp only at hc ⊢
  have hb:=zbd (l.drop c)
  rw [List.length_drop] at hb
  generalize hbe:c+zax (l.drop c)=b at hb
  by_cases h1:(l.drop b).head?=some 58
  ·rw [if_pos h1]
   have hbl:b < l.length:=by
    rcases Nat.lt_or_ge b l.length with h | h
    ·exact h
    ·rw [zbW h] at h1;cases h1
   have hb2:=zbd (l.drop (b+1))
   rw [List.length_drop] at hb2
   generalize hbe2:b+1+zax (l.drop (b+1))=b2 at hb2
   have h:=hV (twK g.1 g.2.1 p key) (p+b2) (l.drop b2)
   cases hx:V (twK g.1 g.2.1 p key) (p+b2) (l.drop b2) with
   | error k =>
    rw [hx] at h
    simp only [List.length_drop] at h
    simp only [zgv]
    omega
   | ok x =>
    rw [hx] at h
    obtain⟨x,c2⟩:=x
    simp only [List.length_drop] at h
    simp only [zgv]
    refine⟨by omega,by omega,by omega,?_,by simp⟩
    simp only [memW,List.flatMap_append,List.length_append,List.flatMap_cons,List.flatMap_nil,List.append_nil,memR,List.length_cons]
    omega
  ·rw [if_neg h1]
   show b≤l.length
   omega
theorem zhs (m:Mem):∀ l:List Mem,(insM m l).Perm (m::l)
 | []=>.refl _
 | x::xs=>by
  rw [insM]
  split
  ·exact .refl _
  ·exact((zhs m xs).cons x).trans (.swap m x xs)
theorem zhY:∀ (l acc:List Mem),(l.foldl (fun acc m=>insM m acc) acc).Perm (acc++l)
 | [],acc=>by simp
 | m::l,acc=>by
  rw [List.foldl_cons]
  refine(zhY l _).trans ?_
  refine((zhs m acc).append_right l).trans ?_
  exact List.perm_middle.symm
theorem zgf (l:List Mem):(zaT l).Perm l:=zhY l []
theorem memW_sort (ms:List Mem):memW (zaT ms)=memW ms:=((zgf ms).flatMap_right memR).length_eq
theorem inW_le {l:List UInt8} (h:l.length≠0):inW l≤l.length∧1≤inW l:=by
 have hb:=zbd (l.drop 1)
 rw [List.length_drop] at hb
 unfold inW
 omega
theorem zix {w:List UInt8} {n:Nd} (hw:1≤w.length) {tw:Int} {l:List UInt8}:match zeB w n tw l with
  | .ok x=>1≤x.2∧x.2≤l.length∧x.1.1.length≤x.2∧1≤x.1.1.length
  | .error k=>k≤l.length:=by
 have:=ziu w l
 rw [zeB]
 by_cases h:zcX w l=w.length
 ·rw [if_pos h]
  simp only [List.length_singleton]
  omega
 ·rw [if_neg h]
  exact this.2
theorem zca:∀ n,GoodV (pvF n)
 | 0=>fun _ _ _=>Nat.zero_le _
 | n+1=>fun tw p l=>by
  have ih:=zca n
  rw [pvF]
  by_cases h0:l.length=0
  ·rw [if_pos h0]
   exact Nat.zero_le _
  rw [if_neg h0]
  have hw:=inW_le h0
  by_cases h1:l.headD 0=91
  ·rw [if_pos h1,zfD]
   have h:=zdK _ _ 1 93 _ (zge ih) (l.length+1) true ([],tw) (p+inW l) (l.drop (inW l))
   cases hx:zbl 93 (zd5 (pvF n)) (l.length+1) true ([],tw) (p+inW l) (l.drop (inW l)) with
   | error k =>
    rw [hx] at h
    simp only [zhF,List.length_drop] at h
    show inW l+k≤l.length
    omega
   | ok x =>
    rw [hx] at h
    simp only [zhF,List.length_drop,List.flatten_nil,List.length_nil] at h
    simp only [zaF,List.length_cons]
    omega
  rw [if_neg h1]
  by_cases h2:l.headD 0=123
  ·rw [if_pos h2,objV]
   have h:=zdK _ _ 4 125 _ (zdL ih) (l.length+1) true ([],tw,[]) (p+inW l) (l.drop (inW l))
   cases hx:zbl 125 (zcf (pvF n)) (l.length+1) true ([],tw,[]) (p+inW l) (l.drop (inW l)) with
   | error k =>
    rw [hx] at h
    simp only [zhF,List.length_drop] at h
    show inW l+k≤l.length
    omega
   | ok x =>
    rw [hx] at h
    have hm:memW ([]:List Mem)=0:=rfl
    have hs:=memW_sort x.1.1
    simp only [zhF,List.length_drop,List.length_nil,hm] at h
    simp only [memW] at hs h
    simp only [objR,List.length_cons]
    omega
  rw [if_neg h2]
  by_cases h3:l.headD 0=34
  ·rw [if_pos h3,zio]
   cases hq:quoL l with
   | none=>exact Nat.zero_le _
   | some x =>
    have:=ziw hq
    simp only [List.length_singleton]
    omega
  rw [if_neg h3]
  by_cases h4:l.headD 0=45∨isDg (l.headD 0)=true
  ·rw [if_pos h4,zgu]
   cases hq:zcW l with
   | none=>exact negBad_le
   | some x =>
    have:=numPL_le hq
    simp only [List.length_singleton]
    omega
  rw [if_neg h4,zgt]
  by_cases h5:l.head?=some 110
  ·rw [if_pos h5]
   exact zix (w:=wNull) (by decide)
  rw [if_neg h5]
  by_cases h6:l.head?=some 102
  ·rw [if_pos h6]
   exact zix (w:=wFalse) (by decide)
  rw [if_neg h6]
  by_cases h7:l.head?=some 116
  ·rw [if_pos h7]
   exact zix (w:=wTrue) (by decide)
  rw [if_neg h7]
  exact Nat.zero_le _
theorem members_le {n:Nat} {tw:Int} {p:Nat} {l:List UInt8} {x:GO × Nat} (h:zbl 125 (zcf (pvF n)) (l.length+1) true ([],tw,[]) (p+inW l) (l.drop (inW l))=.ok x):x.1.1.length * 5≤l.length:=by
 have h1:=zdK _ _ 4 125 _ (zdL (zca n)) (l.length+1) true ([],tw,[]) (p+inW l) (l.drop (inW l))
 rw [h] at h1
 simp only [zhF,List.length_drop,List.length_nil,if_true] at h1
 omega
end Go.Proofs.YtnghkomgefieoaaGreatDoor
end

section
namespace Go.Proofs.YtnghkomgefieoaaGreatDoor
open Go Go.Eng
def LA (s:List UInt8) (p tw:Int) (l:List Nd):zab:=[.rw (rC s p tw),.rw [.ptr 0 0],.rw (l.flatMap nC),.rw [.ref 2 0 l.length 4]]
def LB (s:List UInt8) (p tw:Int) (l:List Nd):zab:=[.rw (rC s p tw),.rw [.ptr 0 0],.dead,.rw [.ref 4 0 l.length 4],.rw (l.flatMap nC)]
def loneK (s:List UInt8) (p:Nat) (x:Except Nat ((List (List Nd) × Int) × Nat)):AEnd→zab→Prop:=fun y σ=>match x with
 | .ok x=>y=.ret (.tup [])∧σ=LB s ((p+x.2:Nat):Int) x.1.2 (zaF x.1.1)
 | .error k=>y=.pan (flt ((p+k:Nat):Int) 2)∧σ=[.dead,.dead,.dead,.dead]
def loneT:Tr:=(.br 0 (.br 1 (.br 2 (.br 3 (.br 4 .done .nil) .nil) .nil) .nil) (.br 1 (.br 0 (.br 2 (.br 3 (.br 4 .done .nil) .nil) .nil) (.br 2 (.br 0 (.br 3 (.br 4 .done .nil) .nil) .nil) .nil)) .nil))
section
variable {σ : zab} {K : AV → Prop} {KS : AV → zab → Prop} {id : Nat}
theorem ia_refN (id off len:Nat) (n:Int):ia3 (some tyNd) (.ref id off len 4) n K=(0≤n∧n < len∧K (.ptr id (off+n.toNat * 4))):=by simp [ia3,tyNd]
theorem ld_hk (h:Nd) (t:List Nd):ld2 (some za4) (some ((h::t).flatMap nC)) 3 K=K (i64 h.kids):=by simp [ld2,wfin,za4,TD.agg,nC]
theorem len_hk (h:Nd) (t:List Nd):(3 < ((h::t).flatMap nC).length)=True:=by simp [nC]
theorem set_hk (h:Nd) (t:List Nd) (k:Int):((h::t).flatMap nC).set 3 (i64 k)=(⟨h.kind,h.num,h.text,k⟩::t:List Nd).flatMap nC:=by simp [nC]
end
def ziU (n:Nat) (s:List UInt8):Prop:=∀ (p:Nat) (tw:Int),p≤s.length→s.length - p < n→ACalls Tryz.prog 54 [.ptr 0 0] (rS s p tw) (outV s p (pvF n tw p (s.drop p)))
theorem leI_rfl:∀ e:Env,leI e e
 | []=>trivial
 | a::l=>⟨.inr rfl,leI_rfl l⟩
theorem zdM {n0:Nat} {Q:Post} {env:Env} {σ:zab} (h:Q .normal env σ):fitX n0 Q .normal env σ:=⟨env,σ,zcN (leI_rfl _),h⟩
theorem lone_ok (n:Nat) (s:List UInt8) (hs:s.length≤1000000000) (hV:ziU n s) (p:Nat) (tw:Int) (ks:List (List Nd)) (hp:p≤s.length) (hn:s.length - p < n) (hk:ks.flatten.length≤1000000000) (hk2:ks.length≤1000000000):ACalls Tryz.prog 120 [.ptr 3 0,.ptr 1 0] (LA s p tw (zaF ks)) (loneK s p (zd5 (pvF n) (ks,tw) p (s.drop p))):=by
 have h:=hV p tw hp hn
 have hg:=zca n tw p (s.drop p)
 unfold outV rS at h
 unfold LA zaF
 refine ACalls.body T_ok Tryz.func120 (by kernel_rfl) rfl Tryz.ntmps120 (congrArg Array.toList Tryz.results120) ?_
 refine aQ51 ?_
 refine⟨by omega,by omega,by unfold inI;omega,by omega,by omega,?_⟩
 refine zg7 loneT (by kernel_rfl) (by kernel_rfl) ?_
 unfold loneT
 refine aQ51 ?_
 cases hx:pvF n tw p (s.drop p) with
 | error k =>
  rw [hx] at h
  refine⟨?_,?_,?_⟩
  all_goals
   refine ACalls.frame ([0]) (h) rfl (by decide) (by simp [LM1,zah,zad,renL,AV.ren,AEnd.ren,zaa,zae,List.getElem?_cons_zero,List.getElem?_cons_succ]) (by first | rfl | simp [LM1,zah,zad,renL,AV.ren,AEnd.ren,zaa,zae,List.getElem?_cons_zero,List.getElem?_cons_succ]) ?_
   rintro _ _ ⟨rfl,rfl⟩
   refine⟨.pan (flt ((p+k:Nat):Int) 2),[.dead,.rw [.ptr 0 0],.rw ((⟨4,0,[],(ks.length:Int)+1⟩::ks.flatten:List Nd).flatMap nC),.rw [.ref 2 0 (ks.flatten.length+1) 4]],(aQ7 ([0,1,1,1])),(aQ14 ([0,1,1,1])),?_⟩
   refine aQ51 ?_
   refine zbw (za9 _ _ _) ?_
   unfold loneK zd5
   rw [hx]
   exact⟨rfl,rfl⟩
 | ok x =>
  rw [hx] at h hg
  obtain⟨x,c⟩:=x
  dsimp only at h hg
  have hr:zaF (ks++[x.1])=(⟨4,0,[],(ks.length:Int)+1⟩::ks.flatten)++x.1:=by
   simp [zaF]
  have hxl:x.1.length≤1000000000:=by rw [List.length_drop] at hg;omega
  refine⟨?_,?_,?_⟩
  all_goals
   refine ACalls.frame ([0]) (h) rfl (by decide) (by simp [LM1,zah,zad,renL,AV.ren,AEnd.ren,zaa,zae,List.getElem?_cons_zero,List.getElem?_cons_succ]) (by first | rfl | simp [LM1,zah,zad,renL,AV.ren,AEnd.ren,zaa,zae,List.getElem?_cons_zero,List.getElem?_cons_succ]) ?_
   rintro _ _ ⟨rfl,rfl⟩
   refine⟨.ret (slN x.1),[.rw (rC s ((p+c:Nat):Int) x.2),.rw [.ptr 0 0],.rw ((⟨4,0,[],(ks.length:Int)+1⟩::ks.flatten:List Nd).flatMap nC),.rw [.ref 2 0 (ks.flatten.length+1) 4]],(aQ7 ([0,1,1,1])),(aQ14 ([0,1,1,1])),?_⟩
   refine aQ51 ?_
   refine ndF.app rfl rfl T22 T22 (zgq _) T43 rfl rfl (l:=⟨4,0,[],(ks.length:Int)+1⟩::ks.flatten) (ys:=x.1) rfl (ndF.asrc x.1) rfl (by simp only [List.length_cons];omega) (by simp only [List.length_cons,tyNd];omega) ?_
   refine aQ51 ?_
   refine zdM ?_
   refine aQ51 ?_
   refine zau ?_
   unfold loneK zd5
   rw [hx]
   refine⟨rfl,?_⟩
   simp only [LB]
   rw [hr]
   rw [show ks.flatten.length+1+x.1.length=((⟨4,0,[],(ks.length:Int)+1⟩::ks.flatten:List Nd)++x.1).length by simp only [List.length_append,List.length_cons]]
   rfl
def zgo (s:List UInt8) (p:Nat) (x:Except Nat ((List (List Nd) × Int) × Nat)):AEnd→zab→Prop:=fun y σ=>match x with
 | .ok x=>y=.ret (.tup [])∧σ=(if x.1.1.length=0 then LA s ((p+x.2:Nat):Int) x.1.2 (zaF x.1.1) else LB s ((p+x.2:Nat):Int) x.1.2 (zaF x.1.1))
 | .error k=>y=.pan (flt ((p+k:Nat):Int) 2)∧σ=[.dead,.dead,.dead,.dead]
def shE {γ:Type} (d:Nat):Except Nat (γ × Nat)→Except Nat (γ × Nat)
 | .error k=>.error (d+k)
 | .ok x=>.ok (x.1,d+x.2)
theorem shE_0 {γ:Type} (x:Except Nat (γ × Nat)):shE 0 x=x:=by
 cases x <;> simp [shE]
theorem ziy {γ:Type} (a b:Nat) (x:Except Nat (γ × Nat)):shE a (shE b x)=shE (a+b) x:=by
 cases x <;> simp [shE,Nat.add_assoc]
theorem zd6 {γ:Type} {e:UInt8} {step:γ→Nat→List UInt8→Except Nat (γ × Nat)} {n:Nat} {first:Bool} {g g':γ} {p c w:Nat} {l:List UInt8} (h1:l.head?≠some e) (h2:(!first && decide (l.head?≠some 44))=false) (hw:w=if first then 0 else 1+zax (l.drop 1)) (hx:step g (p+w) (l.drop w)=.ok (g',c)) :
  zbl e step (n+1) first g p l=shE (w+c+zax (l.drop (w+c))) (zbl e step n false g' (p+(w+c+zax (l.drop (w+c)))) (l.drop (w+c+zax (l.drop (w+c))))):=by
 subst hw
 rw [zbl,if_neg h1,if_neg (by rw [h2];decide)]
 dsimp only
 rw [hx]
 dsimp only
 cases zbl e step n false g' _ _ <;> rfl
theorem zfG {γ:Type} {e:UInt8} {step:γ→Nat→List UInt8→Except Nat (γ × Nat)} {n:Nat} {first:Bool} {g:γ} {p k w:Nat} {l:List UInt8} (h1:l.head?≠some e) (h2:(!first && decide (l.head?≠some 44))=false) (hw:w=if first then 0 else 1+zax (l.drop 1)) (hx:step g (p+w) (l.drop w)=.error k) :
  zbl e step (n+1) first g p l=.error (w+k):=by
 subst hw
 rw [zbl,if_neg h1,if_neg (by rw [h2];decide)]
 dsimp only
 rw [hx]
theorem zfH {γ:Type} {e:UInt8} {step:γ→Nat→List UInt8→Except Nat (γ × Nat)} {n:Nat} {first:Bool} {g:γ} {p:Nat} {l:List UInt8} (h1:l.head?=some e):zbl e step (n+1) first g p l=.ok (g,1):=by
 rw [zbl,if_pos h1]
theorem rowsG_no {γ:Type} {e:UInt8} {step:γ→Nat→List UInt8→Except Nat (γ × Nat)} {n:Nat} {g:γ} {p:Nat} {l:List UInt8} (h1:l.head?≠some e) (h2:l.head?≠some 44):zbl e step (n+1) false g p l=.error 0:=by
 rw [zbl,if_neg h1,if_pos (by simp [h2])]
theorem lrows_ok (n:Nat) (s:List UInt8) (hs:s.length≤100000000) (hV:ziU n s) (p:Nat) (tw:Int) (hp:p < s.length) (hn:s.length - p≤n):ACalls Tryz.prog 119 [.ptr 0 0,u8 93,.fn (.func 120) [] [.ptr 3 0,.ptr 1 0]] (LA s p tw (zaF [])) (zgo s (p+inW (s.drop p)) (zbl 93 (zd5 (pvF n)) ((s.drop p).length+1) true ([],tw) (p+inW (s.drop p)) (s.drop (p+inW (s.drop p))))):=by
 have hin:inW (s.drop p)=1+zax (s.drop (p+1)):=by rw [inW,List.drop_drop]
 have hb:=zbd (s.drop (p+1))
 rw [List.length_drop] at hb
 have hsk:=zcr s (p+1) tw (by omega) (by omega)
 rw [show p+1+zax (s.drop (p+1))=p+inW (s.drop p) by omega] at hsk
 unfold rS at hsk
 obtain⟨p',hp'⟩:∃ p',p'=p+inW (s.drop p):=⟨_,rfl⟩
 rw [← hp'] at hsk ⊢
 unfold LA
 refine ACalls.body T_ok Tryz.func119 (by kernel_rfl) rfl Tryz.ntmps119 (congrArg Array.toList Tryz.results119) ?_
 refine aQ51 ?_
 refine⟨by unfold inI;omega,?_⟩
 refine ACalls.frame ([0]) (hsk) rfl (by decide) (by simp [LM1,zah,zad,renL,AV.ren,AEnd.ren,zaa,zae,List.getElem?_cons_zero,List.getElem?_cons_succ]) (by first | rfl | simp [LM1,zah,zad,renL,AV.ren,AEnd.ren,zaa,zae,List.getElem?_cons_zero,List.getElem?_cons_succ]) ?_
 rintro _ _ ⟨rfl,rfl⟩
 refine⟨.ret (.tup []),[.rw (rC s p' tw),.rw [.ptr 0 0],.rw ((zaF []).flatMap nC),.rw [.ref 2 0 (zaF []).length 4]],(aQ7 ([0,1,1,1])),(aQ14 ([0,1,1,1])),?_⟩
 refine aQ51 ?_
 rw [za6]
 refine⟨Nat × Bool × (List (List Nd) × Int) × Nat,fun x=>p'≤x.2.2.2∧x.2.2.2≤s.length∧s.length - x.2.2.2 < x.1∧x.2.2.1.1.flatten.length≤x.2.2.2∧x.2.2.1.1.length≤x.2.2.2∧(x.2.1=decide (x.2.2.1.1.length=0))∧zbl 93 (zd5 (pvF n)) ((s.drop p).length+1) true ([],tw) p' (s.drop p')=shE (x.2.2.2 - p') (zbl 93 (zd5 (pvF n)) x.1 x.2.1 x.2.2.1 x.2.2.2 (s.drop x.2.2.2)),fun x=>[.ptr 0 0,u8 93,.fn (.func 120) [] [.ptr 3 0,.ptr 1 0],.bot,.bot,.bot,bl x.2.1,.bot,.bot,.bot,.bot,.bot,.bot,.bot,.bot,.bot,.bot,.bot,.bot,.bot,.bot,.bot,.bot,.bot,.bot,.bot,.bot,.bot,.bot,.bot,.bot,.bot,.bot,.bot,.bot,.bot,.bot],fun x=>if x.2.1 then LA s (x.2.2.2:Int) x.2.2.1.2 (zaF x.2.2.1.1) else LB s (x.2.2.2:Int) x.2.2.1.2 (zaF x.2.2.1.1),fun x=>x.1,((s.drop p).length+1,true,([],tw),p'),⟨Nat.le_refl _,by dsimp only;omega,by dsimp only;rw [List.length_drop];omega,Nat.zero_le _,Nat.zero_le _,rfl,by simp only [Nat.sub_self,shE_0]⟩,zak (q:=[0,1,2,3]) rfl rfl (by decide) ?_ ?_,?_⟩
 ·refine aQ27 ?_
  rfl
 ·simp only [if_true,LA]
  simp [zah,zaL,ndF.fren,zbq,renL,AV.ren]
 ·rintro⟨i,first,⟨ks,tw'⟩,q⟩ ⟨i1,i2,i3,i4,i5,i7,i6⟩
  dsimp only at i1 i2 i3 i4 i5 i7 i6 ⊢
  obtain⟨i,rfl⟩:∃ j,i=j+1:=⟨i - 1,by omega⟩
  have his:=is_ok s q tw' 93 i2
  unfold rS at his
  have hisAt:isAt s q 93=decide ((s.drop q).head?=some 93):=rfl
  have hq0:1≤p':=by omega
  cases first with
  | true =>
   rw [if_pos rfl]
   unfold LA
   refine aQ51 ?_
   by_cases h93:(s.drop q).head?=some 93
   ·rw [hisAt,decide_eq_true h93] at his
    refine ACalls.frame ([0]) (his) rfl (by decide) (by simp [LM1,zah,zad,renL,AV.ren,AEnd.ren,zaa,zae,List.getElem?_cons_zero,List.getElem?_cons_succ]) (by first | rfl | simp [LM1,zah,zad,renL,AV.ren,AEnd.ren,zaa,zae,List.getElem?_cons_zero,List.getElem?_cons_succ]) ?_
    rintro _ _ ⟨rfl,rfl⟩
    refine⟨.ret (bl true),[.rw (rC s q tw'),.rw [.ptr 0 0],.rw ((zaF ks).flatMap nC),.rw [.ref 2 0 (zaF ks).length 4]],(aQ7 ([0,1,1,1])),(aQ14 ([0,1,1,1])),?_⟩
    refine aQ51 ?_
    refine⟨by unfold inI;omega,zau ?_⟩
    unfold zgo
    rw [i6,zfH h93]
    refine⟨rfl,?_⟩
    simp only [shE]
    rw [if_pos (of_decide_eq_true i7.symm)]
    rw [LA,show p'+(q - p'+1)=q+1 by omega]
    rfl
   rw [hisAt,decide_eq_false h93] at his
   refine ACalls.frame ([0]) (his) rfl (by decide) (by simp [LM1,zah,zad,renL,AV.ren,AEnd.ren,zaa,zae,List.getElem?_cons_zero,List.getElem?_cons_succ]) (by first | rfl | simp [LM1,zah,zad,renL,AV.ren,AEnd.ren,zaa,zae,List.getElem?_cons_zero,List.getElem?_cons_succ]) ?_
   rintro _ _ ⟨rfl,rfl⟩
   refine⟨.ret (bl false),[.rw (rC s q tw'),.rw [.ptr 0 0],.rw ((zaF ks).flatMap nC),.rw [.ref 2 0 (zaF ks).length 4]],(aQ7 ([0,1,1,1])),(aQ14 ([0,1,1,1])),?_⟩
   refine aQ51 ?_
   obtain⟨r,hr⟩:∃ r,r=q+0:=⟨_,rfl⟩
   have hrl:r≤s.length:=by omega
   obtain rfl:r=q:=by omega
   have hl:=lone_ok n s (by omega) hV r tw' ks hrl (by omega) (by omega) (by omega)
   have hg:=zge (zca n) (ks,tw') r (s.drop r)
   unfold loneK LA at hl
   have hdr:(s.drop r).drop 0=s.drop r:=rfl
   cases hx:zd5 (pvF n) (ks,tw') r (s.drop r) with
   | error k =>
    rw [hx] at hl
    refine ACalls.frame ([0,1,2,3]) (hl) rfl (by decide) (by simp [LM1,zah,zad,renL,AV.ren,AEnd.ren,zaa,zae,List.getElem?_cons_zero,List.getElem?_cons_succ]) (by first | rfl | simp [LM1,zah,zad,renL,AV.ren,AEnd.ren,zaa,zae,List.getElem?_cons_zero,List.getElem?_cons_succ]) ?_
    rintro _ _ ⟨rfl,rfl⟩
    refine⟨.pan (flt ((r+k:Nat):Int) 2),[.dead,.dead,.dead,.dead],(aQ7 ([0,1,2,3])),(aQ14 ([0,1,2,3])),?_⟩
    refine aQ51 ?_
    refine zbw (za9 _ _ _) ?_
    unfold zgo
    rw [i6,zfG (w:=0) (k:=k) h93 rfl rfl (by rw [hdr];exact hx)]
    refine⟨?_,rfl⟩
    rw [show p'+(r - p'+(0+k))=r+k by omega]
   | ok x =>
    rw [hx] at hl hg
    obtain⟨⟨ks2,tw2⟩,c⟩:=x
    simp only [zgv,List.length_drop] at hg
    dsimp only [LB] at hl
    refine ACalls.frame ([0,1,2,3]) (hl) rfl (by decide) (by simp [LM1,zah,zad,renL,AV.ren,AEnd.ren,zaa,zae,List.getElem?_cons_zero,List.getElem?_cons_succ]) (by first | rfl | simp [LM1,zah,zad,renL,AV.ren,AEnd.ren,zaa,zae,List.getElem?_cons_zero,List.getElem?_cons_succ]) ?_
    rintro _ _ ⟨rfl,rfl⟩
    refine⟨.ret (.tup []),[.rw (rC s ((r+c:Nat):Int) tw2),.rw [.ptr 0 0],.dead,.rw [.ref 4 0 (zaF ks2).length 4],.rw ((zaF ks2).flatMap nC)],(aQ7 ([0,1,2,3,4])),(aQ14 ([0,1,2,3,4])),?_⟩
    refine aQ51 ?_
    have hsk3:=zcr s (r+c) tw2 (by omega) (by omega)
    have hb3:=zbd (s.drop (r+c))
    rw [List.length_drop] at hb3
    unfold rS at hsk3
    refine ACalls.frame ([0]) (hsk3) rfl (by decide) (by simp [LM1,zah,zad,renL,AV.ren,AEnd.ren,zaa,zae,List.getElem?_cons_zero,List.getElem?_cons_succ]) (by first | rfl | simp [LM1,zah,zad,renL,AV.ren,AEnd.ren,zaa,zae,List.getElem?_cons_zero,List.getElem?_cons_succ]) ?_
    rintro _ _ ⟨rfl,rfl⟩
    refine⟨.ret (.tup []),[.rw (rC s ((r+c+zax (s.drop (r+c)):Nat):Int) tw2),.rw [.ptr 0 0],.dead,.rw [.ref 4 0 (zaF ks2).length 4],.rw ((zaF ks2).flatMap nC)],(aQ7 ([0,1,1,1,1])),(aQ14 ([0,1,1,1,1])),?_⟩
    refine aQ51 ?_
    rw [zam]
    refine⟨(i,false,(ks2,tw2),r+c+zax (s.drop (r+c))),⟨by dsimp only;omega,by dsimp only;omega,by dsimp only;omega,by dsimp only at hg ⊢;omega,by dsimp only at hg ⊢;omega,(decide_eq_false (by dsimp only at hg ⊢;omega)).symm,?_⟩,(by show i < i+1;omega),?_⟩
    ·rw [i6,zd6 (w:=0) (c:=c) (g':=(ks2,tw2)) h93 rfl rfl (by rw [hdr];exact hx),ziy]
     rw [List.drop_drop,Nat.zero_add,List.drop_drop,show r+(c+zax (s.drop (r+c)))=r+c+zax (s.drop (r+c)) by omega,show r - p'+(c+zax (s.drop (r+c)))=r+c+zax (s.drop (r+c)) - p' by omega]
    ·dsimp only
     rw [if_neg (by decide)]
     try unfold LB
     refine zak (q:=[0,1,2,3,4]) rfl rfl (by decide) ?_ ?_
     ·refine aQ27 ?_
      try rfl
     ·simp [zah,zaL,ndF.fren,zbq,renL,AV.ren]
  | false =>
   rw [if_neg (by decide)]
   unfold LB
   refine aQ51 ?_
   by_cases h93:(s.drop q).head?=some 93
   ·rw [hisAt,decide_eq_true h93] at his
    refine ACalls.frame ([0]) (his) rfl (by decide) (by simp [LM1,zah,zad,renL,AV.ren,AEnd.ren,zaa,zae,List.getElem?_cons_zero,List.getElem?_cons_succ]) (by first | rfl | simp [LM1,zah,zad,renL,AV.ren,AEnd.ren,zaa,zae,List.getElem?_cons_zero,List.getElem?_cons_succ]) ?_
    rintro _ _ ⟨rfl,rfl⟩
    refine⟨.ret (bl true),[.rw (rC s q tw'),.rw [.ptr 0 0],.dead,.rw [.ref 4 0 (zaF ks).length 4],.rw ((zaF ks).flatMap nC)],(aQ7 ([0,1,1,1,1])),(aQ14 ([0,1,1,1,1])),?_⟩
    refine aQ51 ?_
    refine⟨by unfold inI;omega,zau ?_⟩
    unfold zgo
    rw [i6,zfH h93]
    refine⟨rfl,?_⟩
    simp only [shE]
    rw [if_neg (of_decide_eq_false i7.symm)]
    rw [LB,show p'+(q - p'+1)=q+1 by omega]
    rfl
   rw [hisAt,decide_eq_false h93] at his
   refine ACalls.frame ([0]) (his) rfl (by decide) (by simp [LM1,zah,zad,renL,AV.ren,AEnd.ren,zaa,zae,List.getElem?_cons_zero,List.getElem?_cons_succ]) (by first | rfl | simp [LM1,zah,zad,renL,AV.ren,AEnd.ren,zaa,zae,List.getElem?_cons_zero,List.getElem?_cons_succ]) ?_
   rintro _ _ ⟨rfl,rfl⟩
   refine⟨.ret (bl false),[.rw (rC s q tw'),.rw [.ptr 0 0],.dead,.rw [.ref 4 0 (zaF ks).length 4],.rw ((zaF ks).flatMap nC)],(aQ7 ([0,1,1,1,1])),(aQ14 ([0,1,1,1,1])),?_⟩
   refine aQ51 ?_
   have hwt:=zhm s q tw' 44 i2 (by omega)
   unfold ziS at hwt
   unfold rS at hwt
   have hisAt2:isAt s q 44=decide ((s.drop q).head?=some 44):=rfl
   by_cases h44:(s.drop q).head?=some 44
   rotate_left
   ·rw [hisAt2,decide_eq_false h44] at hwt
    refine ACalls.frame ([0]) (hwt) rfl (by decide) (by simp [LM1,zah,zad,renL,AV.ren,AEnd.ren,zaa,zae,List.getElem?_cons_zero,List.getElem?_cons_succ]) (by first | rfl | simp [LM1,zah,zad,renL,AV.ren,AEnd.ren,zaa,zae,List.getElem?_cons_zero,List.getElem?_cons_succ]) ?_
    rintro _ _ ⟨rfl,rfl⟩
    refine⟨.pan (flt q 2),[.dead,.rw [.ptr 0 0],.dead,.rw [.ref 4 0 (zaF ks).length 4],.rw ((zaF ks).flatMap nC)],(aQ7 ([0,1,1,1,1])),(aQ14 ([0,1,1,1,1])),?_⟩
    refine aQ51 ?_
    refine zbw (za9 _ _ _) ?_
    unfold zgo
    rw [i6,rowsG_no h93 h44]
    refine⟨?_,rfl⟩
    rw [show p'+(q - p'+0)=q by omega]
   have hql:q < s.length:=by
    rcases Nat.lt_or_ge q s.length with h | h
    ·exact h
    ·rw [zbW h] at h44;cases h44
   rw [hisAt2,decide_eq_true h44] at hwt
   refine ACalls.frame ([0]) (hwt) rfl (by decide) (by simp [LM1,zah,zad,renL,AV.ren,AEnd.ren,zaa,zae,List.getElem?_cons_zero,List.getElem?_cons_succ]) (by first | rfl | simp [LM1,zah,zad,renL,AV.ren,AEnd.ren,zaa,zae,List.getElem?_cons_zero,List.getElem?_cons_succ]) ?_
   rintro _ _ ⟨rfl,rfl⟩
   refine⟨.ret (.tup []),[.rw (rC s ((q+1:Nat):Int) tw'),.rw [.ptr 0 0],.dead,.rw [.ref 4 0 (zaF ks).length 4],.rw ((zaF ks).flatMap nC)],(aQ7 ([0,1,1,1,1])),(aQ14 ([0,1,1,1,1])),?_⟩
   refine aQ51 ?_
   have hsk2:=zcr s (q+1) tw' (by omega) (by omega)
   have hb2:=zbd (s.drop (q+1))
   rw [List.length_drop] at hb2
   have hwe:1+zax ((s.drop q).drop 1)=1+zax (s.drop (q+1)):=by rw [List.drop_drop]
   obtain⟨w,hw⟩:∃ w,w=1+zax (s.drop (q+1)):=⟨_,rfl⟩
   obtain⟨r,hr⟩:∃ r,r=q+w:=⟨_,rfl⟩
   have hrl:r≤s.length:=by omega
   rw [show q+1+zax (s.drop (q+1))=r by omega] at hsk2
   unfold rS at hsk2
   refine ACalls.frame ([0]) (hsk2) rfl (by decide) (by simp [LM1,zah,zad,renL,AV.ren,AEnd.ren,zaa,zae,List.getElem?_cons_zero,List.getElem?_cons_succ]) (by first | rfl | simp [LM1,zah,zad,renL,AV.ren,AEnd.ren,zaa,zae,List.getElem?_cons_zero,List.getElem?_cons_succ]) ?_
   rintro _ _ ⟨rfl,rfl⟩
   refine⟨.ret (.tup []),[.rw (rC s r tw'),.rw [.ptr 0 0],.dead,.rw [.ref 4 0 (zaF ks).length 4],.rw ((zaF ks).flatMap nC)],(aQ7 ([0,1,1,1,1])),(aQ14 ([0,1,1,1,1])),?_⟩
   refine aQ51 ?_
   have hl:=lone_ok n s (by omega) hV r tw' ks hrl (by omega) (by omega) (by omega)
   have hg:=zge (zca n) (ks,tw') r (s.drop r)
   unfold loneK LA at hl
   have hdr:(s.drop q).drop w=s.drop r:=by rw [List.drop_drop,hr]
   cases hx:zd5 (pvF n) (ks,tw') r (s.drop r) with
   | error k =>
    rw [hx] at hl
    refine ACalls.frame ([0,1,4,3]) (hl) rfl (by decide) (by simp [LM1,zah,zad,renL,AV.ren,AEnd.ren,zaa,zae,List.getElem?_cons_zero,List.getElem?_cons_succ]) (by first | rfl | simp [LM1,zah,zad,renL,AV.ren,AEnd.ren,zaa,zae,List.getElem?_cons_zero,List.getElem?_cons_succ]) ?_
    rintro _ _ ⟨rfl,rfl⟩
    refine⟨.pan (flt ((r+k:Nat):Int) 2),[.dead,.dead,.dead,.dead,.dead],(aQ7 ([0,1,4,3,2])),(aQ14 ([0,1,4,3,2])),?_⟩
    refine aQ51 ?_
    refine zbw (za9 _ _ _) ?_
    unfold zgo
    rw [i6,zfG (w:=w) (k:=k) h93 (by simp [h44]) (by rw [hw,← hwe];rfl) (by rw [hdr];rw [← hr];exact hx)]
    refine⟨?_,rfl⟩
    rw [show p'+(q - p'+(w+k))=r+k by omega]
   | ok x =>
    rw [hx] at hl hg
    obtain⟨⟨ks2,tw2⟩,c⟩:=x
    simp only [zgv,List.length_drop] at hg
    dsimp only [LB] at hl
    refine ACalls.frame ([0,1,4,3]) (hl) rfl (by decide) (by simp [LM1,zah,zad,renL,AV.ren,AEnd.ren,zaa,zae,List.getElem?_cons_zero,List.getElem?_cons_succ]) (by first | rfl | simp [LM1,zah,zad,renL,AV.ren,AEnd.ren,zaa,zae,List.getElem?_cons_zero,List.getElem?_cons_succ]) ?_
    rintro _ _ ⟨rfl,rfl⟩
    refine⟨.ret (.tup []),[.rw (rC s ((r+c:Nat):Int) tw2),.rw [.ptr 0 0],.dead,.rw [.ref 5 0 (zaF ks2).length 4],.dead,.rw ((zaF ks2).flatMap nC)],(aQ7 ([0,1,5,3,2,4])),(aQ14 ([0,1,5,3,2,4])),?_⟩
    refine aQ51 ?_
    have hsk3:=zcr s (r+c) tw2 (by omega) (by omega)
    have hb3:=zbd (s.drop (r+c))
    rw [List.length_drop] at hb3
    unfold rS at hsk3
    refine ACalls.frame ([0]) (hsk3) rfl (by decide) (by simp [LM1,zah,zad,renL,AV.ren,AEnd.ren,zaa,zae,List.getElem?_cons_zero,List.getElem?_cons_succ]) (by first | rfl | simp [LM1,zah,zad,renL,AV.ren,AEnd.ren,zaa,zae,List.getElem?_cons_zero,List.getElem?_cons_succ]) ?_
    rintro _ _ ⟨rfl,rfl⟩
    refine⟨.ret (.tup []),[.rw (rC s ((r+c+zax (s.drop (r+c)):Nat):Int) tw2),.rw [.ptr 0 0],.dead,.rw [.ref 5 0 (zaF ks2).length 4],.dead,.rw ((zaF ks2).flatMap nC)],(aQ7 ([0,1,1,1,1,1])),(aQ14 ([0,1,1,1,1,1])),?_⟩
    refine aQ51 ?_
    rw [zam]
    refine⟨(i,false,(ks2,tw2),r+c+zax (s.drop (r+c))),⟨by dsimp only;omega,by dsimp only;omega,by dsimp only;omega,by dsimp only at hg ⊢;omega,by dsimp only at hg ⊢;omega,(decide_eq_false (by dsimp only at hg ⊢;omega)).symm,?_⟩,(by show i < i+1;omega),?_⟩
    ·rw [i6,zd6 (w:=w) (c:=c) (g':=(ks2,tw2)) h93 (by simp [h44]) (by rw [hw,← hwe];rfl) (by rw [hdr];rw [← hr];exact hx),ziy]
     rw [List.drop_drop,List.drop_drop,show q+(w+c)=r+c by omega,show q+(w+c+zax (s.drop (r+c)))=r+c+zax (s.drop (r+c)) by omega,show q - p'+(w+c+zax (s.drop (r+c)))=r+c+zax (s.drop (r+c)) - p' by omega]
    ·dsimp only
     rw [if_neg (by decide)]
     try unfold LB
     refine zak (q:=[0,1,2,3,5]) rfl rfl (by decide) ?_ ?_
     ·refine aQ27 ?_
      try rfl
     ·simp [zah,zaL,ndF.fren,zbq,renL,AV.ren]
theorem list_ok (n:Nat) (s:List UInt8) (hs:s.length≤100000000) (hV:ziU n s) (p:Nat) (tw:Int) (hp:p < s.length) (hn:s.length - p≤n):ACalls Tryz.prog 83 [.ptr 0 0] (rS s p tw) (outV s p (zfD (pvF n) tw p (s.drop p))):=by
 have h:=lrows_ok n s hs hV p tw hp hn
 rw [show zaF []=[⟨4,0,[],0⟩] from rfl] at h
 unfold rS
 refine ACalls.body T_ok Tryz.func83 (by kernel_rfl) rfl Tryz.ntmps83 (congrArg Array.toList Tryz.results83) ?_
 refine aQ51 ?_
 have hdd:(s.drop p).drop (inW (s.drop p))=s.drop (p+inW (s.drop p)):=by rw [List.drop_drop]
 cases hx:zbl 93 (zd5 (pvF n)) ((s.drop p).length+1) true ([],tw) (p+inW (s.drop p)) (s.drop (p+inW (s.drop p))) with
 | error k =>
  rw [hx] at h
  unfold zgo LA at h
  dsimp only at h
  refine ACalls.frame ([0,1,2,3]) (h) rfl (by decide) (by simp [LM1,zah,zad,renL,AV.ren,AEnd.ren,zaa,zae,List.getElem?_cons_zero,List.getElem?_cons_succ]) (by first | rfl | simp [LM1,zah,zad,renL,AV.ren,AEnd.ren,zaa,zae,List.getElem?_cons_zero,List.getElem?_cons_succ]) ?_
  rintro _ _ ⟨rfl,rfl⟩
  refine⟨.pan (flt ((p+inW (s.drop p)+k:Nat):Int) 2),[.dead,.dead,.dead,.dead],(aQ7 ([0,1,2,3])),(aQ14 ([0,1,2,3])),?_⟩
  refine aQ51 ?_
  rw [show p+inW (s.drop p)+k=p+(inW (s.drop p)+k) by omega]
  refine zbR ?_
  rw [zfD,hdd,hx]
 | ok x =>
  rw [hx] at h
  obtain⟨⟨ks,tw'⟩,c⟩:=x
  unfold zgo at h
  dsimp only at h
  have fin:outV s p (zfD (pvF n) tw p (s.drop p)) (.ret (slN (zaF ks))) (rS s ((p+inW (s.drop p)+c:Nat):Int) tw'):=by
   rw [zfD,hdd,hx]
   refine⟨rfl,?_⟩
   dsimp only
   rw [show p+inW (s.drop p)+c=p+(inW (s.drop p)+c) by omega]
  by_cases hk:ks.length=0
  ·rw [if_pos hk] at h
   unfold LA at h
   refine ACalls.frame ([0,1,2,3]) (h) rfl (by decide) (by simp [LM1,zah,zad,renL,AV.ren,AEnd.ren,zaa,zae,List.getElem?_cons_zero,List.getElem?_cons_succ]) (by first | rfl | simp [LM1,zah,zad,renL,AV.ren,AEnd.ren,zaa,zae,List.getElem?_cons_zero,List.getElem?_cons_succ]) ?_
   rintro _ _ ⟨rfl,rfl⟩
   refine⟨.ret (.tup []),[.rw (rC s ((p+inW (s.drop p)+c:Nat):Int) tw'),.rw [.ptr 0 0],.rw ((zaF ks).flatMap nC),.rw [.ref 2 0 (zaF ks).length 4]],(aQ7 ([0,1,2,3])),(aQ14 ([0,1,2,3])),?_⟩
   refine aQ51 ?_
   exact zhr (j:=1) (l:=zaF ks) rfl rfl fin
  ·rw [if_neg hk] at h
   unfold LA LB at h
   refine ACalls.frame ([0,1,2,3]) (h) rfl (by decide) (by simp [LM1,zah,zad,renL,AV.ren,AEnd.ren,zaa,zae,List.getElem?_cons_zero,List.getElem?_cons_succ]) (by first | rfl | simp [LM1,zah,zad,renL,AV.ren,AEnd.ren,zaa,zae,List.getElem?_cons_zero,List.getElem?_cons_succ]) ?_
   rintro _ _ ⟨rfl,rfl⟩
   refine⟨.ret (.tup []),[.rw (rC s ((p+inW (s.drop p)+c:Nat):Int) tw'),.rw [.ptr 0 0],.dead,.rw [.ref 4 0 (zaF ks).length 4],.rw ((zaF ks).flatMap nC)],(aQ7 ([0,1,2,3,4])),(aQ14 ([0,1,2,3,4])),?_⟩
   refine aQ51 ?_
   exact zhr (j:=3) (l:=zaF ks) rfl rfl fin
end Go.Proofs.YtnghkomgefieoaaGreatDoor
end

