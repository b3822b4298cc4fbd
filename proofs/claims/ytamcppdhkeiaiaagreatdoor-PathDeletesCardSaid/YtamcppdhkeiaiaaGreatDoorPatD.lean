/-
  Objects, values, whole texts, errors, what the parser tells. No condition.
-/
import Derived.Test.YtamcppdhkeiaiaaGreatDoorPatC
set_option linter.unusedSimpArgs false
set_option linter.unusedVariables false
set_option linter.unusedSectionVars false
section
namespace Go.Proofs.YtamcppdhkeiaiaaGreatDoor
open Go Go.Eng
set_option linter.defProp false in
def LB13:=And.intro @zdq (And.intro @zdr (@zca))
theorem stepO_zs {V:PV} {g g':GO} {p c:Nat} {l:List UInt8} (h:zdp V g p l=.ok (g',c)) (hz:g.2.2.length=(ksU g.1).length):g'.2.2.length=(ksU g'.1).length:=by
 rw [zdp] at h
 split at h
 ·cases h
 ·rename_i key c0 _
  dsimp only at h
  split at h
  ·split at h
   ·cases h
   ·injection h with h
    injection h with h1 h2
    subst h1
    dsimp only
    rw [ksU_app,zjW,zjV]
    dsimp only
    by_cases hm:key∈ksU g.1
    ·rw [if_pos hm,if_pos hm,List.length_set]
     exact hz
    ·rw [if_neg hm,if_neg hm]
     simp [hz]
  ·cases h
def OS (s:List UInt8) (p:Nat) (g:GO):zad:=if g.1.length=0 then OA s p g.2.1 else OB s p g.2.1 g.1 g.2.2
def zkD (s:List UInt8) (p:Nat) (x:Except Nat (GO × Nat)):AEnd→zad→Prop:=fun y σ=>match x with
 | .ok x=>y=.ret (.tup [])∧σ=OS s (p+x.2) x.1
 | .error k=>y=.pan (flt ((p+k:Nat):Int) 2)∧σ=dead5
theorem orows_ok (n:Nat) (s:List UInt8) (hs:s.length≤100000000) (hV:zkC n s) (p:Nat) (tw:Int) (hp:p < s.length) (hn:s.length - p≤n):ACalls Tryz.prog 106 [.ptr 0 0,u8 125,.fn (.func 108) [] [.ptr 1 0,.ptr 4 0,.ptr 2 0]] (OA s p tw) (zkD s (p+inW (s.drop p)) (zda 125 (zdp (pvF n)) ((s.drop p).length+1) true ([],tw,[]) (p+inW (s.drop p)) (s.drop (p+inW (s.drop p))))):=by
 have hin:inW (s.drop p)=1+zaD (s.drop (p+1)):=by rw [inW,List.drop_drop]
 have hb:=zbx (s.drop (p+1))
 rw [List.length_drop] at hb
 have hsk:=zcW s (p+1) tw (by omega) (by omega)
 rw [show p+1+zaD (s.drop (p+1))=p+inW (s.drop p) by omega] at hsk
 unfold rS at hsk
 obtain⟨p',hp'⟩:∃ p',p'=p+inW (s.drop p):=⟨_,rfl⟩
 rw [← hp'] at hsk ⊢
 unfold OA
 refine ACalls.body T_ok Tryz.func106 (by kernel_rfl) rfl Tryz.ntmps106 (congrArg Array.toList Tryz.results106) ?_
 try simp -implicitDefEqProofs only [LM5,LB13,eq_self,zaa,zab,Nat.zero_mul,TB,SB,Int.reduceToNat,Nat.reduceAdd,Nat.reduceEqDiff,Nat.reduceLT,Nat.reduceMod,Nat.reducePow,Nat.reduceSub,if_true,reduceIte]
 refine⟨by unfold inI;omega,?_⟩
 refine ACalls.frame ([0]) (hsk) rfl (by decide) (by simp [LM1,zah,zae,renL,AV.ren,AEnd.ren,zaf,mbF.fren,zac,List.getElem?_cons_zero,List.getElem?_cons_succ]) (by first | rfl | simp [LM1,zah,zae,renL,AV.ren,AEnd.ren,zaf,mbF.fren,zac,List.getElem?_cons_zero,List.getElem?_cons_succ]) ?_
 rintro _ _ ⟨rfl,rfl⟩
 refine⟨.ret (.tup []),[.rw (rC s p' tw),.rw [.ptr 0 0],.rw [nilS],mpS [] [],.rw [.mpt 3]],(by show zae _ _ ([0,1,1,1,1]) ([0,1,1,1,1]) 0 _;simp [LM1,zah,zae,renL,AV.ren,AEnd.ren,zaf,mbF.fren,zac,List.getElem?_cons_zero,List.getElem?_cons_succ]),(by show AEnd.ren ([0,1,1,1,1]) _ _;first | rfl | simp [LM1,zah,zae,renL,AV.ren,AEnd.ren,zaf,mbF.fren,zac,List.getElem?_cons_zero,List.getElem?_cons_succ]),?_⟩
 try simp -implicitDefEqProofs only [LM5,LB13,eq_self,zaa,zab,Nat.zero_mul,TB,SB,Int.reduceToNat,Nat.reduceAdd,Nat.reduceEqDiff,Nat.reduceLT,Nat.reduceMod,Nat.reducePow,Nat.reduceSub,if_true,reduceIte]
 rw [zbe]
 refine⟨Nat × Bool × GO × Nat,fun x=>p'≤x.2.2.2∧x.2.2.2≤s.length∧s.length - x.2.2.2 < x.1∧(x.2.1=true→x.2.2.1.1=[]∧x.2.2.1.2.2=[])∧x.2.2.1.1.length≤x.2.2.2∧(x.2.1=decide (x.2.2.1.1.length=0))∧x.2.2.1.2.2.length=(ksU x.2.2.1.1).length∧zda 125 (zdp (pvF n)) ((s.drop p).length+1) true ([],tw,[]) p' (s.drop p')=shE (x.2.2.2 - p') (zda 125 (zdp (pvF n)) x.1 x.2.1 x.2.2.1 x.2.2.2 (s.drop x.2.2.2)),fun x=>[.ptr 0 0,u8 125,.fn (.func 108) [] [.ptr 1 0,.ptr 4 0,.ptr 2 0],.bot,.bot,.bot,bl x.2.1,.bot,.bot,.bot,.bot,.bot,.bot,.bot,.bot,.bot,.bot,.bot,.bot,.bot,.bot,.bot,.bot,.bot,.bot,.bot,.bot,.bot,.bot,.bot,.bot,.bot,.bot,.bot,.bot,.bot,.bot],fun x=>if x.2.1 then OA s (x.2.2.2:Int) x.2.2.1.2.1 else OB s (x.2.2.2:Int) x.2.2.1.2.1 x.2.2.1.1 x.2.2.1.2.2,fun x=>x.1,((s.drop p).length+1,true,([],tw,[]),p'),⟨Nat.le_refl _,by dsimp only;omega,by dsimp only;rw [List.length_drop];omega,fun _=>⟨rfl,rfl⟩,Nat.zero_le _,rfl,rfl,by simp only [Nat.sub_self,shE_0]⟩,zaj (q:=[0,1,2,3,4]) rfl rfl (by decide) ?_ ?_,?_⟩
 ·try simp only [FB,AV.ren,Nat.reduceAdd,reduceCtorEq]
  rfl
 ·simp only [if_true,OA]
  simp [zah,zaG,mbF.fren,zbo,zgW,zaf,renL,AV.ren]
 ·rintro⟨i,first,⟨ms,tw',zs⟩,q⟩ ⟨i1,i2,i3,i4,i5,i7,i8,i6⟩
  dsimp only at i1 i2 i3 i4 i5 i7 i8 i6 ⊢
  obtain⟨i,rfl⟩:∃ j,i=j+1:=⟨i - 1,by omega⟩
  have his:=is_ok s q tw' 125 i2
  unfold rS at his
  have hisAt:isAt s q 125=decide ((s.drop q).head?=some 125):=rfl
  have hq0:1≤p':=by omega
  cases first with
  | true =>
   obtain⟨rfl,rfl⟩:=i4 rfl
   rw [if_pos rfl]
   unfold OA
   try simp -implicitDefEqProofs only [LM5,LB13,eq_self,zaa,zab,Nat.zero_mul,TB,SB,Int.reduceToNat,Nat.reduceAdd,Nat.reduceEqDiff,Nat.reduceLT,Nat.reduceMod,Nat.reducePow,Nat.reduceSub,if_true,reduceIte]
   by_cases h93:(s.drop q).head?=some 125
   ·rw [hisAt,decide_eq_true h93] at his
    refine ACalls.frame ([0]) (his) rfl (by decide) (by simp [LM1,zah,zae,renL,AV.ren,AEnd.ren,zaf,mbF.fren,zac,List.getElem?_cons_zero,List.getElem?_cons_succ]) (by first | rfl | simp [LM1,zah,zae,renL,AV.ren,AEnd.ren,zaf,mbF.fren,zac,List.getElem?_cons_zero,List.getElem?_cons_succ]) ?_
    rintro _ _ ⟨rfl,rfl⟩
    refine⟨.ret (bl true),[.rw (rC s q tw'),.rw [.ptr 0 0],.rw [nilS],mpS [] [],.rw [.mpt 3]],(by show zae _ _ ([0,1,1,1,1]) ([0,1,1,1,1]) 0 _;simp [LM1,zah,zae,renL,AV.ren,AEnd.ren,zaf,mbF.fren,zac,List.getElem?_cons_zero,List.getElem?_cons_succ]),(by show AEnd.ren ([0,1,1,1,1]) _ _;first | rfl | simp [LM1,zah,zae,renL,AV.ren,AEnd.ren,zaf,mbF.fren,zac,List.getElem?_cons_zero,List.getElem?_cons_succ]),?_⟩
    try simp -implicitDefEqProofs only [LM5,LB13,eq_self,zaa,zab,Nat.zero_mul,TB,SB,Int.reduceToNat,Nat.reduceAdd,Nat.reduceEqDiff,Nat.reduceLT,Nat.reduceMod,Nat.reducePow,Nat.reduceSub,if_true,reduceIte]
    refine⟨by unfold inI;omega,zaH ?_⟩
    unfold zkD
    rw [i6,zgw h93]
    refine⟨rfl,?_⟩
    simp only [shE,OS]
    rw [if_pos (of_decide_eq_true i7.symm)]
    rw [OA,show p'+(q - p'+1)=q+1 by omega]
    rfl
   rw [hisAt,decide_eq_false h93] at his
   refine ACalls.frame ([0]) (his) rfl (by decide) (by simp [LM1,zah,zae,renL,AV.ren,AEnd.ren,zaf,mbF.fren,zac,List.getElem?_cons_zero,List.getElem?_cons_succ]) (by first | rfl | simp [LM1,zah,zae,renL,AV.ren,AEnd.ren,zaf,mbF.fren,zac,List.getElem?_cons_zero,List.getElem?_cons_succ]) ?_
   rintro _ _ ⟨rfl,rfl⟩
   refine⟨.ret (bl false),[.rw (rC s q tw'),.rw [.ptr 0 0],.rw [nilS],mpS [] [],.rw [.mpt 3]],(by show zae _ _ ([0,1,1,1,1]) ([0,1,1,1,1]) 0 _;simp [LM1,zah,zae,renL,AV.ren,AEnd.ren,zaf,mbF.fren,zac,List.getElem?_cons_zero,List.getElem?_cons_succ]),(by show AEnd.ren ([0,1,1,1,1]) _ _;first | rfl | simp [LM1,zah,zae,renL,AV.ren,AEnd.ren,zaf,mbF.fren,zac,List.getElem?_cons_zero,List.getElem?_cons_succ]),?_⟩
   try simp -implicitDefEqProofs only [LM5,LB13,eq_self,zaa,zab,Nat.zero_mul,TB,SB,Int.reduceToNat,Nat.reduceAdd,Nat.reduceEqDiff,Nat.reduceLT,Nat.reduceMod,Nat.reducePow,Nat.reduceSub,if_true,reduceIte]
   obtain⟨r,hr⟩:∃ r,r=q+0:=⟨_,rfl⟩
   have hrl:r≤s.length:=by omega
   obtain rfl:r=q:=by omega
   have hl:=loneA_ok n s (by omega) hV r tw' hrl (by omega)
   have hg:=zen (zcG n) ([],tw',[]) r (s.drop r)
   unfold ziv OA dead5 at hl
   have hdr:(s.drop r).drop 0=s.drop r:=rfl
   cases hx:zdp (pvF n) ([],tw',[]) r (s.drop r) with
   | error k =>
    rw [hx] at hl
    refine ACalls.frame ([0,1,2,3,4]) (hl) rfl (by decide) (by simp [LM1,zah,zae,renL,AV.ren,AEnd.ren,zaf,mbF.fren,zac,List.getElem?_cons_zero,List.getElem?_cons_succ]) (by first | rfl | simp [LM1,zah,zae,renL,AV.ren,AEnd.ren,zaf,mbF.fren,zac,List.getElem?_cons_zero,List.getElem?_cons_succ]) ?_
    rintro _ _ ⟨rfl,rfl⟩
    refine⟨.pan (flt ((r+k:Nat):Int) 2),[.dead,.dead,.dead,.dead,.dead],(by show zae _ _ ([0,1,2,3,4]) ([0,1,2,3,4]) 0 _;simp [LM1,zah,zae,renL,AV.ren,AEnd.ren,zaf,mbF.fren,zac,List.getElem?_cons_zero,List.getElem?_cons_succ]),(by show AEnd.ren ([0,1,2,3,4]) _ _;first | rfl | simp [LM1,zah,zae,renL,AV.ren,AEnd.ren,zaf,mbF.fren,zac,List.getElem?_cons_zero,List.getElem?_cons_succ]),?_⟩
    try simp -implicitDefEqProofs only [LM5,LB13,eq_self,zaa,zab,Nat.zero_mul,TB,SB,Int.reduceToNat,Nat.reduceAdd,Nat.reduceEqDiff,Nat.reduceLT,Nat.reduceMod,Nat.reducePow,Nat.reduceSub,if_true,reduceIte]
    refine zbQ (za0 _ _ _) ?_
    unfold zkD
    rw [i6,zgv (w:=0) (k:=k) h93 rfl rfl (by rw [hdr];exact hx)]
    refine⟨?_,rfl⟩
    rw [show p'+(r - p'+(0+k))=r+k by omega]
   | ok x =>
    rw [hx] at hl hg
    obtain⟨⟨ms2,tw2,zs2⟩,c⟩:=x
    have hz2:=stepO_zs hx rfl
    simp only [zhg,List.length_drop] at hg
    dsimp only [OB,OC] at hl hz2
    refine ACalls.frame ([0,1,2,3,4]) (hl) rfl (by decide) (by simp [LM1,zah,zae,renL,AV.ren,AEnd.ren,zaf,mbF.fren,zac,List.getElem?_cons_zero,List.getElem?_cons_succ]) (by first | rfl | simp [LM1,zah,zae,renL,AV.ren,AEnd.ren,zaf,mbF.fren,zac,List.getElem?_cons_zero,List.getElem?_cons_succ]) ?_
    rintro _ _ ⟨rfl,rfl⟩
    refine⟨.ret (.tup []),[.rw (rC s ((r+c:Nat):Int) tw2),.rw [.ptr 0 0],.rw [.ref 5 0 ms2.length 2],mpS (ksU ms2) zs2,.rw [.mpt 3],.rw (ms2.flatMap mbC)],(by show zae _ _ ([0,1,2,3,4,5]) ([0,1,2,3,4,5]) 0 _;simp [LM1,zah,zae,renL,AV.ren,AEnd.ren,zaf,mbF.fren,zac,List.getElem?_cons_zero,List.getElem?_cons_succ]),(by show AEnd.ren ([0,1,2,3,4,5]) _ _;first | rfl | simp [LM1,zah,zae,renL,AV.ren,AEnd.ren,zaf,mbF.fren,zac,List.getElem?_cons_zero,List.getElem?_cons_succ]),?_⟩
    try simp -implicitDefEqProofs only [LM5,LB13,eq_self,zaa,zab,Nat.zero_mul,TB,SB,Int.reduceToNat,Nat.reduceAdd,Nat.reduceEqDiff,Nat.reduceLT,Nat.reduceMod,Nat.reducePow,Nat.reduceSub,if_true,reduceIte]
    have hsk3:=zcW s (r+c) tw2 (by omega) (by omega)
    have hb3:=zbx (s.drop (r+c))
    rw [List.length_drop] at hb3
    unfold rS at hsk3
    refine ACalls.frame ([0]) (hsk3) rfl (by decide) (by simp [LM1,zah,zae,renL,AV.ren,AEnd.ren,zaf,mbF.fren,zac,List.getElem?_cons_zero,List.getElem?_cons_succ]) (by first | rfl | simp [LM1,zah,zae,renL,AV.ren,AEnd.ren,zaf,mbF.fren,zac,List.getElem?_cons_zero,List.getElem?_cons_succ]) ?_
    rintro _ _ ⟨rfl,rfl⟩
    refine⟨.ret (.tup []),[.rw (rC s ((r+c+zaD (s.drop (r+c)):Nat):Int) tw2),.rw [.ptr 0 0],.rw [.ref 5 0 ms2.length 2],mpS (ksU ms2) zs2,.rw [.mpt 3],.rw (ms2.flatMap mbC)],(by show zae _ _ ([0,1,1,1,1,1]) ([0,1,1,1,1,1]) 0 _;simp [LM1,zah,zae,renL,AV.ren,AEnd.ren,zaf,mbF.fren,zac,List.getElem?_cons_zero,List.getElem?_cons_succ]),(by show AEnd.ren ([0,1,1,1,1,1]) _ _;first | rfl | simp [LM1,zah,zae,renL,AV.ren,AEnd.ren,zaf,mbF.fren,zac,List.getElem?_cons_zero,List.getElem?_cons_succ]),?_⟩
    try simp -implicitDefEqProofs only [LM5,LB13,eq_self,zaa,zab,Nat.zero_mul,TB,SB,Int.reduceToNat,Nat.reduceAdd,Nat.reduceEqDiff,Nat.reduceLT,Nat.reduceMod,Nat.reducePow,Nat.reduceSub,if_true,reduceIte]
    rw [zal]
    refine⟨(i,false,(ms2,tw2,zs2),r+c+zaD (s.drop (r+c))),⟨by dsimp only;omega,by dsimp only;omega,by dsimp only;omega,(by intro h;dsimp only at h;cases h),by dsimp only at hg ⊢;omega,(decide_eq_false (by dsimp only at hg ⊢;omega)).symm,hz2,?_⟩,(by show i < i+1;omega),?_⟩
    ·rw [i6,zeI (w:=0) (c:=c) (g':=(ms2,tw2,zs2)) h93 rfl rfl (by rw [hdr];exact hx),zj2]
     rw [List.drop_drop,Nat.zero_add,List.drop_drop,show r+(c+zaD (s.drop (r+c)))=r+c+zaD (s.drop (r+c)) by omega,show r - p'+(c+zaD (s.drop (r+c)))=r+c+zaD (s.drop (r+c)) - p' by omega]
    ·dsimp only
     rw [if_neg (by decide)]
     try unfold OB
     refine zaj (q:=[0,1,2,3,4,5]) rfl rfl (by decide) ?_ ?_
     ·try simp only [FB,AV.ren,Nat.reduceAdd,reduceCtorEq]
      try rfl
     ·simp [zah,zaG,mbF.fren,zbo,zgW,zaf,renL,AV.ren]
  | false =>
   rw [if_neg (by decide)]
   unfold OB
   try simp -implicitDefEqProofs only [LM5,LB13,eq_self,zaa,zab,Nat.zero_mul,TB,SB,Int.reduceToNat,Nat.reduceAdd,Nat.reduceEqDiff,Nat.reduceLT,Nat.reduceMod,Nat.reducePow,Nat.reduceSub,if_true,reduceIte]
   by_cases h93:(s.drop q).head?=some 125
   ·rw [hisAt,decide_eq_true h93] at his
    refine ACalls.frame ([0]) (his) rfl (by decide) (by simp [LM1,zah,zae,renL,AV.ren,AEnd.ren,zaf,mbF.fren,zac,List.getElem?_cons_zero,List.getElem?_cons_succ]) (by first | rfl | simp [LM1,zah,zae,renL,AV.ren,AEnd.ren,zaf,mbF.fren,zac,List.getElem?_cons_zero,List.getElem?_cons_succ]) ?_
    rintro _ _ ⟨rfl,rfl⟩
    refine⟨.ret (bl true),[.rw (rC s q tw'),.rw [.ptr 0 0],.rw [.ref 5 0 ms.length 2],mpS (ksU ms) zs,.rw [.mpt 3],.rw (ms.flatMap mbC)],(by show zae _ _ ([0,1,1,1,1,1]) ([0,1,1,1,1,1]) 0 _;simp [LM1,zah,zae,renL,AV.ren,AEnd.ren,zaf,mbF.fren,zac,List.getElem?_cons_zero,List.getElem?_cons_succ]),(by show AEnd.ren ([0,1,1,1,1,1]) _ _;first | rfl | simp [LM1,zah,zae,renL,AV.ren,AEnd.ren,zaf,mbF.fren,zac,List.getElem?_cons_zero,List.getElem?_cons_succ]),?_⟩
    try simp -implicitDefEqProofs only [LM5,LB13,eq_self,zaa,zab,Nat.zero_mul,TB,SB,Int.reduceToNat,Nat.reduceAdd,Nat.reduceEqDiff,Nat.reduceLT,Nat.reduceMod,Nat.reducePow,Nat.reduceSub,if_true,reduceIte]
    refine⟨by unfold inI;omega,zaH ?_⟩
    unfold zkD
    rw [i6,zgw h93]
    refine⟨rfl,?_⟩
    simp only [shE,OS]
    rw [if_neg (of_decide_eq_false i7.symm)]
    rw [OB,show p'+(q - p'+1)=q+1 by omega]
    rfl
   rw [hisAt,decide_eq_false h93] at his
   refine ACalls.frame ([0]) (his) rfl (by decide) (by simp [LM1,zah,zae,renL,AV.ren,AEnd.ren,zaf,mbF.fren,zac,List.getElem?_cons_zero,List.getElem?_cons_succ]) (by first | rfl | simp [LM1,zah,zae,renL,AV.ren,AEnd.ren,zaf,mbF.fren,zac,List.getElem?_cons_zero,List.getElem?_cons_succ]) ?_
   rintro _ _ ⟨rfl,rfl⟩
   refine⟨.ret (bl false),[.rw (rC s q tw'),.rw [.ptr 0 0],.rw [.ref 5 0 ms.length 2],mpS (ksU ms) zs,.rw [.mpt 3],.rw (ms.flatMap mbC)],(by show zae _ _ ([0,1,1,1,1,1]) ([0,1,1,1,1,1]) 0 _;simp [LM1,zah,zae,renL,AV.ren,AEnd.ren,zaf,mbF.fren,zac,List.getElem?_cons_zero,List.getElem?_cons_succ]),(by show AEnd.ren ([0,1,1,1,1,1]) _ _;first | rfl | simp [LM1,zah,zae,renL,AV.ren,AEnd.ren,zaf,mbF.fren,zac,List.getElem?_cons_zero,List.getElem?_cons_succ]),?_⟩
   try simp -implicitDefEqProofs only [LM5,LB13,eq_self,zaa,zab,Nat.zero_mul,TB,SB,Int.reduceToNat,Nat.reduceAdd,Nat.reduceEqDiff,Nat.reduceLT,Nat.reduceMod,Nat.reducePow,Nat.reduceSub,if_true,reduceIte]
   have hwt:=ziq s q tw' 44 i2 (by omega)
   unfold zkB at hwt
   unfold rS at hwt
   have hisAt2:isAt s q 44=decide ((s.drop q).head?=some 44):=rfl
   by_cases h44:(s.drop q).head?=some 44
   rotate_left
   ·rw [hisAt2,decide_eq_false h44] at hwt
    refine ACalls.frame ([0]) (hwt) rfl (by decide) (by simp [LM1,zah,zae,renL,AV.ren,AEnd.ren,zaf,mbF.fren,zac,List.getElem?_cons_zero,List.getElem?_cons_succ]) (by first | rfl | simp [LM1,zah,zae,renL,AV.ren,AEnd.ren,zaf,mbF.fren,zac,List.getElem?_cons_zero,List.getElem?_cons_succ]) ?_
    rintro _ _ ⟨rfl,rfl⟩
    refine⟨.pan (flt q 2),[.dead,.rw [.ptr 0 0],.rw [.ref 5 0 ms.length 2],mpS (ksU ms) zs,.rw [.mpt 3],.rw (ms.flatMap mbC)],(by show zae _ _ ([0,1,1,1,1,1]) ([0,1,1,1,1,1]) 0 _;simp [LM1,zah,zae,renL,AV.ren,AEnd.ren,zaf,mbF.fren,zac,List.getElem?_cons_zero,List.getElem?_cons_succ]),(by show AEnd.ren ([0,1,1,1,1,1]) _ _;first | rfl | simp [LM1,zah,zae,renL,AV.ren,AEnd.ren,zaf,mbF.fren,zac,List.getElem?_cons_zero,List.getElem?_cons_succ]),?_⟩
    try simp -implicitDefEqProofs only [LM5,LB13,eq_self,zaa,zab,Nat.zero_mul,TB,SB,Int.reduceToNat,Nat.reduceAdd,Nat.reduceEqDiff,Nat.reduceLT,Nat.reduceMod,Nat.reducePow,Nat.reduceSub,if_true,reduceIte]
    refine zbQ (za0 _ _ _) ?_
    unfold zkD
    rw [i6,rowsG_no h93 h44]
    refine⟨?_,rfl⟩
    rw [show p'+(q - p'+0)=q by omega]
   have hql:q < s.length:=by
    rcases Nat.lt_or_ge q s.length with h | h
    ·exact h
    ·rw [zcy h] at h44;cases h44
   rw [hisAt2,decide_eq_true h44] at hwt
   refine ACalls.frame ([0]) (hwt) rfl (by decide) (by simp [LM1,zah,zae,renL,AV.ren,AEnd.ren,zaf,mbF.fren,zac,List.getElem?_cons_zero,List.getElem?_cons_succ]) (by first | rfl | simp [LM1,zah,zae,renL,AV.ren,AEnd.ren,zaf,mbF.fren,zac,List.getElem?_cons_zero,List.getElem?_cons_succ]) ?_
   rintro _ _ ⟨rfl,rfl⟩
   refine⟨.ret (.tup []),[.rw (rC s ((q+1:Nat):Int) tw'),.rw [.ptr 0 0],.rw [.ref 5 0 ms.length 2],mpS (ksU ms) zs,.rw [.mpt 3],.rw (ms.flatMap mbC)],(by show zae _ _ ([0,1,1,1,1,1]) ([0,1,1,1,1,1]) 0 _;simp [LM1,zah,zae,renL,AV.ren,AEnd.ren,zaf,mbF.fren,zac,List.getElem?_cons_zero,List.getElem?_cons_succ]),(by show AEnd.ren ([0,1,1,1,1,1]) _ _;first | rfl | simp [LM1,zah,zae,renL,AV.ren,AEnd.ren,zaf,mbF.fren,zac,List.getElem?_cons_zero,List.getElem?_cons_succ]),?_⟩
   try simp -implicitDefEqProofs only [LM5,LB13,eq_self,zaa,zab,Nat.zero_mul,TB,SB,Int.reduceToNat,Nat.reduceAdd,Nat.reduceEqDiff,Nat.reduceLT,Nat.reduceMod,Nat.reducePow,Nat.reduceSub,if_true,reduceIte]
   have hsk2:=zcW s (q+1) tw' (by omega) (by omega)
   have hb2:=zbx (s.drop (q+1))
   rw [List.length_drop] at hb2
   have hwe:1+zaD ((s.drop q).drop 1)=1+zaD (s.drop (q+1)):=by rw [List.drop_drop]
   obtain⟨w,hw⟩:∃ w,w=1+zaD (s.drop (q+1)):=⟨_,rfl⟩
   obtain⟨r,hr⟩:∃ r,r=q+w:=⟨_,rfl⟩
   have hrl:r≤s.length:=by omega
   rw [show q+1+zaD (s.drop (q+1))=r by omega] at hsk2
   unfold rS at hsk2
   refine ACalls.frame ([0]) (hsk2) rfl (by decide) (by simp [LM1,zah,zae,renL,AV.ren,AEnd.ren,zaf,mbF.fren,zac,List.getElem?_cons_zero,List.getElem?_cons_succ]) (by first | rfl | simp [LM1,zah,zae,renL,AV.ren,AEnd.ren,zaf,mbF.fren,zac,List.getElem?_cons_zero,List.getElem?_cons_succ]) ?_
   rintro _ _ ⟨rfl,rfl⟩
   refine⟨.ret (.tup []),[.rw (rC s r tw'),.rw [.ptr 0 0],.rw [.ref 5 0 ms.length 2],mpS (ksU ms) zs,.rw [.mpt 3],.rw (ms.flatMap mbC)],(by show zae _ _ ([0,1,1,1,1,1]) ([0,1,1,1,1,1]) 0 _;simp [LM1,zah,zae,renL,AV.ren,AEnd.ren,zaf,mbF.fren,zac,List.getElem?_cons_zero,List.getElem?_cons_succ]),(by show AEnd.ren ([0,1,1,1,1,1]) _ _;first | rfl | simp [LM1,zah,zae,renL,AV.ren,AEnd.ren,zaf,mbF.fren,zac,List.getElem?_cons_zero,List.getElem?_cons_succ]),?_⟩
   try simp -implicitDefEqProofs only [LM5,LB13,eq_self,zaa,zab,Nat.zero_mul,TB,SB,Int.reduceToNat,Nat.reduceAdd,Nat.reduceEqDiff,Nat.reduceLT,Nat.reduceMod,Nat.reducePow,Nat.reduceSub,if_true,reduceIte]
   have hl:=loneB_ok n s (by omega) hV r tw' hrl (by omega) ms zs i8 (by omega)
   have hg:=zen (zcG n) (ms,tw',zs) r (s.drop r)
   unfold ziw OB dead6 at hl
   have hdr:(s.drop q).drop w=s.drop r:=by rw [List.drop_drop,hr]
   cases hx:zdp (pvF n) (ms,tw',zs) r (s.drop r) with
   | error k =>
    rw [hx] at hl
    refine ACalls.frame ([0,1,2,3,4,5]) (hl) rfl (by decide) (by simp [LM1,zah,zae,renL,AV.ren,AEnd.ren,zaf,mbF.fren,zac,List.getElem?_cons_zero,List.getElem?_cons_succ]) (by first | rfl | simp [LM1,zah,zae,renL,AV.ren,AEnd.ren,zaf,mbF.fren,zac,List.getElem?_cons_zero,List.getElem?_cons_succ]) ?_
    rintro _ _ ⟨rfl,rfl⟩
    refine⟨.pan (flt ((r+k:Nat):Int) 2),[.dead,.dead,.dead,.dead,.dead,.dead],(by show zae _ _ ([0,1,2,3,4,5]) ([0,1,2,3,4,5]) 0 _;simp [LM1,zah,zae,renL,AV.ren,AEnd.ren,zaf,mbF.fren,zac,List.getElem?_cons_zero,List.getElem?_cons_succ]),(by show AEnd.ren ([0,1,2,3,4,5]) _ _;first | rfl | simp [LM1,zah,zae,renL,AV.ren,AEnd.ren,zaf,mbF.fren,zac,List.getElem?_cons_zero,List.getElem?_cons_succ]),?_⟩
    try simp -implicitDefEqProofs only [LM5,LB13,eq_self,zaa,zab,Nat.zero_mul,TB,SB,Int.reduceToNat,Nat.reduceAdd,Nat.reduceEqDiff,Nat.reduceLT,Nat.reduceMod,Nat.reducePow,Nat.reduceSub,if_true,reduceIte]
    refine zbQ (za0 _ _ _) ?_
    unfold zkD
    rw [i6,zgv (w:=w) (k:=k) h93 (by simp [h44]) (by rw [hw,← hwe];rfl) (by rw [hdr];rw [← hr];exact hx)]
    refine⟨?_,rfl⟩
    rw [show p'+(q - p'+(w+k))=r+k by omega]
   | ok x =>
    rw [hx] at hl hg
    obtain⟨⟨ms2,tw2,zs2⟩,c⟩:=x
    have hz2:=stepO_zs hx i8
    simp only [zhg,List.length_drop] at hg
    dsimp only [OB,OC] at hl hz2
    refine ACalls.frame ([0,1,2,3,4,5]) (hl) rfl (by decide) (by simp [LM1,zah,zae,renL,AV.ren,AEnd.ren,zaf,mbF.fren,zac,List.getElem?_cons_zero,List.getElem?_cons_succ]) (by first | rfl | simp [LM1,zah,zae,renL,AV.ren,AEnd.ren,zaf,mbF.fren,zac,List.getElem?_cons_zero,List.getElem?_cons_succ]) ?_
    rintro _ _ ⟨rfl,rfl⟩
    refine⟨.ret (.tup []),[.rw (rC s ((r+c:Nat):Int) tw2),.rw [.ptr 0 0],.rw [.ref 6 0 ms2.length 2],mpS (ksU ms2) zs2,.rw [.mpt 3],.dead,.rw (ms2.flatMap mbC)],(by show zae _ _ ([0,1,2,3,4,5,6]) ([0,1,2,3,4,5,6]) 0 _;simp [LM1,zah,zae,renL,AV.ren,AEnd.ren,zaf,mbF.fren,zac,List.getElem?_cons_zero,List.getElem?_cons_succ]),(by show AEnd.ren ([0,1,2,3,4,5,6]) _ _;first | rfl | simp [LM1,zah,zae,renL,AV.ren,AEnd.ren,zaf,mbF.fren,zac,List.getElem?_cons_zero,List.getElem?_cons_succ]),?_⟩
    try simp -implicitDefEqProofs only [LM5,LB13,eq_self,zaa,zab,Nat.zero_mul,TB,SB,Int.reduceToNat,Nat.reduceAdd,Nat.reduceEqDiff,Nat.reduceLT,Nat.reduceMod,Nat.reducePow,Nat.reduceSub,if_true,reduceIte]
    have hsk3:=zcW s (r+c) tw2 (by omega) (by omega)
    have hb3:=zbx (s.drop (r+c))
    rw [List.length_drop] at hb3
    unfold rS at hsk3
    refine ACalls.frame ([0]) (hsk3) rfl (by decide) (by simp [LM1,zah,zae,renL,AV.ren,AEnd.ren,zaf,mbF.fren,zac,List.getElem?_cons_zero,List.getElem?_cons_succ]) (by first | rfl | simp [LM1,zah,zae,renL,AV.ren,AEnd.ren,zaf,mbF.fren,zac,List.getElem?_cons_zero,List.getElem?_cons_succ]) ?_
    rintro _ _ ⟨rfl,rfl⟩
    refine⟨.ret (.tup []),[.rw (rC s ((r+c+zaD (s.drop (r+c)):Nat):Int) tw2),.rw [.ptr 0 0],.rw [.ref 6 0 ms2.length 2],mpS (ksU ms2) zs2,.rw [.mpt 3],.dead,.rw (ms2.flatMap mbC)],(by show zae _ _ ([0,1,1,1,1,1,1]) ([0,1,1,1,1,1,1]) 0 _;simp [LM1,zah,zae,renL,AV.ren,AEnd.ren,zaf,mbF.fren,zac,List.getElem?_cons_zero,List.getElem?_cons_succ]),(by show AEnd.ren ([0,1,1,1,1,1,1]) _ _;first | rfl | simp [LM1,zah,zae,renL,AV.ren,AEnd.ren,zaf,mbF.fren,zac,List.getElem?_cons_zero,List.getElem?_cons_succ]),?_⟩
    try simp -implicitDefEqProofs only [LM5,LB13,eq_self,zaa,zab,Nat.zero_mul,TB,SB,Int.reduceToNat,Nat.reduceAdd,Nat.reduceEqDiff,Nat.reduceLT,Nat.reduceMod,Nat.reducePow,Nat.reduceSub,if_true,reduceIte]
    rw [zal]
    refine⟨(i,false,(ms2,tw2,zs2),r+c+zaD (s.drop (r+c))),⟨by dsimp only;omega,by dsimp only;omega,by dsimp only;omega,(by intro h;dsimp only at h;cases h),by dsimp only at hg ⊢;omega,(decide_eq_false (by dsimp only at hg ⊢;omega)).symm,hz2,?_⟩,(by show i < i+1;omega),?_⟩
    ·rw [i6,zeI (w:=w) (c:=c) (g':=(ms2,tw2,zs2)) h93 (by simp [h44]) (by rw [hw,← hwe];rfl) (by rw [hdr];rw [← hr];exact hx),zj2]
     rw [List.drop_drop,List.drop_drop,show q+(w+c)=r+c by omega,show q+(w+c+zaD (s.drop (r+c)))=r+c+zaD (s.drop (r+c)) by omega,show q - p'+(w+c+zaD (s.drop (r+c)))=r+c+zaD (s.drop (r+c)) - p' by omega]
    ·dsimp only
     rw [if_neg (by decide)]
     try unfold OB
     refine zaj (q:=[0,1,2,3,4,6]) rfl rfl (by decide) ?_ ?_
     ·try simp only [FB,AV.ren,Nat.reduceAdd,reduceCtorEq]
      try rfl
     ·simp [zah,zaG,mbF.fren,zbo,zgW,zaf,renL,AV.ren]
end Go.Proofs.YtamcppdhkeiaiaaGreatDoor
end

section
namespace Go.Proofs.YtamcppdhkeiaiaaGreatDoor
open Go Go.Eng
theorem misort_nil:ACalls Tryz.prog 138 [nilS,i64 0,i64 0,zf1] [] (fun y _=>y=.ret (.tup [])):=by
 unfold zf1
 refine ACalls.body T_ok Tryz.func138 (by kernel_rfl) rfl Tryz.ntmps138 (congrArg Array.toList Tryz.results138) ?_
 try simp -implicitDefEqProofs only [LM5,LB13,eq_self,zaa,zab,Nat.zero_mul,TB,SB,Int.reduceToNat,Nat.reduceAdd,Nat.reduceEqDiff,Nat.reduceLT,Nat.reduceMod,Nat.reducePow,Nat.reduceSub,if_true,reduceIte]
 repeat (with_reducible refine zbY ?_)
 rw [zbe]
 refine⟨Nat,fun k=>k=0,fun k=>[nilS,i64 0,i64 0,.fn (.func 112) [] [],.bot,.bot,.bot,.bot,i64 1,.bot,.bot,.bot,.bot,.bot,.bot,.bot,.bot,.bot,.bot,.bot,.bot,.bot,.bot,.bot,.bot,.bot,.bot,.bot,.bot,.bot,.bot,.bot,.bot,.bot,.bot,.bot,.bot,.bot,.bot,.bot,.bot,.bot,.bot,.bot,.bot,.bot,.bot,.bot,.bot,.bot,.bot,.bot,.bot],fun k=>[],fun k=>0,0,rfl,zaj (q:=[]) rfl rfl (by decide) ?_ ?_,?_⟩
 ·try simp only [FB,AV.ren,Nat.reduceAdd,reduceCtorEq]
  try simp [renL,nilS,AV.ren]
 ·trivial
 ·rintro k rfl
  try simp -implicitDefEqProofs only [LM5,LB13,eq_self,zaa,zab,Nat.zero_mul,TB,SB,Int.reduceToNat,Nat.reduceAdd,Nat.reduceEqDiff,Nat.reduceLT,Nat.reduceMod,Nat.reducePow,Nat.reduceSub,if_true,reduceIte]
  exact⟨fun h=>absurd h (by decide),fun _=>zaH rfl⟩
theorem mstable_nil:ACalls Tryz.prog 129 [nilS,i64 0,zf1] [] (fun y _=>y=.ret (.tup [])):=by
 have h:=misort_nil
 unfold zf1 at h ⊢
 refine ACalls.body T_ok Tryz.func129 (by kernel_rfl) rfl Tryz.ntmps129 (congrArg Array.toList Tryz.results129) ?_
 try simp -implicitDefEqProofs only [LM5,LB13,eq_self,zaa,zab,Nat.zero_mul,TB,SB,Int.reduceToNat,Nat.reduceAdd,Nat.reduceEqDiff,Nat.reduceLT,Nat.reduceMod,Nat.reducePow,Nat.reduceSub,if_true,reduceIte]
 rw [zbe]
 refine⟨Nat,fun k=>k=0,fun k=>[nilS,i64 0,.fn (.func 112) [] [],.bot,.bot,.bot,i64 20,i64 0,i64 20,.bot,.bot,.bot,.bot,.bot,.bot,.bot,.bot,.bot,.bot,.bot,.bot,.bot,.bot,.bot,.bot,.bot,.bot,.bot,.bot,.bot,.bot,.bot,.bot,.bot,.bot,.bot,.bot,.bot,.bot,.bot,.bot,.bot,.bot,.bot,.bot,.bot,.bot,.bot,.bot,.bot,.bot,.bot,.bot,.bot,.bot,.bot,.bot,.bot,.bot,.bot,.bot,.bot,.bot],fun k=>[],fun k=>0,0,rfl,zaj (q:=[]) rfl rfl (by decide) ?_ ?_,?_⟩
 ·try simp only [FB,AV.ren,Nat.reduceAdd,reduceCtorEq]
  try simp [renL,nilS,AV.ren]
 ·trivial
 ·rintro k rfl
  try simp -implicitDefEqProofs only [LM5,LB13,eq_self,zaa,zab,Nat.zero_mul,TB,SB,Int.reduceToNat,Nat.reduceAdd,Nat.reduceEqDiff,Nat.reduceLT,Nat.reduceMod,Nat.reducePow,Nat.reduceSub,if_true,reduceIte]
  refine⟨fun h=>absurd h (by decide),fun _=>?_⟩
  refine(h).pure (by first | rfl | simp [renL,AV.ren,zav,zak str zai,zaA,zaz,zay,zag,zao,zai]) ?_
  rintro _ σ rfl
  refine⟨by first | rfl | simp [AEnd.noid,AV.ren,renL,zav,zak str zai,zaA,zaz,zay,zag,zao,zai],?_⟩
  try simp -implicitDefEqProofs only [LM5,LB13,eq_self,zaa,zab,Nat.zero_mul,TB,SB,Int.reduceToNat,Nat.reduceAdd,Nat.reduceEqDiff,Nat.reduceLT,Nat.reduceMod,Nat.reducePow,Nat.reduceSub,if_true,reduceIte]
  rw [zbe]
  refine⟨Nat,fun k=>k=0,fun k=>[.bot,i64 0,.bot,.bot,.bot,.bot,i64 20,.bot,.bot,.bot,.bot,.bot,.bot,.bot,.bot,.bot,.bot,.bot,.bot,.bot,.bot,.bot,.bot,.bot,.bot,.bot,.bot,.bot,.bot,.bot,.bot,.bot,.bot,.bot,.bot,.bot,.bot,.bot,.bot,.bot,.bot,.bot,.bot,.bot,.bot,.bot,.bot,.bot,.bot,.bot,.bot,.bot,.bot,.bot,.bot,.bot,.bot,.bot,.bot,.bot,.bot,.bot,.bot],fun k=>[],fun k=>0,0,rfl,zaj (q:=[]) rfl rfl (by decide) ?_ ?_,?_⟩
  ·try simp only [FB,AV.ren,Nat.reduceAdd,reduceCtorEq]
  ·trivial
  ·rintro k rfl
   try simp -implicitDefEqProofs only [LM5,LB13,eq_self,zaa,zab,Nat.zero_mul,TB,SB,Int.reduceToNat,Nat.reduceAdd,Nat.reduceEqDiff,Nat.reduceLT,Nat.reduceMod,Nat.reducePow,Nat.reduceSub,if_true,reduceIte]
   refine⟨fun h=>absurd h (by decide),fun _=>?_⟩
   exact zaH rfl
theorem sort_nil:ACalls Tryz.prog 111 [nilS,zf1] [] (fun y _=>y=.ret (.tup [])):=by
 have h:=mstable_nil
 unfold zf1 at h ⊢
 refine ACalls.body T_ok Tryz.func111 (by kernel_rfl) rfl Tryz.ntmps111 (congrArg Array.toList Tryz.results111) ?_
 try simp -implicitDefEqProofs only [LM5,LB13,eq_self,zaa,zab,Nat.zero_mul,TB,SB,Int.reduceToNat,Nat.reduceAdd,Nat.reduceEqDiff,Nat.reduceLT,Nat.reduceMod,Nat.reducePow,Nat.reduceSub,if_true,reduceIte]
 refine(h).pure (by first | rfl | simp [renL,AV.ren,zav,zak str zai,zaA,zaz,zay,zag,zao,zai]) ?_
 rintro _ σ rfl
 refine⟨by first | rfl | simp [AEnd.noid,AV.ren,renL,zav,zak str zai,zaA,zaz,zay,zag,zao,zai],?_⟩
 try simp -implicitDefEqProofs only [LM5,LB13,eq_self,zaa,zab,Nat.zero_mul,TB,SB,Int.reduceToNat,Nat.reduceAdd,Nat.reduceEqDiff,Nat.reduceLT,Nat.reduceMod,Nat.reducePow,Nat.reduceSub,if_true,reduceIte]
 exact zaH rfl
section
variable {σ : zad} {K : AV → Prop} {KS : AV → zad → Prop}
theorem zhh (e:TypeId):al1 T e (some tyMb) σ KS=KS (.ptr σ.length 0) (σ++[.rw [str [],nilS]]):=by
 simp [al1,tyMb,zaS,nilS,str]
theorem zeS (m:Mem) (a b:AV) (id:Nat):st2 (some tyMb) (some (.rw [a,b])) id 0 (mbA m) σ KS=KS (.lit undef) (σ.set id (.rw (mbC m))):=by
 have h2:(slN m.2).one=true:=rfl
 simp [st2,mbA,AV.cells,tyMb,zbf,mbC,zd5,h2]
theorem zeT (e k v:TypeId):al1 T e (some (zhf k v)) σ KS=KS (.ptr σ.length 0) (σ++[.rw [.lit (.map none)]]):=rfl
theorem zeU (k v:TypeId) (id j:Nat) (c:AV):st2 (some (zhf k v)) (some (.rw [c])) id 0 (.mpt j) σ KS=KS (.lit undef) (σ.set id (.rw [.mpt j])):=by
 simp [st2,zhf,AV.cells,AV.one,zbf]
end
def outM (S:List Mem) (k:Nat):List Nd:=⟨5,0,[],S.length⟩::(S.take k).flatMap memR
theorem outM_len (S:List Mem) (k:Nat):(outM S k).length≤memW S+1:=by
 have h:S.flatMap memR=(S.take k).flatMap memR++(S.drop k).flatMap memR:=by rw [← List.flatMap_append,List.take_append_drop]
 rw [memW,h,List.length_append,outM,List.length_cons]
 omega
theorem outM_succ (S:List Mem) {k:Nat} (h:k < S.length):outM S (k+1)=outM S k++[⟨3,0,(S.getD k m0d).1,0⟩]++(S.getD k m0d).2:=by
 have e:S.take (k+1)=S.take k++[S[k]]:=List.take_succ_eq_append_getElem h
 rw [outM,outM,e,List.flatMap_append,List.getD_eq_getElem?_getD,List.getElem?_eq_getElem h]
 simp [memR]
theorem outM_all (ms:List Mem):outM (zfI ms) (zfI ms).length=objR ms:=by
 rw [outM,objR,List.take_length,(zgY ms).length_eq]
theorem object_ok (n:Nat) (s:List UInt8) (hs:s.length≤100000000) (N:Nat) (hS:zji N) (hN:s.length≤N * 5) (hV:zkC n s) (p:Nat) (tw:Int) (hp:p < s.length) (hn:s.length - p≤n):ACalls Tryz.prog 84 [.ptr 0 0] (rS s p tw) (outV s p (objV (pvF n) tw p (s.drop p))):=by
 have h:=orows_ok n s hs hV p tw hp hn
 unfold rS
 have hdd:(s.drop p).drop (inW (s.drop p))=s.drop (p+inW (s.drop p)):=by rw [List.drop_drop]
 refine ACalls.body T_ok Tryz.func84 (by kernel_rfl) rfl Tryz.ntmps84 (congrArg Array.toList Tryz.results84) ?_
 try simp -implicitDefEqProofs only [LM5,LB13,eq_self,zaa,zab,Nat.zero_mul,zhh,zeS,zeT,zeU,TB,SB,Int.reduceToNat,Nat.reduceAdd,Nat.reduceEqDiff,Nat.reduceLT,Nat.reduceMod,Nat.reducePow,Nat.reduceSub,if_true,reduceIte]
 rw [show (AV.lit (.slice none 0 0))=nilS from rfl,show Blk.mpb [] []=mpS [] [] from rfl]
 cases hx:zda 125 (zdp (pvF n)) ((s.drop p).length+1) true ([],tw,[]) (p+inW (s.drop p)) (s.drop (p+inW (s.drop p))) with
 | error k =>
  rw [hx] at h
  unfold zkD OA dead5 at h
  dsimp only at h
  refine ACalls.frame ([0,1,2,3,4]) (h) rfl (by decide) (by simp [LM1,zah,zae,renL,AV.ren,AEnd.ren,zaf,mbF.fren,zac,List.getElem?_cons_zero,List.getElem?_cons_succ]) (by first | rfl | simp [LM1,zah,zae,renL,AV.ren,AEnd.ren,zaf,mbF.fren,zac,List.getElem?_cons_zero,List.getElem?_cons_succ]) ?_
  rintro _ _ ⟨rfl,rfl⟩
  refine⟨.pan (flt ((p+inW (s.drop p)+k:Nat):Int) 2),[.dead,.dead,.dead,.dead,.dead],(by show zae _ _ ([0,1,2,3,4]) ([0,1,2,3,4]) 0 _;simp [LM1,zah,zae,renL,AV.ren,AEnd.ren,zaf,mbF.fren,zac,List.getElem?_cons_zero,List.getElem?_cons_succ]),(by show AEnd.ren ([0,1,2,3,4]) _ _;first | rfl | simp [LM1,zah,zae,renL,AV.ren,AEnd.ren,zaf,mbF.fren,zac,List.getElem?_cons_zero,List.getElem?_cons_succ]),?_⟩
  try simp -implicitDefEqProofs only [LM5,LB13,eq_self,zaa,zab,Nat.zero_mul,zhh,zeS,zeT,zeU,TB,SB,Int.reduceToNat,Nat.reduceAdd,Nat.reduceEqDiff,Nat.reduceLT,Nat.reduceMod,Nat.reducePow,Nat.reduceSub,if_true,reduceIte]
  rw [show p+inW (s.drop p)+k=p+(inW (s.drop p)+k) by omega]
  refine zco ?_
  rw [objV,hdd,hx]
 | ok x =>
  rw [hx] at h
  obtain⟨⟨ms,tw',zs⟩,c⟩:=x
  have hml:=members_le (n:=n) (tw:=tw) (p:=p) (l:=s.drop p) (by rw [hdd];exact hx)
  rw [List.length_drop] at hml
  dsimp only at hml
  unfold zkD OS at h
  dsimp only at h
  have fin:outV s p (objV (pvF n) tw p (s.drop p)) (.ret (slN (objR ms))) (rS s ((p+inW (s.drop p)+c:Nat):Int) tw'):=by
   rw [objV,hdd,hx]
   refine⟨rfl,?_⟩
   dsimp only
   rw [show p+inW (s.drop p)+c=p+(inW (s.drop p)+c) by omega]
  by_cases hk:ms.length=0
  ·rw [if_pos hk] at h
   obtain rfl:ms=[]:=List.length_eq_zero_iff.1 hk
   unfold OA at h
   refine ACalls.frame ([0,1,2,3,4]) (h) rfl (by decide) (by simp [LM1,zah,zae,renL,AV.ren,AEnd.ren,zaf,mbF.fren,zac,List.getElem?_cons_zero,List.getElem?_cons_succ]) (by first | rfl | simp [LM1,zah,zae,renL,AV.ren,AEnd.ren,zaf,mbF.fren,zac,List.getElem?_cons_zero,List.getElem?_cons_succ]) ?_
   rintro _ _ ⟨rfl,rfl⟩
   refine⟨.ret (.tup []),[.rw (rC s ((p+inW (s.drop p)+c:Nat):Int) tw'),.rw [.ptr 0 0],.rw [nilS],mpS [] [],.rw [.mpt 3]],(by show zae _ _ ([0,1,2,3,4]) ([0,1,2,3,4]) 0 _;simp [LM1,zah,zae,renL,AV.ren,AEnd.ren,zaf,mbF.fren,zac,List.getElem?_cons_zero,List.getElem?_cons_succ]),(by show AEnd.ren ([0,1,2,3,4]) _ _;first | rfl | simp [LM1,zah,zae,renL,AV.ren,AEnd.ren,zaf,mbF.fren,zac,List.getElem?_cons_zero,List.getElem?_cons_succ]),?_⟩
   try simp -implicitDefEqProofs only [LM5,LB13,eq_self,zaa,zab,Nat.zero_mul,zhh,zeS,zeT,zeU,TB,SB,Int.reduceToNat,Nat.reduceAdd,Nat.reduceEqDiff,Nat.reduceLT,Nat.reduceMod,Nat.reducePow,Nat.reduceSub,if_true,reduceIte]
   have hso:=sort_nil
   unfold zf1 at hso
   refine(hso).pure (by first | rfl | simp [renL,AV.ren,zav,zak str zai,zaA,zaz,zay,zag,zao,zai]) ?_
   rintro _ σ rfl
   refine⟨by first | rfl | simp [AEnd.noid,AV.ren,renL,zav,zak str zai,zaA,zaz,zay,zag,zao,zai],?_⟩
   try simp -implicitDefEqProofs only [LM5,LB13,eq_self,zaa,zab,Nat.zero_mul,zhh,zeS,zeT,zeU,TB,SB,Int.reduceToNat,Nat.reduceAdd,Nat.reduceEqDiff,Nat.reduceLT,Nat.reduceMod,Nat.reducePow,Nat.reduceSub,if_true,reduceIte]
   unfold nilS
   try simp -implicitDefEqProofs only [LM5,LB13,eq_self,zaa,zab,Nat.zero_mul,zhh,zeS,zeT,zeU,TB,SB,Int.reduceToNat,Nat.reduceAdd,Nat.reduceEqDiff,Nat.reduceLT,Nat.reduceMod,Nat.reducePow,Nat.reduceSub,if_true,reduceIte]
   rw [zbe]
   refine⟨Nat,fun k=>k=0,fun k=>[.bot,.bot,.bot,.bot,.bot,.ref 1 0 1 4,.bot,.bot,.bot,.bot,.bot,.bot,.bot,.bot,.bot,.bot,.bot,.bot,.bot,i64 0,i64 0,.bot,.bot,.bot,.bot,.bot,.bot,.bot,.bot,.bot,.bot,.bot,.bot,.bot,.bot,.bot],fun k=>[.rw (rC s ((p+inW (s.drop p)+c:Nat):Int) tw'),.rw ((objR []).flatMap nC)],fun k=>0,0,rfl,zaj (q:=[0,5]) rfl rfl (by decide) ?_ ?_,?_⟩
   ·try simp only [FB,AV.ren,Nat.reduceAdd,reduceCtorEq]
   ·simp [zah,zaG,ndF.ren,zbo,renL,AV.ren,objR,zfI]
   ·rintro k rfl
    try simp -implicitDefEqProofs only [LM5,LB13,eq_self,zaa,zab,Nat.zero_mul,zhh,zeS,zeT,zeU,TB,SB,Int.reduceToNat,Nat.reduceAdd,Nat.reduceEqDiff,Nat.reduceLT,Nat.reduceMod,Nat.reducePow,Nat.reduceSub,if_true,reduceIte]
    exact⟨fun h=>absurd h (by decide),fun _=>zis (j:=0) (l:=objR []) rfl rfl fin⟩
  ·rw [if_neg hk] at h
   unfold OA OB at h
   refine ACalls.frame ([0,1,2,3,4]) (h) rfl (by decide) (by simp [LM1,zah,zae,renL,AV.ren,AEnd.ren,zaf,mbF.fren,zac,List.getElem?_cons_zero,List.getElem?_cons_succ]) (by first | rfl | simp [LM1,zah,zae,renL,AV.ren,AEnd.ren,zaf,mbF.fren,zac,List.getElem?_cons_zero,List.getElem?_cons_succ]) ?_
   rintro _ _ ⟨rfl,rfl⟩
   refine⟨.ret (.tup []),[.rw (rC s ((p+inW (s.drop p)+c:Nat):Int) tw'),.rw [.ptr 0 0],.rw [.ref 5 0 ms.length 2],mpS (ksU ms) zs,.rw [.mpt 3],.rw (ms.flatMap mbC)],(by show zae _ _ ([0,1,2,3,4,5]) ([0,1,2,3,4,5]) 0 _;simp [LM1,zah,zae,renL,AV.ren,AEnd.ren,zaf,mbF.fren,zac,List.getElem?_cons_zero,List.getElem?_cons_succ]),(by show AEnd.ren ([0,1,2,3,4,5]) _ _;first | rfl | simp [LM1,zah,zae,renL,AV.ren,AEnd.ren,zaf,mbF.fren,zac,List.getElem?_cons_zero,List.getElem?_cons_succ]),?_⟩
   try simp -implicitDefEqProofs only [LM5,LB13,eq_self,zaa,zab,Nat.zero_mul,zhh,zeS,zeT,zeU,TB,SB,Int.reduceToNat,Nat.reduceAdd,Nat.reduceEqDiff,Nat.reduceLT,Nat.reduceMod,Nat.reducePow,Nat.reduceSub,if_true,reduceIte]
   have hso:=hS ms (by omega)
   unfold zf1 at hso
   refine ACalls.frame ([5]) (hso) rfl (by decide) (by simp [LM1,zah,zae,renL,AV.ren,AEnd.ren,zaf,mbF.fren,zac,List.getElem?_cons_zero,List.getElem?_cons_succ]) (by first | rfl | simp [LM1,zah,zae,renL,AV.ren,AEnd.ren,zaf,mbF.fren,zac,List.getElem?_cons_zero,List.getElem?_cons_succ]) ?_
   rintro _ _ ⟨rfl,rfl⟩
   refine⟨.ret (.tup []),[.rw (rC s ((p+inW (s.drop p)+c:Nat):Int) tw'),.rw [.ptr 0 0],.rw [.ref 5 0 ms.length 2],mpS (ksU ms) zs,.rw [.mpt 3],.rw ((zfI ms).flatMap mbC)],(by show zae _ _ ([1,1,1,1,1,0]) ([1,1,1,1,1,0]) 0 _;simp [LM1,zah,zae,renL,AV.ren,AEnd.ren,zaf,mbF.fren,zac,List.getElem?_cons_zero,List.getElem?_cons_succ]),(by show AEnd.ren ([1,1,1,1,1,0]) _ _;first | rfl | simp [LM1,zah,zae,renL,AV.ren,AEnd.ren,zaf,mbF.fren,zac,List.getElem?_cons_zero,List.getElem?_cons_succ]),?_⟩
   try simp -implicitDefEqProofs only [LM5,LB13,eq_self,zaa,zab,Nat.zero_mul,zhh,zeS,zeT,zeU,TB,SB,Int.reduceToNat,Nat.reduceAdd,Nat.reduceEqDiff,Nat.reduceLT,Nat.reduceMod,Nat.reducePow,Nat.reduceSub,if_true,reduceIte]
   have hg:=zem _ _ 4 125 _ (zen (zcG n)) ((s.drop p).length+1) true ([],tw,[]) (p+inW (s.drop p)) (s.drop (p+inW (s.drop p)))
   rw [hx] at hg
   have hw:memW ms≤s.length:=by
    simp only [ziU,List.length_drop] at hg
    have:memW []=0:=rfl
    omega
   rw [← memW_sort] at hw
   have hsl:(zfI ms).length=ms.length:=(zgY ms).length_eq
   rw [← outM_all] at fin
   generalize zfI ms=S at hw hsl fin
   rw [← hsl,show ([⟨5,0,[],(S.length:Int)⟩]:List Nd)=outM S 0 from rfl]
   rw [zbe]
   refine⟨Nat,fun k=>k≤S.length,fun k=>[.bot,.bot,.bot,.bot,.bot,.ref 2 0 (outM S k).length 4,.bot,.bot,.bot,.bot,.bot,.bot,.bot,.bot,.bot,.bot,.bot,.bot,.ref 1 0 S.length 2,i64 S.length,i64 k,.bot,.bot,.bot,.bot,.bot,.bot,.bot,.bot,.bot,.bot,.bot,.bot,.bot,.bot,.bot],fun k=>[.rw (rC s ((p+inW (s.drop p)+c:Nat):Int) tw'),.rw (S.flatMap mbC),.rw ((outM S k).flatMap nC)],fun k=>S.length - k,0,Nat.zero_le _,zaj (q:=[0,5,6]) rfl rfl (by decide) ?_ ?_,?_⟩
   ·try simp only [FB,AV.ren,Nat.reduceAdd,reduceCtorEq]
    exact⟨rfl,.inr rfl⟩
   ·simp [zah,zaG,ndF.fren,mbF.fren,zbo,renL,AV.ren]
   ·rintro k hk
    try simp -implicitDefEqProofs only [LM5,LB13,eq_self,zaa,zab,Nat.zero_mul,zhh,zeS,zeT,zeU,TB,SB,Int.reduceToNat,Nat.reduceAdd,Nat.reduceEqDiff,Nat.reduceLT,Nat.reduceMod,Nat.reducePow,Nat.reduceSub,if_true,reduceIte]
    refine⟨fun hlt=>?_,fun hge=>?_⟩
    rotate_left
    ·obtain rfl:k=S.length:=by omega
     exact zis (j:=1) (l:=outM S S.length) rfl rfl fin
    have hkl:k < S.length:=by omega
    have hsc:=outM_succ S hkl
    have hlen:=outM_len S (k+1)
    rw [hsc,List.length_append,List.length_append,List.length_singleton] at hlen
    refine⟨by omega,by omega,by omega,?_⟩
    refine ndF.app rfl rfl T37 T37 (zfX _) T54 rfl rfl (m:=1) (l:=outM S k) (ys:=[⟨3,0,(S.getD k m0d).1,0⟩]) rfl (by exact ndF.asrcR (l:=[⟨3,0,(S.getD k m0d).1,0⟩]) rfl) rfl (by omega) (by simp only [tyNd];omega) ?_
    try simp -implicitDefEqProofs only [LM5,LB13,eq_self,zaa,zab,Nat.zero_mul,zhh,zeS,zeT,zeU,TB,SB,Int.reduceToNat,Nat.reduceAdd,Nat.reduceEqDiff,Nat.reduceLT,Nat.reduceMod,Nat.reducePow,Nat.reduceSub,if_true,reduceIte]
    obtain⟨O,hO⟩:∃ O,O=outM S k++[⟨3,0,(S.getD k m0d).1,0⟩]:=⟨_,rfl⟩
    have hOl:(outM S k).length+1=O.length:=by rw [hO];simp
    rw [hOl,← hO]
    rw [← hO] at hsc
    refine ndF.app rfl rfl T37 T37 (zfX _) T54 rfl rfl (l:=O) (ys:=(S.getD k m0d).2) rfl (ndF.asrc (S.getD k m0d).2) rfl (by omega) (by simp only [tyNd];omega) ?_
    try simp -implicitDefEqProofs only [LM5,LB13,eq_self,zaa,zab,Nat.zero_mul,zhh,zeS,zeT,zeU,TB,SB,Int.reduceToNat,Nat.reduceAdd,Nat.reduceEqDiff,Nat.reduceLT,Nat.reduceMod,Nat.reducePow,Nat.reduceSub,if_true,reduceIte]
    repeat (with_reducible refine zbY ?_)
    rw [zal,← hsc]
    rw [show O.length+(S.getD k m0d).2.length=(outM S (k+1)).length by rw [hsc,List.length_append]]
    refine⟨k+1,by omega,by (show S.length - (k+1) < S.length - k);omega,zaj (q:=[0,1,6]) rfl rfl (by decide) ?_ ?_⟩
    ·try simp only [FB,AV.ren,Nat.reduceAdd,reduceCtorEq]
     simp [renL]
    ·simp [zah,zaG,ndF.fren,mbF.fren,zbo,renL,AV.ren]
end Go.Proofs.YtamcppdhkeiaiaaGreatDoor
end

section
namespace Go.Proofs.YtamcppdhkeiaiaaGreatDoor
open Go Go.Eng
set_option linter.defProp false in
def LB14:=And.intro @zhh (And.intro @zeS (And.intro @zeT (@zeU)))
set_option linter.defProp false in
def LM8:=And.intro LM5 (And.intro LB13 (LB14))
theorem keepR (s:List UInt8) (p tw:Int):zah [.rw (rC s p tw)] [0] [0] [.rw (rC s p tw)]:=by
 simp [zah,zaG,zbo]
theorem vals_ok (s:List UInt8) (N:Nat) (hs:s.length≤100000000) (hS:zji N) (hN:s.length≤N * 5):∀ n,zkC n s:=by
 intro n
 induction n with
 | zero=>exact fun p tw _ h=>absurd h (by omega)
 | succ n ih =>
  intro p tw hp hn
  have hf:=zgV s p tw p
  unfold rS at hf ⊢
  refine ACalls.body T_ok Tryz.func67 (by kernel_rfl) rfl Tryz.ntmps67 (congrArg Array.toList Tryz.results67) ?_
  try simp -implicitDefEqProofs only [LM8,eq_self,zaa,zab,Nat.zero_mul,TB,SB,Int.reduceToNat,Nat.reduceAdd,Nat.reduceEqDiff,Nat.reduceLT,Nat.reduceMod,Nat.reducePow,Nat.reduceSub,if_true,reduceIte]
  refine zdK (by kernel_rfl) (by kernel_rfl) ?_
  try simp -implicitDefEqProofs only [LM8,eq_self,zaa,zab,Nat.zero_mul,TB,SB,Int.reduceToNat,Nat.reduceAdd,Nat.reduceEqDiff,Nat.reduceLT,Nat.reduceMod,Nat.reducePow,Nat.reduceSub,if_true,reduceIte]
  refine⟨fun he=>?_,fun he=>?_⟩
  ·obtain rfl:p=s.length:=by omega
   refine ACalls.frame ([0]) (hf) rfl (by decide) (by simp [LM1,zah,zae,renL,AV.ren,AEnd.ren,zaf,mbF.fren,zac,List.getElem?_cons_zero,List.getElem?_cons_succ]) (by first | rfl | simp [LM1,zah,zae,renL,AV.ren,AEnd.ren,zaf,mbF.fren,zac,List.getElem?_cons_zero,List.getElem?_cons_succ]) ?_
   rintro _ _ ⟨rfl,rfl⟩
   refine⟨.pan (flt s.length 2),[.dead],(by show zae _ _ ([0]) ([0]) 0 _;simp [LM1,zah,zae,renL,AV.ren,AEnd.ren,zaf,mbF.fren,zac,List.getElem?_cons_zero,List.getElem?_cons_succ]),(by show AEnd.ren ([0]) _ _;first | rfl | simp [LM1,zah,zae,renL,AV.ren,AEnd.ren,zaf,mbF.fren,zac,List.getElem?_cons_zero,List.getElem?_cons_succ]),?_⟩
   try simp -implicitDefEqProofs only [LM8,eq_self,zaa,zab,Nat.zero_mul,TB,SB,Int.reduceToNat,Nat.reduceAdd,Nat.reduceEqDiff,Nat.reduceLT,Nat.reduceMod,Nat.reducePow,Nat.reduceSub,if_true,reduceIte]
   refine zco (k:=0) ?_
   rw [pvF,if_pos (by rw [List.length_drop];omega)]
  have hpl:p < s.length:=by omega
  have hl0:¬ (s.drop p).length=0:=by rw [List.length_drop];omega
  have hhd:(s.drop p).headD 0=s.getD p 0:=by
   rw [List.headD_eq_head?_getD,List.head?_drop,List.getD_eq_getElem?_getD]
  have hF:pvF (n+1) tw p (s.drop p)=if s.getD p 0=91 then zkA (pvF n) tw p (s.drop p) else if s.getD p 0=123 then objV (pvF n) tw p (s.drop p) else if s.getD p 0=34 then textV tw (s.drop p) else if s.getD p 0=45∨isDg (s.getD p 0)=true then zkz tw (s.drop p) else ziT tw (s.drop p):=by
   rw [pvF,if_neg hl0,hhd]
  refine zdK (by kernel_rfl) (by kernel_rfl) ?_
  try simp -implicitDefEqProofs only [LM8,eq_self,zaa,zab,Nat.zero_mul,TB,SB,Int.reduceToNat,Nat.reduceAdd,Nat.reduceEqDiff,Nat.reduceLT,Nat.reduceMod,Nat.reducePow,Nat.reduceSub,if_true,reduceIte]
  refine⟨by omega,by omega,fun h91=>?_,fun n91=>?_⟩
  ·change s.getD p 0=91 at h91
   have hl:=list_ok n s hs ih p tw hpl (by omega)
   unfold outV rS at hl
   cases hx:zkA (pvF n) tw p (s.drop p) with
   | error k =>
    rw [hx] at hl
    dsimp only at hl
    refine ACalls.frame ([0]) (hl) rfl (by decide) (by simp [LM1,zah,zae,renL,AV.ren,AEnd.ren,zaf,mbF.fren,zac,List.getElem?_cons_zero,List.getElem?_cons_succ]) (by first | rfl | simp [LM1,zah,zae,renL,AV.ren,AEnd.ren,zaf,mbF.fren,zac,List.getElem?_cons_zero,List.getElem?_cons_succ]) ?_
    rintro _ _ ⟨rfl,rfl⟩
    refine⟨.pan (flt ((p+k:Nat):Int) 2),[.dead],(by show zae _ _ ([0]) ([0]) 0 _;simp [LM1,zah,zae,renL,AV.ren,AEnd.ren,zaf,mbF.fren,zac,List.getElem?_cons_zero,List.getElem?_cons_succ]),(by show AEnd.ren ([0]) _ _;first | rfl | simp [LM1,zah,zae,renL,AV.ren,AEnd.ren,zaf,mbF.fren,zac,List.getElem?_cons_zero,List.getElem?_cons_succ]),?_⟩
    try simp -implicitDefEqProofs only [LM8,eq_self,zaa,zab,Nat.zero_mul,TB,SB,Int.reduceToNat,Nat.reduceAdd,Nat.reduceEqDiff,Nat.reduceLT,Nat.reduceMod,Nat.reducePow,Nat.reduceSub,if_true,reduceIte]
    refine zco ?_
    rw [hF,if_pos h91,hx]
   | ok x =>
    rw [hx] at hl
    dsimp only at hl
    refine ACalls.frame ([0]) (hl) rfl (by decide) (by simp [LM1,zah,zae,renL,AV.ren,AEnd.ren,zaf,mbF.fren,zac,List.getElem?_cons_zero,List.getElem?_cons_succ]) (by first | rfl | simp [LM1,zah,zae,renL,AV.ren,AEnd.ren,zaf,mbF.fren,zac,List.getElem?_cons_zero,List.getElem?_cons_succ]) ?_
    rintro _ _ ⟨rfl,rfl⟩
    refine⟨.ret (slN x.1.1),[.rw (rC s ((p+x.2:Nat):Int) x.1.2)],(by show zae _ _ ([0]) ([0]) 0 _;simp [LM1,zah,zae,renL,AV.ren,AEnd.ren,zaf,mbF.fren,zac,List.getElem?_cons_zero,List.getElem?_cons_succ]),(by show AEnd.ren ([0]) _ _;first | rfl | simp [LM1,zah,zae,renL,AV.ren,AEnd.ren,zaf,mbF.fren,zac,List.getElem?_cons_zero,List.getElem?_cons_succ]),?_⟩
    try simp -implicitDefEqProofs only [LM8,eq_self,zaa,zab,Nat.zero_mul,TB,SB,Int.reduceToNat,Nat.reduceAdd,Nat.reduceEqDiff,Nat.reduceLT,Nat.reduceMod,Nat.reducePow,Nat.reduceSub,if_true,reduceIte]
    refine zcc [0] _ _ rfl rfl (by decide) (zac _ _) (keepR _ _ _) ?_
    rw [hF,if_pos h91,hx]
    exact⟨rfl,rfl⟩
  change ¬ s.getD p 0=91 at n91
  refine⟨fun h123=>?_,fun n123=>?_⟩
  ·change s.getD p 0=123 at h123
   have hl:=object_ok n s hs N hS hN ih p tw hpl (by omega)
   unfold outV rS at hl
   cases hx:objV (pvF n) tw p (s.drop p) with
   | error k =>
    rw [hx] at hl
    dsimp only at hl
    refine ACalls.frame ([0]) (hl) rfl (by decide) (by simp [LM1,zah,zae,renL,AV.ren,AEnd.ren,zaf,mbF.fren,zac,List.getElem?_cons_zero,List.getElem?_cons_succ]) (by first | rfl | simp [LM1,zah,zae,renL,AV.ren,AEnd.ren,zaf,mbF.fren,zac,List.getElem?_cons_zero,List.getElem?_cons_succ]) ?_
    rintro _ _ ⟨rfl,rfl⟩
    refine⟨.pan (flt ((p+k:Nat):Int) 2),[.dead],(by show zae _ _ ([0]) ([0]) 0 _;simp [LM1,zah,zae,renL,AV.ren,AEnd.ren,zaf,mbF.fren,zac,List.getElem?_cons_zero,List.getElem?_cons_succ]),(by show AEnd.ren ([0]) _ _;first | rfl | simp [LM1,zah,zae,renL,AV.ren,AEnd.ren,zaf,mbF.fren,zac,List.getElem?_cons_zero,List.getElem?_cons_succ]),?_⟩
    try simp -implicitDefEqProofs only [LM8,eq_self,zaa,zab,Nat.zero_mul,TB,SB,Int.reduceToNat,Nat.reduceAdd,Nat.reduceEqDiff,Nat.reduceLT,Nat.reduceMod,Nat.reducePow,Nat.reduceSub,if_true,reduceIte]
    refine zco ?_
    rw [hF,if_neg n91,if_pos h123,hx]
   | ok x =>
    rw [hx] at hl
    dsimp only at hl
    refine ACalls.frame ([0]) (hl) rfl (by decide) (by simp [LM1,zah,zae,renL,AV.ren,AEnd.ren,zaf,mbF.fren,zac,List.getElem?_cons_zero,List.getElem?_cons_succ]) (by first | rfl | simp [LM1,zah,zae,renL,AV.ren,AEnd.ren,zaf,mbF.fren,zac,List.getElem?_cons_zero,List.getElem?_cons_succ]) ?_
    rintro _ _ ⟨rfl,rfl⟩
    refine⟨.ret (slN x.1.1),[.rw (rC s ((p+x.2:Nat):Int) x.1.2)],(by show zae _ _ ([0]) ([0]) 0 _;simp [LM1,zah,zae,renL,AV.ren,AEnd.ren,zaf,mbF.fren,zac,List.getElem?_cons_zero,List.getElem?_cons_succ]),(by show AEnd.ren ([0]) _ _;first | rfl | simp [LM1,zah,zae,renL,AV.ren,AEnd.ren,zaf,mbF.fren,zac,List.getElem?_cons_zero,List.getElem?_cons_succ]),?_⟩
    try simp -implicitDefEqProofs only [LM8,eq_self,zaa,zab,Nat.zero_mul,TB,SB,Int.reduceToNat,Nat.reduceAdd,Nat.reduceEqDiff,Nat.reduceLT,Nat.reduceMod,Nat.reducePow,Nat.reduceSub,if_true,reduceIte]
    refine zcc [0] _ _ rfl rfl (by decide) (zac _ _) (keepR _ _ _) ?_
    rw [hF,if_neg n91,if_pos h123,hx]
    exact⟨rfl,rfl⟩
  change ¬ s.getD p 0=123 at n123
  refine⟨fun h34=>?_,fun n34=>?_⟩
  ·change s.getD p 0=34 at h34
   have hl:=ptext_ok s p tw (by omega)
   unfold textK rS at hl
   cases hx:quoL (s.drop p) with
   | none =>
    rw [hx] at hl
    dsimp only at hl
    refine ACalls.frame ([0]) (hl) rfl (by decide) (by simp [LM1,zah,zae,renL,AV.ren,AEnd.ren,zaf,mbF.fren,zac,List.getElem?_cons_zero,List.getElem?_cons_succ]) (by first | rfl | simp [LM1,zah,zae,renL,AV.ren,AEnd.ren,zaf,mbF.fren,zac,List.getElem?_cons_zero,List.getElem?_cons_succ]) ?_
    rintro _ _ ⟨rfl,rfl⟩
    refine⟨.pan (flt p 2),[.dead],(by show zae _ _ ([0]) ([0]) 0 _;simp [LM1,zah,zae,renL,AV.ren,AEnd.ren,zaf,mbF.fren,zac,List.getElem?_cons_zero,List.getElem?_cons_succ]),(by show AEnd.ren ([0]) _ _;first | rfl | simp [LM1,zah,zae,renL,AV.ren,AEnd.ren,zaf,mbF.fren,zac,List.getElem?_cons_zero,List.getElem?_cons_succ]),?_⟩
    try simp -implicitDefEqProofs only [LM8,eq_self,zaa,zab,Nat.zero_mul,TB,SB,Int.reduceToNat,Nat.reduceAdd,Nat.reduceEqDiff,Nat.reduceLT,Nat.reduceMod,Nat.reducePow,Nat.reduceSub,if_true,reduceIte]
    refine zco (k:=0) ?_
    rw [hF,if_neg n91,if_neg n123,if_pos h34,textV,hx]
   | some x =>
    rw [hx] at hl
    dsimp only at hl
    refine ACalls.frame ([0]) (hl) rfl (by decide) (by simp [LM1,zah,zae,renL,AV.ren,AEnd.ren,zaf,mbF.fren,zac,List.getElem?_cons_zero,List.getElem?_cons_succ]) (by first | rfl | simp [LM1,zah,zae,renL,AV.ren,AEnd.ren,zaf,mbF.fren,zac,List.getElem?_cons_zero,List.getElem?_cons_succ]) ?_
    rintro _ _ ⟨rfl,rfl⟩
    refine⟨.ret (str x.1),[.rw (rC s ((p+x.2:Nat):Int) tw)],(by show zae _ _ ([0]) ([0]) 0 _;simp [LM1,zah,zae,renL,AV.ren,AEnd.ren,zaf,mbF.fren,zac,List.getElem?_cons_zero,List.getElem?_cons_succ]),(by show AEnd.ren ([0]) _ _;first | rfl | simp [LM1,zah,zae,renL,AV.ren,AEnd.ren,zaf,mbF.fren,zac,List.getElem?_cons_zero,List.getElem?_cons_succ]),?_⟩
    try simp -implicitDefEqProofs only [LM8,eq_self,zaa,zab,Nat.zero_mul,TB,SB,Int.reduceToNat,Nat.reduceAdd,Nat.reduceEqDiff,Nat.reduceLT,Nat.reduceMod,Nat.reducePow,Nat.reduceSub,if_true,reduceIte]
    refine zis (j:=0) (l:=[⟨3,0,x.1,0⟩]) rfl rfl ?_
    rw [hF,if_neg n91,if_neg n123,if_pos h34,textV,hx]
    exact⟨rfl,rfl⟩
  change ¬ s.getD p 0=34 at n34
  refine⟨fun h45=>?_,fun n45=>?_⟩
  ·change s.getD p 0=45 at h45
   have hl:=number_ok s p tw (by omega) (by omega)
   unfold outV rS at hl
   cases hx:zkz tw (s.drop p) with
   | error k =>
    rw [hx] at hl
    dsimp only at hl
    refine ACalls.frame ([0]) (hl) rfl (by decide) (by simp [LM1,zah,zae,renL,AV.ren,AEnd.ren,zaf,mbF.fren,zac,List.getElem?_cons_zero,List.getElem?_cons_succ]) (by first | rfl | simp [LM1,zah,zae,renL,AV.ren,AEnd.ren,zaf,mbF.fren,zac,List.getElem?_cons_zero,List.getElem?_cons_succ]) ?_
    rintro _ _ ⟨rfl,rfl⟩
    refine⟨.pan (flt ((p+k:Nat):Int) 2),[.dead],(by show zae _ _ ([0]) ([0]) 0 _;simp [LM1,zah,zae,renL,AV.ren,AEnd.ren,zaf,mbF.fren,zac,List.getElem?_cons_zero,List.getElem?_cons_succ]),(by show AEnd.ren ([0]) _ _;first | rfl | simp [LM1,zah,zae,renL,AV.ren,AEnd.ren,zaf,mbF.fren,zac,List.getElem?_cons_zero,List.getElem?_cons_succ]),?_⟩
    try simp -implicitDefEqProofs only [LM8,eq_self,zaa,zab,Nat.zero_mul,TB,SB,Int.reduceToNat,Nat.reduceAdd,Nat.reduceEqDiff,Nat.reduceLT,Nat.reduceMod,Nat.reducePow,Nat.reduceSub,if_true,reduceIte]
    refine zco ?_
    rw [hF,if_neg n91,if_neg n123,if_neg n34,if_pos (.inl h45),hx]
   | ok x =>
    rw [hx] at hl
    dsimp only at hl
    refine ACalls.frame ([0]) (hl) rfl (by decide) (by simp [LM1,zah,zae,renL,AV.ren,AEnd.ren,zaf,mbF.fren,zac,List.getElem?_cons_zero,List.getElem?_cons_succ]) (by first | rfl | simp [LM1,zah,zae,renL,AV.ren,AEnd.ren,zaf,mbF.fren,zac,List.getElem?_cons_zero,List.getElem?_cons_succ]) ?_
    rintro _ _ ⟨rfl,rfl⟩
    refine⟨.ret (slN x.1.1),[.rw (rC s ((p+x.2:Nat):Int) x.1.2)],(by show zae _ _ ([0]) ([0]) 0 _;simp [LM1,zah,zae,renL,AV.ren,AEnd.ren,zaf,mbF.fren,zac,List.getElem?_cons_zero,List.getElem?_cons_succ]),(by show AEnd.ren ([0]) _ _;first | rfl | simp [LM1,zah,zae,renL,AV.ren,AEnd.ren,zaf,mbF.fren,zac,List.getElem?_cons_zero,List.getElem?_cons_succ]),?_⟩
    try simp -implicitDefEqProofs only [LM8,eq_self,zaa,zab,Nat.zero_mul,TB,SB,Int.reduceToNat,Nat.reduceAdd,Nat.reduceEqDiff,Nat.reduceLT,Nat.reduceMod,Nat.reducePow,Nat.reduceSub,if_true,reduceIte]
    refine zcc [0] _ _ rfl rfl (by decide) (zac _ _) (keepR _ _ _) ?_
    rw [hF,if_neg n91,if_neg n123,if_neg n34,if_pos (.inl h45),hx]
    exact⟨rfl,rfl⟩
  change ¬ s.getD p 0=45 at n45
  refine(zfj (s.getD p 0)).pure (by first | rfl | simp [renL,AV.ren,zav,zak str zai,zaA,zaz,zay,zag,zao,zai]) ?_
  rintro _ σ rfl
  refine⟨by first | rfl | simp [AEnd.noid,AV.ren,renL,zav,zak str zai,zaA,zaz,zay,zag,zao,zai],?_⟩
  try simp -implicitDefEqProofs only [LM8,eq_self,zaa,zab,Nat.zero_mul,TB,SB,Int.reduceToNat,Nat.reduceAdd,Nat.reduceEqDiff,Nat.reduceLT,Nat.reduceMod,Nat.reducePow,Nat.reduceSub,if_true,reduceIte]
  refine⟨fun hdg=>?_,fun ndg=>?_⟩
  ·skip
   have hl:=number_ok s p tw (by omega) (by omega)
   unfold outV rS at hl
   cases hx:zkz tw (s.drop p) with
   | error k =>
    rw [hx] at hl
    dsimp only at hl
    refine ACalls.frame ([0]) (hl) rfl (by decide) (by simp [LM1,zah,zae,renL,AV.ren,AEnd.ren,zaf,mbF.fren,zac,List.getElem?_cons_zero,List.getElem?_cons_succ]) (by first | rfl | simp [LM1,zah,zae,renL,AV.ren,AEnd.ren,zaf,mbF.fren,zac,List.getElem?_cons_zero,List.getElem?_cons_succ]) ?_
    rintro _ _ ⟨rfl,rfl⟩
    refine⟨.pan (flt ((p+k:Nat):Int) 2),[.dead],(by show zae _ _ ([0]) ([0]) 0 _;simp [LM1,zah,zae,renL,AV.ren,AEnd.ren,zaf,mbF.fren,zac,List.getElem?_cons_zero,List.getElem?_cons_succ]),(by show AEnd.ren ([0]) _ _;first | rfl | simp [LM1,zah,zae,renL,AV.ren,AEnd.ren,zaf,mbF.fren,zac,List.getElem?_cons_zero,List.getElem?_cons_succ]),?_⟩
    try simp -implicitDefEqProofs only [LM8,eq_self,zaa,zab,Nat.zero_mul,TB,SB,Int.reduceToNat,Nat.reduceAdd,Nat.reduceEqDiff,Nat.reduceLT,Nat.reduceMod,Nat.reducePow,Nat.reduceSub,if_true,reduceIte]
    refine zco ?_
    rw [hF,if_neg n91,if_neg n123,if_neg n34,if_pos (.inr hdg),hx]
   | ok x =>
    rw [hx] at hl
    dsimp only at hl
    refine ACalls.frame ([0]) (hl) rfl (by decide) (by simp [LM1,zah,zae,renL,AV.ren,AEnd.ren,zaf,mbF.fren,zac,List.getElem?_cons_zero,List.getElem?_cons_succ]) (by first | rfl | simp [LM1,zah,zae,renL,AV.ren,AEnd.ren,zaf,mbF.fren,zac,List.getElem?_cons_zero,List.getElem?_cons_succ]) ?_
    rintro _ _ ⟨rfl,rfl⟩
    refine⟨.ret (slN x.1.1),[.rw (rC s ((p+x.2:Nat):Int) x.1.2)],(by show zae _ _ ([0]) ([0]) 0 _;simp [LM1,zah,zae,renL,AV.ren,AEnd.ren,zaf,mbF.fren,zac,List.getElem?_cons_zero,List.getElem?_cons_succ]),(by show AEnd.ren ([0]) _ _;first | rfl | simp [LM1,zah,zae,renL,AV.ren,AEnd.ren,zaf,mbF.fren,zac,List.getElem?_cons_zero,List.getElem?_cons_succ]),?_⟩
    try simp -implicitDefEqProofs only [LM8,eq_self,zaa,zab,Nat.zero_mul,TB,SB,Int.reduceToNat,Nat.reduceAdd,Nat.reduceEqDiff,Nat.reduceLT,Nat.reduceMod,Nat.reducePow,Nat.reduceSub,if_true,reduceIte]
    refine zcc [0] _ _ rfl rfl (by decide) (zac _ _) (keepR _ _ _) ?_
    rw [hF,if_neg n91,if_neg n123,if_neg n34,if_pos (.inr hdg),hx]
    exact⟨rfl,rfl⟩
  have nn:¬ (s.getD p 0=45∨isDg (s.getD p 0)=true):=fun h=>h.elim n45 (by rw [ndg];decide)
  have hl:=word_ok s p tw (by omega) (by omega)
  unfold outV rS at hl
  cases hx:ziT tw (s.drop p) with
  | error k =>
   rw [hx] at hl
   dsimp only at hl
   refine ACalls.frame ([0]) (hl) rfl (by decide) (by simp [LM1,zah,zae,renL,AV.ren,AEnd.ren,zaf,mbF.fren,zac,List.getElem?_cons_zero,List.getElem?_cons_succ]) (by first | rfl | simp [LM1,zah,zae,renL,AV.ren,AEnd.ren,zaf,mbF.fren,zac,List.getElem?_cons_zero,List.getElem?_cons_succ]) ?_
   rintro _ _ ⟨rfl,rfl⟩
   refine⟨.pan (flt ((p+k:Nat):Int) 2),[.dead],(by show zae _ _ ([0]) ([0]) 0 _;simp [LM1,zah,zae,renL,AV.ren,AEnd.ren,zaf,mbF.fren,zac,List.getElem?_cons_zero,List.getElem?_cons_succ]),(by show AEnd.ren ([0]) _ _;first | rfl | simp [LM1,zah,zae,renL,AV.ren,AEnd.ren,zaf,mbF.fren,zac,List.getElem?_cons_zero,List.getElem?_cons_succ]),?_⟩
   try simp -implicitDefEqProofs only [LM8,eq_self,zaa,zab,Nat.zero_mul,TB,SB,Int.reduceToNat,Nat.reduceAdd,Nat.reduceEqDiff,Nat.reduceLT,Nat.reduceMod,Nat.reducePow,Nat.reduceSub,if_true,reduceIte]
   refine zco ?_
   rw [hF,if_neg n91,if_neg n123,if_neg n34,if_neg nn,hx]
  | ok x =>
   rw [hx] at hl
   dsimp only at hl
   refine ACalls.frame ([0]) (hl) rfl (by decide) (by simp [LM1,zah,zae,renL,AV.ren,AEnd.ren,zaf,mbF.fren,zac,List.getElem?_cons_zero,List.getElem?_cons_succ]) (by first | rfl | simp [LM1,zah,zae,renL,AV.ren,AEnd.ren,zaf,mbF.fren,zac,List.getElem?_cons_zero,List.getElem?_cons_succ]) ?_
   rintro _ _ ⟨rfl,rfl⟩
   refine⟨.ret (slN x.1.1),[.rw (rC s ((p+x.2:Nat):Int) x.1.2)],(by show zae _ _ ([0]) ([0]) 0 _;simp [LM1,zah,zae,renL,AV.ren,AEnd.ren,zaf,mbF.fren,zac,List.getElem?_cons_zero,List.getElem?_cons_succ]),(by show AEnd.ren ([0]) _ _;first | rfl | simp [LM1,zah,zae,renL,AV.ren,AEnd.ren,zaf,mbF.fren,zac,List.getElem?_cons_zero,List.getElem?_cons_succ]),?_⟩
   try simp -implicitDefEqProofs only [LM8,eq_self,zaa,zab,Nat.zero_mul,TB,SB,Int.reduceToNat,Nat.reduceAdd,Nat.reduceEqDiff,Nat.reduceLT,Nat.reduceMod,Nat.reducePow,Nat.reduceSub,if_true,reduceIte]
   refine zcc [0] _ _ rfl rfl (by decide) (zac _ _) (keepR _ _ _) ?_
   rw [hF,if_neg n91,if_neg n123,if_neg n34,if_neg nn,hx]
   exact⟨rfl,rfl⟩
end Go.Proofs.YtamcppdhkeiaiaaGreatDoor
end

section
namespace Go.Proofs.YtamcppdhkeiaiaaGreatDoor
open Go Go.Eng
def docR (s:List UInt8):Except Nat ((List Nd × Int) × Nat):=match pvF (s.length+1) (-1) (zaD s) (s.drop (zaD s)) with
 | .error k=>.error (zaD s+k)
 | .ok x=>if zaD s+x.2+zaD (s.drop (zaD s+x.2)) < s.length then .error (zaD s+x.2+zaD (s.drop (zaD s+x.2))) else .ok (x.1,zaD s+x.2+zaD (s.drop (zaD s+x.2)))
theorem document_ok (s:List UInt8) (N:Nat) (hs:s.length≤100000000) (hS:zji N) (hN:s.length≤N * 5):ACalls Tryz.prog 52 [.ptr 0 0] (rS s (0:Nat) (-1)) (outV s 0 (docR s)):=by
 have hsk:=zcW s 0 (-1) (by omega) (by omega)
 rw [List.drop_zero,Nat.zero_add] at hsk
 have hb:=zbx s
 have hv:=vals_ok s N hs hS hN (s.length+1) (zaD s) (-1) hb (by omega)
 have hg:=zcG (s.length+1) (-1) (zaD s) (s.drop (zaD s))
 unfold rS at hsk
 unfold outV rS at hv
 unfold rS
 refine ACalls.body T_ok Tryz.func52 (by kernel_rfl) rfl Tryz.ntmps52 (congrArg Array.toList Tryz.results52) ?_
 try simp -implicitDefEqProofs only [LM8,eq_self,zaa,zab,Nat.zero_mul,TB,SB,Int.reduceToNat,Nat.reduceAdd,Nat.reduceEqDiff,Nat.reduceLT,Nat.reduceMod,Nat.reducePow,Nat.reduceSub,if_true,reduceIte]
 refine ACalls.frame ([0]) (hsk) rfl (by decide) (by simp [LM1,zah,zae,renL,AV.ren,AEnd.ren,zaf,mbF.fren,zac,List.getElem?_cons_zero,List.getElem?_cons_succ]) (by first | rfl | simp [LM1,zah,zae,renL,AV.ren,AEnd.ren,zaf,mbF.fren,zac,List.getElem?_cons_zero,List.getElem?_cons_succ]) ?_
 rintro _ _ ⟨rfl,rfl⟩
 refine⟨.ret (.tup []),[.rw (rC s (zaD s:Nat) (-1))],(by show zae _ _ ([0]) ([0]) 0 _;simp [LM1,zah,zae,renL,AV.ren,AEnd.ren,zaf,mbF.fren,zac,List.getElem?_cons_zero,List.getElem?_cons_succ]),(by show AEnd.ren ([0]) _ _;first | rfl | simp [LM1,zah,zae,renL,AV.ren,AEnd.ren,zaf,mbF.fren,zac,List.getElem?_cons_zero,List.getElem?_cons_succ]),?_⟩
 try simp -implicitDefEqProofs only [LM8,eq_self,zaa,zab,Nat.zero_mul,TB,SB,Int.reduceToNat,Nat.reduceAdd,Nat.reduceEqDiff,Nat.reduceLT,Nat.reduceMod,Nat.reducePow,Nat.reduceSub,if_true,reduceIte]
 cases hx:pvF (s.length+1) (-1) (zaD s) (s.drop (zaD s)) with
 | error k =>
  rw [hx] at hv
  dsimp only at hv
  refine ACalls.frame ([0]) (hv) rfl (by decide) (by simp [LM1,zah,zae,renL,AV.ren,AEnd.ren,zaf,mbF.fren,zac,List.getElem?_cons_zero,List.getElem?_cons_succ]) (by first | rfl | simp [LM1,zah,zae,renL,AV.ren,AEnd.ren,zaf,mbF.fren,zac,List.getElem?_cons_zero,List.getElem?_cons_succ]) ?_
  rintro _ _ ⟨rfl,rfl⟩
  refine⟨.pan (flt ((zaD s+k:Nat):Int) 2),[.dead],(by show zae _ _ ([0]) ([0]) 0 _;simp [LM1,zah,zae,renL,AV.ren,AEnd.ren,zaf,mbF.fren,zac,List.getElem?_cons_zero,List.getElem?_cons_succ]),(by show AEnd.ren ([0]) _ _;first | rfl | simp [LM1,zah,zae,renL,AV.ren,AEnd.ren,zaf,mbF.fren,zac,List.getElem?_cons_zero,List.getElem?_cons_succ]),?_⟩
  try simp -implicitDefEqProofs only [LM8,eq_self,zaa,zab,Nat.zero_mul,TB,SB,Int.reduceToNat,Nat.reduceAdd,Nat.reduceEqDiff,Nat.reduceLT,Nat.reduceMod,Nat.reducePow,Nat.reduceSub,if_true,reduceIte]
  rw [show zaD s+k=0+(zaD s+k) by omega]
  refine zco ?_
  rw [docR,hx]
 | ok x =>
  obtain⟨x,c⟩:=x
  rw [hx] at hv hg
  dsimp only at hv hg
  rw [List.length_drop] at hg
  refine ACalls.frame ([0]) (hv) rfl (by decide) (by simp [LM1,zah,zae,renL,AV.ren,AEnd.ren,zaf,mbF.fren,zac,List.getElem?_cons_zero,List.getElem?_cons_succ]) (by first | rfl | simp [LM1,zah,zae,renL,AV.ren,AEnd.ren,zaf,mbF.fren,zac,List.getElem?_cons_zero,List.getElem?_cons_succ]) ?_
  rintro _ _ ⟨rfl,rfl⟩
  refine⟨.ret (slN x.1),[.rw (rC s ((zaD s+c:Nat):Int) x.2)],(by show zae _ _ ([0]) ([0]) 0 _;simp [LM1,zah,zae,renL,AV.ren,AEnd.ren,zaf,mbF.fren,zac,List.getElem?_cons_zero,List.getElem?_cons_succ]),(by show AEnd.ren ([0]) _ _;first | rfl | simp [LM1,zah,zae,renL,AV.ren,AEnd.ren,zaf,mbF.fren,zac,List.getElem?_cons_zero,List.getElem?_cons_succ]),?_⟩
  try simp -implicitDefEqProofs only [LM8,eq_self,zaa,zab,Nat.zero_mul,TB,SB,Int.reduceToNat,Nat.reduceAdd,Nat.reduceEqDiff,Nat.reduceLT,Nat.reduceMod,Nat.reducePow,Nat.reduceSub,if_true,reduceIte]
  have hb2:=zbx (s.drop (zaD s+c))
  rw [List.length_drop] at hb2
  have hsk2:=zcW s (zaD s+c) x.2 (by omega) (by omega)
  obtain⟨e,he⟩:∃ e,e=zaD s+c+zaD (s.drop (zaD s+c)):=⟨_,rfl⟩
  rw [← he] at hsk2
  unfold rS at hsk2
  refine ACalls.frame ([0]) (hsk2) rfl (by decide) (by simp [LM1,zah,zae,renL,AV.ren,AEnd.ren,zaf,mbF.fren,zac,List.getElem?_cons_zero,List.getElem?_cons_succ]) (by first | rfl | simp [LM1,zah,zae,renL,AV.ren,AEnd.ren,zaf,mbF.fren,zac,List.getElem?_cons_zero,List.getElem?_cons_succ]) ?_
  rintro _ _ ⟨rfl,rfl⟩
  refine⟨.ret (.tup []),[.rw (rC s (e:Nat) x.2)],(by show zae _ _ ([0]) ([0]) 0 _;simp [LM1,zah,zae,renL,AV.ren,AEnd.ren,zaf,mbF.fren,zac,List.getElem?_cons_zero,List.getElem?_cons_succ]),(by show AEnd.ren ([0]) _ _;first | rfl | simp [LM1,zah,zae,renL,AV.ren,AEnd.ren,zaf,mbF.fren,zac,List.getElem?_cons_zero,List.getElem?_cons_succ]),?_⟩
  try simp -implicitDefEqProofs only [LM8,eq_self,zaa,zab,Nat.zero_mul,TB,SB,Int.reduceToNat,Nat.reduceAdd,Nat.reduceEqDiff,Nat.reduceLT,Nat.reduceMod,Nat.reducePow,Nat.reduceSub,if_true,reduceIte]
  have hdoc:docR s=if e < s.length then .error e else .ok (x,e):=by rw [docR,hx,he]
  have hf:=zgV s e x.2 e
  unfold rS at hf
  refine zdK (by kernel_rfl) (by kernel_rfl) ?_
  try simp -implicitDefEqProofs only [LM8,eq_self,zaa,zab,Nat.zero_mul,TB,SB,Int.reduceToNat,Nat.reduceAdd,Nat.reduceEqDiff,Nat.reduceLT,Nat.reduceMod,Nat.reducePow,Nat.reduceSub,if_true,reduceIte]
  refine⟨fun hlt=>?_,fun hge=>?_⟩
  ·skip
   refine ACalls.frame ([0]) (hf) rfl (by decide) (by simp [LM1,zah,zae,renL,AV.ren,AEnd.ren,zaf,mbF.fren,zac,List.getElem?_cons_zero,List.getElem?_cons_succ]) (by first | rfl | simp [LM1,zah,zae,renL,AV.ren,AEnd.ren,zaf,mbF.fren,zac,List.getElem?_cons_zero,List.getElem?_cons_succ]) ?_
   rintro _ _ ⟨rfl,rfl⟩
   refine⟨.pan (flt (e:Nat) 2),[.dead],(by show zae _ _ ([0]) ([0]) 0 _;simp [LM1,zah,zae,renL,AV.ren,AEnd.ren,zaf,mbF.fren,zac,List.getElem?_cons_zero,List.getElem?_cons_succ]),(by show AEnd.ren ([0]) _ _;first | rfl | simp [LM1,zah,zae,renL,AV.ren,AEnd.ren,zaf,mbF.fren,zac,List.getElem?_cons_zero,List.getElem?_cons_succ]),?_⟩
   try simp -implicitDefEqProofs only [LM8,eq_self,zaa,zab,Nat.zero_mul,TB,SB,Int.reduceToNat,Nat.reduceAdd,Nat.reduceEqDiff,Nat.reduceLT,Nat.reduceMod,Nat.reducePow,Nat.reduceSub,if_true,reduceIte]
   rw [show e=0+e by omega]
   refine zco ?_
   rw [hdoc,if_pos (by omega)]
  ·refine zcc [0] _ _ rfl rfl (by decide) (zac _ _) (keepR _ _ _) ?_
   rw [hdoc,if_neg (by omega)]
   exact⟨rfl,by rw [Nat.zero_add];rfl⟩
end Go.Proofs.YtamcppdhkeiaiaaGreatDoor
end

section
namespace Go.Proofs.YtamcppdhkeiaiaaGreatDoor
open Go Go.Eng
set_option linter.defProp false in
def LB15:=And.intro @kontP_eq (And.intro @WP_skip (And.intro @WP_region (And.intro @WP_seq (@WP_cond))))
section
variable {σ : zad} {K : AV → Prop} {KS : AV → zad → Prop} {s : List UInt8}
def fltA (p n:Int):AV:=.agg [i64 p,i64 n]
theorem zbi (x:AV):recV (some x)=x:=rfl
theorem zbj:recV none=.lit .nilIface:=rfl
theorem zcf (p n:Int):zdE (flt p n)=some (107,fltA p n):=rfl
theorem zcg:zdE (AV.lit .nilIface)=none:=rfl
theorem zch (x y:AV) (P:Program):ass2 P (some tyPf) 107 true (some (107,x)) y K=K (.tup [x,bl true]):=by simp [ass2,tyPf,TD.conc,bl]
theorem zci (P:Program):ass2 P (some tyPf) 107 true none (AV.lit .nilIface) K=K (.tup [fltA 0 0,bl false]):=by simp [ass2,tyPf,TD.conc,bl,zAV,zaS,fltA,i64]
theorem al_f (e:TypeId):al1 T e (some tyPf) σ KS=KS (.ptr σ.length 0) (σ++[.rw [i64 0,i64 0]]):=by
 simp [al1,tyPf,zaS,i64]
theorem st_f (a b:AV) (p n:Int) (id:Nat):st2 (some tyPf) (some (.rw [a,b])) id 0 (fltA p n) σ KS=KS (.lit undef) (σ.set id (.rw [i64 p,i64 n])):=by
 simp [st2,tyPf,fltA,AV.cells,zbf,zcl]
theorem ld_f (p n:Int):ld2 (some tyPf) (some [i64 p,i64 n]) 0 K=K (fltA p n):=by
 simp [ld2,wfin,tyPf,TD.agg,fltA]
theorem zc0 (e:TypeId):al1 T e (some tyI) σ KS=KS (.ptr σ.length 0) (σ++[.rw [.lit .nilIface]]):=by
 simp [al1,tyI,zaS]
theorem zc1 (c:AV) (t:TypeId) (x:AV) (id:Nat):st2 (some tyI) (some (.rw [c])) id 0 (.ifc t x) σ KS=KS (.lit undef) (σ.set id (.rw [.ifc t x])):=by
 simp [st2,tyI,AV.cells,zbf,AV.one]
theorem zcj (c:AV) (id:Nat):st2 (some tyI) (some (.rw [c])) id 0 (.lit .nilIface) σ KS=KS (.lit undef) (σ.set id (.rw [.lit .nilIface])):=by
 simp [st2,tyI,AV.cells,zbf,AV.one,Value.oneCell']
theorem zc2 (x:AV):ld2 (some tyI) (some [x]) 0 K=K x:=by simp [ld2,wfin,tyI,TD.agg]
theorem zeZ (e:TypeId):al1 T e (some tyPr) σ KS=KS (.ptr σ.length 0) (σ++[.rw (rC [] 0 0)]):=by
 simp [al1,tyPr,zaS,rC,i64,str]
theorem ze0:zbl T 110 [(0,str s),(2,i64 (-1))] K=K (.agg (rC s 0 (-1))):=by
 simp [zbl,T110,tyPr,T9,T3,zb9,zaS,zgQ,zd5,zc8,zcl,zbf,zaW,tyStr,rC,i64]
 try rfl
theorem ze1 (id:Nat):st2 (some tyPr) (some (.rw (rC [] 0 0))) id 0 (.agg (rC s 0 (-1))) σ KS=KS (.lit undef) (σ.set id (.rw (rC s 0 (-1)))):=by
 simp [st2,tyPr,AV.cells,zbf,rC,zcl,zd5]
theorem zc3 (e:TypeId) (id:Nat) (c:AV) (l:List Nd):st2 (some (tySl e)) (some (.rw [c])) id 0 (slN l) σ KS=KS (.lit undef) (σ.set id (.rw [slN l])):=by
 simp [st2,tySl,AV.cells,AV.one,zbf,slN]
end
def rd1T:Tr:=(.br 0 (.br 1 (.br 2 (.br 3 .done .nil) .nil) (.br 2 (.br 1 (.br 3 .done .nil) .nil) .nil)) (.br 2 (.br 0 (.br 1 (.br 3 .done .nil) .nil) .nil) .nil))
theorem rd1P_ok (a b:AV) (p n:Int) (c:Blk) (K:zad→Prop) (h:K [.rw [nilS],.rw [flt p n],c,.rw [i64 p,i64 n]]):DCalls Tryz.prog 51 [.ptr 0 0,.ptr 1 0] [.rw [a],.rw [b],c] (some (flt p n)) K:=by
 refine DCalls.bodyL T_ok Tryz.func51 rfl Tryz.ntmps51 Tryz.results51 rfl ?_
 try simp -implicitDefEqProofs only [LM8,LB15,eq_self,zaa,zab,Nat.zero_mul,zc3,zbi,zbj,zcf,zcg,zch,zci,al_f,st_f,ld_f,zc0,zc1,zcj,zc2,zeZ,ze0,ze1,TB,SB,Int.reduceToNat,Nat.reduceAdd,Nat.reduceEqDiff,Nat.reduceLT,Nat.reduceMod,Nat.reducePow,Nat.reduceSub,if_true,reduceIte]
 refine WP_drawX rd1T (by kernel_rfl) (by kernel_rfl) ?_
 unfold rd1T
 try simp -implicitDefEqProofs only [LM8,LB15,eq_self,zaa,zab,Nat.zero_mul,zc3,zbi,zbj,zcf,zcg,zch,zci,al_f,st_f,ld_f,zc0,zc1,zcj,zc2,zeZ,ze0,ze1,TB,SB,Int.reduceToNat,Nat.reduceAdd,Nat.reduceEqDiff,Nat.reduceLT,Nat.reduceMod,Nat.reducePow,Nat.reduceSub,if_true,reduceIte]
 repeat' with_reducible refine And.intro ?_ ?_
 all_goals
  refine zeo ?_
  try simp -implicitDefEqProofs only [LM8,LB15,eq_self,zaa,zab,Nat.zero_mul,zc3,zbi,zbj,zcf,zcg,zch,zci,al_f,st_f,ld_f,zc0,zc1,zcj,zc2,zeZ,ze0,ze1,TB,SB,Int.reduceToNat,Nat.reduceAdd,Nat.reduceEqDiff,Nat.reduceLT,Nat.reduceMod,Nat.reducePow,Nat.reduceSub,if_true,reduceIte]
  exact h
theorem rd1N_ok (a b:AV) (c:Blk) (K:zad→Prop) (h:K [.rw [a],.rw [b],c,.rw [i64 0,i64 0]]):DCalls Tryz.prog 51 [.ptr 0 0,.ptr 1 0] [.rw [a],.rw [b],c] none K:=by
 refine DCalls.bodyL T_ok Tryz.func51 rfl Tryz.ntmps51 Tryz.results51 rfl ?_
 try simp -implicitDefEqProofs only [LM8,LB15,eq_self,zaa,zab,Nat.zero_mul,zc3,zbi,zbj,zcf,zcg,zch,zci,al_f,st_f,ld_f,zc0,zc1,zcj,zc2,zeZ,ze0,ze1,TB,SB,Int.reduceToNat,Nat.reduceAdd,Nat.reduceEqDiff,Nat.reduceLT,Nat.reduceMod,Nat.reducePow,Nat.reduceSub,if_true,reduceIte]
 exact h
def zgy (s:List UInt8):Except (Int × Int) (List Nd):=match docR s with
 | .error k=>.error ((k:Int),2)
 | .ok x=>if 0≤x.1.2 then .error (x.1.2,7) else if zaI x.1.1=0 then .ok x.1.1 else .error (0,zaI x.1.1)
def zgz (s:List UInt8):AV:=match zgy s with
 | .error e=>.tup [nilS,flt e.1 e.2]
 | .ok l=>.tup [slN l,.lit .nilIface]
def rdT:Tr:=(.br 0 (.br 1 (.br 2 (.br 3 (.br 4 (.br 5 .done .nil) .nil) (.br 4 (.br 3 (.br 5 .done .nil) .nil) .nil)) (.br 4 (.br 2 (.br 3 (.br 5 .done .nil) .nil) .nil) .nil)) (.br 4 (.br 1 (.br 2 (.br 3 (.br 5 .done .nil) .nil) .nil) .nil) .nil)) (.br 4 (.br 0 (.br 1 (.br 2 (.br 3 (.br 5 .done .nil) .nil) .nil) .nil) .nil) .nil))
theorem zj4 (q:List Nat) (p n:Int):(AV.tup [nilS,flt p n]).ren q=some (AV.tup [nilS,flt p n]):=by
 simp [AV.ren,renL,za0,zaf]
theorem pread_ok (s:List UInt8) (N:Nat) (hs:s.length≤1000000) (hS:zji N) (hN:s.length≤N * 5):ACalls Tryz.prog 37 [str s] [] (fun y _=>y=.ret (zgz s)):=by
 have hd:=document_ok s N (by omega) hS hN
 have hg:=zcG (s.length+1) (-1) (zaD s) (s.drop (zaD s))
 have hlen:∀ x e,docR s=.ok (x,e)→x.1.length≤s.length:=by
  intro x e hx
  rw [docR] at hx
  cases hp:pvF (s.length+1) (-1) (zaD s) (s.drop (zaD s)) with
  | error k=>rw [hp] at hx;cases hx
  | ok y =>
   rw [hp] at hx hg
   dsimp only at hx hg
   rw [List.length_drop] at hg
   split at hx
   ·cases hx
   ·injection hx with hx
    injection hx with h1 h2
    rw [← h1]
    omega
 unfold outV rS at hd
 refine ACalls.bodyD T_ok Tryz.func37 (by kernel_rfl) rfl Tryz.ntmps37 (congrArg Array.toList Tryz.results37) ?_
 rw [WD_none rfl]
 try simp -implicitDefEqProofs only [LM8,LB15,eq_self,zaa,zab,Nat.zero_mul,zc3,zbi,zbj,zcf,zcg,zch,zci,al_f,st_f,ld_f,zc0,zc1,zcj,zc2,zeZ,ze0,ze1,TB,SB,Int.reduceToNat,Nat.reduceAdd,Nat.reduceEqDiff,Nat.reduceLT,Nat.reduceMod,Nat.reducePow,Nat.reduceSub,if_true,reduceIte]
 rw [WD_some rfl]
 try simp -implicitDefEqProofs only [LM8,LB15,eq_self,zaa,zab,Nat.zero_mul,zc3,zbi,zbj,zcf,zcg,zch,zci,al_f,st_f,ld_f,zc0,zc1,zcj,zc2,zeZ,ze0,ze1,TB,SB,Int.reduceToNat,Nat.reduceAdd,Nat.reduceEqDiff,Nat.reduceLT,Nat.reduceMod,Nat.reducePow,Nat.reduceSub,if_true,reduceIte]
 refine⟨by kernel_rfl,?_⟩
 try simp -implicitDefEqProofs only [LM8,LB15,eq_self,zaa,zab,Nat.zero_mul,zc3,zbi,zbj,zcf,zcg,zch,zci,al_f,st_f,ld_f,zc0,zc1,zcj,zc2,zeZ,ze0,ze1,TB,SB,Int.reduceToNat,Nat.reduceAdd,Nat.reduceEqDiff,Nat.reduceLT,Nat.reduceMod,Nat.reducePow,Nat.reduceSub,if_true,reduceIte]
 rw [show (AV.lit (.slice none 0 0))=nilS from rfl]
 cases hx:docR s with
 | error k =>
  rw [hx] at hd
  dsimp only at hd
  refine ACalls.frame ([2]) (hd) rfl (by decide) (by simp [LM1,zah,zae,renL,AV.ren,AEnd.ren,zaf,mbF.fren,zac,List.getElem?_cons_zero,List.getElem?_cons_succ]) (by first | rfl | simp [LM1,zah,zae,renL,AV.ren,AEnd.ren,zaf,mbF.fren,zac,List.getElem?_cons_zero,List.getElem?_cons_succ]) ?_
  rintro _ _ ⟨rfl,rfl⟩
  refine⟨.pan (flt ((0+k:Nat):Int) 2),[.rw [nilS],.rw [.lit .nilIface],.dead],(by show zae _ _ ([1,1,0]) ([1,1,0]) 0 _;simp [LM1,zah,zae,renL,AV.ren,AEnd.ren,zaf,mbF.fren,zac,List.getElem?_cons_zero,List.getElem?_cons_succ]),(by show AEnd.ren ([1,1,0]) _ _;first | rfl | simp [LM1,zah,zae,renL,AV.ren,AEnd.ren,zaf,mbF.fren,zac,List.getElem?_cons_zero,List.getElem?_cons_succ]),?_⟩
  try simp -implicitDefEqProofs only [LM8,LB15,eq_self,zaa,zab,Nat.zero_mul,zc3,zbi,zbj,zcf,zcg,zch,zci,al_f,st_f,ld_f,zc0,zc1,zcj,zc2,zeZ,ze0,ze1,TB,SB,Int.reduceToNat,Nat.reduceAdd,Nat.reduceEqDiff,Nat.reduceLT,Nat.reduceMod,Nat.reducePow,Nat.reduceSub,if_true,reduceIte]
  refine rd1P_ok _ _ _ _ _ _ ?_
  try simp -implicitDefEqProofs only [LM8,LB15,eq_self,zaa,zab,Nat.zero_mul,zc3,zbi,zbj,zcf,zcg,zch,zci,al_f,st_f,ld_f,zc0,zc1,zcj,zc2,zeZ,ze0,ze1,TB,SB,Int.reduceToNat,Nat.reduceAdd,Nat.reduceEqDiff,Nat.reduceLT,Nat.reduceMod,Nat.reducePow,Nat.reduceSub,if_true,reduceIte]
  refine zax (zj4 _ _ _) ?_
  rw [zgz,zgy,hx]
 | ok x =>
  obtain⟨x,e⟩:=x
  rw [hx] at hd
  dsimp only at hd
  have hxl:=hlen x e hx
  refine ACalls.frame ([2]) (hd) rfl (by decide) (by simp [LM1,zah,zae,renL,AV.ren,AEnd.ren,zaf,mbF.fren,zac,List.getElem?_cons_zero,List.getElem?_cons_succ]) (by first | rfl | simp [LM1,zah,zae,renL,AV.ren,AEnd.ren,zaf,mbF.fren,zac,List.getElem?_cons_zero,List.getElem?_cons_succ]) ?_
  rintro _ _ ⟨rfl,rfl⟩
  refine⟨.ret (slN x.1),[.rw [nilS],.rw [.lit .nilIface],.rw (rC s ((0+e:Nat):Int) x.2)],(by show zae _ _ ([1,1,0]) ([1,1,0]) 0 _;simp [LM1,zah,zae,renL,AV.ren,AEnd.ren,zaf,mbF.fren,zac,List.getElem?_cons_zero,List.getElem?_cons_succ]),(by show AEnd.ren ([1,1,0]) _ _;first | rfl | simp [LM1,zah,zae,renL,AV.ren,AEnd.ren,zaf,mbF.fren,zac,List.getElem?_cons_zero,List.getElem?_cons_succ]),?_⟩
  try simp -implicitDefEqProofs only [LM8,LB15,eq_self,zaa,zab,Nat.zero_mul,zc3,zbi,zbj,zcf,zcg,zch,zci,al_f,st_f,ld_f,zc0,zc1,zcj,zc2,zeZ,ze0,ze1,TB,SB,Int.reduceToNat,Nat.reduceAdd,Nat.reduceEqDiff,Nat.reduceLT,Nat.reduceMod,Nat.reducePow,Nat.reduceSub,if_true,reduceIte]
  try simp -implicitDefEqProofs only [LM8,LB15,eq_self,zaa,zab,Nat.zero_mul,zc3,zbi,zbj,zcf,zcg,zch,zci,al_f,st_f,ld_f,zc0,zc1,zcj,zc2,zeZ,ze0,ze1,TB,SB,Int.reduceToNat,Nat.reduceAdd,Nat.reduceEqDiff,Nat.reduceLT,Nat.reduceMod,Nat.reducePow,Nat.reduceSub,if_true,reduceIte]
  have hE:zgy s=if 0≤x.2 then .error (x.2,7) else if zaI x.1=0 then .ok x.1 else .error (0,zaI x.1):=by rw [zgy,hx]
  refine⟨fun h0=>?_,fun h0=>?_⟩
  ·refine zh8 rdT (by kernel_rfl) (by kernel_rfl) ?_
   unfold rdT
   try simp -implicitDefEqProofs only [LM8,LB15,eq_self,zaa,zab,Nat.zero_mul,zc3,zbi,zbj,zcf,zcg,zch,zci,al_f,st_f,ld_f,zc0,zc1,zcj,zc2,zeZ,ze0,ze1,TB,SB,Int.reduceToNat,Nat.reduceAdd,Nat.reduceEqDiff,Nat.reduceLT,Nat.reduceMod,Nat.reducePow,Nat.reduceSub,if_true,reduceIte]
   repeat' with_reducible refine And.intro ?_ ?_
   all_goals
    refine zeo ?_
    try simp -implicitDefEqProofs only [LM8,LB15,eq_self,zaa,zab,Nat.zero_mul,zc3,zbi,zbj,zcf,zcg,zch,zci,al_f,st_f,ld_f,zc0,zc1,zcj,zc2,zeZ,ze0,ze1,TB,SB,Int.reduceToNat,Nat.reduceAdd,Nat.reduceEqDiff,Nat.reduceLT,Nat.reduceMod,Nat.reducePow,Nat.reduceSub,if_true,reduceIte]
    rw [show (AV.lit (.slice none 0 0))=nilS from rfl]
    refine rd1N_ok _ _ _ _ ?_
    try simp -implicitDefEqProofs only [LM8,LB15,eq_self,zaa,zab,Nat.zero_mul,zc3,zbi,zbj,zcf,zcg,zch,zci,al_f,st_f,ld_f,zc0,zc1,zcj,zc2,zeZ,ze0,ze1,TB,SB,Int.reduceToNat,Nat.reduceAdd,Nat.reduceEqDiff,Nat.reduceLT,Nat.reduceMod,Nat.reducePow,Nat.reduceSub,if_true,reduceIte]
    refine zax (zj4 _ _ _) ?_
    rw [zgz,hE,if_pos h0]
    rfl
  ·have hck:ACalls Tryz.prog 17 [slN x.1] [] (fun y _=>y=.ret (i64 (zaI x.1))):=(zeH x.1 (by omega)).mono fun _ _ h=>h.1
   refine hck.pure (by simp [renL,zac]) ?_
   rintro _ σ rfl
   refine⟨by simp [AEnd.noid,zag],?_⟩
   try simp -implicitDefEqProofs only [LM8,LB15,eq_self,zaa,zab,Nat.zero_mul,zc3,zbi,zbj,zcf,zcg,zch,zci,al_f,st_f,ld_f,zc0,zc1,zcj,zc2,zeZ,ze0,ze1,TB,SB,Int.reduceToNat,Nat.reduceAdd,Nat.reduceEqDiff,Nat.reduceLT,Nat.reduceMod,Nat.reducePow,Nat.reduceSub,if_true,reduceIte]
   refine⟨fun h1=>?_,fun h1=>?_⟩
   ·rw [show (AV.lit (.slice none 0 0))=nilS from rfl]
    refine rd1N_ok _ _ _ _ ?_
    try simp -implicitDefEqProofs only [LM8,LB15,eq_self,zaa,zab,Nat.zero_mul,zc3,zbi,zbj,zcf,zcg,zch,zci,al_f,st_f,ld_f,zc0,zc1,zcj,zc2,zeZ,ze0,ze1,TB,SB,Int.reduceToNat,Nat.reduceAdd,Nat.reduceEqDiff,Nat.reduceLT,Nat.reduceMod,Nat.reducePow,Nat.reduceSub,if_true,reduceIte]
    refine zax (zj4 _ 0 (zaI x.1)) ?_
    rw [zgz,hE,if_neg h0,if_neg h1]
    rfl
   ·refine rd1N_ok _ _ _ _ ?_
    try simp -implicitDefEqProofs only [LM8,LB15,eq_self,zaa,zab,Nat.zero_mul,zc3,zbi,zbj,zcf,zcg,zch,zci,al_f,st_f,ld_f,zc0,zc1,zcj,zc2,zeZ,ze0,ze1,TB,SB,Int.reduceToNat,Nat.reduceAdd,Nat.reduceEqDiff,Nat.reduceLT,Nat.reduceMod,Nat.reducePow,Nat.reduceSub,if_true,reduceIte]
    refine zax (by simp [AV.ren,renL,zac]) ?_
    rw [zgz,hE,if_neg h0,if_pos h1]
end Go.Proofs.YtamcppdhkeiaiaaGreatDoor
end

section
namespace Go.Proofs.YtamcppdhkeiaiaaGreatDoor
open Go Go.Eng
open Go.Extern
def hnd (t:Nat):Value:=.pointer (some ⟨7,t,none⟩)
def rvA (t k fl:Nat):AV:=.agg [.lit (hnd t),.ptr k 0,.lit (.int .u64 (fl:Int))]
theorem zdb {vs:Array Value} {v:Value} (h:vs.toList=[v]):vs=#[v]:=Array.ext' (by simpa using h)
theorem two_arg {vs:Array Value} {v u:Value} (h:vs.toList=[v,u]):vs=#[v,u]:=Array.ext' (by simpa using h)
theorem unpackP (t:Addr) (w:World):(ReflectliteValue.unpack (.iface 114 (.pointer (some t)))).run Tryz.prog w=.ok (.agg #[hnd 114,.pointer (some ⟨w.heap.size,0,none⟩),.int .u64 150]) (w.alloc (.cells #[.pointer (some t)] 114)):=by kernel_rfl
theorem unpackE (n:Int) (w:World):(ReflectliteValue.unpack (.iface 25 (.int .i64 n))).run Tryz.prog w=.ok (.agg #[hnd 25,.pointer (some ⟨w.heap.size,0,none⟩),.int .u64 130]) (w.alloc (.cells #[.int .i64 n] 25)):=by kernel_rfl
theorem zgZ {w:World} {O:Nat→Prop} {m:Ids} {t k fl g:Nat} (hm:m[k]?=some (some g)):rep w O m (rvA t k fl) (.agg #[hnd t,.pointer (some ⟨g,0,none⟩),.int .u64 (fl:Int)]):=by
 simp only [rvA,rep,reps]
 exact⟨_,rfl,_,_,rfl,rfl,_,_,rfl,⟨g,rfl,hm⟩,_,_,rfl,rfl,rfl⟩
theorem zd7 {w:World} {O:Nat→Prop} {m:Ids} {t k fl:Nat} {v:Value} (h:rep w O m (rvA t k fl) v):∃ g,m[k]?=some (some g)∧v=.agg #[hnd t,.pointer (some ⟨g,0,none⟩),.int .u64 (fl:Int)]:=by
 simp only [rvA,rep,reps] at h
 obtain⟨a,rfl,_,_,e1,rfl,_,_,rfl,⟨g,rfl,hm⟩,_,_,rfl,rfl,rfl⟩:=h
 exact⟨g,hm,by congr 1;exact Array.ext' (by simpa using e1)⟩
theorem valueOfP (id off : Nat) (σ : zad) : ACalls Tryz.prog 69 [.ifc 114 (.ptr id off)] σ (fun x σ' => x = .ret (rvA 114 σ.length 150) ∧ σ' = σ ++ [.rw [.ptr id off]]) := by
 refine ACalls.externK (by kernel_rfl) fun H w m vs hs hr=>?_
 simp only [reps,rep] at hr
 obtain⟨_,_,e1,⟨u,rfl,g,rfl,hm⟩,rfl⟩:=hr
 obtain rfl:=zdb e1
 obtain⟨s1,x1⟩:=hs.alloc (w':=w.alloc (.cells #[.pointer (some ⟨g,off,none⟩)] 114)) (c:=#[.pointer (some ⟨g,off,none⟩)]) (e:=114) (lo:=0) (hi:=0) (cs:=[.ptr id off]) rfl (.inl (Nat.le_refl _)) rfl rfl rfl (by simp) (fun j x hx=>by
  match j,hx with
  | 0,hx=>cases hx;exact⟨_,rfl,by simp only [rep];exact⟨g,rfl,hm⟩⟩)
 refine⟨_,_,_,_,_,by rw [run_callFunc_extern Tryz.func69 (by kernel_rfl) (by kernel_rfl) (by kernel_rfl) (e:=fun args=>ReflectliteValue.unpack (args.getD 0 (.tuple #[]))) (by kernel_rfl)];exact congrArg (fun r=>Result.andThen r _) (unpackP _ w),s1,x1,zgZ (zfQ hs _),rfl,rfl⟩
theorem valueOfE (n : Int) (σ : zad) : ACalls Tryz.prog 69 [.ifc 25 (i64 n)] σ (fun x σ' => x = .ret (rvA 25 σ.length 130) ∧ σ' = σ ++ [.rw [i64 n]]) := by
 refine ACalls.externK (by kernel_rfl) fun H w m vs hs hr=>?_
 simp only [reps,rep,i64] at hr
 obtain⟨_,_,e1,⟨u,rfl,rfl⟩,rfl⟩:=hr
 obtain rfl:=zdb e1
 obtain⟨s1,x1⟩:=hs.alloc (w':=w.alloc (.cells #[.int .i64 n] 25)) (c:=#[.int .i64 n]) (e:=25) (lo:=0) (hi:=0) (cs:=[i64 n]) rfl (.inl (Nat.le_refl _)) rfl rfl rfl (by simp) (fun j x hx=>by
  match j,hx with
  | 0,hx=>cases hx;exact⟨.int .i64 n,rfl,by simp only [rep,i64]⟩)
 refine⟨_,_,_,_,_,by rw [run_callFunc_extern Tryz.func69 (by kernel_rfl) (by kernel_rfl) (by kernel_rfl) (e:=fun args=>ReflectliteValue.unpack (args.getD 0 (.tuple #[]))) (by kernel_rfl)];exact congrArg (fun r=>Result.andThen r _) (unpackE _ w),s1,x1,zgZ (zfQ hs _),rfl,rfl⟩
theorem run_type (a : Addr) (w : World) : (ReflectliteValue.methodAny (ReflectliteValue.valueError "reflectlite.Value.Type" 0) (fun t _ _ _ => ReflectliteType.toType t) #[.agg #[hnd 114, .pointer (some a), .int .u64 150]]).run Tryz.prog w = .ok (zb1 7 114) w := by kernel_rfl
theorem valueType (k : Nat) (σ : zad) : ACalls Tryz.prog 70 [rvA 114 k 150] σ (fun x σ' => x = .ret (.lit (zb1 7 114)) ∧ σ' = σ) := by
 refine ACalls.extern (by kernel_rfl) fun w O m vs hr=>?_
 simp only [reps] at hr
 obtain⟨v,_,e1,hv,rfl⟩:=hr
 obtain⟨g,hm,rfl⟩:=zd7 hv
 obtain rfl:=zdb e1
 refine ⟨_, by rw [run_callFunc_extern Tryz.func70 (by kernel_rfl) (by kernel_rfl) (by kernel_rfl) (e := ReflectliteValue.methodAny (ReflectliteValue.valueError "reflectlite.Value.Type" 0) (fun t _ _ _ => ReflectliteType.toType t)) (by kernel_rfl)]; exact congrArg (fun r => Result.andThen r _) (run_type _ w), by simp only [rep]⟩
theorem partsP (a:Addr) (w:World):(ReflectliteValue.parts (.agg #[hnd 114,.pointer (some a),.int .u64 150])).run Tryz.prog w=.ok (some (114,a,150)) w:=by kernel_rfl
theorem partsE (a:Addr) (w:World):(ReflectliteValue.parts (.agg #[hnd 25,.pointer (some a),.int .u64 130])).run Tryz.prog w=.ok (some (25,a,130)) w:=by kernel_rfl
theorem partsV (a:Addr) (w:World):(ReflectliteValue.parts (.agg #[hnd 25,.pointer (some a),.int .u64 386])).run Tryz.prog w=.ok (some (25,a,386)) w:=by kernel_rfl
theorem loadP {w:World} {a:Addr} {v:Value} (h:w.cell? a=some v):(loadVar 114 a).run Tryz.prog w=.ok v w:=by
 unfold loadVar
 rw [Sem.run_bind,(T_ok _ _ T114).run_isAgg]
 simp [zfd,TD.agg,run_load,h]
theorem loadE {w:World} {a:Addr} {v:Value} (h:w.cell? a=some v):(loadVar 25 a).run Tryz.prog w=.ok v w:=by
 unfold loadVar
 rw [Sem.run_bind,(T_ok _ _ T25).run_isAgg]
 simp [zaW,TD.agg,run_load,h]
theorem zix {H:Nat→Prop} {w:World} {m:Ids} {σ:zad} (hs:St H w m σ) {k g:Nat} {x:AV} (hk:σ[k]?=some (.rw [x])) (hm:m[k]?=some (some g)):∃ v,w.cell? ⟨g,0,none⟩=some v∧rep w (own H m σ) m x v:=by
 obtain⟨g',h1,h2⟩:=rd_at hs (show rd σ k=some [x] by simp [rd,hk]) (by simp)
 rw [hm] at h1
 cases h1
 simp only [zaX] at h2
 exact h2.1
theorem valueNil {k id off : Nat} {σ : zad} (hk : σ[k]? = some (.rw [.ptr id off])) : ACalls Tryz.prog 71 [rvA 114 k 150] σ (fun x σ' => x = .ret (bl false) ∧ σ' = σ) := by
 refine ACalls.externK (by kernel_rfl) fun H w m vs hs hr=>?_
 simp only [reps] at hr
 obtain⟨v,_,e1,hv,rfl⟩:=hr
 obtain⟨g,hm,rfl⟩:=zd7 hv
 obtain rfl:=zdb e1
 obtain⟨u,hc,hu⟩:=zix hs hk hm
 simp only [rep] at hu
 obtain⟨g2,rfl,_⟩:=hu
 have run : (ReflectliteValue.method (ReflectliteValue.valueError "reflectlite.Value.IsNil" 0) ReflectliteValue.isNil #[.agg #[hnd 114, .pointer (some ⟨g, 0, none⟩), .int .u64 ((150 : Nat) : Int)]]).run Tryz.prog w = .ok (.bool false) w := by
  rw [show ∀ z f,ReflectliteValue.method z f #[.agg #[hnd 114,.pointer (some ⟨g,0,none⟩),.int .u64 ((150:Nat):Int)]]=(ReflectliteValue.parts (.agg #[hnd 114,.pointer (some ⟨g,0,none⟩),.int .u64 ((150:Nat):Int)]) >>= _) from fun _ _=>rfl]
  rw [Sem.run_bind,show ((150:Nat):Int)=150 from rfl,partsP]
  simp [ReflectliteValue.isNil,loadP hc]
 refine ⟨_, _, .lit (.bool false), _, _, by rw [run_callFunc_extern Tryz.func71 (by kernel_rfl) (by kernel_rfl) (by kernel_rfl) (e := ReflectliteValue.method (ReflectliteValue.valueError "reflectlite.Value.IsNil" 0) ReflectliteValue.isNil) (by kernel_rfl)]; exact congrArg (fun r => Result.andThen r _) run, hs, Ext.refl _ _ _, by simp only [rep], rfl, rfl⟩
theorem elemOfP (w:World):(Rtype.elem? 114).run Tryz.prog w=.ok (some 25) w:=by kernel_rfl
theorem mkE (p:Addr) (w:World):(ReflectliteValue.mk 25 p ReflectliteValue.flagAddr).run Tryz.prog w=.ok (.agg #[hnd 25,.pointer (some p),.int .u64 386]) w:=by kernel_rfl
theorem valueElem {k id : Nat} {σ : zad} (hk : σ[k]? = some (.rw [.ptr id 0])) : ACalls Tryz.prog 90 [rvA 114 k 150] σ (fun x σ' => x = .ret (rvA 25 id 386) ∧ σ' = σ) := by
 refine ACalls.externK (by kernel_rfl) fun H w m vs hs hr=>?_
 simp only [reps] at hr
 obtain⟨v,_,e1,hv,rfl⟩:=hr
 obtain⟨g,hm,rfl⟩:=zd7 hv
 obtain rfl:=zdb e1
 obtain⟨u,hc,hu⟩:=zix hs hk hm
 simp only [rep] at hu
 obtain⟨g2,rfl,hm2⟩:=hu
 have run : (ReflectliteValue.method (ReflectliteValue.valueError "reflectlite.Value.Elem" 0) ReflectliteValue.elem #[.agg #[hnd 114, .pointer (some ⟨g, 0, none⟩), .int .u64 ((150 : Nat) : Int)]]).run Tryz.prog w = .ok (.agg #[hnd 25, .pointer (some ⟨g2, 0, none⟩), .int .u64 386]) w := by
  rw [show ∀ z f,ReflectliteValue.method z f #[.agg #[hnd 114,.pointer (some ⟨g,0,none⟩),.int .u64 ((150:Nat):Int)]]=(ReflectliteValue.parts (.agg #[hnd 114,.pointer (some ⟨g,0,none⟩),.int .u64 ((150:Nat):Int)]) >>= _) from fun _ _=>rfl]
  rw [Sem.run_bind,show ((150:Nat):Int)=150 from rfl,partsP]
  simp [ReflectliteValue.elem,loadP hc,elemOfP,mkE]
 refine ⟨_, _, _, _, _, by rw [run_callFunc_extern Tryz.func90 (by kernel_rfl) (by kernel_rfl) (by kernel_rfl) (e := ReflectliteValue.method (ReflectliteValue.valueError "reflectlite.Value.Elem" 0) ReflectliteValue.elem) (by kernel_rfl)]; exact congrArg (fun r => Result.andThen r _) run, hs, Ext.refl _ _ _, zgZ hm2, rfl, rfl⟩
theorem getLit1 {a b:Value} (h1:(#[a,b]:Array Value).size=2) (h2:1 < 2):(#[a,b]:Array Value).getLit 1 h1 h2=b:=rfl
theorem directE (w:World):(Rtype.directlyAssignable 25 25).run Tryz.prog w=.ok true w:=by kernel_rfl
theorem valueSet {j id : Nat} {n : Int} {old : AV} {σ : zad} (hj : σ[j]? = some (.rw [i64 n])) (hi : σ[id]? = some (.rw [old])) : ACalls Tryz.prog 91 [rvA 25 id 386, rvA 25 j 130] σ (fun x σ' => x = .ret (.tup []) ∧ σ' = σ.set id (.rw [i64 n])) := by
 refine ACalls.externK (by kernel_rfl) fun H w m vs hs hr=>?_
 simp only [reps] at hr
 obtain⟨v,_,e1,hv,v2,_,rfl,hv2,rfl⟩:=hr
 obtain⟨g,hm,rfl⟩:=zd7 hv
 obtain⟨g2,hm2,rfl⟩:=zd7 hv2
 obtain rfl:=two_arg e1
 obtain⟨u,hc,hu⟩:=zix hs hj hm2
 simp only [rep,i64] at hu
 subst hu
 have hst : zfK T 25 (.ptr id 0) (i64 n) σ (fun x σ' => σ' = σ.set id (.rw [i64 n])) := by
  simp [zfK,T25,hi,AV.cells,i64,zaW,AV.one,Value.oneCell',zbf]
 obtain ⟨w', m', σ', h1, h2, h3, rfl⟩ := ze2 T_ok (P := Tryz.prog) hs hst (show rep w (own H m σ) m (.ptr id 0) (.pointer (some ⟨g, 0, none⟩)) by simp only [rep]; exact ⟨g, rfl, hm⟩) (show rep w (own H m σ) m (i64 n) (.int .i64 n) by simp only [rep, i64])
 have h1':(storeVar 25 ⟨g,0,none⟩ (.int .i64 n)).run Tryz.prog w=.ok () w':=by
  simpa [Instr.storeAt,Instr.sureAddr] using h1
 have run:(ReflectliteValue.set #[.agg #[hnd 25,.pointer (some ⟨g,0,none⟩),.int .u64 ((386:Nat):Int)],.agg #[hnd 25,.pointer (some ⟨g2,0,none⟩),.int .u64 ((130:Nat):Int)]]).run Tryz.prog w=.ok (.tuple #[]) w':=by
  rw [show ReflectliteValue.set #[.agg #[hnd 25,.pointer (some ⟨g,0,none⟩),.int .u64 ((386:Nat):Int)],.agg #[hnd 25,.pointer (some ⟨g2,0,none⟩),.int .u64 ((130:Nat):Int)]]=(ReflectliteValue.parts (.agg #[hnd 25,.pointer (some ⟨g,0,none⟩),.int .u64 ((386:Nat):Int)]) >>= _) from rfl]
  simp only [Sem.run_bind,show ((386:Nat):Int)=386 from rfl,show ((130:Nat):Int)=130 from rfl,partsV,partsE,Result.andThen_ok]
  simp [ReflectliteValue.flagAddr,loadE hc,directE,h1',getLit1,partsE]
 refine⟨_,_,.tup [],m',_,by rw [run_callFunc_extern Tryz.func91 (by kernel_rfl) (by kernel_rfl) (by kernel_rfl) (e:=ReflectliteValue.set) (by kernel_rfl)];exact congrArg (fun r=>Result.andThen r _) run,h2,h3,by simp only [rep,reps];exact⟨_,rfl,rfl⟩,rfl,rfl⟩
theorem run_typeOfE (v:Value) (w:World):(ReflectliteType.typeOf #[.iface 25 v]).run Tryz.prog w=.ok (zb1 7 25) w:=by kernel_rfl
theorem run_typeOfF (v:Value) (w:World):(ReflectliteType.typeOf #[.iface 107 v]).run Tryz.prog w=.ok (zb1 7 107) w:=by kernel_rfl
theorem typeOfE (x : AV) (σ : zad) : ACalls Tryz.prog 89 [.ifc 25 x] σ (fun y σ' => y = .ret (.lit (zb1 7 25)) ∧ σ' = σ) := by
 refine ACalls.extern (by kernel_rfl) fun w O m vs hr=>?_
 simp only [reps,rep] at hr
 obtain⟨_,_,e1,⟨u,rfl,_⟩,rfl⟩:=hr
 obtain rfl:=zdb e1
 exact⟨_,by rw [run_callFunc_extern Tryz.func89 (by kernel_rfl) (by kernel_rfl) (by kernel_rfl) (e:=ReflectliteType.typeOf) (by kernel_rfl)];exact congrArg (fun r=>Result.andThen r _) (run_typeOfE _ w),by simp only [rep]⟩
theorem typeOfF (x : AV) (σ : zad) : ACalls Tryz.prog 89 [.ifc 107 x] σ (fun y σ' => y = .ret (.lit (zb1 7 107)) ∧ σ' = σ) := by
 refine ACalls.extern (by kernel_rfl) fun w O m vs hr=>?_
 simp only [reps,rep] at hr
 obtain⟨_,_,e1,⟨u,rfl,_⟩,rfl⟩:=hr
 obtain rfl:=zdb e1
 exact⟨_,by rw [run_callFunc_extern Tryz.func89 (by kernel_rfl) (by kernel_rfl) (by kernel_rfl) (e:=ReflectliteType.typeOf) (by kernel_rfl)];exact congrArg (fun r=>Result.andThen r _) (run_typeOfF _ w),by simp only [rep]⟩
theorem ext1 {f : FuncId} {fn : Func} {e : Array Value → Sem Value} {a r : Value} (hf : Tryz.prog.funcs[f]? = some fn) (hname : (fn.name == "runtime.NumGoroutine") = false)
  (hb : fn.body.isNone = true) (hn : Extern.findNext fn = none) (he : Extern.find fn = some e) (hc : zba Tryz.prog f = false) (hrun : ∀ w, (e #[a]).run Tryz.prog w = .ok r w) (σ : zad) : ACalls Tryz.prog f [.lit a] σ (fun y σ' => y = .ret (.lit r) ∧ σ' = σ) := by
 refine ACalls.extern hc fun w O m vs hr=>?_
 simp only [reps,rep] at hr
 obtain⟨_,_,e1,rfl,rfl⟩:=hr
 obtain rfl:=zdb e1
 exact⟨_,by rw [run_callFunc_extern hf hname hb hn he,hrun];rfl,by simp only [rep]⟩
theorem ext2 {f : FuncId} {fn : Func} {e : Array Value → Sem Value} {a b r : Value} (hf : Tryz.prog.funcs[f]? = some fn) (hname : (fn.name == "runtime.NumGoroutine") = false)
  (hb : fn.body.isNone = true) (hn : Extern.findNext fn = none) (he : Extern.find fn = some e) (hc : zba Tryz.prog f = false) (hrun : ∀ w, (e #[a, b]).run Tryz.prog w = .ok r w) (σ : zad) : ACalls Tryz.prog f [.lit a, .lit b] σ (fun y σ' => y = .ret (.lit r) ∧ σ' = σ) := by
 refine ACalls.extern hc fun w O m vs hr=>?_
 simp only [reps,rep] at hr
 obtain⟨_,_,e1,rfl,_,_,rfl,rfl,rfl⟩:=hr
 obtain rfl:=two_arg e1
 exact⟨_,by rw [run_callFunc_extern hf hname hb hn he,hrun];rfl,by simp only [rep]⟩
theorem kindP (σ : zad) : ACalls Tryz.prog 160 [.lit (hnd 114)] σ (fun y σ' => y = .ret (u8 22) ∧ σ' = σ) :=
 ext1 Tryz.func160 (by kernel_rfl) (by kernel_rfl) (by kernel_rfl) (e:=ReflectliteType.abiMethod fun t=>do pure (.int .u8 (← Rtype.kind t))) (by kernel_rfl) (by kernel_rfl) (by intro w;kernel_rfl) σ
theorem kindE (σ : zad) : ACalls Tryz.prog 160 [.lit (hnd 25)] σ (fun y σ' => y = .ret (u8 2) ∧ σ' = σ) :=
 ext1 Tryz.func160 (by kernel_rfl) (by kernel_rfl) (by kernel_rfl) (e:=ReflectliteType.abiMethod fun t=>do pure (.int .u8 (← Rtype.kind t))) (by kernel_rfl) (by kernel_rfl) (by intro w;kernel_rfl) σ
theorem relemP (σ : zad) : ACalls Tryz.prog 180 [.lit (.agg #[hnd 114])] σ (fun y σ' => y = .ret (.lit (zb1 7 25)) ∧ σ' = σ) :=
 ext1 Tryz.func180 (by kernel_rfl) (by kernel_rfl) (by kernel_rfl) (e:=ReflectliteType.method ReflectliteType.elem) (by kernel_rfl) (by kernel_rfl) (by intro w;kernel_rfl) σ
theorem implE (σ : zad) : ACalls Tryz.prog 181 [.lit (.agg #[hnd 25]), .lit (zb1 7 65)] σ (fun y σ' => y = .ret (bl true) ∧ σ' = σ) :=
 ext2 Tryz.func181 (by kernel_rfl) (by kernel_rfl) (by kernel_rfl) (e := ReflectliteType.relation "Implements" ReflectliteType.implements_) (by kernel_rfl) (by kernel_rfl) (by intro w; kernel_rfl) σ
theorem assE (σ : zad) : ACalls Tryz.prog 178 [.lit (.agg #[hnd 25]), .lit (zb1 7 25)] σ (fun y σ' => y = .ret (bl true) ∧ σ' = σ) :=
 ext2 Tryz.func178 (by kernel_rfl) (by kernel_rfl) (by kernel_rfl) (e := ReflectliteType.relation "AssignableTo" ReflectliteType.assignableTo) (by kernel_rfl) (by kernel_rfl) (by intro w; kernel_rfl) σ
theorem assF (σ : zad) : ACalls Tryz.prog 178 [.lit (.agg #[hnd 107]), .lit (zb1 7 25)] σ (fun y σ' => y = .ret (bl false) ∧ σ' = σ) :=
 ext2 Tryz.func178 (by kernel_rfl) (by kernel_rfl) (by kernel_rfl) (e := ReflectliteType.relation "AssignableTo" ReflectliteType.assignableTo) (by kernel_rfl) (by kernel_rfl) (by intro w; kernel_rfl) σ
theorem zdQ {t:TypeId} {v r:Value} {n:String} {f:FuncId} (h:∀ w,(method (Tryz.prog.types.size+Made.depth) t v n).run Tryz.prog w=.ok (f,r) w):MethIs Tryz.prog t (.lit v) n f (.lit r):=by
 intro w O m u hu
 simp only [rep] at hu
 subst hu
 exact⟨r,h w,by simp only [rep]⟩
theorem mKindP : MethIs Tryz.prog 154 (.lit (.agg #[hnd 114])) "Kind" 160 (.lit (hnd 114)) := zdQ (by intro w; kernel_rfl)
theorem mKindE : MethIs Tryz.prog 154 (.lit (.agg #[hnd 25])) "Kind" 160 (.lit (hnd 25)) := zdQ (by intro w; kernel_rfl)
theorem mElemP : MethIs Tryz.prog 154 (.lit (.agg #[hnd 114])) "Elem" 180 (.lit (.agg #[hnd 114])) := zdQ (by intro w; kernel_rfl)
theorem mImplE : MethIs Tryz.prog 154 (.lit (.agg #[hnd 25])) "Implements" 181 (.lit (.agg #[hnd 25])) := zdQ (by intro w; kernel_rfl)
theorem mAssE : MethIs Tryz.prog 154 (.lit (.agg #[hnd 25])) "AssignableTo" 178 (.lit (.agg #[hnd 25])) := zdQ (by intro w; kernel_rfl)
theorem mAssF : MethIs Tryz.prog 154 (.lit (.agg #[hnd 107])) "AssignableTo" 178 (.lit (.agg #[hnd 107])) := zdQ (by intro w; kernel_rfl)
end Go.Proofs.YtamcppdhkeiaiaaGreatDoor
end

section
namespace Go.Proofs.YtamcppdhkeiaiaaGreatDoor
open Go Go.Eng
open Go.Extern
theorem unpackP' (t:Addr) (w:World):(ReflectliteValue.unpack (.iface 113 (.pointer (some t)))).run Tryz.prog w=.ok (.agg #[hnd 113,.pointer (some ⟨w.heap.size,0,none⟩),.int .u64 150]) (w.alloc (.cells #[.pointer (some t)] 113)):=by kernel_rfl
theorem unpackE' (p n:Int) (w:World):(ReflectliteValue.unpack (.iface 107 (.agg #[.int .i64 p,.int .i64 n]))).run Tryz.prog w=.ok (.agg #[hnd 107,.pointer (some ⟨w.heap.size,0,none⟩),.int .u64 153]) (w.alloc (.cells #[.int .i64 p,.int .i64 n] 107)):=by kernel_rfl
theorem valueOfP' (id off : Nat) (σ : zad) : ACalls Tryz.prog 69 [.ifc 113 (.ptr id off)] σ (fun x σ' => x = .ret (rvA 113 σ.length 150) ∧ σ' = σ ++ [.rw [.ptr id off]]) := by
 refine ACalls.externK (by kernel_rfl) fun H w m vs hs hr=>?_
 simp only [reps,rep] at hr
 obtain⟨_,_,e1,⟨u,rfl,g,rfl,hm⟩,rfl⟩:=hr
 obtain rfl:=zdb e1
 obtain⟨s1,x1⟩:=hs.alloc (w':=w.alloc (.cells #[.pointer (some ⟨g,off,none⟩)] 113)) (c:=#[.pointer (some ⟨g,off,none⟩)]) (e:=113) (lo:=0) (hi:=0) (cs:=[.ptr id off]) rfl (.inl (Nat.le_refl _)) rfl rfl rfl (by simp) (fun j x hx=>by
  match j,hx with
  | 0,hx=>cases hx;exact⟨_,rfl,by simp only [rep];exact⟨g,rfl,hm⟩⟩)
 refine⟨_,_,_,_,_,by rw [run_callFunc_extern Tryz.func69 (by kernel_rfl) (by kernel_rfl) (by kernel_rfl) (e:=fun args=>ReflectliteValue.unpack (args.getD 0 (.tuple #[]))) (by kernel_rfl)];exact congrArg (fun r=>Result.andThen r _) (unpackP' _ w),s1,x1,zgZ (zfQ hs _),rfl,rfl⟩
theorem valueOfE' (p n : Int) (σ : zad) : ACalls Tryz.prog 69 [.ifc 107 (fltA p n)] σ (fun x σ' => x = .ret (rvA 107 σ.length 153) ∧ σ' = σ ++ [.rw [i64 p, i64 n]]) := by
 refine ACalls.externK (by kernel_rfl) fun H w m vs hs hr=>?_
 simp only [reps,rep,fltA,i64] at hr
 obtain⟨_,_,e1,⟨u,rfl,cs,rfl,_,_,e2,rfl,_,_,rfl,rfl,rfl⟩,rfl⟩:=hr
 obtain rfl:=zdb e1
 obtain rfl:cs=#[.int .i64 p,.int .i64 n]:=Array.ext' (by simpa using e2)
 obtain⟨s1,x1⟩:=hs.alloc (w':=w.alloc (.cells #[.int .i64 p,.int .i64 n] 107)) (c:=#[.int .i64 p,.int .i64 n]) (e:=107) (lo:=0) (hi:=0) (cs:=[i64 p,i64 n]) rfl (.inl (Nat.le_refl _)) rfl rfl rfl (by simp) (fun j x hx=>by
  match j,hx with
  | 0,hx=>cases hx;exact⟨.int .i64 p,rfl,by simp only [rep,i64]⟩
  | 1,hx=>cases hx;exact⟨.int .i64 n,rfl,by simp only [rep,i64]⟩)
 refine⟨_,_,_,_,_,by rw [run_callFunc_extern Tryz.func69 (by kernel_rfl) (by kernel_rfl) (by kernel_rfl) (e:=fun args=>ReflectliteValue.unpack (args.getD 0 (.tuple #[]))) (by kernel_rfl)];exact congrArg (fun r=>Result.andThen r _) (unpackE' _ _ w),s1,x1,zgZ (zfQ hs _),rfl,rfl⟩
theorem run_type' (a : Addr) (w : World) : (ReflectliteValue.methodAny (ReflectliteValue.valueError "reflectlite.Value.Type" 0) (fun t _ _ _ => ReflectliteType.toType t) #[.agg #[hnd 113, .pointer (some a), .int .u64 150]]).run Tryz.prog w = .ok (zb1 7 113) w := by kernel_rfl
theorem valueType' (k : Nat) (σ : zad) : ACalls Tryz.prog 70 [rvA 113 k 150] σ (fun x σ' => x = .ret (.lit (zb1 7 113)) ∧ σ' = σ) := by
 refine ACalls.extern (by kernel_rfl) fun w O m vs hr=>?_
 simp only [reps] at hr
 obtain⟨v,_,e1,hv,rfl⟩:=hr
 obtain⟨g,hm,rfl⟩:=zd7 hv
 obtain rfl:=zdb e1
 refine ⟨_, by rw [run_callFunc_extern Tryz.func70 (by kernel_rfl) (by kernel_rfl) (by kernel_rfl) (e := ReflectliteValue.methodAny (ReflectliteValue.valueError "reflectlite.Value.Type" 0) (fun t _ _ _ => ReflectliteType.toType t)) (by kernel_rfl)]; exact congrArg (fun r => Result.andThen r _) (run_type' _ w), by simp only [rep]⟩
theorem partsP' (a:Addr) (w:World):(ReflectliteValue.parts (.agg #[hnd 113,.pointer (some a),.int .u64 150])).run Tryz.prog w=.ok (some (113,a,150)) w:=by kernel_rfl
theorem partsE' (a:Addr) (w:World):(ReflectliteValue.parts (.agg #[hnd 107,.pointer (some a),.int .u64 153])).run Tryz.prog w=.ok (some (107,a,153)) w:=by kernel_rfl
theorem partsV' (a:Addr) (w:World):(ReflectliteValue.parts (.agg #[hnd 107,.pointer (some a),.int .u64 409])).run Tryz.prog w=.ok (some (107,a,409)) w:=by kernel_rfl
theorem loadP' {w:World} {a:Addr} {v:Value} (h:w.cell? a=some v):(loadVar 113 a).run Tryz.prog w=.ok v w:=by
 unfold loadVar
 rw [Sem.run_bind,(T_ok _ _ T113).run_isAgg]
 simp [zfd,TD.agg,run_load,h]
theorem valueNil' {k id off : Nat} {σ : zad} (hk : σ[k]? = some (.rw [.ptr id off])) : ACalls Tryz.prog 71 [rvA 113 k 150] σ (fun x σ' => x = .ret (bl false) ∧ σ' = σ) := by
 refine ACalls.externK (by kernel_rfl) fun H w m vs hs hr=>?_
 simp only [reps] at hr
 obtain⟨v,_,e1,hv,rfl⟩:=hr
 obtain⟨g,hm,rfl⟩:=zd7 hv
 obtain rfl:=zdb e1
 obtain⟨u,hc,hu⟩:=zix hs hk hm
 simp only [rep] at hu
 obtain⟨g2,rfl,_⟩:=hu
 have run : (ReflectliteValue.method (ReflectliteValue.valueError "reflectlite.Value.IsNil" 0) ReflectliteValue.isNil #[.agg #[hnd 113, .pointer (some ⟨g, 0, none⟩), .int .u64 ((150 : Nat) : Int)]]).run Tryz.prog w = .ok (.bool false) w := by
  rw [show ∀ z f,ReflectliteValue.method z f #[.agg #[hnd 113,.pointer (some ⟨g,0,none⟩),.int .u64 ((150:Nat):Int)]]=(ReflectliteValue.parts (.agg #[hnd 113,.pointer (some ⟨g,0,none⟩),.int .u64 ((150:Nat):Int)]) >>= _) from fun _ _=>rfl]
  rw [Sem.run_bind,show ((150:Nat):Int)=150 from rfl,partsP']
  simp [ReflectliteValue.isNil,loadP' hc]
 refine ⟨_, _, .lit (.bool false), _, _, by rw [run_callFunc_extern Tryz.func71 (by kernel_rfl) (by kernel_rfl) (by kernel_rfl) (e := ReflectliteValue.method (ReflectliteValue.valueError "reflectlite.Value.IsNil" 0) ReflectliteValue.isNil) (by kernel_rfl)]; exact congrArg (fun r => Result.andThen r _) run, hs, Ext.refl _ _ _, by simp only [rep], rfl, rfl⟩
theorem elemOfP' (w:World):(Rtype.elem? 113).run Tryz.prog w=.ok (some 107) w:=by kernel_rfl
theorem mkE' (p:Addr) (w:World):(ReflectliteValue.mk 107 p ReflectliteValue.flagAddr).run Tryz.prog w=.ok (.agg #[hnd 107,.pointer (some p),.int .u64 409]) w:=by kernel_rfl
theorem valueElem' {k id : Nat} {σ : zad} (hk : σ[k]? = some (.rw [.ptr id 0])) : ACalls Tryz.prog 90 [rvA 113 k 150] σ (fun x σ' => x = .ret (rvA 107 id 409) ∧ σ' = σ) := by
 refine ACalls.externK (by kernel_rfl) fun H w m vs hs hr=>?_
 simp only [reps] at hr
 obtain⟨v,_,e1,hv,rfl⟩:=hr
 obtain⟨g,hm,rfl⟩:=zd7 hv
 obtain rfl:=zdb e1
 obtain⟨u,hc,hu⟩:=zix hs hk hm
 simp only [rep] at hu
 obtain⟨g2,rfl,hm2⟩:=hu
 have run : (ReflectliteValue.method (ReflectliteValue.valueError "reflectlite.Value.Elem" 0) ReflectliteValue.elem #[.agg #[hnd 113, .pointer (some ⟨g, 0, none⟩), .int .u64 ((150 : Nat) : Int)]]).run Tryz.prog w = .ok (.agg #[hnd 107, .pointer (some ⟨g2, 0, none⟩), .int .u64 409]) w := by
  rw [show ∀ z f,ReflectliteValue.method z f #[.agg #[hnd 113,.pointer (some ⟨g,0,none⟩),.int .u64 ((150:Nat):Int)]]=(ReflectliteValue.parts (.agg #[hnd 113,.pointer (some ⟨g,0,none⟩),.int .u64 ((150:Nat):Int)]) >>= _) from fun _ _=>rfl]
  rw [Sem.run_bind,show ((150:Nat):Int)=150 from rfl,partsP']
  simp [ReflectliteValue.elem,loadP' hc,elemOfP',mkE']
 refine ⟨_, _, _, _, _, by rw [run_callFunc_extern Tryz.func90 (by kernel_rfl) (by kernel_rfl) (by kernel_rfl) (e := ReflectliteValue.method (ReflectliteValue.valueError "reflectlite.Value.Elem" 0) ReflectliteValue.elem) (by kernel_rfl)]; exact congrArg (fun r => Result.andThen r _) run, hs, Ext.refl _ _ _, zgZ hm2, rfl, rfl⟩
theorem directE' (w:World):(Rtype.directlyAssignable 107 107).run Tryz.prog w=.ok true w:=by kernel_rfl
theorem kindP' (σ : zad) : ACalls Tryz.prog 160 [.lit (hnd 113)] σ (fun y σ' => y = .ret (u8 22) ∧ σ' = σ) :=
 ext1 Tryz.func160 (by kernel_rfl) (by kernel_rfl) (by kernel_rfl) (e:=ReflectliteType.abiMethod fun t=>do pure (.int .u8 (← Rtype.kind t))) (by kernel_rfl) (by kernel_rfl) (by intro w;kernel_rfl) σ
theorem kindE' (σ : zad) : ACalls Tryz.prog 160 [.lit (hnd 107)] σ (fun y σ' => y = .ret (u8 25) ∧ σ' = σ) :=
 ext1 Tryz.func160 (by kernel_rfl) (by kernel_rfl) (by kernel_rfl) (e:=ReflectliteType.abiMethod fun t=>do pure (.int .u8 (← Rtype.kind t))) (by kernel_rfl) (by kernel_rfl) (by intro w;kernel_rfl) σ
theorem relemP' (σ : zad) : ACalls Tryz.prog 180 [.lit (.agg #[hnd 113])] σ (fun y σ' => y = .ret (.lit (zb1 7 107)) ∧ σ' = σ) :=
 ext1 Tryz.func180 (by kernel_rfl) (by kernel_rfl) (by kernel_rfl) (e:=ReflectliteType.method ReflectliteType.elem) (by kernel_rfl) (by kernel_rfl) (by intro w;kernel_rfl) σ
theorem implE' (σ : zad) : ACalls Tryz.prog 181 [.lit (.agg #[hnd 107]), .lit (zb1 7 65)] σ (fun y σ' => y = .ret (bl true) ∧ σ' = σ) :=
 ext2 Tryz.func181 (by kernel_rfl) (by kernel_rfl) (by kernel_rfl) (e := ReflectliteType.relation "Implements" ReflectliteType.implements_) (by kernel_rfl) (by kernel_rfl) (by intro w; kernel_rfl) σ
theorem mKindP' : MethIs Tryz.prog 154 (.lit (.agg #[hnd 113])) "Kind" 160 (.lit (hnd 113)) := zdQ (by intro w; kernel_rfl)
theorem mKindE' : MethIs Tryz.prog 154 (.lit (.agg #[hnd 107])) "Kind" 160 (.lit (hnd 107)) := zdQ (by intro w; kernel_rfl)
theorem mElemP' : MethIs Tryz.prog 154 (.lit (.agg #[hnd 113])) "Elem" 180 (.lit (.agg #[hnd 113])) := zdQ (by intro w; kernel_rfl)
theorem mImplE' : MethIs Tryz.prog 154 (.lit (.agg #[hnd 107])) "Implements" 181 (.lit (.agg #[hnd 107])) := zdQ (by intro w; kernel_rfl)
theorem mAssE' : MethIs Tryz.prog 154 (.lit (.agg #[hnd 107])) "AssignableTo" 178 (.lit (.agg #[hnd 107])) := zdQ (by intro w; kernel_rfl)
theorem valueSet' {j id : Nat} {p n : Int} {a b : AV} {σ : zad} (hj : σ[j]? = some (.rw [i64 p, i64 n])) (hi : σ[id]? = some (.rw [a, b])) : ACalls Tryz.prog 91 [rvA 107 id 409, rvA 107 j 153] σ (fun x σ' => x = .ret (.tup []) ∧ σ' = σ.set id (.rw [i64 p, i64 n])) := by
 refine ACalls.externK (by kernel_rfl) fun H w m vs hs hr=>?_
 simp only [reps] at hr
 obtain⟨v,_,e1,hv,v2,_,rfl,hv2,rfl⟩:=hr
 obtain⟨g,hm,rfl⟩:=zd7 hv
 obtain⟨g2,hm2,rfl⟩:=zd7 hv2
 obtain rfl:=two_arg e1
 have hld:zeW T 107 (.ptr j 0) σ (fun x=>x=fltA p n):=by
  simp [zeW,T107,rd,hj,tyPf,wfin,TD.agg,fltA]
 obtain⟨u,r,hl1,hl2,rfl⟩:=zfP T_ok (P:=Tryz.prog) hs hld (show rep w (own H m σ) m (.ptr j 0) (.pointer (some ⟨g2,0,none⟩)) by simp only [rep];exact⟨g2,rfl,hm2⟩)
 have hl1':(loadVar 107 ⟨g2,0,none⟩).run Tryz.prog w=.ok u w:=by
  simpa [Instr.loadAt,Instr.sureAddr] using hl1
 have hst : zfK T 107 (.ptr id 0) (fltA p n) σ (fun x σ' => σ' = σ.set id (.rw [i64 p, i64 n])) := by
  simp [zfK,T107,hi,fltA,AV.cells,tyPf,zcl,zbf]
 obtain ⟨w', m', σ', h1, h2, h3, rfl⟩ := ze2 T_ok (P := Tryz.prog) hs hst (show rep w (own H m σ) m (.ptr id 0) (.pointer (some ⟨g, 0, none⟩)) by simp only [rep]; exact ⟨g, rfl, hm⟩) hl2
 have h1':(storeVar 107 ⟨g,0,none⟩ u).run Tryz.prog w=.ok () w':=by
  simpa [Instr.storeAt,Instr.sureAddr] using h1
 have run:(ReflectliteValue.set #[.agg #[hnd 107,.pointer (some ⟨g,0,none⟩),.int .u64 ((409:Nat):Int)],.agg #[hnd 107,.pointer (some ⟨g2,0,none⟩),.int .u64 ((153:Nat):Int)]]).run Tryz.prog w=.ok (.tuple #[]) w':=by
  rw [show ReflectliteValue.set #[.agg #[hnd 107,.pointer (some ⟨g,0,none⟩),.int .u64 ((409:Nat):Int)],.agg #[hnd 107,.pointer (some ⟨g2,0,none⟩),.int .u64 ((153:Nat):Int)]]=(ReflectliteValue.parts (.agg #[hnd 107,.pointer (some ⟨g,0,none⟩),.int .u64 ((409:Nat):Int)]) >>= _) from rfl]
  simp only [Sem.run_bind,show ((409:Nat):Int)=409 from rfl,show ((153:Nat):Int)=153 from rfl,partsV',partsE',Result.andThen_ok]
  simp [ReflectliteValue.flagAddr,hl1',directE',h1',getLit1,partsE']
 refine⟨_,_,.tup [],m',_,by rw [run_callFunc_extern Tryz.func91 (by kernel_rfl) (by kernel_rfl) (by kernel_rfl) (e:=ReflectliteValue.set) (by kernel_rfl)];exact congrArg (fun r=>Result.andThen r _) run,h2,h3,by simp only [rep,reps];exact⟨_,rfl,rfl⟩,rfl,rfl⟩
theorem assFF (σ : zad) : ACalls Tryz.prog 178 [.lit (.agg #[hnd 107]), .lit (zb1 7 107)] σ (fun y σ' => y = .ret (bl true) ∧ σ' = σ) :=
 ext2 Tryz.func178 (by kernel_rfl) (by kernel_rfl) (by kernel_rfl) (e := ReflectliteType.relation "AssignableTo" ReflectliteType.assignableTo) (by kernel_rfl) (by kernel_rfl) (by intro w; kernel_rfl) σ
end Go.Proofs.YtamcppdhkeiaiaaGreatDoor
end

section
namespace Go.Proofs.YtamcppdhkeiaiaaGreatDoor
open Go Go.Eng
set_option linter.defProp false in
def LB16:=And.intro @zc3 (And.intro @zbi (And.intro @zbj (And.intro @zcf (And.intro @zcg (And.intro @zch (And.intro @zci (And.intro @al_f (And.intro @st_f (And.intro @ld_f (And.intro @zc0 (And.intro @zc1 (And.intro @zcj (And.intro @zc2 (And.intro @zeZ (And.intro @ze0 (And.intro @ze1 (@gl_errT)))))))))))))))))
set_option linter.defProp false in
def LM0:=And.intro LB0 (And.intro LB1 (And.intro LB2 (And.intro LB5 (And.intro LB6 (And.intro LB9 (And.intro LB12 (And.intro LB13 (And.intro LB14 (And.intro LB15 (LB16))))))))))
def nbrA (n:Int):AV:=.ifc 25 (i64 n)
def tgtA:AV:=.ifc 114 (.ptr 0 0)
def tgtF:AV:=.ifc 113 (.ptr 0 0)
def rvB (t k fl:Nat):Blk:=.rw [.lit (hnd t),.ptr k 0,.lit (.int .u64 (fl:Int))]
section
variable {σ : zad} {K : AV → Prop} {KS Kp : AV → zad → Prop}
theorem za6 {eB:TypeId} (t k fl:Nat):wbox eB (rvA t k fl) σ KS=KS (.ptr σ.length 0) (σ++[rvB t k fl]):=by
 simp [wbox,zd1,rvA,rvB,hnd,AV.cells,AV.one,Value.oneCell']
theorem zaM (t k fl:Nat) (σ:zad):rd (rvB t k fl::σ) 0=some [.lit (hnd t),.ptr k 0,.lit (.int .u64 (fl:Int))]:=rfl
theorem zbI (t k fl:Nat):ld2 (some tyRV) (some [.lit (hnd t),.ptr k 0,.lit (.int .u64 (fl:Int))]) 0 K=K (rvA t k fl):=by
 simp [ld2,wfin,tyRV,TD.agg,rvA]
theorem zbJ (e:TypeId):al1 T e (some tyRV) σ KS=KS (.ptr σ.length 0) (σ++[.rw [.lit (.pointer none),.lit (.pointer none),.lit (.int .u64 0)]]):=by
 simp [al1,tyRV,zaS]
theorem zbK (a b c:AV) (t k fl id:Nat):st2 (some tyRV) (some (.rw [a,b,c])) id 0 (rvA t k fl) σ KS=KS (.lit undef) (σ.set id (rvB t k fl)):=by
 simp [st2,tyRV,rvA,rvB,hnd,AV.cells,AV.one,Value.oneCell',zbf]
theorem zaE (p m:Int) (n:String) (xs:List AV):zd3 Tryz.prog (flt p m) n xs σ KS Kp=∃ q:FuncId × AV,zi3 Tryz.prog 107 (fltA p m) n σ q.1 q.2∧ACalls Tryz.prog q.1 (q.2::xs) σ (zhQ KS Kp):=zig _ _ _ _
theorem zaN (t:Nat) (n:String) (xs:List AV):zd3 Tryz.prog (.lit (zb1 7 t)) n xs σ KS Kp=∃ q:FuncId × AV,zi3 Tryz.prog 154 (.lit (.agg #[hnd t])) n σ q.1 q.2∧ACalls Tryz.prog q.1 (q.2::xs) σ (zhQ KS Kp):=winvoke_lit _ _ _ _
theorem zaO (p n:Int):zfL (flt p n)=some false:=rfl
theorem zaP (n:Int):zfL (nbrA n)=some false:=rfl
theorem zaQ:zfL tgtA=some false:=rfl
theorem zaF:zfL tgtF=some false:=rfl
theorem zbL (o:Nat) (id:Nat):zaq T 107 (.ptr id o) 0 K=K (.ptr id (o+0)):=fzP T107 rfl rfl T3 (by decide) id o
theorem zbM (o:Nat) (id:Nat):zaq T 107 (.ptr id o) 1 K=K (.ptr id (o+1)):=fzP T107 rfl rfl T25 (by decide) id o
theorem za7 (p n:Int):ld2 (some zaW) (some [i64 p,i64 n]) 0 K=K (i64 p):=lz0 rfl rfl _ _
theorem za8 (p n:Int):ld2 (some zaW) (some [i64 p,i64 n]) 1 K=K (i64 n):=by rw [lzS];exact lz0 rfl rfl _ _
theorem bx_f (eB:TypeId) (p n:Int):wbox eB (fltA p n) σ KS=KS (.ptr σ.length 0) (σ++[.rw [i64 p,i64 n]]):=by
 exact bxW rfl rfl eB
end
theorem ren_num (q:List Nat) (n:Int):(nbrA n).ren q=some (nbrA n):=by simp [nbrA,AV.ren,zag]
theorem unwrap_ok (p n:Int):ACalls Tryz.prog 173 [fltA p n] [] (fun y _=>y=.ret (nbrA n)):=by
 refine ACalls.body T_ok Tryz.func173 (by kernel_rfl) rfl Tryz.ntmps173 (congrArg Array.toList Tryz.results173) ?_
 try simp -implicitDefEqProofs only [LM0,eq_self,zaa,zab,Nat.zero_mul,za6,zaM,zbI,zbJ,zbK,zaE,zaN,zaO,zaP,zaQ,zaF,zbL,zbM,za7,za8,bx_f,TB,SB,Int.reduceToNat,Nat.reduceAdd,Nat.reduceEqDiff,Nat.reduceLT,Nat.reduceMod,Nat.reducePow,Nat.reduceSub,if_true,reduceIte]
 exact zax (ren_num _ _) rfl
theorem as_okE (p n:Int):ACalls Tryz.prog 72 [flt p n,tgtA,rvA 114 1 150,.lit (zb1 7 25)] [.rw [i64 0],.rw [.ptr 0 0],rvB 114 1 150]
  (fun y σ=>y=.ret (bl true)∧σ=[.rw [i64 n],.rw [.ptr 0 0],rvB 114 1 150,rvB 114 1 150,.rw [i64 n]]):=by
 refine ACalls.body T_ok Tryz.func72 (by kernel_rfl) rfl Tryz.ntmps72 (congrArg Array.toList Tryz.results72) ?_
 try simp -implicitDefEqProofs only [LM0,eq_self,zaa,zab,Nat.zero_mul,za6,zaM,zbI,zbJ,zbK,zaE,zaN,zaO,zaP,zaQ,zaF,zbL,zbM,za7,za8,bx_f,TB,SB,Int.reduceToNat,Nat.reduceAdd,Nat.reduceEqDiff,Nat.reduceLT,Nat.reduceMod,Nat.reducePow,Nat.reduceSub,if_true,reduceIte]
 rw [zbe]
 refine⟨Nat,fun k=>k≤1,fun k=>[(if k=0 then flt p n else nbrA n),tgtA,rvA 114 1 150,.lit (zb1 7 25),.bot,.bot,.ptr 3 0,.bot,bl false,.bot,.bot,.bot,.bot,.bot,.bot,.bot,.bot,.bot,.bot,.bot,.bot,.bot,.bot,.bot,.bot,.bot,.bot,.bot,.bot,.bot,.bot,.bot,.bot,.bot,.bot,.bot,.bot,.bot,.bot,.bot,.bot,.bot,.bot,.bot,.bot,.bot,.bot,.bot,.bot,.bot,.bot,.bot,.bot,.bot,.bot,.bot,.bot,.bot,.bot,.bot,.bot,.bot],fun _=>[.rw [i64 0],.rw [.ptr 0 0],rvB 114 1 150,rvB 114 1 150],fun k=>1 - k,0,by omega,?_,?_⟩
 ·refine zct ?_
  try simp only [LB3,List.getElem?_cons_zero,true_and,and_true,or_true,true_or,reduceCtorEq,false_or]
  exact .inr rfl
 ·intro k hk
  rcases k with _ | k
  ·simp only [if_true]
   try simp -implicitDefEqProofs only [LM0,eq_self,zaa,zab,Nat.zero_mul,za6,zaM,zbI,zbJ,zbK,zaE,zaN,zaO,zaP,zaQ,zaF,zbL,zbM,za7,za8,bx_f,TB,SB,Int.reduceToNat,Nat.reduceAdd,Nat.reduceEqDiff,Nat.reduceLT,Nat.reduceMod,Nat.reducePow,Nat.reduceSub,if_true,reduceIte]
   refine ACalls.same (typeOfF _ _) ?_
   try simp -implicitDefEqProofs only [LM0,eq_self,zaa,zab,Nat.zero_mul,za6,zaM,zbI,zbJ,zbK,zaE,zaN,zaO,zaP,zaQ,zaF,zbL,zbM,za7,za8,bx_f,TB,SB,Int.reduceToNat,Nat.reduceAdd,Nat.reduceEqDiff,Nat.reduceLT,Nat.reduceMod,Nat.reducePow,Nat.reduceSub,if_true,reduceIte]
   refine⟨(_,_),mAssF.at',?_⟩
   refine ACalls.same (assF _) ?_
   try simp -implicitDefEqProofs only [LM0,eq_self,zaa,zab,Nat.zero_mul,za6,zaM,zbI,zbJ,zbK,zaE,zaN,zaO,zaP,zaQ,zaF,zbL,zbM,za7,za8,bx_f,TB,SB,Int.reduceToNat,Nat.reduceAdd,Nat.reduceEqDiff,Nat.reduceLT,Nat.reduceMod,Nat.reducePow,Nat.reduceSub,if_true,reduceIte]
   refine⟨false,by kernel_rfl,fun h=>(by cases h),fun _=>?_⟩
   try simp -implicitDefEqProofs only [LM0,eq_self,zaa,zab,Nat.zero_mul,za6,zaM,zbI,zbJ,zbK,zaE,zaN,zaO,zaP,zaQ,zaF,zbL,zbM,za7,za8,bx_f,TB,SB,Int.reduceToNat,Nat.reduceAdd,Nat.reduceEqDiff,Nat.reduceLT,Nat.reduceMod,Nat.reducePow,Nat.reduceSub,if_true,reduceIte]
   refine⟨true,by kernel_rfl,fun _=>?_,fun h=>(by cases h)⟩
   refine⟨(_,_),(mrow_ok (f:=173) (ptr:=false) (by kernel_rfl)).at',?_⟩
   refine(unwrap_ok p n).pure (by simp [fltA,renL,AV.ren,zai,zag]) ?_
   rintro _ σ rfl
   refine⟨by simp [AEnd.noid,ren_num],?_⟩
   try simp -implicitDefEqProofs only [LM0,eq_self,zaa,zab,Nat.zero_mul,za6,zaM,zbI,zbJ,zbK,zaE,zaN,zaO,zaP,zaQ,zaF,zbL,zbM,za7,za8,bx_f,TB,SB,Int.reduceToNat,Nat.reduceAdd,Nat.reduceEqDiff,Nat.reduceLT,Nat.reduceMod,Nat.reducePow,Nat.reduceSub,if_true,reduceIte]
   rw [zal]
   refine⟨0+1,by omega,(by show 1 - (0+1) < 1 - 0;omega),zaj (q:=[0,1,2,3]) rfl rfl (by decide) ?_ ?_⟩
   ·try simp only [FB,AV.ren,Nat.reduceAdd,reduceCtorEq]
    simp [ren_num,tgtA,rvA,zb1,hnd,AV.ren,renL]
   ·simp [zah,rvB,Blk.ren,renL,AV.ren,zag]
  ·obtain rfl:k=0:=by omega
   simp only [Nat.succ_ne_zero,if_false]
   try simp -implicitDefEqProofs only [LM0,eq_self,zaa,zab,Nat.zero_mul,za6,zaM,zbI,zbJ,zbK,zaE,zaN,zaO,zaP,zaQ,zaF,zbL,zbM,za7,za8,bx_f,TB,SB,Int.reduceToNat,Nat.reduceAdd,Nat.reduceEqDiff,Nat.reduceLT,Nat.reduceMod,Nat.reducePow,Nat.reduceSub,if_true,reduceIte]
   refine ACalls.same (typeOfE _ _) ?_
   try simp -implicitDefEqProofs only [LM0,eq_self,zaa,zab,Nat.zero_mul,za6,zaM,zbI,zbJ,zbK,zaE,zaN,zaO,zaP,zaQ,zaF,zbL,zbM,za7,za8,bx_f,TB,SB,Int.reduceToNat,Nat.reduceAdd,Nat.reduceEqDiff,Nat.reduceLT,Nat.reduceMod,Nat.reducePow,Nat.reduceSub,if_true,reduceIte]
   refine⟨(_,_),mAssE.at',?_⟩
   refine ACalls.same (assE _) ?_
   try simp -implicitDefEqProofs only [LM0,eq_self,zaa,zab,Nat.zero_mul,za6,zaM,zbI,zbJ,zbK,zaE,zaN,zaO,zaP,zaQ,zaF,zbL,zbM,za7,za8,bx_f,TB,SB,Int.reduceToNat,Nat.reduceAdd,Nat.reduceEqDiff,Nat.reduceLT,Nat.reduceMod,Nat.reducePow,Nat.reduceSub,if_true,reduceIte]
   refine ACalls.same (valueElem (id:=0) rfl) ?_
   try simp -implicitDefEqProofs only [LM0,eq_self,zaa,zab,Nat.zero_mul,za6,zaM,zbI,zbJ,zbK,zaE,zaN,zaO,zaP,zaQ,zaF,zbL,zbM,za7,za8,bx_f,TB,SB,Int.reduceToNat,Nat.reduceAdd,Nat.reduceEqDiff,Nat.reduceLT,Nat.reduceMod,Nat.reducePow,Nat.reduceSub,if_true,reduceIte]
   refine ACalls.mono (valueOfE n _) ?_
   rintro _ _ ⟨rfl,rfl⟩
   try simp -implicitDefEqProofs only [LM0,eq_self,zaa,zab,Nat.zero_mul,za6,zaM,zbI,zbJ,zbK,zaE,zaN,zaO,zaP,zaQ,zaF,zbL,zbM,za7,za8,bx_f,TB,SB,Int.reduceToNat,Nat.reduceAdd,Nat.reduceEqDiff,Nat.reduceLT,Nat.reduceMod,Nat.reducePow,Nat.reduceSub,if_true,reduceIte]
   refine ACalls.mono (valueSet (old:=i64 0) (n:=n) rfl rfl) ?_
   rintro _ _ ⟨rfl,rfl⟩
   try simp -implicitDefEqProofs only [LM0,eq_self,zaa,zab,Nat.zero_mul,za6,zaM,zbI,zbJ,zbK,zaE,zaN,zaO,zaP,zaQ,zaF,zbL,zbM,za7,za8,bx_f,TB,SB,Int.reduceToNat,Nat.reduceAdd,Nat.reduceEqDiff,Nat.reduceLT,Nat.reduceMod,Nat.reducePow,Nat.reduceSub,if_true,reduceIte]
   exact zaH ⟨rfl,rfl⟩
theorem as_okF (p n:Int):ACalls Tryz.prog 72 [flt p n,tgtF,rvA 113 1 150,.lit (zb1 7 107)] [.rw [i64 0,i64 0],.rw [.ptr 0 0],rvB 113 1 150]
  (fun y σ=>y=.ret (bl true)∧σ=[.rw [i64 p,i64 n],.rw [.ptr 0 0],rvB 113 1 150,rvB 113 1 150,.rw [i64 p,i64 n]]):=by
 refine ACalls.body T_ok Tryz.func72 (by kernel_rfl) rfl Tryz.ntmps72 (congrArg Array.toList Tryz.results72) ?_
 try simp -implicitDefEqProofs only [LM0,eq_self,zaa,zab,Nat.zero_mul,za6,zaM,zbI,zbJ,zbK,zaE,zaN,zaO,zaP,zaQ,zaF,zbL,zbM,za7,za8,bx_f,TB,SB,Int.reduceToNat,Nat.reduceAdd,Nat.reduceEqDiff,Nat.reduceLT,Nat.reduceMod,Nat.reducePow,Nat.reduceSub,if_true,reduceIte]
 rw [zbe]
 refine⟨Nat,fun k=>k=0,fun k=>[flt p n,tgtF,rvA 113 1 150,.lit (zb1 7 107),.bot,.bot,.ptr 3 0,.bot,bl false,.bot,.bot,.bot,.bot,.bot,.bot,.bot,.bot,.bot,.bot,.bot,.bot,.bot,.bot,.bot,.bot,.bot,.bot,.bot,.bot,.bot,.bot,.bot,.bot,.bot,.bot,.bot,.bot,.bot,.bot,.bot,.bot,.bot,.bot,.bot,.bot,.bot,.bot,.bot,.bot,.bot,.bot,.bot,.bot,.bot,.bot,.bot,.bot,.bot,.bot,.bot,.bot,.bot],fun _=>[.rw [i64 0,i64 0],.rw [.ptr 0 0],rvB 113 1 150,rvB 113 1 150],fun k=>0,0,rfl,?_,?_⟩
 ·refine zct ?_
  try simp only [LB3,List.getElem?_cons_zero,true_and,and_true,or_true,true_or,reduceCtorEq,false_or]
 ·rintro k rfl
  try simp -implicitDefEqProofs only [LM0,eq_self,zaa,zab,Nat.zero_mul,za6,zaM,zbI,zbJ,zbK,zaE,zaN,zaO,zaP,zaQ,zaF,zbL,zbM,za7,za8,bx_f,TB,SB,Int.reduceToNat,Nat.reduceAdd,Nat.reduceEqDiff,Nat.reduceLT,Nat.reduceMod,Nat.reducePow,Nat.reduceSub,if_true,reduceIte]
  refine ACalls.same (typeOfF _ _) ?_
  try simp -implicitDefEqProofs only [LM0,eq_self,zaa,zab,Nat.zero_mul,za6,zaM,zbI,zbJ,zbK,zaE,zaN,zaO,zaP,zaQ,zaF,zbL,zbM,za7,za8,bx_f,TB,SB,Int.reduceToNat,Nat.reduceAdd,Nat.reduceEqDiff,Nat.reduceLT,Nat.reduceMod,Nat.reducePow,Nat.reduceSub,if_true,reduceIte]
  refine⟨(_,_),mAssE'.at',?_⟩
  refine ACalls.same (assFF _) ?_
  try simp -implicitDefEqProofs only [LM0,eq_self,zaa,zab,Nat.zero_mul,za6,zaM,zbI,zbJ,zbK,zaE,zaN,zaO,zaP,zaQ,zaF,zbL,zbM,za7,za8,bx_f,TB,SB,Int.reduceToNat,Nat.reduceAdd,Nat.reduceEqDiff,Nat.reduceLT,Nat.reduceMod,Nat.reducePow,Nat.reduceSub,if_true,reduceIte]
  refine ACalls.same (valueElem' (id:=0) rfl) ?_
  try simp -implicitDefEqProofs only [LM0,eq_self,zaa,zab,Nat.zero_mul,za6,zaM,zbI,zbJ,zbK,zaE,zaN,zaO,zaP,zaQ,zaF,zbL,zbM,za7,za8,bx_f,TB,SB,Int.reduceToNat,Nat.reduceAdd,Nat.reduceEqDiff,Nat.reduceLT,Nat.reduceMod,Nat.reducePow,Nat.reduceSub,if_true,reduceIte]
  refine ACalls.mono (valueOfE' p n _) ?_
  rintro _ _ ⟨rfl,rfl⟩
  try simp -implicitDefEqProofs only [LM0,eq_self,zaa,zab,Nat.zero_mul,za6,zaM,zbI,zbJ,zbK,zaE,zaN,zaO,zaP,zaQ,zaF,zbL,zbM,za7,za8,bx_f,TB,SB,Int.reduceToNat,Nat.reduceAdd,Nat.reduceEqDiff,Nat.reduceLT,Nat.reduceMod,Nat.reducePow,Nat.reduceSub,if_true,reduceIte]
  refine ACalls.mono (valueSet' (a:=i64 0) (b:=i64 0) (p:=p) (n:=n) rfl rfl) ?_
  rintro _ _ ⟨rfl,rfl⟩
  try simp -implicitDefEqProofs only [LM0,eq_self,zaa,zab,Nat.zero_mul,za6,zaM,zbI,zbJ,zbK,zaE,zaN,zaO,zaP,zaQ,zaF,zbL,zbM,za7,za8,bx_f,TB,SB,Int.reduceToNat,Nat.reduceAdd,Nat.reduceEqDiff,Nat.reduceLT,Nat.reduceMod,Nat.reducePow,Nat.reduceSub,if_true,reduceIte]
  exact zaH ⟨rfl,rfl⟩
theorem As_okE (p n:Int):ACalls Tryz.prog 53 [flt p n,tgtA] [.rw [i64 0]] (fun y σ=>y=.ret (bl true)∧σ=[.rw [i64 n]]):=by
 refine ACalls.body T_ok Tryz.func53 (by kernel_rfl) rfl Tryz.ntmps53 (congrArg Array.toList Tryz.results53) ?_
 try simp -implicitDefEqProofs only [LM0,eq_self,zaa,zab,Nat.zero_mul,za6,zaM,zbI,zbJ,zbK,zaE,zaN,zaO,zaP,zaQ,zaF,zbL,zbM,za7,za8,bx_f,TB,SB,Int.reduceToNat,Nat.reduceAdd,Nat.reduceEqDiff,Nat.reduceLT,Nat.reduceMod,Nat.reducePow,Nat.reduceSub,if_true,reduceIte]
 refine ACalls.mono (valueOfP 0 0 _) ?_
 rintro _ _ ⟨rfl,rfl⟩
 try simp -implicitDefEqProofs only [LM0,eq_self,zaa,zab,Nat.zero_mul,za6,zaM,zbI,zbJ,zbK,zaE,zaN,zaO,zaP,zaQ,zaF,zbL,zbM,za7,za8,bx_f,TB,SB,Int.reduceToNat,Nat.reduceAdd,Nat.reduceEqDiff,Nat.reduceLT,Nat.reduceMod,Nat.reducePow,Nat.reduceSub,if_true,reduceIte]
 refine ACalls.same (valueType _ _) ?_
 try simp -implicitDefEqProofs only [LM0,eq_self,zaa,zab,Nat.zero_mul,za6,zaM,zbI,zbJ,zbK,zaE,zaN,zaO,zaP,zaQ,zaF,zbL,zbM,za7,za8,bx_f,TB,SB,Int.reduceToNat,Nat.reduceAdd,Nat.reduceEqDiff,Nat.reduceLT,Nat.reduceMod,Nat.reducePow,Nat.reduceSub,if_true,reduceIte]
 refine⟨(_,_),mKindP.at',?_⟩
 refine ACalls.same (kindP _) ?_
 try simp -implicitDefEqProofs only [LM0,eq_self,zaa,zab,Nat.zero_mul,za6,zaM,zbI,zbJ,zbK,zaE,zaN,zaO,zaP,zaQ,zaF,zbL,zbM,za7,za8,bx_f,TB,SB,Int.reduceToNat,Nat.reduceAdd,Nat.reduceEqDiff,Nat.reduceLT,Nat.reduceMod,Nat.reducePow,Nat.reduceSub,if_true,reduceIte]
 have e22:(!decide ((22:UInt8)=UInt8.ofNat 22))=false:=rfl
 simp only [e22]
 try simp -implicitDefEqProofs only [LM0,eq_self,zaa,zab,Nat.zero_mul,za6,zaM,zbI,zbJ,zbK,zaE,zaN,zaO,zaP,zaQ,zaF,zbL,zbM,za7,za8,bx_f,TB,SB,Int.reduceToNat,Nat.reduceAdd,Nat.reduceEqDiff,Nat.reduceLT,Nat.reduceMod,Nat.reducePow,Nat.reduceSub,if_true,reduceIte]
 refine ACalls.same (valueNil (id:=0) (off:=0) rfl) ?_
 try simp -implicitDefEqProofs only [LM0,eq_self,zaa,zab,Nat.zero_mul,za6,zaM,zbI,zbJ,zbK,zaE,zaN,zaO,zaP,zaQ,zaF,zbL,zbM,za7,za8,bx_f,TB,SB,Int.reduceToNat,Nat.reduceAdd,Nat.reduceEqDiff,Nat.reduceLT,Nat.reduceMod,Nat.reducePow,Nat.reduceSub,if_true,reduceIte]
 refine⟨(_,_),mElemP.at',?_⟩
 refine ACalls.same (relemP _) ?_
 try simp -implicitDefEqProofs only [LM0,eq_self,zaa,zab,Nat.zero_mul,za6,zaM,zbI,zbJ,zbK,zaE,zaN,zaO,zaP,zaQ,zaF,zbL,zbM,za7,za8,bx_f,TB,SB,Int.reduceToNat,Nat.reduceAdd,Nat.reduceEqDiff,Nat.reduceLT,Nat.reduceMod,Nat.reducePow,Nat.reduceSub,if_true,reduceIte]
 refine⟨(_,_),mKindE.at',?_⟩
 refine ACalls.same (kindE _) ?_
 try simp -implicitDefEqProofs only [LM0,eq_self,zaa,zab,Nat.zero_mul,za6,zaM,zbI,zbJ,zbK,zaE,zaN,zaO,zaP,zaQ,zaF,zbL,zbM,za7,za8,bx_f,TB,SB,Int.reduceToNat,Nat.reduceAdd,Nat.reduceEqDiff,Nat.reduceLT,Nat.reduceMod,Nat.reducePow,Nat.reduceSub,if_true,reduceIte]
 have e20:(!decide ((2:UInt8)=UInt8.ofNat 20))=true:=rfl
 simp only [e20]
 try simp -implicitDefEqProofs only [LM0,eq_self,zaa,zab,Nat.zero_mul,za6,zaM,zbI,zbJ,zbK,zaE,zaN,zaO,zaP,zaQ,zaF,zbL,zbM,za7,za8,bx_f,TB,SB,Int.reduceToNat,Nat.reduceAdd,Nat.reduceEqDiff,Nat.reduceLT,Nat.reduceMod,Nat.reducePow,Nat.reduceSub,if_true,reduceIte]
 refine⟨(_,_),mImplE.at',?_⟩
 refine ACalls.same (implE _) ?_
 try simp -implicitDefEqProofs only [LM0,eq_self,zaa,zab,Nat.zero_mul,za6,zaM,zbI,zbJ,zbK,zaE,zaN,zaO,zaP,zaQ,zaF,zbL,zbM,za7,za8,bx_f,TB,SB,Int.reduceToNat,Nat.reduceAdd,Nat.reduceEqDiff,Nat.reduceLT,Nat.reduceMod,Nat.reducePow,Nat.reduceSub,if_true,reduceIte]
 refine ACalls.mono (as_okE p n) ?_
 rintro _ _ ⟨rfl,rfl⟩
 try simp -implicitDefEqProofs only [LM0,eq_self,zaa,zab,Nat.zero_mul,za6,zaM,zbI,zbJ,zbK,zaE,zaN,zaO,zaP,zaQ,zaF,zbL,zbM,za7,za8,bx_f,TB,SB,Int.reduceToNat,Nat.reduceAdd,Nat.reduceEqDiff,Nat.reduceLT,Nat.reduceMod,Nat.reducePow,Nat.reduceSub,if_true,reduceIte]
 refine .inl ⟨[0],bl true,[.rw [i64 n]],rfl,rfl,by simp,by simp [AV.ren,zao],?_,rfl,rfl⟩
 simp [zah,Blk.ren,renL,zag]
theorem As_okF (p n:Int):ACalls Tryz.prog 53 [flt p n,tgtF] [.rw [i64 0,i64 0]] (fun y σ=>y=.ret (bl true)∧σ=[.rw [i64 p,i64 n]]):=by
 refine ACalls.body T_ok Tryz.func53 (by kernel_rfl) rfl Tryz.ntmps53 (congrArg Array.toList Tryz.results53) ?_
 try simp -implicitDefEqProofs only [LM0,eq_self,zaa,zab,Nat.zero_mul,za6,zaM,zbI,zbJ,zbK,zaE,zaN,zaO,zaP,zaQ,zaF,zbL,zbM,za7,za8,bx_f,TB,SB,Int.reduceToNat,Nat.reduceAdd,Nat.reduceEqDiff,Nat.reduceLT,Nat.reduceMod,Nat.reducePow,Nat.reduceSub,if_true,reduceIte]
 refine ACalls.mono (valueOfP' 0 0 _) ?_
 rintro _ _ ⟨rfl,rfl⟩
 try simp -implicitDefEqProofs only [LM0,eq_self,zaa,zab,Nat.zero_mul,za6,zaM,zbI,zbJ,zbK,zaE,zaN,zaO,zaP,zaQ,zaF,zbL,zbM,za7,za8,bx_f,TB,SB,Int.reduceToNat,Nat.reduceAdd,Nat.reduceEqDiff,Nat.reduceLT,Nat.reduceMod,Nat.reducePow,Nat.reduceSub,if_true,reduceIte]
 refine ACalls.same (valueType' _ _) ?_
 try simp -implicitDefEqProofs only [LM0,eq_self,zaa,zab,Nat.zero_mul,za6,zaM,zbI,zbJ,zbK,zaE,zaN,zaO,zaP,zaQ,zaF,zbL,zbM,za7,za8,bx_f,TB,SB,Int.reduceToNat,Nat.reduceAdd,Nat.reduceEqDiff,Nat.reduceLT,Nat.reduceMod,Nat.reducePow,Nat.reduceSub,if_true,reduceIte]
 refine⟨(_,_),mKindP'.at',?_⟩
 refine ACalls.same (kindP' _) ?_
 try simp -implicitDefEqProofs only [LM0,eq_self,zaa,zab,Nat.zero_mul,za6,zaM,zbI,zbJ,zbK,zaE,zaN,zaO,zaP,zaQ,zaF,zbL,zbM,za7,za8,bx_f,TB,SB,Int.reduceToNat,Nat.reduceAdd,Nat.reduceEqDiff,Nat.reduceLT,Nat.reduceMod,Nat.reducePow,Nat.reduceSub,if_true,reduceIte]
 have e22:(!decide ((22:UInt8)=UInt8.ofNat 22))=false:=rfl
 simp only [e22]
 try simp -implicitDefEqProofs only [LM0,eq_self,zaa,zab,Nat.zero_mul,za6,zaM,zbI,zbJ,zbK,zaE,zaN,zaO,zaP,zaQ,zaF,zbL,zbM,za7,za8,bx_f,TB,SB,Int.reduceToNat,Nat.reduceAdd,Nat.reduceEqDiff,Nat.reduceLT,Nat.reduceMod,Nat.reducePow,Nat.reduceSub,if_true,reduceIte]
 refine ACalls.same (valueNil' (id:=0) (off:=0) rfl) ?_
 try simp -implicitDefEqProofs only [LM0,eq_self,zaa,zab,Nat.zero_mul,za6,zaM,zbI,zbJ,zbK,zaE,zaN,zaO,zaP,zaQ,zaF,zbL,zbM,za7,za8,bx_f,TB,SB,Int.reduceToNat,Nat.reduceAdd,Nat.reduceEqDiff,Nat.reduceLT,Nat.reduceMod,Nat.reducePow,Nat.reduceSub,if_true,reduceIte]
 refine⟨(_,_),mElemP'.at',?_⟩
 refine ACalls.same (relemP' _) ?_
 try simp -implicitDefEqProofs only [LM0,eq_self,zaa,zab,Nat.zero_mul,za6,zaM,zbI,zbJ,zbK,zaE,zaN,zaO,zaP,zaQ,zaF,zbL,zbM,za7,za8,bx_f,TB,SB,Int.reduceToNat,Nat.reduceAdd,Nat.reduceEqDiff,Nat.reduceLT,Nat.reduceMod,Nat.reducePow,Nat.reduceSub,if_true,reduceIte]
 refine⟨(_,_),mKindE'.at',?_⟩
 refine ACalls.same (kindE' _) ?_
 try simp -implicitDefEqProofs only [LM0,eq_self,zaa,zab,Nat.zero_mul,za6,zaM,zbI,zbJ,zbK,zaE,zaN,zaO,zaP,zaQ,zaF,zbL,zbM,za7,za8,bx_f,TB,SB,Int.reduceToNat,Nat.reduceAdd,Nat.reduceEqDiff,Nat.reduceLT,Nat.reduceMod,Nat.reducePow,Nat.reduceSub,if_true,reduceIte]
 have e20:(!decide ((25:UInt8)=UInt8.ofNat 20))=true:=rfl
 simp only [e20]
 try simp -implicitDefEqProofs only [LM0,eq_self,zaa,zab,Nat.zero_mul,za6,zaM,zbI,zbJ,zbK,zaE,zaN,zaO,zaP,zaQ,zaF,zbL,zbM,za7,za8,bx_f,TB,SB,Int.reduceToNat,Nat.reduceAdd,Nat.reduceEqDiff,Nat.reduceLT,Nat.reduceMod,Nat.reducePow,Nat.reduceSub,if_true,reduceIte]
 refine⟨(_,_),mImplE'.at',?_⟩
 refine ACalls.same (implE' _) ?_
 try simp -implicitDefEqProofs only [LM0,eq_self,zaa,zab,Nat.zero_mul,za6,zaM,zbI,zbJ,zbK,zaE,zaN,zaO,zaP,zaQ,zaF,zbL,zbM,za7,za8,bx_f,TB,SB,Int.reduceToNat,Nat.reduceAdd,Nat.reduceEqDiff,Nat.reduceLT,Nat.reduceMod,Nat.reducePow,Nat.reduceSub,if_true,reduceIte]
 refine ACalls.mono (as_okF p n) ?_
 rintro _ _ ⟨rfl,rfl⟩
 try simp -implicitDefEqProofs only [LM0,eq_self,zaa,zab,Nat.zero_mul,za6,zaM,zbI,zbJ,zbK,zaE,zaN,zaO,zaP,zaQ,zaF,zbL,zbM,za7,za8,bx_f,TB,SB,Int.reduceToNat,Nat.reduceAdd,Nat.reduceEqDiff,Nat.reduceLT,Nat.reduceMod,Nat.reducePow,Nat.reduceSub,if_true,reduceIte]
 refine .inl ⟨[0],bl true,[.rw [i64 p,i64 n]],rfl,rfl,by simp,by simp [AV.ren,zao],?_,rfl,rfl⟩
 simp [zah,Blk.ren,renL,zag]
end Go.Proofs.YtamcppdhkeiaiaaGreatDoor
end

section
namespace Go.Proofs.YtamcppdhkeiaiaaGreatDoor
open Go Go.Eng
set_option linter.defProp false in
def LB17:=And.intro @za6 (And.intro @zaM (And.intro @zbI (And.intro @zbJ (And.intro @zbK (And.intro @zaE (And.intro @zaN (And.intro @zaO (And.intro @zaP (And.intro @zaQ (And.intro @zaF (And.intro @zbL (And.intro @zbM (And.intro @za7 (And.intro @za8 (@bx_f)))))))))))))))
theorem zgA {K:AV→Prop}:zbl T 107 [] K=K (fltA 0 0):=by
 simp [zbl,T107,T3,T25,tyPf,zb9,zaS,zbf,fltA,i64]
def toldT:Tr:=(.br 0 (.br 1 (.br 2 (.br 3 (.br 4 .done .nil) .nil) (.br 3 (.br 2 (.br 4 .done .nil) .nil) .nil)) (.br 2 (.br 1 (.br 3 (.br 4 .done .nil) .nil) .nil) .nil)) (.br 2 (.br 0 (.br 1 (.br 3 (.br 4 .done .nil) .nil) .nil) .nil) .nil))
theorem told_ok (p n:Int):ACalls Tryz.prog 38 [flt p n] [] (fun y _=>y=.ret (.tup [i64 p,i64 n])):=by
 have hF:=As_okF p n
 have hE:=As_okE p n
 unfold tgtF at hF
 unfold tgtA at hE
 refine ACalls.body T_ok Tryz.func38 (by kernel_rfl) rfl Tryz.ntmps38 (congrArg Array.toList Tryz.results38) ?_
 try simp -implicitDefEqProofs only [LM0,LB17,eq_self,zaa,zab,Nat.zero_mul,zgA,TB,SB,Int.reduceToNat,Nat.reduceAdd,Nat.reduceEqDiff,Nat.reduceLT,Nat.reduceMod,Nat.reducePow,Nat.reduceSub,if_true,reduceIte]
 refine ACalls.frame ([0]) (hF) rfl (by decide) (by simp [LM1,zah,zae,renL,AV.ren,AEnd.ren,zaf,mbF.fren,zac,List.getElem?_cons_zero,List.getElem?_cons_succ]) (by first | rfl | simp [LM1,zah,zae,renL,AV.ren,AEnd.ren,zaf,mbF.fren,zac,List.getElem?_cons_zero,List.getElem?_cons_succ]) ?_
 rintro _ _ ⟨rfl,rfl⟩
 refine⟨.ret (bl true),[.rw [i64 p,i64 n],.rw [i64 0]],(by show zae _ _ ([0,1]) ([0,1]) 0 _;simp [LM1,zah,zae,renL,AV.ren,AEnd.ren,zaf,mbF.fren,zac,List.getElem?_cons_zero,List.getElem?_cons_succ]),(by show AEnd.ren ([0,1]) _ _;first | rfl | simp [LM1,zah,zae,renL,AV.ren,AEnd.ren,zaf,mbF.fren,zac,List.getElem?_cons_zero,List.getElem?_cons_succ]),?_⟩
 try simp -implicitDefEqProofs only [LM0,LB17,eq_self,zaa,zab,Nat.zero_mul,zgA,TB,SB,Int.reduceToNat,Nat.reduceAdd,Nat.reduceEqDiff,Nat.reduceLT,Nat.reduceMod,Nat.reducePow,Nat.reduceSub,if_true,reduceIte]
 refine ACalls.frame ([1]) (hE) rfl (by decide) (by simp [LM1,zah,zae,renL,AV.ren,AEnd.ren,zaf,mbF.fren,zac,List.getElem?_cons_zero,List.getElem?_cons_succ]) (by first | rfl | simp [LM1,zah,zae,renL,AV.ren,AEnd.ren,zaf,mbF.fren,zac,List.getElem?_cons_zero,List.getElem?_cons_succ]) ?_
 rintro _ _ ⟨rfl,rfl⟩
 refine⟨.ret (bl true),[.rw [i64 p,i64 n],.rw [i64 n]],(by show zae _ _ ([1,0]) ([1,0]) 0 _;simp [LM1,zah,zae,renL,AV.ren,AEnd.ren,zaf,mbF.fren,zac,List.getElem?_cons_zero,List.getElem?_cons_succ]),(by show AEnd.ren ([1,0]) _ _;first | rfl | simp [LM1,zah,zae,renL,AV.ren,AEnd.ren,zaf,mbF.fren,zac,List.getElem?_cons_zero,List.getElem?_cons_succ]),?_⟩
 try simp -implicitDefEqProofs only [LM0,LB17,eq_self,zaa,zab,Nat.zero_mul,zgA,TB,SB,Int.reduceToNat,Nat.reduceAdd,Nat.reduceEqDiff,Nat.reduceLT,Nat.reduceMod,Nat.reducePow,Nat.reduceSub,if_true,reduceIte]
 refine zh8 toldT (by kernel_rfl) (by kernel_rfl) ?_
 unfold toldT
 try simp -implicitDefEqProofs only [LM0,LB17,eq_self,zaa,zab,Nat.zero_mul,zgA,TB,SB,Int.reduceToNat,Nat.reduceAdd,Nat.reduceEqDiff,Nat.reduceLT,Nat.reduceMod,Nat.reducePow,Nat.reduceSub,if_true,reduceIte]
 repeat' with_reducible refine And.intro ?_ ?_
 all_goals
  refine zeo ?_
  try simp -implicitDefEqProofs only [LM0,LB17,eq_self,zaa,zab,Nat.zero_mul,zgA,TB,SB,Int.reduceToNat,Nat.reduceAdd,Nat.reduceEqDiff,Nat.reduceLT,Nat.reduceMod,Nat.reducePow,Nat.reduceSub,if_true,reduceIte]
  exact zax (by simp [AV.ren,renL,zag]) rfl
def parA (s:List UInt8):AV:=.tup [if (parR s).2.2=0 then slN (parR s).1 else nilS,i64 (parR s).2.1,i64 (parR s).2.2]
theorem parR_eq (s:List UInt8) (h:s.length≤2048):parR s=match zgy s with
 | .error e=>([],e.1,e.2)
 | .ok l=>(l,(s.length:Int),0):=by
 rw [parR,if_neg (by omega),zgy,docR]
 dsimp only
 cases pvF (s.length+1) (-1) (zaD s) (s.drop (zaD s)) with
 | error k=>rfl
 | ok x =>
  obtain⟨x,c⟩:=x
  dsimp only
  split
  ·rfl
  ·dsimp only
   split
   ·rfl
   ·split <;> rfl
theorem preadE_ne (s:List UInt8) (e:Int × Int) (h:zgy s=.error e):e.2≠0:=by
 rw [zgy] at h
 split at h
 ·injection h with h
  subst h
  exact fun h=>absurd h (by show ¬ (2:Int)=0;decide)
 ·split at h
  ·injection h with h
   subst h
   exact fun h=>absurd h (by show ¬ (7:Int)=0;decide)
  ·split at h
   ·cases h
   ·rename_i hn
    injection h with h
    subst h
    exact hn
theorem Parse_ok (s:List UInt8) (N:Nat) (hs:s.length≤1000000000000) (hS:zji N) (hN:s.length≤2048→s.length≤N * 5):ACalls Tryz.prog 20 [str s] [] (fun y _=>y=.ret (parA s)):=by
 refine ACalls.body T_ok Tryz.func20 (by kernel_rfl) rfl Tryz.ntmps20 (congrArg Array.toList Tryz.results20) ?_
 try simp -implicitDefEqProofs only [LM0,LB17,eq_self,zaa,zab,Nat.zero_mul,zgA,TB,SB,Int.reduceToNat,Nat.reduceAdd,Nat.reduceEqDiff,Nat.reduceLT,Nat.reduceMod,Nat.reducePow,Nat.reduceSub,if_true,reduceIte]
 refine⟨fun hl=>?_,fun hl=>?_⟩
 ·refine zax (by simp [AV.ren,renL,zag]) ?_
  have hp:parR s=([],0,4):=by rw [parR,if_pos (by omega)]
  rw [parA,hp]
  rfl
 ·have hr:=pread_ok s N (by omega) hS (hN (by omega))
  have hp:=parR_eq s (by omega)
  cases hx:zgy s with
  | error e =>
   have hne:=preadE_ne s e hx
   rw [hx] at hp
   rw [show zgz s=.tup [nilS,flt e.1 e.2] by rw [zgz,hx]] at hr
   refine(hr).pure (by first | rfl | simp [renL,AV.ren,zav,zak str zai,zaA,zaz,zay,zag,zao,zai]) ?_
   rintro _ σ rfl
   refine⟨by first | rfl | simp [AEnd.noid,AV.ren,renL,zav,zak str zai,zaA,zaz,zay,zag,zao,zai],?_⟩
   try simp -implicitDefEqProofs only [LM0,LB17,eq_self,zaa,zab,Nat.zero_mul,zgA,TB,SB,Int.reduceToNat,Nat.reduceAdd,Nat.reduceEqDiff,Nat.reduceLT,Nat.reduceMod,Nat.reducePow,Nat.reduceSub,if_true,reduceIte]
   refine(told_ok e.1 e.2).pure (by first | rfl | simp [renL,AV.ren,zav,zak str zai,zaA,zaz,zay,zag,zao,zai]) ?_
   rintro _ σ rfl
   refine⟨by first | rfl | simp [AEnd.noid,AV.ren,renL,zav,zak str zai,zaA,zaz,zay,zag,zao,zai],?_⟩
   try simp -implicitDefEqProofs only [LM0,LB17,eq_self,zaa,zab,Nat.zero_mul,zgA,TB,SB,Int.reduceToNat,Nat.reduceAdd,Nat.reduceEqDiff,Nat.reduceLT,Nat.reduceMod,Nat.reducePow,Nat.reduceSub,if_true,reduceIte]
   refine zax (by simp [AV.ren,renL,zag]) ?_
   rw [parA,hp]
   dsimp only
   rw [if_neg hne]
   rfl
  | ok l =>
   rw [hx] at hp
   rw [show zgz s=.tup [slN l,.lit .nilIface] by rw [zgz,hx]] at hr
   refine hr.pure (by simp [renL,zai]) ?_
   rintro _ σ rfl
   refine⟨by simp [AEnd.noid,AV.ren,renL,zac],?_⟩
   try simp -implicitDefEqProofs only [LM0,LB17,eq_self,zaa,zab,Nat.zero_mul,zgA,TB,SB,Int.reduceToNat,Nat.reduceAdd,Nat.reduceEqDiff,Nat.reduceLT,Nat.reduceMod,Nat.reducePow,Nat.reduceSub,if_true,reduceIte]
   refine zax (by simp [AV.ren,renL,zac,zag]) ?_
   rw [parA,hp]
   rfl
end Go.Proofs.YtamcppdhkeiaiaaGreatDoor
end

