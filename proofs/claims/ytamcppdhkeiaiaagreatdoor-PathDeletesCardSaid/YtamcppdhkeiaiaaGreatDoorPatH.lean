/-
  What is set, what is deleted, all that stands at a path. No condition.
-/
import Derived.Test.YtamcppdhkeiaiaaGreatDoorPatG
set_option linter.unusedSimpArgs false
set_option linter.unusedVariables false
set_option linter.unusedSectionVars false
section
namespace Go.Proofs.YtamcppdhkeiaiaaGreatDoor
open Go Go.Eng
def puA (x:List Nd):AV:=.agg [.sl (x.flatMap nC) x.length]
theorem zkE (id o:Nat) (K:AV→Prop):zaq T 85 (.ptr id o) 0 K=K (.ptr id (o+0)):=fzP T85 rfl rfl T37 (by decide) id o
theorem zkF (e:TypeId) (cs:List AV) (n:Nat) (σ:zad) (KS:AV→zad→Prop):wbox e (.agg [.sl cs n]) σ KS=KS (.ptr σ.length 0) (σ++[.rw [.sl cs n]]):=bxW rfl rfl e
theorem zkG (e:TypeId) (σ:zad) (KS:AV→zad→Prop):wbox e (.agg []) σ KS=KS (.ptr σ.length 0) (σ++[.rw []]):=bxW rfl rfl e
theorem cut_ok (v:List Nd) (p:Nat) (s:Pt) (hv:zaI v=0) (hp:p < v.length):ACalls Tryz.prog 165 [.agg [],.sl (v.flatMap nC) v.length,i64 p,ptA s] [] (fun y _=>y=.ret (.tup [slN (cutV v p s).1,i64 (cutV v p s).2])):=by
 have hl:=zdc hv
 have hf:=zka v p s (by omega) hp
 have hgt:=@zkf v p s
 rw [zeV] at hf ⊢
 refine ACalls.body T_ok Tryz.func165 (by kernel_rfl) rfl Tryz.ntmps165 (congrArg Array.toList Tryz.results165) ?_
 try simp -implicitDefEqProofs only [LM4,eq_self,zaa,zab,Nat.zero_mul,lzS,zkE,zkF,zkG,TB,SB,Int.reduceToNat,Nat.reduceAdd,Nat.reduceEqDiff,Nat.reduceLT,Nat.reduceMod,Nat.reducePow,Nat.reduceSub,if_true,reduceIte]
 refine hf.pure (by simp [renL,AV.ren,zaJ,zap,zag,zai]) ?_
 rintro _ σ rfl
 refine⟨by simp [AEnd.noid,AV.ren,renL,zag,zao],?_⟩
 cases ho:zcr v p s with
 | none =>
  try simp -implicitDefEqProofs only [LM4,eq_self,zaa,zab,Nat.zero_mul,lzS,zkE,zkF,zkG,Option.isSome_none,TB,SB,Int.reduceToNat,Nat.reduceAdd,Nat.reduceEqDiff,Nat.reduceLT,Nat.reduceMod,Nat.reducePow,Nat.reduceSub,if_true,reduceIte]
  exact zdR [] zeq (by rw [cutV,ho])
 | some kid =>
  obtain⟨g1,g2,g3⟩:=hgt ho
  try simp -implicitDefEqProofs only [LM4,eq_self,zaa,zab,Nat.zero_mul,lzS,zkE,zkF,zkG,Option.isSome_some,Option.getD_some,TB,SB,Int.reduceToNat,Nat.reduceAdd,Nat.reduceEqDiff,Nat.reduceLT,Nat.reduceMod,Nat.reducePow,Nat.reduceSub,if_true,reduceIte]
  have he:=zkg (v:=v) (p:=kid) (by omega)
  have hki:=kids_inI hv hp
  have hsp:∀ fr:Nat,p < fr→fr≤kid→ACalls Tryz.prog 166 [.sl (v.flatMap nC) v.length,i64 p,i64 (-1),i64 fr,i64 ((endP v kid:Nat):Int),.lit (.slice none 0 0)] [] (fun y _=>y=.ret (slN (more (spl v fr (endP v kid) []) p (-1)))):=fun fr h1 h2 =>
   (zfD v [] p (-1) fr (endP v kid) (by omega) (Nat.zero_le _) h1 (by omega) he.2 (by unfold inI;omega)).nils ⟨.inl rfl,.inl rfl,.inl rfl,.inl rfl,.inl rfl,.inr ⟨rfl,rfl⟩,trivial⟩
  refine⟨by omega,by omega,Nat.le_refl _,hp,fun k5=>?_,fun n5=>?_⟩
  ·have g4:=g3 k5
   have ek:((kid:Int) - 1)=((kid - 1:Nat):Int):=by omega
   refine⟨by unfold inI;omega,?_⟩
   refine(ziK v kid (by omega) g1).pure (by simp [renL,AV.ren,zaJ,zap,zag]) ?_
   rintro _ σ rfl
   refine⟨zag _ _,?_⟩
   try simp -implicitDefEqProofs only [LM4,eq_self,zaa,zab,Nat.zero_mul,lzS,zkE,zkF,zkG,TB,SB,Int.reduceToNat,Nat.reduceAdd,Nat.reduceEqDiff,Nat.reduceLT,Nat.reduceMod,Nat.reducePow,Nat.reduceSub,if_true,reduceIte]
   rw [ek]
   refine(hsp (kid - 1) (by omega) (by omega)).pure (by simp [renL,AV.ren,zaJ,zap,zag]) ?_
   rintro _ σ rfl
   refine⟨zcp _ _,?_⟩
   try simp -implicitDefEqProofs only [LM4,eq_self,zaa,zab,Nat.zero_mul,lzS,zkE,zkF,zkG,TB,SB,Int.reduceToNat,Nat.reduceAdd,Nat.reduceEqDiff,Nat.reduceLT,Nat.reduceMod,Nat.reducePow,Nat.reduceSub,if_true,reduceIte]
   refine zdR (l:=more (spl v (kid - 1) (endP v kid) []) p (-1)) [] rfl ?_
   have h5:kdOf v p=5:=k5
   simp only [cutV,ho,if_pos h5]
  ·refine(ziK v kid (by omega) g1).pure (by simp [renL,AV.ren,zaJ,zap,zag]) ?_
   rintro _ σ rfl
   refine⟨zag _ _,?_⟩
   try simp -implicitDefEqProofs only [LM4,eq_self,zaa,zab,Nat.zero_mul,lzS,zkE,zkF,zkG,TB,SB,Int.reduceToNat,Nat.reduceAdd,Nat.reduceEqDiff,Nat.reduceLT,Nat.reduceMod,Nat.reducePow,Nat.reduceSub,if_true,reduceIte]
   refine(hsp kid (by omega) (by omega)).pure (by simp [renL,AV.ren,zaJ,zap,zag]) ?_
   rintro _ σ rfl
   refine⟨zcp _ _,?_⟩
   try simp -implicitDefEqProofs only [LM4,eq_self,zaa,zab,Nat.zero_mul,lzS,zkE,zkF,zkG,TB,SB,Int.reduceToNat,Nat.reduceAdd,Nat.reduceEqDiff,Nat.reduceLT,Nat.reduceMod,Nat.reducePow,Nat.reduceSub,if_true,reduceIte]
   refine zdR (l:=more (spl v kid (endP v kid) []) p (-1)) [] rfl ?_
   have h5:¬ kdOf v p=5:=n5
   simp only [cutV,ho,if_neg h5]
end Go.Proofs.YtamcppdhkeiaiaaGreatDoor
end

section
namespace Go.Proofs.YtamcppdhkeiaiaaGreatDoor
open Go Go.Eng
set_option linter.defProp false in
def LB22:=And.intro @zkE (And.intro @zkF (@zkG))
theorem zck (e:TypeId) (i o n w:Nat) (cs:List AV) (m:Nat) (σ:zad) (KS:AV→zad→Prop):bs2 (some (tySl e)) 2 [(0,.ref i o n w),(1,.sl cs m)] σ KS=KS (.ref σ.length 0 2 1) (σ++[.rw [.ref i o n w,.sl cs m]]):=by
 simp [bs2,tySl,zb9,zcq,zbf,List.range_succ,one_ref,one_sl,cells_ref,zf6]
theorem frz_NsR {σ:zad} {i:Nat} {L:List (List Nd)} (h:σ[i]?=some (.ro (L.map slNs))):frzA σ (.ref i 0 L.length 1) (.sl (L.map slNs) L.length) :=
 .inr ⟨_,h,by simp,by rw [List.drop_zero,Nat.mul_one,List.take_of_length_le (by simp)]⟩
theorem put_ok (v x:List Nd) (p:Nat) (s:Pt) (hv:zaI v=0) (hp:p < v.length) (hx:x.length≤900):ACalls Tryz.prog 170 [puA x,.sl (v.flatMap nC) v.length,i64 p,ptA s] [] (fun y _=>y=.ret (.tup [slN (putV v x p s).1,i64 (putV v x p s).2])):=by
 have hl:=zdc hv
 have hf:=zka v p s (by omega) hp
 have hgt:=@zkf v p s
 have hki:=kids_inI hv hp
 unfold puA
 rw [zeV] at hf ⊢
 refine ACalls.body T_ok Tryz.func170 (by kernel_rfl) rfl Tryz.ntmps170 (congrArg Array.toList Tryz.results170) ?_
 try simp -implicitDefEqProofs only [LM4,LB22,eq_self,zaa,zab,Nat.zero_mul,lzS,zck,TB,SB,Int.reduceToNat,Nat.reduceAdd,Nat.reduceEqDiff,Nat.reduceLT,Nat.reduceMod,Nat.reducePow,Nat.reduceSub,if_true,reduceIte]
 refine hf.pure (by simp [renL,AV.ren,zaJ,zap,zag,zai]) ?_
 rintro _ σ rfl
 refine⟨by simp [AEnd.noid,AV.ren,renL,zag,zao],?_⟩
 cases ho:zcr v p s with
 | some kid =>
  obtain⟨g1,g2,g3⟩:=hgt ho
  have he:=zkg (v:=v) (p:=kid) (by omega)
  have hsp:=zfD v x p 0 kid (endP v kid) (by omega) (by omega) g2 he.1 he.2 (by unfold inI;omega)
  try simp -implicitDefEqProofs only [LM4,LB22,eq_self,zaa,zab,Nat.zero_mul,lzS,zck,Option.isSome_some,Option.getD_some,TB,SB,Int.reduceToNat,Nat.reduceAdd,Nat.reduceEqDiff,Nat.reduceLT,Nat.reduceMod,Nat.reducePow,Nat.reduceSub,if_true,reduceIte]
  refine zdK (by kernel_rfl) (by kernel_rfl) ?_
  try simp -implicitDefEqProofs only [LM4,LB22,eq_self,zaa,zab,Nat.zero_mul,lzS,zck,TB,SB,Int.reduceToNat,Nat.reduceAdd,Nat.reduceEqDiff,Nat.reduceLT,Nat.reduceMod,Nat.reducePow,Nat.reduceSub,if_true,reduceIte]
  refine zeP (ziK v kid (by omega) g1) (by simp [renL,AV.ren,zaJ,zap,zag]) (zag _ _) ?_
  try simp -implicitDefEqProofs only [LM4,LB22,eq_self,zaa,zab,Nat.zero_mul,lzS,zck,TB,SB,Int.reduceToNat,Nat.reduceAdd,Nat.reduceEqDiff,Nat.reduceLT,Nat.reduceMod,Nat.reducePow,Nat.reduceSub,if_true,reduceIte]
  refine zeP hsp (by simp [renL,AV.ren,zaJ,zap,zag]) (zcp _ _) ?_
  try simp -implicitDefEqProofs only [LM4,LB22,eq_self,zaa,zab,Nat.zero_mul,lzS,zck,TB,SB,Int.reduceToNat,Nat.reduceAdd,Nat.reduceEqDiff,Nat.reduceLT,Nat.reduceMod,Nat.reducePow,Nat.reduceSub,if_true,reduceIte]
  refine zdR (l:=more (spl v kid (endP v kid) x) p 0) [] rfl ?_
  simp only [putV,ho]
 | none =>
  try simp -implicitDefEqProofs only [LM4,LB22,eq_self,zaa,zab,Nat.zero_mul,lzS,zck,Option.isSome_none,TB,SB,Int.reduceToNat,Nat.reduceAdd,Nat.reduceEqDiff,Nat.reduceLT,Nat.reduceMod,Nat.reducePow,Nat.reduceSub,if_true,reduceIte]
  have n4:∀ q:Prop,¬ (v.getD p n0d).kind=4→¬ (kdOf v p=4∧q):=fun q h g=>h g.1
  refine zdK (by kernel_rfl) (by kernel_rfl) ?_
  try simp -implicitDefEqProofs only [LM4,LB22,eq_self,zaa,zab,Nat.zero_mul,lzS,zck,TB,SB,Int.reduceToNat,Nat.reduceAdd,Nat.reduceEqDiff,Nat.reduceLT,Nat.reduceMod,Nat.reducePow,Nat.reduceSub,if_true,reduceIte]
  refine⟨by omega,by omega,Nat.le_refl _,hp,?_⟩
  by_cases k4:(v.getD p n0d).kind=4
  ·have d4:=decide_eq_true k4
   have d5:decide ((v.getD p n0d).kind=5)=false:=decide_eq_false (by omega)
   rw [d4]
   try simp -implicitDefEqProofs only [LM4,LB22,eq_self,zaa,zab,Nat.zero_mul,lzS,zck,TB,SB,Int.reduceToNat,Nat.reduceAdd,Nat.reduceEqDiff,Nat.reduceLT,Nat.reduceMod,Nat.reducePow,Nat.reduceSub,if_true,reduceIte]
   have hnone:∀ σ:zad,¬ s.pos=(v.getD p n0d).kids→endQ 0 (.tup [.lit (.slice none 0 0),i64 6]) σ (fun r _=>AEnd.ret r=.ret (.tup [slN (putV v x p s).1,i64 (putV v x p s).2])):=fun σ h =>
    zdR [] zeq (by rw [putV,ho];dsimp only;rw [if_neg (fun g=>h g.2),if_neg (fun g=>by have g1:=g.1;unfold kdOf at g1;omega)])
   have he:=zkg (v:=v) (p:=p) (by omega)
   have hg:=endP_gt hv hp
   have hsp:=zfD v x p 1 (endP v p) (endP v p) (by omega) (by omega) hg (Nat.le_refl _) he.2 (by unfold inI;omega)
   refine⟨by omega,by omega,Nat.le_refl _,hp,fun hk=>?_,fun hk=>?_⟩
   ·refine(ziK v p (by omega) hp).pure (by simp [renL,AV.ren,zaJ,zap,zag]) ?_
    rintro _ σ rfl
    refine⟨zag _ _,?_⟩
    try simp -implicitDefEqProofs only [LM4,LB22,eq_self,zaa,zab,Nat.zero_mul,lzS,zck,TB,SB,Int.reduceToNat,Nat.reduceAdd,Nat.reduceEqDiff,Nat.reduceLT,Nat.reduceMod,Nat.reducePow,Nat.reduceSub,if_true,reduceIte]
    refine hsp.pure (by simp [renL,AV.ren,zaJ,zap,zag]) ?_
    rintro _ σ rfl
    refine⟨zcp _ _,?_⟩
    try simp -implicitDefEqProofs only [LM4,LB22,eq_self,zaa,zab,Nat.zero_mul,lzS,zck,TB,SB,Int.reduceToNat,Nat.reduceAdd,Nat.reduceEqDiff,Nat.reduceLT,Nat.reduceMod,Nat.reducePow,Nat.reduceSub,if_true,reduceIte]
    refine zdR (l:=more (spl v (endP v p) (endP v p) x) p 1) [] rfl ?_
    have k4':kdOf v p=4:=k4
    simp only [putV,ho,if_pos (And.intro k4' hk)]
   ·refine⟨by omega,by omega,Nat.le_refl _,hp,?_⟩
    rw [d5]
    try simp -implicitDefEqProofs only [LM4,LB22,eq_self,zaa,zab,Nat.zero_mul,lzS,zck,TB,SB,Int.reduceToNat,Nat.reduceAdd,Nat.reduceEqDiff,Nat.reduceLT,Nat.reduceMod,Nat.reducePow,Nat.reduceSub,if_true,reduceIte]
    exact hnone _ hk
  ·have d4:=decide_eq_false k4
   rw [d4]
   try simp -implicitDefEqProofs only [LM4,LB22,eq_self,zaa,zab,Nat.zero_mul,lzS,zck,TB,SB,Int.reduceToNat,Nat.reduceAdd,Nat.reduceEqDiff,Nat.reduceLT,Nat.reduceMod,Nat.reducePow,Nat.reduceSub,if_true,reduceIte]
   refine⟨by omega,by omega,Nat.le_refl _,hp,?_⟩
   by_cases k5:(v.getD p n0d).kind=5
   ·have d5:=decide_eq_true k5
    rw [d5]
    by_cases x0:s.pos < 0
    ·obtain⟨n,hn,hn1,hn2⟩:=entryP_in s.key hv hp k5
     have hen:=entry_ok v p s.key (by omega) hp
     rw [hn] at hen
     have hsp:=zfD v (⟨3,0,s.key,0⟩::x) p 1 n n (by omega) (by rw [List.length_cons];omega) hn1 (Nat.le_refl _) hn2 (by unfold inI;omega)
     try simp -implicitDefEqProofs only [LM4,LB22,eq_self,zaa,zab,Nat.zero_mul,lzS,zck,decide_eq_true x0,TB,SB,Int.reduceToNat,Nat.reduceAdd,Nat.reduceEqDiff,Nat.reduceLT,Nat.reduceMod,Nat.reducePow,Nat.reduceSub,if_true,reduceIte]
     refine hen.pure (by simp [renL,AV.ren,zaJ,zap,zag,zai]) ?_
     rintro _ σ rfl
     refine⟨zag _ _,?_⟩
     try simp -implicitDefEqProofs only [LM4,LB22,eq_self,zaa,zab,Nat.zero_mul,lzS,zck,TB,SB,Int.reduceToNat,Nat.reduceAdd,Nat.reduceEqDiff,Nat.reduceLT,Nat.reduceMod,Nat.reducePow,Nat.reduceSub,if_true,reduceIte]
     refine ACalls.tell [2] 3 (cs':=[[⟨3,0,s.key,0⟩],x].map slNs) rfl ⟨_,_,rfl,ndF.frz (l:=[⟨3,0,s.key,0⟩]) rfl rfl,_,_,rfl,rfl,rfl⟩ ?_
     refine ACalls.frz [3] (l':=[.sl ([[⟨3,0,s.key,0⟩],x].map slNs) [[(⟨3,0,s.key,0⟩:Nd)],x].length]) ⟨_,_,rfl,frz_NsR (L:=[[⟨3,0,s.key,0⟩],x]) rfl,rfl⟩ ?_
     have hc:=zjq [[⟨3,0,s.key,0⟩],x] (by simp) (by simp;omega)
     rw [show [[(⟨3,0,s.key,0⟩:Nd)],x].flatten=⟨3,0,s.key,0⟩::x by simp] at hc
     have hV:putV v x p s=(more (spl v n n (⟨3,0,s.key,0⟩::x)) p 1,0):=by
      have k5':kdOf v p=5:=k5
      simp only [putV,ho,if_neg (n4 _ k4),if_pos (And.intro k5' x0),hn,Int.toNat_natCast]
     obtain⟨y,hy⟩:∃ y,y=(⟨3,0,s.key,0⟩::x:List Nd):=⟨_,rfl⟩
     rw [← hy] at hc hsp hV
     show ACalls _ _ _ [.rw [.sl (x.flatMap nC) x.length],.rw [str s.key,i64 s.pos],.ro (([⟨3,0,s.key,0⟩]:List Nd).flatMap nC),.ro ([[⟨3,0,s.key,0⟩],x].map slNs)] _
     refine ACalls.frame ([]) (hc) rfl (by decide) (by simp [LM1,LB20,zah,zae,renL,AV.ren,AEnd.ren,zaf,mbF.fren,zac,zbw,List.getElem?_cons_zero,List.getElem?_cons_succ]) (by first | rfl | simp [LM1,LB20,zah,zae,renL,AV.ren,AEnd.ren,zaf,mbF.fren,zac,zbw,List.getElem?_cons_zero,List.getElem?_cons_succ]) ?_
     rintro _ _ ⟨rfl,rfl⟩
     refine⟨.ret (.ref 4 0 y.length 4),[.rw [.sl (x.flatMap nC) x.length],.rw [str s.key,i64 s.pos],.ro (([⟨3,0,s.key,0⟩]:List Nd).flatMap nC),.ro ([[⟨3,0,s.key,0⟩],x].map slNs),.rw (y.flatMap nC)],(by show zae _ _ ([1,1,1,1,0]) ([1,1,1,1,0]) 0 _;simp [LM1,LB20,zah,zae,renL,AV.ren,AEnd.ren,zaf,mbF.fren,zac,zbw,List.getElem?_cons_zero,List.getElem?_cons_succ]),(by show AEnd.ren ([1,1,1,1,0]) _ _;first | rfl | simp [LM1,LB20,zah,zae,renL,AV.ren,AEnd.ren,zaf,mbF.fren,zac,zbw,List.getElem?_cons_zero,List.getElem?_cons_succ]),?_⟩
     try simp -implicitDefEqProofs only [LM4,LB22,eq_self,zaa,zab,Nat.zero_mul,lzS,zck,TB,SB,Int.reduceToNat,Nat.reduceAdd,Nat.reduceEqDiff,Nat.reduceLT,Nat.reduceMod,Nat.reducePow,Nat.reduceSub,if_true,reduceIte]
     refine ACalls.freeze (pre:=[.sl (v.flatMap nC) v.length,i64 p,i64 1,i64 n,i64 n]) (post:=[]) (cs:=y.flatMap nC) rfl (by rw [zbn];omega) ?_
     rw [List.drop_zero,List.take_of_length_le (by rw [zbn];omega)]
     refine hsp.pure (by simp [renL,AV.ren,zaJ,zap,zag]) ?_
     rintro _ σ rfl
     refine⟨zcp _ _,?_⟩
     try simp -implicitDefEqProofs only [LM4,LB22,eq_self,zaa,zab,Nat.zero_mul,lzS,zck,TB,SB,Int.reduceToNat,Nat.reduceAdd,Nat.reduceEqDiff,Nat.reduceLT,Nat.reduceMod,Nat.reducePow,Nat.reduceSub,if_true,reduceIte]
     exact zdR (l:=more (spl v n n y) p 1) [] rfl (by rw [hV])
    ·try simp -implicitDefEqProofs only [LM4,LB22,eq_self,zaa,zab,Nat.zero_mul,lzS,zck,decide_eq_false x0,TB,SB,Int.reduceToNat,Nat.reduceAdd,Nat.reduceEqDiff,Nat.reduceLT,Nat.reduceMod,Nat.reducePow,Nat.reduceSub,if_true,reduceIte]
     exact zdR [] zeq (by rw [putV,ho];dsimp only;rw [if_neg (n4 _ k4),if_neg (fun h=>x0 h.2)])
   ·have d5:=decide_eq_false k5
    rw [d5]
    try simp -implicitDefEqProofs only [LM4,LB22,eq_self,zaa,zab,Nat.zero_mul,lzS,zck,TB,SB,Int.reduceToNat,Nat.reduceAdd,Nat.reduceEqDiff,Nat.reduceLT,Nat.reduceMod,Nat.reducePow,Nat.reduceSub,if_true,reduceIte]
    exact zdR [] zeq (by rw [putV,ho];dsimp only;rw [if_neg (n4 _ k4),if_neg (fun h=>k5 h.1)])
end Go.Proofs.YtamcppdhkeiaiaaGreatDoor
end

section
namespace Go.Proofs.YtamcppdhkeiaiaaGreatDoor
open Go Go.Eng
set_option linter.defProp false in
def LB23:=And.intro @qinvoke_ifc (@zig)
theorem zeL (l:List Pt) (n:Nat) (σ:zad) (K:AV→Prop):zbg T 22 (.sl (l.flatMap ptC) l.length) none (some (i64 n)) σ K=(n≤l.length∧K (.sl ((l.take n).flatMap ptC) n)):=by
 have e:=ptF.ftake l n
 simp [zbg,T22,tySl,bnd,i64,T43,tyPt,ptF.flen,e]
def zby (D:Nat→Pt→List Nd × Int) (v:List Nd) (l:List Pt):List Nd × Int:=match zcw v (some 0) (l.take (l.length - 1)) with
 | none=>([],6)
 | some p=>if (D p (l.getD (l.length - 1) pt0)).2=0 then (if zaI (D p (l.getD (l.length - 1) pt0)).1=0 then ((D p (l.getD (l.length - 1) pt0)).1,0) else ([],zaI (D p (l.getD (l.length - 1) pt0)).1)) else ([],(D p (l.getD (l.length - 1) pt0)).2)
theorem zjt (t : TypeId) (c : AV) (f : FuncId) (hM : mrow Tryz.prog t "cryptex/path.done" f false = true) (hcr : ∀ q, c.ren q = some c) (D : Nat → Pt → List Nd × Int) (v : List Nd) (hv : zaI v = 0)
  (hD:∀ p x,p < v.length→(D p x).1.length≤1000000∧ACalls Tryz.prog f [c,.sl (v.flatMap nC) v.length,i64 p,ptA x] [] (fun y _=>y=.ret (.tup [slN (D p x).1,i64 (D p x).2])))
  (l:List Pt) (h0:0 < l.length) (hl:l.length≤1000000):ACalls Tryz.prog 34 [.sl (v.flatMap nC) v.length,.sl (l.flatMap ptC) l.length,.ifc t c] [] (fun y _=>y=.ret (.tup [slN (zby D v l).1,i64 (zby D v l).2])):=by
 have hn:=zdc hv
 obtain⟨m,hm⟩:∃ m,l.length=m+1:=⟨l.length - 1,by omega⟩
 have hsub:(l.length:Int) - 1=(m:Int):=by omega
 have hm1:l.length - 1=m:=by omega
 have hlt:=zkb hn.1 (l.take m) (some 0) (fun p hp=>by cases hp;exact hn.1)
 have htk:(l.take m).length=m:=by rw [List.length_take];omega
 have hlead:=lead_ok v (l.take m) (by omega) hn.1 (by omega)
 rw [htk] at hlead
 have hV:zby D v l=match zcw v (some 0) (l.take m) with
  | none=>([],6)
  | some p=>if (D p (l.getD m pt0)).2=0 then (if zaI (D p (l.getD m pt0)).1=0 then ((D p (l.getD m pt0)).1,0) else ([],zaI (D p (l.getD m pt0)).1)) else ([],(D p (l.getD m pt0)).2):=by rw [zby,hm1]
 refine ACalls.body T_ok Tryz.func34 (by kernel_rfl) rfl Tryz.ntmps34 (congrArg Array.toList Tryz.results34) ?_
 try simp -implicitDefEqProofs only [LM4,LB23,eq_self,zaa,zab,Nat.zero_mul,lzS,zeL,TB,SB,Int.reduceToNat,Nat.reduceAdd,Nat.reduceEqDiff,Nat.reduceLT,Nat.reduceMod,Nat.reducePow,Nat.reduceSub,if_true,reduceIte]
 refine⟨by unfold inI;omega,?_⟩
 rw [hsub]
 try simp -implicitDefEqProofs only [LM4,LB23,eq_self,zaa,zab,Nat.zero_mul,lzS,zeL,TB,SB,Int.reduceToNat,Nat.reduceAdd,Nat.reduceEqDiff,Nat.reduceLT,Nat.reduceMod,Nat.reducePow,Nat.reduceSub,if_true,reduceIte]
 refine⟨by omega,?_⟩
 refine hlead.pure (by simp [renL,AV.ren,zaJ,zap,zbv]) ?_
 rintro _ σ rfl
 rw [zj9]
 refine⟨by simp [AEnd.noid,AV.ren,renL,zag,zao],?_⟩
 cases ho:zcw v (some 0) (l.take m) with
 | none =>
  rw [ho] at hV
  try simp -implicitDefEqProofs only [LM4,LB23,eq_self,zaa,zab,Nat.zero_mul,lzS,zeL,Option.isSome_none,TB,SB,Int.reduceToNat,Nat.reduceAdd,Nat.reduceEqDiff,Nat.reduceLT,Nat.reduceMod,Nat.reducePow,Nat.reduceSub,if_true,reduceIte]
  exact zdR [] zeq (by rw [hV])
 | some p =>
  rw [ho] at hV
  dsimp only at hV
  obtain⟨hDl,hDp⟩:=hD p (l.getD m pt0) (hlt p ho)
  rw [zeV] at hDp
  try simp -implicitDefEqProofs only [LM4,LB23,eq_self,zaa,zab,Nat.zero_mul,lzS,zeL,Option.isSome_some,Option.getD_some,TB,SB,Int.reduceToNat,Nat.reduceAdd,Nat.reduceEqDiff,Nat.reduceLT,Nat.reduceMod,Nat.reducePow,Nat.reduceSub,if_true,reduceIte]
  refine zdK (by kernel_rfl) (by kernel_rfl) ?_
  try simp -implicitDefEqProofs only [LM4,LB23,eq_self,zaa,zab,Nat.zero_mul,lzS,zeL,TB,SB,Int.reduceToNat,Nat.reduceAdd,Nat.reduceEqDiff,Nat.reduceLT,Nat.reduceMod,Nat.reducePow,Nat.reduceSub,if_true,reduceIte]
  refine⟨by omega,by omega,Nat.le_refl _,by omega,⟨f,hM⟩,(f,c),mrow_ok hM,?_⟩
  refine zeP hDp (by simp [renL,AV.ren,zap,zag,zai,hcr]) (by simp [AEnd.noid,AV.ren,renL,zcp,zag]) ?_
  generalize D p (l.getD m pt0)=r at hV hDl ⊢
  obtain⟨r,e⟩:=r
  dsimp only at hV hDl ⊢
  unfold slN
  by_cases he:e=0
  ·have de:=decide_eq_true he
   rw [if_pos he] at hV
   try simp -implicitDefEqProofs only [LM4,LB23,eq_self,zaa,zab,Nat.zero_mul,lzS,zeL,de,TB,SB,Int.reduceToNat,Nat.reduceAdd,Nat.reduceEqDiff,Nat.reduceLT,Nat.reduceMod,Nat.reducePow,Nat.reduceSub,if_true,reduceIte]
   refine(zeH r hDl).pure (by simp [renL,AV.ren,zap]) ?_
   rintro _ σ ⟨rfl,rfl⟩
   refine⟨zag _ _,?_⟩
   by_cases hr:zaI r=0
   ·have dr:=decide_eq_true hr
    rw [if_pos hr] at hV
    try simp -implicitDefEqProofs only [LM4,LB23,eq_self,zaa,zab,Nat.zero_mul,lzS,zeL,dr,TB,SB,Int.reduceToNat,Nat.reduceAdd,Nat.reduceEqDiff,Nat.reduceLT,Nat.reduceMod,Nat.reducePow,Nat.reduceSub,if_true,reduceIte]
    exact zdR (l:=r) [] rfl (by rw [hV];rfl)
   ·have dr:=decide_eq_false hr
    rw [if_neg hr] at hV
    try simp -implicitDefEqProofs only [LM4,LB23,eq_self,zaa,zab,Nat.zero_mul,lzS,zeL,dr,TB,SB,Int.reduceToNat,Nat.reduceAdd,Nat.reduceEqDiff,Nat.reduceLT,Nat.reduceMod,Nat.reducePow,Nat.reduceSub,if_true,reduceIte]
    exact zdR [] zeq (by rw [hV];rfl)
  ·have de:=decide_eq_false he
   rw [if_neg he] at hV
   try simp -implicitDefEqProofs only [LM4,LB23,eq_self,zaa,zab,Nat.zero_mul,lzS,zeL,de,TB,SB,Int.reduceToNat,Nat.reduceAdd,Nat.reduceEqDiff,Nat.reduceLT,Nat.reduceMod,Nat.reducePow,Nat.reduceSub,if_true,reduceIte]
   exact zdR [] zeq (by rw [hV];rfl)
end Go.Proofs.YtamcppdhkeiaiaaGreatDoor
end

section
namespace Go.Proofs.YtamcppdhkeiaiaaGreatDoor
open Go Go.Eng
theorem zg4 (cs:List AV) (n:Nat) (K:AV→Prop):zbl T 85 [(0,.sl cs n)] K=K (.agg [.sl cs n]):=by
 simp [zbl,T85,T37,tyPu,tySl,zb9,zaS,zf6,oneSl,zbf]
theorem zg5 (K:AV→Prop):zbl T 79 [] K=K (.agg []):=by
 simp [zbl,T79,tyGu,zb9,zaS]
theorem zdd (t:TypeId) (x:AV) (K:AV→Prop):mkI2 (some tyPu) t x K=K (.ifc t x):=zeh rfl _ _
theorem spl_le (v:List Nd) (fr to:Nat) (l:List Nd):(spl v fr to l).length≤v.length+l.length+v.length:=by
 rw [ziJ,List.length_append,List.length_append,List.length_take,List.length_drop]
 omega
theorem zhA (L:List Nd) (p:Nat) (m:Int):(more L p m).length=L.length:=by simp [more]
theorem putV_len (v x:List Nd) (p:Nat) (s:Pt):(putV v x p s).1.length≤2 * v.length+x.length+1:=by
 unfold putV
 split
 ·rename_i kid _
  have:=spl_le v kid (endP v kid) x
  rw [zhA]
  omega
 ·split
  ·have:=spl_le v (endP v p) (endP v p) x
   rw [zhA]
   omega
  ·split
   ·have:=spl_le v (zfo v p s.key).toNat (zfo v p s.key).toNat (⟨3,0,s.key,0⟩::x)
    rw [zhA]
    rw [List.length_cons] at this
    omega
   ·exact Nat.zero_le _
theorem cutV_len (v:List Nd) (p:Nat) (s:Pt):(cutV v p s).1.length≤2 * v.length:=by
 unfold cutV
 split
 ·rename_i kid _
  have:=spl_le v (if kdOf v p=5 then kid - 1 else kid) (endP v kid) []
  rw [zhA]
  rw [List.length_nil] at this
  omega
 ·exact Nat.zero_le _
def setR (v:List Nd) (s:List UInt8) (x:List Nd):List Nd × Int :=
 if (zaV v s).2=0 then (if zaI x=0 then (if (zaV v s).1=[] then (x,0) else zby (putV v x) v (zaV v s).1) else ([],zaI x)) else ([],(zaV v s).2)
def delR (v:List Nd) (s:List UInt8):List Nd × Int :=
 if (zaV v s).2=0 then (if (zaV v s).1=[] then ([],9) else zby (cutV v) v (zaV v s).1) else ([],(zaV v s).2)
theorem PSet_ok (v x:List Nd) (s:List UInt8) (hv:v.length≤1000000) (hx:x.length≤1000000) (hs:s.length≤9223372036854775807):ACalls Tryz.prog 18 [.sl (v.flatMap nC) v.length,str s,.sl (x.flatMap nC) x.length] [] (fun y _=>y=.ret (.tup [slN (setR v s x).1,i64 (setR v s x).2])):=by
 refine ACalls.body T_ok Tryz.func18 (by kernel_rfl) rfl Tryz.ntmps18 (congrArg Array.toList Tryz.results18) ?_
 try simp -implicitDefEqProofs only [LM4,eq_self,zaa,zab,Nat.zero_mul,lzS,zg4,zg5,zdd,TB,SB,Int.reduceToNat,Nat.reduceAdd,Nat.reduceEqDiff,Nat.reduceLT,Nat.reduceMod,Nat.reducePow,Nat.reduceSub,if_true,reduceIte]
 refine(zhy v s hv hs).pure (by simp [renL,AV.ren,zaJ,zap,zai]) ?_
 rintro _ σ rfl
 refine⟨by simp [AEnd.noid,AV.ren,renL,zb8,zag],?_⟩
 rw [ziy]
 have hl:=zfC v s
 have hr:setR v s x=if (zaV v s).2=0 then (if zaI x=0 then (if (zaV v s).1=[] then (x,0) else zby (putV v x) v (zaV v s).1) else ([],zaI x)) else ([],(zaV v s).2):=rfl
 have hok:=@zgC v s
 generalize zaV v s=X at hl hr hok ⊢
 obtain⟨l,e⟩:=X
 dsimp only at hl hr hok ⊢
 by_cases he:e=0
 ·have de:=decide_eq_true he
  have hv0:=(hok he).1
  have hn:=zdc hv0
  rw [if_pos he] at hr
  try simp -implicitDefEqProofs only [LM4,eq_self,zaa,zab,Nat.zero_mul,lzS,zg4,zg5,zdd,de,TB,SB,Int.reduceToNat,Nat.reduceAdd,Nat.reduceEqDiff,Nat.reduceLT,Nat.reduceMod,Nat.reducePow,Nat.reduceSub,if_true,reduceIte]
  refine(zeH x hx).pure (by simp [renL,AV.ren,zaJ,zap]) ?_
  rintro _ σ ⟨rfl,rfl⟩
  refine⟨zag _ _,?_⟩
  by_cases hex:zaI x=0
  ·have dx:=decide_eq_true hex
   have hxn:=zdc hex
   rw [if_pos hex] at hr
   by_cases h0:l=[]
   ·have d0:decide ((l.length:Int)=0)=true:=decide_eq_true (by rw [h0];rfl)
    rw [if_pos h0] at hr
    try simp -implicitDefEqProofs only [LM4,eq_self,zaa,zab,Nat.zero_mul,lzS,zg4,zg5,zdd,dx,d0,TB,SB,Int.reduceToNat,Nat.reduceAdd,Nat.reduceEqDiff,Nat.reduceLT,Nat.reduceMod,Nat.reducePow,Nat.reduceSub,if_true,reduceIte]
    refine(cloneN_ok x hx).pure (by simp [renL,AV.ren,zap]) ?_
    rintro _ σ ⟨rfl,rfl⟩
    refine⟨by simp [AEnd.noid,AV.ren,zap],?_⟩
    try simp -implicitDefEqProofs only [LM4,eq_self,zaa,zab,Nat.zero_mul,lzS,zg4,zg5,zdd,TB,SB,Int.reduceToNat,Nat.reduceAdd,Nat.reduceEqDiff,Nat.reduceLT,Nat.reduceMod,Nat.reducePow,Nat.reduceSub,if_true,reduceIte]
    exact zdR (l:=x) [] rfl (by rw [hr])
   ·have hlen:0 < l.length:=List.length_pos_iff.2 h0
    have d0:decide ((l.length:Int)=0)=false:=decide_eq_false (by omega)
    rw [if_neg h0] at hr
    try simp -implicitDefEqProofs only [LM4,eq_self,zaa,zab,Nat.zero_mul,lzS,zg4,zg5,zdd,dx,d0,TB,SB,Int.reduceToNat,Nat.reduceAdd,Nat.reduceEqDiff,Nat.reduceLT,Nat.reduceMod,Nat.reducePow,Nat.reduceSub,if_true,reduceIte]
    have hc:=zjt 85 (puA x) 170 (by kernel_rfl) (fun q=>by simp [puA,AV.ren,renL,zap]) (putV v x) v hv0 (fun p y hp=>⟨by have:=putV_len v x p y;omega,put_ok v x p y hv0 hp (by omega)⟩) l hlen (by omega)
    unfold puA at hc
    refine hc.pure (by simp [renL,AV.ren,zap,zbv]) ?_
    rintro _ σ rfl
    refine⟨by simp [AEnd.noid,AV.ren,renL,zcp,zag],?_⟩
    try simp -implicitDefEqProofs only [LM4,eq_self,zaa,zab,Nat.zero_mul,lzS,zg4,zg5,zdd,TB,SB,Int.reduceToNat,Nat.reduceAdd,Nat.reduceEqDiff,Nat.reduceLT,Nat.reduceMod,Nat.reducePow,Nat.reduceSub,if_true,reduceIte]
    exact zdR (l:=(zby (putV v x) v l).1) [] rfl (by rw [hr])
  ·have dx:=decide_eq_false hex
   rw [if_neg hex] at hr
   try simp -implicitDefEqProofs only [LM4,eq_self,zaa,zab,Nat.zero_mul,lzS,zg4,zg5,zdd,dx,TB,SB,Int.reduceToNat,Nat.reduceAdd,Nat.reduceEqDiff,Nat.reduceLT,Nat.reduceMod,Nat.reducePow,Nat.reduceSub,if_true,reduceIte]
   exact zdR [] zeq (by rw [hr])
 ·have de:=decide_eq_false he
  rw [if_neg he] at hr
  try simp -implicitDefEqProofs only [LM4,eq_self,zaa,zab,Nat.zero_mul,lzS,zg4,zg5,zdd,de,TB,SB,Int.reduceToNat,Nat.reduceAdd,Nat.reduceEqDiff,Nat.reduceLT,Nat.reduceMod,Nat.reducePow,Nat.reduceSub,if_true,reduceIte]
  exact zdR [] zeq (by rw [hr])
theorem PDel_ok (v:List Nd) (s:List UInt8) (hv:v.length≤1000000) (hs:s.length≤9223372036854775807):ACalls Tryz.prog 16 [.sl (v.flatMap nC) v.length,str s] [] (fun y _=>y=.ret (.tup [slN (delR v s).1,i64 (delR v s).2])):=by
 refine ACalls.body T_ok Tryz.func16 (by kernel_rfl) rfl Tryz.ntmps16 (congrArg Array.toList Tryz.results16) ?_
 try simp -implicitDefEqProofs only [LM4,eq_self,zaa,zab,Nat.zero_mul,lzS,zg4,zg5,zdd,TB,SB,Int.reduceToNat,Nat.reduceAdd,Nat.reduceEqDiff,Nat.reduceLT,Nat.reduceMod,Nat.reducePow,Nat.reduceSub,if_true,reduceIte]
 refine(zhy v s hv hs).pure (by simp [renL,AV.ren,zaJ,zap,zai]) ?_
 rintro _ σ rfl
 refine⟨by simp [AEnd.noid,AV.ren,renL,zb8,zag],?_⟩
 rw [ziy]
 have hl:=zfC v s
 have hr:delR v s=if (zaV v s).2=0 then (if (zaV v s).1=[] then ([],9) else zby (cutV v) v (zaV v s).1) else ([],(zaV v s).2):=rfl
 have hok:=@zgC v s
 generalize zaV v s=X at hl hr hok ⊢
 obtain⟨l,e⟩:=X
 dsimp only at hl hr hok ⊢
 by_cases he:e=0
 ·have de:=decide_eq_true he
  have hv0:=(hok he).1
  have hn:=zdc hv0
  rw [if_pos he] at hr
  by_cases h0:l=[]
  ·have d0:decide ((l.length:Int)=0)=true:=decide_eq_true (by rw [h0];rfl)
   rw [if_pos h0] at hr
   try simp -implicitDefEqProofs only [LM4,eq_self,zaa,zab,Nat.zero_mul,lzS,zg4,zg5,zdd,de,d0,TB,SB,Int.reduceToNat,Nat.reduceAdd,Nat.reduceEqDiff,Nat.reduceLT,Nat.reduceMod,Nat.reducePow,Nat.reduceSub,if_true,reduceIte]
   exact⟨fun _=>zdR [] zeq (by rw [hr]),fun h=>absurd h (by decide)⟩
  ·have hlen:0 < l.length:=List.length_pos_iff.2 h0
   have d0:decide ((l.length:Int)=0)=false:=decide_eq_false (by omega)
   rw [if_neg h0] at hr
   try simp -implicitDefEqProofs only [LM4,eq_self,zaa,zab,Nat.zero_mul,lzS,zg4,zg5,zdd,de,d0,TB,SB,Int.reduceToNat,Nat.reduceAdd,Nat.reduceEqDiff,Nat.reduceLT,Nat.reduceMod,Nat.reducePow,Nat.reduceSub,if_true,reduceIte]
   have hc:=zjt 79 (.agg []) 165 (by kernel_rfl) (fun q=>by simp [AV.ren,renL]) (cutV v) v hv0 (fun p y hp=>⟨by have:=cutV_len v p y;omega,cut_ok v p y hv0 hp⟩) l hlen (by omega)
   refine hc.pure (by simp [renL,AV.ren,zap,zbv]) ?_
   rintro _ σ rfl
   refine⟨by simp [AEnd.noid,AV.ren,renL,zcp,zag],?_⟩
   try simp -implicitDefEqProofs only [LM4,eq_self,zaa,zab,Nat.zero_mul,lzS,zg4,zg5,zdd,TB,SB,Int.reduceToNat,Nat.reduceAdd,Nat.reduceEqDiff,Nat.reduceLT,Nat.reduceMod,Nat.reducePow,Nat.reduceSub,if_true,reduceIte]
   exact zdR (l:=(zby (cutV v) v l).1) [] rfl (by rw [hr])
 ·have de:=decide_eq_false he
  rw [if_neg he] at hr
  try simp -implicitDefEqProofs only [LM4,eq_self,zaa,zab,Nat.zero_mul,lzS,zg4,zg5,zdd,de,TB,SB,Int.reduceToNat,Nat.reduceAdd,Nat.reduceEqDiff,Nat.reduceLT,Nat.reduceMod,Nat.reducePow,Nat.reduceSub,if_true,reduceIte]
  exact zdR [] zeq (by rw [hr])
end Go.Proofs.YtamcppdhkeiaiaaGreatDoor
end

section
namespace Go.Proofs.YtamcppdhkeiaiaaGreatDoor
open Go Go.Eng
def zhl (v:List Nd) (p:Nat) (x:Pt):List Int:=if kdOf v p=4∧x.pos < 0 then za1 v p else [(p:Int)]
def zbt (v:List Nd) (x:Pt) (l:List Int):List Int:=l.filterMap fun f=>zcB v f.toNat x
def zf7 (v:List Nd) (p:Nat) (x:Pt):List Int:=zbt v x (zhl v p x)
theorem optI_eq (o:Option Int):optI o=.tup [i64 (o.getD 0),bl o.isSome]:=by cases o <;> rfl
theorem from_mem {v:List Nd} {p:Nat} {x:Pt} {q:Int} (hp:p < v.length) (h:q∈zhl v p x):∃ n:Nat,q=n∧n < v.length:=by
 unfold zhl at h
 split at h
 ·exact zhx h
 ·rw [List.mem_singleton] at h
  exact⟨p,h,hp⟩
theorem spread_mem {v:List Nd} {x:Pt} {l:List Int} {q:Int} (h:q∈zbt v x l):∃ n:Nat,q=n∧n < v.length:=by
 unfold zbt at h
 rw [List.mem_filterMap] at h
 obtain⟨f,_,hf⟩:=h
 exact find_lt hf
theorem zf8 {v:List Nd} {x:Pt} {l:List Int} {k:Nat} (hk:k < l.length):zbt v x (l.take (k+1))=match zcB v (l.getD k 0).toNat x with | some q=>zbt v x (l.take k)++[q] | none=>zbt v x (l.take k):=by
 rw [zfl 0 hk]
 unfold zbt
 rw [List.filterMap_append]
 generalize l.getD k 0=a
 cases h:zcB v a.toNat x <;> simp [h]
theorem zg6 (v:List Nd) (x:Pt) (l:List Int) (k:Nat):(zbt v x (l.take k)).length≤k:=by
 unfold zbt
 exact Nat.le_trans (List.length_filterMap_le _ _) (by rw [List.length_take];omega)
theorem from_len (v:List Nd) (p:Nat) (x:Pt) (hv:v.length≤1000000):(zhl v p x).length≤1000000:=by
 unfold zhl
 split
 ·exact zhw v p hv
 ·simp
theorem spread_ok (v:List Nd) (p:Nat) (x:Pt) (hv:v.length≤1000000) (hp:p < v.length):ACalls Tryz.prog 39 [.sl (v.flatMap nC) v.length,i64 p,ptA x] [] (fun y _=>y=.ret (.sl ((zf7 v p x).map i64) (zf7 v p x).length)):=by
 have hfl:=from_len v p x hv
 have hfm:=fun q=>@from_mem v p x q hp
 have hkl:=zhw v p hv
 have hvs:zf7 v p x=zbt v x (zhl v p x):=rfl
 rw [zeV]
 refine ACalls.body T_ok Tryz.func39 (by kernel_rfl) rfl Tryz.ntmps39 (congrArg Array.toList Tryz.results39) ?_
 try simp -implicitDefEqProofs only [LM2,eq_self,zaa,zab,Nat.zero_mul,lzS,TB,SB,Int.reduceToNat,Nat.reduceAdd,Nat.reduceEqDiff,Nat.reduceLT,Nat.reduceMod,Nat.reducePow,Nat.reduceSub,if_true,reduceIte]
 refine⟨by omega,by omega,Nat.le_refl _,hp,?_⟩
 by_cases hc:(v.getD p n0d).kind=4∧x.pos < 0
 ·obtain⟨k4,x0⟩:=hc
  have hF:zhl v p x=za1 v p:=by rw [zhl,if_pos ⟨k4,x0⟩]
  have d4:=decide_eq_true k4
  rw [d4]
  try simp -implicitDefEqProofs only [LM2,eq_self,zaa,zab,Nat.zero_mul,lzS,decide_eq_true x0,TB,SB,Int.reduceToNat,Nat.reduceAdd,Nat.reduceEqDiff,Nat.reduceLT,Nat.reduceMod,Nat.reducePow,Nat.reduceSub,if_true,reduceIte]
  refine(Kids_ok v p hv).pure (by simp [renL,AV.ren,zaJ,zap,zag]) ?_
  rintro _ σ ⟨rfl,rfl⟩
  refine⟨by simp [AEnd.noid,AV.ren,zak i64 zag],?_⟩
  rw [← hF,hvs]
  clear hvs hF
  generalize zhl v p x=F at hfl hfm ⊢
  try simp -implicitDefEqProofs only [LM2,eq_self,zaa,zab,Nat.zero_mul,lzS,TB,SB,Int.reduceToNat,Nat.reduceAdd,Nat.reduceEqDiff,Nat.reduceLT,Nat.reduceMod,Nat.reducePow,Nat.reduceSub,if_true,reduceIte]
  rw [zbe]
  refine⟨Nat,fun k=>k≤F.length,fun k=>[.sl (v.flatMap nC) v.length,.bot,.bot,.bot,.bot,.ptr 0 0,.bot,.bot,.ref 1 0 (zbt v x (F.take k)).length 1,.bot,.bot,.bot,.bot,.bot,.bot,.bot,.bot,.bot,.bot,.bot,.bot,.bot,.bot,.bot,.bot,.bot,.bot,.bot,.bot,.sl (F.map i64) F.length,i64 F.length,i64 k,.bot,.bot,.bot,.bot,.bot,.bot,.bot,.bot,.bot,.bot,.bot,.bot,.bot,.bot,.bot,.bot,.bot],fun k=>[.rw [str x.key,i64 x.pos],.rw ((zbt v x (F.take k)).map i64)],fun k=>F.length - k,0,Nat.zero_le _,zfv 8 1 rfl (zaj (q:=[0,2]) rfl rfl (by decide) ?_ ?_),?_⟩
  ·try simp only [FB,AV.ren,Nat.reduceAdd,reduceCtorEq]
   exact⟨by rw [zap];rfl,by simp [zbt],.inr rfl⟩
  ·try simp only [FB,AV.ren,Nat.reduceAdd,reduceCtorEq]
   simp [zah,zaG,renL,zai,zag,zbt]
  intro k hk
  have hk:k≤F.length:=hk
  dsimp only
  by_cases hlt:k < F.length
  ·have dl:decide ((k:Int) < (F.length:Int))=true:=decide_eq_true (by omega)
   have hst:=zf8 (v:=v) (x:=x) hlt
   have hsl:=zg6 v x F k
   obtain⟨n,hn,hn2⟩:=hfm (F.getD k 0) (by rw [List.getD_eq_getElem?_getD,List.getElem?_eq_getElem hlt];exact List.getElem_mem hlt)
   have hfo:=zj8 v n x hv hn2
   rw [hn,Int.toNat_natCast] at hst
   rw [zeV,optI_eq] at hfo
   try simp -implicitDefEqProofs only [LM2,eq_self,zaa,zab,Nat.zero_mul,lzS,dl,TB,SB,Int.reduceToNat,Nat.reduceAdd,Nat.reduceEqDiff,Nat.reduceLT,Nat.reduceMod,Nat.reducePow,Nat.reduceSub,if_true,reduceIte]
   refine⟨by omega,by omega,hlt,?_⟩
   rw [hn]
   refine hfo.pure (by simp [renL,AV.ren,zaJ,zap,zag,zai]) ?_
   rintro _ σ rfl
   refine⟨by simp [AEnd.noid,AV.ren,renL,zag,zao],?_⟩
   cases ho:zcB v n x with
   | none =>
    rw [ho] at hst
    try simp -implicitDefEqProofs only [LM2,eq_self,zaa,zab,Nat.zero_mul,lzS,Option.isSome_none,TB,SB,Int.reduceToNat,Nat.reduceAdd,Nat.reduceEqDiff,Nat.reduceLT,Nat.reduceMod,Nat.reducePow,Nat.reduceSub,if_true,reduceIte]
    refine⟨by unfold inI;omega,?_⟩
    rw [zal]
    refine⟨k+1,by (show k+1≤F.length);omega,by (show F.length - (k+1) < F.length - k);omega,?_⟩
    rw [hst]
    refine zaj (q:=[0,1]) rfl rfl (by decide) ?_ ?_
    ·try simp only [FB,AV.ren,Nat.reduceAdd,reduceCtorEq]
     exact⟨by rw [zap];rfl,.inr (by omega)⟩
    ·try simp only [FB,AV.ren,Nat.reduceAdd,reduceCtorEq]
     simp [zah,zaG,renL,zai,zag,zak i64 zag]
   | some q =>
    rw [ho] at hst
    try simp -implicitDefEqProofs only [LM2,eq_self,zaa,zab,Nat.zero_mul,lzS,Option.isSome_some,Option.getD_some,TB,SB,Int.reduceToNat,Nat.reduceAdd,Nat.reduceEqDiff,Nat.reduceLT,Nat.reduceMod,Nat.reducePow,Nat.reduceSub,if_true,reduceIte]
    refine zc7 i64 zjI rfl rfl T80 T80 (zfX _) T3 zd4 (l:=zbt v x (F.take k)) (ys:=[q]) (m:=1) rfl rfl rfl (by omega) (by simp only [zaW];omega) ?_
    try simp -implicitDefEqProofs only [LM2,eq_self,zaa,zab,Nat.zero_mul,lzS,TB,SB,Int.reduceToNat,Nat.reduceAdd,Nat.reduceEqDiff,Nat.reduceLT,Nat.reduceMod,Nat.reducePow,Nat.reduceSub,if_true,reduceIte]
    refine⟨by unfold inI;omega,?_⟩
    rw [zal]
    refine⟨k+1,by (show k+1≤F.length);omega,by (show F.length - (k+1) < F.length - k);omega,?_⟩
    rw [hst]
    dsimp only
    rw [List.length_append]
    refine zaj (q:=[0,3]) rfl rfl (by decide) ?_ ?_
    ·try simp only [FB,AV.ren,Nat.reduceAdd,reduceCtorEq]
     exact⟨by rw [zap];rfl,.inr (by omega)⟩
    ·try simp only [FB,AV.ren,Nat.reduceAdd,reduceCtorEq]
     simp [-List.map_append,zah,zaG,renL,zai,zag,zak i64 zag]
  ·obtain rfl:k=F.length:=by omega
   have dl:decide ((F.length:Int) < (F.length:Int))=false:=decide_eq_false (by omega)
   rw [List.take_length]
   try simp -implicitDefEqProofs only [LM2,eq_self,zaa,zab,Nat.zero_mul,lzS,dl,TB,SB,Int.reduceToNat,Nat.reduceAdd,Nat.reduceEqDiff,Nat.reduceLT,Nat.reduceMod,Nat.reducePow,Nat.reduceSub,if_true,reduceIte]
   refine zfV rfl (by rw [List.length_map];omega) (zak i64 zag _ _) ?_
   rw [List.drop_zero,List.take_of_length_le (by rw [List.length_map];omega)]
 ·have hF:zhl v p x=[(p:Int)]:=by rw [zhl,if_neg (show ¬ (kdOf v p=4∧x.pos < 0) from hc)]
  rw [hvs]
  clear hvs
  generalize zhl v p x=F at hfl hfm hF ⊢
  by_cases k4:(v.getD p n0d).kind=4
  ·have x0:¬ x.pos < 0:=fun h=>hc ⟨k4,h⟩
   rw [decide_eq_true k4]
   try simp -implicitDefEqProofs only [LM2,eq_self,zaa,zab,Nat.zero_mul,lzS,decide_eq_false x0,TB,SB,Int.reduceToNat,Nat.reduceAdd,Nat.reduceEqDiff,Nat.reduceLT,Nat.reduceMod,Nat.reducePow,Nat.reduceSub,if_true,reduceIte]
   rw [zbe]
   refine⟨Nat,fun k=>k≤F.length,fun k=>[.sl (v.flatMap nC) v.length,.bot,.bot,.bot,.bot,.ptr 0 0,.bot,.bot,.ref 1 0 (zbt v x (F.take k)).length 1,.bot,.bot,.bot,.bot,.bot,.bot,.bot,.bot,.bot,.bot,.bot,.bot,.bot,.bot,.bot,.bot,.bot,.bot,.bot,.bot,.sl (F.map i64) F.length,i64 F.length,i64 k,.bot,.bot,.bot,.bot,.bot,.bot,.bot,.bot,.bot,.bot,.bot,.bot,.bot,.bot,.bot,.bot,.bot],fun k=>[.rw [str x.key,i64 x.pos],.rw ((zbt v x (F.take k)).map i64)],fun k=>F.length - k,0,Nat.zero_le _,fits_frz 29 rfl rfl (by simp) (zfv 8 1 rfl (zaj (q:=[0,2]) rfl rfl (by decide) ?_ ?_)),?_⟩
   ·try simp only [FB,AV.ren,Nat.reduceAdd,reduceCtorEq]
    exact⟨by rw [zap];rfl,by simp [zbt],⟨by rw [hF];rfl,by rw [hF];rfl⟩,.inr (by rw [hF];rfl),.inr rfl⟩
   ·try simp only [FB,AV.ren,Nat.reduceAdd,reduceCtorEq]
    simp [zah,zaG,renL,zai,zag,zbt]
   intro k hk
   have hk:k≤F.length:=hk
   dsimp only
   by_cases hlt:k < F.length
   ·have dl:decide ((k:Int) < (F.length:Int))=true:=decide_eq_true (by omega)
    have hst:=zf8 (v:=v) (x:=x) hlt
    have hsl:=zg6 v x F k
    obtain⟨n,hn,hn2⟩:=hfm (F.getD k 0) (by rw [List.getD_eq_getElem?_getD,List.getElem?_eq_getElem hlt];exact List.getElem_mem hlt)
    have hfo:=zj8 v n x hv hn2
    rw [hn,Int.toNat_natCast] at hst
    rw [zeV,optI_eq] at hfo
    try simp -implicitDefEqProofs only [LM2,eq_self,zaa,zab,Nat.zero_mul,lzS,dl,TB,SB,Int.reduceToNat,Nat.reduceAdd,Nat.reduceEqDiff,Nat.reduceLT,Nat.reduceMod,Nat.reducePow,Nat.reduceSub,if_true,reduceIte]
    refine⟨by omega,by omega,hlt,?_⟩
    rw [hn]
    refine hfo.pure (by simp [renL,AV.ren,zaJ,zap,zag,zai]) ?_
    rintro _ σ rfl
    refine⟨by simp [AEnd.noid,AV.ren,renL,zag,zao],?_⟩
    cases ho:zcB v n x with
    | none =>
     rw [ho] at hst
     try simp -implicitDefEqProofs only [LM2,eq_self,zaa,zab,Nat.zero_mul,lzS,Option.isSome_none,TB,SB,Int.reduceToNat,Nat.reduceAdd,Nat.reduceEqDiff,Nat.reduceLT,Nat.reduceMod,Nat.reducePow,Nat.reduceSub,if_true,reduceIte]
     refine⟨by unfold inI;omega,?_⟩
     rw [zal]
     refine⟨k+1,by (show k+1≤F.length);omega,by (show F.length - (k+1) < F.length - k);omega,?_⟩
     rw [hst]
     refine zaj (q:=[0,1]) rfl rfl (by decide) ?_ ?_
     ·try simp only [FB,AV.ren,Nat.reduceAdd,reduceCtorEq]
      exact⟨by rw [zap];rfl,.inr (by omega)⟩
     ·try simp only [FB,AV.ren,Nat.reduceAdd,reduceCtorEq]
      simp [zah,zaG,renL,zai,zag,zak i64 zag]
    | some q =>
     rw [ho] at hst
     try simp -implicitDefEqProofs only [LM2,eq_self,zaa,zab,Nat.zero_mul,lzS,Option.isSome_some,Option.getD_some,TB,SB,Int.reduceToNat,Nat.reduceAdd,Nat.reduceEqDiff,Nat.reduceLT,Nat.reduceMod,Nat.reducePow,Nat.reduceSub,if_true,reduceIte]
     refine zc7 i64 zjI rfl rfl T80 T80 (zfX _) T3 zd4 (l:=zbt v x (F.take k)) (ys:=[q]) (m:=1) rfl rfl rfl (by omega) (by simp only [zaW];omega) ?_
     try simp -implicitDefEqProofs only [LM2,eq_self,zaa,zab,Nat.zero_mul,lzS,TB,SB,Int.reduceToNat,Nat.reduceAdd,Nat.reduceEqDiff,Nat.reduceLT,Nat.reduceMod,Nat.reducePow,Nat.reduceSub,if_true,reduceIte]
     refine⟨by unfold inI;omega,?_⟩
     rw [zal]
     refine⟨k+1,by (show k+1≤F.length);omega,by (show F.length - (k+1) < F.length - k);omega,?_⟩
     rw [hst]
     dsimp only
     rw [List.length_append]
     refine zaj (q:=[0,3]) rfl rfl (by decide) ?_ ?_
     ·try simp only [FB,AV.ren,Nat.reduceAdd,reduceCtorEq]
      exact⟨by rw [zap];rfl,.inr (by omega)⟩
     ·try simp only [FB,AV.ren,Nat.reduceAdd,reduceCtorEq]
      simp [-List.map_append,zah,zaG,renL,zai,zag,zak i64 zag]
   ·obtain rfl:k=F.length:=by omega
    have dl:decide ((F.length:Int) < (F.length:Int))=false:=decide_eq_false (by omega)
    rw [List.take_length]
    try simp -implicitDefEqProofs only [LM2,eq_self,zaa,zab,Nat.zero_mul,lzS,dl,TB,SB,Int.reduceToNat,Nat.reduceAdd,Nat.reduceEqDiff,Nat.reduceLT,Nat.reduceMod,Nat.reducePow,Nat.reduceSub,if_true,reduceIte]
    refine zfV rfl (by rw [List.length_map];omega) (zak i64 zag _ _) ?_
    rw [List.drop_zero,List.take_of_length_le (by rw [List.length_map];omega)]
  ·rw [decide_eq_false k4]
   try simp -implicitDefEqProofs only [LM2,eq_self,zaa,zab,Nat.zero_mul,lzS,TB,SB,Int.reduceToNat,Nat.reduceAdd,Nat.reduceEqDiff,Nat.reduceLT,Nat.reduceMod,Nat.reducePow,Nat.reduceSub,if_true,reduceIte]
   rw [zbe]
   refine⟨Nat,fun k=>k≤F.length,fun k=>[.sl (v.flatMap nC) v.length,.bot,.bot,.bot,.bot,.ptr 0 0,.bot,.bot,.ref 1 0 (zbt v x (F.take k)).length 1,.bot,.bot,.bot,.bot,.bot,.bot,.bot,.bot,.bot,.bot,.bot,.bot,.bot,.bot,.bot,.bot,.bot,.bot,.bot,.bot,.sl (F.map i64) F.length,i64 F.length,i64 k,.bot,.bot,.bot,.bot,.bot,.bot,.bot,.bot,.bot,.bot,.bot,.bot,.bot,.bot,.bot,.bot,.bot],fun k=>[.rw [str x.key,i64 x.pos],.rw ((zbt v x (F.take k)).map i64)],fun k=>F.length - k,0,Nat.zero_le _,fits_frz 29 rfl rfl (by simp) (zfv 8 1 rfl (zaj (q:=[0,2]) rfl rfl (by decide) ?_ ?_)),?_⟩
   ·try simp only [FB,AV.ren,Nat.reduceAdd,reduceCtorEq]
    exact⟨by rw [zap];rfl,by simp [zbt],⟨by rw [hF];rfl,by rw [hF];rfl⟩,.inr (by rw [hF];rfl),.inr rfl⟩
   ·try simp only [FB,AV.ren,Nat.reduceAdd,reduceCtorEq]
    simp [zah,zaG,renL,zai,zag,zbt]
   intro k hk
   have hk:k≤F.length:=hk
   dsimp only
   by_cases hlt:k < F.length
   ·have dl:decide ((k:Int) < (F.length:Int))=true:=decide_eq_true (by omega)
    have hst:=zf8 (v:=v) (x:=x) hlt
    have hsl:=zg6 v x F k
    obtain⟨n,hn,hn2⟩:=hfm (F.getD k 0) (by rw [List.getD_eq_getElem?_getD,List.getElem?_eq_getElem hlt];exact List.getElem_mem hlt)
    have hfo:=zj8 v n x hv hn2
    rw [hn,Int.toNat_natCast] at hst
    rw [zeV,optI_eq] at hfo
    try simp -implicitDefEqProofs only [LM2,eq_self,zaa,zab,Nat.zero_mul,lzS,dl,TB,SB,Int.reduceToNat,Nat.reduceAdd,Nat.reduceEqDiff,Nat.reduceLT,Nat.reduceMod,Nat.reducePow,Nat.reduceSub,if_true,reduceIte]
    refine⟨by omega,by omega,hlt,?_⟩
    rw [hn]
    refine hfo.pure (by simp [renL,AV.ren,zaJ,zap,zag,zai]) ?_
    rintro _ σ rfl
    refine⟨by simp [AEnd.noid,AV.ren,renL,zag,zao],?_⟩
    cases ho:zcB v n x with
    | none =>
     rw [ho] at hst
     try simp -implicitDefEqProofs only [LM2,eq_self,zaa,zab,Nat.zero_mul,lzS,Option.isSome_none,TB,SB,Int.reduceToNat,Nat.reduceAdd,Nat.reduceEqDiff,Nat.reduceLT,Nat.reduceMod,Nat.reducePow,Nat.reduceSub,if_true,reduceIte]
     refine⟨by unfold inI;omega,?_⟩
     rw [zal]
     refine⟨k+1,by (show k+1≤F.length);omega,by (show F.length - (k+1) < F.length - k);omega,?_⟩
     rw [hst]
     refine zaj (q:=[0,1]) rfl rfl (by decide) ?_ ?_
     ·try simp only [FB,AV.ren,Nat.reduceAdd,reduceCtorEq]
      exact⟨by rw [zap];rfl,.inr (by omega)⟩
     ·try simp only [FB,AV.ren,Nat.reduceAdd,reduceCtorEq]
      simp [zah,zaG,renL,zai,zag,zak i64 zag]
    | some q =>
     rw [ho] at hst
     try simp -implicitDefEqProofs only [LM2,eq_self,zaa,zab,Nat.zero_mul,lzS,Option.isSome_some,Option.getD_some,TB,SB,Int.reduceToNat,Nat.reduceAdd,Nat.reduceEqDiff,Nat.reduceLT,Nat.reduceMod,Nat.reducePow,Nat.reduceSub,if_true,reduceIte]
     refine zc7 i64 zjI rfl rfl T80 T80 (zfX _) T3 zd4 (l:=zbt v x (F.take k)) (ys:=[q]) (m:=1) rfl rfl rfl (by omega) (by simp only [zaW];omega) ?_
     try simp -implicitDefEqProofs only [LM2,eq_self,zaa,zab,Nat.zero_mul,lzS,TB,SB,Int.reduceToNat,Nat.reduceAdd,Nat.reduceEqDiff,Nat.reduceLT,Nat.reduceMod,Nat.reducePow,Nat.reduceSub,if_true,reduceIte]
     refine⟨by unfold inI;omega,?_⟩
     rw [zal]
     refine⟨k+1,by (show k+1≤F.length);omega,by (show F.length - (k+1) < F.length - k);omega,?_⟩
     rw [hst]
     dsimp only
     rw [List.length_append]
     refine zaj (q:=[0,3]) rfl rfl (by decide) ?_ ?_
     ·try simp only [FB,AV.ren,Nat.reduceAdd,reduceCtorEq]
      exact⟨by rw [zap];rfl,.inr (by omega)⟩
     ·try simp only [FB,AV.ren,Nat.reduceAdd,reduceCtorEq]
      simp [-List.map_append,zah,zaG,renL,zai,zag,zak i64 zag]
   ·obtain rfl:k=F.length:=by omega
    have dl:decide ((F.length:Int) < (F.length:Int))=false:=decide_eq_false (by omega)
    rw [List.take_length]
    try simp -implicitDefEqProofs only [LM2,eq_self,zaa,zab,Nat.zero_mul,lzS,dl,TB,SB,Int.reduceToNat,Nat.reduceAdd,Nat.reduceEqDiff,Nat.reduceLT,Nat.reduceMod,Nat.reducePow,Nat.reduceSub,if_true,reduceIte]
    refine zfV rfl (by rw [List.length_map];omega) (zak i64 zag _ _) ?_
    rw [List.drop_zero,List.take_of_length_le (by rw [List.length_map];omega)]
end Go.Proofs.YtamcppdhkeiaiaaGreatDoor
end

section
namespace Go.Proofs.YtamcppdhkeiaiaaGreatDoor
open Go Go.Eng
theorem zde (e:TypeId) (cs:List AV) (m:Nat) (σ:zad) (KS:AV→zad→Prop):bs2 (some (tySl e)) 1 [(0,.sl cs m)] σ KS=KS (.ref σ.length 0 1 1) (σ++[.rw [.sl cs m]]):=by
 simp [bs2,tySl,zb9,zcq,zbf,List.range_succ,one_sl,zf6]
def ziL (v:List Nd) (ps:List Int) (j:Nat):List (List Nd):=(ps.take j).map fun q=>zcO v q
def zdS (v:List Nd) (x:Pt) (ps:List Int):List Int:=ps.flatMap fun q=>zf7 v q.toNat x
def zdf (v:List Nd) (l:List Pt):List Int:=l.foldl (fun ps x=>zdS v x ps) [0]
def eachR (v:List Nd) (s:List UInt8):List (List Nd) × Int:=if (zaV v s).2=0 then ((zdf v (zaV v s).1).map fun q=>zcO v q,0) else ([],(zaV v s).2)
theorem ziM {v:List Nd} {l:List Pt} {k:Nat} (hk:k < l.length):zdf v (l.take (k+1))=zdS v (l.getD k pt0) (zdf v (l.take k)):=by
 rw [zfl pt0 hk]
 unfold zdf
 rw [List.foldl_append]
 rfl
theorem stepPs_take {v:List Nd} {x:Pt} {ps:List Int} {j:Nat} (hj:j < ps.length):zdS v x (ps.take (j+1))=zdS v x (ps.take j)++zf7 v (ps.getD j 0).toNat x:=by
 rw [zfl 0 hj]
 unfold zdS
 rw [List.flatMap_append]
 simp
theorem stepPs_le (v:List Nd) (x:Pt) (ps:List Int) (j:Nat):(zdS v x (ps.take j)).length≤(zdS v x ps).length:=by
 conv=>rhs;rw [← List.take_append_drop j ps]
 unfold zdS
 rw [List.flatMap_append,List.length_append]
 omega
theorem stepPs_mem {v:List Nd} {x:Pt} {ps:List Int} {q:Int} (h:q∈zdS v x ps):∃ n:Nat,q=n∧n < v.length:=by
 unfold zdS at h
 rw [List.mem_flatMap] at h
 obtain⟨a,_,h⟩:=h
 exact spread_mem h
theorem zju {v:List Nd} (h0:0 < v.length) {l:List Pt} {k:Nat} (hk:k≤l.length) {q:Int} (h:q∈zdf v (l.take k)):∃ n:Nat,q=n∧n < v.length:=by
 cases k with
 | zero =>
  simp only [List.take_zero,zdf,List.foldl_nil,List.mem_singleton] at h
  exact⟨0,h,h0⟩
 | succ k =>
  rw [ziM (by omega)] at h
  exact stepPs_mem h
theorem asrcI {σ:zad} (l:List Int):asrc σ 1 (.sl (l.map i64) l.length)=some (l.map i64,l.length):=by
 simp [asrc,asl,List.take_of_length_le]
theorem PEach_ok (v:List Nd) (s:List UInt8) (hv:v.length≤1000000) (hs:s.length≤9223372036854775807) (hB:∀ k,k≤(zaV v s).1.length→(zdf v ((zaV v s).1.take k)).length≤1000):ACalls Tryz.prog 21 [.sl (v.flatMap nC) v.length,str s] [] (fun y _=>y=.ret (.tup [.sl ((eachR v s).1.map slNs) (eachR v s).1.length,i64 (eachR v s).2])):=by
 refine ACalls.body T_ok Tryz.func21 (by kernel_rfl) rfl Tryz.ntmps21 (congrArg Array.toList Tryz.results21) ?_
 try simp -implicitDefEqProofs only [LM2,eq_self,zaa,zab,Nat.zero_mul,lzS,zde,TB,SB,Int.reduceToNat,Nat.reduceAdd,Nat.reduceEqDiff,Nat.reduceLT,Nat.reduceMod,Nat.reducePow,Nat.reduceSub,if_true,reduceIte]
 refine(zhy v s hv hs).pure (by simp [renL,AV.ren,zaJ,zap,zai]) ?_
 rintro _ σ rfl
 refine⟨by simp [AEnd.noid,AV.ren,renL,zb8,zag],?_⟩
 rw [ziy]
 have hl:=zfC v s
 have hr:eachR v s=if (zaV v s).2=0 then ((zdf v (zaV v s).1).map fun q=>zcO v q,0) else ([],(zaV v s).2):=rfl
 have hok:=@zgC v s
 generalize zaV v s=X at hl hr hok hB ⊢
 obtain⟨l,e⟩:=X
 dsimp only at hl hr hok hB ⊢
 by_cases he:e=0
 ·have de:=decide_eq_true he
  have hn:=zdc (hok he).1
  rw [if_pos he] at hr
  try simp -implicitDefEqProofs only [LM2,eq_self,zaa,zab,Nat.zero_mul,lzS,zde,de,TB,SB,Int.reduceToNat,Nat.reduceAdd,Nat.reduceEqDiff,Nat.reduceLT,Nat.reduceMod,Nat.reducePow,Nat.reduceSub,if_true,reduceIte]
  rw [zbe]
  refine⟨Nat,fun k=>k≤l.length,fun k=>[.sl (v.flatMap nC) v.length,.bot,.bot,.bot,.bot,.bot,.sl (l.flatMap ptC) l.length,.bot,.ref 0 0 (zdf v (l.take k)).length 1,.bot,.bot,.bot,.bot,.bot,.bot,.bot,.bot,.bot,.bot,.bot,.bot,.bot,.bot,.bot,.bot,.bot,.bot,.sl (l.flatMap ptC) l.length,i64 l.length,i64 k,.bot,.bot,.bot,.bot,.bot,.bot,.bot,.bot,.bot,.bot,.bot,.bot,.bot,.bot,.bot,.bot,.bot,.bot,.bot,.bot,.bot,.bot,.bot,.bot,.bot,.bot,.bot,.bot,.bot,.bot,.bot,.bot],fun k=>[.rw ((zdf v (l.take k)).map i64)],fun k=>l.length - k,0,Nat.zero_le _,zaj (q:=[0]) rfl rfl (by decide) ?_ ?_,?_⟩
  ·try simp only [FB,AV.ren,Nat.reduceAdd,reduceCtorEq]
   exact⟨by rw [zap];rfl,by rw [zbv];rfl,rfl,by rw [zbv];rfl,.inr rfl⟩
  ·try simp only [FB,AV.ren,Nat.reduceAdd,reduceCtorEq]
   rfl
  intro k hk
  have hk:k≤l.length:=hk
  dsimp only
  by_cases hlt:k < l.length
  ·have dl:decide ((k:Int) < (l.length:Int))=true:=decide_eq_true (by omega)
   have hpt:=ziM (v:=v) hlt
   have hb1:=hB (k+1) hlt
   rw [hpt] at hb1
   have hm:=fun q=>@zju v hn.1 l k hk q
   have hbk:=hB k hk
   generalize zdf v (l.take k)=ps at hpt hb1 hm hbk ⊢
   try simp -implicitDefEqProofs only [LM2,eq_self,zaa,zab,Nat.zero_mul,lzS,zde,dl,TB,SB,Int.reduceToNat,Nat.reduceAdd,Nat.reduceEqDiff,Nat.reduceLT,Nat.reduceMod,Nat.reducePow,Nat.reduceSub,if_true,reduceIte]
   refine⟨by omega,by omega,Nat.le_refl _,hlt,?_⟩
   generalize l.getD k pt0=x at hb1 hpt ⊢
   rw [zbe]
   refine⟨Nat,fun j=>j≤ps.length,fun j=>[.sl (v.flatMap nC) v.length,.bot,.bot,.bot,.bot,.bot,.sl (l.flatMap ptC) l.length,.bot,.bot,.bot,.ptr 1 0,.ref 2 0 (zdS v x (ps.take j)).length 1,.bot,.bot,.bot,.bot,.bot,.bot,.bot,.bot,.bot,.bot,.bot,.bot,.bot,.bot,.bot,.sl (l.flatMap ptC) l.length,i64 l.length,i64 k,.bot,.bot,.bot,.ref 0 0 ps.length 1,i64 ps.length,i64 j,.bot,.bot,.bot,.bot,.bot,.bot,.bot,.bot,.bot,.bot,.bot,.bot,.bot,.bot,.bot,.bot,.bot,.bot,.bot,.bot,.bot,.bot,.bot,.bot,.bot,.bot],fun j=>[.rw (ps.map i64),.rw [str x.key,i64 x.pos],.rw ((zdS v x (ps.take j)).map i64)],fun j=>ps.length - j,0,Nat.zero_le _,zfv 11 1 rfl (zaj (q:=[0,1,2]) rfl rfl (by decide) ?_ ?_),?_⟩
   ·try simp only [FB,AV.ren,Nat.reduceAdd,reduceCtorEq]
    exact⟨by rw [zap];rfl,by rw [zbv];rfl,by simp [zdS],by rw [zbv];rfl,.inr rfl⟩
   ·try simp only [FB,AV.ren,Nat.reduceAdd,reduceCtorEq]
    simp [zah,zaG,renL,zai,zag,zak i64 zag,zdS]
   intro j hj
   have hj:j≤ps.length:=hj
   dsimp only
   by_cases jlt:j < ps.length
   ·have dj:decide ((j:Int) < (ps.length:Int))=true:=decide_eq_true (by omega)
    have hst:=stepPs_take (v:=v) (x:=x) jlt
    have hle:=stepPs_le v x ps (j+1)
    obtain⟨n,hn1,hn2⟩:=hm (ps.getD j 0) (by rw [List.getD_eq_getElem?_getD,List.getElem?_eq_getElem jlt];exact List.getElem_mem jlt)
    have hso:=spread_ok v n x hv hn2
    rw [hn1,Int.toNat_natCast] at hst
    rw [hst,List.length_append] at hle
    rw [zeV] at hso
    try simp -implicitDefEqProofs only [LM2,eq_self,zaa,zab,Nat.zero_mul,lzS,zde,dj,TB,SB,Int.reduceToNat,Nat.reduceAdd,Nat.reduceEqDiff,Nat.reduceLT,Nat.reduceMod,Nat.reducePow,Nat.reduceSub,if_true,reduceIte]
    refine⟨by omega,by omega,jlt,?_⟩
    rw [hn1]
    refine hso.pure (by simp [renL,AV.ren,zaJ,zap,zag,zai]) ?_
    rintro _ σ rfl
    refine⟨by simp [AEnd.noid,AV.ren,zak i64 zag],?_⟩
    try simp -implicitDefEqProofs only [LM2,eq_self,zaa,zab,Nat.zero_mul,lzS,zde,TB,SB,Int.reduceToNat,Nat.reduceAdd,Nat.reduceEqDiff,Nat.reduceLT,Nat.reduceMod,Nat.reducePow,Nat.reduceSub,if_true,reduceIte]
    refine zc7 i64 zjI rfl rfl T80 T80 (zfX _) T3 zd4 (l:=zdS v x (ps.take j)) (ys:=zf7 v n x) (m:=(zf7 v n x).length) rfl rfl (asrcI _) (by omega) (by simp only [zaW];omega) ?_
    try simp -implicitDefEqProofs only [LM2,eq_self,zaa,zab,Nat.zero_mul,lzS,zde,TB,SB,Int.reduceToNat,Nat.reduceAdd,Nat.reduceEqDiff,Nat.reduceLT,Nat.reduceMod,Nat.reducePow,Nat.reduceSub,if_true,reduceIte]
    refine⟨by unfold inI;omega,?_⟩
    rw [zal]
    refine⟨j+1,by (show j+1≤ps.length);omega,by (show ps.length - (j+1) < ps.length - j);omega,?_⟩
    rw [hst,List.length_append]
    refine zaj (q:=[0,1,3]) rfl rfl (by decide) ?_ ?_
    ·try simp only [FB,AV.ren,Nat.reduceAdd,reduceCtorEq]
     exact⟨by rw [zap];rfl,by rw [zbv];rfl,by rw [zbv];rfl,.inr (by omega)⟩
    ·try simp only [FB,AV.ren,Nat.reduceAdd,reduceCtorEq]
     simp [-List.map_append,zah,zaG,renL,zai,zag,zak i64 zag]
   ·obtain rfl:j=ps.length:=by omega
    have dj:decide ((ps.length:Int) < (ps.length:Int))=false:=decide_eq_false (by omega)
    rw [List.take_length]
    try simp -implicitDefEqProofs only [LM2,eq_self,zaa,zab,Nat.zero_mul,lzS,zde,dj,TB,SB,Int.reduceToNat,Nat.reduceAdd,Nat.reduceEqDiff,Nat.reduceLT,Nat.reduceMod,Nat.reducePow,Nat.reduceSub,if_true,reduceIte]
    refine⟨by unfold inI;omega,?_⟩
    rw [zal]
    refine⟨k+1,by (show k+1≤l.length);omega,by (show l.length - (k+1) < l.length - k);omega,?_⟩
    rw [hpt]
    refine zaj (q:=[2]) rfl rfl (by decide) ?_ ?_
    ·try simp only [FB,AV.ren,Nat.reduceAdd,reduceCtorEq]
     exact⟨by rw [zap];rfl,by rw [zbv];rfl,by rw [zbv];rfl,.inr (by omega)⟩
    ·try simp only [FB,AV.ren,Nat.reduceAdd,reduceCtorEq]
  ·obtain rfl:k=l.length:=by omega
   have dl:decide ((l.length:Int) < (l.length:Int))=false:=decide_eq_false (by omega)
   have hm:=fun q=>@zju v hn.1 l l.length (Nat.le_refl _) q
   have hbk:=hB l.length (Nat.le_refl _)
   rw [List.take_length] at hm hbk ⊢
   generalize zdf v l=ps at hr hm hbk ⊢
   try simp -implicitDefEqProofs only [LM2,eq_self,zaa,zab,Nat.zero_mul,lzS,zde,dl,TB,SB,Int.reduceToNat,Nat.reduceAdd,Nat.reduceEqDiff,Nat.reduceLT,Nat.reduceMod,Nat.reducePow,Nat.reduceSub,if_true,reduceIte]
   rw [zbe]
   refine⟨Nat,fun j=>j≤ps.length,fun j=>[.sl (v.flatMap nC) v.length,.bot,.bot,.bot,.bot,.bot,.bot,.bot,.bot,.bot,.bot,.bot,.bot,.bot,.ref 1 0 (ziL v ps j).length 1,.bot,.bot,.bot,.bot,.bot,.bot,.bot,.bot,.bot,.bot,.bot,.bot,.bot,.bot,.bot,.bot,.bot,.bot,.bot,.bot,.bot,.bot,.bot,.bot,.bot,.bot,.bot,.bot,.bot,.bot,.bot,.bot,.bot,.ref 0 0 ps.length 1,i64 ps.length,i64 j,.bot,.bot,.bot,.bot,.bot,.bot,.bot,.bot,.bot,.bot,.bot],fun j=>[.rw (ps.map i64),.rw ((ziL v ps j).map slNs)],fun j=>ps.length - j,0,Nat.zero_le _,zfv 14 1 rfl (zaj (q:=[0,1]) rfl rfl (by decide) ?_ ?_),?_⟩
   ·try simp only [FB,AV.ren,Nat.reduceAdd,reduceCtorEq]
    exact⟨by rw [zap];rfl,rfl,.inr rfl⟩
   ·try simp only [FB,AV.ren,Nat.reduceAdd,reduceCtorEq]
    simp [zah,zaG,renL,zak i64 zag,ziL]
   intro j hj
   have hj:j≤ps.length:=hj
   dsimp only
   by_cases jlt:j < ps.length
   ·have dj:decide ((j:Int) < (ps.length:Int))=true:=decide_eq_true (by omega)
    obtain⟨n,hn1,hn2⟩:=hm (ps.getD j 0) (by rw [List.getD_eq_getElem?_getD,List.getElem?_eq_getElem jlt];exact List.getElem_mem jlt)
    have hst:ziL v ps (j+1)=ziL v ps j++[zcO v n]:=by unfold ziL;rw [zfl 0 jlt,List.map_append,hn1];rfl
    have hln:(ziL v ps j).length=j:=by unfold ziL;rw [List.length_map,List.length_take];omega
    try simp -implicitDefEqProofs only [LM2,eq_self,zaa,zab,Nat.zero_mul,lzS,zde,dj,TB,SB,Int.reduceToNat,Nat.reduceAdd,Nat.reduceEqDiff,Nat.reduceLT,Nat.reduceMod,Nat.reducePow,Nat.reduceSub,if_true,reduceIte]
    refine⟨by omega,by omega,jlt,?_⟩
    rw [hn1]
    refine(Sub_ok v n hv).pure (by simp [renL,AV.ren,zaJ,zap,zag]) ?_
    rintro _ σ ⟨rfl,rfl⟩
    refine⟨by simp [AEnd.noid,AV.ren,zap],?_⟩
    try simp -implicitDefEqProofs only [LM2,eq_self,zaa,zab,Nat.zero_mul,lzS,zde,TB,SB,Int.reduceToNat,Nat.reduceAdd,Nat.reduceEqDiff,Nat.reduceLT,Nat.reduceMod,Nat.reducePow,Nat.reduceSub,if_true,reduceIte]
    refine zc7 slNs one_slNs rfl rfl T49 T49 (zfX _) T37 (Go.Eng.one_sl _) (l:=ziL v ps j) (ys:=[zcO v n]) (m:=1) rfl rfl rfl (by omega) (by simp only [tySl];omega) ?_
    try simp -implicitDefEqProofs only [LM2,eq_self,zaa,zab,Nat.zero_mul,lzS,zde,TB,SB,Int.reduceToNat,Nat.reduceAdd,Nat.reduceEqDiff,Nat.reduceLT,Nat.reduceMod,Nat.reducePow,Nat.reduceSub,if_true,reduceIte]
    refine⟨by unfold inI;omega,?_⟩
    rw [zal]
    refine⟨j+1,by (show j+1≤ps.length);omega,by (show ps.length - (j+1) < ps.length - j);omega,?_⟩
    rw [hst,List.length_append]
    refine zaj (q:=[0,3]) rfl rfl (by decide) ?_ ?_
    ·try simp only [FB,AV.ren,Nat.reduceAdd,reduceCtorEq]
     exact⟨by rw [zap];rfl,.inr (by omega)⟩
    ·try simp only [FB,AV.ren,Nat.reduceAdd,reduceCtorEq]
     simp [-List.map_append,zah,zaG,zcu]
   ·obtain rfl:j=ps.length:=by omega
    have dj:decide ((ps.length:Int) < (ps.length:Int))=false:=decide_eq_false (by omega)
    have hsv:ziL v ps ps.length=ps.map fun q=>zcO v q:=by rw [ziL,List.take_length]
    try simp -implicitDefEqProofs only [LM2,eq_self,zaa,zab,Nat.zero_mul,lzS,zde,dj,TB,SB,Int.reduceToNat,Nat.reduceAdd,Nat.reduceEqDiff,Nat.reduceLT,Nat.reduceMod,Nat.reducePow,Nat.reduceSub,if_true,reduceIte]
    rw [hsv]
    generalize ps.map (fun q=>zcO v q)=L at hr ⊢
    rw [hr]
    exact zgl [1] (.tup [.sl (L.map slNs) L.length,i64 0]) ⟨_,rfl,_,_,rfl,frz_NsR rfl,_,_,rfl,.inl rfl,rfl⟩ ⟨[],_,[],rfl,rfl,by decide,by simp [AV.ren,renL,zcu,zag],trivial,rfl⟩
 ·have de:=decide_eq_false he
  try simp -implicitDefEqProofs only [LM2,eq_self,zaa,zab,Nat.zero_mul,lzS,zde,de,TB,SB,Int.reduceToNat,Nat.reduceAdd,Nat.reduceEqDiff,Nat.reduceLT,Nat.reduceMod,Nat.reducePow,Nat.reduceSub,if_true,reduceIte]
  rw [if_neg he] at hr
  rw [hr]
  refine zgl [] (.tup [.sl (([]:List (List Nd)).map slNs) 0,i64 e]) ⟨_,rfl,_,_,rfl,.inr ⟨rfl,rfl⟩,_,_,rfl,.inl rfl,rfl⟩ ⟨[],_,[],rfl,rfl,by decide,by simp [AV.ren,renL,zag],trivial,rfl⟩
end Go.Proofs.YtamcppdhkeiaiaaGreatDoor
end

