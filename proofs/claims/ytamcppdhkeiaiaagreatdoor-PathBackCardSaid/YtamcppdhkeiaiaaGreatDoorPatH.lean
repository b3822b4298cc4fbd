/-
  What is set, what is deleted, all that stands at a path. No condition.
-/
import Derived.Test.YtamcppdhkeiaiaaGreatDoorPatG
set_option linter.unusedSimpArgs false
set_option linter.unusedVariables false
set_option linter.unusedSectionVars false
section
namespace Go.Proofs.YtamcppdhkeiaiaaGreatDoor
open Go Go.Eng
def puA (x:List Nd):AV:=.agg [.sl (x.flatMap nC) x.length]
theorem zke (id o:Nat) (K:AV→Prop):zao T 85 (.ptr id o) 0 K=K (.ptr id (o+0)):=fzP T85 rfl rfl T37 (by decide) id o
theorem zkf (e:TypeId) (cs:List AV) (n:Nat) (σ:zad) (KS:AV→zad→Prop):wbox e (.agg [.sl cs n]) σ KS=KS (.ptr σ.length 0) (σ++[.rw [.sl cs n]]):=bxW rfl rfl e
theorem zkg (e:TypeId) (σ:zad) (KS:AV→zad→Prop):wbox e (.agg []) σ KS=KS (.ptr σ.length 0) (σ++[.rw []]):=bxW rfl rfl e
theorem cut_ok (v:List Nd) (p:Nat) (s:Pt) (hv:zbg v=0) (hp:p < v.length):ACalls Tryz.prog 165 [.agg [],.sl (v.flatMap nC) v.length,i64 p,ptA s] [] (fun y _=>y=.ret (.tup [slN (cutV v p s).1,i64 (cutV v p s).2])):=by
 have hl:=zeC hv
 have hf:=zjT v p s (by omega) hp
 have hgt:=@findN_gt v p s
 rw [zeM] at hf ⊢
 refine ACalls.body T_ok Tryz.func165 (by kernel_rfl) rfl Tryz.ntmps165 (congrArg Array.toList Tryz.results165) ?_
 try simp -implicitDefEqProofs only [LM4,eq_self,zaa,zab,Nat.zero_mul,lzS,zke,zkf,zkg,TB,SB,Int.reduceToNat,Nat.reduceAdd,Nat.reduceEqDiff,Nat.reduceLT,Nat.reduceMod,Nat.reducePow,Nat.reduceSub,if_true,reduceIte]
 refine hf.pure (by simp [renL,AV.ren,zaJ,zat,zag,zai]) ?_
 rintro _ σ rfl
 refine⟨by simp [AEnd.noid,AV.ren,renL,zag,zap],?_⟩
 cases ho:zee v p s with
 | none =>
  try simp -implicitDefEqProofs only [LM4,eq_self,zaa,zab,Nat.zero_mul,lzS,zke,zkf,zkg,Option.isSome_none,TB,SB,Int.reduceToNat,Nat.reduceAdd,Nat.reduceEqDiff,Nat.reduceLT,Nat.reduceMod,Nat.reducePow,Nat.reduceSub,if_true,reduceIte]
  exact zdH [] zef (by rw [cutV,ho])
 | some kid =>
  obtain⟨g1,g2,g3⟩:=hgt ho
  try simp -implicitDefEqProofs only [LM4,eq_self,zaa,zab,Nat.zero_mul,lzS,zke,zkf,zkg,Option.isSome_some,Option.getD_some,TB,SB,Int.reduceToNat,Nat.reduceAdd,Nat.reduceEqDiff,Nat.reduceLT,Nat.reduceMod,Nat.reducePow,Nat.reduceSub,if_true,reduceIte]
  have he:=zjW (v:=v) (p:=kid) (by omega)
  have hki:=kids_inI hv hp
  have hsp:∀ fr:Nat,p < fr→fr≤kid→ACalls Tryz.prog 166 [.sl (v.flatMap nC) v.length,i64 p,i64 (-1),i64 fr,i64 ((endP v kid:Nat):Int),.lit (.slice none 0 0)] [] (fun y _=>y=.ret (slN (more (spl v fr (endP v kid) []) p (-1)))):=fun fr h1 h2 =>
   (zfw v [] p (-1) fr (endP v kid) (by omega) (Nat.zero_le _) h1 (by omega) he.2 (by unfold inI;omega)).nils ⟨.inl rfl,.inl rfl,.inl rfl,.inl rfl,.inl rfl,.inr ⟨rfl,rfl⟩,trivial⟩
  refine⟨by omega,by omega,Nat.le_refl _,hp,fun k5=>?_,fun n5=>?_⟩
  ·have g4:=g3 k5
   have ek:((kid:Int) - 1)=((kid - 1:Nat):Int):=by omega
   refine⟨by unfold inI;omega,?_⟩
   refine(ziA v kid (by omega) g1).pure (by simp [renL,AV.ren,zaJ,zat,zag]) ?_
   rintro _ σ rfl
   refine⟨zag _ _,?_⟩
   try simp -implicitDefEqProofs only [LM4,eq_self,zaa,zab,Nat.zero_mul,lzS,zke,zkf,zkg,TB,SB,Int.reduceToNat,Nat.reduceAdd,Nat.reduceEqDiff,Nat.reduceLT,Nat.reduceMod,Nat.reducePow,Nat.reduceSub,if_true,reduceIte]
   rw [ek]
   refine(hsp (kid - 1) (by omega) (by omega)).pure (by simp [renL,AV.ren,zaJ,zat,zag]) ?_
   rintro _ σ rfl
   refine⟨zdo _ _,?_⟩
   try simp -implicitDefEqProofs only [LM4,eq_self,zaa,zab,Nat.zero_mul,lzS,zke,zkf,zkg,TB,SB,Int.reduceToNat,Nat.reduceAdd,Nat.reduceEqDiff,Nat.reduceLT,Nat.reduceMod,Nat.reducePow,Nat.reduceSub,if_true,reduceIte]
   refine zdH (l:=more (spl v (kid - 1) (endP v kid) []) p (-1)) [] rfl ?_
   have h5:kdOf v p=5:=k5
   simp only [cutV,ho,if_pos h5]
  ·refine(ziA v kid (by omega) g1).pure (by simp [renL,AV.ren,zaJ,zat,zag]) ?_
   rintro _ σ rfl
   refine⟨zag _ _,?_⟩
   try simp -implicitDefEqProofs only [LM4,eq_self,zaa,zab,Nat.zero_mul,lzS,zke,zkf,zkg,TB,SB,Int.reduceToNat,Nat.reduceAdd,Nat.reduceEqDiff,Nat.reduceLT,Nat.reduceMod,Nat.reducePow,Nat.reduceSub,if_true,reduceIte]
   refine(hsp kid (by omega) (by omega)).pure (by simp [renL,AV.ren,zaJ,zat,zag]) ?_
   rintro _ σ rfl
   refine⟨zdo _ _,?_⟩
   try simp -implicitDefEqProofs only [LM4,eq_self,zaa,zab,Nat.zero_mul,lzS,zke,zkf,zkg,TB,SB,Int.reduceToNat,Nat.reduceAdd,Nat.reduceEqDiff,Nat.reduceLT,Nat.reduceMod,Nat.reducePow,Nat.reduceSub,if_true,reduceIte]
   refine zdH (l:=more (spl v kid (endP v kid) []) p (-1)) [] rfl ?_
   have h5:¬ kdOf v p=5:=n5
   simp only [cutV,ho,if_neg h5]
end Go.Proofs.YtamcppdhkeiaiaaGreatDoor
end

section
namespace Go.Proofs.YtamcppdhkeiaiaaGreatDoor
open Go Go.Eng
set_option linter.defProp false in
def LB22:=And.intro @zke (And.intro @zkf (@zkg))
theorem zci (e:TypeId) (i o n w:Nat) (cs:List AV) (m:Nat) (σ:zad) (KS:AV→zad→Prop):bs2 (some (tySl e)) 2 [(0,.ref i o n w),(1,.sl cs m)] σ KS=KS (.ref σ.length 0 2 1) (σ++[.rw [.ref i o n w,.sl cs m]]):=by
 simp [bs2,tySl,zbW,zca,zbc,List.range_succ,one_ref,one_sl,cells_ref,zfZ]
theorem frz_NsR {σ:zad} {i:Nat} {L:List (List Nd)} (h:σ[i]?=some (.ro (L.map slNs))):frzA σ (.ref i 0 L.length 1) (.sl (L.map slNs) L.length) :=
 .inr ⟨_,h,by simp,by rw [List.drop_zero,Nat.mul_one,List.take_of_length_le (by simp)]⟩
theorem put_ok (v x:List Nd) (p:Nat) (s:Pt) (hv:zbg v=0) (hp:p < v.length) (hx:x.length≤900):ACalls Tryz.prog 170 [puA x,.sl (v.flatMap nC) v.length,i64 p,ptA s] [] (fun y _=>y=.ret (.tup [slN (putV v x p s).1,i64 (putV v x p s).2])):=by
 have hl:=zeC hv
 have hf:=zjT v p s (by omega) hp
 have hgt:=@findN_gt v p s
 have hki:=kids_inI hv hp
 unfold puA
 rw [zeM] at hf ⊢
 refine ACalls.body T_ok Tryz.func170 (by kernel_rfl) rfl Tryz.ntmps170 (congrArg Array.toList Tryz.results170) ?_
 try simp -implicitDefEqProofs only [LM4,LB22,eq_self,zaa,zab,Nat.zero_mul,lzS,zci,TB,SB,Int.reduceToNat,Nat.reduceAdd,Nat.reduceEqDiff,Nat.reduceLT,Nat.reduceMod,Nat.reducePow,Nat.reduceSub,if_true,reduceIte]
 refine hf.pure (by simp [renL,AV.ren,zaJ,zat,zag,zai]) ?_
 rintro _ σ rfl
 refine⟨by simp [AEnd.noid,AV.ren,renL,zag,zap],?_⟩
 cases ho:zee v p s with
 | some kid =>
  obtain⟨g1,g2,g3⟩:=hgt ho
  have he:=zjW (v:=v) (p:=kid) (by omega)
  have hsp:=zfw v x p 0 kid (endP v kid) (by omega) (by omega) g2 he.1 he.2 (by unfold inI;omega)
  try simp -implicitDefEqProofs only [LM4,LB22,eq_self,zaa,zab,Nat.zero_mul,lzS,zci,Option.isSome_some,Option.getD_some,TB,SB,Int.reduceToNat,Nat.reduceAdd,Nat.reduceEqDiff,Nat.reduceLT,Nat.reduceMod,Nat.reducePow,Nat.reduceSub,if_true,reduceIte]
  refine zdl (by kernel_rfl) (by kernel_rfl) ?_
  try simp -implicitDefEqProofs only [LM4,LB22,eq_self,zaa,zab,Nat.zero_mul,lzS,zci,TB,SB,Int.reduceToNat,Nat.reduceAdd,Nat.reduceEqDiff,Nat.reduceLT,Nat.reduceMod,Nat.reducePow,Nat.reduceSub,if_true,reduceIte]
  refine zeH (ziA v kid (by omega) g1) (by simp [renL,AV.ren,zaJ,zat,zag]) (zag _ _) ?_
  try simp -implicitDefEqProofs only [LM4,LB22,eq_self,zaa,zab,Nat.zero_mul,lzS,zci,TB,SB,Int.reduceToNat,Nat.reduceAdd,Nat.reduceEqDiff,Nat.reduceLT,Nat.reduceMod,Nat.reducePow,Nat.reduceSub,if_true,reduceIte]
  refine zeH hsp (by simp [renL,AV.ren,zaJ,zat,zag]) (zdo _ _) ?_
  try simp -implicitDefEqProofs only [LM4,LB22,eq_self,zaa,zab,Nat.zero_mul,lzS,zci,TB,SB,Int.reduceToNat,Nat.reduceAdd,Nat.reduceEqDiff,Nat.reduceLT,Nat.reduceMod,Nat.reducePow,Nat.reduceSub,if_true,reduceIte]
  refine zdH (l:=more (spl v kid (endP v kid) x) p 0) [] rfl ?_
  simp only [putV,ho]
 | none =>
  try simp -implicitDefEqProofs only [LM4,LB22,eq_self,zaa,zab,Nat.zero_mul,lzS,zci,Option.isSome_none,TB,SB,Int.reduceToNat,Nat.reduceAdd,Nat.reduceEqDiff,Nat.reduceLT,Nat.reduceMod,Nat.reducePow,Nat.reduceSub,if_true,reduceIte]
  have n4:∀ q:Prop,¬ (v.getD p n0d).kind=4→¬ (kdOf v p=4∧q):=fun q h g=>h g.1
  refine zdl (by kernel_rfl) (by kernel_rfl) ?_
  try simp -implicitDefEqProofs only [LM4,LB22,eq_self,zaa,zab,Nat.zero_mul,lzS,zci,TB,SB,Int.reduceToNat,Nat.reduceAdd,Nat.reduceEqDiff,Nat.reduceLT,Nat.reduceMod,Nat.reducePow,Nat.reduceSub,if_true,reduceIte]
  refine⟨by omega,by omega,Nat.le_refl _,hp,?_⟩
  by_cases k4:(v.getD p n0d).kind=4
  ·have d4:=decide_eq_true k4
   have d5:decide ((v.getD p n0d).kind=5)=false:=decide_eq_false (by omega)
   rw [d4]
   try simp -implicitDefEqProofs only [LM4,LB22,eq_self,zaa,zab,Nat.zero_mul,lzS,zci,TB,SB,Int.reduceToNat,Nat.reduceAdd,Nat.reduceEqDiff,Nat.reduceLT,Nat.reduceMod,Nat.reducePow,Nat.reduceSub,if_true,reduceIte]
   have hnone:∀ σ:zad,¬ s.pos=(v.getD p n0d).kids→endQ 0 (.tup [.lit (.slice none 0 0),i64 6]) σ (fun r _=>AEnd.ret r=.ret (.tup [slN (putV v x p s).1,i64 (putV v x p s).2])):=fun σ h =>
    zdH [] zef (by rw [putV,ho];dsimp only;rw [if_neg (fun g=>h g.2),if_neg (fun g=>by have g1:=g.1;unfold kdOf at g1;omega)])
   have he:=zjW (v:=v) (p:=p) (by omega)
   have hg:=endP_gt hv hp
   have hsp:=zfw v x p 1 (endP v p) (endP v p) (by omega) (by omega) hg (Nat.le_refl _) he.2 (by unfold inI;omega)
   refine⟨by omega,by omega,Nat.le_refl _,hp,fun hk=>?_,fun hk=>?_⟩
   ·refine(ziA v p (by omega) hp).pure (by simp [renL,AV.ren,zaJ,zat,zag]) ?_
    rintro _ σ rfl
    refine⟨zag _ _,?_⟩
    try simp -implicitDefEqProofs only [LM4,LB22,eq_self,zaa,zab,Nat.zero_mul,lzS,zci,TB,SB,Int.reduceToNat,Nat.reduceAdd,Nat.reduceEqDiff,Nat.reduceLT,Nat.reduceMod,Nat.reducePow,Nat.reduceSub,if_true,reduceIte]
    refine hsp.pure (by simp [renL,AV.ren,zaJ,zat,zag]) ?_
    rintro _ σ rfl
    refine⟨zdo _ _,?_⟩
    try simp -implicitDefEqProofs only [LM4,LB22,eq_self,zaa,zab,Nat.zero_mul,lzS,zci,TB,SB,Int.reduceToNat,Nat.reduceAdd,Nat.reduceEqDiff,Nat.reduceLT,Nat.reduceMod,Nat.reducePow,Nat.reduceSub,if_true,reduceIte]
    refine zdH (l:=more (spl v (endP v p) (endP v p) x) p 1) [] rfl ?_
    have k4':kdOf v p=4:=k4
    simp only [putV,ho,if_pos (And.intro k4' hk)]
   ·refine⟨by omega,by omega,Nat.le_refl _,hp,?_⟩
    rw [d5]
    try simp -implicitDefEqProofs only [LM4,LB22,eq_self,zaa,zab,Nat.zero_mul,lzS,zci,TB,SB,Int.reduceToNat,Nat.reduceAdd,Nat.reduceEqDiff,Nat.reduceLT,Nat.reduceMod,Nat.reducePow,Nat.reduceSub,if_true,reduceIte]
    exact hnone _ hk
  ·have d4:=decide_eq_false k4
   rw [d4]
   try simp -implicitDefEqProofs only [LM4,LB22,eq_self,zaa,zab,Nat.zero_mul,lzS,zci,TB,SB,Int.reduceToNat,Nat.reduceAdd,Nat.reduceEqDiff,Nat.reduceLT,Nat.reduceMod,Nat.reducePow,Nat.reduceSub,if_true,reduceIte]
   refine⟨by omega,by omega,Nat.le_refl _,hp,?_⟩
   by_cases k5:(v.getD p n0d).kind=5
   ·have d5:=decide_eq_true k5
    rw [d5]
    by_cases x0:s.pos < 0
    ·obtain⟨n,hn,hn1,hn2⟩:=entryP_in s.key hv hp k5
     have hen:=entry_ok v p s.key (by omega) hp
     rw [hn] at hen
     have hsp:=zfw v (⟨3,0,s.key,0⟩::x) p 1 n n (by omega) (by rw [List.length_cons];omega) hn1 (Nat.le_refl _) hn2 (by unfold inI;omega)
     try simp -implicitDefEqProofs only [LM4,LB22,eq_self,zaa,zab,Nat.zero_mul,lzS,zci,decide_eq_true x0,TB,SB,Int.reduceToNat,Nat.reduceAdd,Nat.reduceEqDiff,Nat.reduceLT,Nat.reduceMod,Nat.reducePow,Nat.reduceSub,if_true,reduceIte]
     refine hen.pure (by simp [renL,AV.ren,zaJ,zat,zag,zai]) ?_
     rintro _ σ rfl
     refine⟨zag _ _,?_⟩
     try simp -implicitDefEqProofs only [LM4,LB22,eq_self,zaa,zab,Nat.zero_mul,lzS,zci,TB,SB,Int.reduceToNat,Nat.reduceAdd,Nat.reduceEqDiff,Nat.reduceLT,Nat.reduceMod,Nat.reducePow,Nat.reduceSub,if_true,reduceIte]
     refine ACalls.tell [2] 3 (cs':=[[⟨3,0,s.key,0⟩],x].map slNs) rfl ⟨_,_,rfl,ndF.frz (l:=[⟨3,0,s.key,0⟩]) rfl rfl,_,_,rfl,rfl,rfl⟩ ?_
     refine ACalls.frz [3] (l':=[.sl ([[⟨3,0,s.key,0⟩],x].map slNs) [[(⟨3,0,s.key,0⟩:Nd)],x].length]) ⟨_,_,rfl,frz_NsR (L:=[[⟨3,0,s.key,0⟩],x]) rfl,rfl⟩ ?_
     have hc:=zjb [[⟨3,0,s.key,0⟩],x] (by simp) (by simp;omega)
     rw [show [[(⟨3,0,s.key,0⟩:Nd)],x].flatten=⟨3,0,s.key,0⟩::x by simp] at hc
     have hV:putV v x p s=(more (spl v n n (⟨3,0,s.key,0⟩::x)) p 1,0):=by
      have k5':kdOf v p=5:=k5
      simp only [putV,ho,if_neg (n4 _ k4),if_pos (And.intro k5' x0),hn,Int.toNat_natCast]
     obtain⟨y,hy⟩:∃ y,y=(⟨3,0,s.key,0⟩::x:List Nd):=⟨_,rfl⟩
     rw [← hy] at hc hsp hV
     show ACalls _ _ _ [.rw [.sl (x.flatMap nC) x.length],.rw [str s.key,i64 s.pos],.ro (([⟨3,0,s.key,0⟩]:List Nd).flatMap nC),.ro ([[⟨3,0,s.key,0⟩],x].map slNs)] _
     refine ACalls.frame ([]) (hc) rfl (by decide) (by simp [LM1,LB20,zah,zae,renL,AV.ren,AEnd.ren,zaf,mbF.fren,zac,zbs,List.getElem?_cons_zero,List.getElem?_cons_succ]) (by first | rfl | simp [LM1,LB20,zah,zae,renL,AV.ren,AEnd.ren,zaf,mbF.fren,zac,zbs,List.getElem?_cons_zero,List.getElem?_cons_succ]) ?_
     rintro _ _ ⟨rfl,rfl⟩
     refine⟨.ret (.ref 4 0 y.length 4),[.rw [.sl (x.flatMap nC) x.length],.rw [str s.key,i64 s.pos],.ro (([⟨3,0,s.key,0⟩]:List Nd).flatMap nC),.ro ([[⟨3,0,s.key,0⟩],x].map slNs),.rw (y.flatMap nC)],(by show zae _ _ ([1,1,1,1,0]) ([1,1,1,1,0]) 0 _;simp [LM1,LB20,zah,zae,renL,AV.ren,AEnd.ren,zaf,mbF.fren,zac,zbs,List.getElem?_cons_zero,List.getElem?_cons_succ]),(by show AEnd.ren ([1,1,1,1,0]) _ _;first | rfl | simp [LM1,LB20,zah,zae,renL,AV.ren,AEnd.ren,zaf,mbF.fren,zac,zbs,List.getElem?_cons_zero,List.getElem?_cons_succ]),?_⟩
     try simp -implicitDefEqProofs only [LM4,LB22,eq_self,zaa,zab,Nat.zero_mul,lzS,zci,TB,SB,Int.reduceToNat,Nat.reduceAdd,Nat.reduceEqDiff,Nat.reduceLT,Nat.reduceMod,Nat.reducePow,Nat.reduceSub,if_true,reduceIte]
     refine ACalls.freeze (pre:=[.sl (v.flatMap nC) v.length,i64 p,i64 1,i64 n,i64 n]) (post:=[]) (cs:=y.flatMap nC) rfl (by rw [zbw];omega) ?_
     rw [List.drop_zero,List.take_of_length_le (by rw [zbw];omega)]
     refine hsp.pure (by simp [renL,AV.ren,zaJ,zat,zag]) ?_
     rintro _ σ rfl
     refine⟨zdo _ _,?_⟩
     try simp -implicitDefEqProofs only [LM4,LB22,eq_self,zaa,zab,Nat.zero_mul,lzS,zci,TB,SB,Int.reduceToNat,Nat.reduceAdd,Nat.reduceEqDiff,Nat.reduceLT,Nat.reduceMod,Nat.reducePow,Nat.reduceSub,if_true,reduceIte]
     exact zdH (l:=more (spl v n n y) p 1) [] rfl (by rw [hV])
    ·try simp -implicitDefEqProofs only [LM4,LB22,eq_self,zaa,zab,Nat.zero_mul,lzS,zci,decide_eq_false x0,TB,SB,Int.reduceToNat,Nat.reduceAdd,Nat.reduceEqDiff,Nat.reduceLT,Nat.reduceMod,Nat.reducePow,Nat.reduceSub,if_true,reduceIte]
     exact zdH [] zef (by rw [putV,ho];dsimp only;rw [if_neg (n4 _ k4),if_neg (fun h=>x0 h.2)])
   ·have d5:=decide_eq_false k5
    rw [d5]
    try simp -implicitDefEqProofs only [LM4,LB22,eq_self,zaa,zab,Nat.zero_mul,lzS,zci,TB,SB,Int.reduceToNat,Nat.reduceAdd,Nat.reduceEqDiff,Nat.reduceLT,Nat.reduceMod,Nat.reducePow,Nat.reduceSub,if_true,reduceIte]
    exact zdH [] zef (by rw [putV,ho];dsimp only;rw [if_neg (n4 _ k4),if_neg (fun h=>k5 h.1)])
end Go.Proofs.YtamcppdhkeiaiaaGreatDoor
end

section
namespace Go.Proofs.YtamcppdhkeiaiaaGreatDoor
open Go Go.Eng
set_option linter.defProp false in
def LB23:=And.intro @qinvoke_ifc (@zh5)
theorem zeD (l:List Pt) (n:Nat) (σ:zad) (K:AV→Prop):zbd T 22 (.sl (l.flatMap ptC) l.length) none (some (i64 n)) σ K=(n≤l.length∧K (.sl ((l.take n).flatMap ptC) n)):=by
 have e:=ptF.ftake l n
 simp [zbd,T22,tySl,bnd,i64,T43,tyPt,ptF.flen,e]
def zc8 (D:Nat→Pt→List Nd × Int) (v:List Nd) (l:List Pt):List Nd × Int:=match zgu v (some 0) (l.take (l.length - 1)) with
 | none=>([],6)
 | some p=>if (D p (l.getD (l.length - 1) pt0)).2=0 then (if zbg (D p (l.getD (l.length - 1) pt0)).1=0 then ((D p (l.getD (l.length - 1) pt0)).1,0) else ([],zbg (D p (l.getD (l.length - 1) pt0)).1)) else ([],(D p (l.getD (l.length - 1) pt0)).2)
theorem zje (t : TypeId) (c : AV) (f : FuncId) (hM : mrow Tryz.prog t "cryptex/path.done" f false = true) (hcr : ∀ q, c.ren q = some c) (D : Nat → Pt → List Nd × Int) (v : List Nd) (hv : zbg v = 0)
  (hD:∀ p x,p < v.length→(D p x).1.length≤1000000∧ACalls Tryz.prog f [c,.sl (v.flatMap nC) v.length,i64 p,ptA x] [] (fun y _=>y=.ret (.tup [slN (D p x).1,i64 (D p x).2])))
  (l:List Pt) (h0:0 < l.length) (hl:l.length≤1000000):ACalls Tryz.prog 34 [.sl (v.flatMap nC) v.length,.sl (l.flatMap ptC) l.length,.ifc t c] [] (fun y _=>y=.ret (.tup [slN (zc8 D v l).1,i64 (zc8 D v l).2])):=by
 have hn:=zeC hv
 obtain⟨m,hm⟩:∃ m,l.length=m+1:=⟨l.length - 1,by omega⟩
 have hsub:(l.length:Int) - 1=(m:Int):=by omega
 have hm1:l.length - 1=m:=by omega
 have hlt:=lead_lt hn.1 (l.take m) (some 0) (fun p hp=>by cases hp;exact hn.1)
 have htk:(l.take m).length=m:=by rw [List.length_take];omega
 have hlead:=lead_ok v (l.take m) (by omega) hn.1 (by omega)
 rw [htk] at hlead
 have hV:zc8 D v l=match zgu v (some 0) (l.take m) with
  | none=>([],6)
  | some p=>if (D p (l.getD m pt0)).2=0 then (if zbg (D p (l.getD m pt0)).1=0 then ((D p (l.getD m pt0)).1,0) else ([],zbg (D p (l.getD m pt0)).1)) else ([],(D p (l.getD m pt0)).2):=by rw [zc8,hm1]
 refine ACalls.body T_ok Tryz.func34 (by kernel_rfl) rfl Tryz.ntmps34 (congrArg Array.toList Tryz.results34) ?_
 try simp -implicitDefEqProofs only [LM4,LB23,eq_self,zaa,zab,Nat.zero_mul,lzS,zeD,TB,SB,Int.reduceToNat,Nat.reduceAdd,Nat.reduceEqDiff,Nat.reduceLT,Nat.reduceMod,Nat.reducePow,Nat.reduceSub,if_true,reduceIte]
 refine⟨by unfold inI;omega,?_⟩
 rw [hsub]
 try simp -implicitDefEqProofs only [LM4,LB23,eq_self,zaa,zab,Nat.zero_mul,lzS,zeD,TB,SB,Int.reduceToNat,Nat.reduceAdd,Nat.reduceEqDiff,Nat.reduceLT,Nat.reduceMod,Nat.reducePow,Nat.reduceSub,if_true,reduceIte]
 refine⟨by omega,?_⟩
 refine hlead.pure (by simp [renL,AV.ren,zaJ,zat,zaR]) ?_
 rintro _ σ rfl
 rw [zjS]
 refine⟨by simp [AEnd.noid,AV.ren,renL,zag,zap],?_⟩
 cases ho:zgu v (some 0) (l.take m) with
 | none =>
  rw [ho] at hV
  try simp -implicitDefEqProofs only [LM4,LB23,eq_self,zaa,zab,Nat.zero_mul,lzS,zeD,Option.isSome_none,TB,SB,Int.reduceToNat,Nat.reduceAdd,Nat.reduceEqDiff,Nat.reduceLT,Nat.reduceMod,Nat.reducePow,Nat.reduceSub,if_true,reduceIte]
  exact zdH [] zef (by rw [hV])
 | some p =>
  rw [ho] at hV
  dsimp only at hV
  obtain⟨hDl,hDp⟩:=hD p (l.getD m pt0) (hlt p ho)
  rw [zeM] at hDp
  try simp -implicitDefEqProofs only [LM4,LB23,eq_self,zaa,zab,Nat.zero_mul,lzS,zeD,Option.isSome_some,Option.getD_some,TB,SB,Int.reduceToNat,Nat.reduceAdd,Nat.reduceEqDiff,Nat.reduceLT,Nat.reduceMod,Nat.reducePow,Nat.reduceSub,if_true,reduceIte]
  refine zdl (by kernel_rfl) (by kernel_rfl) ?_
  try simp -implicitDefEqProofs only [LM4,LB23,eq_self,zaa,zab,Nat.zero_mul,lzS,zeD,TB,SB,Int.reduceToNat,Nat.reduceAdd,Nat.reduceEqDiff,Nat.reduceLT,Nat.reduceMod,Nat.reducePow,Nat.reduceSub,if_true,reduceIte]
  refine⟨by omega,by omega,Nat.le_refl _,by omega,⟨f,hM⟩,(f,c),mrow_ok hM,?_⟩
  refine zeH hDp (by simp [renL,AV.ren,zat,zag,zai,hcr]) (by simp [AEnd.noid,AV.ren,renL,zdo,zag]) ?_
  generalize D p (l.getD m pt0)=r at hV hDl ⊢
  obtain⟨r,e⟩:=r
  dsimp only at hV hDl ⊢
  unfold slN
  by_cases he:e=0
  ·have de:=decide_eq_true he
   rw [if_pos he] at hV
   try simp -implicitDefEqProofs only [LM4,LB23,eq_self,zaa,zab,Nat.zero_mul,lzS,zeD,de,TB,SB,Int.reduceToNat,Nat.reduceAdd,Nat.reduceEqDiff,Nat.reduceLT,Nat.reduceMod,Nat.reducePow,Nat.reduceSub,if_true,reduceIte]
   refine(zhj r hDl).pure (by simp [renL,AV.ren,zat]) ?_
   rintro _ σ ⟨rfl,rfl⟩
   refine⟨zag _ _,?_⟩
   by_cases hr:zbg r=0
   ·have dr:=decide_eq_true hr
    rw [if_pos hr] at hV
    try simp -implicitDefEqProofs only [LM4,LB23,eq_self,zaa,zab,Nat.zero_mul,lzS,zeD,dr,TB,SB,Int.reduceToNat,Nat.reduceAdd,Nat.reduceEqDiff,Nat.reduceLT,Nat.reduceMod,Nat.reducePow,Nat.reduceSub,if_true,reduceIte]
    exact zdH (l:=r) [] rfl (by rw [hV];rfl)
   ·have dr:=decide_eq_false hr
    rw [if_neg hr] at hV
    try simp -implicitDefEqProofs only [LM4,LB23,eq_self,zaa,zab,Nat.zero_mul,lzS,zeD,dr,TB,SB,Int.reduceToNat,Nat.reduceAdd,Nat.reduceEqDiff,Nat.reduceLT,Nat.reduceMod,Nat.reducePow,Nat.reduceSub,if_true,reduceIte]
    exact zdH [] zef (by rw [hV];rfl)
  ·have de:=decide_eq_false he
   rw [if_neg he] at hV
   try simp -implicitDefEqProofs only [LM4,LB23,eq_self,zaa,zab,Nat.zero_mul,lzS,zeD,de,TB,SB,Int.reduceToNat,Nat.reduceAdd,Nat.reduceEqDiff,Nat.reduceLT,Nat.reduceMod,Nat.reducePow,Nat.reduceSub,if_true,reduceIte]
   exact zdH [] zef (by rw [hV];rfl)
end Go.Proofs.YtamcppdhkeiaiaaGreatDoor
end

section
namespace Go.Proofs.YtamcppdhkeiaiaaGreatDoor
open Go Go.Eng
theorem zgY (cs:List AV) (n:Nat) (K:AV→Prop):zbe T 85 [(0,.sl cs n)] K=K (.agg [.sl cs n]):=by
 simp [zbe,T85,T37,tyPu,tySl,zbW,zaQ,zfZ,oneSl,zbc]
theorem zgZ (K:AV→Prop):zbe T 79 [] K=K (.agg []):=by
 simp [zbe,T79,tyGu,zbW,zaQ]
theorem zc4 (t:TypeId) (x:AV) (K:AV→Prop):mkI2 (some tyPu) t x K=K (.ifc t x):=zd6 rfl _ _
theorem spl_le (v:List Nd) (fr to:Nat) (l:List Nd):(spl v fr to l).length≤v.length+l.length+v.length:=by
 rw [spl_eq,List.length_append,List.length_append,List.length_take,List.length_drop]
 omega
theorem zhs (L:List Nd) (p:Nat) (m:Int):(more L p m).length=L.length:=by simp [more]
theorem putV_len (v x:List Nd) (p:Nat) (s:Pt):(putV v x p s).1.length≤2 * v.length+x.length+1:=by
 unfold putV
 split
 ·rename_i kid _
  have:=spl_le v kid (endP v kid) x
  rw [zhs]
  omega
 ·split
  ·have:=spl_le v (endP v p) (endP v p) x
   rw [zhs]
   omega
  ·split
   ·have:=spl_le v (zgw v p s.key).toNat (zgw v p s.key).toNat (⟨3,0,s.key,0⟩::x)
    rw [zhs]
    rw [List.length_cons] at this
    omega
   ·exact Nat.zero_le _
theorem cutV_len (v:List Nd) (p:Nat) (s:Pt):(cutV v p s).1.length≤2 * v.length:=by
 unfold cutV
 split
 ·rename_i kid _
  have:=spl_le v (if kdOf v p=5 then kid - 1 else kid) (endP v kid) []
  rw [zhs]
  rw [List.length_nil] at this
  omega
 ·exact Nat.zero_le _
def setR (v:List Nd) (s:List UInt8) (x:List Nd):List Nd × Int :=
 if (za0 v s).2=0 then (if zbg x=0 then (if (za0 v s).1=[] then (x,0) else zc8 (putV v x) v (za0 v s).1) else ([],zbg x)) else ([],(za0 v s).2)
def delR (v:List Nd) (s:List UInt8):List Nd × Int :=
 if (za0 v s).2=0 then (if (za0 v s).1=[] then ([],9) else zc8 (cutV v) v (za0 v s).1) else ([],(za0 v s).2)
theorem PSet_ok (v x:List Nd) (s:List UInt8) (hv:v.length≤1000000) (hx:x.length≤1000000) (hs:s.length≤9223372036854775807):ACalls Tryz.prog 18 [.sl (v.flatMap nC) v.length,str s,.sl (x.flatMap nC) x.length] [] (fun y _=>y=.ret (.tup [slN (setR v s x).1,i64 (setR v s x).2])):=by
 refine ACalls.body T_ok Tryz.func18 (by kernel_rfl) rfl Tryz.ntmps18 (congrArg Array.toList Tryz.results18) ?_
 try simp -implicitDefEqProofs only [LM4,eq_self,zaa,zab,Nat.zero_mul,lzS,zgY,zgZ,zc4,TB,SB,Int.reduceToNat,Nat.reduceAdd,Nat.reduceEqDiff,Nat.reduceLT,Nat.reduceMod,Nat.reducePow,Nat.reduceSub,if_true,reduceIte]
 refine(zhr v s hv hs).pure (by simp [renL,AV.ren,zaJ,zat,zai]) ?_
 rintro _ σ rfl
 refine⟨by simp [AEnd.noid,AV.ren,renL,zaT,zag],?_⟩
 rw [zfc]
 have hl:=zfv v s
 have hr:setR v s x=if (za0 v s).2=0 then (if zbg x=0 then (if (za0 v s).1=[] then (x,0) else zc8 (putV v x) v (za0 v s).1) else ([],zbg x)) else ([],(za0 v s).2):=rfl
 have hok:=@zgv v s
 generalize za0 v s=X at hl hr hok ⊢
 obtain⟨l,e⟩:=X
 dsimp only at hl hr hok ⊢
 by_cases he:e=0
 ·have de:=decide_eq_true he
  have hv0:=(hok he).1
  have hn:=zeC hv0
  rw [if_pos he] at hr
  try simp -implicitDefEqProofs only [LM4,eq_self,zaa,zab,Nat.zero_mul,lzS,zgY,zgZ,zc4,de,TB,SB,Int.reduceToNat,Nat.reduceAdd,Nat.reduceEqDiff,Nat.reduceLT,Nat.reduceMod,Nat.reducePow,Nat.reduceSub,if_true,reduceIte]
  refine(zhj x hx).pure (by simp [renL,AV.ren,zaJ,zat]) ?_
  rintro _ σ ⟨rfl,rfl⟩
  refine⟨zag _ _,?_⟩
  by_cases hex:zbg x=0
  ·have dx:=decide_eq_true hex
   have hxn:=zeC hex
   rw [if_pos hex] at hr
   by_cases h0:l=[]
   ·have d0:decide ((l.length:Int)=0)=true:=decide_eq_true (by rw [h0];rfl)
    rw [if_pos h0] at hr
    try simp -implicitDefEqProofs only [LM4,eq_self,zaa,zab,Nat.zero_mul,lzS,zgY,zgZ,zc4,dx,d0,TB,SB,Int.reduceToNat,Nat.reduceAdd,Nat.reduceEqDiff,Nat.reduceLT,Nat.reduceMod,Nat.reducePow,Nat.reduceSub,if_true,reduceIte]
    refine(cloneN_ok x hx).pure (by simp [renL,AV.ren,zat]) ?_
    rintro _ σ ⟨rfl,rfl⟩
    refine⟨by simp [AEnd.noid,AV.ren,zat],?_⟩
    try simp -implicitDefEqProofs only [LM4,eq_self,zaa,zab,Nat.zero_mul,lzS,zgY,zgZ,zc4,TB,SB,Int.reduceToNat,Nat.reduceAdd,Nat.reduceEqDiff,Nat.reduceLT,Nat.reduceMod,Nat.reducePow,Nat.reduceSub,if_true,reduceIte]
    exact zdH (l:=x) [] rfl (by rw [hr])
   ·have hlen:0 < l.length:=List.length_pos_iff.2 h0
    have d0:decide ((l.length:Int)=0)=false:=decide_eq_false (by omega)
    rw [if_neg h0] at hr
    try simp -implicitDefEqProofs only [LM4,eq_self,zaa,zab,Nat.zero_mul,lzS,zgY,zgZ,zc4,dx,d0,TB,SB,Int.reduceToNat,Nat.reduceAdd,Nat.reduceEqDiff,Nat.reduceLT,Nat.reduceMod,Nat.reducePow,Nat.reduceSub,if_true,reduceIte]
    have hc:=zje 85 (puA x) 170 (by kernel_rfl) (fun q=>by simp [puA,AV.ren,renL,zat]) (putV v x) v hv0 (fun p y hp=>⟨by have:=putV_len v x p y;omega,put_ok v x p y hv0 hp (by omega)⟩) l hlen (by omega)
    unfold puA at hc
    refine hc.pure (by simp [renL,AV.ren,zat,zaR]) ?_
    rintro _ σ rfl
    refine⟨by simp [AEnd.noid,AV.ren,renL,zdo,zag],?_⟩
    try simp -implicitDefEqProofs only [LM4,eq_self,zaa,zab,Nat.zero_mul,lzS,zgY,zgZ,zc4,TB,SB,Int.reduceToNat,Nat.reduceAdd,Nat.reduceEqDiff,Nat.reduceLT,Nat.reduceMod,Nat.reducePow,Nat.reduceSub,if_true,reduceIte]
    exact zdH (l:=(zc8 (putV v x) v l).1) [] rfl (by rw [hr])
  ·have dx:=decide_eq_false hex
   rw [if_neg hex] at hr
   try simp -implicitDefEqProofs only [LM4,eq_self,zaa,zab,Nat.zero_mul,lzS,zgY,zgZ,zc4,dx,TB,SB,Int.reduceToNat,Nat.reduceAdd,Nat.reduceEqDiff,Nat.reduceLT,Nat.reduceMod,Nat.reducePow,Nat.reduceSub,if_true,reduceIte]
   exact zdH [] zef (by rw [hr])
 ·have de:=decide_eq_false he
  rw [if_neg he] at hr
  try simp -implicitDefEqProofs only [LM4,eq_self,zaa,zab,Nat.zero_mul,lzS,zgY,zgZ,zc4,de,TB,SB,Int.reduceToNat,Nat.reduceAdd,Nat.reduceEqDiff,Nat.reduceLT,Nat.reduceMod,Nat.reducePow,Nat.reduceSub,if_true,reduceIte]
  exact zdH [] zef (by rw [hr])
theorem PDel_ok (v:List Nd) (s:List UInt8) (hv:v.length≤1000000) (hs:s.length≤9223372036854775807):ACalls Tryz.prog 16 [.sl (v.flatMap nC) v.length,str s] [] (fun y _=>y=.ret (.tup [slN (delR v s).1,i64 (delR v s).2])):=by
 refine ACalls.body T_ok Tryz.func16 (by kernel_rfl) rfl Tryz.ntmps16 (congrArg Array.toList Tryz.results16) ?_
 try simp -implicitDefEqProofs only [LM4,eq_self,zaa,zab,Nat.zero_mul,lzS,zgY,zgZ,zc4,TB,SB,Int.reduceToNat,Nat.reduceAdd,Nat.reduceEqDiff,Nat.reduceLT,Nat.reduceMod,Nat.reducePow,Nat.reduceSub,if_true,reduceIte]
 refine(zhr v s hv hs).pure (by simp [renL,AV.ren,zaJ,zat,zai]) ?_
 rintro _ σ rfl
 refine⟨by simp [AEnd.noid,AV.ren,renL,zaT,zag],?_⟩
 rw [zfc]
 have hl:=zfv v s
 have hr:delR v s=if (za0 v s).2=0 then (if (za0 v s).1=[] then ([],9) else zc8 (cutV v) v (za0 v s).1) else ([],(za0 v s).2):=rfl
 have hok:=@zgv v s
 generalize za0 v s=X at hl hr hok ⊢
 obtain⟨l,e⟩:=X
 dsimp only at hl hr hok ⊢
 by_cases he:e=0
 ·have de:=decide_eq_true he
  have hv0:=(hok he).1
  have hn:=zeC hv0
  rw [if_pos he] at hr
  by_cases h0:l=[]
  ·have d0:decide ((l.length:Int)=0)=true:=decide_eq_true (by rw [h0];rfl)
   rw [if_pos h0] at hr
   try simp -implicitDefEqProofs only [LM4,eq_self,zaa,zab,Nat.zero_mul,lzS,zgY,zgZ,zc4,de,d0,TB,SB,Int.reduceToNat,Nat.reduceAdd,Nat.reduceEqDiff,Nat.reduceLT,Nat.reduceMod,Nat.reducePow,Nat.reduceSub,if_true,reduceIte]
   exact⟨fun _=>zdH [] zef (by rw [hr]),fun h=>absurd h (by decide)⟩
  ·have hlen:0 < l.length:=List.length_pos_iff.2 h0
   have d0:decide ((l.length:Int)=0)=false:=decide_eq_false (by omega)
   rw [if_neg h0] at hr
   try simp -implicitDefEqProofs only [LM4,eq_self,zaa,zab,Nat.zero_mul,lzS,zgY,zgZ,zc4,de,d0,TB,SB,Int.reduceToNat,Nat.reduceAdd,Nat.reduceEqDiff,Nat.reduceLT,Nat.reduceMod,Nat.reducePow,Nat.reduceSub,if_true,reduceIte]
   have hc:=zje 79 (.agg []) 165 (by kernel_rfl) (fun q=>by simp [AV.ren,renL]) (cutV v) v hv0 (fun p y hp=>⟨by have:=cutV_len v p y;omega,cut_ok v p y hv0 hp⟩) l hlen (by omega)
   refine hc.pure (by simp [renL,AV.ren,zat,zaR]) ?_
   rintro _ σ rfl
   refine⟨by simp [AEnd.noid,AV.ren,renL,zdo,zag],?_⟩
   try simp -implicitDefEqProofs only [LM4,eq_self,zaa,zab,Nat.zero_mul,lzS,zgY,zgZ,zc4,TB,SB,Int.reduceToNat,Nat.reduceAdd,Nat.reduceEqDiff,Nat.reduceLT,Nat.reduceMod,Nat.reducePow,Nat.reduceSub,if_true,reduceIte]
   exact zdH (l:=(zc8 (cutV v) v l).1) [] rfl (by rw [hr])
 ·have de:=decide_eq_false he
  rw [if_neg he] at hr
  try simp -implicitDefEqProofs only [LM4,eq_self,zaa,zab,Nat.zero_mul,lzS,zgY,zgZ,zc4,de,TB,SB,Int.reduceToNat,Nat.reduceAdd,Nat.reduceEqDiff,Nat.reduceLT,Nat.reduceMod,Nat.reducePow,Nat.reduceSub,if_true,reduceIte]
  exact zdH [] zef (by rw [hr])
end Go.Proofs.YtamcppdhkeiaiaaGreatDoor
end

section
namespace Go.Proofs.YtamcppdhkeiaiaaGreatDoor
open Go Go.Eng
def zhe (v:List Nd) (p:Nat) (x:Pt):List Int:=if kdOf v p=4∧x.pos < 0 then zbk v p else [(p:Int)]
def zbq (v:List Nd) (x:Pt) (l:List Int):List Int:=l.filterMap fun f=>zcF v f.toNat x
def zf0 (v:List Nd) (p:Nat) (x:Pt):List Int:=zbq v x (zhe v p x)
theorem optI_eq (o:Option Int):optI o=.tup [i64 (o.getD 0),bl o.isSome]:=by cases o <;> rfl
theorem from_mem {v:List Nd} {p:Nat} {x:Pt} {q:Int} (hp:p < v.length) (h:q∈zhe v p x):∃ n:Nat,q=n∧n < v.length:=by
 unfold zhe at h
 split at h
 ·exact zjR h
 ·rw [List.mem_singleton] at h
  exact⟨p,h,hp⟩
theorem spread_mem {v:List Nd} {x:Pt} {l:List Int} {q:Int} (h:q∈zbq v x l):∃ n:Nat,q=n∧n < v.length:=by
 unfold zbq at h
 rw [List.mem_filterMap] at h
 obtain⟨f,_,hf⟩:=h
 exact find_lt hf
theorem zf1 {v:List Nd} {x:Pt} {l:List Int} {k:Nat} (hk:k < l.length):zbq v x (l.take (k+1))=match zcF v (l.getD k 0).toNat x with | some q=>zbq v x (l.take k)++[q] | none=>zbq v x (l.take k):=by
 rw [zed 0 hk]
 unfold zbq
 rw [List.filterMap_append]
 generalize l.getD k 0=a
 cases h:zcF v a.toNat x <;> simp [h]
theorem zg0 (v:List Nd) (x:Pt) (l:List Int) (k:Nat):(zbq v x (l.take k)).length≤k:=by
 unfold zbq
 exact Nat.le_trans (List.length_filterMap_le _ _) (by rw [List.length_take];omega)
theorem from_len (v:List Nd) (p:Nat) (x:Pt) (hv:v.length≤1000000):(zhe v p x).length≤1000000:=by
 unfold zhe
 split
 ·exact zhq v p hv
 ·simp
theorem spread_ok (v:List Nd) (p:Nat) (x:Pt) (hv:v.length≤1000000) (hp:p < v.length):ACalls Tryz.prog 39 [.sl (v.flatMap nC) v.length,i64 p,ptA x] [] (fun y _=>y=.ret (.sl ((zf0 v p x).map i64) (zf0 v p x).length)):=by
 have hfl:=from_len v p x hv
 have hfm:=fun q=>@from_mem v p x q hp
 have hkl:=zhq v p hv
 have hvs:zf0 v p x=zbq v x (zhe v p x):=rfl
 rw [zeM]
 refine ACalls.body T_ok Tryz.func39 (by kernel_rfl) rfl Tryz.ntmps39 (congrArg Array.toList Tryz.results39) ?_
 try simp -implicitDefEqProofs only [LM2,eq_self,zaa,zab,Nat.zero_mul,lzS,TB,SB,Int.reduceToNat,Nat.reduceAdd,Nat.reduceEqDiff,Nat.reduceLT,Nat.reduceMod,Nat.reducePow,Nat.reduceSub,if_true,reduceIte]
 refine⟨by omega,by omega,Nat.le_refl _,hp,?_⟩
 by_cases hc:(v.getD p n0d).kind=4∧x.pos < 0
 ·obtain⟨k4,x0⟩:=hc
  have hF:zhe v p x=zbk v p:=by rw [zhe,if_pos ⟨k4,x0⟩]
  have d4:=decide_eq_true k4
  rw [d4]
  try simp -implicitDefEqProofs only [LM2,eq_self,zaa,zab,Nat.zero_mul,lzS,decide_eq_true x0,TB,SB,Int.reduceToNat,Nat.reduceAdd,Nat.reduceEqDiff,Nat.reduceLT,Nat.reduceMod,Nat.reducePow,Nat.reduceSub,if_true,reduceIte]
  refine(Kids_ok v p hv).pure (by simp [renL,AV.ren,zaJ,zat,zag]) ?_
  rintro _ σ ⟨rfl,rfl⟩
  refine⟨by simp [AEnd.noid,AV.ren,zak i64 zag],?_⟩
  rw [← hF,hvs]
  clear hvs hF
  generalize zhe v p x=F at hfl hfm ⊢
  try simp -implicitDefEqProofs only [LM2,eq_self,zaa,zab,Nat.zero_mul,lzS,TB,SB,Int.reduceToNat,Nat.reduceAdd,Nat.reduceEqDiff,Nat.reduceLT,Nat.reduceMod,Nat.reducePow,Nat.reduceSub,if_true,reduceIte]
  rw [za9]
  refine⟨Nat,fun k=>k≤F.length,fun k=>[.sl (v.flatMap nC) v.length,.bot,.bot,.bot,.bot,.ptr 0 0,.bot,.bot,.ref 1 0 (zbq v x (F.take k)).length 1,.bot,.bot,.bot,.bot,.bot,.bot,.bot,.bot,.bot,.bot,.bot,.bot,.bot,.bot,.bot,.bot,.bot,.bot,.bot,.bot,.sl (F.map i64) F.length,i64 F.length,i64 k,.bot,.bot,.bot,.bot,.bot,.bot,.bot,.bot,.bot,.bot,.bot,.bot,.bot,.bot,.bot,.bot,.bot],fun k=>[.rw [str x.key,i64 x.pos],.rw ((zbq v x (F.take k)).map i64)],fun k=>F.length - k,0,Nat.zero_le _,zer 8 1 rfl (zaj (q:=[0,2]) rfl rfl (by decide) ?_ ?_),?_⟩
  ·try simp only [FB,AV.ren,Nat.reduceAdd,reduceCtorEq]
   exact⟨by rw [zat];rfl,by simp [zbq],.inr rfl⟩
  ·try simp only [FB,AV.ren,Nat.reduceAdd,reduceCtorEq]
   simp [zah,zaG,renL,zai,zag,zbq]
  intro k hk
  have hk:k≤F.length:=hk
  dsimp only
  by_cases hlt:k < F.length
  ·have dl:decide ((k:Int) < (F.length:Int))=true:=decide_eq_true (by omega)
   have hst:=zf1 (v:=v) (x:=x) hlt
   have hsl:=zg0 v x F k
   obtain⟨n,hn,hn2⟩:=hfm (F.getD k 0) (by rw [List.getD_eq_getElem?_getD,List.getElem?_eq_getElem hlt];exact List.getElem_mem hlt)
   have hfo:=zjQ v n x hv hn2
   rw [hn,Int.toNat_natCast] at hst
   rw [zeM,optI_eq] at hfo
   try simp -implicitDefEqProofs only [LM2,eq_self,zaa,zab,Nat.zero_mul,lzS,dl,TB,SB,Int.reduceToNat,Nat.reduceAdd,Nat.reduceEqDiff,Nat.reduceLT,Nat.reduceMod,Nat.reducePow,Nat.reduceSub,if_true,reduceIte]
   refine⟨by omega,by omega,hlt,?_⟩
   rw [hn]
   refine hfo.pure (by simp [renL,AV.ren,zaJ,zat,zag,zai]) ?_
   rintro _ σ rfl
   refine⟨by simp [AEnd.noid,AV.ren,renL,zag,zap],?_⟩
   cases ho:zcF v n x with
   | none =>
    rw [ho] at hst
    try simp -implicitDefEqProofs only [LM2,eq_self,zaa,zab,Nat.zero_mul,lzS,Option.isSome_none,TB,SB,Int.reduceToNat,Nat.reduceAdd,Nat.reduceEqDiff,Nat.reduceLT,Nat.reduceMod,Nat.reducePow,Nat.reduceSub,if_true,reduceIte]
    refine⟨by unfold inI;omega,?_⟩
    rw [zal]
    refine⟨k+1,by (show k+1≤F.length);omega,by (show F.length - (k+1) < F.length - k);omega,?_⟩
    rw [hst]
    refine zaj (q:=[0,1]) rfl rfl (by decide) ?_ ?_
    ·try simp only [FB,AV.ren,Nat.reduceAdd,reduceCtorEq]
     exact⟨by rw [zat];rfl,.inr (by omega)⟩
    ·try simp only [FB,AV.ren,Nat.reduceAdd,reduceCtorEq]
     simp [zah,zaG,renL,zai,zag,zak i64 zag]
   | some q =>
    rw [ho] at hst
    try simp -implicitDefEqProofs only [LM2,eq_self,zaa,zab,Nat.zero_mul,lzS,Option.isSome_some,Option.getD_some,TB,SB,Int.reduceToNat,Nat.reduceAdd,Nat.reduceEqDiff,Nat.reduceLT,Nat.reduceMod,Nat.reducePow,Nat.reduceSub,if_true,reduceIte]
    refine zcZ i64 zjs rfl rfl T80 T80 (zfy _) T3 zdU (l:=zbq v x (F.take k)) (ys:=[q]) (m:=1) rfl rfl rfl (by omega) (by simp only [zaV];omega) ?_
    try simp -implicitDefEqProofs only [LM2,eq_self,zaa,zab,Nat.zero_mul,lzS,TB,SB,Int.reduceToNat,Nat.reduceAdd,Nat.reduceEqDiff,Nat.reduceLT,Nat.reduceMod,Nat.reducePow,Nat.reduceSub,if_true,reduceIte]
    refine⟨by unfold inI;omega,?_⟩
    rw [zal]
    refine⟨k+1,by (show k+1≤F.length);omega,by (show F.length - (k+1) < F.length - k);omega,?_⟩
    rw [hst]
    dsimp only
    rw [List.length_append]
    refine zaj (q:=[0,3]) rfl rfl (by decide) ?_ ?_
    ·try simp only [FB,AV.ren,Nat.reduceAdd,reduceCtorEq]
     exact⟨by rw [zat];rfl,.inr (by omega)⟩
    ·try simp only [FB,AV.ren,Nat.reduceAdd,reduceCtorEq]
     simp [-List.map_append,zah,zaG,renL,zai,zag,zak i64 zag]
  ·obtain rfl:k=F.length:=by omega
   have dl:decide ((F.length:Int) < (F.length:Int))=false:=decide_eq_false (by omega)
   rw [List.take_length]
   try simp -implicitDefEqProofs only [LM2,eq_self,zaa,zab,Nat.zero_mul,lzS,dl,TB,SB,Int.reduceToNat,Nat.reduceAdd,Nat.reduceEqDiff,Nat.reduceLT,Nat.reduceMod,Nat.reducePow,Nat.reduceSub,if_true,reduceIte]
   refine zfO rfl (by rw [List.length_map];omega) (zak i64 zag _ _) ?_
   rw [List.drop_zero,List.take_of_length_le (by rw [List.length_map];omega)]
 ·have hF:zhe v p x=[(p:Int)]:=by rw [zhe,if_neg (show ¬ (kdOf v p=4∧x.pos < 0) from hc)]
  rw [hvs]
  clear hvs
  generalize zhe v p x=F at hfl hfm hF ⊢
  by_cases k4:(v.getD p n0d).kind=4
  ·have x0:¬ x.pos < 0:=fun h=>hc ⟨k4,h⟩
   rw [decide_eq_true k4]
   try simp -implicitDefEqProofs only [LM2,eq_self,zaa,zab,Nat.zero_mul,lzS,decide_eq_false x0,TB,SB,Int.reduceToNat,Nat.reduceAdd,Nat.reduceEqDiff,Nat.reduceLT,Nat.reduceMod,Nat.reducePow,Nat.reduceSub,if_true,reduceIte]
   rw [za9]
   refine⟨Nat,fun k=>k≤F.length,fun k=>[.sl (v.flatMap nC) v.length,.bot,.bot,.bot,.bot,.ptr 0 0,.bot,.bot,.ref 1 0 (zbq v x (F.take k)).length 1,.bot,.bot,.bot,.bot,.bot,.bot,.bot,.bot,.bot,.bot,.bot,.bot,.bot,.bot,.bot,.bot,.bot,.bot,.bot,.bot,.sl (F.map i64) F.length,i64 F.length,i64 k,.bot,.bot,.bot,.bot,.bot,.bot,.bot,.bot,.bot,.bot,.bot,.bot,.bot,.bot,.bot,.bot,.bot],fun k=>[.rw [str x.key,i64 x.pos],.rw ((zbq v x (F.take k)).map i64)],fun k=>F.length - k,0,Nat.zero_le _,fits_frz 29 rfl rfl (by simp) (zer 8 1 rfl (zaj (q:=[0,2]) rfl rfl (by decide) ?_ ?_)),?_⟩
   ·try simp only [FB,AV.ren,Nat.reduceAdd,reduceCtorEq]
    exact⟨by rw [zat];rfl,by simp [zbq],⟨by rw [hF];rfl,by rw [hF];rfl⟩,.inr (by rw [hF];rfl),.inr rfl⟩
   ·try simp only [FB,AV.ren,Nat.reduceAdd,reduceCtorEq]
    simp [zah,zaG,renL,zai,zag,zbq]
   intro k hk
   have hk:k≤F.length:=hk
   dsimp only
   by_cases hlt:k < F.length
   ·have dl:decide ((k:Int) < (F.length:Int))=true:=decide_eq_true (by omega)
    have hst:=zf1 (v:=v) (x:=x) hlt
    have hsl:=zg0 v x F k
    obtain⟨n,hn,hn2⟩:=hfm (F.getD k 0) (by rw [List.getD_eq_getElem?_getD,List.getElem?_eq_getElem hlt];exact List.getElem_mem hlt)
    have hfo:=zjQ v n x hv hn2
    rw [hn,Int.toNat_natCast] at hst
    rw [zeM,optI_eq] at hfo
    try simp -implicitDefEqProofs only [LM2,eq_self,zaa,zab,Nat.zero_mul,lzS,dl,TB,SB,Int.reduceToNat,Nat.reduceAdd,Nat.reduceEqDiff,Nat.reduceLT,Nat.reduceMod,Nat.reducePow,Nat.reduceSub,if_true,reduceIte]
    refine⟨by omega,by omega,hlt,?_⟩
    rw [hn]
    refine hfo.pure (by simp [renL,AV.ren,zaJ,zat,zag,zai]) ?_
    rintro _ σ rfl
    refine⟨by simp [AEnd.noid,AV.ren,renL,zag,zap],?_⟩
    cases ho:zcF v n x with
    | none =>
     rw [ho] at hst
     try simp -implicitDefEqProofs only [LM2,eq_self,zaa,zab,Nat.zero_mul,lzS,Option.isSome_none,TB,SB,Int.reduceToNat,Nat.reduceAdd,Nat.reduceEqDiff,Nat.reduceLT,Nat.reduceMod,Nat.reducePow,Nat.reduceSub,if_true,reduceIte]
     refine⟨by unfold inI;omega,?_⟩
     rw [zal]
     refine⟨k+1,by (show k+1≤F.length);omega,by (show F.length - (k+1) < F.length - k);omega,?_⟩
     rw [hst]
     refine zaj (q:=[0,1]) rfl rfl (by decide) ?_ ?_
     ·try simp only [FB,AV.ren,Nat.reduceAdd,reduceCtorEq]
      exact⟨by rw [zat];rfl,.inr (by omega)⟩
     ·try simp only [FB,AV.ren,Nat.reduceAdd,reduceCtorEq]
      simp [zah,zaG,renL,zai,zag,zak i64 zag]
    | some q =>
     rw [ho] at hst
     try simp -implicitDefEqProofs only [LM2,eq_self,zaa,zab,Nat.zero_mul,lzS,Option.isSome_some,Option.getD_some,TB,SB,Int.reduceToNat,Nat.reduceAdd,Nat.reduceEqDiff,Nat.reduceLT,Nat.reduceMod,Nat.reducePow,Nat.reduceSub,if_true,reduceIte]
     refine zcZ i64 zjs rfl rfl T80 T80 (zfy _) T3 zdU (l:=zbq v x (F.take k)) (ys:=[q]) (m:=1) rfl rfl rfl (by omega) (by simp only [zaV];omega) ?_
     try simp -implicitDefEqProofs only [LM2,eq_self,zaa,zab,Nat.zero_mul,lzS,TB,SB,Int.reduceToNat,Nat.reduceAdd,Nat.reduceEqDiff,Nat.reduceLT,Nat.reduceMod,Nat.reducePow,Nat.reduceSub,if_true,reduceIte]
     refine⟨by unfold inI;omega,?_⟩
     rw [zal]
     refine⟨k+1,by (show k+1≤F.length);omega,by (show F.length - (k+1) < F.length - k);omega,?_⟩
     rw [hst]
     dsimp only
     rw [List.length_append]
     refine zaj (q:=[0,3]) rfl rfl (by decide) ?_ ?_
     ·try simp only [FB,AV.ren,Nat.reduceAdd,reduceCtorEq]
      exact⟨by rw [zat];rfl,.inr (by omega)⟩
     ·try simp only [FB,AV.ren,Nat.reduceAdd,reduceCtorEq]
      simp [-List.map_append,zah,zaG,renL,zai,zag,zak i64 zag]
   ·obtain rfl:k=F.length:=by omega
    have dl:decide ((F.length:Int) < (F.length:Int))=false:=decide_eq_false (by omega)
    rw [List.take_length]
    try simp -implicitDefEqProofs only [LM2,eq_self,zaa,zab,Nat.zero_mul,lzS,dl,TB,SB,Int.reduceToNat,Nat.reduceAdd,Nat.reduceEqDiff,Nat.reduceLT,Nat.reduceMod,Nat.reducePow,Nat.reduceSub,if_true,reduceIte]
    refine zfO rfl (by rw [List.length_map];omega) (zak i64 zag _ _) ?_
    rw [List.drop_zero,List.take_of_length_le (by rw [List.length_map];omega)]
  ·rw [decide_eq_false k4]
   try simp -implicitDefEqProofs only [LM2,eq_self,zaa,zab,Nat.zero_mul,lzS,TB,SB,Int.reduceToNat,Nat.reduceAdd,Nat.reduceEqDiff,Nat.reduceLT,Nat.reduceMod,Nat.reducePow,Nat.reduceSub,if_true,reduceIte]
   rw [za9]
   refine⟨Nat,fun k=>k≤F.length,fun k=>[.sl (v.flatMap nC) v.length,.bot,.bot,.bot,.bot,.ptr 0 0,.bot,.bot,.ref 1 0 (zbq v x (F.take k)).length 1,.bot,.bot,.bot,.bot,.bot,.bot,.bot,.bot,.bot,.bot,.bot,.bot,.bot,.bot,.bot,.bot,.bot,.bot,.bot,.bot,.sl (F.map i64) F.length,i64 F.length,i64 k,.bot,.bot,.bot,.bot,.bot,.bot,.bot,.bot,.bot,.bot,.bot,.bot,.bot,.bot,.bot,.bot,.bot],fun k=>[.rw [str x.key,i64 x.pos],.rw ((zbq v x (F.take k)).map i64)],fun k=>F.length - k,0,Nat.zero_le _,fits_frz 29 rfl rfl (by simp) (zer 8 1 rfl (zaj (q:=[0,2]) rfl rfl (by decide) ?_ ?_)),?_⟩
   ·try simp only [FB,AV.ren,Nat.reduceAdd,reduceCtorEq]
    exact⟨by rw [zat];rfl,by simp [zbq],⟨by rw [hF];rfl,by rw [hF];rfl⟩,.inr (by rw [hF];rfl),.inr rfl⟩
   ·try simp only [FB,AV.ren,Nat.reduceAdd,reduceCtorEq]
    simp [zah,zaG,renL,zai,zag,zbq]
   intro k hk
   have hk:k≤F.length:=hk
   dsimp only
   by_cases hlt:k < F.length
   ·have dl:decide ((k:Int) < (F.length:Int))=true:=decide_eq_true (by omega)
    have hst:=zf1 (v:=v) (x:=x) hlt
    have hsl:=zg0 v x F k
    obtain⟨n,hn,hn2⟩:=hfm (F.getD k 0) (by rw [List.getD_eq_getElem?_getD,List.getElem?_eq_getElem hlt];exact List.getElem_mem hlt)
    have hfo:=zjQ v n x hv hn2
    rw [hn,Int.toNat_natCast] at hst
    rw [zeM,optI_eq] at hfo
    try simp -implicitDefEqProofs only [LM2,eq_self,zaa,zab,Nat.zero_mul,lzS,dl,TB,SB,Int.reduceToNat,Nat.reduceAdd,Nat.reduceEqDiff,Nat.reduceLT,Nat.reduceMod,Nat.reducePow,Nat.reduceSub,if_true,reduceIte]
    refine⟨by omega,by omega,hlt,?_⟩
    rw [hn]
    refine hfo.pure (by simp [renL,AV.ren,zaJ,zat,zag,zai]) ?_
    rintro _ σ rfl
    refine⟨by simp [AEnd.noid,AV.ren,renL,zag,zap],?_⟩
    cases ho:zcF v n x with
    | none =>
     rw [ho] at hst
     try simp -implicitDefEqProofs only [LM2,eq_self,zaa,zab,Nat.zero_mul,lzS,Option.isSome_none,TB,SB,Int.reduceToNat,Nat.reduceAdd,Nat.reduceEqDiff,Nat.reduceLT,Nat.reduceMod,Nat.reducePow,Nat.reduceSub,if_true,reduceIte]
     refine⟨by unfold inI;omega,?_⟩
     rw [zal]
     refine⟨k+1,by (show k+1≤F.length);omega,by (show F.length - (k+1) < F.length - k);omega,?_⟩
     rw [hst]
     refine zaj (q:=[0,1]) rfl rfl (by decide) ?_ ?_
     ·try simp only [FB,AV.ren,Nat.reduceAdd,reduceCtorEq]
      exact⟨by rw [zat];rfl,.inr (by omega)⟩
     ·try simp only [FB,AV.ren,Nat.reduceAdd,reduceCtorEq]
      simp [zah,zaG,renL,zai,zag,zak i64 zag]
    | some q =>
     rw [ho] at hst
     try simp -implicitDefEqProofs only [LM2,eq_self,zaa,zab,Nat.zero_mul,lzS,Option.isSome_some,Option.getD_some,TB,SB,Int.reduceToNat,Nat.reduceAdd,Nat.reduceEqDiff,Nat.reduceLT,Nat.reduceMod,Nat.reducePow,Nat.reduceSub,if_true,reduceIte]
     refine zcZ i64 zjs rfl rfl T80 T80 (zfy _) T3 zdU (l:=zbq v x (F.take k)) (ys:=[q]) (m:=1) rfl rfl rfl (by omega) (by simp only [zaV];omega) ?_
     try simp -implicitDefEqProofs only [LM2,eq_self,zaa,zab,Nat.zero_mul,lzS,TB,SB,Int.reduceToNat,Nat.reduceAdd,Nat.reduceEqDiff,Nat.reduceLT,Nat.reduceMod,Nat.reducePow,Nat.reduceSub,if_true,reduceIte]
     refine⟨by unfold inI;omega,?_⟩
     rw [zal]
     refine⟨k+1,by (show k+1≤F.length);omega,by (show F.length - (k+1) < F.length - k);omega,?_⟩
     rw [hst]
     dsimp only
     rw [List.length_append]
     refine zaj (q:=[0,3]) rfl rfl (by decide) ?_ ?_
     ·try simp only [FB,AV.ren,Nat.reduceAdd,reduceCtorEq]
      exact⟨by rw [zat];rfl,.inr (by omega)⟩
     ·try simp only [FB,AV.ren,Nat.reduceAdd,reduceCtorEq]
      simp [-List.map_append,zah,zaG,renL,zai,zag,zak i64 zag]
   ·obtain rfl:k=F.length:=by omega
    have dl:decide ((F.length:Int) < (F.length:Int))=false:=decide_eq_false (by omega)
    rw [List.take_length]
    try simp -implicitDefEqProofs only [LM2,eq_self,zaa,zab,Nat.zero_mul,lzS,dl,TB,SB,Int.reduceToNat,Nat.reduceAdd,Nat.reduceEqDiff,Nat.reduceLT,Nat.reduceMod,Nat.reducePow,Nat.reduceSub,if_true,reduceIte]
    refine zfO rfl (by rw [List.length_map];omega) (zak i64 zag _ _) ?_
    rw [List.drop_zero,List.take_of_length_le (by rw [List.length_map];omega)]
end Go.Proofs.YtamcppdhkeiaiaaGreatDoor
end

section
namespace Go.Proofs.YtamcppdhkeiaiaaGreatDoor
open Go Go.Eng
theorem zc5 (e:TypeId) (cs:List AV) (m:Nat) (σ:zad) (KS:AV→zad→Prop):bs2 (some (tySl e)) 1 [(0,.sl cs m)] σ KS=KS (.ref σ.length 0 1 1) (σ++[.rw [.sl cs m]]):=by
 simp [bs2,tySl,zbW,zca,zbc,List.range_succ,one_sl,zfZ]
def ziB (v:List Nd) (ps:List Int) (j:Nat):List (List Nd):=(ps.take j).map fun q=>zc0 v q
def zdI (v:List Nd) (x:Pt) (ps:List Int):List Int:=ps.flatMap fun q=>zf0 v q.toNat x
def zc6 (v:List Nd) (l:List Pt):List Int:=l.foldl (fun ps x=>zdI v x ps) [0]
def eachR (v:List Nd) (s:List UInt8):List (List Nd) × Int:=if (za0 v s).2=0 then ((zc6 v (za0 v s).1).map fun q=>zc0 v q,0) else ([],(za0 v s).2)
theorem ziC {v:List Nd} {l:List Pt} {k:Nat} (hk:k < l.length):zc6 v (l.take (k+1))=zdI v (l.getD k pt0) (zc6 v (l.take k)):=by
 rw [zed pt0 hk]
 unfold zc6
 rw [List.foldl_append]
 rfl
theorem stepPs_take {v:List Nd} {x:Pt} {ps:List Int} {j:Nat} (hj:j < ps.length):zdI v x (ps.take (j+1))=zdI v x (ps.take j)++zf0 v (ps.getD j 0).toNat x:=by
 rw [zed 0 hj]
 unfold zdI
 rw [List.flatMap_append]
 simp
theorem stepPs_le (v:List Nd) (x:Pt) (ps:List Int) (j:Nat):(zdI v x (ps.take j)).length≤(zdI v x ps).length:=by
 conv=>rhs;rw [← List.take_append_drop j ps]
 unfold zdI
 rw [List.flatMap_append,List.length_append]
 omega
theorem stepPs_mem {v:List Nd} {x:Pt} {ps:List Int} {q:Int} (h:q∈zdI v x ps):∃ n:Nat,q=n∧n < v.length:=by
 unfold zdI at h
 rw [List.mem_flatMap] at h
 obtain⟨a,_,h⟩:=h
 exact spread_mem h
theorem zjf {v:List Nd} (h0:0 < v.length) {l:List Pt} {k:Nat} (hk:k≤l.length) {q:Int} (h:q∈zc6 v (l.take k)):∃ n:Nat,q=n∧n < v.length:=by
 cases k with
 | zero =>
  simp only [List.take_zero,zc6,List.foldl_nil,List.mem_singleton] at h
  exact⟨0,h,h0⟩
 | succ k =>
  rw [ziC (by omega)] at h
  exact stepPs_mem h
theorem asrcI {σ:zad} (l:List Int):asrc σ 1 (.sl (l.map i64) l.length)=some (l.map i64,l.length):=by
 simp [asrc,asl,List.take_of_length_le]
theorem PEach_ok (v:List Nd) (s:List UInt8) (hv:v.length≤1000000) (hs:s.length≤9223372036854775807) (hB:∀ k,k≤(za0 v s).1.length→(zc6 v ((za0 v s).1.take k)).length≤1000):ACalls Tryz.prog 21 [.sl (v.flatMap nC) v.length,str s] [] (fun y _=>y=.ret (.tup [.sl ((eachR v s).1.map slNs) (eachR v s).1.length,i64 (eachR v s).2])):=by
 refine ACalls.body T_ok Tryz.func21 (by kernel_rfl) rfl Tryz.ntmps21 (congrArg Array.toList Tryz.results21) ?_
 try simp -implicitDefEqProofs only [LM2,eq_self,zaa,zab,Nat.zero_mul,lzS,zc5,TB,SB,Int.reduceToNat,Nat.reduceAdd,Nat.reduceEqDiff,Nat.reduceLT,Nat.reduceMod,Nat.reducePow,Nat.reduceSub,if_true,reduceIte]
 refine(zhr v s hv hs).pure (by simp [renL,AV.ren,zaJ,zat,zai]) ?_
 rintro _ σ rfl
 refine⟨by simp [AEnd.noid,AV.ren,renL,zaT,zag],?_⟩
 rw [zfc]
 have hl:=zfv v s
 have hr:eachR v s=if (za0 v s).2=0 then ((zc6 v (za0 v s).1).map fun q=>zc0 v q,0) else ([],(za0 v s).2):=rfl
 have hok:=@zgv v s
 generalize za0 v s=X at hl hr hok hB ⊢
 obtain⟨l,e⟩:=X
 dsimp only at hl hr hok hB ⊢
 by_cases he:e=0
 ·have de:=decide_eq_true he
  have hn:=zeC (hok he).1
  rw [if_pos he] at hr
  try simp -implicitDefEqProofs only [LM2,eq_self,zaa,zab,Nat.zero_mul,lzS,zc5,de,TB,SB,Int.reduceToNat,Nat.reduceAdd,Nat.reduceEqDiff,Nat.reduceLT,Nat.reduceMod,Nat.reducePow,Nat.reduceSub,if_true,reduceIte]
  rw [za9]
  refine⟨Nat,fun k=>k≤l.length,fun k=>[.sl (v.flatMap nC) v.length,.bot,.bot,.bot,.bot,.bot,.sl (l.flatMap ptC) l.length,.bot,.ref 0 0 (zc6 v (l.take k)).length 1,.bot,.bot,.bot,.bot,.bot,.bot,.bot,.bot,.bot,.bot,.bot,.bot,.bot,.bot,.bot,.bot,.bot,.bot,.sl (l.flatMap ptC) l.length,i64 l.length,i64 k,.bot,.bot,.bot,.bot,.bot,.bot,.bot,.bot,.bot,.bot,.bot,.bot,.bot,.bot,.bot,.bot,.bot,.bot,.bot,.bot,.bot,.bot,.bot,.bot,.bot,.bot,.bot,.bot,.bot,.bot,.bot,.bot],fun k=>[.rw ((zc6 v (l.take k)).map i64)],fun k=>l.length - k,0,Nat.zero_le _,zaj (q:=[0]) rfl rfl (by decide) ?_ ?_,?_⟩
  ·try simp only [FB,AV.ren,Nat.reduceAdd,reduceCtorEq]
   exact⟨by rw [zat];rfl,by rw [zaR];rfl,rfl,by rw [zaR];rfl,.inr rfl⟩
  ·try simp only [FB,AV.ren,Nat.reduceAdd,reduceCtorEq]
   rfl
  intro k hk
  have hk:k≤l.length:=hk
  dsimp only
  by_cases hlt:k < l.length
  ·have dl:decide ((k:Int) < (l.length:Int))=true:=decide_eq_true (by omega)
   have hpt:=ziC (v:=v) hlt
   have hb1:=hB (k+1) hlt
   rw [hpt] at hb1
   have hm:=fun q=>@zjf v hn.1 l k hk q
   have hbk:=hB k hk
   generalize zc6 v (l.take k)=ps at hpt hb1 hm hbk ⊢
   try simp -implicitDefEqProofs only [LM2,eq_self,zaa,zab,Nat.zero_mul,lzS,zc5,dl,TB,SB,Int.reduceToNat,Nat.reduceAdd,Nat.reduceEqDiff,Nat.reduceLT,Nat.reduceMod,Nat.reducePow,Nat.reduceSub,if_true,reduceIte]
   refine⟨by omega,by omega,Nat.le_refl _,hlt,?_⟩
   generalize l.getD k pt0=x at hb1 hpt ⊢
   rw [za9]
   refine⟨Nat,fun j=>j≤ps.length,fun j=>[.sl (v.flatMap nC) v.length,.bot,.bot,.bot,.bot,.bot,.sl (l.flatMap ptC) l.length,.bot,.bot,.bot,.ptr 1 0,.ref 2 0 (zdI v x (ps.take j)).length 1,.bot,.bot,.bot,.bot,.bot,.bot,.bot,.bot,.bot,.bot,.bot,.bot,.bot,.bot,.bot,.sl (l.flatMap ptC) l.length,i64 l.length,i64 k,.bot,.bot,.bot,.ref 0 0 ps.length 1,i64 ps.length,i64 j,.bot,.bot,.bot,.bot,.bot,.bot,.bot,.bot,.bot,.bot,.bot,.bot,.bot,.bot,.bot,.bot,.bot,.bot,.bot,.bot,.bot,.bot,.bot,.bot,.bot,.bot],fun j=>[.rw (ps.map i64),.rw [str x.key,i64 x.pos],.rw ((zdI v x (ps.take j)).map i64)],fun j=>ps.length - j,0,Nat.zero_le _,zer 11 1 rfl (zaj (q:=[0,1,2]) rfl rfl (by decide) ?_ ?_),?_⟩
   ·try simp only [FB,AV.ren,Nat.reduceAdd,reduceCtorEq]
    exact⟨by rw [zat];rfl,by rw [zaR];rfl,by simp [zdI],by rw [zaR];rfl,.inr rfl⟩
   ·try simp only [FB,AV.ren,Nat.reduceAdd,reduceCtorEq]
    simp [zah,zaG,renL,zai,zag,zak i64 zag,zdI]
   intro j hj
   have hj:j≤ps.length:=hj
   dsimp only
   by_cases jlt:j < ps.length
   ·have dj:decide ((j:Int) < (ps.length:Int))=true:=decide_eq_true (by omega)
    have hst:=stepPs_take (v:=v) (x:=x) jlt
    have hle:=stepPs_le v x ps (j+1)
    obtain⟨n,hn1,hn2⟩:=hm (ps.getD j 0) (by rw [List.getD_eq_getElem?_getD,List.getElem?_eq_getElem jlt];exact List.getElem_mem jlt)
    have hso:=spread_ok v n x hv hn2
    rw [hn1,Int.toNat_natCast] at hst
    rw [hst,List.length_append] at hle
    rw [zeM] at hso
    try simp -implicitDefEqProofs only [LM2,eq_self,zaa,zab,Nat.zero_mul,lzS,zc5,dj,TB,SB,Int.reduceToNat,Nat.reduceAdd,Nat.reduceEqDiff,Nat.reduceLT,Nat.reduceMod,Nat.reducePow,Nat.reduceSub,if_true,reduceIte]
    refine⟨by omega,by omega,jlt,?_⟩
    rw [hn1]
    refine hso.pure (by simp [renL,AV.ren,zaJ,zat,zag,zai]) ?_
    rintro _ σ rfl
    refine⟨by simp [AEnd.noid,AV.ren,zak i64 zag],?_⟩
    try simp -implicitDefEqProofs only [LM2,eq_self,zaa,zab,Nat.zero_mul,lzS,zc5,TB,SB,Int.reduceToNat,Nat.reduceAdd,Nat.reduceEqDiff,Nat.reduceLT,Nat.reduceMod,Nat.reducePow,Nat.reduceSub,if_true,reduceIte]
    refine zcZ i64 zjs rfl rfl T80 T80 (zfy _) T3 zdU (l:=zdI v x (ps.take j)) (ys:=zf0 v n x) (m:=(zf0 v n x).length) rfl rfl (asrcI _) (by omega) (by simp only [zaV];omega) ?_
    try simp -implicitDefEqProofs only [LM2,eq_self,zaa,zab,Nat.zero_mul,lzS,zc5,TB,SB,Int.reduceToNat,Nat.reduceAdd,Nat.reduceEqDiff,Nat.reduceLT,Nat.reduceMod,Nat.reducePow,Nat.reduceSub,if_true,reduceIte]
    refine⟨by unfold inI;omega,?_⟩
    rw [zal]
    refine⟨j+1,by (show j+1≤ps.length);omega,by (show ps.length - (j+1) < ps.length - j);omega,?_⟩
    rw [hst,List.length_append]
    refine zaj (q:=[0,1,3]) rfl rfl (by decide) ?_ ?_
    ·try simp only [FB,AV.ren,Nat.reduceAdd,reduceCtorEq]
     exact⟨by rw [zat];rfl,by rw [zaR];rfl,by rw [zaR];rfl,.inr (by omega)⟩
    ·try simp only [FB,AV.ren,Nat.reduceAdd,reduceCtorEq]
     simp [-List.map_append,zah,zaG,renL,zai,zag,zak i64 zag]
   ·obtain rfl:j=ps.length:=by omega
    have dj:decide ((ps.length:Int) < (ps.length:Int))=false:=decide_eq_false (by omega)
    rw [List.take_length]
    try simp -implicitDefEqProofs only [LM2,eq_self,zaa,zab,Nat.zero_mul,lzS,zc5,dj,TB,SB,Int.reduceToNat,Nat.reduceAdd,Nat.reduceEqDiff,Nat.reduceLT,Nat.reduceMod,Nat.reducePow,Nat.reduceSub,if_true,reduceIte]
    refine⟨by unfold inI;omega,?_⟩
    rw [zal]
    refine⟨k+1,by (show k+1≤l.length);omega,by (show l.length - (k+1) < l.length - k);omega,?_⟩
    rw [hpt]
    refine zaj (q:=[2]) rfl rfl (by decide) ?_ ?_
    ·try simp only [FB,AV.ren,Nat.reduceAdd,reduceCtorEq]
     exact⟨by rw [zat];rfl,by rw [zaR];rfl,by rw [zaR];rfl,.inr (by omega)⟩
    ·try simp only [FB,AV.ren,Nat.reduceAdd,reduceCtorEq]
  ·obtain rfl:k=l.length:=by omega
   have dl:decide ((l.length:Int) < (l.length:Int))=false:=decide_eq_false (by omega)
   have hm:=fun q=>@zjf v hn.1 l l.length (Nat.le_refl _) q
   have hbk:=hB l.length (Nat.le_refl _)
   rw [List.take_length] at hm hbk ⊢
   generalize zc6 v l=ps at hr hm hbk ⊢
   try simp -implicitDefEqProofs only [LM2,eq_self,zaa,zab,Nat.zero_mul,lzS,zc5,dl,TB,SB,Int.reduceToNat,Nat.reduceAdd,Nat.reduceEqDiff,Nat.reduceLT,Nat.reduceMod,Nat.reducePow,Nat.reduceSub,if_true,reduceIte]
   rw [za9]
   refine⟨Nat,fun j=>j≤ps.length,fun j=>[.sl (v.flatMap nC) v.length,.bot,.bot,.bot,.bot,.bot,.bot,.bot,.bot,.bot,.bot,.bot,.bot,.bot,.ref 1 0 (ziB v ps j).length 1,.bot,.bot,.bot,.bot,.bot,.bot,.bot,.bot,.bot,.bot,.bot,.bot,.bot,.bot,.bot,.bot,.bot,.bot,.bot,.bot,.bot,.bot,.bot,.bot,.bot,.bot,.bot,.bot,.bot,.bot,.bot,.bot,.bot,.ref 0 0 ps.length 1,i64 ps.length,i64 j,.bot,.bot,.bot,.bot,.bot,.bot,.bot,.bot,.bot,.bot,.bot],fun j=>[.rw (ps.map i64),.rw ((ziB v ps j).map slNs)],fun j=>ps.length - j,0,Nat.zero_le _,zer 14 1 rfl (zaj (q:=[0,1]) rfl rfl (by decide) ?_ ?_),?_⟩
   ·try simp only [FB,AV.ren,Nat.reduceAdd,reduceCtorEq]
    exact⟨by rw [zat];rfl,rfl,.inr rfl⟩
   ·try simp only [FB,AV.ren,Nat.reduceAdd,reduceCtorEq]
    simp [zah,zaG,renL,zak i64 zag,ziB]
   intro j hj
   have hj:j≤ps.length:=hj
   dsimp only
   by_cases jlt:j < ps.length
   ·have dj:decide ((j:Int) < (ps.length:Int))=true:=decide_eq_true (by omega)
    obtain⟨n,hn1,hn2⟩:=hm (ps.getD j 0) (by rw [List.getD_eq_getElem?_getD,List.getElem?_eq_getElem jlt];exact List.getElem_mem jlt)
    have hst:ziB v ps (j+1)=ziB v ps j++[zc0 v n]:=by unfold ziB;rw [zed 0 jlt,List.map_append,hn1];rfl
    have hln:(ziB v ps j).length=j:=by unfold ziB;rw [List.length_map,List.length_take];omega
    try simp -implicitDefEqProofs only [LM2,eq_self,zaa,zab,Nat.zero_mul,lzS,zc5,dj,TB,SB,Int.reduceToNat,Nat.reduceAdd,Nat.reduceEqDiff,Nat.reduceLT,Nat.reduceMod,Nat.reducePow,Nat.reduceSub,if_true,reduceIte]
    refine⟨by omega,by omega,jlt,?_⟩
    rw [hn1]
    refine(Sub_ok v n hv).pure (by simp [renL,AV.ren,zaJ,zat,zag]) ?_
    rintro _ σ ⟨rfl,rfl⟩
    refine⟨by simp [AEnd.noid,AV.ren,zat],?_⟩
    try simp -implicitDefEqProofs only [LM2,eq_self,zaa,zab,Nat.zero_mul,lzS,zc5,TB,SB,Int.reduceToNat,Nat.reduceAdd,Nat.reduceEqDiff,Nat.reduceLT,Nat.reduceMod,Nat.reducePow,Nat.reduceSub,if_true,reduceIte]
    refine zcZ slNs one_slNs rfl rfl T49 T49 (zfy _) T37 (Go.Eng.one_sl _) (l:=ziB v ps j) (ys:=[zc0 v n]) (m:=1) rfl rfl rfl (by omega) (by simp only [tySl];omega) ?_
    try simp -implicitDefEqProofs only [LM2,eq_self,zaa,zab,Nat.zero_mul,lzS,zc5,TB,SB,Int.reduceToNat,Nat.reduceAdd,Nat.reduceEqDiff,Nat.reduceLT,Nat.reduceMod,Nat.reducePow,Nat.reduceSub,if_true,reduceIte]
    refine⟨by unfold inI;omega,?_⟩
    rw [zal]
    refine⟨j+1,by (show j+1≤ps.length);omega,by (show ps.length - (j+1) < ps.length - j);omega,?_⟩
    rw [hst,List.length_append]
    refine zaj (q:=[0,3]) rfl rfl (by decide) ?_ ?_
    ·try simp only [FB,AV.ren,Nat.reduceAdd,reduceCtorEq]
     exact⟨by rw [zat];rfl,.inr (by omega)⟩
    ·try simp only [FB,AV.ren,Nat.reduceAdd,reduceCtorEq]
     simp [-List.map_append,zah,zaG,zco]
   ·obtain rfl:j=ps.length:=by omega
    have dj:decide ((ps.length:Int) < (ps.length:Int))=false:=decide_eq_false (by omega)
    have hsv:ziB v ps ps.length=ps.map fun q=>zc0 v q:=by rw [ziB,List.take_length]
    try simp -implicitDefEqProofs only [LM2,eq_self,zaa,zab,Nat.zero_mul,lzS,zc5,dj,TB,SB,Int.reduceToNat,Nat.reduceAdd,Nat.reduceEqDiff,Nat.reduceLT,Nat.reduceMod,Nat.reducePow,Nat.reduceSub,if_true,reduceIte]
    rw [hsv]
    generalize ps.map (fun q=>zc0 v q)=L at hr ⊢
    rw [hr]
    exact zfo [1] (.tup [.sl (L.map slNs) L.length,i64 0]) ⟨_,rfl,_,_,rfl,frz_NsR rfl,_,_,rfl,.inl rfl,rfl⟩ ⟨[],_,[],rfl,rfl,by decide,by simp [AV.ren,renL,zco,zag],trivial,rfl⟩
 ·have de:=decide_eq_false he
  try simp -implicitDefEqProofs only [LM2,eq_self,zaa,zab,Nat.zero_mul,lzS,zc5,de,TB,SB,Int.reduceToNat,Nat.reduceAdd,Nat.reduceEqDiff,Nat.reduceLT,Nat.reduceMod,Nat.reducePow,Nat.reduceSub,if_true,reduceIte]
  rw [if_neg he] at hr
  rw [hr]
  refine zfo [] (.tup [.sl (([]:List (List Nd)).map slNs) 0,i64 e]) ⟨_,rfl,_,_,rfl,.inr ⟨rfl,rfl⟩,_,_,rfl,.inl rfl,rfl⟩ ⟨[],_,[],rfl,rfl,by decide,by simp [AV.ren,renL,zag],trivial,rfl⟩
end Go.Proofs.YtamcppdhkeiaiaaGreatDoor
end

