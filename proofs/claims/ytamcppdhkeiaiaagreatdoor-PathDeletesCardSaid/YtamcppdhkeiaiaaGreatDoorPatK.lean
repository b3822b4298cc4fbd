/-
  The law's walk, what comes in, and what the listed variables hold. No condition.
-/
import Derived.Test.YtamcppdhkeiaiaaGreatDoorPatJ
import Derived.WalkKit
import Derived.ProofKit
import Derived.OpenShut
import Derived.ShutString
import Derived.SliceStrings
import Derived.LaidMore
import Derived.Lay
import Derived.LaidHandle
import Derived.Stop.LaidErr
import Derived.Lib.LaidTab
import Derived.Stop.Joined
import Derived.HandedShaped
import Derived.Shelf.Strings.Shaped
set_option linter.unusedSimpArgs false
set_option linter.unusedVariables false
set_option linter.unusedSectionVars false
section
namespace Go.Proofs.YtamcppdhkeiaiaaGreatDoor
open Go Go.Eng
theorem lead_last {v:List Nd} {l:List Pt} (h:l≠[]):zcw v (some 0) l=(zcw v (some 0) (l.take (l.length - 1))).bind fun p=>zcr v p (l.getD (l.length - 1) pt0):=by
 have hl:=List.length_pos_iff.2 h
 have:=lead_take (v:=v) (l:=l) (k:=l.length - 1) (by omega)
 rwa [show l.length - 1+1=l.length by omega,List.take_length] at this
theorem zhC {v:List Nd} {s:List UInt8} {l:List Pt} (h0:zaI v=0) (hs:zcz s=(l,0)):zaV v s=(l,0):=by rw [zaV,if_pos h0,hs]
theorem del_eq {v:List Nd} {s:List UInt8} {l:List Pt} (h0:zaI v=0) (hs:zcz s=(l,0)) (hl:l≠[]):delR v s=zby (cutV v) v l:=by
 rw [delR,zhC h0 hs,if_pos rfl,if_neg hl]
theorem get_eq {v:List Nd} {s:List UInt8} {l:List Pt} (h0:zaI v=0) (hs:zcz s=(l,0)):getR v s=match zcw v (some 0) l with | some p=>(zcO v p,0) | none=>([],6):=by
 rw [getR,zhC h0 hs,if_pos rfl]
 try rfl
theorem del_cases {v x:List Nd} {s:List UInt8} {l:List Pt} (h0:zaI v=0) (hs:zcz s=(l,0)) (hl:l≠[]) :
  (∃ a w,getR v s=(a,0)∧delR v s=(w,0)∧zaI w=0∧w.length+a.length+(if (l.getD (l.length - 1) pt0).pos < 0 then 1 else 0)=v.length∧((l.getD (l.length - 1) pt0).pos < 0→getR w s=([],6)))
  ∨ (getR v s=([],6)∧delR v s=([],6)∧(¬ (setR v s x).2=0∨(setR v s x).2=0∧zaI (setR v s x).1=0∧delR (setR v s x).1 s=(v,0))):=by
 have hlast:=fun w=>lead_last (v:=w) hl
 have h1:=zdc h0
 have hset:setR v s x=if zaI x=0 then zby (putV v x) v l else ([],zaI x):=by
  rw [setR,zhC h0 hs,if_pos rfl,if_neg hl]
 rw [del_eq h0 hs hl,get_eq h0 hs,hlast,hset]
 generalize hl':l.take (l.length - 1)=l' at hlast ⊢
 generalize hla:l.getD (l.length - 1) pt0=la at hlast ⊢
 cases hp:zcw v (some 0) l' with
 | none =>
  refine .inr ⟨rfl,?_,.inl ?_⟩
  ·rw [zby,hl',hp]
  ·by_cases hx:zaI x=0
   ·rw [if_pos hx,zby,hl',hp]
    exact fun h=>by cases h
   ·rw [if_neg hx]
    exact hx
 | some p =>
  have hpl:=zkb (by omega) l' (some 0) (fun q hq=>by cases hq;omega) p hp
  rw [Option.bind_some]
  have hcd:zby (cutV v) v l=if (cutV v p la).2=0 then (if zaI (cutV v p la).1=0 then ((cutV v p la).1,0) else ([],zaI (cutV v p la).1)) else ([],(cutV v p la).2):=by
   rw [zby,hl',hp,hla]
  have hcp:zby (putV v x) v l=if (putV v x p la).2=0 then (if zaI (putV v x p la).1=0 then ((putV v x p la).1,0) else ([],zaI (putV v x p la).1)) else ([],(putV v x p la).2):=by
   rw [zby,hl',hp,hla]
  rw [hcd,hcp]
  cases hf:zcr v p la with
  | some kid =>
   obtain⟨g1,g2,g3,g4,g5⟩:=cut_good h0 hp hf
   refine .inl ⟨_,_,rfl,?_,g1,g2,fun hneg=>?_⟩
   ·rw [if_pos g5,if_pos g1]
   ·rw [get_eq g1 hs,hlast,g3,Option.bind_some,g4 hneg]
  | none =>
   have hc6:cutV v p la=([],6):=by rw [cutV,hf]
   refine .inr ⟨rfl,?_,?_⟩
   ·rw [hc6]
    rfl
   ·by_cases hx:zaI x=0
    ·rw [if_pos hx]
     by_cases hq:(putV v x p la).2=0
     ·rw [if_pos hq]
      by_cases hy:zaI (putV v x p la).1=0
      ·obtain⟨k1,k2⟩:=put_cut h0 hx hp hpl hf hq hy
       refine .inr ⟨by rw [if_pos hy],by rw [if_pos hy];exact hy,?_⟩
       rw [if_pos hy]
       dsimp only
       rw [del_eq hy hs hl,zby,hl',k1]
       dsimp only
       rw [hla,k2]
       dsimp only
       rw [if_pos rfl,if_pos h0]
      ·left
       rw [if_neg hy]
       exact hy
     ·left
      rw [if_neg hq]
      exact hq
    ·left
     rw [if_neg hx]
     exact hx
theorem del_bad {v:List Nd} {s:List UInt8} (h:¬ (zcz s).2=0∨¬ zaI v=0):¬ (zaV v s).2=0:=by
 unfold zaV
 by_cases h0:zaI v=0
 ·rw [if_pos h0]
  rcases h with h | h
  ·exact h
  ·exact absurd h0 h
 ·rw [if_neg h0]
  exact h0
set_option maxRecDepth 20000 in
set_option maxHeartbeats 1000000 in
theorem PathDeletes_ok (v:List Nd) (s:List UInt8) (x:List Nd) (hv:v.length≤9223372036854775807) (hx:x.length≤9223372036854775807):ACalls Tryz.prog 5 [.sl (v.flatMap nC) v.length,str s,.sl (x.flatMap nC) x.length] [] (fun y _=>y=.ret (bl true)):=by
 refine ACalls.body T_ok Tryz.func5 (by kernel_rfl) rfl Tryz.ntmps5 (congrArg Array.toList Tryz.results5) ?_
 try simp -implicitDefEqProofs only [LM4,eq_self,zaa,zab,Nat.zero_mul,lzS,TB,SB,Int.reduceToNat,Nat.reduceAdd,Nat.reduceEqDiff,Nat.reduceLT,Nat.reduceMod,Nat.reducePow,Nat.reduceSub,if_true,reduceIte]
 refine works11_ok.pure rfl ?_
 rintro _ σ rfl
 refine⟨zao _ _,?_⟩
 try simp -implicitDefEqProofs only [LM4,eq_self,zaa,zab,Nat.zero_mul,lzS,TB,SB,Int.reduceToNat,Nat.reduceAdd,Nat.reduceEqDiff,Nat.reduceLT,Nat.reduceMod,Nat.reducePow,Nat.reduceSub,if_true,reduceIte]
 refine(Few_ok v hv).pure (by simp [renL,AV.ren,zap]) ?_
 rintro _ σ rfl
 refine⟨zao _ _,?_⟩
 cases hfv:fewB v with
 | false =>
  try simp -implicitDefEqProofs only [LM4,eq_self,zaa,zab,Nat.zero_mul,lzS,TB,SB,Int.reduceToNat,Nat.reduceAdd,Nat.reduceEqDiff,Nat.reduceLT,Nat.reduceMod,Nat.reducePow,Nat.reduceSub,if_true,reduceIte]
  exact zaR rfl
 | true =>
  try simp -implicitDefEqProofs only [LM4,eq_self,zaa,zab,Nat.zero_mul,lzS,TB,SB,Int.reduceToNat,Nat.reduceAdd,Nat.reduceEqDiff,Nat.reduceLT,Nat.reduceMod,Nat.reducePow,Nat.reduceSub,if_true,reduceIte]
  refine(Few_ok x hx).pure (by simp [renL,AV.ren,zap]) ?_
  rintro _ σ rfl
  refine⟨zao _ _,?_⟩
  cases hfx:fewB x with
  | false =>
   try simp -implicitDefEqProofs only [LM4,eq_self,zaa,zab,Nat.zero_mul,lzS,TB,SB,Int.reduceToNat,Nat.reduceAdd,Nat.reduceEqDiff,Nat.reduceLT,Nat.reduceMod,Nat.reducePow,Nat.reduceSub,if_true,reduceIte]
   exact zaR rfl
  | true =>
   have hv1:v.length≤130:=by
    unfold fewB at hfv
    rw [Bool.and_eq_true] at hfv
    exact of_decide_eq_true hfv.1
   have hx1:x.length≤130:=by
    unfold fewB at hfx
    rw [Bool.and_eq_true] at hfx
    exact of_decide_eq_true hfx.1
   by_cases h140:140 < (s.length:Int)
   ·have d:=decide_eq_true h140
    try simp -implicitDefEqProofs only [LM4,eq_self,zaa,zab,Nat.zero_mul,lzS,d,TB,SB,Int.reduceToNat,Nat.reduceAdd,Nat.reduceEqDiff,Nat.reduceLT,Nat.reduceMod,Nat.reducePow,Nat.reduceSub,if_true,reduceIte]
    exact zaR rfl
   ·have d:=decide_eq_false h140
    have hs:s.length≤9223372036854775807:=by omega
    try simp -implicitDefEqProofs only [LM4,eq_self,zaa,zab,Nat.zero_mul,lzS,d,TB,SB,Int.reduceToNat,Nat.reduceAdd,Nat.reduceEqDiff,Nat.reduceLT,Nat.reduceMod,Nat.reducePow,Nat.reduceSub,if_true,reduceIte]
    refine(ziI v s (by omega) hs).pure (by simp [renL,AV.ren,zap,zai]) ?_
    rintro _ σ rfl
    refine⟨by simp [AEnd.noid,AV.ren,renL,zcp,zag],?_⟩
    try simp -implicitDefEqProofs only [LM4,eq_self,zaa,zab,Nat.zero_mul,lzS,TB,SB,Int.reduceToNat,Nat.reduceAdd,Nat.reduceEqDiff,Nat.reduceLT,Nat.reduceMod,Nat.reducePow,Nat.reduceSub,if_true,reduceIte]
    refine(PDel_ok v s (by omega) hs).pure (by simp [renL,AV.ren,zap,zai]) ?_
    rintro _ σ rfl
    refine⟨by simp [AEnd.noid,AV.ren,renL,zcp,zag],?_⟩
    try simp -implicitDefEqProofs only [LM4,eq_self,zaa,zab,Nat.zero_mul,lzS,TB,SB,Int.reduceToNat,Nat.reduceAdd,Nat.reduceEqDiff,Nat.reduceLT,Nat.reduceMod,Nat.reducePow,Nat.reduceSub,if_true,reduceIte]
    refine(zhu s hs).pure (by simp [renL,zai]) ?_
    rintro _ σ rfl
    refine⟨by simp [AEnd.noid,AV.ren,renL,zb8,zag],?_⟩
    have hbad:(¬ (zcz s).2=0∨¬ zaI v=0)→∃ e:Int,¬ e=0∧delR v s=([],e):=fun h=>⟨_,del_bad h,by rw [delR,if_neg (del_bad h)]⟩
    have hpl:=ziH s
    generalize hP:zcz s=P at hbad hpl ⊢
    unfold slN
    obtain⟨l,g⟩:=P
    dsimp only at hbad hpl ⊢
    by_cases hg:g=0
    ·have dg:=decide_eq_true hg
     subst hg
     try simp -implicitDefEqProofs only [LM4,eq_self,zaa,zab,Nat.zero_mul,lzS,dg,TB,SB,Int.reduceToNat,Nat.reduceAdd,Nat.reduceEqDiff,Nat.reduceLT,Nat.reduceMod,Nat.reducePow,Nat.reduceSub,if_true,reduceIte]
     refine(zeH v (by omega)).pure (by simp [renL,AV.ren,zaJ,zap]) ?_
     rintro _ σ ⟨rfl,rfl⟩
     refine⟨zag _ _,?_⟩
     by_cases he:zaI v=0
     ·have de:=decide_eq_true he
      rw [ziy]
      by_cases hl0:l=[]
      ·subst hl0
       have hd:delR v s=([],9):=by rw [delR,zhC he hP,if_pos rfl,if_pos rfl]
       rw [hd]
       try simp -implicitDefEqProofs only [LM4,eq_self,zaa,zab,Nat.zero_mul,lzS,de,TB,SB,Int.reduceToNat,Nat.reduceAdd,Nat.reduceEqDiff,Nat.reduceLT,Nat.reduceMod,Nat.reducePow,Nat.reduceSub,if_true,reduceIte]
       exact⟨fun _=>zaR rfl,fun h=>absurd rfl h⟩
      ·have hlen:=List.length_pos_iff.2 hl0
       have d0:decide ((l.length:Int)=0)=false:=decide_eq_false (by omega)
       rcases del_cases (x:=x) he hP hl0 with ⟨a,w,h1,h2,h3,h4,h5⟩ | ⟨h1,h2,h3⟩
       ·rw [h1,h2]
        have e1:((l.length:Int) - 1).toNat=l.length - 1:=by omega
        have hw:=zdc h3
        have hn:=zdc he
        try simp -implicitDefEqProofs only [LM4,eq_self,zaa,zab,Nat.zero_mul,lzS,de,d0,TB,SB,Int.reduceToNat,Nat.reduceAdd,Nat.reduceEqDiff,Nat.reduceLT,Nat.reduceMod,Nat.reducePow,Nat.reduceSub,if_true,reduceIte]
        refine⟨by unfold inI;omega,by omega,by omega,Nat.le_refl _,by omega,fun h=>?_,fun h=>?_⟩
        ·rw [e1] at h
         rw [if_pos h] at h4
         refine⟨by unfold inI;omega,?_⟩
         have hG:=ziI w s (by omega) hs
         rw [h5 h] at hG
         refine hG.pure (by simp [renL,AV.ren,zap,zai]) ?_
         rintro _ σ rfl
         refine⟨by simp [AEnd.noid,AV.ren,renL,zcp,zag],?_⟩
         try simp -implicitDefEqProofs only [LM4,eq_self,zaa,zab,Nat.zero_mul,lzS,TB,SB,Int.reduceToNat,Nat.reduceAdd,Nat.reduceEqDiff,Nat.reduceLT,Nat.reduceMod,Nat.reducePow,Nat.reduceSub,if_true,reduceIte]
         refine(zeH w (by omega)).pure (by simp [renL,AV.ren,zaJ,zap]) ?_
         rintro _ σ ⟨rfl,rfl⟩
         refine⟨zag _ _,?_⟩
         have dw:=decide_eq_true h3
         have dl:decide ((w.length:Int)=(v.length:Int) - ((a.length:Int)+1))=true:=decide_eq_true (by omega)
         try simp -implicitDefEqProofs only [LM4,eq_self,zaa,zab,Nat.zero_mul,lzS,dw,TB,SB,Int.reduceToNat,Nat.reduceAdd,Nat.reduceEqDiff,Nat.reduceLT,Nat.reduceMod,Nat.reducePow,Nat.reduceSub,if_true,reduceIte]
         refine⟨by unfold inI;omega,?_⟩
         rw [dl]
         exact zaR rfl
        ·rw [e1] at h
         rw [if_neg h] at h4
         refine(zeH w (by omega)).pure (by simp [renL,AV.ren,zaJ,zap]) ?_
         rintro _ σ ⟨rfl,rfl⟩
         refine⟨zag _ _,?_⟩
         have dw:=decide_eq_true h3
         have dl:decide ((w.length:Int)=(v.length:Int) - (a.length:Int))=true:=decide_eq_true (by omega)
         try simp -implicitDefEqProofs only [LM4,eq_self,zaa,zab,Nat.zero_mul,lzS,dw,TB,SB,Int.reduceToNat,Nat.reduceAdd,Nat.reduceEqDiff,Nat.reduceLT,Nat.reduceMod,Nat.reducePow,Nat.reduceSub,if_true,reduceIte]
         refine⟨by unfold inI;omega,?_⟩
         rw [dl]
         exact zaR rfl
       ·rw [h1,h2]
        try simp -implicitDefEqProofs only [LM4,eq_self,zaa,zab,Nat.zero_mul,lzS,de,d0,TB,SB,Int.reduceToNat,Nat.reduceAdd,Nat.reduceEqDiff,Nat.reduceLT,Nat.reduceMod,Nat.reducePow,Nat.reduceSub,if_true,reduceIte]
        refine⟨fun h=>absurd h (by decide),fun _=>?_⟩
        refine(PSet_ok v x s (by omega) (by omega) hs).pure (by simp [renL,AV.ren,zap,zai]) ?_
        rintro _ σ rfl
        refine⟨by simp [AEnd.noid,AV.ren,renL,zcp,zag],?_⟩
        rcases h3 with h3 | ⟨h3,h4,h5⟩
        ·have d3:=decide_eq_false h3
         try simp -implicitDefEqProofs only [LM4,eq_self,zaa,zab,Nat.zero_mul,lzS,d3,TB,SB,Int.reduceToNat,Nat.reduceAdd,Nat.reduceEqDiff,Nat.reduceLT,Nat.reduceMod,Nat.reducePow,Nat.reduceSub,if_true,reduceIte]
         exact zaR rfl
        ·have d3:=decide_eq_true h3
         have hy:=zdc h4
         try simp -implicitDefEqProofs only [LM4,eq_self,zaa,zab,Nat.zero_mul,lzS,d3,TB,SB,Int.reduceToNat,Nat.reduceAdd,Nat.reduceEqDiff,Nat.reduceLT,Nat.reduceMod,Nat.reducePow,Nat.reduceSub,if_true,reduceIte]
         have hD:=PDel_ok (setR v s x).1 s (by omega) hs
         rw [h5] at hD
         unfold slN
         refine hD.pure (by simp [renL,AV.ren,zap,zai]) ?_
         rintro _ σ rfl
         refine⟨by simp [AEnd.noid,AV.ren,renL,zcp,zag],?_⟩
         unfold slN
         try simp -implicitDefEqProofs only [LM4,eq_self,zaa,zab,Nat.zero_mul,lzS,TB,SB,Int.reduceToNat,Nat.reduceAdd,Nat.reduceEqDiff,Nat.reduceLT,Nat.reduceMod,Nat.reducePow,Nat.reduceSub,if_true,reduceIte]
         refine(Same_ok v v (by omega)).pure (by simp [renL,AV.ren,zap]) ?_
         rintro _ σ ⟨rfl,rfl⟩
         refine⟨zao _ _,?_⟩
         rw [decide_eq_true (rfl:v=v)]
         try simp -implicitDefEqProofs only [LM4,eq_self,zaa,zab,Nat.zero_mul,lzS,TB,SB,Int.reduceToNat,Nat.reduceAdd,Nat.reduceEqDiff,Nat.reduceLT,Nat.reduceMod,Nat.reducePow,Nat.reduceSub,if_true,reduceIte]
         exact zaR rfl
     ·have de:=decide_eq_false he
      obtain⟨e,he0,hd⟩:=hbad (.inr he)
      have d0:=decide_eq_false he0
      rw [hd]
      try simp -implicitDefEqProofs only [LM4,eq_self,zaa,zab,Nat.zero_mul,lzS,de,d0,TB,SB,Int.reduceToNat,Nat.reduceAdd,Nat.reduceEqDiff,Nat.reduceLT,Nat.reduceMod,Nat.reducePow,Nat.reduceSub,if_true,reduceIte]
      exact zaR rfl
    ·have dg:=decide_eq_false hg
     obtain⟨e,he0,hd⟩:=hbad (.inl hg)
     have d0:=decide_eq_false he0
     rw [hd]
     try simp -implicitDefEqProofs only [LM4,eq_self,zaa,zab,Nat.zero_mul,lzS,dg,d0,TB,SB,Int.reduceToNat,Nat.reduceAdd,Nat.reduceEqDiff,Nat.reduceLT,Nat.reduceMod,Nat.reducePow,Nat.reduceSub,if_true,reduceIte]
     exact zaR rfl
end Go.Proofs.YtamcppdhkeiaiaaGreatDoor
end

section
namespace Go.Proofs.YtamcppdhkeiaiaaGreatDoor
open Go Go.Eng
theorem four {cs:List Value} (h:cs.length=4):∃ a b c d,cs=[a,b,c,d]:=by
 match cs,h with
 | [a,b,c,d],_=>exact⟨a,b,c,d,rfl⟩
theorem no_own (b:Nat):¬ own (fun _=>False) [] [] b:=by
 rintro(hb | ⟨i,cs,hi,_⟩)
 ·exact hb
 ·simp at hi
def zg9 (w:World) (v:Value):Prop:=∃ (ad:Option Addr) (len cap:Nat) (l:List Nd),v=.slice ad len cap∧len≤cap∧cap≤maxLen∧l.length=len∧(len=0∨∃ b off,ad=some ⟨b,off,none⟩∧b < w.heap.size∧zaX w (own (fun _=>False) [] []) [] b (l.flatMap nC) off)
theorem rep_nodes {w:World} {v:Value} (h:zg9 w v):∃ l:List Nd,l.length≤maxLen∧rep w (own (fun _=>False) [] []) [] (slNs l) v:=by
 obtain⟨ad,len,cap,l,rfl,h1,h2,h3,h5⟩:=h
 refine⟨l,by omega,?_⟩
 simp only [slNs,rep]
 rw [h3]
 refine⟨ad,cap,rfl,h1,h2,?_⟩
 rcases h5 with h5 | ⟨b,off,rfl,hb,hat⟩
 ·refine .inl ?_
  have:l=[]:=by rw [h5] at h3;exact List.eq_nil_of_length_eq_zero h3
  subst this
  rfl
 ·exact .inr ⟨b,off,rfl,no_own b,hb,hat⟩
theorem repAt_app {w:World} {O:Nat→Prop} {m:Ids} {b:Nat}:∀ (l r:List AV) (off:Nat),zaX w O m b l off→zaX w O m b r (off+l.length)→zaX w O m b (l++r) off
 | [],r,off,_,h=>by simpa using h
 | a::l,r,off,h,g=>by
  simp only [List.cons_append,zaX] at h ⊢
  exact⟨h.1,repAt_app l r (off+1) h.2 (by rwa [List.length_cons,show off+(l.length+1)=off+1+l.length by omega] at g)⟩
theorem add_none (b off n:Nat):(⟨b,off,none⟩:Addr).add n=⟨b,off+n,none⟩:=by
 by_cases h:n=0
 ·subst h
  simp [Addr.add]
 ·simp [Addr.add,h]
theorem rep_row4 {w:World} {O:Nat→Prop} {m:Ids} {b off:Nat}:∀ (n:Nat),(∀ i,i < n→∃ a:Nd,zaX w O m b (nC a) (off+i * 4))→∃ l:List Nd,l.length=n∧zaX w O m b (l.flatMap nC) off
 | 0,_=>⟨[],rfl,by simp [zaX]⟩
 | n+1,h=>by
  obtain⟨l,h1,h3⟩:=rep_row4 n fun i hi=>h i (by omega)
  obtain⟨a,h5⟩:=h n (by omega)
  refine⟨l++[a],by simp [h1],?_⟩
  rw [List.flatMap_append]
  refine repAt_app _ _ _ h3 ?_
  rw [zbn,h1,List.flatMap_cons,List.flatMap_nil,List.append_nil]
  exact h5
section
open Go.ChangeShapes Go.WideShapes Go.ChangeAt Go.RowKit
variable {H : Type} {enc : TypeId × Value → H} {P : Program} {w : World} {base : Nat} {sp : Nat → Bool} {held : Bool}
theorem zjv {r:Reach} {b0:Nat} {t0 t tk tn ts ti:TypeId} {f0 f1 f2 f3:Field} {v:Value} {d:DataW H} {ps:List MemPlace} (ht0:P.underlying t0=some (.slice t)) (ht:P.underlying t=some (.struct #[f0,f1,f2,f3])) (h0:f0.type=tk∧f0.offset=0) (h1:f1.type=tn∧f1.offset=1) (h2:f2.type=ts∧f2.offset=2) (h3:f3.type=ti∧f3.offset=3)
  (hts:P.underlying ts=some .string) (htk:P.underlying tk=some (.int .i64)) (htn:P.underlying tn=some (.int .i64)) (hti:P.underlying ti=some (.int .i64)) (c0:P.cellsOf tk=1) (c1:P.cellsOf tn=1) (c2:P.cellsOf ts=1) (c3:P.cellsOf ti=1) (c4:P.cellsOf t=4)
  (hval:Value.okWide P w r b0 t0 v) (hd:DataW.Trod enc P w base (fun _=>true) held t0 v d ps):zg9 w v:=by
 obtain⟨a,len,cap,rfl⟩:=okWide_slice ht0 hval
 obtain⟨fuel,hf⟩:=hd
 rcases DataW.trod_slice ht0 hf with ⟨hcs,_⟩ | ⟨x,l,c,elems,rest,n,_,hcs,_,_,hl,hm,hlen,hel,_,_⟩
 ·simp [Value.cells] at hcs
  obtain⟨rfl,rfl,rfl⟩:=hcs
  exact⟨none,0,0,[],rfl,Nat.le_refl _,by simp [maxLen],rfl,.inl rfl⟩
 ·simp [Value.cells] at hcs
  obtain⟨rfl,rfl,rfl⟩:=hcs
  by_cases hz:len=0
  ·exact⟨_,len,cap,[],rfl,hl,hm,hz.symm,.inl hz⟩
  rw [c4] at hel
  have each:∀ i,i < len→∃ y:Nd,∃ v0 v1 v2 v3,w.cell? ((x.add (i * 4)).add 0)=some v0∧w.cell? ((x.add (i * 4)).add 1)=some v1∧w.cell? ((x.add (i * 4)).add 2)=some v2∧w.cell? ((x.add (i * 4)).add 3)=some v3∧rep w (own (fun _=>False) [] []) [] (i64 y.kind) v0∧rep w (own (fun _=>False) [] []) [] (i64 y.num) v1∧rep w (own (fun _=>False) [] []) [] (str y.text) v2∧rep w (own (fun _=>False) [] []) [] (i64 y.kids) v3:=by
   intro i hi
   have hi':=hel i hi
   rw [List.getElem?_eq_getElem (by omega),Option.bind_eq_some_iff] at hi'
   obtain⟨cs,hcs,hy⟩:=hi'
   obtain⟨xs,m,_,_,hcl,hxl,hx⟩:=DataW.trod_struct ht hy
   rw [c4] at hcl
   obtain⟨v0,v1,v2,v3,rfl⟩:=four hcl
   have g0:=hx 0 f0 rfl
   have g1:=hx 1 f1 rfl
   have g2:=hx 2 f2 rfl
   have g3:=hx 3 f3 rfl
   rw [h0.1,h0.2,c0] at g0
   rw [h1.1,h1.2,c1] at g1
   rw [h2.1,h2.2,c2] at g2
   rw [h3.1,h3.2,c3] at g3
   match xs,hxl with
   | [x0,x1,x2,x3],_ =>
    obtain⟨k,e0,_,w0⟩:=DataW.trod_int htk g0
    obtain⟨p,e1,_,w1⟩:=DataW.trod_int htn g1
    obtain⟨s,e2,_,w2⟩:=DataW.trod_string hts g2
    obtain⟨f,e3,_,w3⟩:=DataW.trod_int hti g3
    simp at e0 e1 e2 e3
    subst e0 e1 e2 e3
    obtain⟨_,_,hc⟩:=World.cells?_some hcs
    exact⟨⟨k,p,s.data.toList,f⟩,_,_,_,_,hc 0 (by omega),hc 1 (by omega),hc 2 (by omega),hc 3 (by omega),rep_i64 _,rep_i64 _,rep_str _,rep_i64 _⟩
  obtain⟨y,v0,_,_,_,hv0,_⟩:=each 0 (by omega)
  obtain⟨b,off,spot⟩:=x
  have hspot:spot=none:=by simpa [Addr.add] using World.cell?_spot hv0
  subst hspot
  obtain⟨l,hl1,hl3⟩:=rep_row4 (w:=w) (O:=own (fun _=>False) [] []) (m:=[]) (b:=b) (off:=off) len fun i hi=>by
   obtain⟨y,v0,v1,v2,v3,q0,q1,q2,q3,r0,r1,r2,r3⟩:=each i hi
   rw [add_none,add_none] at q0 q1 q2 q3
   refine⟨y,?_⟩
   simp only [nC,zaX]
   exact⟨⟨_,q0,r0⟩,⟨_,q1,r1⟩,⟨_,q2,r2⟩,⟨_,q3,r3⟩,trivial⟩
  have hne:l.flatMap nC≠[]:=by
   intro h
   have:=zbn l
   rw [h,hl1] at this
   simp at this
   omega
  exact⟨_,len,cap,l,rfl,hl,hm,hl1,.inr ⟨b,off,rfl,zcs hl3 hne,hl3⟩⟩
end
end Go.Proofs.YtamcppdhkeiaiaaGreatDoor
end

section
namespace Go.Eng
open Go
theorem Glob.of_vars3 [Globs] {w:World} (h:∀ g cs,Globs.tab g=some cs→∃ (P:Program) (n:String),P.globalNamed n=some g∧w.var? P n=some cs.toArray) (hi:∀ g,g∈Globs.ints→∃ n:Int,w.cell? ⟨g,0,none⟩=some (.int .i64 n)) (he:∀ g,g∈Globs.errs→∃ (t:TypeId) (v:Value),w.cell? ⟨g,0,none⟩=some (.iface t v)):Glob w (Go.Eng.own (fun _=>False) [] []):=by
 have no:∀ g,¬ Go.Eng.own (fun _=>False) [] [] g:=by
  rintro g (hb | ⟨i,cs,hi,_⟩)
  ·exact hb
  ·simp at hi
 refine⟨fun g cs hg=>?_,fun g hg=>?_,fun g hg=>?_⟩
 ·obtain⟨P,n,h1,h2⟩:=h g cs hg
  have hb:∃ e f,w.heap[g]?=some (.cells cs.toArray e f):=by
   have h3:=h2
   simp only [World.var?,h1,Option.bind_some] at h3
   split at h3
   ·rename_i cs' e' f' e
    cases Option.some.inj h3
    exact⟨_,_,e⟩
   ·cases h3
  refine⟨no g,?_,hb,fun j v hv=>?_⟩
  ·obtain⟨_,_,e⟩:=hb
   rcases Nat.lt_or_ge g w.heap.size with hlt | hge
   ·exact hlt
   ·rw [Array.getElem?_eq_none hge] at e;cases e
  ·rw [World.var?_cell h1 h2 j,List.getElem?_toArray,hv]
 ·obtain⟨n,hn⟩:=hi g hg
  refine⟨no g,?_,n,hn⟩
  rcases Nat.lt_or_ge g w.heap.size with hlt | hge
  ·exact hlt
  ·simp [World.cell?,Array.getElem?_eq_none hge] at hn
 ·obtain⟨t,v,hn⟩:=he g hg
  refine⟨no g,?_,t,v,hn⟩
  rcases Nat.lt_or_ge g w.heap.size with hlt | hge
  ·exact hlt
  ·simp [World.cell?,Array.getElem?_eq_none hge] at hn
theorem wrap_and_shaped {H:Type} {enc:TypeId × Value→H} {a:Assume} {C:Checked} {os:Os} {f:FuncId} {fn:Func} {s:ChangeSpec} {conds:List PathCond} {apart fresh handsOn again:Bool} {X:World→Array Value→Prop}
  (hX:∀ (w w':World) (args:Array Value),w.heap=w'.heap→X w args→X w' args)
  (h1:ownKnob C.prog.godebug=none) (h2:os.Started) (h3:C.prog.inits.idxOf? f=none) (hfn:C.prog.funcs[f]?=some fn)
  (h4:∃ (w:World) (tape:Tape) (i:Input),w.os=os∧(w.forCall tape i).Shaped C.prog∧i.vars=[]∧Input.okWide C.prog (w.forCall tape i) .any w.heap.size f i ∧
   ((s.pre enc C.prog fn conds apart (w.forCall tape i).memory i.args∧X (w.forCall tape i).memory i.args)∧sizedMet enc C.prog fn (OpenSpec.ofChange s) apart (w.forCall tape i).memory i.args)∧a.holds C.prog (lone (Frame.enter C.prog f i.args .normal) [] (w.forCall tape i)))
  (h5:∀ (W:World) (base:Nat) (args:Array Value) (ds gs:List (DataW H)) (before:List MemPlace),
   (∀ (j:Nat) t v,fn.params[j]?=some t→args[j]?=some v→Value.okWide C.prog W .any base t v) →
   DataW.Whole enc C.prog fn.params.toList s.vars apart W args.toList ds gs before →
   conds.all (PathCond.test C.prog ⟨fn.params.toList,ds,s.plain.varTypes C.prog,gs⟩)=true →
   (DataW.weightsEach C.prog (fn.params.toList++s.plain.varTypes C.prog) (ds++gs)).all (·≤reachBytes)=true→X W args→W.ShapedOpen C.prog →
   a.holds C.prog (lone (Frame.enter C.prog f args .normal) [] W) →
   Calls C.prog f args W fun e W'=>∃ v,e=.returned v∧s.post enc C.prog fn apart fresh handsOn again W args v W') :
  ReturnsInHanded a C os f .any (fun w args=>(s.pre enc C.prog fn conds apart w args∧X w args)∧sizedMet enc C.prog fn (OpenSpec.ofChange s) apart w args) (s.post enc C.prog fn apart fresh handsOn again):=by
 refine returnsInHanded_of_calls h1 h2 h3 h4 ?_
 intro w tape i _ hsh _ hok hpre hh
 have hval:∀ (j:Nat) t v,fn.params[j]?=some t→i.args[j]?=some v→Value.okWide C.prog (w.forCall tape i) .any w.heap.size t v:=by
  obtain⟨_,_,_,fn',hfn',_,_,_,_,hv⟩:=hok
  cases Option.some.inj (hfn'.symm.trans hfn)
  exact hv
 obtain⟨⟨⟨ds,gs,bf,hw,hc⟩,hx⟩,hz⟩:=hpre
 have key:=h5 (w.forCall tape i) w.heap.size i.args ds gs bf hval (DataW.Whole.of_heap (w':=w.forCall tape i) (by rfl) hw) hc (hz.weights hw) (hX _ _ _ (by rfl) hx) hsh hh
 refine key.mono ?_
 rintro e W' ⟨v,rfl,hp⟩
 exact ChangeSpec.post_blind hp
end Go.Eng
namespace Go.Proofs.YtamcppdhkeiaiaaGreatDoor
open Go Go.Eng
def zkQ:List (String × DataW Unit):=Rows.pathStepsRow.laid
def nm (i : Nat) : String := (zkQ[i]?.map (·.1)).getD ""
def dt (i:Nat):DataW Unit:=(zkQ[i]?.map (·.2)).getD .nil
theorem ownK:ownKnob Tryz.prog.godebug=none:=by kernel_rfl
theorem laidOut:laidOutB Tryz.prog=true:=by kernel_rfl
theorem oneRow:((List.range Tryz.prog.types.size).filter fun t=>Tryz.prog.rowNamed t [101,114,114,111,114])=[65]:=by kernel_rfl
def plain5:List (String × DataW Unit):=[(nm 0,dt 0),(nm 1,dt 1),(nm 2,dt 2),(nm 4,dt 4),(nm 5,dt 5)]
theorem star : "*" ++ "errors.errorString" = "*errors.errorString" := by decide
theorem rowErr (u : TypeId) (h : Tryz.prog.typeName? 3 u = some "*errors.errorString") : u = 213 :=
 typeName_ptr_named (nm := "errors.errorString") (by rw [star]; kernel_rfl) (by kernel_rfl) (by decide) u (by rw [star]; exact h)
theorem gRange:Tryz.prog.globalNamed (nm 4)=some 3:=by kernel_rfl
theorem gSyntax:Tryz.prog.globalNamed (nm 5)=some 2:=by kernel_rfl
theorem tRange:(Tryz.prog.globals[3]?).map (·.type)=some 65:=by kernel_rfl
theorem tSyntax:(Tryz.prog.globals[2]?).map (·.type)=some 65:=by kernel_rfl
theorem cellsE:Tryz.prog.cellsOf 215=1:=by kernel_rfl
theorem cellsS:Tryz.prog.cellsOf 9=1:=by kernel_rfl
theorem glob_of_laid {w:World} (h:laidMetH Tryz.prog zkQ w) (hsh:w.ShapedOpen Tryz.prog):Glob w (Go.Eng.own (fun _=>False) [] []):=by
 have h':laidMet Tryz.prog plain5 w∧handlesMet Tryz.prog [(nm 3,dt 3)] w:=h
 have hL:=h'.1.tail.tail.tail
 obtain⟨a0,s0,hv0,_,_,_⟩:=laid_sentinel hL gRange tRange Tryz.underlying65 rowErr Tryz.underlying213 Tryz.underlying215 rfl rfl Tryz.underlying9 cellsE cellsS
 obtain⟨a1,s1,hv1,_,_,_⟩:=laid_sentinel hL.tail gSyntax tSyntax Tryz.underlying65 rowErr Tryz.underlying213 Tryz.underlying215 rfl rfl Tryz.underlying9 cellsE cellsS
 obtain⟨name,u,ty,e1,e2,e3,e4,e5⟩:=h'.2 _ (List.mem_singleton.2 rfl)
 have en:name=[101,114,114,111,114]:=(Option.some.inj e1).symm
 subst en
 obtain rfl:u=154:=Option.some.inj (e2.symm.trans (by kernel_rfl))
 have hm:ty∈(List.range Tryz.prog.types.size).filter fun t=>Tryz.prog.rowNamed t [101,114,114,111,114]:=List.mem_filter.2 ⟨List.mem_range.2 e3,e4⟩
 rw [oneRow] at hm
 obtain rfl:=List.mem_singleton.1 hm
 have hh:typeHandle Tryz.prog 65=.pointer (some ⟨7,65,none⟩):=by kernel_rfl
 rw [hh] at e5
 have hpw:=Go.Lib.tabIs_of_head (P:=Tryz.prog) (W:=w) (zs:=Go.Lib.pow10Tab) (k:=.u64) (g:=4) (t:=201) (e:=118) (n:=20) (by kernel_rfl) (by kernel_rfl) (by kernel_rfl) (by kernel_rfl) (by kernel_rfl) (by kernel_rfl) (h'.1.tail.tail)
 refine Glob.of_vars3 (fun g cs hg=>?_) (fun g hg=>?_) (fun g hg=>?_)
 ·by_cases hgg:g=0
  ·subst hgg
   obtain rfl:=Option.some.inj (show some [zb1 7 65]=some cs from hg)
   exact⟨_,_,(by kernel_rfl:Tryz.prog.globalNamed (nm 3)=some 0),e5⟩
  ·by_cases hgp:g=4
   ·subst hgp
    obtain rfl:=Option.some.inj (show some powT=some cs from hg)
    exact⟨_,_,(by kernel_rfl:Tryz.prog.globalNamed (nm 2)=some 4),hpw⟩
   ·exact absurd hg (by
     intro hg
     have:(none:Option (List Value))=some cs:=by
      rw [← hg]
      symm
      show (match g with | 0=>some [zb1 7 65] | 4=>some powT | _=>none)=none
      split
      ·exact absurd rfl hgg
      ·exact absurd rfl hgp
      ·rfl
     cases this)
 ·have hg':g=1:=by
   have:g∈[1]:=hg
   simpa using this
  subst hg'
  exact Go.Proofs.cell_of_shapedOpen_int (zero:=#[.int .i64 0]) (t:=3) hsh (of_decide_eq_true (by kernel_rfl)) (by kernel_rfl) rfl (by kernel_rfl) (by kernel_rfl) Tryz.underlying3
 ·have hg':g=3∨g=2:=by
   have:g∈[3,2]:=hg
   simpa using this
  rcases hg' with rfl | rfl
  ·exact⟨_,_,World.var?_cell gRange hv0 0⟩
  ·exact⟨_,_,World.var?_cell gSyntax hv1 0⟩
theorem door_met (os:Os) (args:Array Value):laidMetH Tryz.prog zkQ ((World.doorLaid Tryz.prog 4000 os).forCall (fun _ _=>0) ⟨#[],args,[]⟩).memory :=
 laidMetH_of_parts3 (fuel:=8) (laidMet_of_run' 8 (by kernel_rfl) (by kernel_rfl)) (by kernel_rfl) (by kernel_rfl)
end Go.Proofs.YtamcppdhkeiaiaaGreatDoor
end

