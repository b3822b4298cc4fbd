/-
  Questions, the document's way, and the law's walk. No condition.
-/
import Derived.Test.YtdigkoejfgmecaaGreatDoorQueH
set_option linter.unusedSimpArgs false
set_option linter.unusedVariables false
set_option linter.unusedSectionVars false
section
namespace Go.Eng
open Go
theorem aQ81 {P Q:Prop} (h:Q) (e:P=Q:=by first|(simp -implicitDefEqProofs only [LM9,eq_self,Nat.zero_mul,lzS,bx_P,zat,lzS,TB,SB,Int.reduceToNat,Nat.reduceAdd,Nat.reduceEqDiff,Nat.reduceLT,Nat.reduceMod,Nat.reducePow,Nat.reduceSub,if_true,reduceIte];first|done|exact rfl)|exact rfl):P:=e ▸ h
theorem aQ82 {P Q:Prop} (h:Q) (e:P=Q:=by first|(simp -implicitDefEqProofs only [LM9,eq_self,Nat.zero_mul,lzS,bx_P,zat,lzS,dza,TB,SB,Int.reduceToNat,Nat.reduceAdd,Nat.reduceEqDiff,Nat.reduceLT,Nat.reduceMod,Nat.reducePow,Nat.reduceSub,if_true,reduceIte];first|done|exact rfl)|exact rfl):P:=e ▸ h
theorem aQ83 {P Q:Prop} (h:Q) (e:P=Q:=by first|(simp -implicitDefEqProofs only [LM9,eq_self,Nat.zero_mul,lzS,bx_P,zat,lzS,dza,dzb,TB,SB,Int.reduceToNat,Nat.reduceAdd,Nat.reduceEqDiff,Nat.reduceLT,Nat.reduceMod,Nat.reducePow,Nat.reduceSub,if_true,reduceIte];first|done|exact rfl)|exact rfl):P:=e ▸ h
theorem aQ84 {P Q:Prop} (h:Q) (e:P=Q:=by first|(simp -implicitDefEqProofs only [LM2,eq_self,Nat.zero_mul,lzS,bx_P,zat,lzS,eq_self,TB,SB,Int.reduceToNat,Nat.reduceAdd,Nat.reduceEqDiff,Nat.reduceLT,Nat.reduceMod,Nat.reducePow,Nat.reduceSub,if_true,reduceIte];first|done|exact rfl)|exact rfl):P:=e ▸ h
theorem aQ85 {P Q:Prop} (h:Q) (e:P=Q:=by first|(simp -implicitDefEqProofs only [LM2,eq_self,Nat.zero_mul,lzS,bx_P,zat,lzS,eq_self,dza,TB,SB,Int.reduceToNat,Nat.reduceAdd,Nat.reduceEqDiff,Nat.reduceLT,Nat.reduceMod,Nat.reducePow,Nat.reduceSub,if_true,reduceIte];first|done|exact rfl)|exact rfl):P:=e ▸ h
theorem aQ86 {P Q:Prop} (h:Q) (e:P=Q:=by first|(simp -implicitDefEqProofs only [LM2,eq_self,Nat.zero_mul,lzS,bx_P,zat,lzS,eq_self,dza,dzb,dzc,TB,SB,Int.reduceToNat,Nat.reduceAdd,Nat.reduceEqDiff,Nat.reduceLT,Nat.reduceMod,Nat.reducePow,Nat.reduceSub,if_true,reduceIte];first|done|exact rfl)|exact rfl):P:=e ▸ h
theorem aQ87 {P Q:Prop} (h:Q) (e:P=Q:=by first|(simp [zaw,zar,renL,AV.ren,zai,zaj,zac];first|done|exact rfl)|exact rfl):P:=e ▸ h
theorem aQ88 {P Q:Prop} (h:Q) (e:P=Q:=by first|(simp -implicitDefEqProofs only [LM2,eq_self,Nat.zero_mul,lzS,bx_P,zat,lzS,eq_self,ldc_Q0,ldc_Qw,TB,SB,Int.reduceToNat,Nat.reduceAdd,Nat.reduceEqDiff,Nat.reduceLT,Nat.reduceMod,Nat.reducePow,Nat.reduceSub,if_true,reduceIte];first|done|exact rfl)|exact rfl):P:=e ▸ h
theorem aQ89 {P Q:Prop} (h:Q) (e:P=Q:=by first|(simp -implicitDefEqProofs only [LM2,eq_self,Nat.zero_mul,lzS,bx_P,zat,lzS,eq_self,ldc_Q0,ldc_Qw,dza,TB,SB,Int.reduceToNat,Nat.reduceAdd,Nat.reduceEqDiff,Nat.reduceLT,Nat.reduceMod,Nat.reducePow,Nat.reduceSub,if_true,reduceIte];first|done|exact rfl)|exact rfl):P:=e ▸ h
end Go.Eng
end

section
namespace Go.Proofs.YtdigkoejfgmecaaGreatDoor
open Go Go.Eng
set_option linter.defProp false in
def LB21:=And.intro @bs_Q0 (And.intro @bs_Qn (And.intro @bs_Qv (And.intro @bd_Qn (And.intro @bd_Qv (@bs_ss2)))))
set_option linter.defProp false in
def LM9:=And.intro LM6 (And.intro LB20 (LB21))
theorem pathed_ok (s:List UInt8) (hs:s.length≤1000000000):ACalls Tryz.prog 109 [str s] [] (fun y _=>y=.ret (bl (isV s))):=by
 refine ACalls.body T_ok Tryz.func109 (by kernel_rfl) rfl Tryz.ntmps109 (congrArg Array.toList Tryz.results109) ?_
 refine aQ81 ?_
 refine(rpath_ok s (by omega)).pure (by simp [renL,zaj]) ?_
 rintro _ σ rfl
 refine⟨by simp [AEnd.noid,AV.ren,renL,zez,zac],?_⟩
 refine aQ81 ?_
 exact zaq rfl
theorem rmay_ok (q:Qn) (hq:q.path.length≤1000000∧q.val.length≤1000):ACalls Tryz.prog 66 [.agg (qC q)] [] (fun y _=>y=.ret (bl (mayB q))):=by
 have hfin:∀ (b:Bool) (σ:zaa),b=mayB q→endQ 0 (bl b) σ (fun r _=>AEnd.ret r=AEnd.ret (bl (mayB q))):=fun b σ h=>zaq (by rw [h])
 have hi:=pathed_ok q.path (by have:=hq.1;omega)
 have hc:=ze0 q.val hq.2
 rw [qC_eq]
 refine ACalls.body T_ok Tryz.func66 (by kernel_rfl) rfl Tryz.ntmps66 (congrArg Array.toList Tryz.results66) ?_
 obtain⟨o,p,v,k⟩:=q
 dsimp only at hi hc hq ⊢
 rcases (show (o=0∨o=1∨o=2∨o=3∨o=4)∨(o=5∨o=6∨o=7)∨(o < 0∨7 < o) by omega) with h04 | h57 | hx
 ·have n5:decide ((5:Int)≤o)=false:=decide_eq_false (by omega)
  have n0:decide (o < 0)=false:=decide_eq_false (by omega)
  have n4:decide ((4:Int) < o)=false:=decide_eq_false (by omega)
  have hm:mayB ⟨o,p,v,k⟩=(decide (k=0) && isV p && valB ⟨o,p,v,k⟩):=by rw [mayB,if_pos (by dsimp only;omega)]
  by_cases hk:k=0
  rotate_left
  ·try simp -implicitDefEqProofs only [LM9,eq_self,Nat.zero_mul,lzS,bx_P,zat,lzS,n5,n0,n4,decide_eq_false hk,TB,SB,Int.reduceToNat,Nat.reduceAdd,Nat.reduceEqDiff,Nat.reduceLT,Nat.reduceMod,Nat.reducePow,Nat.reduceSub,if_true,reduceIte]
   exact hfin _ _ (by rw [hm,decide_eq_false hk];rfl)
  rw [decide_eq_true hk,Bool.true_and] at hm
  try simp -implicitDefEqProofs only [LM9,eq_self,Nat.zero_mul,lzS,bx_P,zat,lzS,n5,n0,n4,decide_eq_true hk,TB,SB,Int.reduceToNat,Nat.reduceAdd,Nat.reduceEqDiff,Nat.reduceLT,Nat.reduceMod,Nat.reducePow,Nat.reduceSub,if_true,reduceIte]
  refine hi.pure (by simp [renL,zaj]) ?_
  rintro _ σ rfl
  refine⟨zay _ _,?_⟩
  cases hp:isV p with
  | false =>
   rw [hp,Bool.false_and] at hm
   refine aQ81 ?_
   exact hfin _ _ hm.symm
  | true =>
   rw [hp,Bool.true_and] at hm
   by_cases h2:o=2
   ·have dza:=decide_eq_true h2
    refine aQ82 ?_
    exact hfin _ _ (by rw [hm,valB,if_pos h2];(show decide ((v.length:Int)=0)=decide (v.length=0));exact decide_eq_decide.2 (by omega))
   have hvb:valB ⟨o,p,v,k⟩=(decide (zau v=0) && (decide (o≠1) || decide ((v.getD 0 n0d).kind=4))):=by rw [valB,if_neg h2]
   rw [hvb] at hm
   have dza:=decide_eq_false h2
   refine aQ82 ?_
   refine hc.pure (zdz _ _ _) ?_
   rintro _ σ rfl
   refine⟨zac _ _,?_⟩
   by_cases h0:zau v=0
   rotate_left
   ·rw [decide_eq_false h0,Bool.false_and] at hm
    have dza:=decide_eq_false h0
    refine aQ82 ?_
    exact hfin _ _ hm.symm
   rw [decide_eq_true h0,Bool.true_and] at hm
   rw [h0]
   by_cases h1:o=1
   rotate_left
   ·rw [decide_eq_true (show o≠1 from h1),Bool.true_or] at hm
    have dza:=decide_eq_false h1
    refine aQ82 ?_
    exact hfin _ _ hm.symm
   have hlen:=za1 h0
   rw [decide_eq_false (show ¬ (o≠1) from fun h=>h h1),Bool.false_or] at hm
   have dza:=decide_eq_true h1
   refine aQ82 ?_
   refine⟨by omega,by omega,Nat.le_refl _,?_⟩
   rw [zfk (t:=0) (by omega)]
   refine aQ81 ?_
   exact hfin _ _ hm.symm
 ·have n5:decide ((5:Int)≤o)=true:=decide_eq_true (by omega)
  have n7:decide (o≤7)=true:=decide_eq_true (by omega)
  by_cases hp:p=[]
  rotate_left
  ·have dza:=n5
   have dzb:=n7
   have dzc:=decide_eq_false hp
   try simp -implicitDefEqProofs only [LM9,eq_self,Nat.zero_mul,lzS,bx_P,zat,lzS,dza,dzb,dzc,TB,SB,Int.reduceToNat,Nat.reduceAdd,Nat.reduceEqDiff,Nat.reduceLT,Nat.reduceMod,Nat.reducePow,Nat.reduceSub,if_true,reduceIte]
   exact hfin _ _ (by rcases h57 with rfl | rfl | rfl <;> simp [mayB,hp])
  by_cases hl:(v.length:Int)=0
  rotate_left
  ·try simp -implicitDefEqProofs only [LM9,eq_self,Nat.zero_mul,lzS,bx_P,zat,lzS,n5,n7,decide_eq_true hp,decide_eq_false hl,TB,SB,Int.reduceToNat,Nat.reduceAdd,Nat.reduceEqDiff,Nat.reduceLT,Nat.reduceMod,Nat.reducePow,Nat.reduceSub,if_true,reduceIte]
   have hl2:v≠[]:=fun h=>hl (by rw [h];rfl)
   exact hfin _ _ (by rcases h57 with rfl | rfl | rfl <;> simp [mayB,hl2])
  have hv0:v=[]:=List.eq_nil_of_length_eq_zero (by omega)
  by_cases hk:0≤k
  rotate_left
  ·try simp -implicitDefEqProofs only [LM9,eq_self,Nat.zero_mul,lzS,bx_P,zat,lzS,n5,n7,decide_eq_true hp,decide_eq_true hl,decide_eq_false hk,TB,SB,Int.reduceToNat,Nat.reduceAdd,Nat.reduceEqDiff,Nat.reduceLT,Nat.reduceMod,Nat.reducePow,Nat.reduceSub,if_true,reduceIte]
   exact hfin _ _ (by rcases h57 with rfl | rfl | rfl <;> simp [mayB,hk] <;> omega)
  by_cases h7:o=7
  ·try simp -implicitDefEqProofs only [LM9,eq_self,Nat.zero_mul,lzS,bx_P,zat,lzS,n5,n7,decide_eq_true hp,decide_eq_true hl,decide_eq_true hk,decide_eq_true h7,TB,SB,Int.reduceToNat,Nat.reduceAdd,Nat.reduceEqDiff,Nat.reduceLT,Nat.reduceMod,Nat.reducePow,Nat.reduceSub,if_true,reduceIte]
   exact hfin _ _ (by subst h7;simp [mayB,hp,hv0])
  ·try simp -implicitDefEqProofs only [LM9,eq_self,Nat.zero_mul,lzS,bx_P,zat,lzS,n5,n7,decide_eq_true hp,decide_eq_true hl,decide_eq_true hk,decide_eq_false h7,TB,SB,Int.reduceToNat,Nat.reduceAdd,Nat.reduceEqDiff,Nat.reduceLT,Nat.reduceMod,Nat.reducePow,Nat.reduceSub,if_true,reduceIte]
   exact hfin _ _ (by rcases h57 with rfl | rfl | rfl <;> first | exact absurd rfl h7 | simp [mayB,hp,hv0,hk])
 ·have hm:mayB ⟨o,p,v,k⟩=false:=by rw [mayB,if_neg (by dsimp only;omega),if_neg (by dsimp only;omega),if_neg (by dsimp only;omega)]
  by_cases h5:5≤o
  ·try simp -implicitDefEqProofs only [LM9,eq_self,Nat.zero_mul,lzS,bx_P,zat,lzS,decide_eq_true h5,decide_eq_false (show ¬ o≤7 by omega),decide_eq_false (show ¬ o < 0 by omega),decide_eq_true (show 4 < o by omega),TB,SB,Int.reduceToNat,Nat.reduceAdd,Nat.reduceEqDiff,Nat.reduceLT,Nat.reduceMod,Nat.reducePow,Nat.reduceSub,if_true,reduceIte]
   exact hfin _ _ hm.symm
  ·have dza:=decide_eq_false h5
   have dzb:=decide_eq_true (show o < 0 by omega)
   refine aQ83 ?_
   exact hfin _ _ hm.symm
def zcl:Nat→List Qn→Nat→Option Nat
 | 0,_,p=>some p
 | _+1,[],_=>none
 | n+1,q::r,p=>if mayB q=true then zcl (n+q.kids.toNat) r (p+1) else none
theorem zdj (l:List Qn) (p:Nat):zcl 0 l p=some p:=by cases l <;> rfl
theorem zdk:∀ (l:List Qn) (n p e:Nat),zcl n l p=some e→skip n l p=some e:=by
 intro l
 induction l with
 | nil =>
  intro n p e h
  cases n with
  | zero=>exact h
  | succ n=>cases h
 | cons q r ih =>
  intro n p e h
  cases n with
  | zero=>rw [zdj] at h;rw [zco];exact h
  | succ n =>
   unfold zcl at h
   split at h
   ·exact ih _ _ _ h
   ·cases h
theorem skipM_eq:∀ (l:List Qn) (n p:Nat),(∀ q∈l,mayB q=true)→zcl n l p=skip n l p:=by
 intro l
 induction l with
 | nil=>intro n p _;cases n <;> rfl
 | cons q r ih =>
  intro n p h
  cases n with
  | zero=>rw [zdj,zco]
  | succ n =>
   unfold zcl
   rw [if_pos (h q (by simp))]
   exact ih _ _ fun x hx=>h x (by simp [hx])
theorem skipM_all:∀ (l:List Qn) (n p:Nat),zcl n l p=some (p+l.length)→∀ q∈l,mayB q=true:=by
 intro l
 induction l with
 | nil=>intro n p _ q hq;cases hq
 | cons q r ih =>
  intro n p h x hx
  cases n with
  | zero =>
   rw [zdj] at h
   injection h with h
   rw [List.length_cons] at h
   omega
  | succ n =>
   unfold zcl at h
   split at h
   ·rename_i hq
    rcases List.mem_cons.1 hx with rfl | hx
    ·exact hq
    ·exact ih (n+q.kids.toNat) (p+1) (by rw [h,List.length_cons];congr 1;omega) x hx
   ·cases h
theorem skipM_add:∀ (l:List Qn) (a b p:Nat),zcl (a+b) l p=(zcl a l p).bind fun e=>zcl b (l.drop (e - p)) e:=by
 intro l
 induction l with
 | nil =>
  intro a b p
  cases a with
  | zero=>rw [Nat.zero_add,zdj];simp
  | succ a=>rw [Nat.succ_add];rfl
 | cons q r ih =>
  intro a b p
  cases a with
  | zero=>rw [Nat.zero_add,zdj];simp
  | succ a =>
   rw [Nat.succ_add]
   show (if mayB q=true then zcl (a+b+q.kids.toNat) r (p+1) else none)=(if mayB q=true then zcl (a+q.kids.toNat) r (p+1) else none).bind _
   by_cases hq:mayB q=true
   ·rw [if_pos hq,if_pos hq,show a+b+q.kids.toNat=(a+q.kids.toNat)+b by omega,ih]
    cases h:zcl (a+q.kids.toNat) r (p+1) with
    | none=>rfl
    | some e =>
     have:=zcV _ _ _ _ (zdk _ _ _ _ h)
     show zcl b (r.drop (e - (p+1))) e=zcl b ((q::r).drop (e - p)) e
     rw [show e - p=(e - (p+1))+1 by omega,List.drop_succ_cons]
   ·rw [if_neg hq,if_neg hq]
    rfl
def optE (o:Option Nat):Int:=match o with | none=>-1 | some e=>e
theorem skipM_at {l:List Qn} {p:Nat} (h:p < l.length) (hm:mayB (l.getD p q0)=true):zcl 1 (l.drop p) p=zcl (l.getD p q0).kids.toNat (l.drop (p+1)) (p+1):=by
 rw [zin h]
 show (if mayB (l.getD p q0)=true then zcl (0+(l.getD p q0).kids.toNat) (l.drop (p+1)) (p+1) else none)=_
 rw [if_pos hm,Nat.zero_add]
theorem skipM_no {l:List Qn} {p:Nat} (h:p < l.length) (hm:¬ mayB (l.getD p q0)=true):zcl 1 (l.drop p) p=none:=by
 rw [zin h]
 unfold zcl
 rw [if_neg hm]
theorem skipM_next {l:List Qn} {p j e:Nat} (h:zcl j (l.drop (p+1)) (p+1)=some e) (m:Nat):zcl (j+m) (l.drop (p+1)) (p+1)=zcl m (l.drop e) e:=by
 have:=(zcV _ _ _ _ (zdk _ _ _ _ h)).1
 rw [skipM_add,h]
 show zcl m ((l.drop (p+1)).drop (e - (p+1))) e=_
 rw [List.drop_drop,show p+1+(e - (p+1))=e by omega]
def litQ (l:List Qn):Prop:=l.length≤1000000∧∀ q∈l,q.path.length≤1000000∧q.val.length≤1000
theorem rEnd_ok (l:List Qn) (hl:litQ l):∀ (d p:Nat),p≤l.length→l.length - p≤d→ACalls Tryz.prog 34 [.sl (l.flatMap qC) l.length,i64 (p:Int)] [] (fun y _=>y=.ret (i64 (optE (zcl 1 (l.drop p) p)))):=by
 have hll:=hl.1
 have hout:∀ p,p=l.length→ACalls Tryz.prog 34 [.sl (l.flatMap qC) l.length,i64 (p:Int)] [] (fun y _=>y=.ret (i64 (optE (zcl 1 (l.drop p) p)))):=by
  intro p hp
  subst hp
  rw [List.drop_length]
  refine ACalls.body T_ok Tryz.func34 (by kernel_rfl) rfl Tryz.ntmps34 (congrArg Array.toList Tryz.results34) ?_
  have d0:decide ((l.length:Int) < 0)=false:=decide_eq_false (by omega)
  have d1:decide ((l.length:Int)≤(l.length:Int))=true:=decide_eq_true (by omega)
  have dza:=d0
  have dzb:=d1
  refine aQ83 ?_
  exact zap rfl
 intro d
 induction d with
 | zero=>intro p hp hd;exact hout p (by omega)
 | succ d ih =>
  intro p hp hd
  by_cases hlt:p < l.length
  rotate_left
  ·exact hout p (by omega)
  have hq:=hl.2 _ (zbQ q0 hlt)
  refine ACalls.body T_ok Tryz.func34 (by kernel_rfl) rfl Tryz.ntmps34 (congrArg Array.toList Tryz.results34) ?_
  have d0:decide ((p:Int) < 0)=false:=decide_eq_false (by omega)
  have d1:decide ((l.length:Int)≤(p:Int))=false:=decide_eq_false (by omega)
  have dza:=d0
  have dzb:=d1
  refine aQ83 ?_
  refine⟨by omega,by omega,Nat.le_refl _,hlt,?_⟩
  refine(rmay_ok (l.getD p q0) hq).pure (by simp [renL,AV.ren,qF.ren]) ?_
  rintro _ σ rfl
  refine⟨zay _ _,?_⟩
  cases hm:mayB (l.getD p q0) with
  | false =>
   rw [skipM_no hlt (by rw [hm];decide)]
   refine aQ81 ?_
   exact zap rfl
  | true =>
  have hsa:=skipM_at hlt hm
  refine aQ81 ?_
  refine⟨by unfold inI;omega,?_⟩
  rw [hsa]
  obtain⟨K,hK⟩:∃ K,K=(l.getD p q0).kids:=⟨_,rfl⟩
  rw [← hK]
  rw [zaK]
  refine⟨Nat,fun j=>j≤K.toNat,fun j=>[.sl (l.flatMap qC) l.length,i64 p,.bot,.bot,i64 0,i64 (optE (zcl j (l.drop (p+1)) (p+1))),i64 j,.bot,.bot,.bot,.bot,.bot,.bot,.bot,.bot,.bot,.bot,.bot,.bot,.bot,.bot,.bot,.bot,.bot,.bot,.bot,.bot,.bot,.bot,.bot,.bot,.bot,.bot,.bot,.bot,.bot,.bot,.bot,.bot,.bot,.bot,.bot],fun _=>[],fun j=>K.toNat - j,0,Nat.zero_le _,zab (q:=[]) rfl rfl (by decide) ?_ ?_,?_⟩
  ·refine aQ18 ?_
   simp [qF.fren,zdj,optE]
  ·first|exact aQ18 trivial|refine aQ18 ?_
  intro j hj
  have hj:j≤K.toNat:=hj
  dsimp only
  by_cases hjk:(j:Int) < K
  rotate_left
  ·have hjK:K.toNat=j:=by omega
   rw [hjK]
   try simp -implicitDefEqProofs only [LM9,eq_self,Nat.zero_mul,lzS,bx_P,zat,lzS,← hK,decide_eq_false hjk,TB,SB,Int.reduceToNat,Nat.reduceAdd,Nat.reduceEqDiff,Nat.reduceLT,Nat.reduceMod,Nat.reducePow,Nat.reduceSub,if_true,reduceIte]
   refine⟨by omega,by omega,Nat.le_refl _,hlt,?_⟩
   exact zap rfl
  cases hs:zcl j (l.drop (p+1)) (p+1) with
  | none =>
   have hz:zcl K.toNat (l.drop (p+1)) (p+1)=none:=by
    rw [show K.toNat=j+(K.toNat - j) by omega,skipM_add,hs]
    rfl
   rw [hz]
   have e1:optE none=-1:=rfl
   rw [e1]
   have d2:decide ((0:Int)≤-1)=false:=rfl
   try simp -implicitDefEqProofs only [LM9,eq_self,Nat.zero_mul,lzS,bx_P,zat,lzS,← hK,decide_eq_true hjk,d2,TB,SB,Int.reduceToNat,Nat.reduceAdd,Nat.reduceEqDiff,Nat.reduceLT,Nat.reduceMod,Nat.reducePow,Nat.reduceSub,if_true,reduceIte]
   exact⟨by omega,by omega,Nat.le_refl _,hlt,zap rfl⟩
  | some e =>
   have hse:=zcV _ _ _ _ (zdk _ _ _ _ hs)
   have hge:=skip_ge _ _ _ _ (zdk _ _ _ _ hs)
   rw [List.length_drop] at hse
   have e1:optE (some e)=(e:Int):=rfl
   rw [e1]
   have d2:decide ((0:Int)≤(e:Int))=true:=decide_eq_true (by omega)
   try simp -implicitDefEqProofs only [LM9,eq_self,Nat.zero_mul,lzS,bx_P,zat,lzS,← hK,decide_eq_true hjk,d2,TB,SB,Int.reduceToNat,Nat.reduceAdd,Nat.reduceEqDiff,Nat.reduceLT,Nat.reduceMod,Nat.reducePow,Nat.reduceSub,if_true,reduceIte]
   refine⟨by omega,by omega,Nat.le_refl _,hlt,?_⟩
   refine(ih e (by omega) (by omega)).pure (by simp [renL,AV.ren,qF.fren,zac]) ?_
   rintro _ σ rfl
   refine⟨zac _ _,?_⟩
   refine aQ81 ?_
   refine⟨by unfold inI;omega,?_⟩
   rw [zad]
   refine⟨j+1,by (show j+1≤K.toNat);omega,by (show K.toNat - (j+1) < K.toNat - j);omega,zab (q:=[]) rfl rfl (by decide) ?_ ?_⟩
   ·rw [skipM_next hs]
    refine aQ18 ?_
    try simp [qF.fren]
   ·first|exact aQ18 trivial|refine aQ18 ?_
theorem end_all {l:List Qn} (h:∀ q∈l,mayB q=true) (p:Nat):zcl 1 (l.drop p) p=skip 1 (l.drop p) p:=skipM_eq _ _ _ fun q hq=>h q (List.mem_of_mem_drop hq)
theorem rChk_ok (l:List Qn) (hl:litQ l):ACalls Tryz.prog 12 [.sl (l.flatMap qC) l.length] [] (fun y _=>y=.ret (bl (chkB l))):=by
 have hll:=hl.1
 refine ACalls.body T_ok Tryz.func12 (by kernel_rfl) rfl Tryz.ntmps12 (congrArg Array.toList Tryz.results12) ?_
 by_cases h24:(l.length:Int)≤24
 rotate_left
 ·have dza:=decide_eq_false h24
  refine aQ82 ?_
  refine zaq ?_
  rw [chkB,decide_eq_false (by omega),Bool.false_and]
 by_cases h0:(l.length:Int)=0
 ·have hn:l=[]:=List.eq_nil_of_length_eq_zero (by omega)
  have dza:=decide_eq_true h24
  have dzb:=decide_eq_true h0
  refine aQ83 ?_
  refine zaq ?_
  rw [hn]
  rfl
 have dza:=decide_eq_true h24
 have dzb:=decide_eq_false h0
 refine aQ83 ?_
 have he:=rEnd_ok l hl l.length 0 (Nat.zero_le _) (by omega)
 rw [List.drop_zero] at he
 refine he.pure (by simp [renL,AV.ren,qF.fren,i64]) ?_
 rintro _ σ rfl
 refine⟨zac _ _,?_⟩
 have hem:l.isEmpty=false:=by
  cases l with
  | nil=>exact absurd rfl h0
  | cons=>rfl
 have hd:decide (optE (zcl 1 l 0)=(l.length:Int))=chkB l:=by
  rw [chkB,hem,decide_eq_true (show l.length≤24 by omega),Bool.true_and,Bool.false_or]
  have hsc:=skip_cnt l 1 0
  rw [Nat.zero_add] at hsc
  cases hs:zcl 1 l 0 with
  | none =>
   rw [decide_eq_false (show ¬ optE none=(l.length:Int) from fun h=>by unfold optE at h;dsimp only at h;omega)]
   symm
   rw [Bool.and_eq_false_iff]
   by_cases hm:l.all mayB=true
   ·right
    refine decide_eq_false fun hc=>?_
    have h1:=hsc.2 hc
    rw [← skipM_eq l 1 0 (List.all_eq_true.1 hm),hs] at h1
    cases h1
   ·left
    simpa using hm
  | some e =>
   by_cases hee:e=l.length
   ·rw [hee] at hs
    have hm:=skipM_all l 1 0 (by rw [hs,Nat.zero_add])
    have h1:=zdk _ _ _ _ hs
    rw [List.all_eq_true.2 hm,decide_eq_true (hsc.1 h1),Bool.true_and,hee]
    exact decide_eq_true rfl
   ·rw [decide_eq_false (show ¬ optE (some e)=(l.length:Int) from fun h=>hee (by unfold optE at h;dsimp only at h;omega))]
    symm
    rw [Bool.and_eq_false_iff]
    right
    refine decide_eq_false fun hc=>?_
    have h1:=hsc.2 hc
    rw [zdk _ _ _ _ hs] at h1
    injection h1 with h1
    exact hee h1
 have dza:=hd
 refine aQ82 ?_
 exact zaq rfl
theorem zja (l:List Qn) (p:Int) (hl:litQ l):ACalls Tryz.prog 15 [.sl (l.flatMap qC) l.length,i64 p] [] (fun y _=>y=.ret (.sl ((zbT l p).map i64) (zbT l p).length)):=by
 have hll:=hl.1
 have hend:∀ σ:zaa,zbT l p=[]→endQ 0 (.lit (.slice none 0 0)) σ (fun r _=>AEnd.ret r=.ret (.sl ((zbT l p).map i64) (zbT l p).length)):=by
  intro σ h
  rw [h]
  exact zaX [] (.sl (([]:List Int).map i64) ([]:List Int).length) (.inr ⟨rfl,rfl⟩) ⟨[],_,[],rfl,rfl,by decide,by simp [AV.ren,renL],trivial,rfl⟩
 refine ACalls.body T_ok Tryz.func15 (by kernel_rfl) rfl Tryz.ntmps15 (congrArg Array.toList Tryz.results15) ?_
 refine aQ81 ?_
 refine(rChk_ok l hl).pure (by simp [renL,AV.ren,qF.fren]) ?_
 rintro _ σ rfl
 refine⟨zay _ _,?_⟩
 cases hb:chkB l with
 | false =>
  refine aQ81 ?_
  refine hend _ (zfi fun h=>?_)
  rw [hb] at h
  cases h.1
 | true =>
  by_cases p0:p < 0
  ·have dza:=decide_eq_true p0
   refine aQ82 ?_
   exact hend _ (zfi fun h=>by omega)
  by_cases p1:(l.length:Int)≤p
  ·have dza:=decide_eq_false p0
   have dzb:=decide_eq_true p1
   refine aQ83 ?_
   exact hend _ (zfi fun h=>by omega)
  obtain⟨n,rfl⟩:∃ n:Nat,p=n:=⟨p.toNat,by omega⟩
  have hn:n < l.length:=by omega
  obtain⟨c1,c2,c3⟩:=ziu hb
  have hcn:=c3 fun h=>by rw [h] at hn;exact absurd hn (Nat.not_lt_zero _)
  rw [zjS hb hn]
  clear hend
  have hlen:=zei hcn hn
  have hlt:=fun j=>@kp_lt l 1 n j hcn hn
  have hstep:=fun j=>@kp_step l 1 n j hcn hn
  have hkid:=fun j=>@kp_kid l 1 n j hcn hn
  have hk0:0≤(l.getD n q0).kids:=by
   have hm:=c2 _ (zbQ q0 hn)
   unfold mayB at hm
   split at hm
   ·rw [Bool.and_eq_true,Bool.and_eq_true] at hm
    have:=of_decide_eq_true hm.1.1
    omega
   ·split at hm
    ·rw [Bool.and_eq_true,Bool.and_eq_true] at hm
     have:=of_decide_eq_true hm.1.1
     omega
    ·split at hm
     ·rw [Bool.and_eq_true,Bool.and_eq_true] at hm
      have:=of_decide_eq_true hm.1.1
      omega
     ·cases hm
  have hCl:(l.getD n q0).kids.toNat≤1000000:=by
   have:=zfj (n+1) (l.drop (n+1))
   rw [List.length_drop] at this
   rw [← hlen,zbS,List.length_take]
   omega
  obtain⟨K,hK⟩:∃ K,(l.getD n q0).kids=K:=⟨_,rfl⟩
  rw [hK] at hlen hlt hstep hkid hk0 hCl
  have dza:=decide_eq_false p0
  have dzb:=decide_eq_false p1
  refine aQ83 ?_
  refine⟨by unfold inI;omega,?_⟩
  rw [zaK]
  refine⟨Nat,fun j=>j≤K.toNat,fun j=>[.sl (l.flatMap qC) l.length,i64 n,.bot,.bot,.bot,.ref 0 0 (((zbS l n).take j).map Int.ofNat).length 1,i64 (kp l n j),i64 j,.bot,.bot,.bot,.bot,.bot,.bot,.bot,.bot,.bot,.bot,.bot,.bot,.bot,.bot,.bot,.bot,.bot,.bot,.bot,.bot,.bot,.bot,.bot,.bot,.bot,.bot,.bot,.bot,.bot,.bot,.bot,.bot],fun j=>[.rw ((((zbS l n).take j).map Int.ofNat).map i64)],fun j=>K.toNat - j,0,Nat.zero_le _,zbv 5 1 rfl (zab (q:=[0]) rfl rfl (by decide) ?_ ?_),?_⟩
  ·refine aQ18 ?_
   simp [kp_zero,qF.fren,AV.ren]
  ·refine aQ18 ?_
   simp [zaw,zar,renL]
  intro j hj
  have hj:j≤K.toNat:=hj
  dsimp only
  have hl1:((zbS l n).take j).length=j:=by rw [List.length_take];omega
  by_cases hjC:(j:Int) < K
  rotate_left
  ·have hjK:j=K.toNat:=by omega
   rw [List.take_of_length_le (by omega)]
   have dza:=hK
   have dzb:=decide_eq_false hjC
   refine aQ83 ?_
   refine⟨by omega,by omega,Nat.le_refl _,hn,?_⟩
   generalize (zbS l n).map Int.ofNat=G
   exact zaX [0] (.sl (G.map i64) G.length) (frz_I rfl rfl) ⟨[],_,[],rfl,rfl,by decide,by simp [AV.ren,zam i64 zac],trivial,rfl⟩
  have hjC2:j < K.toNat:=by omega
  obtain⟨t1,t2,t3⟩:=hlt j hjC2
  have hEnd:=rEnd_ok l hl l.length (kp l n j) (by omega) (by omega)
  rw [end_all c2,hstep j hjC2] at hEnd
  have e1:optE (some (kp l n (j+1)))=((kp l n (j+1):Nat):Int):=rfl
  rw [e1] at hEnd
  have dza:=hK
  have dzb:=decide_eq_true hjC
  refine aQ83 ?_
  refine⟨by omega,by omega,Nat.le_refl _,hn,?_⟩
  refine zaG i64 zgC rfl rfl T31 T31 (zc5 _) T3 zc4 (l:=((zbS l n).take j).map Int.ofNat) (ys:=[(kp l n j:Int)]) (m:=1) rfl rfl rfl (by rw [List.length_map];omega) (by simp only [zaC,List.length_map];omega) ?_
  refine aQ81 ?_
  refine hEnd.pure (by simp [renL,AV.ren,qF.fren,zac]) ?_
  rintro _ σ rfl
  refine⟨zac _ _,?_⟩
  refine aQ81 ?_
  refine⟨by unfold inI;omega,?_⟩
  rw [zad]
  refine⟨j+1,by (show j+1≤K.toNat);omega,by (show K.toNat - (j+1) < K.toNat - j);omega,?_⟩
  have e2:((zbS l n).take (j+1)).map Int.ofNat=((zbS l n).take j).map Int.ofNat++[(kp l n j:Int)]:=by rw [hkid j hjC2,List.map_append];rfl
  rw [e2,List.length_append]
  refine zab (q:=[2]) rfl rfl (by decide) ?_ ?_
  ·refine aQ18 ?_
   try simp [qF.fren,AV.ren]
  ·first|exact aQ18 trivial|refine aQ18 ?_
theorem any_no {L:List (List Nd)} {w:List Nd} (h:∀ i,i < L.length→L.getD i []≠w):(L.any fun x=>decide (x=w))=false:=by
 rw [List.any_eq_false]
 intro x hx hp
 obtain⟨i,hi,rfl⟩:=List.getElem_of_mem hx
 have:=h i hi
 rw [List.getD_eq_getElem?_getD,List.getElem?_eq_getElem hi] at this
 exact this (of_decide_eq_true hp)
theorem any_yes {L:List (List Nd)} {w x:List Nd} (h:x∈L) (hw:x=w):(L.any fun x=>decide (x=w))=true:=List.any_eq_true.2 ⟨x,h,by simpa using hw⟩
theorem ramong_ok (L:List (List Nd)) (w:List Nd) (hL:L.length≤1000000) (hm:∀ x∈L,x.length≤1000):ACalls Tryz.prog 107 [.sl (L.map slNs) L.length,.sl (w.flatMap nC) w.length] [] (fun y _=>y=.ret (bl (L.any fun x=>decide (x=w)))):=by
 refine ACalls.body T_ok Tryz.func107 (by kernel_rfl) rfl Tryz.ntmps107 (congrArg Array.toList Tryz.results107) ?_
 refine aQ81 ?_
 rw [zaK]
 refine⟨Nat,fun k=>k≤L.length∧∀ i,i < k→L.getD i []≠w,fun k=>[.sl (L.map slNs) L.length,.sl (w.flatMap nC) w.length,.bot,.bot,bl false,i64 k,.bot,.bot,.bot,.bot,.bot,.bot,.bot,.bot,.bot,.bot,.bot,.bot],fun _=>[],fun k=>L.length - k,0,⟨Nat.zero_le _,fun i hi=>absurd hi (Nat.not_lt_zero _)⟩,zab (q:=[]) rfl rfl (by decide) ?_ ?_,?_⟩
 ·refine aQ18 ?_
  simp [zal,zai,AV.ren]
 ·first|exact aQ18 trivial|refine aQ18 ?_
 rintro k ⟨hk,hno⟩
 dsimp only
 by_cases hlt:k < L.length
 rotate_left
 ·have dk:decide ((k:Int) < (L.length:Int))=false:=decide_eq_false (by omega)
  have dza:=dk
  refine aQ82 ?_
  rw [any_no fun i hi=>hno i (by omega)]
  exact zaq rfl
 have dk:decide ((k:Int) < (L.length:Int))=true:=decide_eq_true (by omega)
 have hmem:=zbQ ([]:List Nd) hlt
 have hxl:=hm _ hmem
 have dza:=dk
 refine aQ82 ?_
 refine⟨by omega,by omega,Nat.le_refl _,hlt,?_⟩
 generalize hx:L.getD k []=x at hmem hxl ⊢
 rw [show slNs x=.sl (x.flatMap nC) x.length from rfl]
 refine(rSame_ok x w (by omega)).pure (by simp [renL,AV.ren,zai]) ?_
 rintro _ σ rfl
 refine⟨zay _ _,?_⟩
 by_cases hxw:x=w
 ·have dza:=decide_eq_true hxw
  refine aQ82 ?_
  rw [any_yes hmem hxw]
  exact zaq rfl
 ·have dza:=decide_eq_false hxw
  refine aQ82 ?_
  refine⟨by unfold inI;omega,?_⟩
  rw [zad]
  refine⟨k+1,⟨by omega,fun i hi=>?_⟩,by (show L.length - (k+1) < L.length - k);omega,zab (q:=[]) rfl rfl (by decide) ?_ ?_⟩
  ·rcases Nat.lt_succ_iff_lt_or_eq.1 hi with h | rfl
   ·exact hno i h
   ·rw [hx];exact hxw
  ·refine aQ18 ?_
   simp [zal,zai,AV.ren]
  ·first|exact aQ18 trivial|refine aQ18 ?_
theorem rstands_ok (d:List Nd) (s:List UInt8) (hd:d.length≤1000) (hs:s.length≤1000000):ACalls Tryz.prog 106 [.sl (d.flatMap nC) d.length,str s] [] (fun y _=>y=.ret (.sl ((stV d s).map slNs) (stV d s).length)):=by
 have hf:=zgk d s
 have hsv:=zgU d s
 have hst:stV d s=(za2 d s).1++zc8 d s:=rfl
 rw [hst,List.length_append] at hsv
 rw [hst]
 refine ACalls.body T_ok Tryz.func106 (by kernel_rfl) rfl Tryz.ntmps106 (congrArg Array.toList Tryz.results106) ?_
 refine aQ81 ?_
 refine(rEach_ok d s hd (by omega)).pure aQ12 ?_
 rintro _ σ rfl
 refine⟨zcp _ _ _ _,?_⟩
 refine aQ81 ?_
 refine(rElements_ok d s hd (by omega)).pure aQ12 ?_
 rintro _ σ rfl
 refine⟨zcp _ _ _ _,?_⟩
 generalize (za2 d s).1=L at hf hsv ⊢
 generalize zc8 d s=E at hsv ⊢
 refine aQ81 ?_
 refine append_nilK slNs zbC rfl rfl T40 T40 (zc5 _) T23 (Go.Eng.one_sl _) (zfh L) (by omega) (by simp only [tySl];omega) ?_
 refine aQ81 ?_
 refine zaG slNs zbC rfl rfl T40 T40 (zc5 _) T23 (Go.Eng.one_sl _) (l:=L) (ys:=E) (m:=E.length) rfl rfl (zfh E) (by omega) (by simp only [tySl];omega) ?_
 refine aQ81 ?_
 rw [show L.length+E.length=(L++E).length from List.length_append.symm]
 generalize L++E=M
 exact zaX [1] (.sl (M.map slNs) M.length) (zdB rfl) ⟨[],.sl (M.map slNs) M.length,[],rfl,rfl,by decide,by simp [AV.ren,zal],trivial,rfl⟩
set_option linter.defProp false in
def LM2:=And.intro LM0 (And.intro LB5 (And.intro LB6 (And.intro LB7 (And.intro LB8 (And.intro LB9 (And.intro LB10 (And.intro LB13 (And.intro LB14 (And.intro LB15 (And.intro LB17 (And.intro LB18 (And.intro LB20 (LB21)))))))))))))
def Tri3 (z:Int):Prop:=z=-1∨z=0∨z=1
theorem sgn3 (a b:Bool):Tri3 (sgn a b):=by cases a <;> cases b <;> simp [sgn,Tri3]
theorem cmpF3:∀ (f:Nat) (a b:List Nd),Tri3 (cmpF f a b):=by
 intro f
 induction f with
 | zero=>intro a b;exact .inr (.inl rfl)
 | succ f ih =>
  intro a b
  unfold cmpF
  dsimp only
  split
  ·exact sgn3 _ _
  ·split
   ·exact sgn3 _ _
   ·split
    ·exact sgn3 _ _
    ·split
     ·rename_i n hf
      obtain⟨x,hx,rfl⟩:=List.mem_map.1 (List.mem_of_find?_eq_some hf)
      exact ih _ _
     ·exact sgn3 _ _
theorem cmp_three (a b:List Nd):Tri3 (cmpR a b):=by
 unfold cmpR
 split
 ·exact cmpF3 _ _ _
 ·exact .inr (.inl rfl)
theorem rleaf_ok (q:Qn) (d:List Nd) (hm:mayB q=true) (ho:q.op < 5) (hq:q.path.length≤1000000∧q.val.length≤1000) (hd:d.length≤1000):ACalls Tryz.prog 65 [.agg (qC q),.sl (d.flatMap nC) d.length] [] (fun y _=>y=.ret (bl (zbs d q))):=by
 have hst:=rstands_ok d q.path hd hq.1
 have hsl:=zgU d q.path
 have hsm:=fun x=>@zjQ d x q.path
 obtain⟨ml1,ml2,ml3⟩:=zjR hm ho
 rw [qC_eq]
 refine ACalls.body T_ok Tryz.func65 (by kernel_rfl) rfl Tryz.ntmps65 (congrArg Array.toList Tryz.results65) ?_
 refine aQ84 ?_
 refine hst.pure aQ12 ?_
 rintro _ σ rfl
 refine⟨by simp [AEnd.noid,AV.ren,zal],?_⟩
 by_cases h2:q.op=2
 ·have e:zbs d q=decide (0 < (stV d q.path).length):=by
   rw [zbs,if_neg (by omega),if_neg (by omega),if_pos h2,stV,List.length_append]
   refine decide_eq_decide.2 ⟨fun h=>by omega,fun h=>?_⟩
   rcases Nat.eq_zero_or_pos (za2 d q.path).1.length with h0 | h0
   ·have hn:=List.eq_nil_of_length_eq_zero h0
    have:zc8 d q.path=[]:=by rw [zc8,hn];rfl
    rw [this,h0] at h
    exact absurd h (by decide)
   ·exact h0
  rw [e]
  have dza:=decide_eq_true h2
  refine aQ85 ?_
  refine zaq ?_
  rw [show decide ((0:Int) < ((stV d q.path).length:Int))=decide (0 < (stV d q.path).length) from decide_eq_decide.2 (by omega)]
 by_cases h0:q.op=0
 ·have e:zbs d q=(stV d q.path).any fun v=>decide (v=q.val):=by rw [zbs,if_pos h0]
  rw [e]
  have dza:=decide_eq_false h2
  have dzb:=decide_eq_true h0
  try simp -implicitDefEqProofs only [LM2,eq_self,Nat.zero_mul,lzS,bx_P,zat,lzS,eq_self,dza,dzb,TB,SB,Int.reduceToNat,Nat.reduceAdd,Nat.reduceEqDiff,Nat.reduceLT,Nat.reduceMod,Nat.reducePow,Nat.reduceSub,if_true,reduceIte]
  refine(ramong_ok (stV d q.path) q.val (by omega) (fun x hx=>by have:=(hsm x hx).2;omega)).pure (by simp [renL,AV.ren,zai,zal]) ?_
  rintro _ σ rfl
  refine⟨zay _ _,?_⟩
  refine aQ84 ?_
  exact zaq rfl
 by_cases h1:q.op=1
 ·have dza:=decide_eq_false h2
  have dzb:=decide_eq_false h0
  have dzc:=decide_eq_true h1
  refine aQ86 ?_
  have he:zau q.val=0:=by
   unfold valB at ml3
   rw [if_neg h2,Bool.and_eq_true] at ml3
   exact of_decide_eq_true ml3.1
  have e:zbs d q=(zax q.val 0).any fun k=>(stV d q.path).any fun v=>decide (v=zaz q.val k):=by rw [zbs,if_neg h0,if_pos h1]
  rw [e]
  obtain⟨v0,v120⟩:=za1 he
  obtain⟨r,hr1,_,_,_⟩:=za9 he v0
  have hkz:=zjX he
  have hkl:=zde q.val 0 (by omega)
  have hkm:=fun z=>@zdf q.val 0 z
  refine(zcf q.val (by omega) 0 (by omega) hr1).pure aQ10 ?_
  rintro _ σ rfl
  refine⟨zbw _ _ _ _ _ _,?_⟩
  rw [hkz]
  clear hkz hst e
  generalize zax q.val 0=ps at hkl hkm ⊢
  generalize keyZ q.val 0 (q.val.getD 0 n0d).kids.toNat=ss
  refine aQ84 ?_
  rw [zaK]
  refine⟨Nat,fun k=>k≤ps.length∧∀ i,i < k→((stV d q.path).any fun v=>decide (v=zaz q.val (ps.getD i 0)))=false,fun k=>[.bot,.bot,.ptr 0 0,.bot,bl false,.sl ((stV d q.path).map slNs) (stV d q.path).length,.ptr 1 0,i64 k,.bot,.bot,.bot,.bot,.bot,.bot,.bot,.bot,.bot,.bot,.bot,.bot,.bot,.bot,.bot,.bot,.bot,.bot,.bot,.bot,.bot,.bot,.bot,.bot,.bot,.bot,.bot,.bot,.bot,.bot,.bot,.bot,.bot,.bot,.bot,.bot,.bot,.bot,.bot,.bot,.bot,.bot,.bot,.bot,.bot,.bot,.bot,.bot,.bot,.bot,.bot,.bot,.bot,.bot,.bot,.bot,.bot,.bot,.bot,.bot,.bot,.bot,.bot,.bot,.bot,.bot,.bot,.bot,.bot,.bot,.bot,.bot,.bot,.bot,.bot,.bot,.bot,.bot,.bot,.bot,.bot,.bot,.bot,.bot,.bot,.bot,.bot,.bot,.bot,.bot,.bot,.bot,.bot,.bot,.bot],fun _=>[.rw [i64 q.op,str q.path,.sl (q.val.flatMap nC) q.val.length,i64 q.kids],.rw (sC r.1 r.2 false (slI ps) (slI ss))],fun k=>ps.length - k,0,⟨Nat.zero_le _,fun i hi=>absurd hi (Nat.not_lt_zero _)⟩,zab (q:=[0,1]) rfl rfl (by decide) ?_ ?_,?_⟩
  ·refine aQ18 ?_
   simp [zal,AV.ren]
  ·refine aQ18 ?_
   simp [zaw,zar,zbr,renL,AV.ren,zai,zaj,zac]
  rintro k ⟨hk,hno⟩
  dsimp only
  by_cases hlt:k < ps.length
  rotate_left
  ·have dk:decide ((k:Int) < (ps.length:Int))=false:=decide_eq_false (by omega)
   have dza:=dk
   refine aQ85 ?_
   have ha:(ps.any fun k=>(stV d q.path).any fun v=>decide (v=zaz q.val k))=false:=by
    rw [List.any_eq_false]
    intro x hx hp
    obtain⟨i,hi,rfl⟩:=List.getElem_of_mem hx
    have:=hno i (by omega)
    rw [List.getD_eq_getElem?_getD,List.getElem?_eq_getElem hi] at this
    rw [Option.getD_some] at this
    rw [this] at hp
    cases hp
   rw [ha]
   exact zaq rfl
  have dk:decide ((k:Int) < (ps.length:Int))=true:=decide_eq_true (by omega)
  obtain⟨n,hn1,hn2⟩:=hkm (ps.getD k 0) (zbQ 0 hlt)
  obtain⟨r2,hr2,_,_,_⟩:=za9 he hn2
  obtain⟨hp,hl,g1,g2⟩:=zcK he hn2 hr2
  have hsub:=zdL he hn2 hr2
  have hmem:=zbQ (0:Int) hlt
  rw [hn1] at hmem
  have dza:=dk
  refine aQ85 ?_
  refine zcw (by kernel_rfl) (by kernel_rfl) ?_
  refine aQ84 ?_
  refine⟨by omega,by omega,hlt,by omega,by omega,hlt,?_⟩
  rw [hn1]
  refine zcg (zcf q.val (by omega) n (by omega) hr2) aQ10 (zbw _ _ _ _ _ _) ?_
  refine aQ84 ?_
  refine sl_N T23 T66 (by omega) (by omega) (by omega) ?_
  rw [show (r2.1:Int).toNat=r2.1 from rfl,Int.toNat_natCast,← hsub,← hl]
  refine aQ84 ?_
  refine zcg (ramong_ok (stV d q.path) (zaz q.val n) (by omega) (fun x hx=>by have:=(hsm x hx).2;omega)) (by simp [renL,AV.ren,zai,zal]) (zay _ _) ?_
  cases hA:(stV d q.path).any fun v=>decide (v=zaz q.val n) with
  | true =>
   refine aQ84 ?_
   have ha:(ps.any fun k=>(stV d q.path).any fun v=>decide (v=zaz q.val k))=true:=List.any_eq_true.2 ⟨_,hmem,hA⟩
   rw [ha]
   exact zaq rfl
  | false =>
   refine aQ84 ?_
   refine⟨by unfold inI;omega,?_⟩
   rw [zad]
   refine⟨k+1,⟨by omega,fun i hi=>?_⟩,by (show ps.length - (k+1) < ps.length - k);omega,zab (q:=[0,1]) rfl rfl (by decide) ?_ ?_⟩
   ·rcases Nat.lt_succ_iff_lt_or_eq.1 hi with h | rfl
    ·exact hno i h
    ·rw [hn1];exact hA
   ·refine aQ18 ?_
    simp [zal,AV.ren]
   ·refine aQ18 ?_
    simp [zaw,zar,zbr,renL,AV.ren,zai,zaj,zac]
 have he:=val_leaf hm (by
  have:=hm
  unfold mayB at this
  split at this
  ·omega
  ·rw [if_neg (by omega),if_neg (by omega)] at this
   cases this) ho
 obtain⟨v0,v120⟩:=za1 he
 obtain⟨c,hc⟩:∃ c:Int,c=if q.op=3 then -1 else 1:=⟨_,rfl⟩
 have e:zbs d q=(stV d q.path).any fun v=>decide ((v.getD 0 n0d).kind=(q.val.getD 0 n0d).kind) && decide (cmpR v q.val=c):=by rw [zbs,if_neg h0,if_neg h1,if_neg h2,hc]
 rw [e]
 clear hst e
 have h34:q.op=3∨q.op=4:=by
  have:=hm
  unfold mayB at this
  split at this
  ·omega
  ·rw [if_neg (by omega),if_neg (by omega)] at this
   cases this
 have dza:=decide_eq_false h2
 have dzb:=decide_eq_false h0
 have dzc:=decide_eq_false h1
 refine aQ86 ?_
 rw [zaK]
 refine⟨Nat,fun k=>k≤(stV d q.path).length∧∀ i,i < k→(decide ((((stV d q.path).getD i []).getD 0 n0d).kind=(q.val.getD 0 n0d).kind) && decide (cmpR ((stV d q.path).getD i []) q.val=c))=false,fun k=>[.bot,.bot,.ptr 0 0,.bot,bl false,.sl ((stV d q.path).map slNs) (stV d q.path).length,.bot,.bot,i64 k,.bot,.bot,.bot,.bot,.bot,.bot,.bot,.bot,.bot,.bot,.bot,.bot,.bot,.bot,.bot,.bot,.bot,.bot,.bot,.bot,.bot,.bot,.bot,.bot,.bot,.bot,.bot,.bot,.bot,.bot,.bot,.bot,.bot,.bot,.bot,.bot,.bot,.bot,.bot,.bot,.bot,.bot,.bot,.bot,.bot,.bot,.bot,.bot,.bot,.bot,.bot,.bot,.bot,.bot,.bot,.bot,.bot,.bot,.bot,.bot,.bot,.bot,.bot,.bot,.bot,.bot,.bot,.bot,.bot,.bot,.bot,.bot,.bot,.bot,.bot,.bot,.bot,.bot,.bot,.bot,.bot,.bot,.bot,.bot,.bot,.bot,.bot,.bot,.bot,.bot,.bot,.bot,.bot,.bot],fun _=>[.rw [i64 q.op,str q.path,.sl (q.val.flatMap nC) q.val.length,i64 q.kids]],fun k=>(stV d q.path).length - k,0,⟨Nat.zero_le _,fun i hi=>absurd hi (Nat.not_lt_zero _)⟩,zab (q:=[0]) rfl rfl (by decide) ?_ ?_,?_⟩
 ·refine aQ18 ?_
  simp [zal,AV.ren]
 ·refine aQ18 ?_
  exact aQ87 trivial
 rintro k ⟨hk,hno⟩
 dsimp only
 by_cases hlt:k < (stV d q.path).length
 rotate_left
 ·have dk:decide ((k:Int) < ((stV d q.path).length:Int))=false:=decide_eq_false (by omega)
  have dza:=dk
  refine aQ85 ?_
  have ha:((stV d q.path).any fun v=>decide ((v.getD 0 n0d).kind=(q.val.getD 0 n0d).kind) && decide (cmpR v q.val=c))=false:=by
   rw [List.any_eq_false]
   intro x hx hp
   obtain⟨i,hi,rfl⟩:=List.getElem_of_mem hx
   have:=hno i (by omega)
   rw [show (stV d q.path).getD i []=(stV d q.path)[i] by rw [List.getD_eq_getElem?_getD,List.getElem?_eq_getElem hi];rfl] at this
   rw [this] at hp
   cases hp
  rw [ha]
  exact zaq rfl
 have dk:decide ((k:Int) < ((stV d q.path).length:Int))=true:=decide_eq_true (by omega)
 have hmem:=zbQ ([]:List Nd) hlt
 obtain⟨x0,x1⟩:=hsm _ hmem
 have hC:=rCompare_ok ((stV d q.path).getD k []) q.val (by omega) (by omega)
 have h3:=cmp_three ((stV d q.path).getD k []) q.val
 obtain⟨x,hx⟩:∃ x,(stV d q.path).getD k []=x:=⟨_,rfl⟩
 rw [hx] at hmem x0 x1 hC h3
 have dza:=dk
 refine aQ85 ?_
 refine zcw (by kernel_rfl) (by kernel_rfl) ?_
 have dza:=hx
 refine aQ85 ?_
 refine⟨by omega,by omega,Nat.le_refl _,hlt,?_⟩
 rw [show slNs x=.sl (x.flatMap nC) x.length from rfl]
 refine zcg hC (by simp [renL,AV.ren,zai]) (zac _ _) ?_
 have dza:=hx
 refine aQ85 ?_
 refine zcw (by kernel_rfl) (by kernel_rfl) ?_
 have dza:=hx
 refine aQ85 ?_
 refine⟨by omega,by omega,Nat.le_refl _,hlt,?_⟩
 rw [show slNs x=.sl (x.flatMap nC) x.length from rfl]
 refine aQ84 ?_
 refine⟨by omega,by omega,Nat.le_refl _,?_⟩
 rw [zfk (t:=0) x0]
 refine aQ84 ?_
 refine⟨by omega,by omega,Nat.le_refl _,?_⟩
 rw [zfk (t:=0) v0]
 refine aQ84 ?_
 have hyes:(decide ((x.getD 0 n0d).kind=(q.val.getD 0 n0d).kind) && decide (cmpR x q.val=c))=true→endQ 0 (bl true) [.rw [i64 q.op,str q.path,.sl (q.val.flatMap nC) q.val.length,i64 q.kids]] (fun r _=>AEnd.ret r=.ret (bl ((stV d q.path).any fun v=>decide ((v.getD 0 n0d).kind=(q.val.getD 0 n0d).kind) && decide (cmpR v q.val=c)))):=fun h=>by
  rw [List.any_eq_true.2 ⟨x,hmem,h⟩]
  exact zaq rfl
 have hstp:(decide ((x.getD 0 n0d).kind=(q.val.getD 0 n0d).kind) && decide (cmpR x q.val=c))=false→∀ i,i < k+1→(decide ((((stV d q.path).getD i []).getD 0 n0d).kind=(q.val.getD 0 n0d).kind) && decide (cmpR ((stV d q.path).getD i []) q.val=c))=false:=fun h i hi=>by
  rcases Nat.lt_succ_iff_lt_or_eq.1 hi with h4 | rfl
  ·exact hno i h4
  ·rw [hx];exact h
 by_cases hkk:(x.getD 0 n0d).kind=(q.val.getD 0 n0d).kind
 rotate_left
 ·have dza:=decide_eq_false hkk
  refine aQ85 ?_
  refine⟨by unfold inI;omega,?_⟩
  rw [zad]
  refine⟨k+1,⟨by omega,hstp (by rw [decide_eq_false hkk,Bool.false_and])⟩,by (show (stV d q.path).length - (k+1) < (stV d q.path).length - k);omega,zab (q:=[0]) rfl rfl (by decide) ?_ ?_⟩
  ·refine aQ18 ?_
   simp [zal,AV.ren]
  ·refine aQ18 ?_
   exact aQ87 trivial
 rw [decide_eq_true hkk,Bool.true_and] at hyes hstp
 rcases h34 with h3q | h4q
 ·rw [if_pos h3q] at hc
  subst hc
  by_cases hn:cmpR x q.val < 0
  ·have dza:=decide_eq_true hkk
   have dzb:=decide_eq_true h3q
   have dzc:=decide_eq_true hn
   refine aQ86 ?_
   exact hyes (decide_eq_true (by unfold Tri3 at h3;omega))
  ·try simp -implicitDefEqProofs only [LM2,eq_self,Nat.zero_mul,lzS,bx_P,zat,lzS,eq_self,decide_eq_true hkk,decide_eq_true h3q,decide_eq_false hn,decide_eq_false (show ¬ q.op=4 by omega),TB,SB,Int.reduceToNat,Nat.reduceAdd,Nat.reduceEqDiff,Nat.reduceLT,Nat.reduceMod,Nat.reducePow,Nat.reduceSub,if_true,reduceIte]
   refine⟨by unfold inI;omega,?_⟩
   rw [zad]
   refine⟨k+1,⟨by omega,hstp (decide_eq_false (by omega))⟩,by (show (stV d q.path).length - (k+1) < (stV d q.path).length - k);omega,zab (q:=[0]) rfl rfl (by decide) ?_ ?_⟩
   ·refine aQ18 ?_
    simp [zal,AV.ren]
   ·refine aQ18 ?_
    exact aQ87 trivial
 ·rw [if_neg (by omega)] at hc
  subst hc
  by_cases hn:0 < cmpR x q.val
  ·try simp -implicitDefEqProofs only [LM2,eq_self,Nat.zero_mul,lzS,bx_P,zat,lzS,eq_self,decide_eq_true hkk,decide_eq_false (show ¬ q.op=3 by omega),decide_eq_true h4q,decide_eq_true hn,TB,SB,Int.reduceToNat,Nat.reduceAdd,Nat.reduceEqDiff,Nat.reduceLT,Nat.reduceMod,Nat.reducePow,Nat.reduceSub,if_true,reduceIte]
   exact hyes (decide_eq_true (by unfold Tri3 at h3;omega))
  ·try simp -implicitDefEqProofs only [LM2,eq_self,Nat.zero_mul,lzS,bx_P,zat,lzS,eq_self,decide_eq_true hkk,decide_eq_false (show ¬ q.op=3 by omega),decide_eq_true h4q,decide_eq_false hn,TB,SB,Int.reduceToNat,Nat.reduceAdd,Nat.reduceEqDiff,Nat.reduceLT,Nat.reduceMod,Nat.reducePow,Nat.reduceSub,if_true,reduceIte]
   refine⟨by unfold inI;omega,?_⟩
   rw [zad]
   refine⟨k+1,⟨by omega,hstp (decide_eq_false (by omega))⟩,by (show (stV d q.path).length - (k+1) < (stV d q.path).length - k);omega,zab (q:=[0]) rfl rfl (by decide) ?_ ?_⟩
   ·refine aQ18 ?_
    simp [zal,AV.ren]
   ·refine aQ18 ?_
    exact aQ87 trivial
section
variable {K : AV → Prop}
theorem ldc_Q0 (q:Qn):ld2 (some zaC) (some (qC q)) 0 K=K (i64 q.op):=lz0 rfl rfl _ _
theorem ldc_Qw (q:Qn):ld2 (some tyQ) (some (qC q)) 0 K=K (.agg (qC q)):=lzW rfl rfl
end
theorem take_all {α:Type} (z:α) (f:α→Bool) {l:List α} {k:Nat} (h:k < l.length):(l.take (k+1)).all f=((l.take k).all f && f (l.getD k z)):=by
 rw [zbR z h,List.all_append,List.all_cons,List.all_nil,Bool.and_true]
theorem take_any {α:Type} (z:α) (f:α→Bool) {l:List α} {k:Nat} (h:k < l.length):(l.take (k+1)).any f=((l.take k).any f || f (l.getD k z)):=by
 rw [zbR z h,List.any_append,List.any_cons,List.any_nil,Bool.or_false]
theorem rso_ok (l:List Qn) (d:List Nd) (hl:litQ l) (hm:∀ q∈l,mayB q=true) (hb:chkB l=true) (hc:cnt l=some 1) (hd:d.length≤1000):∀ (m p:Nat),p < l.length→l.length - p≤m→ACalls Tryz.prog 33 [.sl (l.flatMap qC) l.length,i64 (p:Int),.sl (d.flatMap nC) d.length] [] (fun y _=>y=.ret (bl (zcN (zbs d) l p))):=by
 have hll:=hl.1
 intro m
 induction m with
 | zero=>intro p hp h;omega
 | succ m ih =>
  intro p hp hpm
  have hq:=hl.2 _ (zbQ q0 hp)
  have hmq:=hm _ (zbQ q0 hp)
  have hv:=valuQ_eq (zbs d) hc hp
  have hks:=zjS hb hp
  have hkl:=zei hc hp
  refine ACalls.body T_ok Tryz.func33 (by kernel_rfl) rfl Tryz.ntmps33 (congrArg Array.toList Tryz.results33) ?_
  refine aQ88 ?_
  refine⟨by omega,by omega,Nat.le_refl _,hp,?_⟩
  by_cases h5:(l.getD p q0).op < 5
  ·have dza:=decide_eq_true h5
   refine aQ89 ?_
   refine⟨fun _=>?_,fun h=>absurd h5 h⟩
   refine(rleaf_ok (l.getD p q0) d hmq h5 hq hd).pure (by simp [renL,AV.ren,qF.ren,zai]) ?_
   rintro _ σ rfl
   refine⟨zay _ _,?_⟩
   rw [hv,opV,if_pos h5]
   refine aQ88 ?_
   exact zaq rfl
  have dza:=decide_eq_false h5
  refine aQ89 ?_
  refine⟨fun h=>absurd h h5,fun _=>?_⟩
  refine(zja l p hl).pure (by simp [renL,AV.ren,qF.fren,zac]) ?_
  rintro _ σ rfl
  refine⟨by simp [AEnd.noid,AV.ren,zam i64 zac],?_⟩
  have hke:∀ k∈zbT l p,ACalls Tryz.prog 33 [.sl (l.flatMap qC) l.length,i64 k,.sl (d.flatMap nC) d.length] [] (fun y _=>y=.ret (bl (zcN (zbs d) l k.toNat))):=by
   intro k hk
   rw [hks] at hk
   obtain⟨n,hn,rfl⟩:=List.mem_map.1 hk
   have:=zio hn
   exact ih n this.2 (by omega)
  have hkm:(zbT l p).length≤1000000:=by
   rw [hks,List.length_map,zbS,List.length_take]
   have:=zfj (p+1) (l.drop (p+1))
   rw [List.length_drop] at this
   omega
  have eA:(zbT l p).all (fun k=>zcN (zbs d) l k.toNat)=((zbS l p).map (zcN (zbs d) l)).all id:=by rw [hks,List.all_map,List.all_map];rfl
  have eO:(zbT l p).any (fun k=>zcN (zbs d) l k.toNat)=((zbS l p).map (zcN (zbs d) l)).any id:=by rw [hks,List.any_map,List.any_map];rfl
  obtain⟨f,hf⟩:∃ f:Int→Bool,f=fun k=>zcN (zbs d) l k.toNat:=⟨_,rfl⟩
  rw [← hf] at eA eO
  have hke:∀ k∈zbT l p,ACalls Tryz.prog 33 [.sl (l.flatMap qC) l.length,i64 k,.sl (d.flatMap nC) d.length] [] (fun y _=>y=.ret (bl (f k))):=by
   intro k hk
   rw [hf]
   exact hke k hk
  clear hks
  generalize zbT l p=ks at hkm eA eO hke ⊢
  refine aQ88 ?_
  rw [zaK]
  refine⟨Nat,fun i=>i≤ks.length,fun i=>[.sl (l.flatMap qC) l.length,.bot,.sl (d.flatMap nC) d.length,.bot,.bot,.bot,.bot,.ptr 0 0,.sl (ks.map i64) ks.length,bl ((ks.take i).all f),bl ((ks.take i).any f),i64 i,.bot,.bot,.bot,.bot,.bot,.bot,.bot,.bot,.bot,.bot,.bot,.bot,.bot,.bot,.bot,.bot,.bot,.bot,.bot,.bot,.bot,.bot,.bot,.bot,.bot,.bot,.bot,.bot,.bot,.bot,.bot,.bot,.bot,.bot,.bot,.bot,.bot,.bot,.bot,.bot,.bot,.bot,.bot,.bot,.bot],fun _=>[.rw (qC (l.getD p q0))],fun i=>ks.length - i,0,Nat.zero_le _,zab (q:=[0]) rfl rfl (by decide) ?_ ?_,?_⟩
  ·refine aQ18 ?_
   simp [qF.fren,zai,AV.ren,zam i64 zac]
  ·refine aQ18 ?_
   simp [zaw,zar,qF.ren]
  intro i hi
  have hi:i≤ks.length:=hi
  dsimp only
  by_cases hlt:i < ks.length
  ·have di:decide ((i:Int) < (ks.length:Int))=true:=decide_eq_true (by omega)
   have tA:=take_all 0 f hlt
   have tO:=take_any 0 f hlt
   have hk:=hke _ (zbQ 0 hlt)
   have dza:=di
   refine aQ89 ?_
   refine⟨by omega,by omega,hlt,?_⟩
   refine hk.pure (by simp [renL,AV.ren,qF.fren,zai,zac]) ?_
   rintro _ σ rfl
   refine⟨zay _ _,?_⟩
   generalize f (ks.getD i 0)=x at tA tO ⊢
   generalize (ks.take i).all f=X at tA ⊢
   generalize (ks.take i).any f=Y at tO ⊢
   cases X <;> cases Y
   all_goals
    first|exact aQ88 trivial|refine aQ88 ?_
    refine⟨by unfold inI;omega,?_⟩
    rw [zad]
    refine⟨i+1,by (show i+1≤ks.length);omega,by (show ks.length - (i+1) < ks.length - i);omega,?_⟩
    rw [tA,tO]
    refine zab (q:=[0]) rfl rfl (by decide) ?_ ?_
    ·refine aQ18 ?_
     simp [qF.fren,zai,AV.ren,zam i64 zac]
    ·refine aQ18 ?_
     simp [zaw,zar,qF.ren]
  ·obtain rfl:i=ks.length:=by omega
   have di:decide ((ks.length:Int) < (ks.length:Int))=false:=decide_eq_false (by omega)
   rw [List.take_length,eA,eO,hv,opV,if_neg h5]
   have dza:=di
   refine aQ89 ?_
   refine⟨fun h6=>?_,fun h6=>⟨fun h7=>?_,fun h7=>?_⟩⟩
   ·rw [if_pos h6]
    exact zaq rfl
   ·rw [if_neg h6,if_pos h7]
    exact zaq rfl
   rw [if_neg h6,if_neg h7]
   have hk1:(l.getD p q0).kids=1:=by
    unfold mayB at hmq
    rw [if_neg (by omega),if_neg (by omega)] at hmq
    split at hmq
    ·rw [Bool.and_eq_true,Bool.and_eq_true] at hmq
     exact of_decide_eq_true hmq.1.1
    ·cases hmq
   rw [hk1] at hkl
   obtain⟨x,hx⟩:=List.length_eq_one_iff.1 hkl
   refine zaq ?_
   rw [hx]
   simp
theorem rEval_ok (l:List Qn) (d:List Nd) (hl:litQ l) (hd:d.length≤1000):ACalls Tryz.prog 11 [.sl (l.flatMap qC) l.length,.sl (d.flatMap nC) d.length] [] (fun y _=>y=.ret (.tup [bl (zfo l d).1,i64 (zfo l d).2])):=by
 refine ACalls.body T_ok Tryz.func11 (by kernel_rfl) rfl Tryz.ntmps11 (congrArg Array.toList Tryz.results11) ?_
 refine aQ88 ?_
 refine(rChk_ok l hl).pure (by simp [renL,AV.ren,qF.fren]) ?_
 rintro _ σ rfl
 refine⟨zay _ _,?_⟩
 cases hb:chkB l with
 | false =>
  have e:zfo l d=(false,10):=by rw [zfo,hb];rfl
  rw [e]
  refine aQ88 ?_
  exact zaF (zdS _ _ _) rfl
 | true =>
  obtain⟨c1,c2,c3⟩:=ziu hb
  refine aQ88 ?_
  refine(ze0 d hd).pure (by simp [renL,AV.ren,zai]) ?_
  rintro _ σ rfl
  refine⟨zac _ _,?_⟩
  by_cases h0:zau d=0
  rotate_left
  ·have e:zfo l d=(false,zau d):=by rw [zfo,hb,if_pos rfl,if_neg h0]
   rw [e]
   have dza:=decide_eq_false h0
   refine aQ89 ?_
   exact zaF (zdS _ _ _) rfl
  have e:zfo l d=(evQ (zbs d) l,0):=by rw [zfo,hb,if_pos rfl,if_pos h0]
  rw [e,h0]
  by_cases hn:(l.length:Int)=0
  ·have hl0:l=[]:=List.eq_nil_of_length_eq_zero (by omega)
   have ev:evQ (zbs d) l=true:=by rw [hl0];rfl
   rw [ev]
   have dza:=decide_eq_true hn
   refine aQ89 ?_
   exact zaF (zdS _ _ _) rfl
  have hlt:0 < l.length:=by omega
  have he:l.isEmpty=false:=by
   cases l with
   | nil=>exact absurd rfl hn
   | cons=>rfl
  have hc:=c3 fun h=>by rw [h] at hlt;exact absurd hlt (Nat.lt_irrefl _)
  have hso:=rso_ok l d hl c2 hb hc hd l.length 0 hlt (by omega)
  have hev:evQ (zbs d) l=zcN (zbs d) l 0:=by rw [evQ,he,Bool.false_or]
  rw [hev]
  have dza:=decide_eq_false hn
  refine aQ89 ?_
  refine ACalls.pure hso (by simp [renL,AV.ren,qF.fren,zai,i64]) ?_
  rintro _ σ rfl
  refine⟨zay _ _,?_⟩
  refine aQ88 ?_
  exact zaF (zdS _ _ _) rfl
theorem lit_of {l:List Qn} (h:fewQs l):litQ l:=⟨by have:=h.1;omega,fun q hq=>by
 have h1:=(h.2 q hq).1
 have h2:=few_le' (h.2 q hq).2
 exact⟨by omega,h2⟩⟩
set_option maxRecDepth 20000 in
set_option maxHeartbeats 8000000 in
theorem lawAsks (l:List Qn) (p:Int) (d:List Nd) (hv:∀ q∈l,q.val.length≤9223372036854775807) (hd:d.length≤9223372036854775807):ACalls Tryz.prog 3 [.sl (l.flatMap qC) l.length,i64 p,.sl (d.flatMap nC) d.length] [] (fun y _=>y=.ret (bl true)):=by
 have he:∀ σ:zaa,endQ 0 (bl true) σ (fun r _=>AEnd.ret r=.ret (bl true)):=fun σ=>zaq rfl
 refine ACalls.body T_ok Tryz.func3 (by kernel_rfl) rfl Tryz.ntmps3 (congrArg Array.toList Tryz.results3) ?_
 refine aQ84 ?_
 refine ACalls.pure works_ok rfl ?_
 rintro _ _ rfl
 refine⟨rfl,?_⟩
 refine aQ84 ?_
 refine(few22_ok l hv).pure (by simp [renL,AV.ren,qF.fren]) ?_
 rintro _ σ ⟨f1,rfl,g1⟩
 refine⟨zay _ _,?_⟩
 cases f1 with
 | false =>
  refine aQ84 ?_
  exact he _
 | true =>
 refine aQ84 ?_
 refine(Few_ok d hd).pure (zdz _ _ _) ?_
 rintro _ σ rfl
 refine⟨zay _ _,?_⟩
 cases hfd:fewB d with
 | false =>
  refine aQ84 ?_
  exact he _
 | true =>
 have hl:=lit_of (g1 rfl)
 have hll:=hl.1
 have hg:=(good_of (g1 rfl)).2
 have ld:=few_le' hfd
 refine aQ84 ?_
 refine(Eval_ok l d hll hg ld).pure (by simp [renL,AV.ren,qF.fren,zai]) ?_
 rintro _ σ rfl
 refine⟨zdS _ _ _,?_⟩
 refine aQ84 ?_
 refine(rEval_ok l d hl ld).pure (by simp [renL,AV.ren,qF.fren,zai]) ?_
 rintro _ σ rfl
 refine⟨zdS _ _ _,?_⟩
 refine aQ84 ?_
 refine(rChk_ok l hl).pure (by simp [renL,AV.ren,qF.fren]) ?_
 rintro _ σ rfl
 refine⟨zay _ _,?_⟩
 refine aQ84 ?_
 refine(zit l p hll hg).pure (by simp [renL,AV.ren,qF.fren,zac]) ?_
 rintro _ σ rfl
 refine⟨by simp [AEnd.noid,AV.ren,zam i64 zac],?_⟩
 refine aQ84 ?_
 refine(zja l p hl).pure (by simp [renL,AV.ren,qF.fren,zac]) ?_
 rintro _ σ rfl
 refine⟨by simp [AEnd.noid,AV.ren,zam i64 zac],?_⟩
 have hkz:(zbT l p).length≤1000000:=by
  unfold zbT
  split
  ·rw [List.length_map,zbS,List.length_take]
   have:=zfj (p.toNat+1) (l.drop (p.toNat+1))
   rw [List.length_drop] at this
   omega
  ·simp
 refine aQ84 ?_
 refine(rInts_ok (zbT l p) (zbT l p) (by omega)).pure (by simp [renL,AV.ren,zam i64 zac]) ?_
 rintro _ σ rfl
 refine⟨zay _ _,?_⟩
 rw [decide_eq_true (rfl:zbT l p=zbT l p)]
 refine aQ84 ?_
 refine(zi6 l hll hg).pure (by simp [renL,AV.ren,qF.fren]) ?_
 rintro _ σ rfl
 refine⟨zac _ _,?_⟩
 cases chkB l with
 | false =>
  rw [if_neg (show ¬ (false=true) by decide)]
  have dza:=decide_eq_false (show ¬ ((10:Int)=0) by decide)
  refine aQ85 ?_
  exact he _
 | true =>
  rw [if_pos rfl]
  refine aQ84 ?_
  exact he _
end Go.Proofs.YtdigkoejfgmecaaGreatDoor
end

