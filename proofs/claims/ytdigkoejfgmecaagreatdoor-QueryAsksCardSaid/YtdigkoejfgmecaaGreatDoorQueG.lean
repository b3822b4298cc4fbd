/-
  Questions, and what they come to. No condition.
-/
import Derived.Test.YtdigkoejfgmecaaGreatDoorQueF
set_option linter.unusedSimpArgs false
set_option linter.unusedVariables false
set_option linter.unusedSectionVars false
section
namespace Go.Eng
open Go
theorem aQ11 {P:Prop} (e:P:=by simp [renL,AV.ren,zai,zac,zaj]):P:=e
theorem aQ12 {P:Prop} (e:P:=by simp [renL,AV.ren,zai,zaj]):P:=e
theorem aQ48 {P Q:Prop} (h:Q) (e:P=Q:=by first|(simp -implicitDefEqProofs only [LM3,eq_self,Nat.zero_mul,lzS,bx_P,zat,TB,SB,Int.reduceToNat,Nat.reduceAdd,Nat.reduceEqDiff,Nat.reduceLT,Nat.reduceMod,Nat.reducePow,Nat.reduceSub,if_true,reduceIte];first|done|exact rfl)|exact rfl):P:=e ▸ h
theorem aQ49 {P Q:Prop} (h:Q) (e:P=Q:=by first|(simp -implicitDefEqProofs only [LM3,eq_self,Nat.zero_mul,lzS,bx_P,zat,dza,TB,SB,Int.reduceToNat,Nat.reduceAdd,Nat.reduceEqDiff,Nat.reduceLT,Nat.reduceMod,Nat.reducePow,Nat.reduceSub,if_true,reduceIte];first|done|exact rfl)|exact rfl):P:=e ▸ h
theorem aQ50 {P Q:Prop} (h:Q) (e:P=Q:=by first|(simp -implicitDefEqProofs only [LM1,eq_self,Nat.zero_mul,lzS,bx_P,zat,zat,TB,SB,Int.reduceToNat,Nat.reduceAdd,Nat.reduceEqDiff,Nat.reduceLT,Nat.reduceMod,Nat.reducePow,Nat.reduceSub,if_true,reduceIte];first|done|exact rfl)|exact rfl):P:=e ▸ h
theorem aQ51 {P Q:Prop} (h:Q) (e:P=Q:=by first|(simp -implicitDefEqProofs only [LM1,eq_self,Nat.zero_mul,lzS,bx_P,zat,zat,dza,TB,SB,Int.reduceToNat,Nat.reduceAdd,Nat.reduceEqDiff,Nat.reduceLT,Nat.reduceMod,Nat.reducePow,Nat.reduceSub,if_true,reduceIte];first|done|exact rfl)|exact rfl):P:=e ▸ h
theorem aQ52 {P Q:Prop} (h:Q) (e:P=Q:=by first|(simp -implicitDefEqProofs only [LM3,eq_self,Nat.zero_mul,lzS,bx_P,zkh,zki,zkj,zkk,zkl,zkm,zkn,zko,ia_Q,ld_Q,zij,zik,zil,zim,lq_i,lq_s,lq_l,lq_f,lzS,lw_Q,bx_Q,dza,TB,SB,Int.reduceToNat,Nat.reduceAdd,Nat.reduceEqDiff,Nat.reduceLT,Nat.reduceMod,Nat.reducePow,Nat.reduceSub,if_true,reduceIte];first|done|exact rfl)|exact rfl):P:=e ▸ h
theorem aQ53 {P Q:Prop} (h:Q) (e:P=Q:=by first|(simp -implicitDefEqProofs only [LM3,eq_self,Nat.zero_mul,lzS,bx_P,zkh,zki,zkj,zkk,zkl,zkm,zkn,zko,ia_Q,ld_Q,zij,zik,zil,zim,lq_i,lq_s,lq_l,lq_f,lzS,lw_Q,bx_Q,TB,SB,Int.reduceToNat,Nat.reduceAdd,Nat.reduceEqDiff,Nat.reduceLT,Nat.reduceMod,Nat.reducePow,Nat.reduceSub,if_true,reduceIte];first|done|exact rfl)|exact rfl):P:=e ▸ h
theorem aQ54 {P Q:Prop} (h:Q) (e:P=Q:=by first|(simp -implicitDefEqProofs only [LM3,eq_self,Nat.zero_mul,lzS,bx_P,zkh,zki,zkj,zkk,zkl,zkm,zkn,zko,ia_Q,ld_Q,zij,zik,zil,zim,lq_i,lq_s,lq_l,lq_f,lzS,lw_Q,bx_Q,Int.reduceEq,decide_false,dza,TB,SB,Int.reduceToNat,Nat.reduceAdd,Nat.reduceEqDiff,Nat.reduceLT,Nat.reduceMod,Nat.reducePow,Nat.reduceSub,if_true,reduceIte];first|done|exact rfl)|exact rfl):P:=e ▸ h
theorem aQ55 {P Q:Prop} (h:Q) (e:P=Q:=by first|(simp -implicitDefEqProofs only [LM3,eq_self,Nat.zero_mul,lzS,bx_P,zkh,zki,zkj,zkk,zkl,zkm,zkn,zko,ia_Q,ld_Q,zij,zik,zil,zim,lq_i,lq_s,lq_l,lq_f,lzS,lw_Q,bx_Q,Int.reduceEq,decide_false,dza,dzb,TB,SB,Int.reduceToNat,Nat.reduceAdd,Nat.reduceEqDiff,Nat.reduceLT,Nat.reduceMod,Nat.reducePow,Nat.reduceSub,if_true,reduceIte];first|done|exact rfl)|exact rfl):P:=e ▸ h
theorem aQ56 {P Q:Prop} (h:Q) (e:P=Q:=by first|(simp -implicitDefEqProofs only [LM3,eq_self,Nat.zero_mul,lzS,bx_P,zkh,zki,zkj,zkk,zkl,zkm,zkn,zko,ia_Q,ld_Q,zij,zik,zil,zim,lq_i,lq_s,lq_l,lq_f,lzS,lw_Q,bx_Q,Int.reduceEq,decide_false,dza,dzb,dzc,TB,SB,Int.reduceToNat,Nat.reduceAdd,Nat.reduceEqDiff,Nat.reduceLT,Nat.reduceMod,Nat.reducePow,Nat.reduceSub,if_true,reduceIte];first|done|exact rfl)|exact rfl):P:=e ▸ h
theorem aQ57 {P Q:Prop} (h:Q) (e:P=Q:=by first|(simp -implicitDefEqProofs only [LM1,LB17,eq_self,Nat.zero_mul,lzS,bx_P,zat,lzS,TB,SB,Int.reduceToNat,Nat.reduceAdd,Nat.reduceEqDiff,Nat.reduceLT,Nat.reduceMod,Nat.reducePow,Nat.reduceSub,if_true,reduceIte];first|done|exact rfl)|exact rfl):P:=e ▸ h
theorem aQ58 {P Q:Prop} (h:Q) (e:P=Q:=by first|(simp -implicitDefEqProofs only [LM1,LB17,eq_self,Nat.zero_mul,lzS,bx_P,zat,lzS,dza,TB,SB,Int.reduceToNat,Nat.reduceAdd,Nat.reduceEqDiff,Nat.reduceLT,Nat.reduceMod,Nat.reducePow,Nat.reduceSub,if_true,reduceIte];first|done|exact rfl)|exact rfl):P:=e ▸ h
theorem aQ59 {P Q:Prop} (h:Q) (e:P=Q:=by first|(simp -implicitDefEqProofs only [LM1,LB17,eq_self,Nat.zero_mul,lzS,bx_P,zat,lzS,dza,dzb,TB,SB,Int.reduceToNat,Nat.reduceAdd,Nat.reduceEqDiff,Nat.reduceLT,Nat.reduceMod,Nat.reducePow,Nat.reduceSub,if_true,reduceIte];first|done|exact rfl)|exact rfl):P:=e ▸ h
theorem aQ60 {P Q:Prop} (h:Q) (e:P=Q:=by first|(simp -implicitDefEqProofs only [LM6,eq_self,Nat.zero_mul,lzS,bx_P,zat,lzS,TB,SB,Int.reduceToNat,Nat.reduceAdd,Nat.reduceEqDiff,Nat.reduceLT,Nat.reduceMod,Nat.reducePow,Nat.reduceSub,if_true,reduceIte];first|done|exact rfl)|exact rfl):P:=e ▸ h
theorem aQ61 {P Q:Prop} (h:Q) (e:P=Q:=by first|(simp -implicitDefEqProofs only [LM6,eq_self,Nat.zero_mul,lzS,bx_P,zat,lzS,al_Q,sw_Q,TB,SB,Int.reduceToNat,Nat.reduceAdd,Nat.reduceEqDiff,Nat.reduceLT,Nat.reduceMod,Nat.reducePow,Nat.reduceSub,if_true,reduceIte];first|done|exact rfl)|exact rfl):P:=e ▸ h
theorem aQ62 {P Q:Prop} (h:Q) (e:P=Q:=by first|(simp -implicitDefEqProofs only [LM6,eq_self,Nat.zero_mul,lzS,bx_P,zat,lzS,al_Q,sw_Q,dza,TB,SB,Int.reduceToNat,Nat.reduceAdd,Nat.reduceEqDiff,Nat.reduceLT,Nat.reduceMod,Nat.reducePow,Nat.reduceSub,if_true,reduceIte];first|done|exact rfl)|exact rfl):P:=e ▸ h
theorem aQ63 {P Q:Prop} (h:Q) (e:P=Q:=by first|(simp -implicitDefEqProofs only [LM6,LB20,eq_self,Nat.zero_mul,lzS,bx_P,zat,lzS,TB,SB,Int.reduceToNat,Nat.reduceAdd,Nat.reduceEqDiff,Nat.reduceLT,Nat.reduceMod,Nat.reducePow,Nat.reduceSub,if_true,reduceIte];first|done|exact rfl)|exact rfl):P:=e ▸ h
theorem aQ64 {P Q:Prop} (h:Q) (e:P=Q:=by first|(simp -implicitDefEqProofs only [LM6,LB20,eq_self,Nat.zero_mul,lzS,bx_P,zat,lzS,dza,TB,SB,Int.reduceToNat,Nat.reduceAdd,Nat.reduceEqDiff,Nat.reduceLT,Nat.reduceMod,Nat.reducePow,Nat.reduceSub,if_true,reduceIte];first|done|exact rfl)|exact rfl):P:=e ▸ h
theorem aQ65 {P Q:Prop} (h:Q) (e:P=Q:=by first|(simp -implicitDefEqProofs only [LM6,LB20,eq_self,Nat.zero_mul,lzS,bx_P,zat,lzS,dza,dzb,TB,SB,Int.reduceToNat,Nat.reduceAdd,Nat.reduceEqDiff,Nat.reduceLT,Nat.reduceMod,Nat.reducePow,Nat.reduceSub,if_true,reduceIte];first|done|exact rfl)|exact rfl):P:=e ▸ h
end Go.Eng
end

section
namespace Go.Proofs.YtdigkoejfgmecaaGreatDoor
open Go Go.Eng
structure Pcs (mp:Bool) (PS:List (List Nd)) (KS:List (List Nd)):Prop where
 len:PS.length=KS.length
 each:∀ j,j < KS.length→∃ pre,PS.getD j []=pre++KS.getD j []∧pre.length=bK mp
def isV (s:List UInt8):Bool:=decide ((zcI s).2=0)
theorem isPath_ok (s:List UInt8) (hs:s.length≤1000000000):ACalls Tryz.prog 55 [str s] [] (fun y _=>y=.ret (bl (isV s))):=by
 refine ACalls.body T_ok Tryz.func55 (by kernel_rfl) rfl Tryz.ntmps55 (congrArg Array.toList Tryz.results55) ?_
 refine aQ25 ?_
 refine(Ppath_ok s (by omega)).pure (by simp [renL,zaj]) ?_
 rintro _ σ rfl
 refine⟨by simp [AEnd.noid,AV.ren,renL,zez,zac],?_⟩
 refine aQ25 ?_
 exact zaq rfl
structure Qn where
 op:Int
 path:List UInt8
 val:List Nd
 kids:Int
 deriving DecidableEq
def skip:Nat→List Qn→Nat→Option Nat
 | 0,_,at'=>some at'
 | _+1,[],_=>none
 | n+1,q::r,at'=>skip (n+q.kids.toNat) r (at'+1)
def cnt:List Qn→Option Nat
 | []=>some 0
 | q::r=>match cnt r with
  | some c=>if q.kids.toNat≤c then some (c - q.kids.toNat+1) else none
  | none=>none
theorem zco (l:List Qn) (p:Nat):skip 0 l p=some p:=by cases l <;> rfl
theorem zcV:∀ (l:List Qn) (n p e:Nat),skip n l p=some e→p≤e∧e≤p+l.length:=by
 intro l
 induction l with
 | nil =>
  intro n p e h
  cases n with
  | zero=>cases h;simp
  | succ n=>cases h
 | cons q r ih =>
  intro n p e h
  cases n with
  | zero=>cases h;simp
  | succ n =>
   have:=ih _ _ _ h
   rw [List.length_cons]
   omega
theorem zjK:∀ (l:List Qn) (a b p:Nat),skip (a+b) l p=(skip a l p).bind fun e=>skip b (l.drop (e - p)) e:=by
 intro l
 induction l with
 | nil =>
  intro a b p
  cases a with
  | zero=>rw [Nat.zero_add,zco];simp
  | succ a=>rw [Nat.succ_add];rfl
 | cons q r ih =>
  intro a b p
  cases a with
  | zero=>rw [Nat.zero_add,zco];simp
  | succ a =>
   rw [Nat.succ_add]
   show skip (a+b+q.kids.toNat) r (p+1)=(skip (a+q.kids.toNat) r (p+1)).bind _
   rw [show a+b+q.kids.toNat=(a+q.kids.toNat)+b by omega,ih]
   cases h:skip (a+q.kids.toNat) r (p+1) with
   | none=>rfl
   | some e =>
    have:=zcV _ _ _ _ h
    show skip b (r.drop (e - (p+1))) e=skip b ((q::r).drop (e - p)) e
    rw [show e - p=(e - (p+1))+1 by omega,List.drop_succ_cons]
theorem skip_cnt:∀ (l:List Qn) (n p:Nat),skip n l p=some (p+l.length) ↔ cnt l=some n:=by
 intro l
 induction l with
 | nil =>
  intro n p
  cases n with
  | zero=>simp [skip,cnt]
  | succ n=>simp [skip,cnt]
 | cons q r ih =>
  intro n p
  rw [cnt]
  cases n with
  | zero =>
   rw [zco]
   constructor
   ·intro h
    rw [List.length_cons] at h
    injection h with h
    omega
   ·intro h
    split at h
    ·split at h
     ·injection h with h;omega
     ·cases h
    ·cases h
  | succ n =>
   have:=ih (n+q.kids.toNat) (p+1)
   rw [List.length_cons,show p+(r.length+1)=p+1+r.length by omega]
   show skip (n+q.kids.toNat) r (p+1)=_ ↔ _
   rw [this]
   constructor
   ·intro h
    rw [h]
    dsimp only
    rw [if_pos (by omega)]
    congr 1
    omega
   ·intro h
    split at h
    ·rename_i c hc
     split at h
     ·injection h with h
      rw [hc]
      congr 1
      omega
     ·cases h
    ·cases h
def opV (leaf:Qn→Bool) (q:Qn) (l:List Bool):Bool :=
 if q.op < 5 then leaf q else if q.op=5 then l.all id else if q.op=6 then l.any id else !l.headD false
def stk (leaf:Qn→Bool):List Qn→List Bool
 | []=>[]
 | q::r=>opV leaf q ((stk leaf r).take q.kids.toNat)::(stk leaf r).drop q.kids.toNat
theorem stk_len (leaf:Qn→Bool):∀ (l:List Qn) (n:Nat),cnt l=some n→(stk leaf l).length=n:=by
 intro l
 induction l with
 | nil=>intro n h;cases h;rfl
 | cons q r ih =>
  intro n h
  rw [cnt] at h
  split at h
  ·rename_i c hc
   split at h
   ·injection h with h
    rw [stk,List.length_cons,List.length_drop,ih c hc]
    omega
   ·cases h
  ·cases h
def plc:Nat→List Qn→List Nat
 | _,[]=>[]
 | p,q::r=>p::(plc (p+1) r).drop q.kids.toNat
theorem plc_len:∀ (l:List Qn) (p n:Nat),cnt l=some n→(plc p l).length=n:=by
 intro l
 induction l with
 | nil=>intro p n h;cases h;rfl
 | cons q r ih =>
  intro p n h
  rw [cnt] at h
  split at h
  ·rename_i c hc
   split at h
   ·injection h with h
    rw [plc,List.length_cons,List.length_drop,ih _ c hc]
    omega
   ·cases h
  ·cases h
theorem skip_some:∀ (l:List Qn) (n m p:Nat),cnt l=some m→n≤m→∃ e,skip n l p=some e:=by
 intro l
 induction l with
 | nil =>
  intro n m p h hn
  cases h
  obtain rfl:n=0:=by omega
  exact⟨p,rfl⟩
 | cons q r ih =>
  intro n m p h hn
  cases n with
  | zero=>exact⟨p,zco _ _⟩
  | succ n =>
   rw [cnt] at h
   split at h
   ·rename_i c hc
    split at h
    ·injection h with h
     exact ih _ c _ hc (by omega)
    ·cases h
   ·cases h
theorem plc_skip:∀ (l:List Qn) (p k:Nat) (h:k < (plc p l).length),skip k l p=some ((plc p l)[k]):=by
 intro l
 induction l with
 | nil=>intro p k h;simp [plc] at h
 | cons q r ih =>
  intro p k h
  cases k with
  | zero=>rw [zco];rfl
  | succ k =>
   show skip (k+q.kids.toNat) r (p+1)=_
   simp only [plc,List.length_cons,List.length_drop] at h
   rw [ih (p+1) (k+q.kids.toNat) (by omega)]
   simp only [plc,List.getElem_cons_succ,List.getElem_drop]
   congr 2
   omega
theorem stk_skip (leaf:Qn→Bool):∀ (l:List Qn) (n p e:Nat),skip n l p=some e→stk leaf (l.drop (e - p))=(stk leaf l).drop n:=by
 intro l
 induction l with
 | nil=>intro n p e h;simp [stk]
 | cons q r ih =>
  intro n p e h
  cases n with
  | zero=>cases h;simp
  | succ n =>
   have h2:=zcV _ _ _ _ (show skip (n+q.kids.toNat) r (p+1)=some e from h)
   have:=ih _ _ _ (show skip (n+q.kids.toNat) r (p+1)=some e from h)
   rw [show e - p=(e - (p+1))+1 by omega,List.drop_succ_cons,this,stk,List.drop_succ_cons,List.drop_drop,Nat.add_comm]
theorem stk_at (leaf:Qn→Bool) (l:List Qn) (p k:Nat) (h:k < (plc p l).length) (h2:k < (stk leaf l).length):(stk leaf (l.drop ((plc p l)[k] - p)))[0]?=some ((stk leaf l)[k]):=by
 rw [stk_skip leaf l k p _ (plc_skip l p k h),List.getElem?_drop,Nat.add_zero,List.getElem?_eq_getElem h2]
theorem skip_lt {l:List Qn} {n p e:Nat} (h:skip n l p=some e) (hn:0 < n):p < e:=by
 cases n with
 | zero=>omega
 | succ n =>
  cases l with
  | nil=>cases h
  | cons q r =>
   have:=zcV _ _ _ _ (show skip (n+q.kids.toNat) r (p+1)=some e from h)
   omega
theorem skip_mono {l:List Qn} {n m p e f:Nat} (h:skip n l p=some e) (h2:skip (n+m) l p=some f):skip m (l.drop (e - p)) e=some f:=by
 rw [zjK,h] at h2
 exact h2
def q0:Qn:=⟨0,[],[],0⟩
def zbS (l:List Qn) (p:Nat):List Nat:=(plc (p+1) (l.drop (p+1))).take (l.getD p q0).kids.toNat
theorem zin {l:List Qn} {p:Nat} (h:p < l.length):l.drop p=l.getD p q0::l.drop (p+1):=by
 rw [List.drop_eq_getElem_cons h,List.getD_eq_getElem?_getD,List.getElem?_eq_getElem h]
 rfl
theorem cnt_drop:∀ (l:List Qn) (n p:Nat),cnt l=some n→p≤l.length→∃ m,cnt (l.drop p)=some m:=by
 intro l
 induction l with
 | nil=>intro n p h hp;exact⟨n,by simpa using h⟩
 | cons q r ih =>
  intro n p h hp
  cases p with
  | zero=>exact⟨n,h⟩
  | succ p =>
   rw [cnt] at h
   split at h
   ·rename_i c hc
    exact ih c p hc (by simpa using hp)
   ·cases h
theorem zhn {l:List Qn} {n p:Nat} (h:cnt l=some n) (hp:p < l.length):∃ m,cnt (l.drop (p+1))=some m∧(l.getD p q0).kids.toNat≤m∧cnt (l.drop p)=some (m - (l.getD p q0).kids.toNat+1):=by
 obtain⟨c,hc⟩:=cnt_drop l n p h (by omega)
 rw [zin hp,cnt] at hc
 split at hc
 ·rename_i m hm
  split at hc
  ·rename_i hk
   injection hc with hc
   exact⟨m,hm,hk,by rw [zin hp,cnt,hm];dsimp only;rw [if_pos hk]⟩
  ·cases hc
 ·cases hc
theorem zei {l:List Qn} {n p:Nat} (h:cnt l=some n) (hp:p < l.length):(zbS l p).length=(l.getD p q0).kids.toNat:=by
 obtain⟨m,hm,hk,_⟩:=zhn h hp
 rw [zbS,List.length_take,plc_len _ _ _ hm]
 omega
theorem zi5 {l:List Qn} {p k:Nat} (h:k < (zbS l p).length):skip k (l.drop (p+1)) (p+1)=some ((zbS l p)[k]):=by
 have h2:=h
 rw [zbS,List.length_take] at h2
 rw [plc_skip _ _ k (by omega)]
 simp only [zbS,List.getElem_take]
theorem plc_lt:∀ (l:List Qn) (p x:Nat),x∈plc p l→p≤x∧x < p+l.length:=by
 intro l
 induction l with
 | nil=>intro p x h;cases h
 | cons q r ih =>
  intro p x h
  rw [plc,List.mem_cons] at h
  rcases h with rfl | h
  ·rw [List.length_cons];omega
  ·have:=ih (p+1) x (List.mem_of_mem_drop h)
   rw [List.length_cons]
   omega
theorem zio {l:List Qn} {p x:Nat} (h:x∈zbS l p):p < x∧x < l.length:=by
 have:=plc_lt _ _ _ (List.mem_of_mem_take h)
 rw [List.length_drop] at this
 omega
def zcN (leaf:Qn→Bool) (l:List Qn) (p:Nat):Bool:=(stk leaf (l.drop p)).headD false
theorem kids_vals (leaf:Qn→Bool) {l:List Qn} {n p:Nat} (h:cnt l=some n) (hp:p < l.length):(zbS l p).map (zcN leaf l)=(stk leaf (l.drop (p+1))).take (l.getD p q0).kids.toNat:=by
 obtain⟨m,hm,hk,_⟩:=zhn h hp
 have h1:=zei h hp
 have h2:=stk_len leaf _ _ hm
 refine List.ext_getElem (by rw [List.length_map,List.length_take];omega) fun k k1 k2=>?_
 rw [List.length_map] at k1
 have k3:k < (plc (p+1) (l.drop (p+1))).length:=by rw [plc_len _ _ _ hm];omega
 have:=stk_at leaf (l.drop (p+1)) (p+1) k k3 (by omega)
 have e1:(zbS l p)[k]=(plc (p+1) (l.drop (p+1)))[k]:=by simp only [zbS,List.getElem_take]
 have e2:=(plc_lt _ _ _ (List.getElem_mem k3)).1
 rw [List.getElem_map,List.getElem_take,e1,zcN]
 rw [List.drop_drop,show p+1+((plc (p+1) (l.drop (p+1)))[k] - (p+1))=(plc (p+1) (l.drop (p+1)))[k] by omega] at this
 rw [List.headD_eq_head?_getD,List.head?_eq_getElem?,this]
 rfl
theorem valuQ_eq (leaf:Qn→Bool) {l:List Qn} {n p:Nat} (h:cnt l=some n) (hp:p < l.length):zcN leaf l p=opV leaf (l.getD p q0) ((zbS l p).map (zcN leaf l)):=by
 rw [kids_vals leaf h hp,zcN,zin hp,stk]
 rfl
def evQ (leaf:Qn→Bool) (l:List Qn):Bool:=l.isEmpty || zcN leaf l 0
def kp (l:List Qn) (p j:Nat):Nat:=(skip j (l.drop (p+1)) (p+1)).getD 0
theorem zgT {l:List Qn} {n p j:Nat} (h:cnt l=some n) (hp:p < l.length) (hj:j≤(l.getD p q0).kids.toNat):skip j (l.drop (p+1)) (p+1)=some (kp l p j):=by
 obtain⟨m,hm,hk,_⟩:=zhn h hp
 obtain⟨e,he⟩:=skip_some (l.drop (p+1)) j m (p+1) hm (by omega)
 rw [kp,he]
 rfl
theorem kp_zero (l:List Qn) (p:Nat):kp l p 0=p+1:=by rw [kp,zco];rfl
theorem kp_step {l:List Qn} {n p j:Nat} (h:cnt l=some n) (hp:p < l.length) (hj:j < (l.getD p q0).kids.toNat):skip 1 (l.drop (kp l p j)) (kp l p j)=some (kp l p (j+1)):=by
 have h1:=zgT h hp (j:=j) (by omega)
 have h2:=zgT h hp (j:=j+1) (by omega)
 have h3:=skip_mono h1 h2
 have h4:=(zcV _ _ _ _ h1).1
 rw [List.drop_drop,show p+1+(kp l p j - (p+1))=kp l p j by omega] at h3
 exact h3
theorem kp_end {l:List Qn} {n p:Nat} (h:cnt l=some n) (hp:p < l.length):skip 1 (l.drop p) p=some (kp l p (l.getD p q0).kids.toNat):=by
 rw [zin hp]
 show skip (0+_) _ _=_
 rw [Nat.zero_add,zgT h hp (Nat.le_refl _)]
theorem kp_lt {l:List Qn} {n p j:Nat} (h:cnt l=some n) (hp:p < l.length) (hj:j < (l.getD p q0).kids.toNat):p < kp l p j∧kp l p j < kp l p (j+1)∧kp l p (j+1)≤l.length:=by
 have h1:=kp_step h hp hj
 have h2:=skip_lt h1 (by omega)
 have h3:=zcV _ _ _ _ (zgT h hp (j:=j) (by omega))
 have h4:=zcV _ _ _ _ (zgT h hp (j:=j+1) (by omega))
 rw [List.length_drop] at h4
 omega
theorem kp_all {l:List Qn} {n p:Nat} (h:cnt l=some n) (hp:p < l.length):∀ d j,j+d=(l.getD p q0).kids.toNat→kp l p j+d≤kp l p (l.getD p q0).kids.toNat:=by
 intro d
 induction d with
 | zero=>intro j hj;rw [← hj];simp
 | succ d ih =>
  intro j hj
  have:=ih (j+1) (by omega)
  have:=(kp_lt h hp (j:=j) (by omega)).2.1
  omega
theorem kp_kid {l:List Qn} {n p j:Nat} (h:cnt l=some n) (hp:p < l.length) (hj:j < (l.getD p q0).kids.toNat):(zbS l p).take (j+1)=(zbS l p).take j++[kp l p j]:=by
 have hl:=zei h hp
 have h1:j < (zbS l p).length:=by omega
 have h2:=zi5 h1
 rw [zgT h hp (by omega)] at h2
 injection h2 with h2
 rw [List.take_add_one,List.getElem?_eq_getElem h1,← h2]
 rfl
def ziC (l:List Qn) (i:Nat):Nat:=(skip 1 (l.drop i) i).getD 0
theorem endQn_kp {l:List Qn} {n p:Nat} (h:cnt l=some n) (hp:p < l.length):ziC l p=kp l p (l.getD p q0).kids.toNat:=by rw [ziC,kp_end h hp];rfl
theorem endQn_step {l:List Qn} {n p j:Nat} (h:cnt l=some n) (hp:p < l.length) (hj:j < (l.getD p q0).kids.toNat):ziC l (kp l p j)=kp l p (j+1):=by rw [ziC,kp_step h hp hj];rfl
def zaV (v:List Nd):Bool:=decide ((v.getD 0 n0d).kind≠4) && decide ((v.getD 0 n0d).kind≠5)
theorem zfk {t:TypeId} {v:List Nd} (hv:0 < v.length) (K:AV→Prop):ld2 (some zaC) (some (v.flatMap nC)) 0 K=K (i64 (v.getD 0 n0d).kind):=by
 have:=ldf_N0 (K:=K) (l:=v) 0
 simpa [hv] using this
theorem tplain_ok (v:List Nd) (hv:0 < v.length) (h2:v.length≤1000000000):ACalls Tryz.prog 184 [.sl (v.flatMap nC) v.length] [] (fun y _=>y=.ret (bl (zaV v))):=by
 refine ACalls.body T_ok Tryz.func184 (by kernel_rfl) rfl Tryz.ntmps184 (congrArg Array.toList Tryz.results184) ?_
 refine aQ48 ?_
 refine⟨by omega,by omega,?_⟩
 rw [zfk (t:=0) hv]
 refine aQ48 ?_
 by_cases h4:(v.getD 0 n0d).kind=4
 ·rw [decide_eq_true h4]
  refine aQ48 ?_
  have e:zaV v=false:=by unfold zaV;rw [h4];rfl
  rw [e]
  exact⟨Nat.le_refl _,zaq rfl⟩
 ·rw [decide_eq_false h4]
  refine aQ48 ?_
  refine⟨Nat.le_refl _,by omega,by omega,Nat.le_refl _,?_⟩
  rw [zfk (t:=0) hv]
  refine aQ48 ?_
  have e:zaV v=!decide ((v.getD 0 n0d).kind=5):=by
   unfold zaV
   rw [decide_eq_true (show (v.getD 0 n0d).kind≠4 from h4),Bool.true_and,← decide_not]
  rw [e]
  exact zaq rfl
def zb4 {α:Type} (p:α→Bool) (l:List α):List α:=l.filter p
theorem pick_take {α:Type} (d:α) {p:α→Bool} {l:List α} {k:Nat} (h:k < l.length):zb4 p (l.take (k+1))=if p (l.getD k d)=true then zb4 p (l.take k)++[l.getD k d] else zb4 p (l.take k):=by
 rw [zbR d h,zb4,zb4,List.filter_append]
 split
 ·rename_i h2;rw [List.filter_cons_of_pos h2];rfl
 ·rename_i h2;rw [List.filter_cons_of_neg h2,List.filter_nil,List.append_nil]
theorem zho {α:Type} (p:α→Bool) (l:List α):(zb4 p l).length≤l.length:=List.length_filter_le _ _
theorem pickN_ok (a:List (List Nd)) (ha:a.length≤1000000) (hs:∀ s∈a,0 < s.length∧s.length≤1000000000):ACalls Tryz.prog 182 [.sl (a.map slNs) a.length,.fn (.func 184) [] []] [] (fun y _=>y=.ret (.sl ((zb4 zaV a).map slNs) (zb4 zaV a).length)):=by
 refine ACalls.body T_ok Tryz.func182 (by kernel_rfl) rfl Tryz.ntmps182 (congrArg Array.toList Tryz.results182) ?_
 refine aQ48 ?_
 rw [zaK]
 refine⟨Nat,fun k=>k≤a.length,fun k=>[.sl (a.map slNs) a.length,.fn (.func 184) [] [],.bot,.bot,.bot,.ref 0 0 (zb4 zaV (a.take k)).length 1,.bot,.bot,.sl (a.map slNs) a.length,i64 a.length,i64 k,.bot,.bot,.bot,.bot,.bot,.bot,.bot,.bot,.bot,.bot,.bot,.bot],fun k=>[.rw ((zb4 zaV (a.take k)).map slNs)],fun k=>a.length - k,0,Nat.zero_le _,zbv 5 1 rfl (zab (q:=[0]) rfl rfl (by decide) ?_ ?_),?_⟩
 ·refine aQ18 ?_
  simp [zal,AV.ren,renL,zb4]
 ·refine aQ18 ?_
  simp [zaw,zar,renL,zb4]
 intro k hk
 have hk:k≤a.length:=hk
 dsimp only
 by_cases hlt:k < a.length
 ·have dk:decide ((k:Int) < (a.length:Int))=true:=decide_eq_true (by omega)
  have hpt:=pick_take (p:=zaV) [] hlt
  have hln:=zho zaV (a.take k)
  rw [List.length_take] at hln
  have hms:=hs (a.getD k []) (by rw [List.getD_eq_getElem?_getD,List.getElem?_eq_getElem hlt];exact List.getElem_mem hlt)
  have dza:=dk
  refine aQ49 ?_
  refine⟨by omega,by omega,Nat.le_refl _,hlt,?_⟩
  generalize a.getD k []=x at hpt hms ⊢
  refine(tplain_ok x hms.1 hms.2).pure (zdz _ _ _) ?_
  rintro _ σ rfl
  refine⟨zay _ _,?_⟩
  cases hx:zaV x with
  | false =>
   rw [hx,if_neg (by decide)] at hpt
   refine aQ48 ?_
   refine⟨by unfold inI;omega,?_⟩
   rw [zad]
   refine⟨k+1,by (show k+1≤a.length);omega,by (show a.length - (k+1) < a.length - k);omega,?_⟩
   rw [hpt]
   refine zab (q:=[0]) rfl rfl (by decide) ?_ ?_
   ·refine aQ18 ?_
    simp [zal,AV.ren,renL]
   ·refine aQ18 ?_
    simp [zaw,zar,zal]
  | true =>
   rw [hx,if_pos rfl] at hpt
   try simp -implicitDefEqProofs only [LM3,eq_self,Nat.zero_mul,lzS,bx_P,zat,slNs,TB,SB,Int.reduceToNat,Nat.reduceAdd,Nat.reduceEqDiff,Nat.reduceLT,Nat.reduceMod,Nat.reducePow,Nat.reduceSub,if_true,reduceIte]
   refine zaG slNs zbC rfl rfl T40 T40 (zc5 _) T23 (Go.Eng.one_sl _) (l:=zb4 zaV (a.take k)) (ys:=[x]) (m:=1) rfl rfl rfl (by omega) (by simp only [tySl];omega) ?_
   refine aQ48 ?_
   refine⟨by unfold inI;omega,?_⟩
   rw [zad]
   refine⟨k+1,by (show k+1≤a.length);omega,by (show a.length - (k+1) < a.length - k);omega,?_⟩
   rw [hpt,List.length_append]
   refine zab (q:=[2]) rfl rfl (by decide) ?_ ?_
   ·refine aQ18 ?_
    simp [zal,AV.ren,renL]
   ·refine aQ18 ?_
    exact aQ39 trivial
 ·obtain rfl:k=a.length:=by omega
  have dk:decide ((a.length:Int) < (a.length:Int))=false:=decide_eq_false (by omega)
  rw [List.take_length]
  have dza:=dk
  refine aQ49 ?_
  exact zaX [0] (.sl ((zb4 zaV a).map slNs) (zb4 zaV a).length) (zdB rfl) ⟨[],_,[],rfl,rfl,by decide,by simp [AV.ren,zal],trivial,rfl⟩
def ze1 (v:List Nd):List (List Nd):=(zax v 0).map fun q=>zaz v q
theorem sub_pos {v:List Nd} {n:Nat} (h:zau v=0) (hn:n < v.length):0 < (zaz v n).length:=by
 have hg:=endP_gt h hn
 unfold endP at hg
 omega
theorem kids_err {v:List Nd} {q:Int} (h:q∈zax v 0):zau v=0:=by
 unfold zax at h
 split at h
 ·rename_i h0
  exact(zd9 h0).1
 ·cases h
theorem kidsS_mem {v x:List Nd} (h:x∈ze1 v):0 < x.length∧x.length≤v.length:=by
 obtain⟨q,hq,rfl⟩:=List.mem_map.1 h
 have he:=kids_err hq
 obtain⟨n,rfl,hn⟩:=zdf hq
 exact⟨sub_pos he hn,zgR v n⟩
theorem zjL {v:List Nd} {s:List UInt8} {x:List Nd} (h:x∈(za2 v s).1):0 < x.length∧x.length≤v.length:=by
 unfold za2 at h
 split at h
 ·rename_i h0
  have he:=(zdA h0).1
  obtain⟨q,hq,rfl⟩:=List.mem_map.1 h
  rw [← List.take_length (l:=(zaU v s).1)] at hq
  obtain⟨n,rfl,hn⟩:=zdi (za1 he).1 (Nat.le_refl _) hq
  exact⟨sub_pos he hn,zgR v n⟩
 ·cases h
theorem zgk (v:List Nd) (s:List UInt8):(za2 v s).1.length≤120:=by
 unfold za2
 split
 ·rename_i h0
  have he:=(zdA h0).1
  have h1:=zfc he (zaU v s).1 (zaU v s).1.length (Nat.le_refl _)
  rw [List.take_length] at h1
  have:=za1 he
  simp only [List.length_map]
  omega
 ·simp
theorem zjM (v:List Nd):(ze1 v).length≤120:=by
 unfold ze1
 rw [List.length_map]
 unfold zax
 split
 ·rename_i h
  obtain⟨h0,hp0,hp1⟩:=zd9 h
  obtain⟨r,hr1,hr2,hr3,hr4⟩:=zg1 h0 (p:=(0:Int).toNat) (by omega)
  obtain⟨n,hK⟩:=zbN hr1
  have f:=hK.few
  have hg:v.getD (0:Int).toNat n0d=n:=zav hK.node
  have:=za1 h0
  rw [List.length_map,kidP,List.length_map,List.length_range,hg]
  omega
 ·simp
theorem ziq {v:List Nd} {ps:List Int} {j:Nat} (h:j < ps.length):zbq v ps (j+1)=zbq v ps j++[zaz v (ps.getD j 0)]:=by
 unfold zbq
 rw [zbR 0 h,List.map_append]
 rfl
theorem tkids_ok (v:List Nd) (hv:v.length≤1000000):ACalls Tryz.prog 183 [.sl (v.flatMap nC) v.length] [] (fun y _=>y=.ret (.sl ((ze1 v).map slNs) (ze1 v).length)):=by
 refine ACalls.body T_ok Tryz.func183 (by kernel_rfl) rfl Tryz.ntmps183 (congrArg Array.toList Tryz.results183) ?_
 refine aQ50 ?_
 refine(zjE v 0 hv).pure aQ5 ?_
 rintro _ σ ⟨rfl,rfl⟩
 refine⟨by simp [AEnd.noid,AV.ren,zam i64 zac],?_⟩
 have hkl:=zde v 0 hv
 have hsv:ze1 v=zbq v (zax v 0) (zax v 0).length:=by rw [zbq,List.take_length];rfl
 rw [hsv]
 generalize zax v 0=ps at hkl ⊢
 refine aQ50 ?_
 rw [zaK]
 refine⟨Nat,fun j=>j≤ps.length,fun j=>[.sl (v.flatMap nC) v.length,.bot,.bot,.ref 0 0 (zbq v ps j).length 1,.bot,.bot,.bot,.sl (ps.map i64) ps.length,i64 ps.length,i64 j,.bot,.bot,.bot,.bot,.bot,.bot,.bot,.bot,.bot,.bot,.bot],fun j=>[.rw ((zbq v ps j).map slNs)],fun j=>ps.length - j,0,Nat.zero_le _,zbv 3 1 rfl (zab (q:=[0]) rfl rfl (by decide) ?_ ?_),?_⟩
 ·refine aQ18 ?_
  simp [zai,AV.ren,zbq]
 ·refine aQ18 ?_
  simp [zaw,zar,renL,zbq]
 intro j hj
 have hj:j≤ps.length:=hj
 dsimp only
 by_cases jlt:j < ps.length
 ·have dj:decide ((j:Int) < (ps.length:Int))=true:=decide_eq_true (by omega)
  have hst:=ziq (v:=v) jlt
  have hln:(zbq v ps j).length=j:=by unfold zbq;rw [List.length_map,List.length_take];omega
  have dza:=dj
  refine aQ51 ?_
  refine⟨by omega,by omega,jlt,?_⟩
  generalize ps.getD j 0=q at hst ⊢
  refine(Sub_ok v q hv).pure aQ5 ?_
  rintro _ σ ⟨rfl,rfl⟩
  refine⟨by simp [AEnd.noid,AV.ren,zai],?_⟩
  refine aQ50 ?_
  refine zaG slNs zbC rfl rfl T40 T40 (zc5 _) T23 (Go.Eng.one_sl _) (l:=zbq v ps j) (ys:=[zaz v q]) (m:=1) rfl rfl rfl (by omega) (by simp only [tySl];omega) ?_
  refine aQ50 ?_
  refine⟨by unfold inI;omega,?_⟩
  rw [zad]
  refine⟨j+1,by (show j+1≤ps.length);omega,by (show ps.length - (j+1) < ps.length - j);omega,?_⟩
  rw [hst,List.length_append]
  refine zab (q:=[2]) rfl rfl (by decide) ?_ ?_
  ·refine aQ18 ?_
   simp [zai,AV.ren]
  ·refine aQ18 ?_
   exact aQ39 trivial
 ·obtain rfl:j=ps.length:=by omega
  have dj:decide ((ps.length:Int) < (ps.length:Int))=false:=decide_eq_false (by omega)
  have dza:=dj
  refine aQ51 ?_
  generalize zbq v ps ps.length=L
  exact zaX [0] (.sl (L.map slNs) L.length) (zdB rfl) ⟨[],_,[],rfl,rfl,by decide,by simp [AV.ren,zal],trivial,rfl⟩
def zfl (x:List Nd):List (List Nd):=if (x.getD 0 n0d).kind=4 then zb4 zaV (ze1 x) else zb4 zaV [x]
def zeA (l:List (List Nd)):List (List Nd):=l.flatMap zfl
def zc8 (v:List Nd) (s:List UInt8):List (List Nd):=zeA (za2 v s).1
theorem zir {l:List (List Nd)} {k:Nat} (h:k < l.length):zeA (l.take (k+1))=zeA (l.take k)++zfl (l.getD k []):=by
 rw [zbR [] h,zeA,zeA,List.flatMap_append,List.flatMap_cons,List.flatMap_nil,List.append_nil]
theorem zjN (x:List Nd):(zfl x).length≤120:=by
 unfold zfl
 split
 ·exact Nat.le_trans (zho _ _) (zjM x)
 ·exact Nat.le_trans (zho _ _) (by simp)
theorem elem_le (l:List (List Nd)) (k:Nat) (hk:k≤l.length):(zeA (l.take k)).length≤k * 120:=by
 induction k with
 | zero=>simp [zeA]
 | succ k ih =>
  rw [zir (by omega),List.length_append]
  have:=zjN (l.getD k [])
  have:=ih (by omega)
  omega
theorem zcp (L:List (List Nd)) (n:Nat) (e:Int) (q:List Nat):(AV.tup [.sl (L.map slNs) n,i64 e]).ren q=some (.tup [.sl (L.map slNs) n,i64 e]):=by simp [AV.ren,renL,zal,zac]
theorem zfh {σ:zaa} (L:List (List Nd)):asrc σ 1 (.sl (L.map slNs) L.length)=some (L.map slNs,L.length):=by
 simp [asrc,asl,List.take_of_length_le]
theorem Elements_ok (v:List Nd) (s:List UInt8) (hv:v.length≤1000000) (hs:s.length≤1000000000):ACalls Tryz.prog 147 [.sl (v.flatMap nC) v.length,str s] [] (fun y _=>y=.ret (.tup [.sl ((zc8 v s).map slNs) (zc8 v s).length,i64 (za2 v s).2])):=by
 have hmem:=fun x=>@zjL v s x
 have hfew:=zgk v s
 obtain⟨E,hE⟩:∃ E,E=zc8 v s:=⟨_,rfl⟩
 rw [← hE]
 unfold zc8 at hE
 have hnone:(za2 v s).2≠0→(za2 v s).1=[]:=by
  intro h
  unfold za2 at h ⊢
  split
  ·rename_i h0;rw [if_pos h0] at h;exact absurd rfl h
  ·rfl
 refine ACalls.body T_ok Tryz.func147 (by kernel_rfl) rfl Tryz.ntmps147 (congrArg Array.toList Tryz.results147) ?_
 refine aQ50 ?_
 refine(PEachA_ok v s hv (by omega)).pure aQ7 ?_
 rintro _ σ rfl
 refine⟨zcp _ _ _ _,?_⟩
 generalize za2 v s=X at hmem hfew hE hnone ⊢
 obtain⟨l,e⟩:=X
 dsimp only at hmem hfew hE hnone ⊢
 by_cases he:e=0
 rotate_left
 ·have dza:=decide_eq_false he
  refine aQ51 ?_
  rw [hnone he] at hE
  subst hE
  exact zaX [] (.tup [.sl (([]:List (List Nd)).map slNs) 0,i64 e]) ⟨_,rfl,_,_,rfl,.inr ⟨rfl,rfl⟩,_,_,rfl,.inl rfl,rfl⟩ ⟨[],_,[],rfl,rfl,by decide,zcp [] 0 e _,trivial,rfl⟩
 subst he
 refine aQ50 ?_
 rw [zaK]
 refine⟨Nat,fun k=>k≤l.length,fun k=>[.bot,.bot,.bot,.bot,.bot,.bot,.bot,.bot,.ref 0 0 (zeA (l.take k)).length 1,.bot,.bot,.bot,.bot,.bot,.bot,.bot,.bot,.bot,.bot,.bot,.sl (l.map slNs) l.length,i64 l.length,i64 k,.bot,.bot,.bot,.bot,.bot,.bot,.bot,.bot,.bot,.bot,.bot,.bot,.bot,.bot,.bot,.bot,.bot,.bot,.bot,.bot],fun k=>[.rw ((zeA (l.take k)).map slNs)],fun k=>l.length - k,0,Nat.zero_le _,zbv 8 1 rfl (zab (q:=[0]) rfl rfl (by decide) ?_ ?_),?_⟩
 ·refine aQ18 ?_
  simp [zal,AV.ren,zeA]
 ·refine aQ18 ?_
  simp [zaw,zar,renL,zeA]
 intro k hk
 have hk:k≤l.length:=hk
 dsimp only
 by_cases hlt:k < l.length
 ·have dk:decide ((k:Int) < (l.length:Int))=true:=decide_eq_true (by omega)
  have hst:=zir hlt
  have hle:=elem_le l k hk
  obtain⟨x0,x1⟩:=hmem (l.getD k []) (by rw [List.getD_eq_getElem?_getD,List.getElem?_eq_getElem hlt];exact List.getElem_mem hlt)
  have hxl:=zjN (l.getD k [])
  have dza:=dk
  refine aQ51 ?_
  refine⟨by omega,by omega,Nat.le_refl _,hlt,?_⟩
  generalize l.getD k []=x at hst x0 x1 hxl ⊢
  try simp -implicitDefEqProofs only [LM1,eq_self,Nat.zero_mul,lzS,bx_P,zat,zat,slNs,TB,SB,Int.reduceToNat,Nat.reduceAdd,Nat.reduceEqDiff,Nat.reduceLT,Nat.reduceMod,Nat.reducePow,Nat.reduceSub,if_true,reduceIte]
  refine⟨by omega,by omega,Nat.le_refl _,?_⟩
  rw [zfk (t:=0) x0]
  by_cases h4:(x.getD 0 n0d).kind=4
  ·have hx:zfl x=zb4 zaV (ze1 x):=by rw [zfl,if_pos h4]
   rw [hx] at hst hxl
   have hkf:=zjM x
   have dza:=decide_eq_true h4
   refine aQ51 ?_
   refine(tkids_ok x (by omega)).pure (zdz _ _ _) ?_
   rintro _ σ rfl
   refine⟨by simp [AEnd.noid,AV.ren,zal],?_⟩
   refine aQ50 ?_
   refine(pickN_ok (ze1 x) (by omega) (fun y hy=>by have:=kidsS_mem hy;omega)).pure (by simp [renL,AV.ren,zal]) ?_
   rintro _ σ rfl
   refine⟨by simp [AEnd.noid,AV.ren,zal],?_⟩
   generalize zb4 zaV (ze1 x)=Y at hst hxl ⊢
   refine aQ50 ?_
   refine zaG slNs zbC rfl rfl T40 T40 (zc5 _) T23 (Go.Eng.one_sl _) (l:=zeA (l.take k)) (ys:=Y) (m:=Y.length) rfl rfl (zfh _) (by omega) (by simp only [tySl];omega) ?_
   refine aQ50 ?_
   refine⟨by unfold inI;omega,?_⟩
   rw [zad]
   refine⟨k+1,by (show k+1≤l.length);omega,by (show l.length - (k+1) < l.length - k);omega,?_⟩
   rw [hst,List.length_append]
   refine zab (q:=[1]) rfl rfl (by decide) ?_ ?_
   ·refine aQ18 ?_
    simp [zal,AV.ren]
   ·refine aQ18 ?_
    exact aQ39 trivial
  ·have hx:zfl x=zb4 zaV [x]:=by rw [zfl,if_neg h4]
   rw [hx] at hst hxl
   have dza:=decide_eq_false h4
   refine aQ51 ?_
   refine ACalls.frz [1] (l':=[.sl ([x].map slNs) [x].length,.fn (.func 184) [] []]) ⟨_,_,rfl,zdB (L:=[x]) rfl,_,_,rfl,rfl,rfl⟩ ?_
   simp only [zdX,List.getElem?_cons_zero,List.getElem?_cons_succ,List.set_cons_zero,List.set_cons_succ]
   refine(pickN_ok [x] (by simp) (fun y hy=>by rw [List.mem_singleton.1 hy];omega)).pure (by simp [renL,AV.ren,zgd]) ?_
   rintro _ σ rfl
   refine⟨by simp [AEnd.noid,AV.ren,zal],?_⟩
   generalize zb4 zaV [x]=Y at hst hxl ⊢
   refine aQ50 ?_
   refine zaG slNs zbC rfl rfl T40 T40 (zc5 _) T23 (Go.Eng.one_sl _) (l:=zeA (l.take k)) (ys:=Y) (m:=Y.length) rfl rfl (zfh _) (by omega) (by simp only [tySl];omega) ?_
   refine aQ50 ?_
   refine⟨by unfold inI;omega,?_⟩
   rw [zad]
   refine⟨k+1,by (show k+1≤l.length);omega,by (show l.length - (k+1) < l.length - k);omega,?_⟩
   rw [hst,List.length_append]
   refine zab (q:=[2]) rfl rfl (by decide) ?_ ?_
   ·refine aQ18 ?_
    simp [zal,AV.ren]
   ·refine aQ18 ?_
    exact aQ39 trivial
 ·obtain rfl:k=l.length:=by omega
  have dk:decide ((l.length:Int) < (l.length:Int))=false:=decide_eq_false (by omega)
  rw [List.take_length]
  have dza:=dk
  refine aQ51 ?_
  rw [← hE]
  exact zaX [0] (.tup [.sl (E.map slNs) E.length,i64 0]) ⟨_,rfl,_,_,rfl,zdB rfl,_,_,rfl,.inl rfl,rfl⟩ ⟨[],_,[],rfl,rfl,by decide,by simp [AV.ren,renL,zal,zac],trivial,rfl⟩
def qC (q:Qn):List AV:=[i64 q.op,str q.path,.sl (q.val.flatMap nC) q.val.length,i64 q.kids]
def qs (l:List Qn):AV:=.sl (l.flatMap qC) l.length
theorem qF:RowF qC 4:=⟨fun _=>rfl,fun _=>rfl,fun q a=>by simp [qC,renL,AV.ren,zai,zac,zaj]⟩
theorem zjO (q:List Nat) (l:List Qn) (n:Nat):(AV.sl (l.flatMap qC) n).ren q=some (.sl (l.flatMap qC) n):=qF.fsl _ _ _
section
variable {σ : zaa} {K : AV → Prop} {KS : AV → zaa → Prop} {id : Nat}
theorem zkh (o:Nat):zag T 37 (.ptr id o) 0 K=K (.ptr id (o+0)):=fzP T37 rfl rfl T35 (by decide) id o
theorem zki (o:Nat):zag T 37 (.ptr id o) 1 K=K (.ptr id (o+1)):=fzP T37 rfl rfl T9 (by decide) id o
theorem zkj (o:Nat):zag T 37 (.ptr id o) 2 K=K (.ptr id (o+2)):=fzP T37 rfl rfl T23 (by decide) id o
theorem zkk (o:Nat):zag T 37 (.ptr id o) 3 K=K (.ptr id (o+3)):=fzP T37 rfl rfl T3 (by decide) id o
theorem zkl (cs:List AV):zag T 37 (.rp cs) 0 K=K (.rp (cs.drop 0)):=fzR T37 rfl rfl T35 (by decide) cs
theorem zkm (cs:List AV):zag T 37 (.rp cs) 1 K=K (.rp (cs.drop 1)):=fzR T37 rfl rfl T9 (by decide) cs
theorem zkn (cs:List AV):zag T 37 (.rp cs) 2 K=K (.rp (cs.drop 2)):=fzR T37 rfl rfl T23 (by decide) cs
theorem zko (cs:List AV):zag T 37 (.rp cs) 3 K=K (.rp (cs.drop 3)):=fzR T37 rfl rfl T3 (by decide) cs
theorem ia_Q (l:List Qn) (m:Nat) (k:Int):ia3 (some tyQ) (.sl (l.flatMap qC) m) k K=(0≤k∧k < m∧m≤l.length∧K (.rp ((l.drop k.toNat).flatMap qC))):=qF.ia rfl (by decide) l m k
theorem ld_Q (l:List Qn) (k:Nat):ld2 (some tyQ) (some ((l.drop k).flatMap qC)) 0 K=(k < l.length∧K (.agg (qC (l.getD k q0)))):=qF.ld rfl (by decide) rfl q0 l k
theorem zij (l:List Qn) (k:Nat):ld2 (some zaC) (some ((l.drop k).flatMap qC)) 0 K=(k < l.length∧K (i64 (l.getD k q0).op)):=qF.ldf0 rfl rfl (by decide) q0 l k
theorem zik (l:List Qn) (k:Nat):ld2 (some zbf) (some (((l.drop k).flatMap qC).drop 1)) 0 K=(k < l.length∧K (str (l.getD k q0).path)):=qF.ldf rfl rfl 1 (by decide) q0 l k
theorem zil (e:TypeId) (l:List Qn) (k:Nat):ld2 (some (tySl e)) (some (((l.drop k).flatMap qC).drop 2)) 0 K=(k < l.length∧K (.sl ((l.getD k q0).val.flatMap nC) (l.getD k q0).val.length)):=qF.ldf rfl rfl 2 (by decide) q0 l k
theorem zim (l:List Qn) (k:Nat):ld2 (some zaC) (some (((l.drop k).flatMap qC).drop 3)) 0 K=(k < l.length∧K (i64 (l.getD k q0).kids)):=qF.ldf rfl rfl 3 (by decide) q0 l k
theorem lq_i (a:AV) (r:List AV):ld2 (some zaC) (some (a::r)) 0 K=K a:=lz0 rfl rfl a r
theorem lq_s (a:AV) (r:List AV):ld2 (some zbf) (some (a::r)) 0 K=K a:=lz0 rfl rfl a r
theorem lq_l (e:TypeId) (a:AV) (r:List AV):ld2 (some (tySl e)) (some (a::r)) 0 K=K a:=lz0 rfl rfl a r
theorem lq_f (a:AV) (r:List AV):ld2 (some tyFn) (some (a::r)) 0 K=K a:=lz0 rfl rfl a r
theorem lw_Q (a b c d:AV):ld2 (some tyQ) (some [a,b,c,d]) 0 K=K (.agg [a,b,c,d]):=lzW rfl rfl
theorem bx_Q (e:TypeId) (o:Int) (p:List UInt8) (cs:List AV) (n:Nat) (k:Int):wbox e (.agg [i64 o,str p,.sl cs n,i64 k]) σ KS=KS (.ptr σ.length 0) (σ++[.rw [i64 o,str p,.sl cs n,i64 k]]):=bxW rfl rfl e
end
theorem qC_eq (q:Qn):qC q=[i64 q.op,str q.path,.sl (q.val.flatMap nC) q.val.length,i64 q.kids]:=rfl
def valB (q:Qn):Bool:=if q.op=2 then decide (q.val.length=0) else decide (zau q.val=0) && (decide (q.op≠1) || decide ((q.val.getD 0 n0d).kind=4))
def mayB (q:Qn):Bool :=
 if 0≤q.op∧q.op≤4 then decide (q.kids=0) && isV q.path && valB q
 else if q.op=5∨q.op=6 then decide (q.kids ≥ 0) && decide (q.path=[]) && decide (q.val.length=0)
 else if q.op=7 then decide (q.kids=1) && decide (q.path=[]) && decide (q.val.length=0)
 else false
def zis (q:Qn):Prop:=q.path.length≤1000000∧q.val.length≤1000000
theorem value22_ok (q:Qn) (hq:zis q):ACalls Tryz.prog 112 [.agg (qC q)] [] (fun y _=>y=.ret (bl (valB q))):=by
 have hfin:∀ (b:Bool) (σ:zaa),b=valB q→endQ 0 (bl b) σ (fun r _=>AEnd.ret r=AEnd.ret (bl (valB q))):=fun b σ h=>zaq (by rw [h])
 rw [qC_eq]
 refine ACalls.body T_ok Tryz.func112 (by kernel_rfl) rfl Tryz.ntmps112 (congrArg Array.toList Tryz.results112) ?_
 by_cases h2:q.op=2
 ·have dza:=decide_eq_true h2
  refine aQ52 ?_
  refine hfin _ _ ?_
  rw [valB,if_pos h2]
  exact decide_eq_decide.2 (by omega)
 have dza:=decide_eq_false h2
 refine aQ52 ?_
 refine(zhh q.val hq.2).pure (zdz _ _ _) ?_
 rintro _ σ ⟨rfl,rfl⟩
 refine⟨zac _ _,?_⟩
 by_cases h0:zau q.val=0
 rotate_left
 ·have dza:=decide_eq_false h0
  refine aQ52 ?_
  refine hfin _ _ ?_
  rw [valB,if_neg h2,decide_eq_false h0]
  rfl
 by_cases h1:q.op=1
 rotate_left
 ·rw [h0]
  have dza:=decide_eq_false h1
  refine aQ52 ?_
  refine hfin _ _ ?_
  rw [valB,if_neg h2,decide_eq_true h0,decide_eq_true h1]
  rfl
 have hlen:=za1 h0
 rw [h0]
 have dza:=decide_eq_true h1
 refine aQ52 ?_
 refine⟨by omega,by omega,Nat.le_refl _,?_⟩
 rw [zfk (t:=0) (by omega)]
 refine aQ53 ?_
 refine hfin _ _ ?_
 rw [valB,if_neg h2,decide_eq_true h0,decide_eq_false (not_not_intro h1)]
 rfl
theorem may_ok (q:Qn) (hq:zis q):ACalls Tryz.prog 68 [.agg (qC q)] [] (fun y _=>y=.ret (bl (mayB q))):=by
 have hfin:∀ (b:Bool) (σ:zaa),b=mayB q→endQ 0 (bl b) σ (fun r _=>AEnd.ret r=AEnd.ret (bl (mayB q))):=fun b σ h=>zaq (by rw [h])
 have hv:=value22_ok q hq
 have hi:=isPath_ok q.path (by have:=hq.1;omega)
 rw [qC_eq] at hv ⊢
 refine ACalls.body T_ok Tryz.func68 (by kernel_rfl) rfl Tryz.ntmps68 (congrArg Array.toList Tryz.results68) ?_
 obtain⟨o,p,v,k⟩:=q
 dsimp only at hv hi ⊢
 have mk:∀ b:Bool,mayB ⟨o,p,v,k⟩=b→(if 0≤o∧o≤4 then decide (k=0) && isV p && valB ⟨o,p,v,k⟩ else if o=5∨o=6 then decide (k ≥ 0) && decide (p=[]) && decide (v.length=0) else if o=7 then decide (k=1) && decide (p=[]) && decide (v.length=0) else false)=b:=fun b h=>h
 rcases (show (o=0∨o=1∨o=2∨o=3∨o=4)∨(o=5∨o=6)∨o=7∨(o < 0∨7 < o) by omega) with h04 | h56 | h7 | hx
 ·have h1:0≤o∧o≤4:=by omega
  have mm:=mk _ rfl
  rw [if_pos h1] at mm
  have hd:∀ j:Int,j=0∨j=1∨j=2∨j=3∨j=4→True:=fun _ _=>trivial
  by_cases hk:k=0
  ·rw [decide_eq_true hk,Bool.true_and] at mm
   rcases h04 with rfl | rfl | rfl | rfl | rfl
   all_goals
    have dza:=decide_eq_true hk
    refine aQ54 ?_
    refine hi.pure (by simp [renL,zaj]) ?_
    rintro _ σ rfl
    refine⟨zay _ _,?_⟩
    cases hp:isV p with
    | false =>
     rw [hp,Bool.false_and] at mm
     refine aQ53 ?_
     exact hfin _ _ mm
    | true =>
     rw [hp,Bool.true_and] at mm
     refine aQ53 ?_
     refine hv.pure aQ11 ?_
     rintro _ σ rfl
     refine⟨zay _ _,?_⟩
     refine aQ53 ?_
     exact hfin _ _ mm
  ·rw [decide_eq_false hk,Bool.false_and,Bool.false_and] at mm
   rcases h04 with rfl | rfl | rfl | rfl | rfl
   all_goals
    have dza:=decide_eq_false hk
    refine aQ54 ?_
    exact hfin _ _ mm
 ·have h1:¬ (0≤o∧o≤4):=by omega
  have mm:=mk _ rfl
  rw [if_neg h1,if_pos h56] at mm
  by_cases hk:0≤k
  rotate_left
  ·rw [decide_eq_false hk,Bool.false_and,Bool.false_and] at mm
   rcases h56 with rfl | rfl
   all_goals
    have dza:=decide_eq_false hk
    refine aQ54 ?_
    exact hfin _ _ mm
  by_cases hp:p=[]
  rotate_left
  ·rw [decide_eq_true hk,decide_eq_false hp,Bool.true_and,Bool.false_and] at mm
   rcases h56 with rfl | rfl
   all_goals
    have dza:=decide_eq_true hk
    have dzb:=decide_eq_false hp
    refine aQ55 ?_
    exact hfin _ _ mm
  by_cases hl:(v.length:Int)=0
  ·rw [decide_eq_true hk,decide_eq_true hp,decide_eq_true (show v.length=0 by omega)] at mm
   rcases h56 with rfl | rfl
   all_goals
    have dza:=decide_eq_true hk
    have dzb:=decide_eq_true hp
    have dzc:=decide_eq_true hl
    refine aQ56 ?_
    exact hfin _ _ mm
  ·rw [decide_eq_true hk,decide_eq_true hp,decide_eq_false (show ¬ v.length=0 by omega)] at mm
   rcases h56 with rfl | rfl
   all_goals
    have dza:=decide_eq_true hk
    have dzb:=decide_eq_true hp
    have dzc:=decide_eq_false hl
    refine aQ56 ?_
    exact hfin _ _ mm
 ·have h1:¬ (0≤o∧o≤4):=by omega
  have mm:=mk _ rfl
  rw [if_neg h1,if_neg (by omega),if_pos h7] at mm
  subst h7
  by_cases hk:k=1
  rotate_left
  ·rw [decide_eq_false hk,Bool.false_and,Bool.false_and] at mm
   have dza:=decide_eq_false hk
   refine aQ54 ?_
   exact hfin _ _ mm
  by_cases hp:p=[]
  rotate_left
  ·rw [decide_eq_true hk,decide_eq_false hp,Bool.true_and,Bool.false_and] at mm
   have dza:=decide_eq_true hk
   have dzb:=decide_eq_false hp
   refine aQ55 ?_
   exact hfin _ _ mm
  by_cases hl:(v.length:Int)=0
  ·rw [decide_eq_true hk,decide_eq_true hp,decide_eq_true (show v.length=0 by omega)] at mm
   have dza:=decide_eq_true hk
   have dzb:=decide_eq_true hp
   have dzc:=decide_eq_true hl
   refine aQ56 ?_
   exact hfin _ _ mm
  ·rw [decide_eq_true hk,decide_eq_true hp,decide_eq_false (show ¬ v.length=0 by omega)] at mm
   have dza:=decide_eq_true hk
   have dzb:=decide_eq_true hp
   have dzc:=decide_eq_false hl
   refine aQ56 ?_
   exact hfin _ _ mm
 ·have h1:¬ (0≤o∧o≤4):=by omega
  have mm:=mk _ rfl
  rw [if_neg h1,if_neg (by omega),if_neg (by omega)] at mm
  try simp -implicitDefEqProofs only [LM3,eq_self,Nat.zero_mul,lzS,bx_P,zkh,zki,zkj,zkk,zkl,zkm,zkn,zko,ia_Q,ld_Q,zij,zik,zil,zim,lq_i,lq_s,lq_l,lq_f,lzS,lw_Q,bx_Q,decide_eq_false (show ¬ o=0 by omega),decide_eq_false (show ¬ o=1 by omega),decide_eq_false (show ¬ o=2 by omega),decide_eq_false (show ¬ o=3 by omega),decide_eq_false (show ¬ o=4 by omega),decide_eq_false (show ¬ o=5 by omega),decide_eq_false (show ¬ o=6 by omega),decide_eq_false (show ¬ o=7 by omega),TB,SB,Int.reduceToNat,Nat.reduceAdd,Nat.reduceEqDiff,Nat.reduceLT,Nat.reduceMod,Nat.reducePow,Nat.reduceSub,if_true,reduceIte]
  exact hfin _ _ mm
set_option linter.defProp false in
def LB17:=And.intro @zkh (And.intro @zki (And.intro @zkj (And.intro @zkk (And.intro @zkl (And.intro @zkm (And.intro @zkn (And.intro @zko (And.intro @ia_Q (And.intro @ld_Q (And.intro @zij (And.intro @zik (And.intro @zil (And.intro @zim (And.intro @lq_i (And.intro @lq_s (And.intro @lq_l (And.intro @lq_f (And.intro @lw_Q (And.intro @bx_Q (@box_fn))))))))))))))))))))
def zfm (σ:zaa):Prop:=zaw σ (List.range σ.length) (List.range σ.length) σ
theorem idxQ_ok (l : List Qn) (hl : l.length ≤ 1000000000) (g : FuncId) (rs cs : List AV) (σ : zaa) (p : Qn → Bool) (hσ : zfm σ) (hr : renL (List.range σ.length) rs = some rs) (hcs : renL (List.range σ.length) cs = some cs) (hc : ∀ k, k < l.length → ACalls Tryz.prog g (rs ++ [.agg (qC (l.getD k q0))] ++ cs) σ (fun y σ' => y = .ret (bl (p (l.getD k q0))) ∧ σ' = σ)) :
  ACalls Tryz.prog 193 [.sl (l.flatMap qC) l.length, .fn (.func g) rs cs] σ (fun y σ' => ∃ z : Int, y = .ret (i64 z) ∧ σ' = σ ∧ (0 ≤ z ↔ l.any p = true)) := by
 refine ACalls.body T_ok Tryz.func193 (by kernel_rfl) rfl Tryz.ntmps193 (congrArg Array.toList Tryz.results193) ?_
 refine aQ57 ?_
 rw [zaK]
 refine⟨Nat,fun k=>k≤l.length∧∀ i,i < k→p (l.getD i q0)=false,fun k=>[.sl (l.flatMap qC) l.length,.fn (.func g) rs cs,.bot,.bot,i64 0,.bot,.bot,i64 l.length,i64 k,.bot,.bot,.bot,.bot,.bot,.bot,.bot,.bot,.bot,.bot],fun _=>σ,fun k=>l.length - k,0,⟨Nat.zero_le _,fun i hi=>absurd hi (Nat.not_lt_zero _)⟩,zab (q:=List.range σ.length) (by simp) (by simp) List.nodup_range ?_ hσ,?_⟩
 ·refine aQ18 ?_
  simp [zjO,qF.fren,hr,hcs]
 rintro k ⟨hk,hno⟩
 dsimp only
 by_cases hlt:k < l.length
 rotate_left
 ·obtain rfl:k=l.length:=by omega
  have dk:decide ((l.length:Int) < (l.length:Int))=false:=decide_eq_false (by omega)
  have dza:=dk
  refine aQ58 ?_
  refine zas ⟨_,rfl,rfl,⟨fun h=>absurd h (by omega),fun h=>?_⟩⟩
  obtain⟨x,hx,hp⟩:=List.any_eq_true.1 h
  obtain⟨i,hi,rfl⟩:=List.getElem_of_mem hx
  have:=hno i hi
  rw [List.getD_eq_getElem?_getD,List.getElem?_eq_getElem hi] at this
  rw [Option.getD_some] at this
  rw [this] at hp
  cases hp
 have dk:decide ((k:Int) < (l.length:Int))=true:=decide_eq_true (by omega)
 have hck:=hc k hlt
 have hany:p (l.getD k q0)=true→l.any p=true:=fun h=>by
  rw [List.getD_eq_getElem?_getD,List.getElem?_eq_getElem hlt] at h
  exact List.any_eq_true.2 ⟨_,List.getElem_mem hlt,h⟩
 have dza:=dk
 refine aQ58 ?_
 refine⟨by omega,by omega,Nat.le_refl _,hlt,?_⟩
 refine hck.mono ?_
 rintro _ τ ⟨rfl,e⟩
 rw [e]
 cases hp:p (l.getD k q0) with
 | true =>
  refine aQ57 ?_
  exact zas ⟨_,rfl,rfl,⟨fun _=>hany hp,fun _=>by omega⟩⟩
 | false =>
  refine aQ57 ?_
  refine⟨by unfold inI;omega,?_⟩
  rw [zad]
  refine⟨k+1,⟨by omega,fun i hi=>?_⟩,by (show l.length - (k+1) < l.length - k);omega,zab (q:=List.range σ.length) (by simp) (by simp) List.nodup_range ?_ hσ⟩
  ·rcases Nat.lt_succ_iff_lt_or_eq.1 hi with h | rfl
   ·exact hno i h
   ·exact hp
  ·refine aQ18 ?_
   simp [zjO,qF.fren,hr,hcs]
theorem contQ_ok (l : List Qn) (hl : l.length ≤ 1000000000) (g : FuncId) (rs cs : List AV) (σ : zaa) (p : Qn → Bool) (hσ : zfm σ) (hr : renL (List.range σ.length) rs = some rs) (hcs : renL (List.range σ.length) cs = some cs) (hc : ∀ k, k < l.length → ACalls Tryz.prog g (rs ++ [.agg (qC (l.getD k q0))] ++ cs) σ (fun y σ' => y = .ret (bl (p (l.getD k q0))) ∧ σ' = σ)) :
  ACalls Tryz.prog 155 [.sl (l.flatMap qC) l.length, .fn (.func g) rs cs] σ (fun y σ' => y = .ret (bl (l.any p)) ∧ σ' = σ) := by
 refine ACalls.body T_ok Tryz.func155 (by kernel_rfl) rfl Tryz.ntmps155 (congrArg Array.toList Tryz.results155) ?_
 refine aQ57 ?_
 refine(idxQ_ok l hl g rs cs σ p hσ hr hcs hc).mono ?_
 rintro _ _ ⟨z,rfl,rfl,hz⟩
 have hd:decide (0≤z)=l.any p:=by
  cases h:l.any p with
  | true=>exact decide_eq_true (hz.2 h)
  | false=>exact decide_eq_false fun h2=>by rw [hz.1 h2] at h;cases h
 have dza:=hd
 refine aQ58 ?_
 exact zas ⟨rfl,rfl⟩
theorem oneQ_ok (l : List Qn) (hl : l.length ≤ 1000000000) (g : FuncId) (rs cs : List AV) (σ : zaa) (p : Qn → Bool) (hσ : zfm σ) (hr : renL (List.range σ.length) rs = some rs) (hcs : renL (List.range σ.length) cs = some cs) (hc : ∀ k, k < l.length → ACalls Tryz.prog g (rs ++ [.agg (qC (l.getD k q0))] ++ cs) σ (fun y σ' => y = .ret (bl (p (l.getD k q0))) ∧ σ' = σ)) :
  ACalls Tryz.prog 110 [.sl (l.flatMap qC) l.length, .fn (.func g) rs cs] σ (fun y σ' => y = .ret (bl (l.any p)) ∧ σ' = σ) := by
 refine ACalls.body T_ok Tryz.func110 (by kernel_rfl) rfl Tryz.ntmps110 (congrArg Array.toList Tryz.results110) ?_
 refine aQ57 ?_
 refine(contQ_ok l hl g rs cs σ p hσ hr hcs hc).mono ?_
 rintro _ _ ⟨rfl,rfl⟩
 refine aQ57 ?_
 exact zas ⟨rfl,rfl⟩
theorem idxI_ok (l : List Int) (hl : l.length ≤ 1000000000) (g : FuncId) (rs cs : List AV) (σ : zaa) (p : Int → Bool) (hσ : zfm σ) (hr : renL (List.range σ.length) rs = some rs) (hcs : renL (List.range σ.length) cs = some cs) (hc : ∀ k, k < l.length → ACalls Tryz.prog g (rs ++ [i64 (l.getD k 0)] ++ cs) σ (fun y σ' => y = .ret (bl (p (l.getD k 0))) ∧ σ' = σ)) :
  ACalls Tryz.prog 185 [.sl (l.map i64) l.length, .fn (.func g) rs cs] σ (fun y σ' => ∃ z : Int, y = .ret (i64 z) ∧ σ' = σ ∧ (0 ≤ z ↔ l.any p = true)) := by
 refine ACalls.body T_ok Tryz.func185 (by kernel_rfl) rfl Tryz.ntmps185 (congrArg Array.toList Tryz.results185) ?_
 refine aQ57 ?_
 rw [zaK]
 refine⟨Nat,fun k=>k≤l.length∧∀ i,i < k→p (l.getD i 0)=false,fun k=>[.sl (l.map i64) l.length,.fn (.func g) rs cs,.bot,.bot,i64 0,.bot,.bot,i64 l.length,i64 k,.bot,.bot,.bot,.bot,.bot,.bot,.bot,.bot,.bot,.bot],fun _=>σ,fun k=>l.length - k,0,⟨Nat.zero_le _,fun i hi=>absurd hi (Nat.not_lt_zero _)⟩,zab (q:=List.range σ.length) (by simp) (by simp) List.nodup_range ?_ hσ,?_⟩
 ·refine aQ18 ?_
  simp [AV.ren,zam i64 zac,hr,hcs]
 rintro k ⟨hk,hno⟩
 dsimp only
 by_cases hlt:k < l.length
 rotate_left
 ·obtain rfl:k=l.length:=by omega
  have dk:decide ((l.length:Int) < (l.length:Int))=false:=decide_eq_false (by omega)
  have dza:=dk
  refine aQ58 ?_
  refine zas ⟨_,rfl,rfl,⟨fun h=>absurd h (by omega),fun h=>?_⟩⟩
  obtain⟨x,hx,hp⟩:=List.any_eq_true.1 h
  obtain⟨i,hi,rfl⟩:=List.getElem_of_mem hx
  have:=hno i hi
  rw [List.getD_eq_getElem?_getD,List.getElem?_eq_getElem hi] at this
  rw [Option.getD_some] at this
  rw [this] at hp
  cases hp
 have dk:decide ((k:Int) < (l.length:Int))=true:=decide_eq_true (by omega)
 have hck:=hc k hlt
 have hany:p (l.getD k 0)=true→l.any p=true:=fun h=>by
  rw [List.getD_eq_getElem?_getD,List.getElem?_eq_getElem hlt] at h
  exact List.any_eq_true.2 ⟨_,List.getElem_mem hlt,h⟩
 have dza:=dk
 refine aQ58 ?_
 refine⟨by omega,by omega,hlt,?_⟩
 refine hck.mono ?_
 rintro _ τ ⟨rfl,e⟩
 rw [e]
 cases hp:p (l.getD k 0) with
 | true =>
  refine aQ57 ?_
  exact zas ⟨_,rfl,rfl,⟨fun _=>hany hp,fun _=>by omega⟩⟩
 | false =>
  refine aQ57 ?_
  refine⟨by unfold inI;omega,?_⟩
  rw [zad]
  refine⟨k+1,⟨by omega,fun i hi=>?_⟩,by (show l.length - (k+1) < l.length - k);omega,zab (q:=List.range σ.length) (by simp) (by simp) List.nodup_range ?_ hσ⟩
  ·rcases Nat.lt_succ_iff_lt_or_eq.1 hi with h | rfl
   ·exact hno i h
   ·exact hp
  ·refine aQ18 ?_
   simp [AV.ren,zam i64 zac,hr,hcs]
theorem contI_ok (l : List Int) (hl : l.length ≤ 1000000000) (g : FuncId) (rs cs : List AV) (σ : zaa) (p : Int → Bool) (hσ : zfm σ) (hr : renL (List.range σ.length) rs = some rs) (hcs : renL (List.range σ.length) cs = some cs) (hc : ∀ k, k < l.length → ACalls Tryz.prog g (rs ++ [i64 (l.getD k 0)] ++ cs) σ (fun y σ' => y = .ret (bl (p (l.getD k 0))) ∧ σ' = σ)) :
  ACalls Tryz.prog 148 [.sl (l.map i64) l.length, .fn (.func g) rs cs] σ (fun y σ' => y = .ret (bl (l.any p)) ∧ σ' = σ) := by
 refine ACalls.body T_ok Tryz.func148 (by kernel_rfl) rfl Tryz.ntmps148 (congrArg Array.toList Tryz.results148) ?_
 refine aQ57 ?_
 refine(idxI_ok l hl g rs cs σ p hσ hr hcs hc).mono ?_
 rintro _ _ ⟨z,rfl,rfl,hz⟩
 have hd:decide (0≤z)=l.any p:=by
  cases h:l.any p with
  | true=>exact decide_eq_true (hz.2 h)
  | false=>exact decide_eq_false fun h2=>by rw [hz.1 h2] at h;cases h
 have dza:=hd
 refine aQ58 ?_
 exact zas ⟨rfl,rfl⟩
theorem oneI_ok (l : List Int) (hl : l.length ≤ 1000000000) (g : FuncId) (rs cs : List AV) (σ : zaa) (p : Int → Bool) (hσ : zfm σ) (hr : renL (List.range σ.length) rs = some rs) (hcs : renL (List.range σ.length) cs = some cs) (hc : ∀ k, k < l.length → ACalls Tryz.prog g (rs ++ [i64 (l.getD k 0)] ++ cs) σ (fun y σ' => y = .ret (bl (p (l.getD k 0))) ∧ σ' = σ)) :
  ACalls Tryz.prog 99 [.sl (l.map i64) l.length, .fn (.func g) rs cs] σ (fun y σ' => y = .ret (bl (l.any p)) ∧ σ' = σ) := by
 refine ACalls.body T_ok Tryz.func99 (by kernel_rfl) rfl Tryz.ntmps99 (congrArg Array.toList Tryz.results99) ?_
 refine aQ57 ?_
 refine(contI_ok l hl g rs cs σ p hσ hr hcs hc).mono ?_
 rintro _ _ ⟨rfl,rfl⟩
 refine aQ57 ?_
 exact zas ⟨rfl,rfl⟩
theorem idxN_ok (l : List (List Nd)) (hl : l.length ≤ 1000000000) (g : FuncId) (rs cs : List AV) (σ : zaa) (p : (List Nd) → Bool) (hσ : zfm σ) (hr : renL (List.range σ.length) rs = some rs) (hcs : renL (List.range σ.length) cs = some cs) (hc : ∀ k, k < l.length → ACalls Tryz.prog g (rs ++ [slNs (l.getD k [])] ++ cs) σ (fun y σ' => y = .ret (bl (p (l.getD k []))) ∧ σ' = σ)) :
  ACalls Tryz.prog 181 [.sl (l.map slNs) l.length, .fn (.func g) rs cs] σ (fun y σ' => ∃ z : Int, y = .ret (i64 z) ∧ σ' = σ ∧ (0 ≤ z ↔ l.any p = true)) := by
 refine ACalls.body T_ok Tryz.func181 (by kernel_rfl) rfl Tryz.ntmps181 (congrArg Array.toList Tryz.results181) ?_
 refine aQ57 ?_
 rw [zaK]
 refine⟨Nat,fun k=>k≤l.length∧∀ i,i < k→p (l.getD i [])=false,fun k=>[.sl (l.map slNs) l.length,.fn (.func g) rs cs,.bot,.bot,i64 0,.bot,.bot,i64 l.length,i64 k,.bot,.bot,.bot,.bot,.bot,.bot,.bot,.bot,.bot,.bot],fun _=>σ,fun k=>l.length - k,0,⟨Nat.zero_le _,fun i hi=>absurd hi (Nat.not_lt_zero _)⟩,zab (q:=List.range σ.length) (by simp) (by simp) List.nodup_range ?_ hσ,?_⟩
 ·refine aQ18 ?_
  simp [AV.ren,zal,hr,hcs]
 rintro k ⟨hk,hno⟩
 dsimp only
 by_cases hlt:k < l.length
 rotate_left
 ·obtain rfl:k=l.length:=by omega
  have dk:decide ((l.length:Int) < (l.length:Int))=false:=decide_eq_false (by omega)
  have dza:=dk
  refine aQ58 ?_
  refine zas ⟨_,rfl,rfl,⟨fun h=>absurd h (by omega),fun h=>?_⟩⟩
  obtain⟨x,hx,hp⟩:=List.any_eq_true.1 h
  obtain⟨i,hi,rfl⟩:=List.getElem_of_mem hx
  have:=hno i hi
  rw [List.getD_eq_getElem?_getD,List.getElem?_eq_getElem hi] at this
  rw [Option.getD_some] at this
  rw [this] at hp
  cases hp
 have dk:decide ((k:Int) < (l.length:Int))=true:=decide_eq_true (by omega)
 have hck:=hc k hlt
 have hany:p (l.getD k [])=true→l.any p=true:=fun h=>by
  rw [List.getD_eq_getElem?_getD,List.getElem?_eq_getElem hlt] at h
  exact List.any_eq_true.2 ⟨_,List.getElem_mem hlt,h⟩
 have dza:=dk
 refine aQ58 ?_
 refine⟨by omega,by omega,Nat.le_refl _,hlt,?_⟩
 refine hck.mono ?_
 rintro _ τ ⟨rfl,e⟩
 rw [e]
 cases hp:p (l.getD k []) with
 | true =>
  refine aQ57 ?_
  exact zas ⟨_,rfl,rfl,⟨fun _=>hany hp,fun _=>by omega⟩⟩
 | false =>
  refine aQ57 ?_
  refine⟨by unfold inI;omega,?_⟩
  rw [zad]
  refine⟨k+1,⟨by omega,fun i hi=>?_⟩,by (show l.length - (k+1) < l.length - k);omega,zab (q:=List.range σ.length) (by simp) (by simp) List.nodup_range ?_ hσ⟩
  ·rcases Nat.lt_succ_iff_lt_or_eq.1 hi with h | rfl
   ·exact hno i h
   ·exact hp
  ·refine aQ18 ?_
   simp [AV.ren,zal,hr,hcs]
theorem contN_ok (l : List (List Nd)) (hl : l.length ≤ 1000000000) (g : FuncId) (rs cs : List AV) (σ : zaa) (p : (List Nd) → Bool) (hσ : zfm σ) (hr : renL (List.range σ.length) rs = some rs) (hcs : renL (List.range σ.length) cs = some cs) (hc : ∀ k, k < l.length → ACalls Tryz.prog g (rs ++ [slNs (l.getD k [])] ++ cs) σ (fun y σ' => y = .ret (bl (p (l.getD k []))) ∧ σ' = σ)) :
  ACalls Tryz.prog 146 [.sl (l.map slNs) l.length, .fn (.func g) rs cs] σ (fun y σ' => y = .ret (bl (l.any p)) ∧ σ' = σ) := by
 refine ACalls.body T_ok Tryz.func146 (by kernel_rfl) rfl Tryz.ntmps146 (congrArg Array.toList Tryz.results146) ?_
 refine aQ57 ?_
 refine(idxN_ok l hl g rs cs σ p hσ hr hcs hc).mono ?_
 rintro _ _ ⟨z,rfl,rfl,hz⟩
 have hd:decide (0≤z)=l.any p:=by
  cases h:l.any p with
  | true=>exact decide_eq_true (hz.2 h)
  | false=>exact decide_eq_false fun h2=>by rw [hz.1 h2] at h;cases h
 have dza:=hd
 refine aQ58 ?_
 exact zas ⟨rfl,rfl⟩
theorem oneN_ok (l : List (List Nd)) (hl : l.length ≤ 1000000000) (g : FuncId) (rs cs : List AV) (σ : zaa) (p : (List Nd) → Bool) (hσ : zfm σ) (hr : renL (List.range σ.length) rs = some rs) (hcs : renL (List.range σ.length) cs = some cs) (hc : ∀ k, k < l.length → ACalls Tryz.prog g (rs ++ [slNs (l.getD k [])] ++ cs) σ (fun y σ' => y = .ret (bl (p (l.getD k []))) ∧ σ' = σ)) :
  ACalls Tryz.prog 96 [.sl (l.map slNs) l.length, .fn (.func g) rs cs] σ (fun y σ' => y = .ret (bl (l.any p)) ∧ σ' = σ) := by
 refine ACalls.body T_ok Tryz.func96 (by kernel_rfl) rfl Tryz.ntmps96 (congrArg Array.toList Tryz.results96) ?_
 refine aQ57 ?_
 refine(contN_ok l hl g rs cs σ p hσ hr hcs hc).mono ?_
 rintro _ _ ⟨rfl,rfl⟩
 refine aQ57 ?_
 exact zas ⟨rfl,rfl⟩
theorem all_any {α:Type} (p:α→Bool) (l:List α):(!l.any fun x=>!p x)=l.all p:=by
 induction l with
 | nil=>rfl
 | cons a l ih=>rw [List.any_cons,List.all_cons,← ih,Bool.not_or,Bool.not_not]
theorem not1_ok (q : Qn) (hq : zis q) : ACalls Tryz.prog 111 [.agg (qC q), .ptr 0 0] [.rw [.fn (.func 68) [] []]] (fun y σ' => y = .ret (bl (!mayB q)) ∧ σ' = [.rw [.fn (.func 68) [] []]]) := by
 have hm:=may_ok q hq
 rw [qC_eq] at hm ⊢
 refine ACalls.body T_ok Tryz.func111 (by kernel_rfl) rfl Tryz.ntmps111 (congrArg Array.toList Tryz.results111) ?_
 refine aQ57 ?_
 refine hm.pure aQ11 ?_
 rintro _ σ rfl
 refine⟨zay _ _,?_⟩
 refine aQ57 ?_
 exact .inl ⟨[0],bl (!mayB q),[.rw [.fn (.func 68) [] []]],rfl,rfl,by simp,zay _ _,by simp [zaw,zar,renL,AV.ren],rfl,rfl⟩
theorem selfS_fn (g:Fn):zfm [.rw [.fn g [] []]]:=⟨.inr ⟨.rw [.fn g [] []],rfl,rfl⟩,trivial⟩
theorem allQ_ok (l:List Qn) (hl:l.length≤1000000000) (hg:∀ q∈l,zis q):ACalls Tryz.prog 67 [.sl (l.flatMap qC) l.length,.fn (.func 68) [] []] [] (fun y _=>y=.ret (bl (l.all mayB))):=by
 refine ACalls.body T_ok Tryz.func67 (by kernel_rfl) rfl Tryz.ntmps67 (congrArg Array.toList Tryz.results67) ?_
 refine aQ57 ?_
 refine(oneQ_ok l hl _ [] [.ptr 0 0] [.rw [.fn (.func 68) [] []]] (fun q=>!mayB q) (selfS_fn _) rfl rfl fun k hk=>not1_ok _ (hg _ (by rw [List.getD_eq_getElem?_getD,List.getElem?_eq_getElem hk];exact List.getElem_mem hk))).mono ?_
 rintro _ _ ⟨rfl,rfl⟩
 refine aQ57 ?_
 refine zaq ?_
 rw [all_any]
theorem skip_at {l:List Qn} {p:Nat} (h:p < l.length):skip 1 (l.drop p) p=skip (l.getD p q0).kids.toNat (l.drop (p+1)) (p+1):=by
 rw [zin h]
 show skip (0+_) _ _=_
 rw [Nat.zero_add]
theorem skip_next {l:List Qn} {p j e:Nat} (h:skip j (l.drop (p+1)) (p+1)=some e) (m:Nat):skip (j+m) (l.drop (p+1)) (p+1)=skip m (l.drop e) e:=by
 have:=(zcV _ _ _ _ h).1
 rw [zjK,h]
 show skip m ((l.drop (p+1)).drop (e - (p+1))) e=_
 rw [List.drop_drop,show p+1+(e - (p+1))=e by omega]
theorem skip_ge:∀ (l:List Qn) (n p e:Nat),skip n l p=some e→p+n≤e:=by
 intro l
 induction l with
 | nil =>
  intro n p e h
  cases n with
  | zero=>cases h;exact Nat.le_refl _
  | succ n=>cases h
 | cons q r ih =>
  intro n p e h
  cases n with
  | zero=>cases h;exact Nat.le_refl _
  | succ n =>
   have:=ih _ _ _ (show skip (n+q.kids.toNat) r (p+1)=some e from h)
   omega
theorem skip_none {l:List Qn} {e m:Nat} (h:skip 1 (l.drop e) e=none):skip (1+m) (l.drop e) e=none:=by
 rw [zjK,h]
 rfl
def zkp (l:List Qn) (p:Nat) (o o':List Int) (y:AEnd):Prop:=match skip 1 (l.drop p) p with
 | none=>y=.ret (.tup [i64 0,bl false])
 | some e=>y=.ret (.tup [i64 (e:Int),bl true])∧∀ i,o'.getD i 0=if p≤i∧i < e then (ziC l i:Int) else o.getD i 0
theorem ends_ok (l:List Qn) (hl:l.length≤1000000):∀ (d p:Nat) (o:List Int),p≤l.length→l.length - p≤d→o.length=l.length →
  ACalls Tryz.prog 69 [.sl (l.flatMap qC) l.length,i64 (p:Int),.ref 0 0 l.length 1] [.rw (o.map i64)] (fun y σ=>∃ o':List Int,σ=[.rw (o'.map i64)]∧o'.length=l.length∧zkp l p o o' y):=by
 intro d
 induction d with
 | zero =>
  intro p o hp hd ho
  refine ACalls.body T_ok Tryz.func69 (by kernel_rfl) rfl Tryz.ntmps69 (congrArg Array.toList Tryz.results69) ?_
  have d1:decide ((l.length:Int)≤(p:Int))=true:=decide_eq_true (by omega)
  have dza:=d1
  refine aQ58 ?_
  refine zas ⟨o,rfl,ho,?_⟩
  have:l.drop p=[]:=List.drop_eq_nil_of_le (by omega)
  rw [zkp,this]
  rfl
 | succ d ih =>
  intro p o hp hd ho
  refine ACalls.body T_ok Tryz.func69 (by kernel_rfl) rfl Tryz.ntmps69 (congrArg Array.toList Tryz.results69) ?_
  by_cases hlt:p < l.length
  rotate_left
  ·have d1:decide ((l.length:Int)≤(p:Int))=true:=decide_eq_true (by omega)
   have dza:=d1
   refine aQ58 ?_
   refine zas ⟨o,rfl,ho,?_⟩
   have:l.drop p=[]:=List.drop_eq_nil_of_le (by omega)
   rw [zkp,this]
   rfl
  have d1:decide ((l.length:Int)≤(p:Int))=false:=decide_eq_false (by omega)
  have hsa:=skip_at hlt
  have dza:=d1
  refine aQ58 ?_
  refine⟨by unfold inI;omega,by omega,by omega,Nat.le_refl _,hlt,?_⟩
  obtain⟨K,hK⟩:∃ K,K=(l.getD p q0).kids:=⟨_,rfl⟩
  rw [← hK] at hsa ⊢
  rw [zaK]
  refine⟨Nat × Nat × List Int,fun x=>skip x.1 (l.drop (p+1)) (p+1)=some x.2.1∧x.1≤K.toNat∧x.2.2.length=l.length∧∀ i,x.2.2.getD i 0=if p+1≤i∧i < x.2.1 then (ziC l i:Int) else o.getD i 0,fun x=>[.sl (l.flatMap qC) l.length,i64 p,.ref 0 0 l.length 1,.bot,.bot,.bot,i64 0,bl false,i64 x.2.1,bl true,.bot,.bot,.bot,.bot,.bot,.bot,.bot,.bot,.bot,.bot,i64 K,i64 x.1,.bot,.bot,.bot,.bot,.bot,.bot,.bot,.bot,.bot,.bot,.bot,.bot,.bot,.bot,.bot,.bot],fun x=>[.rw (x.2.2.map i64)],fun x=>K.toNat - x.1,(0,p+1,o),⟨zco _ _,Nat.zero_le _,ho,fun i=>by dsimp only;rw [if_neg (by omega)]⟩,zab (q:=[0]) rfl rfl (by decide) ?_ ?_,?_⟩
  ·refine aQ18 ?_
   simp [zjO,qF.fren,AV.ren]
  ·first|exact aQ18 trivial|refine aQ18 ?_
  rintro⟨j,e,o'⟩ ⟨hs,hj,hlen,hget⟩
  dsimp only at hs hj hlen hget ⊢
  have hse:=zcV _ _ _ _ hs
  rw [List.length_drop] at hse
  by_cases hjk:(j:Int) < K
  ·have dza:=decide_eq_true hjk
   refine aQ58 ?_
   refine(ih e o' (by omega) (by omega) hlen).mono ?_
   rintro y σ ⟨o2,rfl,hl2,hy⟩
   unfold zkp at hy
   cases hsk:skip 1 (l.drop e) e with
   | none =>
    rw [hsk] at hy
    dsimp only at hy
    subst hy
    have hz:skip 1 (l.drop p) p=none:=by
     rw [hsa,show K.toNat=j+(1+(K.toNat - j - 1)) by omega,skip_next hs,skip_none hsk]
    refine aQ57 ?_
    refine zas ⟨o2,rfl,hl2,?_⟩
    rw [zkp,hz]
   | some e2 =>
    rw [hsk] at hy
    obtain⟨rfl,hget2⟩:=hy
    have hlt2:=skip_lt hsk (by omega)
    have hle2:=zcV _ _ _ _ hsk
    rw [List.length_drop] at hle2
    have hge:=skip_ge _ _ _ _ hs
    refine aQ57 ?_
    refine⟨by unfold inI;omega,?_⟩
    rw [zad]
    refine⟨(j+1,e2,o2),⟨by rw [skip_next hs];exact hsk,by (show j+1≤K.toNat);omega,hl2,fun i=>?_⟩,by (show K.toNat - (j+1) < K.toNat - j);omega,zab (q:=[0]) rfl rfl (by decide) ?_ ?_⟩
    ·dsimp only
     rw [hget2 i,hget i]
     by_cases c1:e≤i∧i < e2
     ·rw [if_pos c1,if_pos (by omega)]
     ·rw [if_neg c1]
      by_cases c2:p+1≤i∧i < e
      ·rw [if_pos c2,if_pos (by omega)]
      ·rw [if_neg c2,if_neg (by omega)]
    ·refine aQ18 ?_
     simp [zjO,qF.fren,AV.ren]
    ·first|exact aQ18 trivial|refine aQ18 ?_
  ·have hjK:K.toNat=j:=by omega
   rw [hjK,hs] at hsa
   have dza:=decide_eq_false hjk
   refine aQ58 ?_
   have hlm:p < (o'.map i64).length:=by rw [List.length_map];omega
   refine⟨by omega,by omega,hlm,zas ⟨o'.set p e,rfl,by rw [List.length_set,hlen],?_⟩⟩
   rw [zkp,hsa]
   refine⟨rfl,fun i=>?_⟩
   have hep:ziC l p=e:=by rw [ziC,hsa];rfl
   by_cases c1:i=p
   ·subst c1
    rw [if_pos (by omega),hep,List.getD_eq_getElem?_getD,List.getElem?_set_self (by omega)]
    rfl
   ·rw [List.getD_eq_getElem?_getD,List.getElem?_set_ne (by omega),← List.getD_eq_getElem?_getD,hget i]
    by_cases c2:p+1≤i∧i < e
    ·rw [if_pos c2,if_pos (by omega)]
    ·rw [if_neg c2,if_neg (by omega)]
def chkB (l:List Qn):Bool:=decide (l.length≤24) && (l.all mayB && (l.isEmpty || decide (cnt l=some 1)))
theorem frz_I {σ:zaa} {id n:Nat} {l:List Int} (h:σ[id]?=some (.ro (l.map i64))) (hn:n=l.length):frzA σ (.ref id 0 n 1) (.sl (l.map i64) l.length):=by
 subst hn
 refine .inr ⟨_,h,by simp,?_⟩
 simp [List.take_of_length_le]
theorem zjP (l:List Int) (b:Bool) (q:List Nat):(AV.tup [.sl (l.map i64) l.length,bl b]).ren q=some (.tup [.sl (l.map i64) l.length,bl b]):=by simp [AV.ren,renL,zam i64 zac,zay]
def readP (l:List Qn) (y:AEnd):Prop:=∃ o:List Int,y=.ret (.tup [.sl (o.map i64) o.length,bl (chkB l)])∧(chkB l=true→o.length=l.length∧∀ i,i < l.length→o.getD i 0=(ziC l i:Int))
theorem endR_no {σ:zaa} {l:List Qn} {K:AEnd→Prop} (hb:chkB l=false) (h:∀ y,readP l y→K y):endQ 0 (.tup [.lit (.slice none 0 0),bl false]) σ (fun r _=>K (.ret r)) :=
 zaX [] (.tup [.sl (([]:List Int).map i64) ([]:List Int).length,bl false]) ⟨_,rfl,_,_,rfl,.inr ⟨rfl,rfl⟩,_,_,rfl,.inl rfl,rfl⟩ ⟨[],_,[],rfl,rfl,by decide,zjP [] false _,trivial,h _ ⟨[],by rw [hb],fun hc=>by rw [hb] at hc;cases hc⟩⟩
theorem zhp {σ:zaa} {l:List Qn} {o:List Int} {id n:Nat} {K:AEnd→Prop} {b:Bool} (hi:(zdX σ [id])[id]?=some (.ro (o.map i64))) (hn:n=o.length) (hb:chkB l=b) (ho:b=true→o.length=l.length∧∀ i,i < l.length→o.getD i 0=(ziC l i:Int)) (h:∀ y,readP l y→K y):endQ 0 (.tup [.ref id 0 n 1,bl b]) σ (fun r _=>K (.ret r)) :=
 zaX [id] (.tup [.sl (o.map i64) o.length,bl b]) ⟨_,rfl,_,_,rfl,frz_I hi hn,_,_,rfl,.inl rfl,rfl⟩ ⟨[],_,[],rfl,rfl,by decide,zjP o b _,trivial,h _ ⟨o,by rw [hb],fun hc=>ho (by rw [← hb];exact hc)⟩⟩
theorem read22_ok (l:List Qn) (hl:l.length≤1000000) (hg:∀ q∈l,zis q):ACalls Tryz.prog 35 [.sl (l.flatMap qC) l.length] [] (fun y _=>readP l y):=by
 refine ACalls.body T_ok Tryz.func35 (by kernel_rfl) rfl Tryz.ntmps35 (congrArg Array.toList Tryz.results35) ?_
 by_cases h24:(24:Int) < l.length
 ·have dza:=decide_eq_true h24
  refine aQ58 ?_
  refine endR_no ?_ (fun _ h=>h)
  rw [chkB,decide_eq_false (by omega)]
  rfl
 have dza:=decide_eq_false h24
 refine aQ58 ?_
 refine(allQ_ok l (by omega) hg).pure (by simp [renL,AV.ren,qF.fren]) ?_
 rintro _ σ rfl
 refine⟨zay _ _,?_⟩
 cases ha:l.all mayB with
 | false =>
  refine aQ57 ?_
  refine endR_no ?_ (fun _ h=>h)
  rw [chkB,ha,decide_eq_true (by omega)]
  rfl
 | true =>
  have hc:chkB l=(l.isEmpty || decide (cnt l=some 1)):=by rw [chkB,ha,decide_eq_true (by omega),Bool.true_and,Bool.true_and]
  refine aQ57 ?_
  refine⟨by omega,by omega,by omega,by omega,fun h0=>?_,fun h0=>?_⟩
  ·have hl0:l=[]:=List.eq_nil_of_length_eq_zero (by omega)
   subst hl0
   exact zhp (o:=[]) rfl rfl hc (fun _=>⟨rfl,fun i hi=>absurd hi (Nat.not_lt_zero _)⟩) (fun _ h=>h)
  have hne:l.isEmpty=false:=by
   cases l with
   | nil=>exact absurd rfl h0
   | cons=>rfl
  rw [hne,Bool.false_or] at hc
  have he:=ends_ok l hl l.length 0 (List.replicate l.length 0) (Nat.zero_le _) (by omega) (by simp)
  rw [List.map_replicate] at he
  refine he.mono ?_
  rintro y σ ⟨o,rfl,ho,hy⟩
  rw [zkp,List.drop_zero] at hy
  have hsc:=skip_cnt l 1 0
  rw [Nat.zero_add] at hsc
  cases hsk:skip 1 l 0 with
  | none =>
   rw [hsk] at hy hsc
   dsimp only at hy
   subst hy
   have hcb:chkB l=false:=by
    rw [hc]
    exact decide_eq_false fun h=>by cases hsc.2 h
   refine aQ57 ?_
   exact zhp (o:=o) rfl ho.symm hcb (fun h=>(by cases h)) (fun _ h=>h)
  | some e =>
   rw [hsk] at hy hsc
   obtain⟨rfl,hget⟩:=hy
   by_cases hee:(e:Int)=l.length
   ·have hcb:chkB l=true:=by
     rw [hc]
     exact decide_eq_true (hsc.1 (by rw [show e=l.length by omega]))
    have dza:=decide_eq_true hee
    refine aQ58 ?_
    refine zhp (o:=o) rfl ho.symm hcb (fun _=>⟨ho,fun i hi=>?_⟩) (fun _ h=>h)
    rw [hget i,if_pos (by omega)]
   ·have hcb:chkB l=false:=by
     rw [hc]
     exact decide_eq_false fun h=>by
      have:=hsc.2 h
      injection this with this
      omega
    have dza:=decide_eq_false hee
    refine aQ58 ?_
    exact zhp (o:=o) rfl ho.symm hcb (fun h=>(by cases h)) (fun _ h=>h)
def zbT (l:List Qn) (p:Int):List Int:=if chkB l=true∧0≤p∧p < l.length then (zbS l p.toNat).map Int.ofNat else []
theorem zi6 (l:List Qn) (hl:l.length≤1000000) (hg:∀ q∈l,zis q):ACalls Tryz.prog 16 [.sl (l.flatMap qC) l.length] [] (fun y _=>y=.ret (i64 (if chkB l=true then 0 else 10))):=by
 refine ACalls.body T_ok Tryz.func16 (by kernel_rfl) rfl Tryz.ntmps16 (congrArg Array.toList Tryz.results16) ?_
 refine aQ57 ?_
 refine(read22_ok l hl hg).pure (by simp [renL,AV.ren,qF.fren]) ?_
 rintro _ σ ⟨o,rfl,_⟩
 refine⟨zjP _ _ _,?_⟩
 cases chkB l with
 | false =>
  refine aQ57 ?_
  exact zap rfl
 | true =>
  refine aQ57 ?_
  exact zap rfl
theorem zfi {l:List Qn} {p:Int} (h:¬ (chkB l=true∧0≤p∧p < l.length)):zbT l p=[]:=by rw [zbT,if_neg h]
theorem zit (l:List Qn) (p:Int) (hl:l.length≤1000000) (hg:∀ q∈l,zis q):ACalls Tryz.prog 14 [.sl (l.flatMap qC) l.length,i64 p] [] (fun y _=>y=.ret (.sl ((zbT l p).map i64) (zbT l p).length)):=by
 have hend:∀ σ:zaa,zbT l p=[]→endQ 0 (.lit (.slice none 0 0)) σ (fun r _=>AEnd.ret r=.ret (.sl ((zbT l p).map i64) (zbT l p).length)):=by
  intro σ h
  rw [h]
  exact zaX [] (.sl (([]:List Int).map i64) ([]:List Int).length) (.inr ⟨rfl,rfl⟩) ⟨[],_,[],rfl,rfl,by decide,by simp [AV.ren,renL],trivial,rfl⟩
 refine ACalls.body T_ok Tryz.func14 (by kernel_rfl) rfl Tryz.ntmps14 (congrArg Array.toList Tryz.results14) ?_
 refine aQ57 ?_
 refine(read22_ok l hl hg).pure (by simp [renL,AV.ren,qF.fren]) ?_
 rintro _ σ ⟨o,rfl,ho⟩
 refine⟨zjP _ _ _,?_⟩
 cases hb:chkB l with
 | false =>
  refine aQ57 ?_
  refine hend _ (zfi fun h=>?_)
  rw [hb] at h
  cases h.1
 | true =>
  by_cases p0:p < 0
  ·have dza:=decide_eq_true p0
   refine aQ58 ?_
   exact hend _ (zfi fun h=>by omega)
  by_cases p1:(l.length:Int)≤p
  ·have dza:=decide_eq_false p0
   have dzb:=decide_eq_true p1
   refine aQ59 ?_
   exact hend _ (zfi fun h=>by omega)
  obtain⟨n,rfl⟩:∃ n:Nat,p=n:=⟨p.toNat,by omega⟩
  have hn:n < l.length:=by omega
  obtain⟨o1,o2⟩:=ho hb
  have dza:=decide_eq_false p0
  have dzb:=decide_eq_false p1
  refine aQ59 ?_
  have hcn:cnt l=some 1:=by
   have h:=hb
   rw [chkB,Bool.and_eq_true,Bool.and_eq_true,Bool.or_eq_true] at h
   rcases h.2.2 with h | h
   ·cases l with
    | nil=>exact absurd hn (Nat.not_lt_zero _)
    | cons=>cases h
   ·exact of_decide_eq_true h
  have hkz:zbT l n=(zbS l n).map Int.ofNat:=by rw [zbT,if_pos ⟨hb,by omega,by omega⟩];rfl
  rw [hkz]
  clear hend hkz
  have hlen:=zei hcn hn
  have hend:=endQn_kp hcn hn
  have hlt:=fun j=>@kp_lt l 1 n j hcn hn
  have hstep:=fun j=>@endQn_step l 1 n j hcn hn
  have hkid:=fun j=>@kp_kid l 1 n j hcn hn
  have hall:=kp_all hcn hn
  generalize (l.getD n q0).kids.toNat=C at hlen hend hlt hstep hkid hall
  have hCl:C≤1000000:=by
   rw [← hlen,zbS,List.length_take]
   have hcd:=zhn hcn hn
   obtain⟨m,hm,_,_⟩:=hcd
   obtain⟨e,he⟩:=skip_some (l.drop (n+1)) m m 0 hm (Nat.le_refl _)
   have h1:=skip_ge _ _ _ _ he
   have h2:=zcV _ _ _ _ he
   rw [List.length_drop] at h2
   rw [plc_len _ _ _ hm]
   omega
  refine⟨by unfold inI;omega,?_⟩
  rw [zaK]
  refine⟨Nat,fun j=>j≤C,fun j=>[.bot,i64 n,.bot,.bot,.bot,.sl (o.map i64) o.length,.bot,.ref 0 0 (((zbS l n).take j).map Int.ofNat).length 1,i64 (kp l n j),.bot,.bot,.bot,.bot,.bot,.bot,.bot,.bot,.bot,.bot,.bot,.bot,.bot,.bot,.bot,.bot,.bot,.bot,.bot,.bot,.bot,.bot,.bot,.bot,.bot,.bot,.bot,.bot,.bot,.bot,.bot,.bot,.bot,.bot],fun j=>[.rw ((((zbS l n).take j).map Int.ofNat).map i64)],fun j=>C - j,0,Nat.zero_le _,zbv 7 1 rfl (zab (q:=[0]) rfl rfl (by decide) ?_ ?_),?_⟩
  ·refine aQ18 ?_
   simp [kp_zero,zam i64 zac,AV.ren]
  ·refine aQ18 ?_
   simp [zaw,zar,renL]
  intro j hj
  have hj:j≤C:=hj
  dsimp only
  have d0:o.getD n 0=(kp l n C:Nat):=by rw [o2 n hn,hend]
  have hl1:((zbS l n).take j).length=j:=by rw [List.length_take];omega
  by_cases hjC:j < C
  rotate_left
  ·obtain rfl:j=C:=by omega
   have dj:decide ((kp l n j:Int) < (kp l n j:Int))=false:=decide_eq_false (by omega)
   rw [List.take_of_length_le (by omega)]
   have dza:=d0
   have dzb:=dj
   refine aQ59 ?_
   refine⟨by omega,by omega,by omega,?_⟩
   generalize (zbS l n).map Int.ofNat=G
   exact zaX [0] (.sl (G.map i64) G.length) (frz_I rfl rfl) ⟨[],_,[],rfl,rfl,by decide,by simp [AV.ren,zam i64 zac],trivial,rfl⟩
  obtain⟨t1,t2,t3⟩:=hlt j hjC
  have t4:=hall (C - j) j (by omega)
  have dj:decide ((kp l n j:Int) < (kp l n C:Int))=true:=decide_eq_true (by omega)
  have d1:o.getD (kp l n j) 0=(kp l n (j+1):Nat):=by rw [o2 _ (by omega),hstep j hjC]
  have dza:=d0
  have dzb:=dj
  refine aQ59 ?_
  refine⟨by omega,by omega,by omega,?_⟩
  refine zaG i64 zgC rfl rfl T31 T31 (zc5 _) T3 zc4 (l:=((zbS l n).take j).map Int.ofNat) (ys:=[(kp l n j:Int)]) (m:=1) rfl rfl rfl (by rw [List.length_map];omega) (by simp only [zaC,List.length_map];omega) ?_
  have dza:=d1
  refine aQ58 ?_
  refine⟨by omega,by omega,by omega,?_⟩
  rw [zad]
  refine⟨j+1,by (show j+1≤C);omega,by (show C - (j+1) < C - j);omega,?_⟩
  have e1:((zbS l n).take (j+1)).map Int.ofNat=((zbS l n).take j).map Int.ofNat++[(kp l n j:Int)]:=by rw [hkid j hjC,List.map_append];rfl
  rw [e1,List.length_append]
  refine zab (q:=[2]) rfl rfl (by decide) ?_ ?_
  ·first|exact aQ18 trivial|refine aQ18 ?_
  ·first|exact aQ18 trivial|refine aQ18 ?_
def lkN (j:Nat):FuncId:=[56,57,58,59,60,61,62,63].getD j 0
def lkF (k j:Nat):AV:=.fn (.func (lkN j)) [.ptr k 0] []
def lkC (k:Nat) (l:List Qn) (d:List Nd):List AV:=[.sl (l.flatMap qC) l.length,.sl (d.flatMap nC) d.length,lkF k 0,lkF k 1,lkF k 2,lkF k 3,lkF k 4,lkF k 5,lkF k 6,lkF k 7]
def lkB (k:Nat) (l:List Qn) (d:List Nd):Blk:=.rw (lkC k l d)
theorem ren_lkF {q:List Nat} {k m:Nat} (h:q[k]?=some m) (j:Nat):(lkF k j).ren q=some (lkF m j):=by simp [lkF,AV.ren,renL,h]
theorem renL_lk {q:List Nat} {k m:Nat} (h:q[k]?=some m) (l:List Qn) (d:List Nd):renL q (lkC k l d)=some (lkC m l d):=by
 simp only [lkC,renL,ren_lkF h,qF.fren,AV.ren,zai,Option.map_some,Option.bind_some]
theorem zdR {q:List Nat} {k m:Nat} (h:q[k]?=some m) (l:List Qn) (d:List Nd):(lkB k l d).ren q=some (lkB m l d):=by
 simp only [lkB,Blk.ren,renL_lk h,Option.map_some]
theorem ren_lkM (q:List Nat) (k:Nat) (l:List Qn) (d:List Nd):(lkB k l d).ren q=(q[k]?).map fun m=>lkB m l d:=by
 cases h:q[k]? with
 | none=>simp [lkB,Blk.ren,lkC,renL,lkF,AV.ren,h,qF.fren,zai]
 | some m=>rw [zdR h];rfl
theorem selfS_lk (l:List Qn) (d:List Nd):zfm [lkB 0 l d]:=⟨.inr ⟨_,zdR (m:=0) rfl l d,rfl⟩,trivial⟩
section
variable {σ : zaa} {K : AV → Prop} {KS : AV → zaa → Prop} {id : Nat} {t : TypeId}
theorem fp_L0 (o:Nat):zag T 111 (.ptr id o) 0 K=K (.ptr id (o+0)):=fzP T111 rfl rfl T22 (by decide) id o
theorem fp_L1 (o:Nat):zag T 111 (.ptr id o) 1 K=K (.ptr id (o+1)):=fzP T111 rfl rfl T23 (by decide) id o
theorem fp_L2 (o:Nat):zag T 111 (.ptr id o) 2 K=K (.ptr id (o+2)):=fzP T111 rfl rfl T109 (by decide) id o
theorem rd_lk (k:Nat) (l:List Qn) (d:List Nd) (r:zaa):rd (lkB k l d::r) 0=some (lkC k l d):=rfl
theorem ld_lk0 (e:TypeId) (k:Nat) (l:List Qn) (d:List Nd):ld2 (some (tySl e)) (some (lkC k l d)) 0 K=K (.sl (l.flatMap qC) l.length):=lz0 rfl rfl _ _
theorem ld_lk1 (e:TypeId) (k:Nat) (l:List Qn) (d:List Nd):ld2 (some (tySl e)) (some (lkC k l d)) 1 K=K (.sl (d.flatMap nC) d.length):=by rw [lkC,lzS];exact lz0 rfl rfl _ _
theorem ia_lk {j:Nat} (ht:T t=some (zhY 8 70 tyFn)):zbl T t (.ptr id 2) (i64 (j:Nat)) K=(j < 8∧K (.ptr id (2+j))):=by
 simp only [zbl,ht,zhY,i64,T70,Option.some.injEq,exists_eq_left',tyFn,Nat.mul_one,Int.toNat_natCast]
 apply propext
 constructor
 ·rintro⟨_,h2,h3⟩
  exact⟨by omega,h3⟩
 ·rintro⟨h2,h3⟩
  exact⟨by omega,by omega,h3⟩
theorem ld_lk2 {j:Nat} (hj:j < 8) (k:Nat) (l:List Qn) (d:List Nd):ld2 (some tyFn) (some (lkC k l d)) (2+j) K=K (.fn (.func (lkN j)) [.ptr k 0] []):=by
 match j,hj with
 | 0,_=>simp [ld2,wfin,tyFn,TD.agg,lkC,lkF]
 | 1,_=>simp [ld2,wfin,tyFn,TD.agg,lkC,lkF]
 | 2,_=>simp [ld2,wfin,tyFn,TD.agg,lkC,lkF]
 | 3,_=>simp [ld2,wfin,tyFn,TD.agg,lkC,lkF]
 | 4,_=>simp [ld2,wfin,tyFn,TD.agg,lkC,lkF]
 | 5,_=>simp [ld2,wfin,tyFn,TD.agg,lkC,lkF]
 | 6,_=>simp [ld2,wfin,tyFn,TD.agg,lkC,lkF]
 | 7,_=>simp [ld2,wfin,tyFn,TD.agg,lkC,lkF]
def nFn:AV:=.lit .nilFunc
theorem bd_lk (a b:List AV) (n m:Nat):zaY T 111 [(0,.sl a n),(1,.sl b m)] K=K (.agg [.sl a n,.sl b m,nFn,nFn,nFn,nFn,nFn,nFn,nFn,nFn]):=by
 simp [zaY,T111,tyLk,T22,T23,T109,tySl,zbo,zaE,AV.cells,AV.one,za0,nFn]
theorem bx_lk (e:TypeId) (a b:List AV) (n m:Nat):wbox e (.agg [.sl a n,.sl b m,nFn,nFn,nFn,nFn,nFn,nFn,nFn,nFn]) σ KS=KS (.ptr σ.length 0) (σ++[.rw [.sl a n,.sl b m,nFn,nFn,nFn,nFn,nFn,nFn,nFn,nFn]]):=bxW rfl rfl e
theorem bd_eight (f0 f1 f2 f3 f4 f5 f6 f7:Fn) (a:List AV):zaY T 109 [(0,.fn f0 a []),(1,.fn f1 a []),(2,.fn f2 a []),(3,.fn f3 a []),(4,.fn f4 a []),(5,.fn f5 a []),(6,.fn f6 a []),(7,.fn f7 a [])] K=K (.agg [.fn f0 a [],.fn f1 a [],.fn f2 a [],.fn f3 a [],.fn f4 a [],.fn f5 a [],.fn f6 a [],.fn f7 a []]):=by
 simp [zaY,T109,zhY,tyFn,T70,zbo,zaE,AV.cells,AV.one,za0]
theorem st_eight {a b:AV} (f0 f1 f2 f3 f4 f5 f6 f7:Fn) (r:List AV) {e:TypeId}:st2 (some (zhY 8 e tyFn)) (some (.rw [a,b,nFn,nFn,nFn,nFn,nFn,nFn,nFn,nFn])) id 2 (.agg [.fn f0 r [],.fn f1 r [],.fn f2 r [],.fn f3 r [],.fn f4 r [],.fn f5 r [],.fn f6 r [],.fn f7 r []]) σ KS=KS (.lit undef) (σ.set id (.rw [a,b,.fn f0 r [],.fn f1 r [],.fn f2 r [],.fn f3 r [],.fn f4 r [],.fn f5 r [],.fn f6 r [],.fn f7 r []])):=by
 simp [st2,zhY,tyFn,AV.cells,AV.one,za0,nFn]
end
theorem newLook_ok (l:List Qn) (d:List Nd):ACalls Tryz.prog 30 [.sl (l.flatMap qC) l.length,.sl (d.flatMap nC) d.length] [] (fun y σ=>y=.ret (.ptr 0 0)∧σ=[lkB 0 l d]):=by
 refine ACalls.body T_ok Tryz.func30 (by kernel_rfl) rfl Tryz.ntmps30 (congrArg Array.toList Tryz.results30) ?_
 try simp -implicitDefEqProofs only [LM1,LB17,eq_self,Nat.zero_mul,lzS,bx_P,zat,lzS,fp_L0,fp_L1,fp_L2,rd_lk,ld_lk0,ld_lk1,bd_lk,bx_lk,bd_eight,st_eight,TB,SB,Int.reduceToNat,Nat.reduceAdd,Nat.reduceEqDiff,Nat.reduceLT,Nat.reduceMod,Nat.reducePow,Nat.reduceSub,if_true,reduceIte]
 exact zas ⟨rfl,rfl⟩
set_option linter.defProp false in
def LB18:=And.intro @fp_L0 (And.intro @fp_L1 (And.intro @fp_L2 (And.intro @rd_lk (And.intro @ld_lk0 (@ld_lk1)))))
set_option linter.defProp false in
def LB19:=And.intro @ren_lkM (And.intro @zal (@zgd))
set_option linter.defProp false in
def LM6:=And.intro LM1 (And.intro LB17 (LB18))
def stV (d:List Nd) (p:List UInt8):List (List Nd):=(za2 d p).1++zc8 d p
theorem elemX_mem {x y:List Nd} (h:y∈zfl x) (hx:0 < x.length):0 < y.length∧y.length≤x.length:=by
 unfold zfl at h
 split at h
 ·exact kidsS_mem (List.mem_filter.1 h).1
 ·have:=(List.mem_filter.1 h).1
  rw [List.mem_singleton] at this
  subst this
  exact⟨hx,Nat.le_refl _⟩
theorem zjQ {d x:List Nd} {p:List UInt8} (h:x∈stV d p):0 < x.length∧x.length≤d.length:=by
 rcases List.mem_append.1 h with h | h
 ·exact zjL h
 ·obtain⟨y,hy,hx⟩:=List.mem_flatMap.1 h
  have h1:=zjL hy
  have h2:=elemX_mem hx h1.1
  omega
theorem zgU (d:List Nd) (p:List UInt8):(stV d p).length≤100000:=by
 have h1:=zgk d p
 have h2:=elem_le (za2 d p).1 (za2 d p).1.length (Nat.le_refl _)
 rw [List.take_length] at h2
 rw [stV,List.length_append]
 have:(zc8 d p).length≤(za2 d p).1.length * 120:=h2
 omega
theorem each_zero {d:List Nd} {p:List UInt8} (h0:zau d=0) (hp:isV p=true):(za2 d p).2=0:=by
 unfold isV at hp
 unfold za2 zaU
 rw [if_pos h0,if_pos (of_decide_eq_true hp)]
theorem eachO (d:List Nd) (p:List UInt8) (hd:d.length≤1000000) (hp:p.length≤1000000) (h0:(za2 d p).2=0):ACalls Tryz.prog 79 [.sl (d.flatMap nC) d.length,str p] [] (fun y σ=>y=.ret (.tup [.ref 0 0 (za2 d p).1.length 1,i64 0])∧σ=[.rw ((za2 d p).1.map slNs)]):=by
 refine(PEachOA_ok d p hd (by omega)).mono ?_
 intro y σ h
 unfold eachQ at h
 rwa [if_pos h0] at h
theorem stands_ok (l:List Qn) (d:List Nd) (p:Nat) (hp:p < l.length) (hl:l.length≤1000000) (hd:d.length≤1000000) (hq:(l.getD p q0).path.length≤1000000) (h0:(za2 d (l.getD p q0).path).2=0):ACalls Tryz.prog 97 [.ptr 0 0,i64 (p:Int)] [lkB 0 l d] (fun y σ=>y=.ret (.sl ((stV d (l.getD p q0).path).map slNs) (stV d (l.getD p q0).path).length)∧σ=[lkB 0 l d]):=by
 have hE:=eachO d _ hd hq h0
 have hX:=Elements_ok d (l.getD p q0).path hd (by omega)
 have hf:=zgk d (l.getD p q0).path
 have hsv:=zgU d (l.getD p q0).path
 have hst:stV d (l.getD p q0).path=(za2 d (l.getD p q0).path).1++zc8 d (l.getD p q0).path:=rfl
 rw [h0] at hX
 rw [hst,List.length_append] at hsv
 rw [hst]
 clear h0 hst
 refine ACalls.body T_ok Tryz.func97 (by kernel_rfl) rfl Tryz.ntmps97 (congrArg Array.toList Tryz.results97) ?_
 refine aQ60 ?_
 refine zeu [12] (by kernel_rfl) (by kernel_rfl) (by kernel_rfl) ?_
 refine aQ60 ?_
 refine⟨by omega,by omega,Nat.le_refl _,hp,?_⟩
 obtain⟨s,hs⟩:∃ s,(l.getD p q0).path=s:=⟨_,rfl⟩
 rw [hs] at hE hX hf hsv ⊢
 generalize (za2 d s).1=L at hE hX hf hsv ⊢
 generalize zc8 d s=E at hX hsv ⊢
 refine ACalls.frame ([]) (hE) rfl (by decide) (by simp [LB11,LB12,LB19,zaw,zbH,renL,AV.ren,AEnd.ren,qF.fren,List.getElem?_cons_zero,List.getElem?_cons_succ]) (by first | rfl | simp [LB11,LB12,LB19,zaw,zbH,renL,AV.ren,AEnd.ren,qF.fren,List.getElem?_cons_zero,List.getElem?_cons_succ]) ?_
 rintro _ _ ⟨rfl,rfl⟩
 refine⟨.ret (.tup [.ref 1 0 L.length 1,i64 0]),[lkB 0 l d,.rw (L.map slNs)],(by show zbH _ _ ([1,0]) ([1,0]) 0 _;simp [LB11,LB12,LB19,zaw,zbH,renL,AV.ren,AEnd.ren,qF.fren,List.getElem?_cons_zero,List.getElem?_cons_succ]),(by show AEnd.ren ([1,0]) _ _;first | rfl | simp [LB11,LB12,LB19,zaw,zbH,renL,AV.ren,AEnd.ren,qF.fren,List.getElem?_cons_zero,List.getElem?_cons_succ]),?_⟩
 refine aQ60 ?_
 refine zeu [12] (by kernel_rfl) (by kernel_rfl) (by kernel_rfl) ?_
 have dza:=hs
 try simp -implicitDefEqProofs only [LM6,eq_self,Nat.zero_mul,lzS,bx_P,zat,lzS,dza,TB,SB,Int.reduceToNat,Nat.reduceAdd,Nat.reduceEqDiff,Nat.reduceLT,Nat.reduceMod,Nat.reducePow,Nat.reduceSub,if_true,reduceIte]
 refine⟨by omega,by omega,Nat.le_refl _,hp,?_⟩
 refine hX.pure aQ12 ?_
 rintro _ σ rfl
 refine⟨zcp _ _ _ _,?_⟩
 refine aQ60 ?_
 refine zaG slNs zbC rfl rfl T40 T40 (zc5 _) T23 (Go.Eng.one_sl _) (l:=L) (ys:=E) (m:=E.length) rfl rfl (zfh E) (by omega) (by simp only [tySl];omega) ?_
 refine aQ60 ?_
 rw [show L.length+E.length=(L++E).length from List.length_append.symm]
 generalize L++E=M
 exact zaX [2] (.sl (M.map slNs) M.length) (zdB rfl) ⟨[0],.sl (M.map slNs) M.length,[lkB 0 l d],rfl,rfl,by decide,by simp [AV.ren,zal],⟨.inr ⟨_,zdR (m:=0) rfl l d,rfl⟩,trivial⟩,rfl,rfl⟩
def zfn (l:List Qn) (d:List Nd):Prop:=l.length≤1000000∧d.length≤1000∧zau d=0∧∀ q∈l,zis q∧mayB q=true
theorem getQ {l:List Qn} {d:List Nd} {p:Nat} (h:zfn l d) (hp:p < l.length):zis (l.getD p q0)∧mayB (l.getD p q0)=true:=by
 refine h.2.2.2 _ ?_
 rw [List.getD_eq_getElem?_getD,List.getElem?_eq_getElem hp]
 exact List.getElem_mem hp
theorem zjR {q:Qn} (h:mayB q=true) (ho:q.op < 5):q.kids=0∧isV q.path=true∧valB q=true:=by
 unfold mayB at h
 split at h
 ·rw [Bool.and_eq_true,Bool.and_eq_true] at h
  exact⟨of_decide_eq_true h.1.1,h.1.2,h.2⟩
 ·rw [if_neg (by omega),if_neg (by omega)] at h
  cases h
theorem standsG {l:List Qn} {d:List Nd} {p:Nat} (h:zfn l d) (hp:p < l.length) (ho:(l.getD p q0).op < 5):ACalls Tryz.prog 97 [.ptr 0 0,i64 (p:Int)] [lkB 0 l d] (fun y σ=>y=.ret (.sl ((stV d (l.getD p q0).path).map slNs) (stV d (l.getD p q0).path).length)∧σ=[lkB 0 l d]):=by
 obtain⟨g1,g2⟩:=getQ h hp
 have g3:=zjR g2 ho
 exact stands_ok l d p hp h.1 (by have:=h.2.1;omega) (by have:=g1.1;omega) (each_zero h.2.2.1 g3.2.1)
theorem sameV (v w:List Nd) (hv:v.length≤1000):ACalls Tryz.prog 24 [.sl (v.flatMap nC) v.length,.sl (w.flatMap nC) w.length] [] (fun y _=>y=.ret (bl (decide (v=w)))) :=
 (Same_ok v w (by omega)).mono fun _ _ h=>h.1
theorem zbQ {α:Type} (z:α) {L:List α} {k:Nat} (h:k < L.length):L.getD k z∈L:=by
 rw [List.getD_eq_getElem?_getD,List.getElem?_eq_getElem h]
 exact List.getElem_mem h
theorem endL (b : Bool) (l : List Qn) (d : List Nd) (r : zaa) : endQ 1 (bl b) (lkB 0 l d :: r) (fun x σ' => AEnd.ret x = .ret (bl b) ∧ σ' = [lkB 0 l d]) :=
 .inl ⟨[0],bl b,[lkB 0 l d],rfl,rfl,by simp,zay _ _,⟨.inr ⟨_,zdR (m:=0) rfl l d,rfl⟩,trivial⟩,rfl,rfl⟩
theorem selfS_lk3 (l:List Qn) (d:List Nd) (x:Int):zfm [lkB 0 l d,.rw [.ptr 0 0],.rw [i64 x]]:=⟨.inr ⟨_,zdR (m:=0) rfl l d,rfl⟩,.inr ⟨.rw [.ptr 0 0],rfl,rfl⟩,.inr ⟨.rw [i64 x],rfl,rfl⟩,trivial⟩
theorem eq1_ok (l:List Qn) (d v:List Nd) (p:Nat) (h:zfn l d) (hp:p < l.length) (hv:v.length≤1000):ACalls Tryz.prog 98 [slNs v,.ptr 1 0,.ptr 2 0] [lkB 0 l d,.rw [.ptr 0 0],.rw [i64 (p:Int)]] (fun y σ=>y=.ret (bl (decide (v=(l.getD p q0).val)))∧σ=[lkB 0 l d,.rw [.ptr 0 0],.rw [i64 (p:Int)]]):=by
 have hl:=h.1
 unfold slNs
 refine ACalls.body T_ok Tryz.func98 (by kernel_rfl) rfl Tryz.ntmps98 (congrArg Array.toList Tryz.results98) ?_
 refine aQ60 ?_
 refine zcw (by kernel_rfl) (by kernel_rfl) ?_
 refine aQ60 ?_
 refine⟨by omega,by omega,Nat.le_refl _,hp,?_⟩
 generalize (l.getD p q0).val=w
 refine zcg (sameV v w hv) (by simp [renL,AV.ren,zai]) (zay _ _) ?_
 refine aQ60 ?_
 exact zas ⟨rfl,rfl⟩
theorem eq_ok (l:List Qn) (d:List Nd) (p:Nat) (h:zfn l d) (hp:p < l.length) (ho:(l.getD p q0).op < 5):ACalls Tryz.prog 56 [.ptr 0 0,i64 (p:Int)] [lkB 0 l d] (fun y σ=>y=.ret (bl ((stV d (l.getD p q0).path).any fun v=>decide (v=(l.getD p q0).val)))∧σ=[lkB 0 l d]):=by
 have hl:=h.1
 refine ACalls.body T_ok Tryz.func56 (by kernel_rfl) rfl Tryz.ntmps56 (congrArg Array.toList Tryz.results56) ?_
 refine aQ60 ?_
 refine ACalls.frame ([0]) (standsG h hp ho) rfl (by decide) (by simp [LB11,LB12,LB19,zaw,zbH,renL,AV.ren,AEnd.ren,qF.fren,List.getElem?_cons_zero,List.getElem?_cons_succ]) (by first | rfl | simp [LB11,LB12,LB19,zaw,zbH,renL,AV.ren,AEnd.ren,qF.fren,List.getElem?_cons_zero,List.getElem?_cons_succ]) ?_
 rintro _ _ ⟨rfl,rfl⟩
 refine⟨.ret (.sl ((stV d (l.getD p q0).path).map slNs) (stV d (l.getD p q0).path).length),[lkB 0 l d,.rw [.ptr 0 0],.rw [i64 (p:Int)]],(by show zbH _ _ ([0,1,1]) ([0,1,1]) 0 _;simp [LB11,LB12,LB19,zaw,zbH,renL,AV.ren,AEnd.ren,qF.fren,List.getElem?_cons_zero,List.getElem?_cons_succ]),(by show AEnd.ren ([0,1,1]) _ _;first | rfl | simp [LB11,LB12,LB19,zaw,zbH,renL,AV.ren,AEnd.ren,qF.fren,List.getElem?_cons_zero,List.getElem?_cons_succ]),?_⟩
 refine aQ60 ?_
 refine(oneN_ok (stV d (l.getD p q0).path) (by have:=zgU d (l.getD p q0).path;omega) _ [] [.ptr 1 0,.ptr 2 0] [lkB 0 l d,.rw [.ptr 0 0],.rw [i64 (p:Int)]] (fun v=>decide (v=(l.getD p q0).val)) (selfS_lk3 _ _ _) rfl rfl fun k hk=>eq1_ok l d _ p h hp ?_).mono ?_
 ·have hm:=zjQ (zbQ [] hk)
  have:=h.2.1
  omega
 rintro _ _ ⟨rfl,rfl⟩
 refine aQ60 ?_
 exact endL _ _ _ _
theorem exists_ok (l:List Qn) (d:List Nd) (p:Nat) (h:zfn l d) (hp:p < l.length) (ho:(l.getD p q0).op < 5):ACalls Tryz.prog 58 [.ptr 0 0,i64 (p:Int)] [lkB 0 l d] (fun y σ=>y=.ret (bl (decide (0 < (za2 d (l.getD p q0).path).1.length)))∧σ=[lkB 0 l d]):=by
 have hl:=h.1
 have g1:=(getQ h hp).1
 have hE:=PEachA_ok d (l.getD p q0).path (by have:=h.2.1;omega) (by have:=g1.1;omega)
 refine ACalls.body T_ok Tryz.func58 (by kernel_rfl) rfl Tryz.ntmps58 (congrArg Array.toList Tryz.results58) ?_
 refine aQ60 ?_
 refine zeu [12] (by kernel_rfl) (by kernel_rfl) (by kernel_rfl) ?_
 refine aQ60 ?_
 refine⟨by omega,by omega,Nat.le_refl _,hp,?_⟩
 refine hE.pure aQ12 ?_
 rintro _ σ rfl
 refine⟨zcp _ _ _ _,?_⟩
 generalize za2 d (l.getD p q0).path=X
 refine aQ60 ?_
 rw [show decide ((0:Int) < (X.1.length:Int))=decide (0 < X.1.length) from decide_eq_decide.2 (by omega)]
 exact endL _ _ _ _
def inS (l:List Qn) (d:List Nd) (p:Nat):zaa:=[lkB 0 l d,.rw [.ptr 0 0],.rw [i64 (p:Int)],.rw [slNs (l.getD p q0).val]]
def inT (l:List Qn) (d:List Nd) (p:Nat) (w:List Nd):zaa:=[lkB 0 l d,.rw [.ptr 0 0],.rw [i64 (p:Int)],.rw [slNs (l.getD p q0).val],.rw [slNs w]]
theorem selfN (w:List Nd) (q:List Nat):(Blk.rw [slNs w]).ren q=some (.rw [slNs w]):=by simp [Blk.ren,slNs,renL,AV.ren,zai]
theorem selfS_inS (l:List Qn) (d:List Nd) (p:Nat):zfm (inS l d p):=⟨.inr ⟨_,zdR (m:=0) rfl l d,rfl⟩,.inr ⟨.rw [.ptr 0 0],rfl,rfl⟩,.inr ⟨.rw [i64 (p:Int)],rfl,rfl⟩,.inr ⟨_,selfN _ _,rfl⟩,trivial⟩
theorem selfS_inT (l:List Qn) (d:List Nd) (p:Nat) (w:List Nd):zfm (inT l d p w):=⟨.inr ⟨_,zdR (m:=0) rfl l d,rfl⟩,.inr ⟨.rw [.ptr 0 0],rfl,rfl⟩,.inr ⟨.rw [i64 (p:Int)],rfl,rfl⟩,.inr ⟨_,selfN _ _,rfl⟩,.inr ⟨_,selfN _ _,rfl⟩,trivial⟩
theorem in2_ok (l : List Qn) (d v w : List Nd) (p : Nat) (hv : v.length ≤ 1000) : ACalls Tryz.prog 102 [slNs v, .ptr 4 0] (inT l d p w) (fun y σ' => y = .ret (bl (decide (v = w))) ∧ σ' = inT l d p w) := by
 unfold inT slNs
 refine ACalls.body T_ok Tryz.func102 (by kernel_rfl) rfl Tryz.ntmps102 (congrArg Array.toList Tryz.results102) ?_
 refine aQ60 ?_
 refine(sameV v w hv).pure (by simp [renL,AV.ren,zai]) ?_
 rintro _ σ rfl
 refine⟨zay _ _,?_⟩
 refine aQ60 ?_
 exact zas ⟨rfl,rfl⟩
theorem in1_ok (l:List Qn) (d:List Nd) (p:Nat) (k:Int) (h:zfn l d) (hp:p < l.length) (ho:(l.getD p q0).op < 5):ACalls Tryz.prog 101 [i64 k,.ptr 3 0,.ptr 1 0,.ptr 2 0] (inS l d p) (fun y σ=>y=.ret (bl ((stV d (l.getD p q0).path).any fun v=>decide (v=zaz (l.getD p q0).val k)))∧σ=inS l d p):=by
 have g1:=(getQ h hp).1
 have hsl:=zgR (l.getD p q0).val k
 unfold inS slNs
 refine ACalls.body T_ok Tryz.func101 (by kernel_rfl) rfl Tryz.ntmps101 (congrArg Array.toList Tryz.results101) ?_
 refine aQ60 ?_
 refine(Sub_ok (l.getD p q0).val k (by have:=g1.2;omega)).pure aQ10 ?_
 rintro _ σ ⟨rfl,rfl⟩
 refine⟨by simp [AEnd.noid,AV.ren,zai],?_⟩
 refine aQ60 ?_
 refine ACalls.frame ([0]) (standsG h hp ho) rfl (by decide) (by simp [LB11,LB12,LB19,zaw,zbH,renL,AV.ren,AEnd.ren,qF.fren,List.getElem?_cons_zero,List.getElem?_cons_succ]) (by first | rfl | simp [LB11,LB12,LB19,zaw,zbH,renL,AV.ren,AEnd.ren,qF.fren,List.getElem?_cons_zero,List.getElem?_cons_succ]) ?_
 rintro _ _ ⟨rfl,rfl⟩
 refine⟨.ret (.sl ((stV d (l.getD p q0).path).map slNs) (stV d (l.getD p q0).path).length),[lkB 0 l d,.rw [.ptr 0 0],.rw [i64 (p:Int)],.rw [.sl ((l.getD p q0).val.flatMap nC) (l.getD p q0).val.length],.rw [.sl ((zaz (l.getD p q0).val k).flatMap nC) (zaz (l.getD p q0).val k).length]],(by show zbH _ _ ([0,1,1,1,1]) ([0,1,1,1,1]) 0 _;simp [LB11,LB12,LB19,zaw,zbH,renL,AV.ren,AEnd.ren,qF.fren,List.getElem?_cons_zero,List.getElem?_cons_succ]),(by show AEnd.ren ([0,1,1,1,1]) _ _;first | rfl | simp [LB11,LB12,LB19,zaw,zbH,renL,AV.ren,AEnd.ren,qF.fren,List.getElem?_cons_zero,List.getElem?_cons_succ]),?_⟩
 refine aQ60 ?_
 refine(oneN_ok (stV d (l.getD p q0).path) (by have:=zgU d (l.getD p q0).path;omega) _ [] [.ptr 4 0] (inT l d p (zaz (l.getD p q0).val k)) (fun v=>decide (v=zaz (l.getD p q0).val k)) (selfS_inT _ _ _ _) rfl rfl fun j hj=>in2_ok l d _ _ p ?_).mono ?_
 ·have hm:=zjQ (zbQ [] hj)
  have:=h.2.1
  omega
 rintro _ _ ⟨rfl,rfl⟩
 refine aQ60 ?_
 refine .inl ⟨[0,1,2,3],bl _,inS l d p,rfl,rfl,by simp,zay _ _,?_,rfl,rfl⟩
 exact⟨.inr ⟨_,zdR (m:=0) rfl l d,rfl⟩,.inr ⟨.rw [.ptr 0 0],rfl,rfl⟩,.inr ⟨.rw [i64 (p:Int)],rfl,rfl⟩,.inr ⟨_,selfN _ _,rfl⟩,trivial⟩
theorem in_ok (l:List Qn) (d:List Nd) (p:Nat) (h:zfn l d) (hp:p < l.length) (ho:(l.getD p q0).op < 5):ACalls Tryz.prog 57 [.ptr 0 0,i64 (p:Int)] [lkB 0 l d] (fun y σ=>y=.ret (bl ((zax (l.getD p q0).val 0).any fun k=>(stV d (l.getD p q0).path).any fun v=>decide (v=zaz (l.getD p q0).val k)))∧σ=[lkB 0 l d]):=by
 have hl:=h.1
 have g1:=(getQ h hp).1
 refine ACalls.body T_ok Tryz.func57 (by kernel_rfl) rfl Tryz.ntmps57 (congrArg Array.toList Tryz.results57) ?_
 refine aQ60 ?_
 refine W_drawS 8 9 5 23 13 (by kernel_rfl) (by kernel_rfl) (by kernel_rfl) (by exact Nat.le_of_ble_eq_true rfl) ?_
 refine aQ60 ?_
 refine⟨by omega,by omega,Nat.le_refl _,hp,?_⟩
 refine⟨rfl,rfl,rfl,?_⟩
 refine aQ60 ?_
 refine(zjE (l.getD p q0).val 0 (by have:=g1.2;omega)).pure aQ10 ?_
 rintro _ σ ⟨rfl,rfl⟩
 refine⟨by simp [AEnd.noid,AV.ren,zam i64 zac],?_⟩
 have hkl:=zde (l.getD p q0).val 0 (by have:=g1.2;omega)
 refine aQ60 ?_
 refine(oneI_ok (zax (l.getD p q0).val 0) (by omega) _ [] [.ptr 3 0,.ptr 1 0,.ptr 2 0] (inS l d p) (fun k=>(stV d (l.getD p q0).path).any fun v=>decide (v=zaz (l.getD p q0).val k)) (selfS_inS _ _ _) rfl rfl fun j hj=>in1_ok l d p _ h hp ho).mono ?_
 rintro _ _ ⟨rfl,rfl⟩
 refine aQ60 ?_
 exact endL _ _ _ _
def zbs (d:List Nd) (q:Qn):Bool :=
 if q.op=0 then (stV d q.path).any fun v=>decide (v=q.val)
 else if q.op=1 then (zax q.val 0).any fun k=>(stV d q.path).any fun v=>decide (v=zaz q.val k)
 else if q.op=2 then decide (0 < (za2 d q.path).1.length)
 else (stV d q.path).any fun v=>decide ((v.getD 0 n0d).kind=(q.val.getD 0 n0d).kind) && decide (cmpR v q.val=if q.op=3 then -1 else 1)
theorem val_leaf {q:Qn} (h:mayB q=true) (h3:3≤q.op) (ho:q.op < 5):zau q.val=0:=by
 have h1:=(zjR h ho).2.2
 unfold valB at h1
 rw [if_neg (by omega),Bool.and_eq_true] at h1
 exact of_decide_eq_true h1.1
section
variable {σ : zaa} {KS : AV → zaa → Prop}
theorem al_Q (e:TypeId):al1 T e (some tyQ) σ KS=KS (.ptr σ.length 0) (σ++[.rw [i64 0,str [],.lit (.slice none 0 0),i64 0]]):=rfl
theorem sw_Q (a b c e:AV) (q:Qn) (id:Nat):st2 (some tyQ) (some (.rw [a,b,c,e])) id 0 (.agg (qC q)) σ KS=KS (.lit undef) (σ.set id (.rw (qC q))):=szW rfl rfl rfl id
end
def cmS (l:List Qn) (d:List Nd) (p:Nat) (c:Int):zaa:=[lkB 0 l d,.rw [i64 c],.rw (qC (l.getD p q0))]
theorem selfQ (q:Qn) (s:List Nat):(Blk.rw (qC q)).ren s=some (.rw (qC q)):=by simp only [Blk.ren,qF.ren,Option.map_some]
theorem selfS_cm (l:List Qn) (d:List Nd) (p:Nat) (c:Int):zfm (cmS l d p c):=⟨.inr ⟨_,zdR (m:=0) rfl l d,rfl⟩,.inr ⟨.rw [i64 c],rfl,rfl⟩,.inr ⟨_,selfQ _ _,rfl⟩,trivial⟩
theorem cm1_ok (l:List Qn) (d v:List Nd) (p:Nat) (c:Int) (h:zfn l d) (hp:p < l.length) (h3:3≤(l.getD p q0).op) (ho:(l.getD p q0).op < 5) (hv:v.length≤1000) (hv0:0 < v.length):ACalls Tryz.prog 149 [slNs v,.ptr 2 0,.ptr 1 0] (cmS l d p c) (fun y σ=>y=.ret (bl (decide ((v.getD 0 n0d).kind=((l.getD p q0).val.getD 0 n0d).kind) && decide (cmpR v (l.getD p q0).val=c)))∧σ=cmS l d p c):=by
 have he:=val_leaf (getQ h hp).2 h3 ho
 have hw:=za1 he
 unfold cmS slNs
 rw [qC_eq]
 generalize (l.getD p q0).val=w at hw ⊢
 have hC:=oCompare_ok v w hv (by omega)
 refine ACalls.body T_ok Tryz.func149 (by kernel_rfl) rfl Tryz.ntmps149 (congrArg Array.toList Tryz.results149) ?_
 refine aQ61 ?_
 refine zcw (by kernel_rfl) (by kernel_rfl) ?_
 refine aQ61 ?_
 refine⟨by omega,by omega,Nat.le_refl _,?_⟩
 rw [zfk (t:=0) hv0]
 refine aQ61 ?_
 refine⟨by omega,by omega,Nat.le_refl _,?_⟩
 rw [zfk (t:=0) (by omega)]
 refine aQ61 ?_
 by_cases hk:(v.getD 0 n0d).kind=(w.getD 0 n0d).kind
 ·have dza:=decide_eq_true hk
  refine aQ62 ?_
  refine zcg hC (by simp [renL,AV.ren,zai]) (zac _ _) ?_
  refine aQ61 ?_
  rw [Bool.true_and]
  exact zas ⟨rfl,rfl⟩
 ·have dza:=decide_eq_false hk
  refine aQ62 ?_
  rw [Bool.false_and]
  exact zas ⟨rfl,rfl⟩
theorem cm_ok (l:List Qn) (d:List Nd) (p:Nat) (c:Int) (h:zfn l d) (hp:p < l.length) (h3:3≤(l.getD p q0).op) (ho:(l.getD p q0).op < 5):ACalls Tryz.prog 103 [.ptr 0 0,i64 (p:Int),i64 c] [lkB 0 l d] (fun y σ=>y=.ret (bl ((stV d (l.getD p q0).path).any fun v=>decide ((v.getD 0 n0d).kind=((l.getD p q0).val.getD 0 n0d).kind) && decide (cmpR v (l.getD p q0).val=c)))∧σ=[lkB 0 l d]):=by
 have hl:=h.1
 refine ACalls.body T_ok Tryz.func103 (by kernel_rfl) rfl Tryz.ntmps103 (congrArg Array.toList Tryz.results103) ?_
 refine aQ61 ?_
 refine⟨by omega,by omega,Nat.le_refl _,hp,?_⟩
 refine aQ61 ?_
 refine ACalls.frame ([0]) (standsG h hp ho) rfl (by decide) (by simp [LB11,LB12,LB19,zaw,zbH,renL,AV.ren,AEnd.ren,qF.fren,List.getElem?_cons_zero,List.getElem?_cons_succ]) (by first | rfl | simp [LB11,LB12,LB19,zaw,zbH,renL,AV.ren,AEnd.ren,qF.fren,List.getElem?_cons_zero,List.getElem?_cons_succ]) ?_
 rintro _ _ ⟨rfl,rfl⟩
 refine⟨.ret (.sl ((stV d (l.getD p q0).path).map slNs) (stV d (l.getD p q0).path).length),[lkB 0 l d,.rw [i64 c],.rw (qC (l.getD p q0))],(by show zbH _ _ ([0,1,1]) ([0,1,1]) 0 _;simp [LB11,LB12,LB19,zaw,zbH,renL,AV.ren,AEnd.ren,qF.fren,List.getElem?_cons_zero,List.getElem?_cons_succ]),(by show AEnd.ren ([0,1,1]) _ _;first | rfl | simp [LB11,LB12,LB19,zaw,zbH,renL,AV.ren,AEnd.ren,qF.fren,List.getElem?_cons_zero,List.getElem?_cons_succ]),?_⟩
 refine aQ61 ?_
 refine(oneN_ok (stV d (l.getD p q0).path) (by have:=zgU d (l.getD p q0).path;omega) _ [] [.ptr 2 0,.ptr 1 0] (cmS l d p c) (fun v=>decide ((v.getD 0 n0d).kind=((l.getD p q0).val.getD 0 n0d).kind) && decide (cmpR v (l.getD p q0).val=c)) (selfS_cm _ _ _ _) rfl rfl fun j hj=>?_).mono ?_
 ·have hm:=zjQ (zbQ [] hj)
  have:=h.2.1
  exact cm1_ok l d _ p c h hp h3 ho (by omega) hm.1
 rintro _ _ ⟨rfl,rfl⟩
 refine aQ61 ?_
 exact endL _ _ _ _
theorem qless_ok (l:List Qn) (d:List Nd) (p:Nat) (h:zfn l d) (hp:p < l.length) (h3:3≤(l.getD p q0).op) (ho:(l.getD p q0).op < 5):ACalls Tryz.prog 59 [.ptr 0 0,i64 (p:Int)] [lkB 0 l d] (fun y σ=>y=.ret (bl ((stV d (l.getD p q0).path).any fun v=>decide ((v.getD 0 n0d).kind=((l.getD p q0).val.getD 0 n0d).kind) && decide (cmpR v (l.getD p q0).val=-1)))∧σ=[lkB 0 l d]):=by
 refine ACalls.body T_ok Tryz.func59 (by kernel_rfl) rfl Tryz.ntmps59 (congrArg Array.toList Tryz.results59) ?_
 refine aQ61 ?_
 refine(cm_ok l d p (-1) h hp h3 ho).mono ?_
 rintro _ _ ⟨rfl,rfl⟩
 refine aQ61 ?_
 exact zas ⟨rfl,rfl⟩
theorem qmore_ok (l:List Qn) (d:List Nd) (p:Nat) (h:zfn l d) (hp:p < l.length) (h3:3≤(l.getD p q0).op) (ho:(l.getD p q0).op < 5):ACalls Tryz.prog 60 [.ptr 0 0,i64 (p:Int)] [lkB 0 l d] (fun y σ=>y=.ret (bl ((stV d (l.getD p q0).path).any fun v=>decide ((v.getD 0 n0d).kind=((l.getD p q0).val.getD 0 n0d).kind) && decide (cmpR v (l.getD p q0).val=1)))∧σ=[lkB 0 l d]):=by
 refine ACalls.body T_ok Tryz.func60 (by kernel_rfl) rfl Tryz.ntmps60 (congrArg Array.toList Tryz.results60) ?_
 refine aQ61 ?_
 refine(cm_ok l d p 1 h hp h3 ho).mono ?_
 rintro _ _ ⟨rfl,rfl⟩
 refine aQ61 ?_
 exact zas ⟨rfl,rfl⟩
set_option linter.defProp false in
def LB20:=And.intro @al_Q (@sw_Q)
def soF:AV:=.fn (.func 31) [.ptr 0 0] []
def soS (l:List Qn) (d:List Nd):zaa:=[lkB 0 l d,.rw [soF]]
theorem selfS_so (l:List Qn) (d:List Nd):zfm (soS l d):=⟨.inr ⟨_,zdR (m:=0) rfl l d,rfl⟩,.inr ⟨.rw [soF],rfl,rfl⟩,trivial⟩
def SoAt (l:List Qn) (d:List Nd) (p:Nat):Prop:=ACalls Tryz.prog 31 [.ptr 0 0,i64 (p:Int)] [lkB 0 l d] (fun y σ=>y=.ret (bl (zcN (zbs d) l p))∧σ=[lkB 0 l d])
theorem notI_ok (l:List Qn) (d:List Nd) (k:Int) (b:Bool) (h:ACalls Tryz.prog 31 [.ptr 0 0,i64 k] [lkB 0 l d] (fun y σ=>y=.ret (bl b)∧σ=[lkB 0 l d])):ACalls Tryz.prog 150 [i64 k,.ptr 1 0] (soS l d) (fun y σ=>y=.ret (bl (!b))∧σ=soS l d):=by
 unfold soS soF
 refine ACalls.body T_ok Tryz.func150 (by kernel_rfl) rfl Tryz.ntmps150 (congrArg Array.toList Tryz.results150) ?_
 refine aQ63 ?_
 refine ACalls.frame ([0]) (h) rfl (by decide) (by simp [LB11,LB12,LB19,zaw,zbH,renL,AV.ren,AEnd.ren,qF.fren,List.getElem?_cons_zero,List.getElem?_cons_succ]) (by first | rfl | simp [LB11,LB12,LB19,zaw,zbH,renL,AV.ren,AEnd.ren,qF.fren,List.getElem?_cons_zero,List.getElem?_cons_succ]) ?_
 rintro _ _ ⟨rfl,rfl⟩
 refine⟨.ret (bl b),[lkB 0 l d,.rw [.fn (.func 31) [.ptr 0 0] []]],(by show zbH _ _ ([0,1]) ([0,1]) 0 _;simp [LB11,LB12,LB19,zaw,zbH,renL,AV.ren,AEnd.ren,qF.fren,List.getElem?_cons_zero,List.getElem?_cons_succ]),(by show AEnd.ren ([0,1]) _ _;first | rfl | simp [LB11,LB12,LB19,zaw,zbH,renL,AV.ren,AEnd.ren,qF.fren,List.getElem?_cons_zero,List.getElem?_cons_succ]),?_⟩
 refine aQ63 ?_
 exact zas ⟨rfl,rfl⟩
theorem allS_ok (l:List Qn) (d:List Nd) (ks:List Int) (f:Int→Bool) (hks:ks.length≤1000000) (h:∀ k∈ks,ACalls Tryz.prog 31 [.ptr 0 0,i64 k] [lkB 0 l d] (fun y σ=>y=.ret (bl (f k))∧σ=[lkB 0 l d])):ACalls Tryz.prog 104 [.sl (ks.map i64) ks.length,soF] [lkB 0 l d] (fun y σ=>y=.ret (bl (ks.all f))∧σ=[lkB 0 l d]):=by
 unfold soF
 refine ACalls.body T_ok Tryz.func104 (by kernel_rfl) rfl Tryz.ntmps104 (congrArg Array.toList Tryz.results104) ?_
 refine aQ63 ?_
 refine(oneI_ok ks (by omega) _ [] [.ptr 1 0] (soS l d) (fun k=>!f k) (selfS_so _ _) rfl rfl fun j hj=>notI_ok l d _ _ (h _ (zbQ 0 hj))).mono ?_
 rintro _ _ ⟨rfl,rfl⟩
 refine aQ63 ?_
 rw [all_any]
 exact endL _ _ _ _
theorem zjS {l:List Qn} {p:Nat} (hb:chkB l=true) (hp:p < l.length):zbT l p=(zbS l p).map Int.ofNat:=by rw [zbT,if_pos ⟨hb,by omega,by omega⟩];rfl
theorem zfj:∀ (p:Nat) (l:List Qn),(plc p l).length≤l.length:=by
 intro p l
 induction l generalizing p with
 | nil=>exact Nat.le_refl _
 | cons q r ih =>
  have:=ih (p+1)
  rw [plc,List.length_cons,List.length_cons,List.length_drop]
  omega
def KidP (l:List Qn) (d:List Nd) (p:Nat):Prop:=∀ k∈zbT l p,ACalls Tryz.prog 31 [.ptr 0 0,i64 k] [lkB 0 l d] (fun y σ=>y=.ret (bl (zcN (zbs d) l k.toNat))∧σ=[lkB 0 l d])
theorem and_ok (l:List Qn) (d:List Nd) (h:zfn l d) (p:Nat) (hk:(zbT l p).length≤1000000) (hs:KidP l d p):ACalls Tryz.prog 61 [.ptr 0 0,i64 (p:Int)] [lkB 0 l d] (fun y σ=>y=.ret (bl ((zbT l p).all fun k=>zcN (zbs d) l k.toNat))∧σ=[lkB 0 l d]):=by
 have hl:=h.1
 refine ACalls.body T_ok Tryz.func61 (by kernel_rfl) rfl Tryz.ntmps61 (congrArg Array.toList Tryz.results61) ?_
 refine aQ63 ?_
 refine(zit l p hl fun q hq=>(h.2.2.2 q hq).1).pure (by simp [renL,AV.ren,qF.fren,zac]) ?_
 rintro _ σ rfl
 refine⟨by simp [AEnd.noid,AV.ren,zam i64 zac],?_⟩
 refine aQ63 ?_
 refine(allS_ok l d (zbT l p) _ hk hs).mono ?_
 rintro _ _ ⟨rfl,rfl⟩
 refine aQ63 ?_
 exact zas ⟨rfl,rfl⟩
theorem or_ok (l:List Qn) (d:List Nd) (h:zfn l d) (p:Nat) (hk:(zbT l p).length≤1000000) (hs:KidP l d p):ACalls Tryz.prog 62 [.ptr 0 0,i64 (p:Int)] [lkB 0 l d] (fun y σ=>y=.ret (bl ((zbT l p).any fun k=>zcN (zbs d) l k.toNat))∧σ=[lkB 0 l d]):=by
 have hl:=h.1
 refine ACalls.body T_ok Tryz.func62 (by kernel_rfl) rfl Tryz.ntmps62 (congrArg Array.toList Tryz.results62) ?_
 refine aQ63 ?_
 refine(zit l p hl fun q hq=>(h.2.2.2 q hq).1).pure (by simp [renL,AV.ren,qF.fren,zac]) ?_
 rintro _ σ rfl
 refine⟨by simp [AEnd.noid,AV.ren,zam i64 zac],?_⟩
 refine aQ63 ?_
 refine(oneI_ok (zbT l p) (by omega) _ [.ptr 0 0] [] [lkB 0 l d] (fun k=>zcN (zbs d) l k.toNat) (selfS_lk _ _) rfl rfl fun j hj=>hs _ (zbQ 0 hj)).mono ?_
 rintro _ _ ⟨rfl,rfl⟩
 refine aQ63 ?_
 exact zas ⟨rfl,rfl⟩
theorem not_ok (l:List Qn) (d:List Nd) (p:Nat) (hp:p < 1000000) (b:Bool) (hs:ACalls Tryz.prog 31 [.ptr 0 0,i64 ((p:Int)+1)] [lkB 0 l d] (fun y σ=>y=.ret (bl b)∧σ=[lkB 0 l d])):ACalls Tryz.prog 63 [.ptr 0 0,i64 (p:Int)] [lkB 0 l d] (fun y σ=>y=.ret (bl (!b))∧σ=[lkB 0 l d]):=by
 refine ACalls.body T_ok Tryz.func63 (by kernel_rfl) rfl Tryz.ntmps63 (congrArg Array.toList Tryz.results63) ?_
 refine aQ63 ?_
 refine⟨by unfold inI;omega,?_⟩
 refine hs.mono ?_
 rintro _ _ ⟨rfl,rfl⟩
 refine aQ63 ?_
 exact zas ⟨rfl,rfl⟩
theorem so_case (l:List Qn) (d:List Nd) (h:zfn l d) (hb:chkB l=true) (hc:cnt l=some 1) (p:Nat) (hp:p < l.length) (ih:∀ k,p < k→k < l.length→SoAt l d k) (j:Nat) (hj:(l.getD p q0).op=j) (hj8:j < 8):ACalls Tryz.prog (lkN j) [.ptr 0 0,i64 (p:Int)] [lkB 0 l d] (fun y σ=>y=.ret (bl (zcN (zbs d) l p))∧σ=[lkB 0 l d]):=by
 have hl:=h.1
 obtain⟨g1,g2⟩:=getQ h hp
 have hv:=valuQ_eq (zbs d) hc hp
 have hks:=zjS hb hp
 have hkl:=zei hc hp
 have hke:KidP l d p:=by
  intro k hk
  rw [hks] at hk
  obtain⟨n,hn,rfl⟩:=List.mem_map.1 hk
  have:=zio hn
  exact ih n this.1 this.2
 have hkm:(zbT l p).length≤1000000:=by
  rw [hks,List.length_map,zbS,List.length_take]
  have:=zfj (p+1) (l.drop (p+1))
  rw [List.length_drop] at this
  omega
 have leaf:j < 5→zcN (zbs d) l p=zbs d (l.getD p q0):=fun h5=>by rw [hv,opV,if_pos (by omega)]
 match j,hj8 with
 | 0,_ =>
  rw [leaf (by decide),zbs,if_pos (by omega)]
  exact eq_ok l d p h hp (by omega)
 | 1,_ =>
  rw [leaf (by decide),zbs,if_neg (by omega),if_pos (by omega)]
  exact in_ok l d p h hp (by omega)
 | 2,_ =>
  rw [leaf (by decide),zbs,if_neg (by omega),if_neg (by omega),if_pos (by omega)]
  exact exists_ok l d p h hp (by omega)
 | 3,_ =>
  rw [leaf (by decide),zbs,if_neg (by omega),if_neg (by omega),if_neg (by omega),if_pos (by omega)]
  exact qless_ok l d p h hp (by omega) (by omega)
 | 4,_ =>
  rw [leaf (by decide),zbs,if_neg (by omega),if_neg (by omega),if_neg (by omega),if_neg (by omega)]
  exact qmore_ok l d p h hp (by omega) (by omega)
 | 5,_ =>
  have e:zcN (zbs d) l p=(zbT l p).all fun k=>zcN (zbs d) l k.toNat:=by
   rw [hv,opV,if_neg (by omega),if_pos (by omega),hks,List.all_map,List.all_map]
   rfl
  rw [e]
  exact and_ok l d h p hkm hke
 | 6,_ =>
  have e:zcN (zbs d) l p=(zbT l p).any fun k=>zcN (zbs d) l k.toNat:=by
   rw [hv,opV,if_neg (by omega),if_neg (by omega),if_pos (by omega),hks,List.any_map,List.any_map]
   rfl
  rw [e]
  exact or_ok l d h p hkm hke
 | 7,_ =>
  have hk1:(l.getD p q0).kids=1:=by
   unfold mayB at g2
   rw [if_neg (by omega),if_neg (by omega),if_pos (by omega),Bool.and_eq_true,Bool.and_eq_true] at g2
   exact of_decide_eq_true g2.1.1
  rw [hk1] at hkl
  obtain⟨x,hx⟩:=List.length_eq_one_iff.1 hkl
  have hsk:=zi5 (l:=l) (p:=p) (k:=0) (by rw [hx];exact Nat.zero_lt_one)
  rw [zco] at hsk
  have hxp:x=p+1:=by
   simp only [hx,List.getElem_cons_zero,Option.some.injEq] at hsk
   exact hsk.symm
  subst hxp
  have hmem:=zio (l:=l) (p:=p) (x:=p+1) (by rw [hx];exact List.mem_singleton.2 rfl)
  have e:zcN (zbs d) l p=!zcN (zbs d) l (p+1):=by
   rw [hv,opV,if_neg (by omega),if_neg (by omega),if_neg (by omega),hx]
   rfl
  rw [e]
  exact not_ok l d p (by omega) _ (ih (p+1) hmem.1 hmem.2)
theorem so_step (l:List Qn) (d:List Nd) (h:zfn l d) (hb:chkB l=true) (hc:cnt l=some 1) (p:Nat) (hp:p < l.length) (ih:∀ k,p < k→k < l.length→SoAt l d k):SoAt l d p:=by
 have hl:=h.1
 obtain⟨g1,g2⟩:=getQ h hp
 have hop:0≤(l.getD p q0).op∧(l.getD p q0).op≤7:=by
  unfold mayB at g2
  split at g2
  ·omega
  ·split at g2
   ·omega
   ·split at g2
    ·omega
    ·cases g2
 obtain⟨j,hj⟩:∃ j:Nat,(l.getD p q0).op=j:=⟨(l.getD p q0).op.toNat,by omega⟩
 have hj8:j < 8:=by omega
 unfold SoAt
 refine ACalls.body T_ok Tryz.func31 (by kernel_rfl) rfl Tryz.ntmps31 (congrArg Array.toList Tryz.results31) ?_
 refine aQ63 ?_
 refine zeu [14] (by kernel_rfl) (by kernel_rfl) (by kernel_rfl) ?_
 have dza:=hj
 try simp -implicitDefEqProofs only [LM6,LB20,eq_self,Nat.zero_mul,lzS,bx_P,zat,lzS,dza,ia_lk T109,ld_lk2 hj8,TB,SB,Int.reduceToNat,Nat.reduceAdd,Nat.reduceEqDiff,Nat.reduceLT,Nat.reduceMod,Nat.reducePow,Nat.reduceSub,if_true,reduceIte]
 refine⟨by omega,by omega,Nat.le_refl _,hp,hj8,?_⟩
 refine(so_case l d h hb hc p hp ih j hj hj8).mono ?_
 rintro _ _ ⟨rfl,rfl⟩
 refine aQ63 ?_
 exact zas ⟨rfl,rfl⟩
theorem so_all (l:List Qn) (d:List Nd) (h:zfn l d) (hb:chkB l=true) (hc:cnt l=some 1):∀ (m p:Nat),p < l.length→l.length - p≤m→SoAt l d p:=by
 intro m
 induction m with
 | zero=>intro p hp hm;omega
 | succ m ih=>intro p hp hm;exact so_step l d h hb hc p hp fun k h1 h2=>ih k h2 (by omega)
def zfo (l:List Qn) (d:List Nd):Bool × Int:=if chkB l=true then (if zau d=0 then (evQ (zbs d) l,0) else (false,zau d)) else (false,10)
theorem zdS (b:Bool) (e:Int) (q:List Nat):(AV.tup [bl b,i64 e]).ren q=some (.tup [bl b,i64 e]):=by simp [AV.ren,renL,zay,zac]
theorem ziu {l:List Qn} (h:chkB l=true):l.length≤24∧(∀ q∈l,mayB q=true)∧(l≠[]→cnt l=some 1):=by
 rw [chkB,Bool.and_eq_true,Bool.and_eq_true,Bool.or_eq_true,List.all_eq_true] at h
 refine⟨of_decide_eq_true h.1,h.2.1,fun hn=>?_⟩
 rcases h.2.2 with h | h
 ·exact absurd (List.isEmpty_iff.1 h) hn
 ·exact of_decide_eq_true h
theorem Eval_ok (l:List Qn) (d:List Nd) (hl:l.length≤1000000) (hg:∀ q∈l,zis q) (hd:d.length≤1000):ACalls Tryz.prog 10 [.sl (l.flatMap qC) l.length,.sl (d.flatMap nC) d.length] [] (fun y _=>y=.ret (.tup [bl (zfo l d).1,i64 (zfo l d).2])):=by
 refine ACalls.body T_ok Tryz.func10 (by kernel_rfl) rfl Tryz.ntmps10 (congrArg Array.toList Tryz.results10) ?_
 refine aQ63 ?_
 refine(zi6 l hl hg).pure (by simp [renL,AV.ren,qF.fren]) ?_
 rintro _ σ rfl
 refine⟨zac _ _,?_⟩
 cases hb:chkB l with
 | false =>
  have e:zfo l d=(false,10):=by rw [zfo,hb];rfl
  rw [e]
  try simp -implicitDefEqProofs only [LM6,LB20,eq_self,Nat.zero_mul,lzS,bx_P,zat,lzS,if_neg (show ¬ (false=true) by decide),decide_eq_false (show ¬ ((10:Int)=0) by decide),TB,SB,Int.reduceToNat,Nat.reduceAdd,Nat.reduceEqDiff,Nat.reduceLT,Nat.reduceMod,Nat.reducePow,Nat.reduceSub,if_true,reduceIte]
  exact zaF (zdS _ _ _) rfl
 | true =>
  obtain⟨c1,c2,c3⟩:=ziu hb
  refine aQ63 ?_
  refine(zhh d (by omega)).pure (by simp [renL,AV.ren,zai]) ?_
  rintro _ σ ⟨rfl,rfl⟩
  refine⟨zac _ _,?_⟩
  by_cases h0:zau d=0
  rotate_left
  ·have e:zfo l d=(false,zau d):=by rw [zfo,hb,if_pos rfl,if_neg h0]
   rw [e]
   have dza:=decide_eq_false h0
   refine aQ64 ?_
   exact zaF (zdS _ _ _) rfl
  have e:zfo l d=(evQ (zbs d) l,0):=by rw [zfo,hb,if_pos rfl,if_pos h0]
  rw [e,h0]
  by_cases hn:(l.length:Int)=0
  ·have hl0:l=[]:=List.eq_nil_of_length_eq_zero (by omega)
   have ev:evQ (zbs d) l=true:=by rw [hl0];rfl
   rw [ev]
   have dza:=decide_eq_true hn
   refine aQ64 ?_
   exact zaF (zdS _ _ _) rfl
  have hlt:0 < l.length:=by omega
  have he:l.isEmpty=false:=by
   cases l with
   | nil=>exact absurd rfl hn
   | cons=>rfl
  have hc:=c3 fun h=>by rw [h] at hlt;exact absurd hlt (Nat.lt_irrefl _)
  have hso:=so_all l d ⟨hl,hd,h0,fun q hq=>⟨hg q hq,c2 q hq⟩⟩ hb hc l.length 0 hlt (by omega)
  have hev:evQ (zbs d) l=zcN (zbs d) l 0:=by rw [evQ,he,Bool.false_or]
  rw [hev]
  unfold SoAt at hso
  have dza:=decide_eq_false hn
  refine aQ64 ?_
  refine(newLook_ok l d).mono ?_
  rintro _ _ ⟨rfl,rfl⟩
  refine aQ63 ?_
  refine hso.mono ?_
  rintro _ _ ⟨rfl,rfl⟩
  refine aQ63 ?_
  exact zaF (zdS _ _ _) rfl
def fewQ (q:Qn):Prop:=q.path.length≤200∧fewB q.val=true
def fewQs (l:List Qn):Prop:=l.length≤26∧∀ q∈l,fewQ q
theorem few22_ok (l:List Qn) (hv:∀ q∈l,q.val.length≤9223372036854775807):ACalls Tryz.prog 8 [.sl (l.flatMap qC) l.length] [] (fun y _=>∃ b:Bool,y=.ret (bl b)∧(b=true→fewQs l)):=by
 refine ACalls.body T_ok Tryz.func8 (by kernel_rfl) rfl Tryz.ntmps8 (congrArg Array.toList Tryz.results8) ?_
 refine aQ63 ?_
 rw [zaK]
 refine⟨Nat,fun k=>k≤l.length∧k≤27∧∀ j,j < k→fewQ (l.getD j q0),fun k=>[.sl (l.flatMap qC) l.length,.bot,bl false,i64 k,.bot,.bot,.bot,.bot,.bot,.bot,.bot,.bot,.bot,.bot,.bot,.bot,.bot,.bot,.bot,.bot,.bot,.bot,.bot,.bot,.bot,.bot,.bot,.bot,.bot,.bot,.bot,.bot,.bot,.bot,.bot],fun _=>[],fun k=>l.length - k,0,⟨Nat.zero_le _,Nat.zero_le _,fun j hj=>absurd hj (Nat.not_lt_zero _)⟩,zab (q:=[]) rfl rfl (by decide) ?_ ?_,?_⟩
 ·refine aQ18 ?_
  simp [qF.fren]
 ·first|exact aQ18 trivial|refine aQ18 ?_
 rintro k ⟨hk,hk27,hg⟩
 dsimp only
 have hend:∀ σ:zaa,l.length≤k∨26 < k→endQ 0 (bl (decide ((l.length:Int)≤26))) σ (fun r _=>∃ b:Bool,AEnd.ret r=.ret (bl b)∧(b=true→fewQs l)):=by
  intro σ h
  refine zaq ⟨_,rfl,fun h26=>?_⟩
  have h26:=of_decide_eq_true h26
  refine⟨by omega,fun q hq=>?_⟩
  obtain⟨j,hj,rfl⟩:=List.getElem_of_mem hq
  have:=hg j (by omega)
  rwa [List.getD_eq_getElem?_getD,List.getElem?_eq_getElem hj] at this
 by_cases hlt:k < l.length
 rotate_left
 ·have dk:decide ((k:Int) < (l.length:Int))=false:=decide_eq_false (by omega)
  have dza:=dk
  refine aQ64 ?_
  exact hend _ (.inl (by omega))
 have dk:decide ((k:Int) < (l.length:Int))=true:=decide_eq_true (by omega)
 by_cases h26:(k:Int)≤26
 rotate_left
 ·have dza:=dk
  have dzb:=decide_eq_false h26
  refine aQ65 ?_
  exact hend _ (.inr (by omega))
 have hvk:=hv _ (zbQ q0 hlt)
 have dza:=dk
 have dzb:=decide_eq_true h26
 refine aQ65 ?_
 refine⟨by omega,by omega,Nat.le_refl _,hlt,?_⟩
 refine(Few_ok (l.getD k q0).val hvk).pure (zdz _ _ _) ?_
 rintro _ σ rfl
 refine⟨zay _ _,?_⟩
 cases hf:fewB (l.getD k q0).val with
 | false =>
  refine aQ63 ?_
  exact zaq ⟨false,rfl,fun h=>(by cases h)⟩
 | true =>
  by_cases hp:(200:Int) < (l.getD k q0).path.length
  ·have dza:=decide_eq_true hp
   refine aQ64 ?_
   refine⟨by omega,by omega,Nat.le_refl _,hlt,?_⟩
   exact zaq ⟨false,rfl,fun h=>(by cases h)⟩
  ·have dza:=decide_eq_false hp
   refine aQ64 ?_
   refine⟨by omega,by omega,Nat.le_refl _,hlt,by unfold inI;omega,?_⟩
   rw [zad]
   refine⟨k+1,⟨by omega,by omega,fun j hj=>?_⟩,by (show l.length - (k+1) < l.length - k);omega,zab (q:=[]) rfl rfl (by decide) ?_ ?_⟩
   ·rcases Nat.lt_succ_iff_lt_or_eq.1 hj with h | rfl
    ·exact hg j h
    ·exact⟨by omega,hf⟩
   ·refine aQ18 ?_
    try simp [qF.fren]
   ·first|exact aQ18 trivial|refine aQ18 ?_
def vX (q:Qn) (b:Bool):AV:=if b=true then .lit (.slice none 0 0) else .sl (q.val.flatMap nC) q.val.length
def qX (x:Qn × Bool):List AV:=[i64 x.1.op,str x.1.path,vX x.1 x.2,i64 x.1.kids]
section
variable {σ : zaa} {K : AV → Prop} {KS : AV → zaa → Prop}
theorem bs_Q1 (o:Int) (p:List UInt8) (x:AV) (k:Int) (hx:x.one=true):bs2 (some tyQ) 1 [(0,.agg [i64 o,str p,x,i64 k])] σ KS=KS (.ref σ.length 0 1 4) (σ++[.rw [i64 o,str p,x,i64 k]]):=by
 simp [bs2,tyQ,zbo,zbz,za0,List.range_succ,AV.cells,hx,zcE,zeT]
theorem bs_Qn (o k:Int) (p:List UInt8):bs2 (some tyQ) 1 [(0,.agg [i64 o,str p,.lit (.slice none 0 0),i64 k])] σ KS=KS (.ref σ.length 0 1 4) (σ++[.rw (([(⟨o,p,[],k⟩,true)]:List (Qn × Bool)).flatMap qX)]):=bs_Q1 o p _ k rfl
theorem bs_Qv (o k:Int) (p:List UInt8) (v:List Nd):bs2 (some tyQ) 1 [(0,.agg [i64 o,str p,.sl (v.flatMap nC) v.length,i64 k])] σ KS=KS (.ref σ.length 0 1 4) (σ++[.rw (([(⟨o,p,v,k⟩,false)]:List (Qn × Bool)).flatMap qX)]):=bs_Q1 o p _ k rfl
theorem bs_Q0:bs2 (some tyQ) 0 [] σ KS=KS (.ref σ.length 0 0 4) (σ++[.rw (([]:List (Qn × Bool)).flatMap qX)]):=by
 simp [bs2,tyQ,zbo,zbz]
theorem bd_Qn (o k:Int):zaY T 37 [(0,i64 o),(3,i64 k)] K=K (.agg [i64 o,str [],.lit (.slice none 0 0),i64 k]):=by
 simp [zaY,T37,T35,T9,T23,T3,tyQ,tySl,zaC,zbf,zbo,zaE,za0,i64,AV.cells,AV.one]
 try rfl
theorem bd_Qv (o:Int) (p:List UInt8) (c:List AV) (n:Nat):zaY T 37 [(0,i64 o),(1,str p),(2,.sl c n)] K=K (.agg [i64 o,str p,.sl c n,i64 0]):=by
 simp [zaY,T37,T35,T9,T23,T3,tyQ,tySl,zaC,zbf,zbo,zaE,za0,i64,str,AV.cells,AV.one]
 try rfl
end
end Go.Proofs.YtdigkoejfgmecaaGreatDoor
end

section
namespace Go.Proofs.YtdigkoejfgmecaaGreatDoor
open Go Go.Eng
theorem works_ok:ACalls Tryz.prog 7 [] [] (fun y _=>y=.ret (bl true)) :=
 (zaA zcL rfl (S:=⟨C26,za5,1000⟩) ox26 rx27).mono (by rintro _ _ ⟨rfl,rfl⟩;rfl)
theorem few_le' {l:List Nd} (h:fewB l=true):l.length≤1000:=by
 have:=few_le h
 omega
theorem good_of {l:List Qn} (h:fewQs l):l.length≤26∧∀ q∈l,zis q:=⟨h.1,fun q hq=>by
 have h1:=(h.2 q hq).1
 have h2:=few_le' (h.2 q hq).2
 exact⟨by omega,by omega⟩⟩
end Go.Proofs.YtdigkoejfgmecaaGreatDoor
end

