/-
  How texts are split and joined; a batch as bytes. No condition.
-/
import Derived.Test.YtdmiflfhaobngaaGreatDoorVauD
set_option linter.unusedSimpArgs false
set_option linter.unusedVariables false
set_option linter.unusedSectionVars false
section
namespace Go.Proofs.YtdmiflfhaobngaaGreatDoor
open Go Go.Eng
set_option linter.defProp false in
def LB19:=And.intro @box_str (@ld_str1)
def slS (l:List (List UInt8)):AV:=.sl (l.map str) l.length
theorem zde (e:TypeId) (L:List (List (List UInt8))) (n:Nat) (k:Int) (K:AV→Prop):ia3 (some (tySl e)) (.sl (L.map slS) n) k K=(0≤k∧k < n∧n≤L.length∧K (.rp ((L.map slS).drop k.toNat))):=by
 simp [ia3,tySl]
theorem zgG (e:TypeId) (L:List (List (List UInt8))) (k:Nat) (K:AV→Prop):ld2 (some (tySl e)) (some ((L.map slS).drop k)) 0 K=(k < L.length∧K (slS (L.getD k []))):=by
 by_cases h:k < L.length
 ·rw [← List.map_drop,List.drop_eq_getElem_cons h]
  simp [ld2,wfin,tySl,TD.agg,h]
  try (intro _;omega)
 ·rw [List.drop_eq_nil_of_le (by simp;omega)]
  simp [ld2,wfin,tySl,h]
theorem asrc_S (σ:zag) (l:List (List UInt8)):asrc σ 1 (.sl (l.map str) l.length)=some (l.map str,l.length):=by
 simp only [asrc,asl,Nat.mul_one,List.length_map,Nat.le_refl,if_true]
 rw [List.take_of_length_le (by simp)]
theorem wsl_ref_hi (id off len:Nat) (h:Int) (σ:zag) (K:AV→Prop):zbA T 68 (.ref id off len 1) none (some (i64 h)) σ K=(0≤h∧h≤len∧K (.ref id off h.toNat 1)):=by
 simp [zbA,T68,tySl,bnd,i64,T9,tyStr]
theorem grow_ok (n:Nat) (h:n≤1000000):ACalls Tryz.prog 88 [.lit (.slice none 0 0),i64 n] [] (fun y σ=>y=.ret (.ref 0 0 0 1)∧σ=[.rw ([].map str)]):=by
 refine ACalls.body T_ok Tryz.func88 (by kernel_rfl) rfl Tryz.ntmps88 (congrArg Array.toList Tryz.results88) ?_
 try simp -implicitDefEqProofs only [LB8,LB17,LB19,Int.toNat_natCast,eq_self,decide_true,zde,zgG,zab (h:=T68),TB,SB,Int.reduceToNat,Nat.reduceAdd,Nat.reduceEqDiff,Nat.reduceLT,Nat.reduceMod,Nat.reducePow,Nat.reduceSub,if_true,reduceIte]
 refine⟨fun hn=>absurd hn (by omega),fun _=>?_⟩
 repeat (with_reducible refine zaW ?_)
 refine⟨fun h0=>?_,fun h0=>?_⟩
 ·refine⟨⟨_,rfl⟩,tyStr,rfl,h0,⟨by decide,rfl⟩,by simp only [tyStr];omega,by omega,?_⟩
  rw [show tyStr.size=1 from rfl,wsl_ref_hi]
  refine⟨by omega,by omega,?_⟩
  try simp -implicitDefEqProofs only [LB8,LB17,LB19,Int.toNat_natCast,eq_self,decide_true,zde,zgG,zab (h:=T68),TB,SB,Int.reduceToNat,Nat.reduceAdd,Nat.reduceEqDiff,Nat.reduceLT,Nat.reduceMod,Nat.reducePow,Nat.reduceSub,if_true,reduceIte]
  refine .inl ⟨[0],.ref 0 0 0 1,[.rw []],rfl,rfl,by simp,by simp [AV.ren],?_,?_⟩
  ·simp [zao,Blk.ren,renL]
  ·simp
 ·have hn:n=0:=by omega
  subst hn
  exact zhd 1 ⟨rfl,rfl⟩
def flt (L:List (List (List UInt8))) (k:Nat):List (List UInt8):=(L.take k).flatten
theorem ziw (L:List (List (List UInt8))) (k:Nat) (h:k < L.length):flt L (k+1)=flt L k++L.getD k []:=by
 rw [flt,List.take_succ_eq_append_getElem h,List.flatten_append]
 simp [flt,h]
theorem flt_le (L:List (List (List UInt8))) (B:Nat) (hB:∀ l∈L,l.length≤B):∀ k,k≤L.length→(flt L k).length≤k * B
 | 0,_=>by simp [flt]
 | k+1,h=>by
  have ih:=flt_le L B hB k (by omega)
  have hm:(L.getD k []).length≤B:=by
   rw [show L.getD k [] = L[k]'(by omega) by simp [show k < L.length by omega]]
   exact hB _ (List.getElem_mem _)
  rw [ziw L k (by omega),List.length_append,Nat.succ_mul]
  omega
theorem zey (q:List Nat) (l:List (List UInt8)):(slS l).ren q=some (slS l):=by simp [slS,AV.ren,zaf str zae]
theorem zgK (q:List Nat) (L:List (List (List UInt8))):renL q (L.map slS)=some (L.map slS):=zaf slS zey q L
theorem concat_ok (L:List (List (List UInt8))) (hL:L.length≤100) (hB:∀ l∈L,l.length≤10000):ACalls Tryz.prog 54 [.sl (L.map slS) L.length] [] (fun y _=>y=.ret (slS L.flatten)):=by
 have hle:=flt_le L 10000 hB
 have hmx:∀ k,k≤L.length→(flt L k).length≤1000000:=fun k hk=>by
  have h1:=hle k hk
  have h2:k * 10000≤100 * 10000:=Nat.mul_le_mul_right _ (by omega)
  omega
 refine ACalls.body T_ok Tryz.func54 (by kernel_rfl) rfl Tryz.ntmps54 (congrArg Array.toList Tryz.results54) ?_
 try simp -implicitDefEqProofs only [LB8,LB17,LB19,Int.toNat_natCast,eq_self,decide_true,zde,zgG,zab (h:=T68),TB,SB,Int.reduceToNat,Nat.reduceAdd,Nat.reduceEqDiff,Nat.reduceLT,Nat.reduceMod,Nat.reducePow,Nat.reduceSub,if_true,reduceIte]
 rw [za9]
 refine⟨Nat,fun k=>k≤L.length,fun k=>[.sl (L.map slS) L.length,.bot,.lit (.slice none 0 0),i64 (flt L k).length,.bot,.bot,.bot,.bot,.bot,.sl (L.map slS) L.length,i64 L.length,i64 k,.bot,.bot,.bot,.bot,.bot,.bot,.bot,.bot,.bot,.bot,.bot,.bot,.bot,.bot,.bot,.bot,.bot,.bot,.bot,.bot,.bot,.bot,.bot,.bot],fun _=>[],fun k=>L.length - k,0,Nat.zero_le _,?_,?_⟩
 ·refine zal (q:=[]) rfl rfl (by decide) ?_ ?_
  ·try simp only [FB,AV.ren,Nat.reduceAdd,reduceCtorEq]
   simp [zgK,AV.ren,flt]
  ·try simp only [FB,AV.ren,Nat.reduceAdd,reduceCtorEq]
 ·intro k hk
  try simp -implicitDefEqProofs only [LB8,LB17,LB19,Int.toNat_natCast,eq_self,decide_true,zde,zgG,zab (h:=T68),TB,SB,Int.reduceToNat,Nat.reduceAdd,Nat.reduceEqDiff,Nat.reduceLT,Nat.reduceMod,Nat.reducePow,Nat.reduceSub,if_true,reduceIte]
  refine⟨fun hlt=>?_,fun hge=>?_⟩
  ·have hk':k < L.length:=by omega
   have hs:=hmx (k+1) hk'
   have he:=ziw L k hk'
   rw [he,List.length_append] at hs
   have e5:slS (L.getD k [])=AV.sl ((L.getD k []).map str) (L.getD k []).length:=rfl
   repeat (with_reducible refine zaW ?_)
   simp only [e5]
   try simp -implicitDefEqProofs only [LB8,LB17,LB19,Int.toNat_natCast,eq_self,decide_true,zde,zgG,zab (h:=T68),TB,SB,Int.reduceToNat,Nat.reduceAdd,Nat.reduceEqDiff,Nat.reduceLT,Nat.reduceMod,Nat.reducePow,Nat.reduceSub,if_true,reduceIte]
   repeat (with_reducible refine zaW ?_)
   refine fun _=>?_
   repeat (with_reducible refine zaW ?_)
   rw [zan]
   refine⟨k+1,hk',by (show L.length - (k+1) < L.length - k);omega,zal (q:=[]) rfl rfl (by decide) ?_ ?_⟩
   ·try simp only [FB,AV.ren,Nat.reduceAdd,reduceCtorEq]
    rw [he,List.length_append]
    simp [AV.ren,zgK,zaj]
   ·try simp only [FB,AV.ren,Nat.reduceAdd,reduceCtorEq]
  ·obtain rfl:k=L.length:=by omega
   try simp -implicitDefEqProofs only [LB8,LB17,LB19,Int.toNat_natCast,eq_self,decide_true,zde,zgG,zab (h:=T68),TB,SB,Int.reduceToNat,Nat.reduceAdd,Nat.reduceEqDiff,Nat.reduceLT,Nat.reduceMod,Nat.reducePow,Nat.reduceSub,if_true,reduceIte]
   refine ACalls.frame ([]) (grow_ok (flt L L.length).length (hmx _ (Nat.le_refl _))) rfl (by decide) (by simp [LM5,zao,zas,renL,AV.ren,AEnd.ren,zaf str zae,List.getElem?_cons_zero,List.getElem?_cons_succ]) (by first | rfl | simp [LM5,zao,zas,renL,AV.ren,AEnd.ren,zaf str zae,List.getElem?_cons_zero,List.getElem?_cons_succ]) ?_
   rintro _ _ ⟨rfl,rfl⟩
   refine⟨.ret (.ref 0 0 0 1),[.rw ([].map str)],(by show zas _ _ ([0]) ([0]) 0 _;simp [LM5,zao,zas,renL,AV.ren,AEnd.ren,zaf str zae,List.getElem?_cons_zero,List.getElem?_cons_succ]),(by show AEnd.ren ([0]) _ _;first | rfl | simp [LM5,zao,zas,renL,AV.ren,AEnd.ren,zaf str zae,List.getElem?_cons_zero,List.getElem?_cons_succ]),?_⟩
   try simp -implicitDefEqProofs only [LB8,LB17,LB19,Int.toNat_natCast,eq_self,decide_true,zde,zgG,zab (h:=T68),TB,SB,Int.reduceToNat,Nat.reduceAdd,Nat.reduceEqDiff,Nat.reduceLT,Nat.reduceMod,Nat.reducePow,Nat.reduceSub,if_true,reduceIte]
   rw [za9]
   refine⟨Nat,fun k=>k≤L.length,fun k=>[.sl (L.map slS) L.length,.bot,.lit (.slice none 0 0),.bot,.bot,.bot,.ref 0 0 (flt L k).length 1,.bot,.bot,.bot,.bot,.bot,.bot,.bot,.bot,.bot,.bot,.bot,.bot,.bot,.bot,.bot,.bot,.bot,.bot,.sl (L.map slS) L.length,i64 L.length,i64 k,.bot,.bot,.bot,.bot,.bot,.bot,.bot,.bot],fun k=>[.rw ((flt L k).map str)],fun k=>L.length - k,0,Nat.zero_le _,?_,?_⟩
   ·refine zal (q:=[0]) rfl rfl (by decide) ?_ ?_
    ·try simp only [FB,AV.ren,Nat.reduceAdd,reduceCtorEq]
     simp [zgK,AV.ren,flt]
    ·simp [zao,Blk.ren,renL,flt]
   ·intro k hk
    try simp -implicitDefEqProofs only [LB8,LB17,LB19,Int.toNat_natCast,eq_self,decide_true,zde,zgG,zab (h:=T68),TB,SB,Int.reduceToNat,Nat.reduceAdd,Nat.reduceEqDiff,Nat.reduceLT,Nat.reduceMod,Nat.reducePow,Nat.reduceSub,if_true,reduceIte]
    refine⟨fun hlt=>?_,fun hge=>?_⟩
    ·have hk':k < L.length:=by omega
     have hs:=hmx (k+1) hk'
     have he:=ziw L k hk'
     rw [he,List.length_append] at hs
     have e5:slS (L.getD k [])=AV.sl ((L.getD k []).map str) (L.getD k []).length:=rfl
     repeat (with_reducible refine zaW ?_)
     simp only [e5]
     try simp -implicitDefEqProofs only [LB8,LB17,LB19,Int.toNat_natCast,eq_self,decide_true,zde,zgG,zab (h:=T68),TB,SB,Int.reduceToNat,Nat.reduceAdd,Nat.reduceEqDiff,Nat.reduceLT,Nat.reduceMod,Nat.reducePow,Nat.reduceSub,if_true,reduceIte]
     refine zb7 str zad rfl rfl T68 T68 (zdz _) T9 zcN (l:=flt L k) (ys:=L.getD k []) (m:=(L.getD k []).length) rfl rfl (asrc_S _ _) (by omega) (by simp only [tyStr];omega) ?_
     try simp -implicitDefEqProofs only [LB8,LB17,LB19,Int.toNat_natCast,eq_self,decide_true,zde,zgG,zab (h:=T68),TB,SB,Int.reduceToNat,Nat.reduceAdd,Nat.reduceEqDiff,Nat.reduceLT,Nat.reduceMod,Nat.reducePow,Nat.reduceSub,if_true,reduceIte]
     repeat (with_reducible refine zaW ?_)
     rw [zan]
     refine⟨k+1,hk',by (show L.length - (k+1) < L.length - k);omega,zal (q:=[1]) rfl rfl (by decide) ?_ ?_⟩
     ·try simp only [FB,AV.ren,Nat.reduceAdd,reduceCtorEq]
      rw [he,List.length_append]
      simp [AV.ren,zgK,zaj]
     ·rw [zev str zae,he]
      exact⟨rfl,trivial⟩
    ·obtain rfl:k=L.length:=by omega
     try simp -implicitDefEqProofs only [LB8,LB17,LB19,Int.toNat_natCast,eq_self,decide_true,zde,zgG,zab (h:=T68),TB,SB,Int.reduceToNat,Nat.reduceAdd,Nat.reduceEqDiff,Nat.reduceLT,Nat.reduceMod,Nat.reducePow,Nat.reduceSub,if_true,reduceIte]
     have hf:flt L L.length=L.flatten:=by rw [flt,List.take_length]
     rw [hf]
     refine endQ_sl rfl (by rw [List.length_map];omega) (zaf str zae _ _) ?_
     rw [List.drop_zero,List.take_of_length_le (by rw [List.length_map];omega)]
     rfl
end Go.Proofs.YtdmiflfhaobngaaGreatDoor
end

section
namespace Go.Proofs.YtdmiflfhaobngaaGreatDoor
open Go Go.Eng
theorem zfi {σ:zag} {id n:Nat} {l:List (List UInt8)} (h:σ[id]?=some (.rw (l.map str))) (hn:n=l.length):asrc σ 1 (.ref id 0 n 1)=some (l.map str,n):=by
 subst hn
 simp only [asrc,asl,rd,h,if_true,Option.bind_some,Nat.mul_one,Nat.zero_add,List.length_map,Nat.le_refl,List.drop_zero]
 rw [List.take_of_length_le (by simp)]
theorem zfK {α:Type} (f:α→AV) (hf:∀ a,(f a).one=true) {ts:Array TypeId} {t t1 e:TypeId} {te:TI} {z:AV} {tx:TI} (h0:ts[0]?=some t) (h1:ts[1]?=some t1) (ht:T t=some (tySl e)) (ht1:T t1=some tx) (hx:(∀ k,tx.d≠.int k)∧tx.d≠.other) (he:T e=some te) (ho:one1 te z)
  {ys:List α} {m:Nat} {x:AV} {σ:zag} {KS:AV→zag→Prop} (hs:asrc σ 1 x=some (ys.map f,m)) (g1:m≤9223372036854775807) (g2:m * te.bytes≤140737488355328) (hk:KS (.ref σ.length 0 m 1) (σ++[.rw (ys.map f)])):zbD T ts (.lit (.slice none 0 0)) x σ KS:=by
 rw [append_nil h0 h1 ht ht1 hx he ho hs (zcV f hf ys)]
 exact⟨g1,g2,hk⟩
theorem zi7 {σ:zag} {id n:Nat} {l:List (List UInt8)} (h:σ[id]?=some (.ro (l.map str))) (hn:n=l.length):frzA σ (.ref id 0 n 1) (.sl (l.map str) l.length):=by
 subst hn
 refine .inr ⟨_,h,by simp,?_⟩
 rw [List.drop_zero,List.take_of_length_le (by simp)]
theorem zhm (l:List (List UInt8)) (e:Int) (q:List Nat):(AV.tup [slS l,i64 e]).ren q=some (.tup [slS l,i64 e]):=by simp [slS,AV.ren,renL,zaf str zae,zaj]
theorem zdl {σ:zag} {e:Int} {K:AV→zag→Prop} (h:K (.tup [slS [],i64 e]) []):endQ 0 (.tup [.lit (.slice none 0 0),i64 e]) σ K :=
 zce [] (.tup [.sl [] 0,i64 e]) ⟨_,rfl,_,_,rfl,.inr ⟨rfl,rfl⟩,_,_,rfl,.inl rfl,rfl⟩ ⟨[],_,[],rfl,rfl,by decide,zhm [] e _,trivial,h⟩
theorem setRo_one {σ:zag} {id:Nat} {cs:List AV} (h:σ[id]?=some (.rw cs)):(zch σ [id])[id]?=some (.ro cs):=by
 have hl:=(List.getElem?_eq_some_iff.1 h).1
 simp only [zch,h]
 simp [hl]
theorem end_refE {σ:zag} {id:Nat} {l:List (List UInt8)} {e:Int} {K:AV→zag→Prop} (hi:σ[id]?=some (.rw (l.map str))) (h:K (.tup [slS l,i64 e]) []):endQ 0 (.tup [.ref id 0 l.length 1,i64 e]) σ K :=
 zce [id] (.tup [slS l,i64 e]) ⟨_,rfl,_,_,rfl,zi7 (setRo_one hi) rfl,_,_,rfl,.inl rfl,rfl⟩ ⟨[],_,[],rfl,rfl,by decide,zhm l e _,trivial,h⟩
theorem zfj (s:List UInt8) (l:List (List UInt8)):zbk (s::l)=zdY 3::(escT s++zbk l):=by
 simp [zbk]
end Go.Proofs.YtdmiflfhaobngaaGreatDoor
end

section
namespace Go.Proofs.YtdmiflfhaobngaaGreatDoor
open Go Go.Eng
set_option linter.defProp false in
def LB20:=And.intro @zde (@zgG)
set_option linter.defProp false in
def LM6:=And.intro LB8 (And.intro LB13 (And.intro LB17 (And.intro LB19 (LB20))))
theorem rdT_le:∀ (n:Nat) (s:List UInt8),s.length≤n→∀ x,rdT s=some x→2≤x.2∧x.2≤s.length
 | 0,s,h,x,hx=>by
  have:s=[]:=List.eq_nil_of_length_eq_zero (by omega)
  subst this
  cases hx
 | n+1,s,h,x,hx=>by
  match s,h,hx with
  | [],_,hx=>cases hx
  | [_],_,hx=>cases hx
  | c::b::r,h,hx =>
   simp only [List.length_cons] at h ⊢
   rw [rdT] at hx
   split at hx
   ·split at hx
    ·cases hx;simp
    ·split at hx
     ·cases hr:rdT r with
      | none=>rw [hr] at hx;cases hx
      | some y =>
       rw [hr] at hx
       cases hx
       have:=rdT_le n r (by omega) y hr
       simp only;omega
     ·cases hx
   ·cases hr:rdT (b::r) with
    | none=>rw [hr] at hx;cases hx
    | some y =>
     rw [hr] at hx
     cases hx
     have:=rdT_le n (b::r) (by simp only [List.length_cons];omega) y hr
     simp only [List.length_cons] at this ⊢;omega
def zbx:Nat→List UInt8→Option (List (List UInt8))
 | 0,s=>if s=[] then some [] else none
 | f+1,s=>if s=[] then some [] else match nodR s 0 with
  | some (n,e)=>if n.kind=3 then (zbx f (s.drop e)).map (n.text::·) else none
  | none=>none
def zaN (s:List UInt8):List (List UInt8) × Int:=match zbx s.length s with
 | some l=>(l,0)
 | none=>([],5)
theorem nodR_le {s:List UInt8} {x:Nd × Nat} (h:nodR s 0=some x) (h3:x.1.kind=3):1≤x.2∧x.2≤s.length:=by
 rw [nodR,List.drop_zero] at h
 match s,h with
 | [],h=>cases h
 | c::r,h =>
  simp only at h
  split at h
  ·cases h;simp
  ·split at h
   ·match r,h with
    | [],h=>cases h
    | b::r,h =>
     simp only at h
     split at h
     ·cases h;simp
     ·cases h
   ·split at h
    ·split at h
     ·cases h
     ·cases h;simp only [List.length_cons];omega
    ·split at h
     ·cases hr:rdT r with
      | none=>rw [hr] at h;cases h
      | some y =>
       rw [hr] at h
       cases h
       have:=rdT_le r.length r (Nat.le_refl _) y hr
       simp only [List.length_cons];omega
     ·cases h
theorem zcX (f:Nat):zbx f []=some []:=by cases f <;> simp [zbx]
theorem zfL:∀ (f g:Nat) (s:List UInt8),s.length≤f→s.length≤g→zbx f s=zbx g s
 | 0,g,s,h,_=>by
  have:s=[]:=List.eq_nil_of_length_eq_zero (by omega)
  subst this
  rw [zcX,zcX]
 | f+1,0,s,_,h=>by
  have:s=[]:=List.eq_nil_of_length_eq_zero (by omega)
  subst this
  rw [zcX,zcX]
 | f+1,g+1,s,hf,hg=>by
  simp only [zbx]
  split
  ·rfl
  ·cases hx:nodR s 0 with
   | none=>rfl
   | some x =>
    obtain⟨n,e⟩:=x
    simp only
    split
    ·rename_i h3
     have:=nodR_le hx h3
     rw [zfL f g (s.drop e) (by simp only [List.length_drop];omega) (by simp only [List.length_drop];omega)]
    ·rfl
def accA (l:List (List UInt8)):AV:=match l with
 | []=>nilS
 | _::_=>.ref 0 0 l.length 1
def accS (l:List (List UInt8)):zag:=match l with
 | []=>[]
 | _::_=>[.rw (l.map str)]
theorem zez:accA []=.lit (.slice none 0 0):=rfl
theorem zdD (a:List UInt8) (l:List (List UInt8)):accA (a::l)=.ref 0 0 (a::l).length 1:=rfl
theorem zeA:accS []=[]:=rfl
theorem zdE (a:List UInt8) (l:List (List UInt8)):accS (a::l)=[.rw ((a::l).map str)]:=rfl
theorem split_ok (s:List UInt8) (hs:s.length≤1000000000):ACalls Tryz.prog 50 [str s] [] (fun y _=>y=.ret (.tup [slS (zaN s).1,i64 (zaN s).2])):=by
 refine ACalls.body T_ok Tryz.func50 (by kernel_rfl) rfl Tryz.ntmps50 (congrArg Array.toList Tryz.results50) ?_
 try simp -implicitDefEqProofs only [LM6,eq_self,zab (h:=T68),TB,SB,Int.reduceToNat,Nat.reduceAdd,Nat.reduceEqDiff,Nat.reduceLT,Nat.reduceMod,Nat.reducePow,Nat.reduceSub,if_true,reduceIte]
 rw [za9]
 refine⟨List (List UInt8) × List UInt8,fun x=>x.1.length+x.2.length≤s.length∧zbx s.length s=(zbx x.2.length x.2).map (x.1++·),fun x=>[str x.2,.bot,.bot,.bot,accA x.1,.bot,.bot,.bot,.bot,.bot,.bot,.bot,.bot,.bot,.bot,.bot,.bot,.bot,.bot,.bot,.bot,.bot,.bot,.bot,.bot,.bot,.bot,.bot,.bot,.bot,.bot,.bot],fun x=>accS x.1,fun x=>x.2.length,([],s),⟨by simp,by cases zbx s.length s <;> simp⟩,?_,?_⟩
 ·refine zal (q:=[]) rfl rfl (by decide) ?_ ?_
  ·try simp only [FB,AV.ren,Nat.reduceAdd,reduceCtorEq]
   simp [accA,nilS,AV.ren]
  ·try simp only [FB,AV.ren,Nat.reduceAdd,reduceCtorEq]
   simp [accS,zao]
 ·rintro⟨acc,r⟩ ⟨hlen,heq⟩
  dsimp only at hlen heq ⊢
  try simp -implicitDefEqProofs only [LM6,eq_self,zab (h:=T68),TB,SB,Int.reduceToNat,Nat.reduceAdd,Nat.reduceEqDiff,Nat.reduceLT,Nat.reduceMod,Nat.reducePow,Nat.reduceSub,if_true,reduceIte]
  refine⟨fun hne=>?_,fun he=>?_⟩
  ·have hk:r≠[]:=hne
   have hrl:r.length≠0:=fun h=>hk (List.eq_nil_of_length_eq_zero h)
   obtain⟨rn,hrn⟩:∃ rn,r.length=rn+1:=⟨r.length - 1,by omega⟩
   have hone:=one_ok r (by omega)
   cases hx:nodR r 0 with
   | none =>
    have e1:oneR r=(n0d,0,false):=by rw [oneR,hx]
    have e2:zaN s=([],5):=by rw [zaN,heq,hrn,zbx,if_neg hk,hx];rfl
    rw [e1] at hone
    cases acc
    all_goals simp only [zez,zdD,zeA,zdE]
    ·skip
     refine(hone).pure (by first | rfl | simp [renL,AV.ren,zaw,zaf str zae,zaL,zaB,zaA,zaj,zax,zae]) ?_
     rintro _ σ rfl
     refine⟨by first | rfl | simp [AEnd.noid,AV.ren,renL,zaw,zaf str zae,zaL,zaB,zaA,zaj,zax,zae],?_⟩
     try simp -implicitDefEqProofs only [LM6,eq_self,zab (h:=T68),TB,SB,Int.reduceToNat,Nat.reduceAdd,Nat.reduceEqDiff,Nat.reduceLT,Nat.reduceMod,Nat.reducePow,Nat.reduceSub,if_true,reduceIte]
     exact zdl (by rw [e2])
    ·skip
     refine(hone).pure (by first | rfl | simp [renL,AV.ren,zaw,zaf str zae,zaL,zaB,zaA,zaj,zax,zae]) ?_
     rintro _ σ rfl
     refine⟨by first | rfl | simp [AEnd.noid,AV.ren,renL,zaw,zaf str zae,zaL,zaB,zaA,zaj,zax,zae],?_⟩
     try simp -implicitDefEqProofs only [LM6,eq_self,zab (h:=T68),TB,SB,Int.reduceToNat,Nat.reduceAdd,Nat.reduceEqDiff,Nat.reduceLT,Nat.reduceMod,Nat.reducePow,Nat.reduceSub,if_true,reduceIte]
     exact zdl (by rw [e2])
   | some x =>
    obtain⟨n,e⟩:=x
    have e1:oneR r=(n,e,true):=by rw [oneR,hx]
    rw [e1] at hone
    by_cases h3:n.kind=3
    ·have hle:=nodR_le hx h3
     dsimp only at hle
     have e3:zbx r.length r=(zbx (r.drop e).length (r.drop e)).map (n.text::·):=by
      rw [hrn,zbx,if_neg hk,hx]
      simp only [h3,if_true]
      rw [zfL rn (r.drop e).length (r.drop e) (by simp only [List.length_drop];omega) (Nat.le_refl _)]
     cases acc with
     | nil =>
      simp only [zez,zeA]
      refine(hone).pure (by first | rfl | simp [renL,AV.ren,zaw,zaf str zae,zaL,zaB,zaA,zaj,zax,zae]) ?_
      rintro _ σ rfl
      refine⟨by first | rfl | simp [AEnd.noid,AV.ren,renL,zaw,zaf str zae,zaL,zaB,zaA,zaj,zax,zae],?_⟩
      try simp -implicitDefEqProofs only [LM6,eq_self,zab (h:=T68),TB,SB,Int.reduceToNat,Nat.reduceAdd,Nat.reduceEqDiff,Nat.reduceLT,Nat.reduceMod,Nat.reducePow,Nat.reduceSub,if_true,reduceIte]
      refine⟨fun h=>absurd h3 h,fun _=>?_⟩
      refine W_drawP [1,2,0,5,6,7,3,4,8,9] [6,0] (by kernel_rfl) (by kernel_rfl) (by kernel_rfl) (by kernel_rfl) ?_
      simp only [zd8,zhD,List.map_cons,List.map_nil,List.getElem?_cons_zero,List.getElem?_cons_succ,Option.getD_some]
      try simp -implicitDefEqProofs only [LM6,eq_self,zab (h:=T68),TB,SB,Int.reduceToNat,Nat.reduceAdd,Nat.reduceEqDiff,Nat.reduceLT,Nat.reduceMod,Nat.reducePow,Nat.reduceSub,if_true,reduceIte]
      refine⟨by omega,by omega,?_⟩
      refine zfK str zad rfl rfl T68 T68 (zdz _) T9 zcN (ys:=[n.text]) (m:=1) (zfi (l:=[n.text]) rfl rfl) (by omega) (by simp only [tyStr];omega) ?_
      try simp -implicitDefEqProofs only [LM6,eq_self,zab (h:=T68),TB,SB,Int.reduceToNat,Nat.reduceAdd,Nat.reduceEqDiff,Nat.reduceLT,Nat.reduceMod,Nat.reducePow,Nat.reduceSub,if_true,reduceIte]
      rw [zan]
      refine⟨([n.text],r.drop e),⟨by simp only [List.length_cons,List.length_nil,List.length_drop] at hlen ⊢;omega,by rw [heq,e3];cases zbx (r.drop e).length (r.drop e) <;> rfl⟩,by (show (r.drop e).length < r.length);rw [List.length_drop];omega,zal (q:=[2]) rfl rfl (by decide) ?_ ?_⟩
      ·try simp only [FB,AV.ren,Nat.reduceAdd,reduceCtorEq]
       simp [accA,AV.ren]
      ·try simp only [FB,AV.ren,Nat.reduceAdd,reduceCtorEq]
       simp [accS,zao,Blk.ren,renL,zae]
     | cons a acc =>
      simp only [zdD,zdE]
      refine(hone).pure (by first | rfl | simp [renL,AV.ren,zaw,zaf str zae,zaL,zaB,zaA,zaj,zax,zae]) ?_
      rintro _ σ rfl
      refine⟨by first | rfl | simp [AEnd.noid,AV.ren,renL,zaw,zaf str zae,zaL,zaB,zaA,zaj,zax,zae],?_⟩
      try simp -implicitDefEqProofs only [LM6,eq_self,zab (h:=T68),TB,SB,Int.reduceToNat,Nat.reduceAdd,Nat.reduceEqDiff,Nat.reduceLT,Nat.reduceMod,Nat.reducePow,Nat.reduceSub,if_true,reduceIte]
      refine⟨fun h=>absurd h3 h,fun _=>?_⟩
      refine W_drawP [1,2,0,5,6,7,3,4,8,9] [6,0] (by kernel_rfl) (by kernel_rfl) (by kernel_rfl) (by kernel_rfl) ?_
      simp only [zd8,zhD,List.map_cons,List.map_nil,List.getElem?_cons_zero,List.getElem?_cons_succ,Option.getD_some]
      try simp -implicitDefEqProofs only [LM6,eq_self,zab (h:=T68),TB,SB,Int.reduceToNat,Nat.reduceAdd,Nat.reduceEqDiff,Nat.reduceLT,Nat.reduceMod,Nat.reducePow,Nat.reduceSub,if_true,reduceIte]
      refine⟨by omega,by omega,?_⟩
      refine zb7 str zad rfl rfl T68 T68 (zdz _) T9 zcN (l:=a::acc) (ys:=[n.text]) (m:=1) rfl rfl (zfi (l:=[n.text]) rfl rfl) (by simp only [List.length_cons] at hlen ⊢;omega) (by simp only [tyStr];simp only [List.length_cons] at hlen ⊢;omega) ?_
      try simp -implicitDefEqProofs only [LM6,eq_self,zab (h:=T68),TB,SB,Int.reduceToNat,Nat.reduceAdd,Nat.reduceEqDiff,Nat.reduceLT,Nat.reduceMod,Nat.reducePow,Nat.reduceSub,if_true,reduceIte]
      rw [zan]
      refine⟨(a::acc++[n.text],r.drop e),⟨by simp only [List.length_cons,List.length_append,List.length_nil,List.length_drop] at hlen ⊢;omega,by rw [heq,e3];cases zbx (r.drop e).length (r.drop e) <;> simp⟩,by (show (r.drop e).length < r.length);rw [List.length_drop];omega,zal (q:=[3]) rfl rfl (by decide) ?_ ?_⟩
      ·try simp only [FB,AV.ren,Nat.reduceAdd,reduceCtorEq]
       simp [accA,AV.ren]
      ·try simp only [FB,AV.ren,Nat.reduceAdd,reduceCtorEq]
       refine⟨.inr ⟨.rw ((a::acc++[n.text]).map str),?_,rfl⟩,trivial⟩
       show (Blk.rw ((a::acc++[n.text]).map str)).ren [3]=_
       rw [zbm,zaf str zae]
       rfl
    ·have e2:zaN s=([],5):=by rw [zaN,heq,hrn,zbx,if_neg hk,hx];simp only [if_neg h3];rfl
     cases acc
     all_goals simp only [zez,zdD,zeA,zdE]
     ·skip
      refine(hone).pure (by first | rfl | simp [renL,AV.ren,zaw,zaf str zae,zaL,zaB,zaA,zaj,zax,zae]) ?_
      rintro _ σ rfl
      refine⟨by first | rfl | simp [AEnd.noid,AV.ren,renL,zaw,zaf str zae,zaL,zaB,zaA,zaj,zax,zae],?_⟩
      try simp -implicitDefEqProofs only [LM6,eq_self,zab (h:=T68),TB,SB,Int.reduceToNat,Nat.reduceAdd,Nat.reduceEqDiff,Nat.reduceLT,Nat.reduceMod,Nat.reducePow,Nat.reduceSub,if_true,reduceIte]
      exact⟨fun _=>zdl (by rw [e2]),fun h=>absurd h h3⟩
     ·skip
      refine(hone).pure (by first | rfl | simp [renL,AV.ren,zaw,zaf str zae,zaL,zaB,zaA,zaj,zax,zae]) ?_
      rintro _ σ rfl
      refine⟨by first | rfl | simp [AEnd.noid,AV.ren,renL,zaw,zaf str zae,zaL,zaB,zaA,zaj,zax,zae],?_⟩
      try simp -implicitDefEqProofs only [LM6,eq_self,zab (h:=T68),TB,SB,Int.reduceToNat,Nat.reduceAdd,Nat.reduceEqDiff,Nat.reduceLT,Nat.reduceMod,Nat.reducePow,Nat.reduceSub,if_true,reduceIte]
      exact⟨fun _=>zdl (by rw [e2]),fun h=>absurd h h3⟩
  ·have hk:r=[]:=by simpa using he
   subst hk
   have e2:zaN s=(acc,0):=by rw [zaN,heq,zcX];simp
   cases acc with
   | nil =>
    simp only [zez,zeA]
    try simp -implicitDefEqProofs only [LM6,eq_self,zab (h:=T68),TB,SB,Int.reduceToNat,Nat.reduceAdd,Nat.reduceEqDiff,Nat.reduceLT,Nat.reduceMod,Nat.reducePow,Nat.reduceSub,if_true,reduceIte]
    exact zdl (by rw [e2])
   | cons a acc =>
    simp only [zdD,zdE]
    try simp -implicitDefEqProofs only [LM6,eq_self,zab (h:=T68),TB,SB,Int.reduceToNat,Nat.reduceAdd,Nat.reduceEqDiff,Nat.reduceLT,Nat.reduceMod,Nat.reducePow,Nat.reduceSub,if_true,reduceIte]
    exact end_refE (l:=a::acc) rfl (by rw [e2])
theorem rdT_esc:∀ (s r:List UInt8),rdT (escT s++r)=some (s,(escT s).length)
 | [],r=>rfl
 | c::s,r=>by
  have ih:=rdT_esc s r
  unfold escT at ih ⊢
  by_cases hc:c=0
  ·subst hc
   rw [esc_0]
   simp only [List.cons_append]
   rw [zi5,ih]
   simp
  ·rw [esc_1 hc]
   simp only [List.cons_append]
   rw [rdT_1 hc,ih]
   simp
theorem nodR_text (s r:List UInt8):nodR (zdY 3::(escT s++r)) 0=some (⟨3,0,s,0⟩,1+(escT s).length):=by
 have h4:(zdY 3).toNat=4:=by decide
 rw [nodR,List.drop_zero]
 simp only [h4,rdT_esc]
 simp
theorem zhn:∀ (l:List (List UInt8)) (f:Nat),(zbk l).length≤f→zbx f (zbk l)=some l
 | [],f,_=>by rw [show zbk []=[] from rfl,zcX]
 | s::l,0,h=>by rw [zfj] at h;simp at h
 | s::l,f+1,h=>by
  rw [zfj] at h ⊢
  have hd:(zdY 3::(escT s++zbk l)).drop (1+(escT s).length)=zbk l:=by
   rw [Nat.add_comm,List.drop_succ_cons,List.drop_left]
  rw [zbx,if_neg (by simp),nodR_text]
  simp only [if_true]
  rw [hd,zhn l f (by simp only [List.length_cons,List.length_append] at h;omega)]
  rfl
theorem zeB (l:List (List UInt8)):zaN (zbk l)=(l,0):=by rw [zaN,zhn l _ (Nat.le_refl _)]
end Go.Proofs.YtdmiflfhaobngaaGreatDoor
end

section
namespace Go.Proofs.YtdmiflfhaobngaaGreatDoor
open Go Go.Eng
structure Vo where
 kind:Int
 label:List UInt8
 box:List UInt8
 deriving DecidableEq
structure Tk where
 key:List UInt8
 n:Int
 deriving DecidableEq
def v0:Vo:=⟨0,[],[]⟩
def k0:Tk:=⟨[],0⟩
def voC (o:Vo):List AV:=[i64 o.kind,str o.label,str o.box]
def tkC (t:Tk):List AV:=[str t.key,i64 t.n]
def slV (l:List Vo):AV:=.sl (l.flatMap voC) l.length
def slK (l:List Tk):AV:=.sl (l.flatMap tkC) l.length
def slW (l:List (List UInt8)):AV:=.sl (l.map str) l.length
theorem voF:RowF voC 3:=⟨fun _=>rfl,fun _=>rfl,fun q a=>by simp [voC,renL,zaj,zae]⟩
theorem tkF:RowF tkC 2:=⟨fun _=>rfl,fun _=>rfl,fun q a=>by simp [tkC,renL,zaj,zae]⟩
theorem zeI (o:Vo):voC o=[i64 o.kind,str o.label,str o.box]:=rfl
theorem zgC (l:List Vo):slV l=.sl (l.flatMap voC) l.length:=rfl
theorem zci (q:List Nat) (l:List Vo):renL q (l.flatMap voC)=some (l.flatMap voC):=voF.fren q l
theorem renL_K (q:List Nat) (l:List Tk):renL q (l.flatMap tkC)=some (l.flatMap tkC):=tkF.fren q l
theorem zd0 (q:List Nat) (l:List Vo):(slV l).ren q=some (slV l):=voF.fsl q l _
theorem ren_slK (q:List Nat) (l:List Tk):(slK l).ren q=some (slK l):=tkF.fsl q l _
theorem ren_slW (q:List Nat) (l:List (List UInt8)):(slW l).ren q=some (slW l):=by simp [slW,AV.ren,zaf str zae]
section
variable {σ : zag} {K : AV → Prop} {KS : AV → zag → Prop} {t : TypeId} {id : Nat}
theorem ia_V (l:List Vo) (m:Nat) (k:Int):ia3 (some tyVo) (.sl (l.flatMap voC) m) k K=(0≤k∧k < m∧m≤l.length∧K (.rp ((l.drop k.toNat).flatMap voC))):=voF.ia rfl (by decide) l m k
theorem ld_V (l:List Vo) (k:Nat):ld2 (some tyVo) (some ((l.drop k).flatMap voC)) 0 K=(k < l.length∧K (.agg (voC (l.getD k v0)))):=voF.ld rfl (by decide) rfl v0 l k
theorem ldf_V1 (l:List Vo) (k:Nat):ld2 (some tyStr) (some (((l.drop k).flatMap voC).drop 1)) 0 K=(k < l.length∧K (str (l.getD k v0).label)):=voF.ldf rfl rfl 1 (by decide) v0 l k
theorem ldf_V2 (l:List Vo) (k:Nat):ld2 (some tyStr) (some (((l.drop k).flatMap voC).drop 2)) 0 K=(k < l.length∧K (str (l.getD k v0).box)):=voF.ldf rfl rfl 2 (by decide) v0 l k
theorem fp_V0 (o:Nat):zap T 66 (.ptr id o) 0 K=K (.ptr id (o+0)):=fzP T66 rfl rfl T3 (by decide) id o
theorem fp_V1 (o:Nat):zap T 66 (.ptr id o) 1 K=K (.ptr id (o+1)):=fzP T66 rfl rfl T9 (by decide) id o
theorem fp_V2 (o:Nat):zap T 66 (.ptr id o) 2 K=K (.ptr id (o+2)):=fzP T66 rfl rfl T9 (by decide) id o
theorem fr_V1 (cs:List AV):zap T 66 (.rp cs) 1 K=K (.rp (cs.drop 1)):=fzR T66 rfl rfl T9 (by decide) cs
theorem fr_V2 (cs:List AV):zap T 66 (.rp cs) 2 K=K (.rp (cs.drop 2)):=fzR T66 rfl rfl T9 (by decide) cs
theorem lz_i (a:AV) (r:List AV):ld2 (some zbB) (some (a::r)) 0 K=K a:=lz0 rfl rfl a r
theorem lz_s (a:AV) (r:List AV):ld2 (some tyStr) (some (a::r)) 0 K=K a:=lz0 rfl rfl a r
theorem lz_l (e:TypeId) (a:AV) (r:List AV):ld2 (some (tySl e)) (some (a::r)) 0 K=K a:=lz0 rfl rfl a r
theorem lw_V (a b c:AV):ld2 (some tyVo) (some [a,b,c]) 0 K=K (.agg [a,b,c]):=lzW rfl rfl
theorem sz_r (e:TypeId) (a:AV) (r:List AV) (off i j n s:Nat):st2 (some (tySl e)) (some (.rw (a::r))) id off (.ref i j n s) σ KS=(off < (a::r).length∧KS (.lit undef) (σ.set id (.rw ((a::r).set off (.ref i j n s))))):=sz1 rfl a r id off _ rfl
theorem sz_n (e:TypeId) (a:AV) (r:List AV) (off:Nat):st2 (some (tySl e)) (some (.rw (a::r))) id off (.lit (.slice none 0 0)) σ KS=(off < (a::r).length∧KS (.lit undef) (σ.set id (.rw ((a::r).set off (.lit (.slice none 0 0)))))):=sz1 rfl a r id off _ rfl
theorem sw_V (p q r:AV) (a:Int) (b c:List UInt8):st2 (some tyVo) (some (.rw [p,q,r])) id 0 (.agg [i64 a,str b,str c]) σ KS=KS (.lit undef) (σ.set id (.rw [i64 a,str b,str c])):=szW rfl rfl rfl id
theorem bx_V (e:TypeId) (a:Int) (b c:List UInt8):wbox e (.agg [i64 a,str b,str c]) σ KS=KS (.ptr σ.length 0) (σ++[.rw [i64 a,str b,str c]]):=bxW rfl rfl e
theorem al_V (e:TypeId):al1 T e (some tyVo) σ KS=KS (.ptr σ.length 0) (σ++[.rw [i64 0,str [],str []]]):=rfl
theorem bd_V (k:Int) (l b:List UInt8):zaQ T 66 [(0,i64 k),(1,str l),(2,str b)] K=K (.agg [i64 k,str l,str b]):=by
 simp [zaQ,T66,T3,T9,tyVo,zbs,zaK,zb8,zb1,zbT,zad,zbc,zbB,tyStr]
end
structure It where
 label:List UInt8
 box:List UInt8
 deriving DecidableEq
structure Sv where
 blobs:List It
 cells:List It
 head:List UInt8
 n:Int
 deriving DecidableEq
def i0:It:=⟨[],[]⟩
def itC (x:It):List AV:=[str x.label,str x.box]
def slT (l:List It):AV:=.sl (l.flatMap itC) l.length
def svC (s:Sv):List AV:=[slT s.blobs,slT s.cells,str s.head,i64 s.n]
def svA (s:Sv):AV:=.agg (svC s)
def s0:Sv:=⟨[],[],[],0⟩
theorem itF:RowF itC 2:=⟨fun _=>rfl,fun _=>rfl,fun q a=>by simp [itC,renL,zae]⟩
theorem zbn (x:It):itC x=[str x.label,str x.box]:=rfl
theorem zbl (l:List It):slT l=.sl (l.flatMap itC) l.length:=rfl
theorem zbZ (s:Sv):svA s=.agg [slT s.blobs,slT s.cells,str s.head,i64 s.n]:=rfl
theorem zaH (q:List Nat) (l:List It):renL q (l.flatMap itC)=some (l.flatMap itC):=itF.fren q l
theorem zix (q:List Nat) (l:List It):(slT l).ren q=some (slT l):=itF.fsl q l _
theorem zcn (q:List Nat) (s:Sv):(svA s).ren q=some (svA s):=by simp [svA,svC,AV.ren,renL,zaj,zae,zix]
section
variable {σ : zag} {K : AV → Prop} {KS : AV → zag → Prop} {t : TypeId} {id : Nat}
theorem ia_T (l:List It) (m:Nat) (k:Int):ia3 (some tyIt) (.sl (l.flatMap itC) m) k K=(0≤k∧k < m∧m≤l.length∧K (.rp ((l.drop k.toNat).flatMap itC))):=itF.ia rfl (by decide) l m k
theorem ld_T (l:List It) (k:Nat):ld2 (some tyIt) (some ((l.drop k).flatMap itC)) 0 K=(k < l.length∧K (.agg (itC (l.getD k i0)))):=itF.ld rfl (by decide) rfl i0 l k
theorem ldf_T0 (l:List It) (k:Nat):ld2 (some tyStr) (some ((l.drop k).flatMap itC)) 0 K=(k < l.length∧K (str (l.getD k i0).label)):=itF.ldf0 rfl rfl (by decide) i0 l k
theorem ldf_T1 (l:List It) (k:Nat):ld2 (some tyStr) (some (((l.drop k).flatMap itC).drop 1)) 0 K=(k < l.length∧K (str (l.getD k i0).box)):=itF.ldf rfl rfl 1 (by decide) i0 l k
theorem fp_T0 (o:Nat):zap T 74 (.ptr id o) 0 K=K (.ptr id (o+0)):=fzP T74 rfl rfl T9 (by decide) id o
theorem fp_T1 (o:Nat):zap T 74 (.ptr id o) 1 K=K (.ptr id (o+1)):=fzP T74 rfl rfl T9 (by decide) id o
theorem fr_T0 (cs:List AV):zap T 74 (.rp cs) 0 K=K (.rp (cs.drop 0)):=fzR T74 rfl rfl T9 (by decide) cs
theorem fr_T1 (cs:List AV):zap T 74 (.rp cs) 1 K=K (.rp (cs.drop 1)):=fzR T74 rfl rfl T9 (by decide) cs
theorem fp_S0 (o:Nat):zap T 24 (.ptr id o) 0 K=K (.ptr id (o+0)):=fzP T24 rfl rfl T22 (by decide) id o
theorem fp_S1 (o:Nat):zap T 24 (.ptr id o) 1 K=K (.ptr id (o+1)):=fzP T24 rfl rfl T22 (by decide) id o
theorem fp_S2 (o:Nat):zap T 24 (.ptr id o) 2 K=K (.ptr id (o+2)):=fzP T24 rfl rfl T9 (by decide) id o
theorem fp_S3 (o:Nat):zap T 24 (.ptr id o) 3 K=K (.ptr id (o+3)):=fzP T24 rfl rfl T3 (by decide) id o
theorem lw_T (a b:AV):ld2 (some tyIt) (some [a,b]) 0 K=K (.agg [a,b]):=lzW rfl rfl
theorem lw_S (a b c d:AV):ld2 (some tySv) (some [a,b,c,d]) 0 K=K (.agg [a,b,c,d]):=lzW rfl rfl
theorem sw_T (p q:AV) (a b:List UInt8):st2 (some tyIt) (some (.rw [p,q])) id 0 (.agg [str a,str b]) σ KS=KS (.lit undef) (σ.set id (.rw [str a,str b])):=szW rfl rfl rfl id
theorem sw_S1 (p q r s:AV) (x y:List AV) (n m:Nat) (b:List UInt8) (a:Int):st2 (some tySv) (some (.rw [p,q,r,s])) id 0 (.agg [.sl x n,.sl y m,str b,i64 a]) σ KS=KS (.lit undef) (σ.set id (.rw [.sl x n,.sl y m,str b,i64 a])):=szW rfl rfl rfl id
theorem sw_S2 (p q r s:AV) (b:List UInt8) (a:Int):st2 (some tySv) (some (.rw [p,q,r,s])) id 0 (.agg [.lit (.slice none 0 0),.lit (.slice none 0 0),str b,i64 a]) σ KS=KS (.lit undef) (σ.set id (.rw [.lit (.slice none 0 0),.lit (.slice none 0 0),str b,i64 a])):=szW rfl rfl rfl id
theorem sw_S3 (p q r s:AV) (i o n z j u v w:Nat) (b:List UInt8) (a:Int):st2 (some tySv) (some (.rw [p,q,r,s])) id 0 (.agg [.ref i o n z,.ref j u v w,str b,i64 a]) σ KS=KS (.lit undef) (σ.set id (.rw [.ref i o n z,.ref j u v w,str b,i64 a])):=szW rfl rfl rfl id
theorem bx_T (e:TypeId) (a b:List UInt8):wbox e (.agg [str a,str b]) σ KS=KS (.ptr σ.length 0) (σ++[.rw [str a,str b]]):=bxW rfl rfl e
theorem bx_S (e:TypeId) (x y:List AV) (n m:Nat) (b:List UInt8) (a:Int):wbox e (.agg [.sl x n,.sl y m,str b,i64 a]) σ KS=KS (.ptr σ.length 0) (σ++[.rw [.sl x n,.sl y m,str b,i64 a]]):=bxW rfl rfl e
theorem al_T (e:TypeId):al1 T e (some tyIt) σ KS=KS (.ptr σ.length 0) (σ++[.rw [str [],str []]]):=rfl
theorem al_S (e:TypeId):al1 T e (some tySv) σ KS=KS (.ptr σ.length 0) (σ++[.rw [.lit (.slice none 0 0),.lit (.slice none 0 0),str [],i64 0]]):=rfl
theorem bd_T (a b:List UInt8):zaQ T 74 [(0,str a),(1,str b)] K=K (.agg [str a,str b]):=by
 simp [zaQ,T74,T9,tyIt,zbs,zaK,zbT,zad,zbc,tyStr]
theorem bd_Sn:zaQ T 24 [] K=K (.agg [.lit (.slice none 0 0),.lit (.slice none 0 0),str [],i64 0]):=by
 simp [zaQ,T24,T3,T9,T22,tySv,zbs,zaK]
 rfl
theorem bd_Sh (b:List UInt8):zaQ T 24 [(2,str b)] K=K (.agg [.lit (.slice none 0 0),.lit (.slice none 0 0),str b,i64 0]):=by
 simp [zaQ,T24,T3,T9,T22,tySv,zbs,zaK,zbT,zad,zbc,tyStr,tySl]
 rfl
theorem bd_S (x y b a:AV) (hx:x.cells=[x]) (hy:y.cells=[y]) (hb:b.cells=[b]) (ha:a.cells=[a]) (ox:x.one=true) (oy:y.one=true) (ob:b.one=true) (oa:a.one=true):zaQ T 24 [(0,x),(1,y),(2,b),(3,a)] K=K (.agg [x,y,b,a]):=by
 simp [zaQ,T24,T3,T9,T22,tySv,zbs,zaK,hx,hy,hb,ha,ox,oy,ob,oa,zbc,zbB,tyStr,tySl]
end
end Go.Proofs.YtdmiflfhaobngaaGreatDoor
end

section
namespace Go.Proofs.YtdmiflfhaobngaaGreatDoor
open Go Go.Eng
set_option linter.defProp false in
def LB21:=And.intro @ia_V (And.intro @ld_V (And.intro @zeI (And.intro @fp_V0 (And.intro @fp_V1 (And.intro @fp_V2 (And.intro @fr_V1 (And.intro @fr_V2 (And.intro @lz_i (And.intro @lz_s (And.intro @lz_l (And.intro @lzS (And.intro @lw_V (And.intro @sz_r (And.intro @sz_n (And.intro @sw_V (And.intro @bx_V (And.intro @al_V (And.intro @bd_V (And.intro @ia_T (And.intro @ld_T (And.intro @ldf_T0 (And.intro @ldf_T1 (And.intro @zbn (And.intro @fp_T0 (And.intro @fp_T1 (And.intro @fr_T0 (And.intro @fr_T1 (And.intro @fp_S0 (And.intro @fp_S1 (And.intro @fp_S2 (And.intro @fp_S3 (And.intro @lw_T (And.intro @lw_S (And.intro @sw_T (And.intro @sw_S1 (And.intro @sw_S2 (And.intro @sw_S3 (And.intro @bx_T (And.intro @bx_S (And.intro @al_T (And.intro @al_S (And.intro @bd_T (And.intro @bd_Sn (@bd_Sh))))))))))))))))))))))))))))))))))))))))))))
def ze1 (s:List UInt8):Bool:=decide (1≤(s.length:Int)) && decide ((s.length:Int)≤64)
theorem vlab_ok (s:List UInt8):ACalls Tryz.prog 94 [str s] [] (fun y _=>y=.ret (bl (ze1 s))):=by
 refine ACalls.body T_ok Tryz.func94 (by kernel_rfl) rfl Tryz.ntmps94 (congrArg Array.toList Tryz.results94) ?_
 try simp -implicitDefEqProofs only [LM6,LB21,eq_self,zab (h:=T68),zad,TB,SB,Int.reduceToNat,Nat.reduceAdd,Nat.reduceEqDiff,Nat.reduceLT,Nat.reduceMod,Nat.reducePow,Nat.reduceSub,if_true,reduceIte]
 by_cases h:1≤(s.length:Int)
 ·rw [decide_eq_true h]
  try simp -implicitDefEqProofs only [LM6,LB21,eq_self,zab (h:=T68),zad,TB,SB,Int.reduceToNat,Nat.reduceAdd,Nat.reduceEqDiff,Nat.reduceLT,Nat.reduceMod,Nat.reducePow,Nat.reduceSub,if_true,reduceIte]
  exact zaI (by simp only [ze1,decide_eq_true h,Bool.true_and])
 ·rw [decide_eq_false h]
  try simp -implicitDefEqProofs only [LM6,LB21,eq_self,zab (h:=T68),zad,TB,SB,Int.reduceToNat,Nat.reduceAdd,Nat.reduceEqDiff,Nat.reduceLT,Nat.reduceMod,Nat.reducePow,Nat.reduceSub,if_true,reduceIte]
  exact zaI (by simp only [ze1,decide_eq_false h,Bool.false_and])
def mayO (o:Vo):Bool:=if o.kind < 0∨4≤o.kind∨ze1 o.label=false then false else if o.kind=1∨o.kind=3 then decide (o.box=[]) else decide ((o.box.length:Int)≤8192)
theorem voM_ok (o:Vo):ACalls Tryz.prog 63 [.agg (voC o)] [] (fun y _=>y=.ret (bl (mayO o))):=by
 rw [zeI]
 refine ACalls.body T_ok Tryz.func63 (by kernel_rfl) rfl Tryz.ntmps63 (congrArg Array.toList Tryz.results63) ?_
 try simp -implicitDefEqProofs only [LM6,LB21,eq_self,zab (h:=T68),zad,TB,SB,Int.reduceToNat,Nat.reduceAdd,Nat.reduceEqDiff,Nat.reduceLT,Nat.reduceMod,Nat.reducePow,Nat.reduceSub,if_true,reduceIte]
 by_cases h1:o.kind < 0
 ·rw [decide_eq_true h1]
  try simp -implicitDefEqProofs only [LM6,LB21,eq_self,zab (h:=T68),zad,TB,SB,Int.reduceToNat,Nat.reduceAdd,Nat.reduceEqDiff,Nat.reduceLT,Nat.reduceMod,Nat.reducePow,Nat.reduceSub,if_true,reduceIte]
  exact zaI (by rw [mayO,if_pos (.inl h1)])
 rw [decide_eq_false h1]
 try simp -implicitDefEqProofs only [LM6,LB21,eq_self,zab (h:=T68),zad,TB,SB,Int.reduceToNat,Nat.reduceAdd,Nat.reduceEqDiff,Nat.reduceLT,Nat.reduceMod,Nat.reducePow,Nat.reduceSub,if_true,reduceIte]
 by_cases h2:4≤o.kind
 ·rw [decide_eq_true h2]
  try simp -implicitDefEqProofs only [LM6,LB21,eq_self,zab (h:=T68),zad,TB,SB,Int.reduceToNat,Nat.reduceAdd,Nat.reduceEqDiff,Nat.reduceLT,Nat.reduceMod,Nat.reducePow,Nat.reduceSub,if_true,reduceIte]
  exact zaI (by rw [mayO,if_pos (.inr (.inl h2))])
 rw [decide_eq_false h2]
 try simp -implicitDefEqProofs only [LM6,LB21,eq_self,zab (h:=T68),zad,TB,SB,Int.reduceToNat,Nat.reduceAdd,Nat.reduceEqDiff,Nat.reduceLT,Nat.reduceMod,Nat.reducePow,Nat.reduceSub,if_true,reduceIte]
 refine(vlab_ok o.label).pure (by first | rfl | simp [renL,AV.ren,zaw,zaf str zae,zaL,zaB,zaA,zaj,zax,zae]) ?_
 rintro _ σ rfl
 refine⟨by first | rfl | simp [AEnd.noid,AV.ren,renL,zaw,zaf str zae,zaL,zaB,zaA,zaj,zax,zae],?_⟩
 try simp -implicitDefEqProofs only [LM6,LB21,eq_self,zab (h:=T68),zad,TB,SB,Int.reduceToNat,Nat.reduceAdd,Nat.reduceEqDiff,Nat.reduceLT,Nat.reduceMod,Nat.reducePow,Nat.reduceSub,if_true,reduceIte]
 cases h3:ze1 o.label with
 | false =>
  try simp -implicitDefEqProofs only [LM6,LB21,eq_self,zab (h:=T68),zad,TB,SB,Int.reduceToNat,Nat.reduceAdd,Nat.reduceEqDiff,Nat.reduceLT,Nat.reduceMod,Nat.reducePow,Nat.reduceSub,if_true,reduceIte]
  exact zaI (by rw [mayO,if_pos (.inr (.inr h3))])
 | true =>
  try simp -implicitDefEqProofs only [LM6,LB21,eq_self,zab (h:=T68),zad,TB,SB,Int.reduceToNat,Nat.reduceAdd,Nat.reduceEqDiff,Nat.reduceLT,Nat.reduceMod,Nat.reducePow,Nat.reduceSub,if_true,reduceIte]
  by_cases h4:o.kind=1
  ·rw [decide_eq_true h4]
   try simp -implicitDefEqProofs only [LM6,LB21,eq_self,zab (h:=T68),zad,TB,SB,Int.reduceToNat,Nat.reduceAdd,Nat.reduceEqDiff,Nat.reduceLT,Nat.reduceMod,Nat.reducePow,Nat.reduceSub,if_true,reduceIte]
   exact zaI (by rw [mayO,if_neg (by rw [h3];simp;omega),if_pos (.inl h4)])
  rw [decide_eq_false h4]
  try simp -implicitDefEqProofs only [LM6,LB21,eq_self,zab (h:=T68),zad,TB,SB,Int.reduceToNat,Nat.reduceAdd,Nat.reduceEqDiff,Nat.reduceLT,Nat.reduceMod,Nat.reducePow,Nat.reduceSub,if_true,reduceIte]
  refine⟨fun h5=>?_,fun h5=>?_⟩
  ·exact zaI (by rw [mayO,if_neg (by rw [h3];simp;omega),if_pos (.inr h5)])
  ·exact zaI (by rw [mayO,if_neg (by rw [h3];simp;omega),if_neg (by omega)])
theorem isB1_ok (o:Vo):ACalls Tryz.prog 62 [.agg (voC o)] [] (fun y _=>y=.ret (bl (!mayO o))):=by
 have h:=voM_ok o
 rw [zeI] at h ⊢
 refine ACalls.body T_ok Tryz.func62 (by kernel_rfl) rfl Tryz.ntmps62 (congrArg Array.toList Tryz.results62) ?_
 try simp -implicitDefEqProofs only [LM6,LB21,eq_self,zab (h:=T68),zad,TB,SB,Int.reduceToNat,Nat.reduceAdd,Nat.reduceEqDiff,Nat.reduceLT,Nat.reduceMod,Nat.reducePow,Nat.reduceSub,if_true,reduceIte]
 refine h.pure rfl ?_
 rintro _ σ rfl
 refine⟨zax _ _,?_⟩
 try simp -implicitDefEqProofs only [LM6,LB21,eq_self,zab (h:=T68),zad,TB,SB,Int.reduceToNat,Nat.reduceAdd,Nat.reduceEqDiff,Nat.reduceLT,Nat.reduceMod,Nat.reducePow,Nat.reduceSub,if_true,reduceIte]
 exact zaI rfl
theorem voI_ok (l:List Vo) (hl:l.length≤1000000):ACalls Tryz.prog 95 [.sl (l.flatMap voC) l.length,.fn (.func 62) [] []] [] (fun y _=>∃ n:Int,y=.ret (i64 n)∧decide (0≤n)=!l.all mayO):=by
 refine ACalls.body T_ok Tryz.func95 (by kernel_rfl) rfl Tryz.ntmps95 (congrArg Array.toList Tryz.results95) ?_
 try simp -implicitDefEqProofs only [LM6,LB21,eq_self,zab (h:=T68),zad,TB,SB,Int.reduceToNat,Nat.reduceAdd,Nat.reduceEqDiff,Nat.reduceLT,Nat.reduceMod,Nat.reducePow,Nat.reduceSub,if_true,reduceIte]
 rw [za9]
 refine⟨Nat,fun k=>k≤l.length∧∀ j,j < k→mayO (l.getD j v0)=true,fun k=>[.sl (l.flatMap voC) l.length,.fn (.func 62) [] [],.bot,.bot,.bot,.bot,.sl (l.flatMap voC) l.length,i64 l.length,i64 k,.bot,.bot,.bot,.bot,.bot,.bot,.bot,.bot,.bot,.bot],fun _=>[],fun k=>l.length - k,0,⟨Nat.zero_le _,fun j h=>absurd h (by omega)⟩,zal (q:=[]) rfl rfl (by decide) ?_ ?_,?_⟩
 ·skip
  try simp only [FB,AV.ren,Nat.reduceAdd,reduceCtorEq]
  simp [zci,AV.ren,renL]
 ·skip
  try simp only [FB,AV.ren,Nat.reduceAdd,reduceCtorEq]
 ·rintro k ⟨hk,hj⟩
  try simp -implicitDefEqProofs only [LM6,LB21,eq_self,zab (h:=T68),zad,TB,SB,Int.reduceToNat,Nat.reduceAdd,Nat.reduceEqDiff,Nat.reduceLT,Nat.reduceMod,Nat.reducePow,Nat.reduceSub,if_true,reduceIte]
  refine⟨fun hlt=>?_,fun hge=>?_⟩
  ·have hk2:k < l.length:=by omega
   repeat (with_reducible refine zaW ?_)
   have h:=isB1_ok (l.getD k v0)
   rw [zeI] at h
   refine h.pure rfl ?_
   rintro _ σ rfl
   refine⟨zax _ _,?_⟩
   cases hm:mayO (l.getD k v0) with
   | false =>
    try simp -implicitDefEqProofs only [LM6,LB21,eq_self,zab (h:=T68),zad,TB,SB,Int.reduceToNat,Nat.reduceAdd,Nat.reduceEqDiff,Nat.reduceLT,Nat.reduceMod,Nat.reducePow,Nat.reduceSub,if_true,reduceIte]
    refine zc1 ⟨_,rfl,?_⟩
    rw [decide_eq_true (by omega)]
    have:l.all mayO=false:=by
     rw [List.all_eq_false]
     refine⟨l.getD k v0,?_,by rw [hm];decide⟩
     rw [List.getD_eq_getElem?_getD,List.getElem?_eq_getElem hk2]
     exact List.getElem_mem _
    rw [this]
    rfl
   | true =>
    try simp -implicitDefEqProofs only [LM6,LB21,eq_self,zab (h:=T68),zad,TB,SB,Int.reduceToNat,Nat.reduceAdd,Nat.reduceEqDiff,Nat.reduceLT,Nat.reduceMod,Nat.reducePow,Nat.reduceSub,if_true,reduceIte]
    refine⟨by unfold inI;omega,?_⟩
    rw [zan]
    refine⟨k+1,⟨by omega,fun j h=>?_⟩,by (show l.length - (k+1) < l.length - k);omega,zal (q:=[]) rfl rfl (by decide) ?_ ?_⟩
    ·rcases Nat.lt_succ_iff_lt_or_eq.1 h with h | rfl
     ·exact hj j h
     ·exact hm
    ·skip
     try simp only [FB,AV.ren,Nat.reduceAdd,reduceCtorEq]
     simp [zci,AV.ren,renL]
    ·skip
     try simp only [FB,AV.ren,Nat.reduceAdd,reduceCtorEq]
  ·skip
   try simp -implicitDefEqProofs only [LM6,LB21,eq_self,zab (h:=T68),zad,TB,SB,Int.reduceToNat,Nat.reduceAdd,Nat.reduceEqDiff,Nat.reduceLT,Nat.reduceMod,Nat.reducePow,Nat.reduceSub,if_true,reduceIte]
   refine zc1 ⟨_,rfl,?_⟩
   have:l.all mayO=true:=by
    rw [List.all_eq_true]
    intro x hx
    obtain⟨j,hjl,rfl⟩:=List.getElem_of_mem hx
    have:=hj j (by omega)
    rwa [List.getD_eq_getElem?_getD,List.getElem?_eq_getElem hjl] at this
   rw [this]
   rfl
theorem voN_ok (l:List Vo) (hl:l.length≤1000000):ACalls Tryz.prog 64 [.sl (l.flatMap voC) l.length,.fn (.func 62) [] []] [] (fun y _=>y=.ret (bl (!l.all mayO))):=by
 refine ACalls.body T_ok Tryz.func64 (by kernel_rfl) rfl Tryz.ntmps64 (congrArg Array.toList Tryz.results64) ?_
 try simp -implicitDefEqProofs only [LM6,LB21,eq_self,zab (h:=T68),zad,TB,SB,Int.reduceToNat,Nat.reduceAdd,Nat.reduceEqDiff,Nat.reduceLT,Nat.reduceMod,Nat.reducePow,Nat.reduceSub,if_true,reduceIte]
 refine(voI_ok l hl).pure (by simp [renL,zci,AV.ren]) ?_
 rintro _ σ ⟨n,rfl,hn⟩
 refine⟨zaj _ _,?_⟩
 try simp -implicitDefEqProofs only [LM6,LB21,eq_self,zab (h:=T68),zad,TB,SB,Int.reduceToNat,Nat.reduceAdd,Nat.reduceEqDiff,Nat.reduceLT,Nat.reduceMod,Nat.reducePow,Nat.reduceSub,if_true,reduceIte]
 exact zaI (by rw [hn])
def zbf (l:List Vo):Bool:=decide (1≤(l.length:Int)) && (decide ((l.length:Int)≤400) && l.all mayO)
theorem zh5 (l:List Vo):ACalls Tryz.prog 35 [.sl (l.flatMap voC) l.length] [] (fun y _=>y=.ret (bl (zbf l))):=by
 refine ACalls.body T_ok Tryz.func35 (by kernel_rfl) rfl Tryz.ntmps35 (congrArg Array.toList Tryz.results35) ?_
 try simp -implicitDefEqProofs only [LM6,LB21,eq_self,zab (h:=T68),zad,TB,SB,Int.reduceToNat,Nat.reduceAdd,Nat.reduceEqDiff,Nat.reduceLT,Nat.reduceMod,Nat.reducePow,Nat.reduceSub,if_true,reduceIte]
 by_cases h1:1≤(l.length:Int)
 rotate_left
 ·rw [decide_eq_false h1]
  try simp -implicitDefEqProofs only [LM6,LB21,eq_self,zab (h:=T68),zad,TB,SB,Int.reduceToNat,Nat.reduceAdd,Nat.reduceEqDiff,Nat.reduceLT,Nat.reduceMod,Nat.reducePow,Nat.reduceSub,if_true,reduceIte]
  exact zaI (by simp only [zbf,decide_eq_false h1,Bool.false_and])
 rw [decide_eq_true h1]
 try simp -implicitDefEqProofs only [LM6,LB21,eq_self,zab (h:=T68),zad,TB,SB,Int.reduceToNat,Nat.reduceAdd,Nat.reduceEqDiff,Nat.reduceLT,Nat.reduceMod,Nat.reducePow,Nat.reduceSub,if_true,reduceIte]
 by_cases h2:(l.length:Int)≤400
 rotate_left
 ·rw [decide_eq_false h2]
  try simp -implicitDefEqProofs only [LM6,LB21,eq_self,zab (h:=T68),zad,TB,SB,Int.reduceToNat,Nat.reduceAdd,Nat.reduceEqDiff,Nat.reduceLT,Nat.reduceMod,Nat.reducePow,Nat.reduceSub,if_true,reduceIte]
  exact zaI (by simp only [zbf,decide_eq_true h1,decide_eq_false h2,Bool.true_and,Bool.false_and])
 rw [decide_eq_true h2]
 try simp -implicitDefEqProofs only [LM6,LB21,eq_self,zab (h:=T68),zad,TB,SB,Int.reduceToNat,Nat.reduceAdd,Nat.reduceEqDiff,Nat.reduceLT,Nat.reduceMod,Nat.reducePow,Nat.reduceSub,if_true,reduceIte]
 refine(voN_ok l (by omega)).pure (by simp [renL,zci,AV.ren]) ?_
 rintro _ σ rfl
 refine⟨zax _ _,?_⟩
 try simp -implicitDefEqProofs only [LM6,LB21,eq_self,zab (h:=T68),zad,TB,SB,Int.reduceToNat,Nat.reduceAdd,Nat.reduceEqDiff,Nat.reduceLT,Nat.reduceMod,Nat.reducePow,Nat.reduceSub,if_true,reduceIte]
 exact zaI (by simp only [zbf,decide_eq_true h1,decide_eq_true h2,Bool.true_and,Bool.not_not])
end Go.Proofs.YtdmiflfhaobngaaGreatDoor
end

section
namespace Go.Proofs.YtdmiflfhaobngaaGreatDoor
open Go Go.Eng
def opT (o:Vo):List (List UInt8):=[bigL (BitVec.ofInt 64 o.kind) 1,o.label,o.box]
def opsT (l:List Vo):List (List UInt8):=l.flatMap opT
def putV (l:List Vo):List UInt8 × Int:=if zbf l=true then (zbk (opsT l),0) else ([],1)
theorem isLab_le {s:List UInt8} (h:ze1 s=true):1≤s.length∧s.length≤64:=by
 simp only [ze1,Bool.and_eq_true,decide_eq_true_eq] at h
 omega
theorem zho {o:Vo} (h:mayO o=true):0≤o.kind∧o.kind < 4∧1≤o.label.length∧o.label.length≤64∧o.box.length≤8192:=by
 rw [mayO] at h
 split at h
 ·cases h
 ·rename_i h1
  have h2:ze1 o.label=true:=by
   cases h3:ze1 o.label with
   | true=>rfl
   | false=>exact absurd (.inr (.inr h3)) h1
  have:=isLab_le h2
  split at h
  ·have h4:=of_decide_eq_true h
   rw [h4]
   simp
   omega
  ·have:=of_decide_eq_true h
   omega
theorem zfk {l:List Vo} (h:zbf l=true):1≤l.length∧l.length≤400∧∀ o∈l,mayO o=true:=by
 simp only [zbf,Bool.and_eq_true,decide_eq_true_eq,List.all_eq_true] at h
 exact⟨by omega,by omega,h.2.2⟩
theorem ze2 {B:Nat}:∀ (L:List (List UInt8)),(∀ s∈L,s.length≤B)→(zbk L).length≤(2 * B+3) * L.length
 | [],_=>by simp [zbk]
 | a::L,h=>by
  have h3:=ze2 L fun s hs=>h s (List.mem_cons_of_mem _ hs)
  have h4:=h a (List.mem_cons_self ..)
  have h5:=esc_le a
  rw [show zbk (a::L)=(zdY 3::escT a)++zbk L from rfl]
  simp only [List.length_cons,List.length_append,escT,List.length_nil] at h3 h4 h5 ⊢
  rw [Nat.mul_succ]
  omega
theorem zcf (x:BitVec 64) (n:Nat):(bigL x n).length=n:=by simp [bigL,lowL]
theorem zeC (l:List Vo):(opsT l).length=3 * l.length:=by
 induction l with
 | nil=>rfl
 | cons o l ih=>rw [opsT,List.flatMap_cons,List.length_append,← opsT,ih,List.length_cons];simp only [opT,List.length_cons,List.length_nil];omega
theorem opsT_le {l:List Vo} (h:∀ o∈l,mayO o=true):∀ s∈opsT l,s.length≤8192:=by
 intro s hs
 simp only [opsT,List.mem_flatMap,opT,List.mem_cons,List.not_mem_nil,or_false] at hs
 obtain⟨o,ho,rfl | rfl | rfl⟩:=hs
 ·rw [zcf];omega
 ·have:=zho (h o ho);omega
 ·have:=zho (h o ho);omega
theorem putV_len {l:List Vo} (h:zbf l=true):(zbk (opsT l)).length≤20000000:=by
 obtain⟨h1,h2,h3⟩:=zfk h
 have h4:=ze2 (opsT l) (opsT_le h3)
 rw [zeC] at h4
 have:(2 * 8192+3) * (3 * l.length)≤(2 * 8192+3) * (3 * 400):=Nat.mul_le_mul_left _ (by omega)
 omega
theorem qb_s3 {K:AV→Prop} (a b c:List UInt8):qb2 (some tyStr) 3 [(0,str a),(1,str b),(2,str c)] K=K (.sl ([a,b,c].map str) 3):=by
 simp [qb2,tyStr,zbs,zb4,AV.cells,zbc,List.range_succ,List.replicate,str,AV.one,Value.oneCell']
theorem zhp {l:List Vo} {k:Nat} (h:k < l.length):opsT (l.take (k+1))=opsT (l.take k)++opT (l.getD k v0):=by
 rw [opsT,List.take_succ_eq_append_getElem h,List.flatMap_append]
 simp [opsT,h]
theorem clamp1:zcP 1=1:=by decide
theorem vput_ok (l:List Vo):ACalls Tryz.prog 23 [.sl (l.flatMap voC) l.length] [] (fun y _=>y=.ret (.tup [str (putV l).1,i64 (putV l).2])):=by
 refine ACalls.body T_ok Tryz.func23 (by kernel_rfl) rfl Tryz.ntmps23 (congrArg Array.toList Tryz.results23) ?_
 try simp -implicitDefEqProofs only [LM6,LB21,eq_self,zab (h:=T68),zad,TB,SB,Int.reduceToNat,Nat.reduceAdd,Nat.reduceEqDiff,Nat.reduceLT,Nat.reduceMod,Nat.reducePow,Nat.reduceSub,if_true,reduceIte]
 refine(zh5 l).pure (by simp [renL,zci,AV.ren]) ?_
 rintro _ σ rfl
 refine⟨zax _ _,?_⟩
 cases hb:zbf l with
 | false =>
  try simp -implicitDefEqProofs only [LM6,LB21,eq_self,zab (h:=T68),zad,TB,SB,Int.reduceToNat,Nat.reduceAdd,Nat.reduceEqDiff,Nat.reduceLT,Nat.reduceMod,Nat.reducePow,Nat.reduceSub,if_true,reduceIte]
  exact zbd (by simp [AV.ren,renL,zae,zaj]) (by rw [putV,if_neg (by rw [hb];decide)])
 | true =>
  obtain⟨hb1,hb2,hb3⟩:=zfk hb
  have hpl:=putV_len hb
  try simp -implicitDefEqProofs only [LM6,LB21,eq_self,zab (h:=T68),zad,TB,SB,Int.reduceToNat,Nat.reduceAdd,Nat.reduceEqDiff,Nat.reduceLT,Nat.reduceMod,Nat.reducePow,Nat.reduceSub,if_true,reduceIte]
  rw [za9]
  refine⟨Nat,fun k=>k≤l.length,fun k=>[.sl (l.flatMap voC) l.length,.bot,.bot,.bot,.ref 0 0 (opsT (l.take k)).length 1,.bot,.bot,.bot,.bot,.bot,.sl (l.flatMap voC) l.length,i64 l.length,i64 k,.bot,.bot,.bot,.bot,.bot,.bot,.bot,.bot,.bot,.bot,.bot,.bot,.bot,.bot,.bot,.bot,.bot],fun k=>[.rw ((opsT (l.take k)).map str)],fun k=>l.length - k,0,Nat.zero_le _,fits_nil 4 1 rfl (zal (q:=[0]) rfl rfl (by decide) ?_ ?_),?_⟩
  ·skip
   try simp only [FB,AV.ren,Nat.reduceAdd,reduceCtorEq]
   simp [zci,AV.ren,opsT]
  ·simp [zao,Blk.ren,renL,opsT]
  ·intro k hk
   have hol:(opsT (l.take k)).length=3 * k:=by rw [zeC,List.length_take];omega
   try simp -implicitDefEqProofs only [LM6,LB21,eq_self,zab (h:=T68),zad,TB,SB,Int.reduceToNat,Nat.reduceAdd,Nat.reduceEqDiff,Nat.reduceLT,Nat.reduceMod,Nat.reducePow,Nat.reduceSub,if_true,reduceIte]
   refine⟨fun hlt=>?_,fun hge=>?_⟩
   ·have hk2:k < l.length:=by omega
    have e:=zhp hk2
    repeat (with_reducible refine zaW ?_)
    refine zbg [10] (by kernel_rfl) (by kernel_rfl) (by kernel_rfl) ?_
    try simp -implicitDefEqProofs only [LM6,LB21,eq_self,zab (h:=T68),zad,TB,SB,Int.reduceToNat,Nat.reduceAdd,Nat.reduceEqDiff,Nat.reduceLT,Nat.reduceMod,Nat.reducePow,Nat.reduceSub,if_true,reduceIte]
    refine zbt (zi1 (BitVec.ofInt 64 (l.getD k v0).kind) 1) (by first | rfl | simp [renL,AV.ren,zaw,zaf str zae,zaL,zaB,zaA,zaj,zax,zae]) (by first | rfl | simp [AEnd.noid,AV.ren,renL,zaw,zaL,zaB,zaA,zaj,zax,zae]) ?_
    try simp -implicitDefEqProofs only [LM6,LB21,eq_self,zab (h:=T68),zad,TB,SB,Int.reduceToNat,Nat.reduceAdd,Nat.reduceEqDiff,Nat.reduceLT,Nat.reduceMod,Nat.reducePow,Nat.reduceSub,if_true,reduceIte]
    rw [clamp1]
    try simp -implicitDefEqProofs only [LM6,LB21,eq_self,zab (h:=T68),zad,qb_s3,TB,SB,Int.reduceToNat,Nat.reduceAdd,Nat.reduceEqDiff,Nat.reduceLT,Nat.reduceMod,Nat.reducePow,Nat.reduceSub,if_true,reduceIte]
    refine zb7 str zad rfl rfl T68 T68 (zdz _) T9 zcN (l:=opsT (l.take k)) (ys:=opT (l.getD k v0)) (m:=3) rfl rfl (asrc_S _ (opT (l.getD k v0))) (by omega) (by simp only [tyStr];omega) ?_
    try simp -implicitDefEqProofs only [LM6,LB21,eq_self,zab (h:=T68),zad,TB,SB,Int.reduceToNat,Nat.reduceAdd,Nat.reduceEqDiff,Nat.reduceLT,Nat.reduceMod,Nat.reducePow,Nat.reduceSub,if_true,reduceIte]
    refine⟨by unfold inI;omega,?_⟩
    rw [zan]
    refine⟨k+1,by omega,by (show l.length - (k+1) < l.length - k);omega,?_⟩
    rw [e,List.length_append,show (opT (l.getD k v0)).length=3 from rfl]
    refine zal (q:=[2]) rfl rfl (by decide) ?_ ?_
    ·skip
     try simp only [FB,AV.ren,Nat.reduceAdd,reduceCtorEq]
     simp [zci,AV.ren]
    ·rw [zev str zae]
     exact⟨rfl,trivial⟩
   ·obtain rfl:k=l.length:=by omega
    try simp -implicitDefEqProofs only [LM6,LB21,eq_self,zab (h:=T68),zad,TB,SB,Int.reduceToNat,Nat.reduceAdd,Nat.reduceEqDiff,Nat.reduceLT,Nat.reduceMod,Nat.reducePow,Nat.reduceSub,if_true,reduceIte]
    rw [List.take_length]
    refine ACalls.frz [0] (l':=[.sl ((opsT l).map str) (opsT l).length]) ⟨_,_,rfl,zi7 (l:=opsT l) rfl rfl,rfl⟩ ?_
    have h4:=zeC l
    refine(join_ok (opsT l) (by omega) (fun s hs=>by have:=opsT_le hb3 s hs;omega) (by omega)).pure (by show renL _ [slS (opsT l)]=some [slS (opsT l)];simp [renL,zey]) ?_
    rintro _ σ rfl
    refine⟨zae _ _,?_⟩
    try simp -implicitDefEqProofs only [LM6,LB21,eq_self,zab (h:=T68),zad,TB,SB,Int.reduceToNat,Nat.reduceAdd,Nat.reduceEqDiff,Nat.reduceLT,Nat.reduceMod,Nat.reducePow,Nat.reduceSub,if_true,reduceIte]
    exact zbd (by simp [AV.ren,renL,zae,zaj]) (by rw [putV,if_pos hb])
end Go.Proofs.YtdmiflfhaobngaaGreatDoor
end

