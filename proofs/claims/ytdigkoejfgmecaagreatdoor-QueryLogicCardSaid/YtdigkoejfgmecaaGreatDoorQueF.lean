/-
  The order of values. No condition.
-/
import Derived.Test.YtdigkoejfgmecaaGreatDoorQueR
import Derived.Sort.Walk0
import Derived.Test.YtdigkoejfgmecaaGreatDoorLib
set_option linter.unusedSimpArgs false
set_option linter.unusedVariables false
set_option linter.unusedSectionVars false
section
namespace Go.Eng
open Go
theorem aQ7 {P:Prop} (e:P:=by first | rfl | simp [AEnd.noid,AV.ren,renL,zb4,zcA,zbG,zbb,zac,zaC,zak]):P:=e
theorem aQ8 {P:Prop} (e:P:=by rw [zbU,zbU]):P:=e
theorem aQ9 {P:Prop} (e:P:=by simp [renL,AV.ren,zap,zac]):P:=e
theorem aQ26 {P Q:Prop} (h:Q) (e:P=Q:=by first|(simp -implicitDefEqProofs only [LM5,eq_self,mk_sl0,bs_Ns1,TB,SB,Int.reduceToNat,Nat.reduceAdd,Nat.reduceEqDiff,Nat.reduceLT,Nat.reduceMod,Nat.reducePow,Nat.reduceSub,if_true,reduceIte];first|done|exact rfl)|exact rfl):P:=e ▸ h
theorem aQ27 {P Q:Prop} (h:Q) (e:P=Q:=by first|(simp -implicitDefEqProofs only [LM5,eq_self,ziY,TB,SB,Int.reduceToNat,Nat.reduceAdd,Nat.reduceEqDiff,Nat.reduceLT,Nat.reduceMod,Nat.reducePow,Nat.reduceSub,if_true,reduceIte];first|done|exact rfl)|exact rfl):P:=e ▸ h
theorem aQ28 {P Q:Prop} (h:Q) (e:P=Q:=by first|(simp -implicitDefEqProofs only [LM5,eq_self,mk_sl0,ziY,TB,SB,Int.reduceToNat,Nat.reduceAdd,Nat.reduceEqDiff,Nat.reduceLT,Nat.reduceMod,Nat.reducePow,Nat.reduceSub,if_true,reduceIte];first|done|exact rfl)|exact rfl):P:=e ▸ h
theorem aQ29 {P Q:Prop} (h:Q) (e:P=Q:=by first|(simp -implicitDefEqProofs only [LM5,eq_self,mk_sl0,ziY,bs_ss2,ldd_Ns0,TB,SB,Int.reduceToNat,Nat.reduceAdd,Nat.reduceEqDiff,Nat.reduceLT,Nat.reduceMod,Nat.reducePow,Nat.reduceSub,if_true,reduceIte];first|done|exact rfl)|exact rfl):P:=e ▸ h
end Go.Eng
end

section
namespace Go.Proofs.YtdigkoejfgmecaaGreatDoor
open Go Go.Eng
end Go.Proofs.YtdigkoejfgmecaaGreatDoor
end

section
namespace Go.Proofs.YtdigkoejfgmecaaGreatDoor
open Go Go.Eng
def sC (e d:Int) (b:Bool) (k s:AV):List AV:=[i64 e,i64 d,bl b,k,s]
def slI (l:List Int):AV:=.sl (l.map i64) l.length
section
variable {e d : Int} {b : Bool} {k s : AV} {σ : zaa} {K : AV → Prop} {KS : AV → zaa → Prop} {t : TypeId} {id : Nat}
theorem fl_s0 (ht:T t=some tySn):zc9 T t (.agg (sC e d b k s)) 0 K=K (i64 e):=by
 simp [zc9,ht,tySn,T3,zgM,zaI,sC,TD.agg]
end
end Go.Proofs.YtdigkoejfgmecaaGreatDoor
end

section
namespace Go.Proofs.YtdigkoejfgmecaaGreatDoor
open Go Go.Eng
structure Going (l:List Nd) (p:Nat) (n:Nd) (mp:Bool) (k:Nat):Prop where
 le:k≤n.kids.toNat
 lo:p+1+k≤eAt l mp p k
 hi:eAt l mp p k≤l.length
 deep:dAt l mp p k+p≤l.length
 at':∀ j,j < k→eAt l mp p j < l.length
 q:zbv (vl l) l mp (n.kids.toNat - k) (zfb mp k (keyT l mp p (k - 1))) (eAt l mp p k) (dAt l mp p k)=zbv (vl l) l mp n.kids.toNat none (p+1) 0
theorem ia_slI {K:AV→Prop} (l:List Int) (n:Int):ia3 (some zaI) (slI l) n K=(0≤n∧n < l.length∧K (.rp ((l.map i64).drop n.toNat))):=ia_sl_i64 l n
end Go.Proofs.YtdigkoejfgmecaaGreatDoor
end

section
namespace Go.Proofs.YtdigkoejfgmecaaGreatDoor
open Go Go.Eng
set_option linter.defProp false in
def LB11:=And.intro (fun {e} {d} {b} {k} {s} {K}=>@fl_s0 e d b k s K _ T113) (@ia_slI)
theorem fl_s1 {e d:Int} {b:Bool} {k s:AV} {K:AV→Prop} {t:TypeId} (ht:T t=some tySn):zc9 T t (.agg (sC e d b k s)) 1 K=K (i64 d):=by
 simp [zc9,ht,tySn,T3,zgM,zaI,sC,TD.agg]
theorem fl_s3 {e d:Int} {b:Bool} {k s:AV} {K:AV→Prop} {t:TypeId} (ht:T t=some tySn):zc9 T t (.agg (sC e d b k s)) 3 K=K k:=by
 simp [zc9,ht,tySn,T31,zgM,tySl,sC,TD.agg]
end Go.Proofs.YtdigkoejfgmecaaGreatDoor
end

section
namespace Go.Proofs.YtdigkoejfgmecaaGreatDoor
open Go Go.Eng
theorem len_slI {K:AV→Prop} (e:TypeId) (l:List Int):len2 (some (tySl e)) (slI l) K=K (i64 l.length):=by simp [len2,slI,tySl,slen,i64]
end Go.Proofs.YtdigkoejfgmecaaGreatDoor
end

section
namespace Go.Proofs.YtdigkoejfgmecaaGreatDoor
open Go Go.Eng
def cmpI (a b:Int):Int:=if a < b then -1 else if b < a then 1 else 0
theorem nanI_ok (a:Int):ACalls Tryz.prog 132 [i64 a] [] (fun y _=>y=.ret (bl false)):=by
 refine ACalls.body T_ok Tryz.func132 (by kernel_rfl) rfl Tryz.ntmps132 (congrArg Array.toList Tryz.results132) ?_
 refine aQ19 ?_
 exact zaL (by simp)
theorem nanK_ok (a:Int):ACalls Tryz.prog 258 [i64 a] [] (fun y _=>y=.ret (bl false)):=by
 refine ACalls.body T_ok Tryz.func258 (by kernel_rfl) rfl Tryz.ntmps258 (congrArg Array.toList Tryz.results258) ?_
 refine aQ19 ?_
 exact zaL (by simp)
theorem nan64_ok (a:Int):ACalls Tryz.prog 259 [i64 a] [] (fun y _=>y=.ret (bl false)):=by
 refine ACalls.body T_ok Tryz.func259 (by kernel_rfl) rfl Tryz.ntmps259 (congrArg Array.toList Tryz.results259) ?_
 refine aQ19 ?_
 exact zaL (by simp)
theorem cmpI_ok (a b:Int):ACalls Tryz.prog 85 [i64 a,i64 b] [] (fun y _=>y=.ret (i64 (cmpI a b))):=by
 refine ACalls.body T_ok Tryz.func85 (by kernel_rfl) rfl Tryz.ntmps85 (congrArg Array.toList Tryz.results85) ?_
 refine aQ19 ?_
 refine(nanI_ok a).pure aQ1 ?_
 rintro _ σ rfl
 refine⟨by first | rfl | simp [AEnd.noid,AV.ren,renL,zb4,zan str zak,zcA,zbG,zbb,zac,zaC,zak],?_⟩
 refine aQ19 ?_
 refine(nanI_ok b).pure aQ1 ?_
 rintro _ σ rfl
 refine⟨by first | rfl | simp [AEnd.noid,AV.ren,renL,zb4,zan str zak,zcA,zbG,zbb,zac,zaC,zak],?_⟩
 refine aQ19 ?_
 refine⟨fun h=>zaQ (by rw [cmpI,if_pos h]),fun h=>⟨fun h2=>zaQ (by rw [cmpI,if_neg h,if_pos h2]),fun h2=>zaQ (by rw [cmpI,if_neg h,if_neg h2])⟩⟩
theorem cmpK_ok (a b:Int):ACalls Tryz.prog 238 [i64 a,i64 b] [] (fun y _=>y=.ret (i64 (cmpI a b))):=by
 refine ACalls.body T_ok Tryz.func238 (by kernel_rfl) rfl Tryz.ntmps238 (congrArg Array.toList Tryz.results238) ?_
 refine aQ19 ?_
 refine(nanK_ok a).pure aQ1 ?_
 rintro _ σ rfl
 refine⟨by first | rfl | simp [AEnd.noid,AV.ren,renL,zb4,zan str zak,zcA,zbG,zbb,zac,zaC,zak],?_⟩
 refine aQ19 ?_
 refine(nanK_ok b).pure aQ1 ?_
 rintro _ σ rfl
 refine⟨by first | rfl | simp [AEnd.noid,AV.ren,renL,zb4,zan str zak,zcA,zbG,zbb,zac,zaC,zak],?_⟩
 refine aQ19 ?_
 refine⟨fun h=>zaQ (by rw [cmpI,if_pos h]),fun h=>⟨fun h2=>zaQ (by rw [cmpI,if_neg h,if_pos h2]),fun h2=>zaQ (by rw [cmpI,if_neg h,if_neg h2])⟩⟩
theorem cmp64_ok (a b:Int):ACalls Tryz.prog 239 [i64 a,i64 b] [] (fun y _=>y=.ret (i64 (cmpI a b))):=by
 refine ACalls.body T_ok Tryz.func239 (by kernel_rfl) rfl Tryz.ntmps239 (congrArg Array.toList Tryz.results239) ?_
 refine aQ19 ?_
 refine(nan64_ok a).pure aQ1 ?_
 rintro _ σ rfl
 refine⟨by first | rfl | simp [AEnd.noid,AV.ren,renL,zb4,zan str zak,zcA,zbG,zbb,zac,zaC,zak],?_⟩
 refine aQ19 ?_
 refine(nan64_ok b).pure aQ1 ?_
 rintro _ σ rfl
 refine⟨by first | rfl | simp [AEnd.noid,AV.ren,renL,zb4,zan str zak,zcA,zbG,zbb,zac,zaC,zak],?_⟩
 refine aQ19 ?_
 refine⟨fun h=>zaQ (by rw [cmpI,if_pos h]),fun h=>⟨fun h2=>zaQ (by rw [cmpI,if_neg h,if_pos h2]),fun h2=>zaQ (by rw [cmpI,if_neg h,if_neg h2])⟩⟩
def zgp (l:List Int):Int:=(l.find? fun x=>decide (x≠0)).getD 0
theorem orI_ok (l:List Int) (hl:l.length≤1000000):ACalls Tryz.prog 83 [.sl (l.map i64) l.length] [] (fun y _=>y=.ret (i64 (zgp l))):=by
 refine ACalls.body T_ok Tryz.func83 (by kernel_rfl) rfl Tryz.ntmps83 (congrArg Array.toList Tryz.results83) ?_
 refine aQ19 ?_
 rw [zbi]
 refine⟨Nat,fun k=>k≤l.length∧∀ j,j < k→l.getD j 0=0,fun k=>[.sl (l.map i64) l.length,.bot,i64 0,i64 0,.bot,.bot,.sl (l.map i64) l.length,i64 l.length,i64 k,.bot,.bot,.bot,.bot,.bot,.bot,.bot,.bot,.bot],fun _=>[],fun k=>l.length - k,0,⟨Nat.zero_le _,fun j h=>absurd h (by omega)⟩,zbS ?_,?_⟩
 ·refine aQ15 ?_
  try exact .inr rfl
 ·rintro k ⟨hk,hj⟩
  refine aQ19 ?_
  refine⟨fun hlt=>?_,fun hge=>?_⟩
  ·repeat (with_reducible refine zbM ?_)
   have hz:∀ x∈l.take k,¬ (decide (x≠0)=true):=fun x hx=>by
    obtain⟨j,hjl,rfl⟩:=List.getElem_of_mem hx
    have:=hj j (by simp at hjl;omega)
    rw [List.getD_eq_getElem?_getD,List.getElem?_eq_getElem (by simp at hjl;omega)] at this
    simpa using this
   refine⟨fun hne=>zaQ ?_,fun heq=>?_⟩
   · have hg : l.getD k 0 = l[k]'(by omega) := by rw [List.getD_eq_getElem?_getD, List.getElem?_eq_getElem (by omega)]; rfl
     have e:zgp l=l.getD k 0:=by
      have h2:(l.take k++l.drop k).find? (fun x=>decide (x≠0))=some (l.getD k 0):=by
       rw [List.find?_append,List.find?_eq_none.2 hz,List.drop_eq_getElem_cons (by omega),List.find?_cons,hg]
       rw [hg] at hne
       simp [hne]
      rw [List.take_append_drop] at h2
      rw [zgp,h2]
      rfl
     rw [e]
   ·refine aQ19 ?_
    repeat (with_reducible refine zbM ?_)
    rw [zai]
    refine⟨k+1,⟨by omega,fun j h=>?_⟩,by (show l.length - (k+1) < l.length - k);omega,zbS ?_⟩
    ·by_cases e:j=k
     ·subst e;omega
     ·exact hj j (by omega)
    ·refine aQ15 ?_
     try exact .inr rfl
  ·obtain rfl:k=l.length:=by omega
   have e:zgp l=0:=by
    rw [zgp,List.find?_eq_none.2]
    ·rfl
    ·intro x hx
     obtain⟨j,hjl,rfl⟩:=List.getElem_of_mem hx
     have:=hj j hjl
     rw [List.getD_eq_getElem?_getD,List.getElem?_eq_getElem hjl] at this
     simpa using this
   refine aQ19 ?_
   exact zaQ (by rw [e])
theorem ofirst_ok (l:List Int) (hl:l.length≤1000000):ACalls Tryz.prog 237 [.sl (l.map i64) l.length] [] (fun y _=>y=.ret (i64 (zgp l))):=by
 refine ACalls.body T_ok Tryz.func237 (by kernel_rfl) rfl Tryz.ntmps237 (congrArg Array.toList Tryz.results237) ?_
 refine aQ19 ?_
 refine(orI_ok l hl).pure (by simp [renL,AV.ren,zcH]) ?_
 rintro _ σ rfl
 refine⟨zac _ _,?_⟩
 refine aQ19 ?_
 exact zaQ rfl
end Go.Proofs.YtdigkoejfgmecaaGreatDoor
end

section
namespace Go.Proofs.YtdigkoejfgmecaaGreatDoor
open Go Go.Eng
def cmpS (a b:List UInt8):Int:=Go.Lib.compareBytes a b
theorem cmpS0_ok (a b:List UInt8):ACalls Tryz.prog 233 [str a,str b] [] (fun y _=>y=.ret (i64 (cmpS a b))):=by
 intro H w m vs hg hs hr
 refine .inl ⟨by kernel_rfl,?_⟩
 have hvs:vs=#[.string ⟨a.toArray⟩,.string ⟨b.toArray⟩]:=by
  apply Array.ext'
  simp only [reps] at hr
  obtain⟨v,r,e1,h1,v2,r2,e2,h2,e3⟩:=hr
  simp only [str,rep] at h1 h2
  rw [e1,e2,e3,h1,h2]
 subst hvs
 refine(Tryz.bytealg_CompareString ⟨a.toArray⟩ ⟨b.toArray⟩ w).mono ?_
 rintro e w' ⟨rfl,rfl⟩
 exact⟨.ret (i64 (cmpS a b)),m,[],hs,Ext.refl _ _ _,by simp only [zbN,i64,rep,cmpS],rfl⟩
theorem cmpS_ok (a b:List UInt8):ACalls Tryz.prog 216 [str a,str b] [] (fun y _=>y=.ret (i64 (cmpS a b))):=by
 refine ACalls.body T_ok Tryz.func216 (by kernel_rfl) rfl Tryz.ntmps216 (congrArg Array.toList Tryz.results216) ?_
 refine aQ19 ?_
 refine(cmpS0_ok a b).pure aQ1 ?_
 rintro _ σ rfl
 refine⟨by first | rfl | simp [AEnd.noid,AV.ren,renL,zb4,zan str zak,zcA,zbG,zbb,zac,zaC,zak],?_⟩
 refine aQ19 ?_
 exact zaQ rfl
def plainO (a b:Nd):Int:=zgp [cmpI a.kind b.kind,cmpI a.num b.num,cmpS a.text b.text]
theorem qb_I3 {K:AV→Prop} (a b c:Int):qb2 (some zaI) 3 [(0,i64 a),(1,i64 b),(2,i64 c)] K=K (.sl ([a,b,c].map i64) [a,b,c].length):=by
 simp [qb2,zaI,zbp,zbu,AV.cells,i64,za4,AV.one,Value.oneCell',List.range_succ]
theorem plainO_ok (a b:Nd):ACalls Tryz.prog 224 [nA a,nA b] [] (fun y _=>y=.ret (i64 (plainO a b))):=by
 refine ACalls.body T_ok Tryz.func224 (by kernel_rfl) rfl Tryz.ntmps224 (congrArg Array.toList Tryz.results224) ?_
 refine aQ19 ?_
 refine zhd (by kernel_rfl) (by kernel_rfl) ?_
 refine aQ19 ?_
 refine zeT (cmpK_ok a.kind b.kind) aQ1 aQ7 ?_
 refine aQ19 ?_
 refine zeT (cmp64_ok a.num b.num) aQ1 aQ7 ?_
 refine aQ19 ?_
 refine zeT (cmpS_ok a.text b.text) aQ1 aQ7 ?_
 refine aQ19 ?_
 rw [qb_I3]
 refine aQ19 ?_
 refine zeT (ofirst_ok [cmpI a.kind b.kind,cmpI a.num b.num,cmpS a.text b.text] (by simp)) (by simp [renL,AV.ren,zac]) (zac _ _) ?_
 refine aQ19 ?_
 exact zaQ rfl
end Go.Proofs.YtdigkoejfgmecaaGreatDoor
end

section
namespace Go.Proofs.YtdigkoejfgmecaaGreatDoor
open Go Go.Eng
end Go.Proofs.YtdigkoejfgmecaaGreatDoor
end

section
namespace Go.Proofs.YtdigkoejfgmecaaGreatDoor
open Go Go.Eng
end Go.Proofs.YtdigkoejfgmecaaGreatDoor
end

section
namespace Go.Proofs.YtdigkoejfgmecaaGreatDoor
open Go Go.Eng
set_option linter.defProp false in
def LB12:=And.intro (fun {e} {d} {b} {k} {s} {K}=>@fl_s1 e d b k s K _ T113) (And.intro (fun {e} {d} {b} {k} {s} {K}=>@fl_s3 e d b k s K _ T113) (@len_slI))
set_option linter.defProp false in
def LM5:=And.intro LM2 (And.intro LB11 (LB12))
def pieceO (l:List Nd) (mp:Bool) (j:Nat):List (List Nd):=(if mp then [(l.take (eAt l mp 0 j+1)).drop (eAt l mp 0 j)] else [])++[(l.take (eAt l mp 0 (j+1))).drop (eAt l mp 0 j+bK mp)]
def zhK (l:List Nd) (mp:Bool) (k:Nat):List (List Nd):=(List.range k).flatMap (pieceO l mp)
theorem valsK_succ (l:List Nd) (mp:Bool) (k:Nat):zhK l mp (k+1)=zhK l mp k++pieceO l mp k:=by simp [zhK,List.range_succ,List.flatMap_append]
end Go.Proofs.YtdigkoejfgmecaaGreatDoor
end

section
namespace Go.Proofs.YtdigkoejfgmecaaGreatDoor
open Go Go.Eng
def sgn (a b:Bool):Int:=if a then -1 else if b then 1 else 0
def cmpF:Nat→List Nd→List Nd→Int
 | 0,_,_=>0
 | f+1,a,b =>
  let x:=a.getD 0 n0d
  let y:=b.getD 0 n0d
  if x.kind≠y.kind then sgn (decide (x.kind < y.kind)) true
  else if x.num≠y.num then sgn (decide (x.num < y.num)) true
  else if x.text≠y.text then sgn (Op.bytesLess x.text y.text) true
  else
   let l:=zhK a (decide (x.kind=5)) x.kids.toNat
   let m:=zhK b (decide (y.kind=5)) y.kids.toNat
   match ((l.zip m).map fun q=>cmpF f q.1 q.2).find? fun n=>decide (n≠0) with
   | some n=>n
   | none=>sgn (decide (l.length < m.length)) (decide (m.length < l.length))
def Val (l:List Nd):Prop:=l.length≤1000∧∃ d,vl l 0=some (l.length,d)
theorem val_vals {l:List Nd} (h:Val l) {n:Nd} {d:Nat} (hK:Kids l 0 n (l.length,d)):∀ m∈zhK l (decide (n.kind=5)) n.kids.toNat,Val m∧m.length < l.length:=by
 intro m hm
 obtain⟨h1,d',h2⟩:=h
 simp only [zhK,List.mem_flatMap,List.mem_range] at hm
 obtain⟨j,hj,hm⟩:=hm
 obtain⟨r',q1,q2,q3⟩:=hK.kid hj
 have hin:=zbh q1
 have hlo:=(hK.inv j (by omega)).1
 rw [pieceO,List.mem_append] at hm
 rcases hm with hm | hm
 ·split at hm
  ·rename_i h5
   have h5':n.kind=5:=by simpa using h5
   obtain⟨k,k1,k2,_⟩:=q3 h5'
   have hb:bK (decide (n.kind=5))=1:=by rw [h5];rfl
   simp only [List.mem_singleton] at hm
   subst hm
   have hk:=zbt k1
   have hP:=ziR (l:=l) (p:=eAt l (decide (n.kind=5)) 0 j) (e:=eAt l (decide (n.kind=5)) 0 j+1) (by omega) (by omega)
   have hv:=zhz hP (q:=0) (r:=(eAt l (decide (n.kind=5)) 0 j+1,1)) (vl_text hk.2.1 hk.2.2 k2) (by simp;omega)
   have hlen:((l.take (eAt l (decide (n.kind=5)) 0 j+1)).drop (eAt l (decide (n.kind=5)) 0 j)).length=1:=by simp;omega
   refine⟨⟨by omega,1,?_⟩,by omega⟩
   rw [hv,hlen]
   simp
  ·simp at hm
 ·simp only [List.mem_singleton] at hm
  subst hm
  rw [q2]
  have hP:=ziR (l:=l) (p:=eAt l (decide (n.kind=5)) 0 j+bK (decide (n.kind=5))) (e:=r'.1) (by omega) hin.2
  have hlen:((l.take r'.1).drop (eAt l (decide (n.kind=5)) 0 j+bK (decide (n.kind=5)))).length=r'.1 - (eAt l (decide (n.kind=5)) 0 j+bK (decide (n.kind=5))):=by simp;omega
  have hv:=zhz hP (q:=0) (r:=r') q1 (by rw [hlen];omega)
  refine⟨⟨by omega,r'.2,by rw [hv,hlen]⟩,by omega⟩
end Go.Proofs.YtdigkoejfgmecaaGreatDoor
end

section
namespace Go.Proofs.YtdigkoejfgmecaaGreatDoor
open Go Go.Eng
end Go.Proofs.YtdigkoejfgmecaaGreatDoor
end

section
namespace Go.Proofs.YtdigkoejfgmecaaGreatDoor
open Go Go.Eng
def cmpR (a b:List Nd):Int:=if zar a=0∧zar b=0 then cmpF a.length a b else 0
theorem val_of {l:List Nd} (h:zar l=0):Val l:=by
 obtain⟨h1,_,d,hv,_⟩:=zdC h
 exact⟨by omega,d,hv⟩
end Go.Proofs.YtdigkoejfgmecaaGreatDoor
end

section
namespace Go.Proofs.YtdigkoejfgmecaaGreatDoor
open Go Go.Eng
def allV (L:List (List Nd)):Bool:=L.all fun l=>decide (zar l=0)
theorem mk_sl0 {σ:zaa} {KS:AV→zaa→Prop} (e:TypeId) (c:Int):mk2 (some (tySl e)) 0 c σ KS=(0≤(0:Int)∧0≤c∧c≤9223372036854775807∧c * (24:Nat)≤281474976710656∧KS (.ref σ.length 0 0 1) (σ++[.rw []])):=mk2_one (Go.Eng.one_sl e) _ _
theorem bs_Ns1 (e:TypeId) (X:List Nd) (σ:zaa) (K:AV→zaa→Prop):bs2 (some (tySl e)) 1 [(0,slNs X)] σ K=K (.ref σ.length 0 1 1) (σ++[.rw [slNs X]]):=bs_sl_1 e _ _ σ K
theorem ovalues_ok (L:List (List Nd)) (hL:L.length≤1000000) (hl:∀ l∈L,l.length≤1000000):ACalls Tryz.prog 163 [.sl (L.map slNs) L.length] [] (fun y σ=>y=.ret (.tup [.sl ((if allV L then L else []).map slNs) (if allV L then L else []).length,bl (allV L)])∧σ=[]):=by
 have get:∀ k,k < L.length→L.getD k []∈L:=fun k h=>by
  rw [List.getD_eq_getElem?_getD,List.getElem?_eq_getElem h]
  exact List.getElem_mem _
 refine ACalls.body T_ok Tryz.func163 (by kernel_rfl) rfl Tryz.ntmps163 (congrArg Array.toList Tryz.results163) ?_
 refine aQ26 ?_
 refine⟨by omega,by omega,by omega,by omega,?_⟩
 refine aQ26 ?_
 rw [zbi]
 refine⟨Nat,fun k=>k≤L.length∧∀ j,j < k→zar (L.getD j [])=0,fun k=>[.bot,.bot,.bot,.bot,.ref 0 0 k 1,.bot,.bot,.bot,.bot,.bot,.sl (L.map slNs) L.length,i64 L.length,i64 k,.bot,.bot,.bot,.bot,.bot,.bot,.bot,.bot,.bot,.bot,.bot,.bot],fun k=>[.rw ((L.take k).map slNs)],fun k=>L.length - k,0,⟨Nat.zero_le _,fun j h=>absurd h (by omega)⟩,zaf (q:=[0]) rfl rfl (by decide) ?_ ?_,?_⟩
 ·refine aQ14 ?_
  exact⟨by simp [zaN],.inr rfl⟩
 ·simp [zav,zau,renL]
 ·rintro k ⟨hk,hj⟩
  refine aQ26 ?_
  refine⟨fun hlt=>?_,fun hge=>?_⟩
  ·have hk2:k < L.length:=by omega
   refine⟨by omega,by omega,by omega,hk2,?_⟩
   refine(zdX (L.getD k []) (hl _ (get k hk2))).pure (zeu _ _ _) ?_
   rintro _ σ ⟨rfl,rfl⟩
   refine⟨zac _ _,?_⟩
   refine aQ26 ?_
   refine⟨fun hne=>?_,fun heq=>?_⟩
   ·have hf:allV L=false:=by
     rw [allV,List.all_eq_false]
     exact⟨_,get k hk2,by simpa using hne⟩
    rw [hf]
    exact zbW [] (.tup [.sl [] 0,bl false]) ⟨_,rfl,_,_,rfl,.inr ⟨rfl,rfl⟩,_,_,rfl,.inl rfl,rfl⟩ ⟨[],.tup [.sl [] 0,bl false],[],rfl,rfl,by decide,by simp [AV.ren,renL,zaC],trivial,rfl,rfl⟩
   ·have htk:L.take (k+1)=L.take k++[L.getD k []]:=by
     rw [List.take_succ_eq_append_getElem hk2,List.getD_eq_getElem?_getD,List.getElem?_eq_getElem hk2]
     rfl
    refine zbd slNs zdY rfl rfl T216 T216 (zfy _) T219 (Go.Eng.one_sl _) (l:=L.take k) (ys:=[L.getD k []]) (m:=1) rfl (by simp;omega) rfl (by omega) (by simp only [tySl];omega) ?_
    refine aQ26 ?_
    repeat (with_reducible refine zbM ?_)
    rw [zai,← htk]
    refine⟨k+1,⟨by omega,fun j h=>?_⟩,by (show L.length - (k+1) < L.length - k);omega,zaf (q:=[2]) rfl rfl (by decide) ?_ ?_⟩
    ·by_cases e:j=k
     ·subst e;exact heq
     ·exact hj j (by omega)
    ·refine aQ14 ?_
     exact⟨by simp [zaN],.inr (by omega)⟩
    ·rw [zav,zav]
     simp only [zau,zaN]
     simp
  ·obtain rfl:k=L.length:=by omega
   have hf:allV L=true:=by
    rw [allV,List.all_eq_true]
    intro x hx
    obtain⟨j,hjl,rfl⟩:=List.getElem_of_mem hx
    have:=hj j hjl
    rw [List.getD_eq_getElem?_getD,List.getElem?_eq_getElem hjl] at this
    simpa using this
   rw [hf,List.take_length]
   refine aQ26 ?_
   exact zbW [0] (.tup [.sl (L.map slNs) L.length,bl true]) ⟨_,rfl,_,_,rfl,frz_Ns (L:=L) rfl rfl,_,_,rfl,.inl rfl,rfl⟩ ⟨[],.tup [.sl (L.map slNs) L.length,bl true],[],rfl,rfl,by decide,by simp [AV.ren,renL,zaN,zaC],trivial,rfl,rfl⟩
end Go.Proofs.YtdigkoejfgmecaaGreatDoor
end

section
namespace Go.Proofs.YtdigkoejfgmecaaGreatDoor
open Go Go.Eng
theorem cmpS_eq:∀ (a b:List UInt8),cmpS a b=if a=b then 0 else sgn (Op.bytesLess a b) true
 | [],[]=>rfl
 | [],b::bs=>by simp [cmpS,Go.Lib.compareBytes,Op.bytesLess,sgn]
 | a::s,[]=>by simp [cmpS,Go.Lib.compareBytes,Op.bytesLess,sgn]
 | a::s,b::bs=>by
  have ih:=cmpS_eq s bs
  simp only [cmpS] at ih
  simp only [cmpS,Go.Lib.compareBytes,Op.bytesLess,List.cons.injEq]
  by_cases h1:a < b
  ·have hne:a≠b:=fun h=>by subst h;exact absurd h1 (UInt8.lt_irrefl a)
   simp [h1,hne,sgn]
  ·by_cases h2:b < a
   ·have hne:a≠b:=fun h=>by subst h;exact absurd h2 (UInt8.lt_irrefl a)
    simp [h1,h2,hne,sgn]
   ·have he:a=b:=by
     have h1':¬ a.toNat < b.toNat:=h1
     have h2':¬ b.toNat < a.toNat:=h2
     exact UInt8.toNat_inj.1 (by omega)
    subst he
    simp only [h1,if_false,ih,true_and]
    simp
theorem zfI (a:Bool):sgn a true≠0:=by cases a <;> decide
theorem cmpI_sgn {a b:Int} (h:a≠b):cmpI a b=sgn (decide (a < b)) true:=by
 unfold cmpI sgn
 by_cases h1:a < b
 ·simp [h1]
 ·simp [h1,show b < a by omega]
theorem cmpI_self (a:Int):cmpI a a=0:=by simp [cmpI]
theorem cmpI_0 {a b:Int}:cmpI a b=0 ↔ a=b:=by
 unfold cmpI
 split
 ·exact⟨fun h=>absurd h (by decide),fun h=>by omega⟩
 ·split
  ·exact⟨fun h=>absurd h (by decide),fun h=>by omega⟩
  ·exact⟨fun _=>by omega,fun _=>rfl⟩
theorem plainO_eq (x y:Nd):plainO x y=if x.kind≠y.kind then sgn (decide (x.kind < y.kind)) true else if x.num≠y.num then sgn (decide (x.num < y.num)) true else if x.text≠y.text then sgn (Op.bytesLess x.text y.text) true else 0:=by
 simp only [plainO,zgp,cmpS_eq]
 by_cases h1:x.kind=y.kind
 ·rw [h1,cmpI_self]
  by_cases h2:x.num=y.num
  ·rw [h2,cmpI_self]
   by_cases h3:x.text=y.text
   ·simp [h3]
   ·simp [h3,zfI]
  ·rw [cmpI_sgn h2]
   simp [h2,zfI]
 ·rw [cmpI_sgn h1]
  simp [h1,zfI]
theorem plainO_0 {x y:Nd}:plainO x y=0 ↔ x.kind=y.kind∧x.num=y.num∧x.text=y.text:=by
 rw [plainO_eq]
 by_cases h1:x.kind=y.kind
 ·by_cases h2:x.num=y.num
  ·by_cases h3:x.text=y.text
   ·simp [h1,h2,h3]
   ·simp [h1,h2,h3,zfI]
  ·simp [h1,h2,zfI]
 ·simp [h1,zfI]
def zaT (g:List Nd→List Nd→Int):List (List Nd)→List (List Nd)→Int
 | a::l,b::m=>if g a b≠0 then g a b else zaT g l m
 | _,_=>0
theorem zhL (g:List Nd→List Nd→Int):∀ (L M:List (List Nd)),(((L.zip M).map fun q=>g q.1 q.2).find? fun n=>decide (n≠0))=if zaT g L M≠0 then some (zaT g L M) else none
 | [],M=>by simp [zaT]
 | a::L,[]=>by simp [zaT]
 | a::L,b::M=>by
  simp only [List.zip_cons_cons,List.map_cons,List.find?_cons,zaT]
  by_cases h:g a b=0
  ·simp only [h,ne_eq,not_true_eq_false,decide_false,Bool.false_eq_true,if_false]
   exact zhL g L M
  ·simp [h]
theorem mfind (d s:Int):(match (if d≠0 then some d else none) with | some n=>n | none=>s)=if d≠0 then d else s:=by
 by_cases h:d=0 <;> simp [h]
theorem firstD_nil (g:List Nd→List Nd→Int) (L:List (List Nd)):zaT g L []=0:=by cases L <;> rfl
theorem zeM (g:List Nd→List Nd→Int):∀ (L L' M M':List (List Nd)),L.length=M.length→zaT g (L++L') (M++M')=if zaT g L M≠0 then zaT g L M else zaT g L' M'
 | [],L',[],M',_=>by simp [zaT]
 | [],_,_::_,_,h=>by cases h
 | _::_,_,[],_,h=>by cases h
 | a::L,L',b::M,M',h=>by
  simp only [List.cons_append,zaT]
  by_cases h1:g a b=0
  ·simp only [h1,ne_eq,not_true_eq_false,if_false]
   exact zeM g L L' M M' (by simpa using h)
  ·simp [h1]
theorem zfJ (f:Nat) (a b:List Nd):cmpF (f+1) a b =
  let x:=a.getD 0 n0d
  let y:=b.getD 0 n0d
  let l:=zhK a (decide (x.kind=5)) x.kids.toNat
  let m:=zhK b (decide (y.kind=5)) y.kids.toNat
  if plainO x y≠0 then plainO x y else if zaT (cmpF f) l m≠0 then zaT (cmpF f) l m else sgn (decide (l.length < m.length)) (decide (m.length < l.length)):=by
 rw [cmpF]
 dsimp only
 rw [plainO_eq,zhL]
 by_cases h1:(a.getD 0 n0d).kind=(b.getD 0 n0d).kind
 ·by_cases h2:(a.getD 0 n0d).num=(b.getD 0 n0d).num
  ·by_cases h3:(a.getD 0 n0d).text=(b.getD 0 n0d).text
   ·simp only [h1,h2,h3,ne_eq,not_true_eq_false,if_false]
    exact mfind _ _
   ·simp only [h1,h2,h3,ne_eq,not_true_eq_false,not_false_eq_true,if_false,if_true,zfI]
  ·simp only [h1,h2,ne_eq,not_true_eq_false,not_false_eq_true,if_false,if_true,zfI]
 ·simp only [h1,ne_eq,not_false_eq_true,if_true,zfI]
def sb (l:List Nd) (p e:Nat):List Nd:=(l.take e).drop p
theorem sb_sb {l:List Nd} {p e u v:Nat} (h:p+v≤e):((sb l p e).take v).drop u=sb l (p+u) (p+v):=by
 apply List.ext_getElem?
 intro i
 simp only [sb,List.getElem?_drop,List.getElem?_take]
 by_cases h1:u+i < v
 ·rw [if_pos h1,if_pos (by omega),if_pos (by omega),show p+(u+i)=p+u+i by omega]
 ·rw [if_neg h1,if_neg (by omega)]
theorem sb_getD {l:List Nd} {p e:Nat} (h:p < e) (he:e≤l.length):(sb l p e).getD 0 n0d=l.getD p n0d:=by
 simp only [sb,List.getD_eq_getElem?_getD,List.getElem?_drop,List.getElem?_take,Nat.add_zero,if_pos h]
theorem sb_length {l:List Nd} {p e:Nat} (he:e≤l.length):(sb l p e).length=e - p:=by simp [sb];omega
theorem eAt_sb {l:List Nd} {p:Nat} {n:Nd} {r:Nat × Nat} (hK:Kids l p n r):∀ k,k≤n.kids.toNat→eAt (sb l p r.1) (decide (n.kind=5)) 0 k+p=eAt l (decide (n.kind=5)) p k
 | 0,_=>by simp only [eAt];omega
 | k+1,hk=>by
  have ih:=eAt_sb hK k (by omega)
  obtain⟨r',q1,q2,_⟩:=hK.kid (k:=k) (by omega)
  have hin:=(hK.inv (k+1) hk).2.1
  have hle:=(zbh hK.val)
  have hP:=ziR (l:=l) (p:=p) (e:=r.1) (by omega) hle.2
  have hlen:((l.take r.1).drop p).length=r.1 - p:=sb_length hle.2
  have hv:=zhz hP (q:=eAt (sb l p r.1) (decide (n.kind=5)) 0 k+bK (decide (n.kind=5))) (r:=r') (by rw [← q1];congr 1;omega) (by rw [hlen];omega)
  have:=zbh q1
  rw [q2]
  simp only [eAt]
  rw [zdA,show vl (sb l p r.1) _=_ from hv]
  simp only [Int.toNat_natCast]
  omega
def zcf (l:List Nd) (mp:Bool) (p j:Nat):List (List Nd):=(if mp then [sb l (eAt l mp p j) (eAt l mp p j+1)] else [])++[sb l (eAt l mp p j+bK mp) (eAt l mp p (j+1))]
def zci (l:List Nd) (mp:Bool) (p c:Nat):List (List Nd):=(List.range c).flatMap (zcf l mp p)
theorem zdF (l:List Nd) (mp:Bool) (p k:Nat):zci l mp p (k+1)=zci l mp p k++zcf l mp p k:=by simp [zci,List.range_succ,List.flatMap_append]
theorem zbU (l:List Nd) (mp:Bool) (p:Nat):∀ k,(zci l mp p k).length=k * (1+bK mp)
 | 0=>by simp [zci]
 | k+1=>by
  rw [zdF,List.length_append,zbU l mp p k,zcf]
  cases mp <;> simp [bK] <;> omega
theorem zeN (l:List Nd) (mp:Bool) (p:Nat) {k c:Nat} (h:k≤c):∃ R,zci l mp p c=zci l mp p k++R:=by
 induction c with
 | zero=>exact⟨[],by simp [show k=0 by omega]⟩
 | succ c ih =>
  by_cases hk:k=c+1
  ·exact⟨[],by simp [hk]⟩
  ·obtain⟨R,hR⟩:=ih (by omega)
   exact⟨R++zcf l mp p c,by rw [zdF,hR,List.append_assoc]⟩
theorem vals_sb {l:List Nd} {p:Nat} {n:Nd} {r:Nat × Nat} (hK:Kids l p n r):∀ c,c≤n.kids.toNat→zhK (sb l p r.1) (decide (n.kind=5)) c=zci l (decide (n.kind=5)) p c
 | 0,_=>rfl
 | c+1,hc=>by
  have h0:=eAt_sb hK c (by omega)
  have h1:=eAt_sb hK (c+1) hc
  have i0:=hK.inv c (by omega)
  have i1:=hK.inv (c+1) hc
  obtain⟨r',q1,q2,q3⟩:=hK.kid (k:=c) (by omega)
  have g:=zbh q1
  rw [valsK_succ,zdF,vals_sb hK c (by omega),pieceO,zcf]
  congr 1
  congr 1
  ·by_cases hmp:decide (n.kind=5)=true
   ·have hb:bK (decide (n.kind=5))=1:=by rw [hmp];rfl
    rw [if_pos hmp,if_pos hmp,sb_sb (by omega),show p+eAt (sb l p r.1) (decide (n.kind=5)) 0 c=eAt l (decide (n.kind=5)) p c by omega,show p+(eAt (sb l p r.1) (decide (n.kind=5)) 0 c+1)=eAt l (decide (n.kind=5)) p c+1 by omega]
   ·rw [if_neg hmp,if_neg hmp]
  ·rw [sb_sb (by omega),show p+eAt (sb l p r.1) (decide (n.kind=5)) 0 (c+1)=eAt l (decide (n.kind=5)) p (c+1) by omega,show p+(eAt (sb l p r.1) (decide (n.kind=5)) 0 c+bK (decide (n.kind=5)))=eAt l (decide (n.kind=5)) p c+bK (decide (n.kind=5)) by omega]
theorem cmpF_sb {f:Nat} {a b:List Nd} {p:Nat} {x y:Nd} {ra rb:Nat × Nat} (hA:Kids a p x ra) (hB:Kids b p y rb):cmpF (f+1) (sb a p ra.1) (sb b p rb.1)=if plainO x y≠0 then plainO x y else if zaT (cmpF f) (zci a (decide (x.kind=5)) p x.kids.toNat) (zci b (decide (y.kind=5)) p y.kids.toNat)≠0 then zaT (cmpF f) (zci a (decide (x.kind=5)) p x.kids.toNat) (zci b (decide (y.kind=5)) p y.kids.toNat) else cmpI x.kids y.kids:=by
 have la:=zbh hA.val
 have lb:=zbh hB.val
 rw [zfJ,sb_getD (by omega) la.2,sb_getD (by omega) lb.2,zaM hA.node,zaM hB.node]
 dsimp only
 rw [vals_sb hA _ (Nat.le_refl _),vals_sb hB _ (Nat.le_refl _)]
 by_cases hp:plainO x y=0
 ·obtain⟨hk,_⟩:=plainO_0.1 hp
  rw [zbU,zbU,hk]
  have fa:=hA.few
  have fb:=hB.few
  have e:sgn (decide (x.kids.toNat * (1+bK (decide (y.kind=5))) < y.kids.toNat * (1+bK (decide (y.kind=5))))) (decide (y.kids.toNat * (1+bK (decide (y.kind=5))) < x.kids.toNat * (1+bK (decide (y.kind=5)))))=cmpI x.kids y.kids:=by
   have hb:0 < 1+bK (decide (y.kind=5)):=by omega
   rw [show decide (x.kids.toNat * (1+bK (decide (y.kind=5))) < y.kids.toNat * (1+bK (decide (y.kind=5))))=decide (x.kids < y.kids) from decide_eq_decide.2 (by rw [Nat.mul_lt_mul_right hb];omega),show decide (y.kids.toNat * (1+bK (decide (y.kind=5))) < x.kids.toNat * (1+bK (decide (y.kind=5))))=decide (y.kids < x.kids) from decide_eq_decide.2 (by rw [Nat.mul_lt_mul_right hb];omega)]
   simp only [sgn,cmpI,decide_eq_true_eq]
  rw [e]
 ·simp [hp]
theorem getD_one (k:Nd):([k]:List Nd).getD 0 n0d=k:=rfl
theorem cmpF_one (f:Nat) {x y:Nd} (hx:x.kids=0) (hy:y.kids=0):cmpF (f+1) [x] [y]=plainO x y:=by
 rw [zfJ]
 dsimp only
 rw [getD_one,getD_one,hx,hy]
 by_cases h:plainO x y=0
 ·simp [h,zhK,zaT,sgn]
 ·simp [h]
theorem sb_one {l:List Nd} {p:Nat} (h:p < l.length):sb l p (p+1)=[l.getD p n0d]:=by
 apply List.ext_getElem?
 intro i
 simp only [sb,List.getElem?_drop,List.getElem?_take]
 cases i with
 | zero=>simp [List.getD_eq_getElem?_getD,List.getElem?_eq_getElem h]
 | succ i =>
  simp
  try omega
end Go.Proofs.YtdigkoejfgmecaaGreatDoor
end

section
namespace Go.Proofs.YtdigkoejfgmecaaGreatDoor
open Go Go.Eng
theorem firstD_round {g:List Nd→List Nd→Int} {a b:List Nd} {mp:Bool} {p k cx cy:Nat} (hx:k < cx) (hy:k < cy) (h0:zaT g (zci a mp p k) (zci b mp p k)=0):zaT g (zci a mp p (k+1)) (zci b mp p (k+1))=zaT g (zcf a mp p k) (zcf b mp p k)∧(zaT g (zcf a mp p k) (zcf b mp p k)≠0→zaT g (zci a mp p cx) (zci b mp p cy)=zaT g (zcf a mp p k) (zcf b mp p k)):=by
 have h1:zaT g (zci a mp p (k+1)) (zci b mp p (k+1))=zaT g (zcf a mp p k) (zcf b mp p k):=by
  rw [zdF,zdF,zeM _ _ _ _ _ aQ8,h0]
  simp
 refine⟨h1,fun hne=>?_⟩
 obtain⟨R,hR⟩:=zeN a mp p (k:=k+1) (c:=cx) (by omega)
 obtain⟨S,hS⟩:=zeN b mp p (k:=k+1) (c:=cy) (by omega)
 rw [hR,hS,zeM _ _ _ _ _ aQ8,h1,if_pos hne]
theorem firstD_last {g:List Nd→List Nd→Int} {a b:List Nd} {mp:Bool} {p k cx cy:Nat} (hx:k≤cx) (hy:k≤cy) (h:k=cx∨k=cy) (h0:zaT g (zci a mp p k) (zci b mp p k)=0):zaT g (zci a mp p cx) (zci b mp p cy)=0:=by
 obtain⟨R,hR⟩:=zeN a mp p hx
 obtain⟨S,hS⟩:=zeN b mp p hy
 rw [hR,hS,zeM _ _ _ _ _ aQ8,h0]
 simp only [ne_eq,not_true_eq_false,if_false]
 have hl:=congrArg List.length hR
 have hl2:=congrArg List.length hS
 rw [List.length_append,zbU,zbU] at hl hl2
 rcases h with rfl | rfl
 ·rw [show R=[] from List.eq_nil_of_length_eq_zero (by omega)]
  rfl
 ·rw [show S=[] from List.eq_nil_of_length_eq_zero (by omega)]
  exact firstD_nil g R
theorem piece_l (g:List Nd→List Nd→Int) (a b:List Nd) (p k:Nat):zaT g (zcf a false p k) (zcf b false p k)=g (sb a (eAt a false p k+bK false) (eAt a false p (k+1))) (sb b (eAt b false p k+bK false) (eAt b false p (k+1))):=by
 simp only [zcf,Bool.false_eq_true,if_false,List.nil_append,zaT]
 by_cases h:g (sb a (eAt a false p k+bK false) (eAt a false p (k+1))) (sb b (eAt b false p k+bK false) (eAt b false p (k+1)))=0
 ·simp [h]
 ·simp [h]
theorem piece_m (g:List Nd→List Nd→Int) (a b:List Nd) (p k:Nat):zaT g (zcf a true p k) (zcf b true p k)=if g (sb a (eAt a true p k) (eAt a true p k+1)) (sb b (eAt b true p k) (eAt b true p k+1))≠0 then g (sb a (eAt a true p k) (eAt a true p k+1)) (sb b (eAt b true p k) (eAt b true p k+1)) else g (sb a (eAt a true p k+bK true) (eAt a true p (k+1))) (sb b (eAt b true p k+bK true) (eAt b true p (k+1))):=by
 simp only [zcf,if_true,List.cons_append,List.nil_append,zaT]
 by_cases h:g (sb a (eAt a true p k+bK true) (eAt a true p (k+1))) (sb b (eAt b true p k+bK true) (eAt b true p (k+1)))=0
 ·simp [h]
 ·simp [h]
theorem zim {n:Nd} (h:zce n=true) (h3:n.kind=3):n.kids=0:=by
 simp only [zce,Bool.and_eq_true,decide_eq_true_eq] at h
 have:=congrArg Nd.kids h.2
 simpa [wantN,h3] using this
theorem ziY (n:Nd):(nA n).cells=nC n:=rfl
theorem walk_ok:∀ (f:Nat) (a b:List Nd) (p:Nat) (ra rb:Nat × Nat),vl a p=some ra→vl b p=some rb→ra.1 - p≤f→a.length≤1000000→b.length≤1000000→ACalls Tryz.prog 195 [.sl (a.flatMap nC) a.length,.sl (b.flatMap nC) b.length,i64 p] [] (fun y _=>∃ e:Int,y=.ret (.tup [i64 (cmpF f (sb a p ra.1) (sb b p rb.1)),i64 e])∧(cmpF f (sb a p ra.1) (sb b p rb.1)=0→e=ra.1∧rb.1=ra.1)):=by
 intro f
 induction f with
 | zero =>
  intro a b p ra rb va vb hf
  have:=zbh va
  omega
 | succ f ih =>
  intro a b p ra rb va vb hf hal hbl
  have la:=zbh va
  have lb:=zbh vb
  obtain⟨x,KA⟩:=zcF va
  obtain⟨y,KB⟩:=zcF vb
  have hx:a.getD p n0d=x:=zaM KA.node
  have hy:b.getD p n0d=y:=zaM KB.node
  have fA:=KA.few
  have fB:=KB.few
  rw [cmpF_sb KA KB]
  obtain⟨D,hD⟩:∃ D,D=zaT (cmpF f) (zci a (decide (x.kind=5)) p x.kids.toNat) (zci b (decide (y.kind=5)) p y.kids.toNat):=⟨_,rfl⟩
  rw [← hD]
  obtain⟨C,hC⟩:∃ C,C=if plainO x y≠0 then plainO x y else if D≠0 then D else cmpI x.kids y.kids:=⟨_,rfl⟩
  rw [← hC]
  refine ACalls.body T_ok Tryz.func195 (by kernel_rfl) rfl Tryz.ntmps195 (congrArg Array.toList Tryz.results195) ?_
  refine aQ27 ?_
  refine W_drawM [(8,.mk 8 66),(0,.mk 9 66),(0,.st 8 66 17),(0,.st 9 66 21)] (by kernel_rfl) (by kernel_rfl) (by kernel_rfl) ?_
  refine aQ27 ?_
  refine⟨by omega,by omega,by omega,Nat.lt_of_lt_of_le la.1 la.2,by omega,by omega,by omega,Nat.lt_of_lt_of_le lb.1 lb.2,?_⟩
  refine⟨rfl,rfl,rfl,?_⟩
  refine aQ27 ?_
  refine⟨rfl,rfl,rfl,?_⟩
  refine aQ27 ?_
  rw [hx,hy]
  refine(plainO_ok x y).pure (by simp [renL,ren_nA]) ?_
  rintro _ σ rfl
  refine⟨zac _ _,?_⟩
  refine aQ27 ?_
  refine⟨fun hp0=>zaR (by simp [AV.ren,renL,zac]) ⟨_,by rw [hC,if_pos hp0],fun h0=>absurd h0 (by rw [hC,if_pos hp0];exact hp0)⟩,fun hp0=>?_⟩
  obtain⟨hk,_,_⟩:=plainO_0.1 hp0
  rw [if_neg (by simp [hp0])] at hC
  have hmp:decide (y.kind=5)=decide (x.kind=5):=by rw [hk]
  have kidA:=@Kids.kid a p x ra KA
  have invA:=KA.inv
  have endA:=KA.ends.1
  have kidB:=@Kids.kid b p y rb KB
  have invB:=KB.inv
  have endB:=KB.ends.1
  simp only [hmp] at kidB invB endB hD
  obtain⟨mp,hm⟩:∃ mp,mp=decide (x.kind=5):=⟨_,rfl⟩
  rw [← hm] at kidA invA endA kidB invB endB hD
  repeat (with_reducible refine zbM ?_)
  rw [zbi]
  refine⟨Nat,fun k=>(k:Int)≤x.kids∧(k:Int)≤y.kids∧eAt a mp p k=eAt b mp p k∧zaT (cmpF f) (zci a mp p k) (zci b mp p k)=0,fun k=>[.sl (a.flatMap nC) a.length,.sl (b.flatMap nC) b.length,i64 ((eAt a mp p k:Nat):Int),.bot,.bot,.bot,.bot,.bot,.ptr 0 0,.ptr 1 0,.bot,.bot,.bot,.bot,.bot,.bot,.bot,.bot,.bot,.bot,.bot,.bot,.bot,.bot,.bot,.bot,.bot,.bot,.bot,.bot,.bot,.bot,.bot,.bot,.bot,i64 (min x.kids y.kids),i64 k,.bot,.bot,.bot,.bot,.bot,.bot,.bot,.bot,.bot,.bot,.bot,.bot,.bot,.bot,.bot,.bot,.bot,.bot,.bot,.bot,.bot,.bot,.bot,.bot,.bot,.bot,.bot,.bot,.bot,.bot,.bot,.bot,.bot,.bot,.bot,.bot,.bot,.bot],fun _=>[.rw (nC x),.rw (nC y)],fun k=>x.kids.toNat - k,0,⟨by omega,by omega,rfl,rfl⟩,zaf (q:=[0,1]) rfl rfl (by decide) ?_ ?_,?_⟩
  ·refine aQ14 ?_
   try exact⟨by simp [zap],by simp [zap],.inr (by simp [eAt]),.inr rfl⟩
  ·simp [zav,zau,zbZ]
  ·rintro k ⟨k1,k2,ke,kd⟩
   refine aQ27 ?_
   refine⟨fun hlt=>?_,fun hge=>?_⟩
   ·have hlx:k < x.kids.toNat:=by omega
    have hly:k < y.kids.toNat:=by omega
    obtain⟨ra',q1,q2,q3⟩:=kidA hlx
    obtain⟨rb',s1,s2,s3⟩:=kidB hly
    have ia:=invA k (by omega)
    have ia1:=invA (k+1) (by omega)
    have ib:=invB k (by omega)
    have ib1:=invB (k+1) (by omega)
    have ga:=zbh q1
    have gb:=zbh s1
    rw [← ke] at s1
    obtain⟨r1,r2⟩:=firstD_round (g:=cmpF f) hlx hly kd
    refine⟨fun h5=>?_,fun h5=>?_⟩
    ·obtain rfl:mp=true:=by rw [hm,decide_eq_true h5]
     obtain⟨na,na1,na2,_⟩:=q3 h5
     obtain⟨nb,nb1,nb2,_⟩:=s3 (by rw [← hk];exact h5)
     clear q3 s3 kidA kidB
     have hga:=zaM na1
     have hgb:=zaM nb1
     have la1:=zbt na1
     have lb1:=zbt nb1
     have za:na.kids=0:=zim la1.2.2 na2
     have zb:nb.kids=0:=zim lb1.2.2 nb2
     have hb1:bK true=1:=rfl
     obtain⟨f',rfl⟩:∃ f',f=f'+1:=⟨f - 1,by omega⟩
     have hpk:=piece_m (cmpF (f'+1)) a b p k
     rw [sb_one la1.1,sb_one lb1.1,hga,hgb,cmpF_one f' za zb] at hpk
     rw [← ke] at hgb lb1
     refine zhd (by kernel_rfl) (by kernel_rfl) ?_
     refine aQ27 ?_
     refine⟨by omega,by omega,by omega,la1.1,by omega,by omega,by omega,lb1.1,?_⟩
     rw [hga,hgb]
     refine zeT (plainO_ok na nb) (by simp [renL,ren_nA]) (zac _ _) ?_
     refine aQ27 ?_
     refine⟨fun hne=>zaR (by simp [AV.ren,renL,zac]) ⟨_,by rw [hC,hD,r2 (by rw [hpk,if_pos hne];exact hne),hpk,if_pos hne,if_pos hne],fun h0=>absurd h0 (by rw [hC,hD,r2 (by rw [hpk,if_pos hne];exact hne),hpk,if_pos hne,if_pos hne];exact hne)⟩,fun heq=>?_⟩
     have hpv:=hpk
     rw [if_neg (by simp [heq]),q2,s2,← ke] at hpv
     repeat (with_reducible refine zbM ?_)
     refine(ih a b (eAt a true p k+bK true) ra' rb' q1 s1 (by omega) hal hbl).pure aQ9 ?_
     rintro _ σ ⟨e',rfl,he'⟩
     refine⟨by simp [AEnd.noid,AV.ren,renL,zac],?_⟩
     obtain⟨v,hv⟩:∃ v,v=cmpF (f'+1) (sb a (eAt a true p k+bK true) ra'.1) (sb b (eAt a true p k+bK true) rb'.1):=⟨_,rfl⟩
     rw [← hv] at he' hpv ⊢
     refine aQ27 ?_
     refine⟨fun hne=>zaR (by simp [AV.ren,renL,zac]) ⟨_,by rw [hC,hD,r2 (by rw [hpv];exact hne),hpv,if_pos hne],fun h0=>absurd h0 (by rw [hC,hD,r2 (by rw [hpv];exact hne),hpv,if_pos hne];exact hne)⟩,fun heq=>?_⟩
     obtain⟨e1,e2⟩:=he' heq
     repeat (with_reducible refine zbM ?_)
     rw [zai]
     refine⟨k+1,⟨by omega,by omega,by rw [q2,s2,e2],by rw [r1,hpv,heq]⟩,by (show x.kids.toNat - (k+1) < x.kids.toNat - k);omega,zaf (q:=[0,1]) rfl rfl (by decide) ?_ ?_⟩
     ·refine aQ14 ?_
      exact⟨by simp [zap],by simp [zap],.inr (by rw [e1,q2]),.inr (by omega)⟩
     ·simp [zav,zau,zbZ]
    ·obtain rfl:mp=false:=by rw [hm,decide_eq_false h5]
     clear q3 s3 kidA kidB
     have hpv:=piece_l (cmpF f) a b p k
     have hb1:bK false=0:=rfl
     rw [q2,s2,← ke] at hpv
     refine(ih a b (eAt a false p k+bK false) ra' rb' q1 s1 (by omega) hal hbl).pure aQ9 ?_
     rintro _ σ ⟨e',rfl,he'⟩
     refine⟨by simp [AEnd.noid,AV.ren,renL,zac],?_⟩
     obtain⟨v,hv⟩:∃ v,v=cmpF f (sb a (eAt a false p k+bK false) ra'.1) (sb b (eAt a false p k+bK false) rb'.1):=⟨_,rfl⟩
     rw [← hv] at he' hpv ⊢
     refine aQ27 ?_
     refine⟨fun hne=>zaR (by simp [AV.ren,renL,zac]) ⟨_,by rw [hC,hD,r2 (by rw [hpv];exact hne),hpv,if_pos hne],fun h0=>absurd h0 (by rw [hC,hD,r2 (by rw [hpv];exact hne),hpv,if_pos hne];exact hne)⟩,fun heq=>?_⟩
     obtain⟨e1,e2⟩:=he' heq
     repeat (with_reducible refine zbM ?_)
     rw [zai]
     refine⟨k+1,⟨by omega,by omega,by rw [q2,s2,e2],by rw [r1,hpv,heq]⟩,by (show x.kids.toNat - (k+1) < x.kids.toNat - k);omega,zaf (q:=[0,1]) rfl rfl (by decide) ?_ ?_⟩
     ·refine aQ14 ?_
      exact⟨by simp [zap],by simp [zap],.inr (by rw [e1,q2]),.inr (by omega)⟩
     ·simp [zav,zau,zbZ]
   ·refine(cmpI_ok x.kids y.kids).pure (by simp [renL,zac]) ?_
    rintro _ σ rfl
    refine⟨zac _ _,?_⟩
    refine aQ27 ?_
    have hD0:D=0:=by
     rw [hD]
     exact firstD_last (k:=k) (by omega) (by omega) (by omega) kd
    rw [if_neg (by simp [hD0])] at hC
    refine zaR (by simp [AV.ren,renL,zac]) ⟨_,by rw [hC],fun h0=>?_⟩
    rw [hC,cmpI_0] at h0
    obtain rfl:k=x.kids.toNat:=by omega
    have e2:y.kids.toNat=x.kids.toNat:=by omega
    rw [e2] at endB
    exact⟨by rw [endA],by rw [← endA,← endB,ke]⟩
end Go.Proofs.YtdigkoejfgmecaaGreatDoor
end

section
namespace Go.Proofs.YtdigkoejfgmecaaGreatDoor
open Go Go.Eng
theorem zgq {g h:List Nd→List Nd→Int}:∀ (L M:List (List Nd)),(∀ x∈L,∀ y∈M,g x y=h x y)→zaT g L M=zaT h L M
 | [],_,_=>rfl
 | _::_,[],_=>rfl
 | a::L,b::M,hh=>by
  simp only [zaT]
  rw [hh a (List.mem_cons_self ..) b (List.mem_cons_self ..),zgq L M (fun x hx y hy=>hh x (List.mem_cons_of_mem _ hx) y (List.mem_cons_of_mem _ hy))]
theorem cmpF_fuel:∀ (f g:Nat) (a b:List Nd),Val a→Val b→a.length≤f→a.length≤g→cmpF f a b=cmpF g a b:=by
 intro f
 induction f with
 | zero =>
  intro g a b ⟨_,d,hv⟩ _ hf
  have:=zbh hv
  omega
 | succ f ih =>
  intro g a b hA hB hf hg
  obtain⟨ha,da,va⟩:=hA
  obtain⟨hb,db,vb⟩:=hB
  have la:=(zbh va).1
  obtain⟨g,rfl⟩:∃ g',g=g'+1:=⟨g - 1,by dsimp only at la;omega⟩
  obtain⟨x,KA⟩:=zcF va
  obtain⟨y,KB⟩:=zcF vb
  have hx:a.getD 0 n0d=x:=zaM KA.node
  have hy:b.getD 0 n0d=y:=zaM KB.node
  rw [zfJ,zfJ]
  dsimp only
  rw [hx,hy]
  have vA:=val_vals ⟨ha,da,va⟩ KA
  have vB:=val_vals ⟨hb,db,vb⟩ KB
  rw [zgq _ _ fun u hu v hv=>ih g u v (vA u hu).1 (vB v hv).1 (by have:=(vA u hu).2;omega) (by have:=(vA u hu).2;omega)]
def cmpV (a b:List Nd):Int:=cmpF a.length a b
theorem cmpV_eq {a b:List Nd} (hA:Val a) (hB:Val b) {f:Nat} (hf:a.length≤f):cmpF f a b=cmpV a b:=cmpF_fuel f a.length a b hA hB hf (Nat.le_refl _)
theorem cmpR_eq {a b:List Nd}:cmpR a b=if zar a=0∧zar b=0 then cmpV a b else 0:=rfl
theorem sb_all (l:List Nd):sb l 0 l.length=l:=by simp [sb]
theorem ocmp_ok (a b:List Nd) (hA:Val a) (hB:Val b):ACalls Tryz.prog 164 [.sl (a.flatMap nC) a.length,.sl (b.flatMap nC) b.length] [] (fun y _=>y=.ret (i64 (cmpV a b))):=by
 obtain⟨ha,da,va⟩:=hA
 obtain⟨hb,db,vb⟩:=hB
 refine ACalls.body T_ok Tryz.func164 (by kernel_rfl) rfl Tryz.ntmps164 (congrArg Array.toList Tryz.results164) ?_
 refine aQ28 ?_
 refine(walk_ok a.length a b 0 _ _ va vb (Nat.le_refl _) (by omega) (by omega)).pure aQ9 ?_
 rintro _ σ ⟨e,rfl,_⟩
 refine⟨by simp [AEnd.noid,AV.ren,renL,zac],?_⟩
 rw [sb_all,sb_all,cmpV_eq ⟨ha,da,va⟩ ⟨hb,db,vb⟩ (Nat.le_refl _)]
 refine aQ28 ?_
 exact zaQ rfl
theorem bs_ss2 (e:TypeId) (c d:List AV) (n m:Nat) (σ:zaa) (K:AV→zaa→Prop):bs2 (some (tySl e)) 2 [(0,.sl c n),(1,.sl d m)] σ K=K (.ref σ.length 0 2 1) (σ++[.rw [.sl c n,.sl d m]]):=bs_sl_2 e _ _ rfl rfl rfl rfl σ K
theorem ldd_Ns0 {K:AV→Prop} (e:TypeId) (L:List (List Nd)):ld2 (some (tySl e)) (some (L.map slNs)) 0 K=(0 < L.length∧K (slNs (L.getD 0 []))):=ldd_Ns e L 0 K
theorem oCompare_ok (a b:List Nd) (ha:a.length≤1000) (hb:b.length≤1000):ACalls Tryz.prog 130 [.sl (a.flatMap nC) a.length,.sl (b.flatMap nC) b.length] [] (fun y _=>y=.ret (i64 (cmpR a b))):=by
 refine ACalls.body T_ok Tryz.func130 (by kernel_rfl) rfl Tryz.ntmps130 (congrArg Array.toList Tryz.results130) ?_
 refine aQ29 ?_
 refine ACalls.frz [0] (l':=[.sl ([a,b].map slNs) [a,b].length]) ⟨_,_,rfl,frz_Ns (L:=[a,b]) rfl rfl,rfl⟩ ?_
 refine(ovalues_ok [a,b] (by simp) (by simp;omega)).pure (noid_Ns _ _ _) ?_
 rintro _ σ ⟨rfl,rfl⟩
 refine⟨by simp [AEnd.noid,AV.ren,renL,zaN,zaC],?_⟩
 have hall:allV [a,b]=decide (zar a=0∧zar b=0):=by simp [allV]
 rw [hall,cmpR_eq]
 by_cases h:zar a=0∧zar b=0
 ·rw [decide_eq_true h,if_pos rfl,if_pos h]
  obtain⟨L,hL⟩:∃ L,L=[a,b]:=⟨_,rfl⟩
  rw [← hL]
  have h0:L.getD 0 []=a:=by rw [hL];rfl
  have h1:L.getD 1 []=b:=by rw [hL];rfl
  have hl:L.length=2:=by rw [hL];rfl
  refine aQ29 ?_
  refine zhd (by kernel_rfl) (by kernel_rfl) ?_
  refine aQ29 ?_
  refine⟨by omega,by omega,by omega,by omega,by omega,by omega,by omega,by omega,?_⟩
  rw [h0,h1]
  refine zeT (ocmp_ok a b (val_of h.1) (val_of h.2)) (noid_N2 _ _ _ _ _) (zac _ _) ?_
  refine aQ29 ?_
  exact zaQ rfl
 ·rw [decide_eq_false h,if_neg h]
  refine aQ29 ?_
  exact zaQ rfl
end Go.Proofs.YtdigkoejfgmecaaGreatDoor
end

