/-
  The document's elements and terms, the law's walk, what comes in, and what the listed variables hold. No condition.
-/
import Derived.Test.YtcahoelfogjljaaGreatDoorTerM
import Derived.WalkKit
import Derived.ProofKit
import Derived.OpenShut
import Derived.ShutString
import Derived.SliceStrings
import Derived.LaidMore
import Derived.Lay
import Derived.LaidHandle
import Derived.Stop.LaidErr
import Derived.Lib.LaidTab
import Derived.Stop.Joined
import Derived.HandedShaped
import Derived.Shelf.Strings.Shaped
set_option linter.unusedSimpArgs false
set_option linter.unusedVariables false
set_option linter.unusedSectionVars false
section
namespace Go.Eng
open Go
theorem aQ15 {P:Prop} (e:P:=by rw [List.length_append,List.length_take,List.length_singleton];omega):P:=e
theorem aQ52 {P Q:Prop} (h:Q) (e:P=Q:=by first|(simp -implicitDefEqProofs only [LM7,LB23,LB24,LB25,eq_self,zam,lzS,zbC,zap,zaM,zau,zal,TB,SB,Int.reduceToNat,Nat.reduceAdd,Nat.reduceEqDiff,Nat.reduceLT,Nat.reduceMod,Nat.reducePow,Nat.reduceSub,if_true,reduceIte];first|done|exact rfl)|exact rfl):P:=e ▸ h
theorem aQ53 {P Q:Prop} (h:Q) (e:P=Q:=by first|(simp -implicitDefEqProofs only [LM7,LB23,LB24,LB25,eq_self,zam,lzS,zbC,zap,zaM,zau,zal,slNs,TB,SB,Int.reduceToNat,Nat.reduceAdd,Nat.reduceEqDiff,Nat.reduceLT,Nat.reduceMod,Nat.reducePow,Nat.reduceSub,if_true,reduceIte];first|done|exact rfl)|exact rfl):P:=e ▸ h
theorem aQ54 {P Q:Prop} (h:Q) (e:P=Q:=by first|(simp -implicitDefEqProofs only [LM9,eq_self,zam,lzS,zbC,zap,zaM,zal,TB,SB,Int.reduceToNat,Nat.reduceAdd,Nat.reduceEqDiff,Nat.reduceLT,Nat.reduceMod,Nat.reducePow,Nat.reduceSub,if_true,reduceIte];first|done|exact rfl)|exact rfl):P:=e ▸ h
theorem aQ55 {P Q:Prop} (h:Q) (e:P=Q:=by first|(simp -implicitDefEqProofs only [LM9,eq_self,zam,lzS,zbC,zap,zaM,zal,zfY,TB,SB,Int.reduceToNat,Nat.reduceAdd,Nat.reduceEqDiff,Nat.reduceLT,Nat.reduceMod,Nat.reducePow,Nat.reduceSub,if_true,reduceIte];first|done|exact rfl)|exact rfl):P:=e ▸ h
end Go.Eng
end

section
namespace Go.Proofs.YtcahoelfogjljaaGreatDoor
open Go Go.Eng
theorem steps_in {s:List UInt8} {l:List Pt} (h:zbz s=(l,0)):(∀ x∈l,inI x.pos)∧l.length≤120:=by
 obtain⟨_,h1,_⟩:=zjb h
 rw [List.all_eq_true] at h1
 refine⟨fun x hx=>?_,?_⟩
 ·have:=h1 x hx
  simp only [okP,Bool.or_eq_true,Bool.and_eq_true,decide_eq_true_eq] at this
  unfold inI
  rcases this with h2 | h2
  ·omega
  ·omega
 ·have:=pathV_len s
  rw [h] at this
  exact this
theorem rbegin_ok (v:List Nd) (s:List UInt8) (hv:v.length≤1000) (hs:s.length≤1000000000):ACalls Tryz.prog 81 [.sl (v.flatMap nC) v.length,str s] [] (fun y _=>y=.ret (.tup [slP (zbe v s).1,i64 (zbe v s).2])):=by
 refine ACalls.body T_ok Tryz.func81 (by kernel_rfl) rfl Tryz.ntmps81 (congrArg Array.toList Tryz.results81) ?_
 refine aQ47 ?_
 refine(zir v hv).pure (by simp [renL,AV.ren,zat]) ?_
 rintro _ σ rfl
 refine⟨zae _ _,?_⟩
 by_cases h1:zaz v=0
 rotate_left
 ·try simp -implicitDefEqProofs only [LM9,eq_self,zam,lzS,zbC,zap,zaM,decide_eq_false h1,TB,SB,Int.reduceToNat,Nat.reduceAdd,Nat.reduceEqDiff,Nat.reduceLT,Nat.reduceMod,Nat.reducePow,Nat.reduceSub,if_true,reduceIte]
  have e:zbe v s=([],zaz v):=by rw [zbe,if_neg h1]
  rw [e]
  exact zbE [] (.tup [.sl (([]:List Pt).flatMap ptC) 0,i64 (zaz v)]) ⟨_,rfl,_,_,rfl,.inr ⟨rfl,rfl⟩,_,_,rfl,.inl rfl,rfl⟩ ⟨[],_,[],rfl,rfl,by decide,by simp [AV.ren,renL,slP,zae],trivial,rfl⟩
 rw [h1]
 refine aQ47 ?_
 refine(rpath_ok s (by omega)).pure (by simp [renL,zah]) ?_
 rintro _ σ rfl
 refine⟨by simp [AEnd.noid,AV.ren,renL,ze8,zae],?_⟩
 refine aQ47 ?_
 have e:zbe v s=zbz s:=by rw [zbe,if_pos h1]
 rw [e]
 exact zaP (by simp [AV.ren,renL,ze8,zae]) rfl
theorem rEach_ok (v:List Nd) (s:List UInt8) (hv:v.length≤1000) (hs:s.length≤1000000000):ACalls Tryz.prog 45 [.sl (v.flatMap nC) v.length,str s] [] (fun y _=>y=.ret (.tup [.sl ((zcb v s).1.map slNs) (zcb v s).1.length,i64 (zcb v s).2])):=by
 have hok:=@zem v s
 have hin:=fun h=>@steps_in s (zbz s).1 h
 refine ACalls.body T_ok Tryz.func45 (by kernel_rfl) rfl Tryz.ntmps45 (congrArg Array.toList Tryz.results45) ?_
 refine aQ47 ?_
 refine(rbegin_ok v s hv hs).pure aQ12 ?_
 rintro _ σ rfl
 refine⟨by simp [AEnd.noid,AV.ren,renL,ze8,zae],?_⟩
 by_cases h1:(zbe v s).2=0
 rotate_left
 ·have e:zcb v s=([],(zbe v s).2):=by rw [zcb,if_neg h1]
  rw [e]
  try simp -implicitDefEqProofs only [LM9,eq_self,zam,lzS,zbC,zap,zaM,decide_eq_false h1,TB,SB,Int.reduceToNat,Nat.reduceAdd,Nat.reduceEqDiff,Nat.reduceLT,Nat.reduceMod,Nat.reducePow,Nat.reduceSub,if_true,reduceIte]
  exact zbE [] (.tup [.sl (([]:List (List Nd)).map slNs) 0,i64 (zbe v s).2]) ⟨_,rfl,_,_,rfl,.inr ⟨rfl,rfl⟩,_,_,rfl,.inl rfl,rfl⟩ ⟨[],_,[],rfl,rfl,by decide,zcr [] 0 _ _,trivial,rfl⟩
 obtain⟨he,hst⟩:=hok h1
 rw [hst] at h1
 obtain⟨i1,i2⟩:=hin (Prod.ext rfl h1)
 have e:zcb v s=(EA v (zbz s).1,0):=by rw [zcb,hst,if_pos h1,each_EA he]
 rw [e,hst]
 generalize (zbz s).1=l at i1 i2 ⊢
 try simp -implicitDefEqProofs only [LM9,eq_self,zam,lzS,zbC,zap,zaM,decide_eq_true h1,slP,TB,SB,Int.reduceToNat,Nat.reduceAdd,Nat.reduceEqDiff,Nat.reduceLT,Nat.reduceMod,Nat.reducePow,Nat.reduceSub,if_true,reduceIte]
 refine(zhB (v.length+l.length) v l (Nat.le_refl _) he i1 (by omega)).pure aQ14 ?_
 rintro _ σ rfl
 refine⟨by simp [AEnd.noid,AV.ren,zaB],?_⟩
 refine aQ47 ?_
 exact zaP (zcr _ _ _ _) rfl
end Go.Proofs.YtcahoelfogjljaaGreatDoor
end

section
namespace Go.Proofs.YtcahoelfogjljaaGreatDoor
open Go Go.Eng
theorem each_err {v x:List Nd} {s:List UInt8} (h:x∈(zcb v s).1):zaz x=0:=by
 unfold zcb at h
 split at h
 ·rename_i h0
  have he:=(zem h0).1
  obtain⟨q,hq,rfl⟩:=List.mem_map.1 h
  rw [← List.take_length (l:=(zbe v s).1)] at hq
  obtain⟨n,rfl,hn⟩:=zdn (zbA he).1 (Nat.le_refl _) hq
  exact zeI he hn
 ·cases h
theorem elem_err {v x:List Nd} {s:List UInt8} (h:x∈zcA v s):zaz x=0∧zaV x=true:=by
 obtain⟨y,hy,hx⟩:=List.mem_flatMap.1 h
 have he:=each_err hy
 unfold zfs at hx
 split at hx
 ·exact⟨(kid_small he (zdP hx).1).1,(zdP hx).2⟩
 ·rw [List.mem_singleton.1 (zdP hx).1]
  refine⟨he,?_⟩
  have:=(zdP hx).2
  rwa [List.mem_singleton.1 (zdP hx).1] at this
theorem zhg (v:List Nd) (s:List UInt8) (hv:v.length≤1000) (hs:s.length≤1000000000):ACalls Tryz.prog 17 [.sl (v.flatMap nC) v.length,str s] [] (fun y _=>y=.ret (.tup [.sl ((zcA v s).map slNs) (zcA v s).length,i64 (zcb v s).2])):=by
 have hmem:=fun x=>@each_err v x s
 have hfew:=zjW v s
 obtain⟨E,hE⟩:∃ E,E=zcA v s:=⟨_,rfl⟩
 rw [← hE]
 unfold zcA at hE
 have hnone:(zcb v s).2≠0→(zcb v s).1=[]:=by
  intro h
  unfold zcb at h ⊢
  split
  ·rename_i h0;rw [if_pos h0] at h;exact absurd rfl h
  ·rfl
 refine ACalls.body T_ok Tryz.func17 (by kernel_rfl) rfl Tryz.ntmps17 (congrArg Array.toList Tryz.results17) ?_
 refine aQ52 ?_
 refine(rEach_ok v s hv hs).pure aQ11 ?_
 rintro _ σ rfl
 refine⟨zcr _ _ _ _,?_⟩
 generalize zcb v s=X at hmem hfew hE hnone ⊢
 obtain⟨l,e⟩:=X
 dsimp only at hmem hfew hE hnone ⊢
 by_cases he:e=0
 rotate_left
 ·try simp -implicitDefEqProofs only [LM7,LB23,LB24,LB25,eq_self,zam,lzS,zbC,zap,zaM,zau,zal,decide_eq_false he,TB,SB,Int.reduceToNat,Nat.reduceAdd,Nat.reduceEqDiff,Nat.reduceLT,Nat.reduceMod,Nat.reducePow,Nat.reduceSub,if_true,reduceIte]
  rw [hnone he] at hE
  subst hE
  exact zbE [] (.tup [.sl (([]:List (List Nd)).map slNs) 0,i64 e]) ⟨_,rfl,_,_,rfl,.inr ⟨rfl,rfl⟩,_,_,rfl,.inl rfl,rfl⟩ ⟨[],_,[],rfl,rfl,by decide,zcr [] 0 e _,trivial,rfl⟩
 subst he
 refine aQ52 ?_
 rw [zaN]
 refine⟨Nat,fun k=>k≤l.length,fun k=>[.bot,.bot,.bot,.bot,.bot,.bot,.sl (l.map slNs) l.length,.bot,.ref 0 0 (zeG (l.take k)).length 1,i64 k,.bot,.bot,.bot,.bot,.bot,.bot,.bot,.bot,.bot,.bot,.bot,.bot,.bot,.bot,.bot,.bot,.bot,.bot,.bot,.bot,.bot,.bot,.bot,.bot,.bot,.bot,.bot,.bot,.bot,.bot,.bot,.bot,.bot,.bot,.bot,.bot,.bot,.bot,.bot,.bot,.bot,.bot,.bot,.bot,.bot,.bot,.bot,.bot,.bot,.bot,.bot,.bot,.bot,.bot,.bot,.bot,.bot,.bot,.bot,.bot,.bot,.bot,.bot,.bot,.bot,.bot,.bot,.bot,.bot,.bot,.bot,.bot,.bot,.bot,.bot,.bot,.bot,.bot],fun k=>[.rw ((zeG (l.take k)).map slNs)],fun k=>l.length - k,0,Nat.zero_le _,zbI 8 1 rfl (zab (q:=[0]) rfl rfl (by decide) ?_ ?_),?_⟩
 ·refine aQ19 ?_
  simp [zaB,AV.ren,zeG]
 ·refine aQ19 ?_
  simp [zao,zar,renL,zeG]
 intro k hk
 have hk:k≤l.length:=hk
 dsimp only
 by_cases hlt:k < l.length
 rotate_left
 ·obtain rfl:k=l.length:=by omega
  have dk:decide ((l.length:Int) < (l.length:Int))=false:=decide_eq_false (by omega)
  rw [List.take_length]
  try simp -implicitDefEqProofs only [LM7,LB23,LB24,LB25,eq_self,zam,lzS,zbC,zap,zaM,zau,zal,dk,TB,SB,Int.reduceToNat,Nat.reduceAdd,Nat.reduceEqDiff,Nat.reduceLT,Nat.reduceMod,Nat.reducePow,Nat.reduceSub,if_true,reduceIte]
  rw [← hE]
  exact zbE [0] (.tup [.sl (E.map slNs) E.length,i64 0]) ⟨_,rfl,_,_,rfl,zeF rfl,_,_,rfl,.inl rfl,rfl⟩ ⟨[],_,[],rfl,rfl,by decide,by simp [AV.ren,renL,zaB,zae],trivial,rfl⟩
 have dk:decide ((k:Int) < (l.length:Int))=true:=decide_eq_true (by omega)
 have hst:=ziA hlt
 have hle:=elem_le l k hk
 obtain⟨x,hx⟩:∃ x,x=l.getD k []:=⟨_,rfl⟩
 have he:=hmem (l.getD k []) (by rw [List.getD_eq_getElem?_getD,List.getElem?_eq_getElem hlt];exact List.getElem_mem hlt)
 rw [← hx] at hst he
 obtain⟨x0,x120⟩:=zbA he
 try simp -implicitDefEqProofs only [LM7,LB23,LB24,LB25,eq_self,zam,lzS,zbC,zap,zaM,zau,zal,dk,TB,SB,Int.reduceToNat,Nat.reduceAdd,Nat.reduceEqDiff,Nat.reduceLT,Nat.reduceMod,Nat.reducePow,Nat.reduceSub,if_true,reduceIte]
 refine⟨by omega,by omega,Nat.le_refl _,hlt,?_⟩
 rw [← hx]
 refine(zg4 x x0 (by omega)).pure (by simp [renL,AV.ren,zat]) ?_
 rintro _ σ rfl
 refine⟨zak _ _,?_⟩
 have hk4:zaV x=true→(x.getD 0 n0d).kind≠4:=by
  intro h h4;unfold zaV at h;rw [h4] at h;exact absurd h (by decide)
 have hkf:=zjY x
 cases hp:zaV x with
 | true =>
  have h4:=hk4 hp
  have hX:zfs x=[x]:=by rw [zfs,if_neg h4];simp [zbf,hp]
  rw [hX] at hst
  refine aQ53 ?_
  refine⟨by omega,by omega,Nat.le_refl _,hlt,?_⟩
  rw [← hx]
  refine aQ53 ?_
  refine zaQ slNs zdi rfl rfl T34 T34 (zcS _) T22 (Go.Eng.one_sl _) (l:=zeG (l.take k)) (ys:=[x]) (m:=1) rfl rfl rfl (by omega) (by simp only [tySl];omega) ?_
  refine aQ52 ?_
  refine⟨by omega,by omega,Nat.le_refl _,hlt,?_⟩
  rw [← hx]
  refine aQ53 ?_
  refine⟨by omega,by omega,Nat.le_refl _,?_⟩
  rw [ziK (t:=0) x0]
  try simp -implicitDefEqProofs only [LM7,LB23,LB24,LB25,eq_self,zam,lzS,zbC,zap,zaM,zau,zal,decide_eq_false h4,TB,SB,Int.reduceToNat,Nat.reduceAdd,Nat.reduceEqDiff,Nat.reduceLT,Nat.reduceMod,Nat.reducePow,Nat.reduceSub,if_true,reduceIte]
  refine⟨by unfold inI;omega,?_⟩
  rw [zac]
  refine⟨k+1,by (show k+1≤l.length);omega,by (show l.length - (k+1) < l.length - k);omega,?_⟩
  rw [hst,List.length_append]
  refine zab (q:=[2]) rfl rfl (by decide) ?_ ?_
  ·refine aQ19 ?_
   simp [zaB,AV.ren]
  ·refine aQ19 ?_
   exact aQ38 trivial
 | false =>
  refine aQ52 ?_
  refine⟨by omega,by omega,Nat.le_refl _,hlt,?_⟩
  rw [← hx]
  refine aQ53 ?_
  refine⟨by omega,by omega,Nat.le_refl _,?_⟩
  rw [ziK (t:=0) x0]
  by_cases h4:(x.getD 0 n0d).kind=4
  rotate_left
  ·have hX:zfs x=[]:=by rw [zfs,if_neg h4];simp [zbf,hp]
   rw [hX,List.append_nil] at hst
   try simp -implicitDefEqProofs only [LM7,LB23,LB24,LB25,eq_self,zam,lzS,zbC,zap,zaM,zau,zal,decide_eq_false h4,TB,SB,Int.reduceToNat,Nat.reduceAdd,Nat.reduceEqDiff,Nat.reduceLT,Nat.reduceMod,Nat.reducePow,Nat.reduceSub,if_true,reduceIte]
   refine⟨by unfold inI;omega,?_⟩
   rw [zac]
   refine⟨k+1,by (show k+1≤l.length);omega,by (show l.length - (k+1) < l.length - k);omega,?_⟩
   rw [hst]
   refine zab (q:=[0]) rfl rfl (by decide) ?_ ?_
   ·refine aQ19 ?_
    simp [zaB,AV.ren]
   ·refine aQ19 ?_
    exact aQ38 trivial
  have hX:zfs x=zbf zaV (zbB x (zaA x 0) (zaA x 0).length):=by rw [zfs,if_pos h4,zbB,List.take_length];rfl
  obtain⟨r,hr1,_,_,_⟩:=zbD he x0
  have hkz:=kidZ_eq he
  have hkl:=zeE x 0 (by omega)
  have hkm:=fun q=>@zdN x 0 q
  try simp -implicitDefEqProofs only [LM7,LB23,LB24,LB25,eq_self,zam,lzS,zbC,zap,zaM,zau,zal,decide_eq_true h4,TB,SB,Int.reduceToNat,Nat.reduceAdd,Nat.reduceEqDiff,Nat.reduceLT,Nat.reduceMod,Nat.reducePow,Nat.reduceSub,if_true,reduceIte]
  refine⟨by omega,by omega,Nat.le_refl _,hlt,?_⟩
  rw [← hx,show slNs x=.sl (x.flatMap nC) x.length from rfl]
  refine(zdo x (by omega) 0 (by omega) hr1).pure aQ13 ?_
  rintro _ σ rfl
  refine⟨zcq _ _ _ _ _ _,?_⟩
  rw [hkz]
  rw [hX] at hst hkf
  clear hkz hX
  generalize zaA x 0=ps at hkl hkm hst hkf ⊢
  generalize keyZ x 0 (x.getD 0 n0d).kids.toNat=ss
  obtain⟨B,hB⟩:∃ B,B=zeG (l.take k):=⟨_,rfl⟩
  rw [← hB] at hst hle
  try simp -implicitDefEqProofs only [LM7,LB23,LB24,LB25,eq_self,zam,lzS,zbC,zap,zaM,zau,zal,← hB,TB,SB,Int.reduceToNat,Nat.reduceAdd,Nat.reduceEqDiff,Nat.reduceLT,Nat.reduceMod,Nat.reducePow,Nat.reduceSub,if_true,reduceIte]
  rw [zaN]
  refine⟨Nat,fun j=>j≤ps.length,fun j=>[.bot,.bot,.bot,.bot,.bot,.bot,.sl (l.map slNs) l.length,.bot,.ref 0 0 (B++zbf zaV (zbB x ps j)).length 1,i64 k,.ptr 1 0,i64 j,.bot,.bot,.bot,.bot,.bot,.bot,.bot,.bot,.bot,.bot,.bot,.bot,.bot,.bot,.bot,.bot,.bot,.bot,.bot,.bot,.bot,.bot,.bot,.bot,.bot,.bot,.bot,.bot,.bot,.bot,.bot,.bot,.bot,.bot,.bot,.bot,.bot,.bot,.bot,.bot,.bot,.bot,.bot,.bot,.bot,.bot,.bot,.bot,.bot,.bot,.bot,.bot,.bot,.bot,.bot,.bot,.bot,.bot,.bot,.bot,.bot,.bot,.bot,.bot,.bot,.bot,.bot,.bot,.bot,.bot,.bot,.bot,.bot,.bot,.bot,.bot],fun j=>[.rw ((B++zbf zaV (zbB x ps j)).map slNs),.rw (sC r.1 r.2 false (slI ps) (slI ss))],fun j=>ps.length - j,0,Nat.zero_le _,zab (q:=[0,1]) rfl rfl (by decide) ?_ ?_,?_⟩
  ·refine aQ19 ?_
   simp [zaB,AV.ren,zbB,zbf]
  ·refine aQ19 ?_
   simp [zao,zar,zbL,zaB,zbB,zbf]
  intro j hj
  have hj:j≤ps.length:=hj
  dsimp only
  by_cases jlt:j < ps.length
  rotate_left
  ·obtain rfl:j=ps.length:=by omega
   have dj:decide ((ps.length:Int) < (ps.length:Int))=false:=decide_eq_false (by omega)
   rw [← hst]
   try simp -implicitDefEqProofs only [LM7,LB23,LB24,LB25,eq_self,zam,lzS,zbC,zap,zaM,zau,zal,dj,TB,SB,Int.reduceToNat,Nat.reduceAdd,Nat.reduceEqDiff,Nat.reduceLT,Nat.reduceMod,Nat.reducePow,Nat.reduceSub,if_true,reduceIte]
   refine⟨by unfold inI;omega,?_⟩
   rw [zac]
   refine⟨k+1,by (show k+1≤l.length);omega,by (show l.length - (k+1) < l.length - k);omega,?_⟩
   refine zab (q:=[0]) rfl rfl (by decide) ?_ ?_
   ·refine aQ19 ?_
    simp [zaB,AV.ren]
   ·refine aQ19 ?_
    exact aQ38 trivial
  have dj:decide ((j:Int) < (ps.length:Int))=true:=decide_eq_true (by omega)
  have hsb:=ziz (v:=x) jlt
  have hln:(zbf zaV (zbB x ps j)).length≤j:=Nat.le_trans (zgu _ _) (by unfold zbB;rw [List.length_map,List.length_take];omega)
  obtain⟨n,hn1,hn2⟩:=hkm (ps.getD j 0) (by rw [List.getD_eq_getElem?_getD,List.getElem?_eq_getElem jlt];exact List.getElem_mem jlt)
  rw [hn1] at hsb
  obtain⟨r2,hr2,_,_,_⟩:=zbD he hn2
  obtain⟨hp2,hl2,g1,g2⟩:=zc1 he hn2 hr2
  have hsub:=zed he hn2 hr2
  try simp -implicitDefEqProofs only [LM7,LB23,LB24,LB25,eq_self,zam,lzS,zbC,zap,zaM,zau,zal,dj,TB,SB,Int.reduceToNat,Nat.reduceAdd,Nat.reduceEqDiff,Nat.reduceLT,Nat.reduceMod,Nat.reducePow,Nat.reduceSub,if_true,reduceIte]
  refine zdb (by kernel_rfl) (by kernel_rfl) ?_
  refine aQ53 ?_
  refine⟨by omega,by omega,Nat.le_refl _,hlt,by omega,by omega,jlt,?_⟩
  refine⟨by omega,by omega,Nat.le_refl _,hlt,by omega,by omega,jlt,?_⟩
  rw [← hx,hn1]
  refine zcI (zdo x (by omega) n (by omega) hr2) aQ13 (zcq _ _ _ _ _ _) ?_
  refine aQ52 ?_
  refine sl_N T22 T51 (by omega) (by omega) (by omega) ?_
  rw [show (r2.1:Int).toNat=r2.1 from rfl,Int.toNat_natCast,← hsub]
  refine aQ52 ?_
  rw [← hl2]
  refine(zg4 (zaC x n) (by omega) (by omega)).pure (by simp [renL,AV.ren,zat]) ?_
  rintro _ σ rfl
  refine⟨zak _ _,?_⟩
  have hpk:B++zbf zaV (zbB x ps (j+1))=(B++zbf zaV (zbB x ps j))++(if zaV (zaC x n) then [zaC x n] else []):=by
   rw [hsb,zbf,List.filter_append,List.append_assoc]
   cases hq:zaV (zaC x n) <;> simp [zbf,hq]
  cases hq:zaV (zaC x n) with
  | false =>
   rw [hq,if_neg (by decide),List.append_nil] at hpk
   refine aQ52 ?_
   refine⟨by unfold inI;omega,?_⟩
   rw [zac]
   refine⟨j+1,by (show j+1≤ps.length);omega,by (show ps.length - (j+1) < ps.length - j);omega,?_⟩
   rw [hpk]
   refine zab (q:=[0,1]) rfl rfl (by decide) ?_ ?_
   ·refine aQ19 ?_
    simp [zaB,AV.ren]
   ·refine aQ19 ?_
    simp [-List.map_append,zao,zar,zbL,zaB]
  | true =>
   rw [hq,if_pos rfl] at hpk
   have hlen:(B++zbf zaV (zbB x ps j)++[zaC x n]).length=(B++zbf zaV (zbB x ps j)).length+1:=by simp only [List.length_append,List.length_singleton]
   refine aQ53 ?_
   refine zaQ slNs zdi rfl rfl T34 T34 (zcS _) T22 (Go.Eng.one_sl _) (l:=B++zbf zaV (zbB x ps j)) (ys:=[zaC x n]) (m:=1) rfl rfl rfl (by rw [List.length_append];omega) (by simp only [tySl,List.length_append];omega) ?_
   refine aQ52 ?_
   refine⟨by unfold inI;omega,?_⟩
   rw [zac]
   refine⟨j+1,by (show j+1≤ps.length);omega,by (show ps.length - (j+1) < ps.length - j);omega,?_⟩
   rw [hpk,hlen]
   refine zab (q:=[3,1]) rfl rfl (by decide) ?_ ?_
   ·refine aQ19 ?_
    simp [zaB,AV.ren]
   ·refine aQ19 ?_
    simp [-List.map_append,zao,zar,zbL,zaB]
end Go.Proofs.YtcahoelfogjljaaGreatDoor
end

section
namespace Go.Proofs.YtcahoelfogjljaaGreatDoor
open Go Go.Eng
theorem hasR_ok (l:List (List UInt8)) (w:List UInt8) (hl:l.length≤1000000000000):ACalls Tryz.prog 25 [.sl (l.map str) l.length,str w] [] (fun y _=>y=.ret (bl (decide (w∈l)))):=by
 refine ACalls.body T_ok Tryz.func25 (by kernel_rfl) rfl Tryz.ntmps25 (congrArg Array.toList Tryz.results25) ?_
 refine aQ54 ?_
 rw [zaN]
 refine⟨Nat,fun k=>k≤l.length∧∀ i,i < k→l.getD i []≠w,fun k=>[.sl (l.map str) l.length,str w,.bot,.bot,bl false,i64 k,.bot,.bot,.bot,.bot,.bot,.bot,.bot,.bot,.bot,.bot,.bot,.bot],fun _=>[],fun k=>l.length - k,0,⟨Nat.zero_le _,fun i hi=>by omega⟩,?_,?_⟩
 ·refine zab (q:=[]) rfl rfl (by decide) ?_ ?_
  ·refine aQ19 ?_
   simp [zaX,AV.ren,renL,str]
  ·first|exact aQ19 trivial|refine aQ19 ?_
 ·rintro k ⟨hk,hno⟩
  refine aQ54 ?_
  refine⟨fun hlt=>?_,fun hge=>?_⟩
  ·refine⟨by omega,by omega,by omega,fun he=>?_,fun hne=>⟨by unfold inI;omega,?_⟩⟩
   ·refine zaE ?_
    have hlt':k < l.length:=by omega
    rw [decide_eq_true]
    have he' : l[k]'hlt' = w := by simpa [hlt'] using he
    exact he' ▸ List.getElem_mem _
   ·rw [zac]
    refine⟨k+1,⟨by omega,fun i hi=>?_⟩,by omega,zab (q:=[]) rfl rfl (by decide) ?_ ?_⟩
    ·rcases Nat.lt_succ_iff_lt_or_eq.1 hi with h | rfl
     ·exact hno i h
     ·exact hne
    ·refine aQ19 ?_
     simp [zaX,AV.ren,renL,str]
    ·first|exact aQ19 trivial|refine aQ19 ?_
  ·obtain rfl:k=l.length:=by omega
   refine aQ54 ?_
   refine zaE ?_
   rw [decide_eq_false]
   intro hm
   obtain⟨i,hi,rfl⟩:=List.getElem_of_mem hm
   exact hno i hi (by simp [hi])
theorem few_ok (l:List (List UInt8)):ACalls Tryz.prog 15 [.sl (l.map str) l.length] [] (fun y _=>∃ b:Bool,y=.ret (bl b)∧(b=true→l.length≤30∧∀ x∈l,x.length≤300)):=by
 refine ACalls.body T_ok Tryz.func15 (by kernel_rfl) rfl Tryz.ntmps15 (congrArg Array.toList Tryz.results15) ?_
 refine aQ54 ?_
 rw [zaN]
 refine⟨Nat,fun k=>k≤l.length∧k≤31∧∀ i,i < k→(l.getD i []).length≤300,fun k=>[.sl (l.map str) l.length,.bot,bl false,i64 k,.bot,.bot,.bot,.bot,.bot,.bot,.bot,.bot,.bot,.bot,.bot,.bot,.bot,.bot,.bot,.bot,.bot,.bot,.bot],fun _=>[],fun k=>l.length - k,0,⟨Nat.zero_le _,by omega,fun i hi=>by omega⟩,?_,?_⟩
 ·refine zab (q:=[]) rfl rfl (by decide) ?_ ?_
  ·refine aQ19 ?_
   simp [zaX,AV.ren,renL]
  ·first|exact aQ19 trivial|refine aQ19 ?_
 ·rintro k ⟨hk,hk2,hno⟩
  by_cases h1:k < l.length
  ·have c1:decide ((k:Int) < (l.length:Int))=true:=decide_eq_true (by omega)
   try simp -implicitDefEqProofs only [LM9,eq_self,zam,lzS,zbC,zap,zaM,zal,c1,TB,SB,Int.reduceToNat,Nat.reduceAdd,Nat.reduceEqDiff,Nat.reduceLT,Nat.reduceMod,Nat.reducePow,Nat.reduceSub,if_true,reduceIte]
   refine⟨fun h2=>⟨by omega,by omega,h1,fun h3=>?_,fun h3=>⟨by unfold inI;omega,?_⟩⟩,fun h2=>?_⟩
   ·exact zaO ⟨_,rfl,fun h=>by cases h⟩
   ·rw [zac]
    refine⟨k+1,⟨by omega,by omega,fun i hi=>?_⟩,by omega,zab (q:=[]) rfl rfl (by decide) ?_ ?_⟩
    ·rcases Nat.lt_succ_iff_lt_or_eq.1 hi with h | rfl
     ·exact hno i h
     ·omega
    ·refine aQ19 ?_
     simp [zaX,AV.ren,renL]
    ·first|exact aQ19 trivial|refine aQ19 ?_
   ·refine zaO ⟨_,rfl,fun h=>?_⟩
    simp only [decide_eq_true_eq] at h
    omega
  ·have c1:decide ((k:Int) < (l.length:Int))=false:=decide_eq_false (by omega)
   obtain rfl:k=l.length:=by omega
   try simp -implicitDefEqProofs only [LM9,eq_self,zam,lzS,zbC,zap,zaM,zal,c1,TB,SB,Int.reduceToNat,Nat.reduceAdd,Nat.reduceEqDiff,Nat.reduceLT,Nat.reduceMod,Nat.reducePow,Nat.reduceSub,if_true,reduceIte]
   refine zaO ⟨_,rfl,fun h=>⟨by simp only [decide_eq_true_eq] at h;omega,fun x hx=>?_⟩⟩
   obtain⟨i,hi,rfl⟩:=List.getElem_of_mem hx
   have:=hno i hi
   simpa [hi] using this
def SetI (m out:List (List UInt8)):Prop:=out.Pairwise (fun a b=>decide (a≤b)=true)∧out.Nodup∧∀ x,x∈out ↔ x∈m
theorem setI_len {m out:List (List UInt8)} (h:SetI m out):out.length≤m.length:=List.Nodup.length_le_of_subset h.2.1 fun x hx=>(h.2.2 x).1 hx
theorem setI_in {l out:List (List UInt8)} {k:Nat} (h:k < l.length) (hI:SetI (l.take k) out) (hm:l.getD k []∈out):SetI (l.take (k+1)) out:=by
 refine⟨hI.1,hI.2.1,fun x=>?_⟩
 rw [List.take_succ_eq_append_getElem h,List.mem_append,List.mem_singleton]
 rw [hI.2.2 x]
 have e:l.getD k []=l[k]:=by simp [h]
 constructor
 ·exact .inl
 ·rintro(h1 | rfl)
  ·exact h1
  ·rw [← e];exact(hI.2.2 _).1 hm
theorem setI_new {l out:List (List UInt8)} {k p:Nat} (h:k < l.length) (hI:SetI (l.take k) out) (hm:l.getD k [] ∉ out) (hp:p≤out.length) (hgt:∀ i,p≤i→i < out.length→¬ out.getD i []≤l.getD k []) (hl:0 < p→out.getD (p - 1) []≤l.getD k []):SetI (l.take (k+1)) (out.take p++[l.getD k []]++out.drop p):=by
 obtain⟨h1,h2,h3⟩:=hI
 have e:l.getD k []=l[k]:=by simp [h]
 have hsp:=List.take_append_drop p out
 rw [← hsp,List.pairwise_append] at h1
 have hlo:∀ a∈out.take p,decide (a≤l.getD k [])=true:=by
  intro a ha
  obtain⟨i,hi,rfl⟩:=List.getElem_of_mem ha
  rw [List.length_take] at hi
  have hp0:0 < p:=by omega
  have hl':=hl hp0
  rw [List.getElem_take,decide_eq_true_eq]
  rcases Nat.lt_or_ge i (p - 1) with h4 | h4
  ·have h5:=List.pairwise_iff_getElem.1 h1.1 i (p - 1) (by rw [List.length_take];omega) (by rw [List.length_take];omega) h4
   rw [List.getElem_take,List.getElem_take,decide_eq_true_eq] at h5
   have h6 : out.getD (p - 1) [] = out[p - 1]'(by omega) := by simp [show p - 1 < out.length by omega]
   rw [h6] at hl'
   exact List.le_trans h5 hl'
  ·obtain rfl:i=p - 1:=by omega
   have h6 : out.getD (p - 1) [] = out[p - 1]'(by omega) := by simp [show p - 1 < out.length by omega]
   rw [h6] at hl'
   exact hl'
 have hhi:∀ b∈out.drop p,decide (l.getD k []≤b)=true:=by
  intro b hb
  obtain⟨i,hi,rfl⟩:=List.getElem_of_mem hb
  rw [List.length_drop] at hi
  have h4:=hgt (p+i) (by omega) (by omega)
  have h6 : out.getD (p + i) [] = out[p + i]'(by omega) := by simp [show p + i < out.length by omega]
  rw [h6] at h4
  rw [List.getElem_drop,decide_eq_true_eq]
  exact(List.le_total _ _).resolve_left h4
 have hmem:∀ x,x∈out.take p++[l.getD k []]++out.drop p ↔ x∈out∨x=l.getD k []:=by
  intro x
  rw [List.mem_append,List.mem_append,List.mem_singleton]
  have:x∈out ↔ x∈out.take p∨x∈out.drop p:=by rw [← List.mem_append,hsp]
  rw [this]
  constructor
  ·rintro((g | g) | g)
   ·exact .inl (.inl g)
   ·exact .inr g
   ·exact .inl (.inr g)
  ·rintro((g | g) | g)
   ·exact .inl (.inl g)
   ·exact .inr g
   ·exact .inl (.inr g)
 refine⟨?_,?_,fun x=>?_⟩
 ·rw [List.append_assoc,List.pairwise_append]
  refine⟨h1.1,?_,?_⟩
  ·rw [List.singleton_append,List.pairwise_cons]
   exact⟨hhi,h1.2.1⟩
  ·intro a ha b hb
   rcases List.mem_append.1 hb with hb | hb
   ·rw [List.mem_singleton] at hb
    subst hb
    exact hlo a ha
   ·exact h1.2.2 a ha b hb
 ·have hp2:(out.take p++[l.getD k []]++out.drop p).Perm (l.getD k []::out):=by
   rw [List.append_assoc,List.singleton_append]
   refine List.Perm.trans List.perm_middle ?_
   rw [hsp]
  exact hp2.nodup_iff.2 (List.nodup_cons.2 ⟨hm,h2⟩)
 ·rw [hmem,h3 x,List.take_succ_eq_append_getElem h,List.mem_append,List.mem_singleton,e]
theorem zfY {t:TypeId} {K:AV→Prop} (a b:List UInt8):wbin T .gtr t (str a) (str b) K=K (bl (!Op.bytesLess a b && !decide (a=b))):=by simp [wbin,str,strV,bl]
theorem cutHi {t e:TypeId} (ht:T t=some (tySl e)) (he:T e=some tyStr) {o:List (List UInt8)} {p:Nat} {σ:zaa} {K:AV→Prop} (h:p≤o.length) (hk:K (.sl ((o.take p).map str) p)):zbg T t (.sl (o.map str) o.length) none (some (i64 p)) σ K:=by
 simp only [zbg,ht,tySl,bnd,i64]
 refine⟨_,he,by omega,by omega,by omega,by simp [tyStr],?_⟩
 simpa [tyStr,List.map_take] using hk
theorem cutLo {t e:TypeId} (ht:T t=some (tySl e)) (he:T e=some tyStr) {o:List (List UInt8)} {p:Nat} {σ:zaa} {K:AV→Prop} (h:p≤o.length) (hk:K (.sl ((o.drop p).map str) (o.length - p))):zbg T t (.sl (o.map str) o.length) (some (i64 p)) none σ K:=by
 simp only [zbg,ht,tySl,bnd,i64]
 refine⟨_,he,by omega,by omega,by omega,by simp [tyStr],?_⟩
 have e:((o.map str).drop p).take (o.length - p)=(o.drop p).map str:=by rw [← List.map_drop,List.take_of_length_le (by simp)]
 simpa [tyStr,e] using hk
theorem zj4 {σ:zaa} (o:List (List UInt8)) {n:Nat} (h:n=o.length):asrc σ 1 (.sl (o.map str) n)=some (o.map str,n):=by
 subst h
 simp [asrc,asl]
 exact List.take_of_length_le (by simp)
theorem setR_ok (l:List (List UInt8)) (hl:l.length≤1000000):ACalls Tryz.prog 53 [.sl (l.map str) l.length] [] (fun y σ=>∃ out,SetI l out∧y=.ret (.sl (out.map str) out.length)∧σ=[]):=by
 refine ACalls.body T_ok Tryz.func53 (by kernel_rfl) rfl Tryz.ntmps53 (congrArg Array.toList Tryz.results53) ?_
 refine aQ55 ?_
 rw [zaN]
 refine⟨Nat × List (List UInt8),fun i=>i.1≤l.length∧SetI (l.take i.1) i.2,fun i=>[.sl (l.map str) l.length,.bot,.lit (.slice none 0 0),.sl (i.2.map str) i.2.length,i64 i.1,.bot,.bot,.bot,.bot,.bot,.bot,.bot,.bot,.bot,.bot,.bot,.bot,.bot,.bot,.bot,.bot,.bot,.bot,.bot,.bot,.bot,.bot,.bot,.bot,.bot,.bot,.bot,.bot,.bot,.bot,.bot,.bot,.bot,.bot,.bot,.bot,.bot,.bot,.bot,.bot,.bot,.bot,.bot,.bot,.bot,.bot,.bot,.bot,.bot,.bot],fun i=>[],fun i=>l.length - i.1,(0,[]),⟨Nat.zero_le _,by simp [SetI]⟩,?_,?_⟩
 ·refine zbI 3 1 rfl (zgb 3 rfl rfl (by simp) (zab (q:=[]) rfl rfl (by decide) ?_ ?_))
  ·refine aQ19 ?_
   simp [zaX,AV.ren,renL]
  ·simp [zao]
 ·rintro⟨k,out⟩ ⟨hk,hI⟩
  dsimp only at hk hI ⊢
  have hol:=setI_len hI
  rw [List.length_take] at hol
  refine aQ55 ?_
  refine⟨fun hlt=>?_,fun hge=>?_⟩
  ·have hlt':k < l.length:=by omega
   refine⟨by omega,by omega,hlt',(hasR_ok out (l.getD k []) (by omega)).pure (by simp [renL,AV.ren,zaX,str]) ?_⟩
   rintro _ _ rfl
   refine⟨rfl,?_⟩
   by_cases hm:l.getD k []∈out
   ·rw [decide_eq_true hm]
    refine aQ55 ?_
    refine⟨by unfold inI;omega,?_⟩
    rw [zac]
    refine⟨(k+1,out),⟨(by show k+1≤l.length;omega),setI_in hlt' hI hm⟩,(by show l.length - (k+1) < l.length - k;omega),zab (q:=[]) rfl rfl (by decide) ?_ ?_⟩
    ·refine aQ19 ?_
     simp [zaX,AV.ren,renL]
    ·first|exact aQ19 trivial|refine aQ19 ?_
   ·rw [decide_eq_false hm]
    refine aQ55 ?_
    rw [zaN]
    refine⟨Nat,fun p=>p≤out.length∧∀ i,p≤i→i < out.length→¬ (out.getD i []≤l.getD k []),fun p=>[.sl (l.map str) l.length,.bot,.lit (.slice none 0 0),.sl (out.map str) out.length,i64 k,i64 p,.bot,.bot,.bot,.bot,.bot,.bot,.bot,.bot,.bot,.bot,.bot,.bot,.bot,.bot,.bot,.bot,.bot,.bot,.bot,.bot,.bot,.bot,.bot,.bot,.bot,.bot,.bot,.bot,.bot,.bot,.bot,.bot,.bot,.bot,.bot,.bot,.bot,.bot,.bot,.bot,.bot,.bot,.bot,.bot,.bot,.bot,.bot,.bot,.bot],fun _=>[],fun p=>p,out.length,⟨Nat.le_refl _,fun i h1 h2=>by omega⟩,?_,?_⟩
    ·refine zab (q:=[]) rfl rfl (by decide) ?_ ?_
     ·refine aQ19 ?_
      simp [zaX,AV.ren,renL]
     ·first|exact aQ19 trivial|refine aQ19 ?_
    ·rintro p ⟨hp,hgt⟩
     refine aQ55 ?_
     by_cases hp0:0 < p
     ·have c1:decide (0 < (p:Int))=true:=decide_eq_true (by omega)
      refine zdb (by kernel_rfl) (by kernel_rfl) ?_
      try simp -implicitDefEqProofs only [LM9,eq_self,zam,lzS,zbC,zap,zaM,zal,zfY,c1,TB,SB,Int.reduceToNat,Nat.reduceAdd,Nat.reduceEqDiff,Nat.reduceLT,Nat.reduceMod,Nat.reducePow,Nat.reduceSub,if_true,reduceIte]
      rw [show ((p:Int) - 1).toNat=p - 1 by omega]
      refine⟨by unfold inI;omega,by omega,by omega,by omega,by omega,by omega,hlt',?_⟩
      cases hb:(!Op.bytesLess (out.getD (p - 1) []) (l.getD k []) && !decide (out.getD (p - 1) []=l.getD k [])) with
      | true =>
       have hgt':¬ out.getD (p - 1) []≤l.getD k []:=by
        simp only [Bool.and_eq_true,Bool.not_eq_true',Go.Proofs.bytesLess_eq,decide_eq_false_iff_not] at hb
        intro hle
        rcases List.le_iff_lt_or_eq.1 hle with g | g
        ·exact hb.1 g
        ·exact hb.2 g
       refine aQ55 ?_
       refine⟨by unfold inI;omega,?_⟩
       rw [zac]
       refine⟨p - 1,⟨by omega,fun i h1 h2=>?_⟩,by omega,zab (q:=[]) rfl rfl (by decide) ?_ ?_⟩
       ·rcases Nat.lt_or_ge i p with h3 | h3
        ·obtain rfl:i=p - 1:=by omega
         exact hgt'
        ·exact hgt i h3 h2
       ·refine aQ19 ?_
        simp [zaX,AV.ren,renL]
        exact .inr (by omega)
       ·first|exact aQ19 trivial|refine aQ19 ?_
      | false =>
       have hlast:0 < p→out.getD (p - 1) []≤l.getD k []:=by
        intro _
        simp only [Bool.and_eq_false_iff,Bool.not_eq_false',Go.Proofs.bytesLess_eq,decide_eq_true_eq] at hb
        rcases hb with g | g
        ·exact List.le_of_lt g
        ·rw [g];exact List.le_refl _
       refine aQ55 ?_
       have hx:=setI_new hlt' hI hm hp (fun i h1 h2=>hgt i h1 h2) hlast
       refine cutHi T32 T9 hp ?_
       refine aQ55 ?_
       refine zfQ str zbR rfl rfl T32 T32 (zcS _) T9 zcl (ys:=out.take p) (m:=p) (zj4 _ (by rw [List.length_take];omega)) (by omega) (by simp only [tyStr];omega) ?_
       refine aQ55 ?_
       refine⟨by omega,by omega,hlt',?_⟩
       refine zaQ str zbR rfl rfl T32 T32 (zcS _) T9 zcl (l:=out.take p) (ys:=[l.getD k []]) (m:=1) rfl (by rw [List.length_take];omega) (zeC (l:=[l.getD k []]) rfl rfl) (by omega) (by simp only [tyStr];omega) ?_
       refine aQ55 ?_
       refine cutLo T32 T9 hp ?_
       refine aQ55 ?_
       refine zaQ str zbR rfl rfl T32 T32 (zcS _) T9 zcl (l:=out.take p++[l.getD k []]) (ys:=out.drop p) (m:=out.length - p) rfl aQ15 (zj4 _ (by rw [List.length_drop])) (by omega) (by simp only [tyStr];omega) ?_
       refine aQ55 ?_
       refine⟨by unfold inI;omega,?_⟩
       have hn:p+1+(out.length - p)=(out.take p++[l.getD k []]++out.drop p).length:=by
        rw [List.length_append,List.length_append,List.length_take,List.length_singleton,List.length_drop];omega
       rw [zac,hn]
       generalize out.take p++[l.getD k []]++out.drop p=o9 at hx ⊢
       refine⟨(k+1,o9),⟨(by show k+1≤l.length;omega),hx⟩,(by show l.length - (k+1) < l.length - k;omega),?_⟩
       refine zgb 3 rfl rfl (by rw [List.length_map];omega) ?_
       rw [show ((o9.map str).drop 0).take (o9.length * 1)=o9.map str by rw [List.drop_zero,List.take_of_length_le (by simp)]]
       refine zab (q:=[]) rfl rfl (by decide) ?_ ?_
       ·refine aQ19 ?_
        simp [zaX,AV.ren,renL]
       ·first|exact aQ19 trivial|refine aQ19 ?_
     ·have c1:decide (0 < (p:Int))=false:=decide_eq_false (by omega)
      have hlast:0 < p→out.getD (p - 1) []≤l.getD k []:=fun h=>absurd h hp0
      refine zdb (by kernel_rfl) (by kernel_rfl) ?_
      try simp -implicitDefEqProofs only [LM9,eq_self,zam,lzS,zbC,zap,zaM,zal,zfY,c1,TB,SB,Int.reduceToNat,Nat.reduceAdd,Nat.reduceEqDiff,Nat.reduceLT,Nat.reduceMod,Nat.reducePow,Nat.reduceSub,if_true,reduceIte]
      have hx:=setI_new hlt' hI hm hp (fun i h1 h2=>hgt i h1 h2) hlast
      refine cutHi T32 T9 hp ?_
      refine aQ55 ?_
      refine zfQ str zbR rfl rfl T32 T32 (zcS _) T9 zcl (ys:=out.take p) (m:=p) (zj4 _ (by rw [List.length_take];omega)) (by omega) (by simp only [tyStr];omega) ?_
      refine aQ55 ?_
      refine⟨by omega,by omega,hlt',?_⟩
      refine zaQ str zbR rfl rfl T32 T32 (zcS _) T9 zcl (l:=out.take p) (ys:=[l.getD k []]) (m:=1) rfl (by rw [List.length_take];omega) (zeC (l:=[l.getD k []]) rfl rfl) (by omega) (by simp only [tyStr];omega) ?_
      refine aQ55 ?_
      refine cutLo T32 T9 hp ?_
      refine aQ55 ?_
      refine zaQ str zbR rfl rfl T32 T32 (zcS _) T9 zcl (l:=out.take p++[l.getD k []]) (ys:=out.drop p) (m:=out.length - p) rfl aQ15 (zj4 _ (by rw [List.length_drop])) (by omega) (by simp only [tyStr];omega) ?_
      refine aQ55 ?_
      refine⟨by unfold inI;omega,?_⟩
      have hn:p+1+(out.length - p)=(out.take p++[l.getD k []]++out.drop p).length:=by
       rw [List.length_append,List.length_append,List.length_take,List.length_singleton,List.length_drop];omega
      rw [zac,hn]
      generalize out.take p++[l.getD k []]++out.drop p=o9 at hx ⊢
      refine⟨(k+1,o9),⟨(by show k+1≤l.length;omega),hx⟩,(by show l.length - (k+1) < l.length - k;omega),?_⟩
      refine zgb 3 rfl rfl (by rw [List.length_map];omega) ?_
      rw [show ((o9.map str).drop 0).take (o9.length * 1)=o9.map str by rw [List.drop_zero,List.take_of_length_le (by simp)]]
      refine zab (q:=[]) rfl rfl (by decide) ?_ ?_
      ·refine aQ19 ?_
       simp [zaX,AV.ren,renL]
      ·first|exact aQ19 trivial|refine aQ19 ?_
  ·obtain rfl:k=l.length:=by omega
   rw [List.take_length] at hI
   refine aQ55 ?_
   exact zaO ⟨out,hI,rfl,rfl⟩
end Go.Proofs.YtcahoelfogjljaaGreatDoor
end

section
namespace Go.Proofs.YtcahoelfogjljaaGreatDoor
open Go Go.Eng
theorem path_two (s:List UInt8):(zbz s).2=0∨((zbz s).2=9∧(zbz s).1=[]):=by
 unfold zbz
 split
 ·exact .inr ⟨rfl,rfl⟩
 ·split
  ·exact .inl rfl
  ·exact .inr ⟨rfl,rfl⟩
theorem each_two {v:List Nd} (s:List UInt8) (h:zaz v=0):(zcb v s).2=(zbz s).2:=by
 unfold zcb zbe
 rw [if_pos h]
 split
 ·rename_i h0;exact h0.symm
 ·rfl
theorem word_of {v x:List Nd} {s:List UInt8} (hp:(zbz s).2=0) (h:x∈zcA v s):wOf s x=[(zc9 s x).1]:=by
 obtain⟨he,hpl⟩:=elem_err h
 rw [wOf,if_pos]
 rw [zc9,if_pos hp,if_pos he,if_pos hpl]
theorem pick_all {ps:List (List UInt8)} (h:∀ s∈ps,(zbz s).2=0):¬ (zbf isV ps).length < ps.length:=by
 rw [zbf,List.filter_eq_self.2 (fun s hs=>by have:=h s hs;simp [isV,this])]
 omega
theorem pick_some {ps:List (List UInt8)} {s:List UInt8} (hs:s∈ps) (h:(zbz s).2≠0):(zbf isV ps).length < ps.length:=by
 rcases Nat.lt_or_ge (zbf isV ps).length ps.length with g | g
 ·exact g
 ·exfalso
  have hsub:List.Sublist (zbf isV ps) ps:=List.filter_sublist
  have he:=hsub.eq_of_length_le g
  rw [← he] at hs
  have:=(zdP hs).2
  simp [isV,h] at this
theorem uniq_spec (l:List (List UInt8)):(zen l).Nodup∧∀ x,x∈zen l ↔ x∈l:=by
 have:∀ (l a:List (List UInt8)),a.Nodup→(l.foldl addU a).Nodup∧∀ x,x∈l.foldl addU a ↔ x∈a∨x∈l:=by
  intro l
  induction l with
  | nil=>intro a ha;simp [ha]
  | cons y l ih =>
   intro a ha
   have hd:(addU a y).Nodup:=by
    unfold addU
    split
    ·exact ha
    ·rename_i hy
     rw [List.nodup_append]
     exact⟨ha,by simp,fun b hb c hc=>by simp at hc;subst hc;exact fun e=>hy (e ▸ hb)⟩
   have hm:∀ x,x∈addU a y ↔ x∈a∨x=y:=by
    intro x
    unfold addU
    split
    ·rename_i hy
     constructor
     ·exact .inl
     ·rintro(g | rfl)
      ·exact g
      ·exact hy
    ·simp
   obtain⟨i1,i2⟩:=ih _ hd
   refine⟨i1,fun x=>?_⟩
   rw [List.foldl_cons,i2,hm,List.mem_cons]
   constructor
   ·rintro((g | g) | g)
    ·exact .inl g
    ·exact .inr (.inl g)
    ·exact .inr (.inr g)
   ·rintro(g | g | g)
    ·exact .inl (.inl g)
    ·exact .inl (.inr g)
    ·exact .inr g
 simpa [zen] using this l [] List.nodup_nil
theorem setI_uniq {l out:List (List UInt8)} (h:SetI l out):out=srt (zen l):=by
 obtain⟨h1,h2,h3⟩:=h
 obtain⟨g1,g2⟩:=uniq_spec l
 have hp:out.Perm (zen l):=(List.perm_ext_iff_of_nodup h2 g1).2 fun a=>by rw [h3,g2]
 rw [← srtS_eq]
 refine List.Perm.eq_of_pairwise (le:=fun a b=>decide (a≤b)=true) (fun a b _ _ h3 h4=>?_) h1 (zfW _) (hp.trans (zix _).symm)
 simp only [decide_eq_true_eq] at h3 h4
 exact List.le_antisymm h3 h4
theorem zg5 (v:List Nd) (ps:List (List UInt8)):(zca v ps).length≤ps.length * 14400:=by
 have:=zjj v ps
 omega
theorem rTerms_ok (v:List Nd) (ps:List (List UInt8)) (hv:v.length≤1000) (hp:ps.length≤1000000) (hs:∀ s∈ps,s.length≤1000000000):ACalls Tryz.prog 19 [.sl (v.flatMap nC) v.length,.sl (ps.map str) ps.length] [] (fun y _=>y=.ret (.tup [.sl ((zeo v ps).1.map str) (zeo v ps).1.length,i64 (zeo v ps).2])):=by
 obtain⟨Z,hZ⟩:∃ Z,Z=zeo v ps:=⟨_,rfl⟩
 rw [← hZ]
 unfold zeo at hZ
 refine ACalls.body T_ok Tryz.func19 (by kernel_rfl) rfl Tryz.ntmps19 (congrArg Array.toList Tryz.results19) ?_
 refine aQ54 ?_
 refine(zir v hv).pure (zdX _ _ _) ?_
 rintro _ σ rfl
 refine⟨zae _ _,?_⟩
 by_cases h1:zaz v=0
 rotate_left
 ·rw [if_neg h1] at hZ
  try simp -implicitDefEqProofs only [LM9,eq_self,zam,lzS,zbC,zap,zaM,zal,decide_eq_false h1,TB,SB,Int.reduceToNat,Nat.reduceAdd,Nat.reduceEqDiff,Nat.reduceLT,Nat.reduceMod,Nat.reducePow,Nat.reduceSub,if_true,reduceIte]
  exact zeH hZ
 rw [if_pos h1] at hZ
 rw [h1]
 refine aQ54 ?_
 by_cases h2:(4:Int) < ps.length
 ·rw [if_neg (by omega)] at hZ
  refine aQ54 ?_
  exact⟨fun _=>zeH hZ,fun h=>absurd h2 h⟩
 rw [if_pos (by omega)] at hZ
 refine aQ54 ?_
 refine⟨fun h=>absurd h h2,fun _=>?_⟩
 rw [zaN]
 refine⟨Nat,fun i=>i≤ps.length∧∀ s∈ps.take i,(zbz s).2=0,fun i=>[.sl (v.flatMap nC) v.length,.sl (ps.map str) ps.length,.bot,.bot,.bot,.bot,.bot,.ref 0 0 (zca v (ps.take i)).length 1,i64 i,.bot,.bot,.bot,.bot,.bot,.bot,.bot,.bot,.bot,.bot,.bot,.bot,.bot,.bot,.bot,.bot,.bot,.bot,.bot,.bot,.bot,.bot,.bot,.bot,.bot,.bot,.bot,.bot,.bot,.bot,.bot,.bot,.bot,.bot,.bot,.bot,.bot,.bot,.bot,.bot,.bot,.bot,.bot,.bot,.bot,.bot,.bot,.bot,.bot,.bot,.bot,.bot,.bot,.bot,.bot],fun i=>[.rw ((zca v (ps.take i)).map str)],fun i=>ps.length - i,0,⟨Nat.zero_le _,by simp⟩,zbI 7 1 rfl (zab (q:=[0]) rfl rfl (by decide) ?_ ?_),?_⟩
 ·refine aQ19 ?_
  simp [zat,zaX,AV.ren,zca]
 ·refine aQ19 ?_
  simp [zao,zar,renL,zca]
 rintro i ⟨hi,hok⟩
 dsimp only
 by_cases hlt:i < ps.length
 rotate_left
 ·obtain rfl:i=ps.length:=by omega
  have di:decide ((ps.length:Int) < (ps.length:Int))=false:=decide_eq_false (by omega)
  rw [List.take_length] at hok ⊢
  rw [if_neg (pick_all hok)] at hZ
  have hwf:=zg5 v ps
  generalize zca v ps=L at hZ hwf ⊢
  try simp -implicitDefEqProofs only [LM9,eq_self,zam,lzS,zbC,zap,zaM,zal,di,TB,SB,Int.reduceToNat,Nat.reduceAdd,Nat.reduceEqDiff,Nat.reduceLT,Nat.reduceMod,Nat.reducePow,Nat.reduceSub,if_true,reduceIte]
  refine ACalls.frz [0] (l':=[.sl (L.map str) L.length]) ⟨_,_,rfl,zki (l:=L) rfl rfl,rfl⟩ ?_
  simp only [zeW,List.getElem?_cons_zero,List.getElem?_cons_succ,List.set_cons_zero,List.set_cons_succ]
  refine(setR_ok L (by omega)).pure (by simp [renL,AV.ren,zaX]) ?_
  rintro _ σ ⟨out,hI,rfl,rfl⟩
  refine⟨by simp [AEnd.noid,AV.ren,zaX],?_⟩
  obtain rfl:=setI_uniq hI
  rw [hZ]
  refine aQ54 ?_
  exact zaP (ziE _ _ _ _) rfl
 have di:decide ((i:Int) < (ps.length:Int))=true:=decide_eq_true (by omega)
 have hst:=ziD (v:=v) hlt
 have hmi:ps.getD i []∈ps:=by rw [List.getD_eq_getElem?_getD,List.getElem?_eq_getElem hlt];exact List.getElem_mem hlt
 have hsi:=hs _ hmi
 have hwf:=zg5 v (ps.take i)
 rw [List.length_take] at hwf
 have htk:ps.take (i+1)=ps.take i++[ps.getD i []]:=zbT [] hlt
 try simp -implicitDefEqProofs only [LM9,eq_self,zam,lzS,zbC,zap,zaM,zal,di,TB,SB,Int.reduceToNat,Nat.reduceAdd,Nat.reduceEqDiff,Nat.reduceLT,Nat.reduceMod,Nat.reducePow,Nat.reduceSub,if_true,reduceIte]
 refine⟨by omega,by omega,hlt,?_⟩
 obtain⟨s,hse⟩:∃ s,s=ps.getD i []:=⟨_,rfl⟩
 rw [← hse] at hst hmi hsi htk ⊢
 refine(zhg v s hv hsi).pure aQ12 ?_
 rintro _ σ rfl
 refine⟨zcr _ _ _ _,?_⟩
 rw [each_two s h1]
 rcases path_two s with h3 | ⟨h3,_⟩
 rotate_left
 ·rw [if_pos (pick_some hmi (by rw [h3];decide))] at hZ
  rw [h3]
  refine aQ54 ?_
  exact⟨fun _=>zeH hZ,fun h=>absurd h (by decide)⟩
 rw [h3]
 have hE2:=zgv v s
 have hwo:=fun x=>@word_of v x s h3
 have hlen:=fun x=>@elem_err v x s
 generalize zcA v s=E at hst hE2 hwo hlen ⊢
 obtain⟨B,hB⟩:∃ B,B=zca v (ps.take i):=⟨_,rfl⟩
 rw [← hB] at hst hwf ⊢
 refine aQ54 ?_
 rw [zaN]
 refine⟨Nat,fun k=>k≤E.length,fun k=>[.sl (v.flatMap nC) v.length,.sl (ps.map str) ps.length,.bot,.bot,.bot,.bot,.bot,.ref 0 0 (B++zcB s (E.take k)).length 1,i64 i,.sl (E.map slNs) E.length,.bot,i64 k,.bot,.bot,.bot,.bot,.bot,.bot,.bot,.bot,.bot,.bot,.bot,.bot,.bot,.bot,.bot,.bot,.bot,.bot,.bot,.bot,.bot,.bot,.bot,.bot,.bot,.bot,.bot,.bot,.bot,.bot,.bot,.bot,.bot,.bot,.bot,.bot,.bot,.bot,.bot,.bot,.bot,.bot,.bot,.bot,.bot,.bot,.bot,.bot,.bot,.bot,.bot,.bot],fun k=>[.rw ((B++zcB s (E.take k)).map str)],fun k=>E.length - k,0,Nat.zero_le _,zab (q:=[0]) rfl rfl (by decide) ?_ ?_,?_⟩
 ·refine aQ19 ?_
  simp [zat,zaX,zaB,AV.ren,zcB]
 ·refine aQ19 ?_
  simp [zao,zar,zaX,zcB]
 intro k hk
 have hk:k≤E.length:=hk
 dsimp only
 by_cases klt:k < E.length
 rotate_left
 ·obtain rfl:k=E.length:=by omega
  have dk:decide ((E.length:Int) < (E.length:Int))=false:=decide_eq_false (by omega)
  rw [List.take_length,← hst]
  try simp -implicitDefEqProofs only [LM9,eq_self,zam,lzS,zbC,zap,zaM,zal,dk,TB,SB,Int.reduceToNat,Nat.reduceAdd,Nat.reduceEqDiff,Nat.reduceLT,Nat.reduceMod,Nat.reducePow,Nat.reduceSub,if_true,reduceIte]
  refine⟨by unfold inI;omega,?_⟩
  rw [zac]
  refine⟨i+1,⟨(by show i+1≤ps.length;omega),fun y hy=>?_⟩,by (show ps.length - (i+1) < ps.length - i);omega,?_⟩
  ·rw [htk,List.mem_append] at hy
   rcases hy with hy | hy
   ·exact hok y hy
   ·rw [List.mem_singleton.1 hy];exact h3
  refine zab (q:=[0]) rfl rfl (by decide) ?_ ?_
  ·refine aQ19 ?_
   simp [zat,zaX,AV.ren]
  ·refine aQ19 ?_
   simp [-List.map_append,zao,zar,zaX]
 have dk:decide ((k:Int) < (E.length:Int))=true:=decide_eq_true (by omega)
 have hmk:E.getD k []∈E:=by rw [List.getD_eq_getElem?_getD,List.getElem?_eq_getElem klt];exact List.getElem_mem klt
 have hwk:=ziC (p:=s) klt
 rw [hwo _ hmk] at hwk
 have hxe:=(zbA (hlen _ hmk).1).2
 have hwl:=zji s (E.take k)
 rw [List.length_take] at hwl
 try simp -implicitDefEqProofs only [LM9,eq_self,zam,lzS,zbC,zap,zaM,zal,dk,TB,SB,Int.reduceToNat,Nat.reduceAdd,Nat.reduceEqDiff,Nat.reduceLT,Nat.reduceMod,Nat.reducePow,Nat.reduceSub,if_true,reduceIte]
 refine zdb (by kernel_rfl) (by kernel_rfl) ?_
 try simp -implicitDefEqProofs only [LM9,eq_self,zam,lzS,zbC,zap,zaM,zal,slNs,TB,SB,Int.reduceToNat,Nat.reduceAdd,Nat.reduceEqDiff,Nat.reduceLT,Nat.reduceMod,Nat.reducePow,Nat.reduceSub,if_true,reduceIte]
 refine⟨by omega,by omega,hlt,by omega,by omega,Nat.le_refl _,klt,?_⟩
 rw [← hse]
 refine zcI (rWord_ok s (E.getD k []) hsi (by omega)) aQ12 (zfb _ _ _) ?_
 have hpk:B++zcB s (E.take (k+1))=(B++zcB s (E.take k))++[(zc9 s (E.getD k [])).1]:=by rw [hwk,List.append_assoc]
 have hlen2:(B++zcB s (E.take k)++[(zc9 s (E.getD k [])).1]).length=(B++zcB s (E.take k)).length+1:=by simp only [List.length_append,List.length_singleton]
 refine aQ54 ?_
 refine zaQ str zbR rfl rfl T32 T32 (zcS _) T9 zcl (l:=B++zcB s (E.take k)) (ys:=[(zc9 s (E.getD k [])).1]) (m:=1) rfl rfl (zeC (l:=[(zc9 s (E.getD k [])).1]) rfl rfl) (by rw [List.length_append];omega) (by simp only [tyStr,List.length_append];omega) ?_
 refine aQ54 ?_
 refine⟨by unfold inI;omega,?_⟩
 rw [zac]
 refine⟨k+1,by (show k+1≤E.length);omega,by (show E.length - (k+1) < E.length - k);omega,?_⟩
 rw [hpk,hlen2]
 refine zab (q:=[2]) rfl rfl (by decide) ?_ ?_
 ·refine aQ19 ?_
  simp [zat,zaX,zaB,AV.ren]
 ·refine aQ19 ?_
  simp [-List.map_append,zao,zar,zaX]
end Go.Proofs.YtcahoelfogjljaaGreatDoor
end

section
namespace Go.Proofs.YtcahoelfogjljaaGreatDoor
open Go Go.Eng
theorem sameL {L M:List (List Nd)} (hl:L.length=M.length) (h:∀ j,j < L.length→L.getD j []=M.getD j []):L=M:=by
 apply List.ext_getElem hl
 intro i h1 h2
 have:=h i h1
 rw [List.getD_eq_getElem?_getD,List.getD_eq_getElem?_getD,List.getElem?_eq_getElem h1,List.getElem?_eq_getElem h2] at this
 exact this
theorem sameR_ok (L M:List (List Nd)) (hL:L.length≤1000000) (hl:∀ l∈L,l.length≤1000000):ACalls Tryz.prog 20 [.sl (L.map slNs) L.length,.sl (M.map slNs) M.length] [] (fun y _=>y=.ret (bl (decide (L=M)))):=by
 refine ACalls.body T_ok Tryz.func20 (by kernel_rfl) rfl Tryz.ntmps20 (congrArg Array.toList Tryz.results20) ?_
 refine aQ54 ?_
 refine⟨fun hne=>?_,fun heq=>?_⟩
 ·exact zaE (by rw [decide_eq_false (fun h=>by rw [h] at hne;exact absurd rfl hne)])
 have hlm:L.length=M.length:=by omega
 try try simp -implicitDefEqProofs only [LM9,eq_self,zam,lzS,zbC,zap,zaM,zal,TB,SB,Int.reduceToNat,Nat.reduceAdd,Nat.reduceEqDiff,Nat.reduceLT,Nat.reduceMod,Nat.reducePow,Nat.reduceSub,if_true,reduceIte]
 rw [zaN]
 refine⟨Nat,fun k=>k≤L.length∧∀ j,j < k→L.getD j []=M.getD j [],fun k=>[.sl (L.map slNs) L.length,.sl (M.map slNs) M.length,.bot,.bot,.bot,i64 k,.bot,.bot,.bot,.bot,.bot,.bot,.bot,.bot,.bot,.bot,.bot,.bot,.bot,.bot,.bot,.bot,.bot,.bot,.bot,.bot,.bot],fun _=>[],fun k=>L.length - k,0,⟨Nat.zero_le _,fun j h=>absurd h (by omega)⟩,zab (q:=[]) rfl rfl (by decide) ?_ ?_,?_⟩
 ·refine aQ19 ?_
  try exact⟨by simp [zaB],by simp [zaB],.inr rfl⟩
 ·trivial
 ·rintro k ⟨hk,hj⟩
  refine aQ54 ?_
  refine⟨fun hlt=>?_,fun hge=>?_⟩
  ·have hk2:k < L.length:=by omega
   refine zdb (by kernel_rfl) (by kernel_rfl) ?_
   refine aQ54 ?_
   refine⟨by omega,by omega,by omega,by omega,by omega,by omega,by omega,by omega,?_⟩
   refine zcI (rSame_ok (L.getD k []) (M.getD k []) (by have:=hl (L.getD k []) (by rw [List.getD_eq_getElem?_getD,List.getElem?_eq_getElem hk2];exact List.getElem_mem hk2);omega)) (noid_N2 _ _ _ _ _) (zak _ _) ?_
   refine aQ54 ?_
   refine⟨fun hne=>?_,fun he=>?_⟩
   ·exact zaE (by rw [decide_eq_false (fun h=>by rw [h] at hne;exact absurd rfl hne)])
   ·repeat (with_reducible refine zbt ?_)
    rw [zac]
    refine⟨k+1,⟨by omega,fun j h=>?_⟩,by (show L.length - (k+1) < L.length - k);omega,zab (q:=[]) rfl rfl (by decide) ?_ ?_⟩
    ·by_cases e:j=k
     ·subst e;exact he
     ·exact hj j (by omega)
    ·refine aQ19 ?_
     try exact⟨by simp [zaB],by simp [zaB],.inr (by omega)⟩
    ·trivial
  ·obtain rfl:k=L.length:=by omega
   try try simp -implicitDefEqProofs only [LM9,eq_self,zam,lzS,zbC,zap,zaM,zal,TB,SB,Int.reduceToNat,Nat.reduceAdd,Nat.reduceEqDiff,Nat.reduceLT,Nat.reduceMod,Nat.reducePow,Nat.reduceSub,if_true,reduceIte]
   exact zaE (by rw [decide_eq_true (sameL hlm hj)])
theorem works_ok:ACalls Tryz.prog 8 [] [] (fun y _=>y=.ret (bl true)) :=
 (zaF zdk rfl (S:=⟨C22,zbv,1000⟩) ox22 rx23).mono (by rintro _ _ ⟨rfl,rfl⟩;rfl)
set_option maxRecDepth 20000 in
set_option maxHeartbeats 8000000 in
theorem lawTells (v:List Nd) (p:List UInt8) (ps:List (List UInt8)) (jv:v.length≤9223372036854775807∧numsI v):ACalls Tryz.prog 4 [.sl (v.flatMap nC) v.length,str p,.sl (ps.map str) ps.length] [] (fun y _=>y=.ret (bl true)):=by
 obtain⟨hv,nv⟩:=jv
 have he:∀ σ:zaa,endQ 0 (bl true) σ (fun r _=>AEnd.ret r=.ret (bl true)):=fun σ=>zaE rfl
 refine ACalls.body T_ok Tryz.func4 (by kernel_rfl) rfl Tryz.ntmps4 (congrArg Array.toList Tryz.results4) ?_
 refine aQ54 ?_
 refine ACalls.pure works_ok rfl ?_
 rintro _ _ rfl
 refine⟨rfl,?_⟩
 refine aQ54 ?_
 refine(Few_ok v hv).pure (zdX _ _ _) ?_
 rintro _ σ rfl
 refine⟨zak _ _,?_⟩
 cases hfv:fewB v with
 | false =>
  refine aQ54 ?_
  exact he _
 | true =>
  have lv:v.length≤1000:=by have:=few_le hfv;omega
  refine aQ54 ?_
  refine(few_ok ps).pure (by simp [renL,AV.ren,zaX]) ?_
  rintro _ σ ⟨b,rfl,hb⟩
  refine⟨zak _ _,?_⟩
  cases b with
  | false =>
   refine aQ54 ?_
   exact he _
  | true =>
   obtain⟨hps,hss⟩:=hb rfl
   by_cases b1:(300:Int) < p.length
   ·try simp -implicitDefEqProofs only [LM9,eq_self,zam,lzS,zbC,zap,zaM,zal,decide_eq_true b1,TB,SB,Int.reduceToNat,Nat.reduceAdd,Nat.reduceEqDiff,Nat.reduceLT,Nat.reduceMod,Nat.reducePow,Nat.reduceSub,if_true,reduceIte]
    exact he _
   try simp -implicitDefEqProofs only [LM9,eq_self,zam,lzS,zbC,zap,zaM,zal,decide_eq_false b1,TB,SB,Int.reduceToNat,Nat.reduceAdd,Nat.reduceEqDiff,Nat.reduceLT,Nat.reduceMod,Nat.reducePow,Nat.reduceSub,if_true,reduceIte]
   refine(ziB v p (by omega) (by omega)).pure aQ12 ?_
   rintro _ σ rfl
   refine⟨zcr _ _ _ _,?_⟩
   refine aQ54 ?_
   refine(zhg v p lv (by omega)).pure aQ12 ?_
   rintro _ σ rfl
   refine⟨zcr _ _ _ _,?_⟩
   have hE2:=zgv v p
   have hlen:=fun x=>@elems_mem v p x
   generalize zcA v p=E at hE2 hlen ⊢
   generalize (zcb v p).2=e
   refine aQ54 ?_
   refine(Terms_ok v ps (by omega) (by omega) (fun s hs=>by have:=hss s hs;omega)).pure (by simp [renL,AV.ren,zat,zaX]) ?_
   rintro _ σ rfl
   refine⟨ziE _ _ _ _,?_⟩
   refine aQ54 ?_
   refine(rTerms_ok v ps lv (by omega) (fun s hs=>by have:=hss s hs;omega)).pure (by simp [renL,AV.ren,zat,zaX]) ?_
   rintro _ σ rfl
   refine⟨ziE _ _ _ _,?_⟩
   have hTl:(zeo v ps).1.length≤1000000000000:=by
    unfold zeo
    have hwl:=zg5 v ps
    have hul:=uniq_len' (zca v ps)
    split
    ·split
     ·split
      ·simp
      ·simp only [zgO];omega
     ·simp
    ·simp
   generalize zeo v ps=X at hTl ⊢
   obtain⟨L,g⟩:=X
   dsimp only at hTl ⊢
   refine aQ54 ?_
   refine(sameR_ok E E (by omega) (fun y hy=>by have:=hlen y hy;omega)).pure (by simp [renL,AV.ren,zaB]) ?_
   rintro _ σ rfl
   refine⟨zak _ _,?_⟩
   rw [decide_eq_true rfl]
   refine aQ54 ?_
   refine(rTexts_ok L L hTl).pure (by simp [renL,AV.ren,zaX]) ?_
   rintro _ σ rfl
   refine⟨zak _ _,?_⟩
   rw [decide_eq_true rfl]
   refine aQ54 ?_
   exact he _
#print axioms lawTells
end Go.Proofs.YtcahoelfogjljaaGreatDoor
end

section
namespace Go.Proofs.YtcahoelfogjljaaGreatDoor
open Go Go.Eng
theorem four {cs:List Value} (h:cs.length=4):∃ a b c d,cs=[a,b,c,d]:=by
 match cs,h with
 | [a,b,c,d],_=>exact⟨a,b,c,d,rfl⟩
theorem wf_inI {n:Int} (h:(Lit.int .i64 n).wf=true):inI n:=by
 simp [Lit.wf,IntKind.min,IntKind.max,IntKind.signed,IntKind.bits] at h
 unfold inI
 omega
theorem no_own (b:Nat):¬ own (fun _=>False) [] [] b:=by
 rintro(hb | ⟨i,cs,hi,_⟩)
 ·exact hb
 ·simp at hi
def zj5 (w:World) (v:Value):Prop:=∃ (ad:Option Addr) (len cap:Nat) (l:List Nd),v=.slice ad len cap∧len≤cap∧cap≤maxLen∧l.length=len∧numsI l∧(len=0∨∃ b off,ad=some ⟨b,off,none⟩∧b < w.heap.size∧zaR w (own (fun _=>False) [] []) [] b (l.flatMap nC) off)
theorem rep_nodes {w:World} {v:Value} (h:zj5 w v):∃ l:List Nd,(l.length≤maxLen∧numsI l)∧rep w (own (fun _=>False) [] []) [] (slNs l) v:=by
 obtain⟨ad,len,cap,l,rfl,h1,h2,h3,hN,h5⟩:=h
 refine⟨l,⟨by omega,hN⟩,?_⟩
 simp only [slNs,rep]
 rw [h3]
 refine⟨ad,cap,rfl,h1,h2,?_⟩
 rcases h5 with h5 | ⟨b,off,rfl,hb,hat⟩
 ·refine .inl ?_
  have:l=[]:=by rw [h5] at h3;exact List.eq_nil_of_length_eq_zero h3
  subst this
  rfl
 ·exact .inr ⟨b,off,rfl,no_own b,hb,hat⟩
theorem repAt_app {w:World} {O:Nat→Prop} {m:Ids} {b:Nat}:∀ (l r:List AV) (off:Nat),zaR w O m b l off→zaR w O m b r (off+l.length)→zaR w O m b (l++r) off
 | [],r,off,_,h=>by simpa using h
 | a::l,r,off,h,g=>by
  simp only [List.cons_append,zaR] at h ⊢
  exact⟨h.1,repAt_app l r (off+1) h.2 (by rwa [List.length_cons,show off+(l.length+1)=off+1+l.length by omega] at g)⟩
theorem add_none (b off n:Nat):(⟨b,off,none⟩:Addr).add n=⟨b,off+n,none⟩:=by
 by_cases h:n=0
 ·subst h
  simp [Addr.add]
 ·simp [Addr.add,h]
theorem rep_row4 {w:World} {O:Nat→Prop} {m:Ids} {b off:Nat}:∀ (n:Nat),(∀ i,i < n→∃ a:Nd,inI a.num∧zaR w O m b (nC a) (off+i * 4))→∃ l:List Nd,l.length=n∧numsI l∧zaR w O m b (l.flatMap nC) off
 | 0,_=>⟨[],rfl,fun m hm=>(by cases hm),by simp [zaR]⟩
 | n+1,h=>by
  obtain⟨l,h1,hN,h3⟩:=rep_row4 n fun i hi=>h i (by omega)
  obtain⟨a,hI,h5⟩:=h n (by omega)
  refine⟨l++[a],by simp [h1],fun m hm=>?_,?_⟩
  ·rcases List.mem_append.1 hm with hm | hm
   ·exact hN m hm
   ·simp only [List.mem_cons,List.not_mem_nil,or_false] at hm
    subst hm
    exact hI
  rw [List.flatMap_append]
  refine repAt_app _ _ _ h3 ?_
  rw [zce,h1,List.flatMap_cons,List.flatMap_nil,List.append_nil]
  exact h5
section
open Go.ChangeShapes Go.WideShapes Go.ChangeAt Go.RowKit
variable {H : Type} {enc : TypeId × Value → H} {P : Program} {w : World} {base : Nat} {sp : Nat → Bool} {held : Bool}
theorem open_nodes {r:Reach} {b0:Nat} {t0 t tk tn ts ti:TypeId} {f0 f1 f2 f3:Field} {v:Value} {d:DataW H} {ps:List MemPlace} (ht0:P.underlying t0=some (.slice t)) (ht:P.underlying t=some (.struct #[f0,f1,f2,f3])) (h0:f0.type=tk∧f0.offset=0) (h1:f1.type=tn∧f1.offset=1) (h2:f2.type=ts∧f2.offset=2) (h3:f3.type=ti∧f3.offset=3)
  (hts:P.underlying ts=some .string) (htk:P.underlying tk=some (.int .i64)) (htn:P.underlying tn=some (.int .i64)) (hti:P.underlying ti=some (.int .i64)) (c0:P.cellsOf tk=1) (c1:P.cellsOf tn=1) (c2:P.cellsOf ts=1) (c3:P.cellsOf ti=1) (c4:P.cellsOf t=4)
  (hval:Value.okWide P w r b0 t0 v) (hd:DataW.Trod enc P w base (fun _=>true) held t0 v d ps):zj5 w v:=by
 obtain⟨a,len,cap,rfl⟩:=okWide_slice ht0 hval
 obtain⟨fuel,hf⟩:=hd
 rcases DataW.trod_slice ht0 hf with ⟨hcs,_⟩ | ⟨x,l,c,elems,rest,n,_,hcs,_,_,hl,hm,hlen,hel,_,_⟩
 ·simp [Value.cells] at hcs
  obtain⟨rfl,rfl,rfl⟩:=hcs
  exact⟨none,0,0,[],rfl,Nat.le_refl _,by simp [maxLen],rfl,fun m hm=>(by cases hm),.inl rfl⟩
 ·simp [Value.cells] at hcs
  obtain⟨rfl,rfl,rfl⟩:=hcs
  by_cases hz:len=0
  ·exact⟨_,len,cap,[],rfl,hl,hm,hz.symm,fun m hm=>(by cases hm),.inl hz⟩
  rw [c4] at hel
  have each:∀ i,i < len→∃ y:Nd,inI y.num∧∃ v0 v1 v2 v3,w.cell? ((x.add (i * 4)).add 0)=some v0∧w.cell? ((x.add (i * 4)).add 1)=some v1∧w.cell? ((x.add (i * 4)).add 2)=some v2∧w.cell? ((x.add (i * 4)).add 3)=some v3∧rep w (own (fun _=>False) [] []) [] (i64 y.kind) v0∧rep w (own (fun _=>False) [] []) [] (i64 y.num) v1∧rep w (own (fun _=>False) [] []) [] (str y.text) v2∧rep w (own (fun _=>False) [] []) [] (i64 y.kids) v3:=by
   intro i hi
   have hi':=hel i hi
   rw [List.getElem?_eq_getElem (by omega),Option.bind_eq_some_iff] at hi'
   obtain⟨cs,hcs,hy⟩:=hi'
   obtain⟨xs,m,_,_,hcl,hxl,hx⟩:=DataW.trod_struct ht hy
   rw [c4] at hcl
   obtain⟨v0,v1,v2,v3,rfl⟩:=four hcl
   have g0:=hx 0 f0 rfl
   have g1:=hx 1 f1 rfl
   have g2:=hx 2 f2 rfl
   have g3:=hx 3 f3 rfl
   rw [h0.1,h0.2,c0] at g0
   rw [h1.1,h1.2,c1] at g1
   rw [h2.1,h2.2,c2] at g2
   rw [h3.1,h3.2,c3] at g3
   match xs,hxl with
   | [x0,x1,x2,x3],_ =>
    obtain⟨k,e0,_,w0⟩:=DataW.trod_int htk g0
    obtain⟨p,e1,_,w1⟩:=DataW.trod_int htn g1
    obtain⟨s,e2,_,w2⟩:=DataW.trod_string hts g2
    obtain⟨f,e3,_,w3⟩:=DataW.trod_int hti g3
    simp at e0 e1 e2 e3
    subst e0 e1 e2 e3
    obtain⟨_,_,hc⟩:=World.cells?_some hcs
    exact⟨⟨k,p,s.data.toList,f⟩,wf_inI w1,_,_,_,_,hc 0 (by omega),hc 1 (by omega),hc 2 (by omega),hc 3 (by omega),rep_i64 _,rep_i64 _,rep_str _,rep_i64 _⟩
  obtain⟨y,_,v0,_,_,_,hv0,_⟩:=each 0 (by omega)
  obtain⟨b,off,spot⟩:=x
  have hspot:spot=none:=by simpa [Addr.add] using World.cell?_spot hv0
  subst hspot
  obtain⟨l,hl1,hN,hl3⟩:=rep_row4 (w:=w) (O:=own (fun _=>False) [] []) (m:=[]) (b:=b) (off:=off) len fun i hi=>by
   obtain⟨y,hI,v0,v1,v2,v3,q0,q1,q2,q3,r0,r1,r2,r3⟩:=each i hi
   rw [add_none,add_none] at q0 q1 q2 q3
   refine⟨y,hI,?_⟩
   simp only [nC,zaR]
   exact⟨⟨_,q0,r0⟩,⟨_,q1,r1⟩,⟨_,q2,r2⟩,⟨_,q3,r3⟩,trivial⟩
  have hne:l.flatMap nC≠[]:=by
   intro h
   have:=zce l
   rw [h,hl1] at this
   simp at this
   omega
  exact⟨_,len,cap,l,rfl,hl,hm,hl1,hN,.inr ⟨b,off,rfl,zbi hl3 hne,hl3⟩⟩
end
end Go.Proofs.YtcahoelfogjljaaGreatDoor
end

section
namespace Go.Eng
open Go
theorem Glob.of_vars3 [Globs] {w:World} (h:∀ g cs,Globs.tab g=some cs→∃ (P:Program) (n:String),P.globalNamed n=some g∧w.var? P n=some cs.toArray) (hi:∀ g,g∈Globs.ints→∃ n:Int,w.cell? ⟨g,0,none⟩=some (.int .i64 n)) (he:∀ g,g∈Globs.errs→∃ (t:TypeId) (v:Value),w.cell? ⟨g,0,none⟩=some (.iface t v)):Glob w (Go.Eng.own (fun _=>False) [] []):=by
 have no:∀ g,¬ Go.Eng.own (fun _=>False) [] [] g:=by
  rintro g (hb | ⟨i,cs,hi,_⟩)
  ·exact hb
  ·simp at hi
 refine⟨fun g cs hg=>?_,fun g hg=>?_,fun g hg=>?_⟩
 ·obtain⟨P,n,h1,h2⟩:=h g cs hg
  have hb:∃ e f,w.heap[g]?=some (.cells cs.toArray e f):=by
   have h3:=h2
   simp only [World.var?,h1,Option.bind_some] at h3
   split at h3
   ·rename_i cs' e' f' e
    cases Option.some.inj h3
    exact⟨_,_,e⟩
   ·cases h3
  refine⟨no g,?_,hb,fun j v hv=>?_⟩
  ·obtain⟨_,_,e⟩:=hb
   rcases Nat.lt_or_ge g w.heap.size with hlt | hge
   ·exact hlt
   ·rw [Array.getElem?_eq_none hge] at e;cases e
  ·rw [World.var?_cell h1 h2 j,List.getElem?_toArray,hv]
 ·obtain⟨n,hn⟩:=hi g hg
  refine⟨no g,?_,n,hn⟩
  rcases Nat.lt_or_ge g w.heap.size with hlt | hge
  ·exact hlt
  ·simp [World.cell?,Array.getElem?_eq_none hge] at hn
 ·obtain⟨t,v,hn⟩:=he g hg
  refine⟨no g,?_,t,v,hn⟩
  rcases Nat.lt_or_ge g w.heap.size with hlt | hge
  ·exact hlt
  ·simp [World.cell?,Array.getElem?_eq_none hge] at hn
theorem wrap_and_shaped {H:Type} {enc:TypeId × Value→H} {a:Assume} {C:Checked} {os:Os} {f:FuncId} {fn:Func} {s:ChangeSpec} {conds:List PathCond} {apart fresh handsOn again:Bool} {X:World→Array Value→Prop}
  (hX:∀ (w w':World) (args:Array Value),w.heap=w'.heap→X w args→X w' args)
  (h1:ownKnob C.prog.godebug=none) (h2:os.Started) (h3:C.prog.inits.idxOf? f=none) (hfn:C.prog.funcs[f]?=some fn)
  (h4:∃ (w:World) (tape:Tape) (i:Input),w.os=os∧(w.forCall tape i).Shaped C.prog∧i.vars=[]∧Input.okWide C.prog (w.forCall tape i) .any w.heap.size f i ∧
   ((s.pre enc C.prog fn conds apart (w.forCall tape i).memory i.args∧X (w.forCall tape i).memory i.args)∧sizedMet enc C.prog fn (OpenSpec.ofChange s) apart (w.forCall tape i).memory i.args)∧a.holds C.prog (lone (Frame.enter C.prog f i.args .normal) [] (w.forCall tape i)))
  (h5:∀ (W:World) (base:Nat) (args:Array Value) (ds gs:List (DataW H)) (before:List MemPlace),
   (∀ (j:Nat) t v,fn.params[j]?=some t→args[j]?=some v→Value.okWide C.prog W .any base t v) →
   DataW.Whole enc C.prog fn.params.toList s.vars apart W args.toList ds gs before →
   conds.all (PathCond.test C.prog ⟨fn.params.toList,ds,s.plain.varTypes C.prog,gs⟩)=true →
   (DataW.weightsEach C.prog (fn.params.toList++s.plain.varTypes C.prog) (ds++gs)).all (·≤reachBytes)=true→X W args→W.ShapedOpen C.prog →
   a.holds C.prog (lone (Frame.enter C.prog f args .normal) [] W) →
   Calls C.prog f args W fun e W'=>∃ v,e=.returned v∧s.post enc C.prog fn apart fresh handsOn again W args v W') :
  ReturnsInHanded a C os f .any (fun w args=>(s.pre enc C.prog fn conds apart w args∧X w args)∧sizedMet enc C.prog fn (OpenSpec.ofChange s) apart w args) (s.post enc C.prog fn apart fresh handsOn again):=by
 refine returnsInHanded_of_calls h1 h2 h3 h4 ?_
 intro w tape i _ hsh _ hok hpre hh
 have hval:∀ (j:Nat) t v,fn.params[j]?=some t→i.args[j]?=some v→Value.okWide C.prog (w.forCall tape i) .any w.heap.size t v:=by
  obtain⟨_,_,_,fn',hfn',_,_,_,_,hv⟩:=hok
  cases Option.some.inj (hfn'.symm.trans hfn)
  exact hv
 obtain⟨⟨⟨ds,gs,bf,hw,hc⟩,hx⟩,hz⟩:=hpre
 have key:=h5 (w.forCall tape i) w.heap.size i.args ds gs bf hval (DataW.Whole.of_heap (w':=w.forCall tape i) (by rfl) hw) hc (hz.weights hw) (hX _ _ _ (by rfl) hx) hsh hh
 refine key.mono ?_
 rintro e W' ⟨v,rfl,hp⟩
 exact ChangeSpec.post_blind hp
end Go.Eng
namespace Go.Proofs.YtcahoelfogjljaaGreatDoor
open Go Go.Eng
def laid3:List (String × DataW Unit):=Rows.termTellsRow.laid
def nm (i : Nat) : String := (laid3[i]?.map (·.1)).getD ""
def dt (i:Nat):DataW Unit:=(laid3[i]?.map (·.2)).getD .nil
theorem ownK:ownKnob Tryz.prog.godebug=none:=by kernel_rfl
theorem laidOut:laidOutB Tryz.prog=true:=by kernel_rfl
theorem oneRow:((List.range Tryz.prog.types.size).filter fun t=>Tryz.prog.rowNamed t [101,114,114,111,114])=[96]:=by kernel_rfl
def plain5:List (String × DataW Unit):=[(nm 0,dt 0),(nm 1,dt 1),(nm 2,dt 2),(nm 3,dt 3),(nm 5,dt 5),(nm 6,dt 6),(nm 7,dt 7)]
theorem star : "*" ++ "errors.errorString" = "*errors.errorString" := by decide
theorem rowErr (u : TypeId) (h : Tryz.prog.typeName? 3 u = some "*errors.errorString") : u = 302 :=
 typeName_ptr_named (nm := "errors.errorString") (by rw [star]; kernel_rfl) (by kernel_rfl) (by decide) u (by rw [star]; exact h)
theorem gRange:Tryz.prog.globalNamed (nm 5)=some 5:=by kernel_rfl
theorem gSyntax:Tryz.prog.globalNamed (nm 6)=some 4:=by kernel_rfl
theorem tRange:(Tryz.prog.globals[5]?).map (·.type)=some 96:=by kernel_rfl
theorem tSyntax:(Tryz.prog.globals[4]?).map (·.type)=some 96:=by kernel_rfl
theorem cellsE:Tryz.prog.cellsOf 304=1:=by kernel_rfl
theorem cellsS:Tryz.prog.cellsOf 9=1:=by kernel_rfl
theorem glob_of_laid {w:World} (h:laidMetH Tryz.prog laid3 w) (hsh:w.ShapedOpen Tryz.prog):Glob w (Go.Eng.own (fun _=>False) [] []):=by
 have h':laidMet Tryz.prog plain5 w∧handlesMet Tryz.prog [(nm 4,dt 4)] w:=h
 have hL:=h'.1.tail.tail.tail.tail
 obtain⟨a0,s0,hv0,_,_,_⟩:=laid_sentinel hL gRange tRange Tryz.underlying96 rowErr Tryz.underlying302 Tryz.underlying304 rfl rfl Tryz.underlying9 cellsE cellsS
 obtain⟨a1,s1,hv1,_,_,_⟩:=laid_sentinel hL.tail gSyntax tSyntax Tryz.underlying96 rowErr Tryz.underlying302 Tryz.underlying304 rfl rfl Tryz.underlying9 cellsE cellsS
 obtain⟨name,u,ty,e1,e2,e3,e4,e5⟩:=h'.2 _ (List.mem_singleton.2 rfl)
 have en:name=[101,114,114,111,114]:=(Option.some.inj e1).symm
 subst en
 obtain rfl:u=207:=Option.some.inj (e2.symm.trans (by kernel_rfl))
 have hm:ty∈(List.range Tryz.prog.types.size).filter fun t=>Tryz.prog.rowNamed t [101,114,114,111,114]:=List.mem_filter.2 ⟨List.mem_range.2 e3,e4⟩
 rw [oneRow] at hm
 obtain rfl:=List.mem_singleton.1 hm
 have hh:typeHandle Tryz.prog 96=.pointer (some ⟨9,96,none⟩):=by kernel_rfl
 rw [hh] at e5
 have hpw:=Go.Lib.tabIs_of_head (P:=Tryz.prog) (W:=w) (zs:=Go.Lib.pow10Tab) (k:=.u64) (g:=6) (t:=297) (e:=159) (n:=20) (by kernel_rfl) (by kernel_rfl) (by kernel_rfl) (by kernel_rfl) (by kernel_rfl) (by kernel_rfl) (h'.1.tail.tail)
 refine Glob.of_vars3 (fun g cs hg=>?_) (fun g hg=>?_) (fun g hg=>?_)
 ·by_cases hgg:g=0
  ·subst hgg
   obtain rfl:=Option.some.inj (show some [rtypeV 9 96]=some cs from hg)
   exact⟨_,_,(by kernel_rfl:Tryz.prog.globalNamed (nm 4)=some 0),e5⟩
  ·by_cases hgp:g=6
   ·subst hgp
    obtain rfl:=Option.some.inj (show some powT=some cs from hg)
    exact⟨_,_,(by kernel_rfl:Tryz.prog.globalNamed (nm 2)=some 6),hpw⟩
   ·exact absurd hg (by
     intro hg
     have:(none:Option (List Value))=some cs:=by
      rw [← hg]
      symm
      show (match g with | 0=>some [rtypeV 9 96] | 6=>some powT | _=>none)=none
      split
      ·exact absurd rfl hgg
      ·exact absurd rfl hgp
      ·rfl
     cases this)
 ·have hg':g=1:=by
   have:g∈[1]:=hg
   simpa using this
  subst hg'
  exact Go.Proofs.cell_of_shapedOpen_int (zero:=#[.int .i64 0]) (t:=3) hsh (of_decide_eq_true (by kernel_rfl)) (by kernel_rfl) rfl (by kernel_rfl) (by kernel_rfl) Tryz.underlying3
 ·have hg':g=5∨g=4:=by
   have:g∈[5,4]:=hg
   simpa using this
  rcases hg' with rfl | rfl
  ·exact⟨_,_,World.var?_cell gRange hv0 0⟩
  ·exact⟨_,_,World.var?_cell gSyntax hv1 0⟩
def great:List String:=[nm 7]
noncomputable def laidW (os:Os):World:=(World.doorLaid Tryz.prog 4000 os).layVars Tryz.prog ((laid3.filter fun x=>x.2.handleName?.isNone).filter fun x=>great.contains x.1)
theorem laidW_os (os:Os):(laidW os).os=os:=(World.layVars_os _ _ _).trans rfl
noncomputable def doorBlocks (os:Os):List Nat:=(List.range (World.doorLaid Tryz.prog 4000 os).heap.size).filter fun i=>i != 2
theorem door_met (os:Os) (args:Array Value):laidMetH Tryz.prog laid3 ((laidW os).forCall (fun _ _=>0) ⟨#[],args,[]⟩).memory :=
 laidMetH_of_parts3 (fuel:=8)
  (laidMet_layVars (w0:=World.doorLaid Tryz.prog 4000 os) great (doorBlocks os) (by simp [World.memory,World.forCall,Input.heap,laidW]) (by kernel_rfl) (by kernel_rfl) (LaidIn.of_run (doorBlocks os) 8 (by kernel_rfl) (by kernel_rfl) (by kernel_rfl) (by kernel_rfl)))
  (by kernel_rfl) (by kernel_rfl)
end Go.Proofs.YtcahoelfogjljaaGreatDoor
end

