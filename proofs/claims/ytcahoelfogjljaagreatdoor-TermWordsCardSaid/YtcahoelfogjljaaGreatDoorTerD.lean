/-
  What is read; texts in a row. No condition.
-/
import Derived.Test.YtcahoelfogjljaaGreatDoorTerC
set_option linter.unusedSimpArgs false
set_option linter.unusedVariables false
set_option linter.unusedSectionVars false
section
namespace Go.Eng
open Go
theorem aQ4 {a b:zaa} {c:Nat} {d:zaa} (p:List Nat) (e:zaq a b p p c d:=by simp [LM1,zal,zaq,zae,zaf,renL,AV.ren,AEnd.ren,zbP,zao,fS,gS,cC,nilS,zau,zaj,zac,wI,wO,zab,zad,List.getElem?_cons_zero,List.getElem?_cons_succ]):zaq a b p p c d:=e
theorem aQ5 {a b:zaa} {c:Nat} {d:zaa} (p:List Nat) (e:zaq a b p p c d:=by simp [LB9,LB10,zal,zaq,zae,renL,AV.ren,AEnd.ren,zao,zau,zbP,cC,nilS,zaj,List.getElem?_cons_zero,List.getElem?_cons_succ,gS]):zaq a b p p c d:=e
theorem aQ6 {a b:zaa} {c:Nat} {d:zaa} (p:List Nat) (e:zaq a b p p c d:=by simp [LB9,LB10,zal,zaq,zae,renL,AV.ren,AEnd.ren,zao,zau,zbP,cC,nilS,zaj,List.getElem?_cons_zero,List.getElem?_cons_succ,gB]):zaq a b p p c d:=e
theorem aQ7 {a b:zaa} {c:Nat} {d:zaa} (p:List Nat) (e:zaq a b p p c d:=by simp [LB9,LB10,zal,zaq,zae,renL,AV.ren,AEnd.ren,zao,zau,zbP,cC,nilS,zaj,List.getElem?_cons_zero,List.getElem?_cons_succ,gC]):zaq a b p p c d:=e
theorem aQ11 {a b:AEnd} (p:List Nat) (e:AEnd.ren p a b:=by first | rfl | simp [LM1,zal,zaq,zae,zaf,renL,AV.ren,AEnd.ren,zbP,zao,fS,gS,cC,nilS,zau,zaj,zac,wI,wO,zab,zad,List.getElem?_cons_zero,List.getElem?_cons_succ]):AEnd.ren p a b:=e
theorem aQ12 {a b:AEnd} (p:List Nat) (e:AEnd.ren p a b:=by first | rfl | simp [LB9,LB10,zal,zaq,zae,renL,AV.ren,AEnd.ren,zao,zau,zbP,cC,nilS,zaj,List.getElem?_cons_zero,List.getElem?_cons_succ]):AEnd.ren p a b:=e
theorem aQ20 {P:Prop} (e:P:=by simp only [List.length_drop];omega):P:=e
theorem aQ41 {P Q:Prop} (h:Q) (e:P=Q:=by first|(simp -implicitDefEqProofs only [LM6,LB18,eq_self,zaA,zbu T191,TB,SB,Int.reduceToNat,Nat.reduceAdd,Nat.reduceEqDiff,Nat.reduceLT,Nat.reduceMod,Nat.reducePow,Nat.reduceSub,if_true,reduceIte];first|done|exact rfl)|exact rfl):P:=e ▸ h
theorem aQ42 {P Q:Prop} (h:Q) (e:P=Q:=by first|(simp [loA,zal,zaD,cC,nilS,renL,AV.ren,zag,zam,zao,zau];first|done|exact rfl)|exact rfl):P:=e ▸ h
theorem aQ43 {P Q:Prop} (h:Q) (e:P=Q:=by first|(simp -implicitDefEqProofs only [LB2,LB3,LB6,LB19,eq_self,TB,SB,Int.reduceToNat,Nat.reduceAdd,Nat.reduceEqDiff,Nat.reduceLT,Nat.reduceMod,Nat.reducePow,Nat.reduceSub,if_true,reduceIte];first|done|exact rfl)|exact rfl):P:=e ▸ h
end Go.Eng
end

section
namespace Go.Proofs.YtcahoelfogjljaaGreatDoor
open Go Go.Eng
set_option linter.defProp false in
def LB17:=And.intro @ia_ref_O ((fun {K} {id} {o}=>@fa_m0 _ K id o T51))
theorem wsl_O_hi (id off len:Nat) (h:Int) (σ:zaa) (K:AV→Prop):zby T 156 (.ref id off len 2) none (some (i64 h)) σ K=(0≤h∧h≤len∧K (.ref id off h.toNat 2)):=by
 simp [zby,T156,tySl,bnd,i64,T193,tyOp]
theorem gkid_no0 (s:List UInt8) (p:Nat) (l:List Nd) (j:Nat) (O:List (Nat × List UInt8)) (hs:s.length≤1000000000) (hp:p≤s.length) (hpe:p=s.length) :
  ACalls Tryz.prog 110 [.ptr 0 0] (gS s p l (j+1) O) (fun y σ=>y=.pan cgu∧σ=[Blk.dead,Blk.dead,Blk.dead]):=by
 unfold gS
 refine ACalls.body T_ok Tryz.func110 (by kernel_rfl) rfl Tryz.ntmps110 (congrArg Array.toList Tryz.results110) ?_
 refine aQ39 ?_
 refine za0 (by kernel_rfl) (by kernel_rfl) ?_
 refine aQ39 ?_
 exact⟨fun _=>zbc (zaj _) ⟨rfl,rfl⟩,fun h=>absurd (by omega) h⟩
theorem gkid_end (s:List UInt8) (p:Nat) (l:List Nd) (j:Nat) (O:List (Nat × List UInt8)) (hs:s.length≤1000000000) (hp:p≤s.length) {a:Nat} {last:List UInt8} (hj:O[j]?=some (a,last)) (ha:a < l.length) (hpl:p < s.length) (hb:s.getD p 0=0) (hO:O.length≤1000000000) :
  ACalls Tryz.prog 110 [.ptr 0 0] (gS s p l (j+1) O) (fun y σ=>y=.ret (.tup [])∧σ=gS s ((p+1:Nat):Int) l j O):=by
 have hjl:=(List.getElem?_eq_some_iff.1 hj).1
 have c0:(O.flatMap oC)[j * 2]?=some (i64 a):=by
  have:=getO O j 0 (by omega)
  rw [hj] at this
  exact this
 have c1:(O.flatMap oC)[j * 2+1]?=some (str last):=by
  have:=getO O j 1 (by omega)
  rw [hj] at this
  exact this
 have ck:(l.flatMap nC)[a * 4]?=some (i64 (l.getD a n0d).kind):=by
  have:=getN l a 0 (by omega)
  rw [List.getElem?_eq_getElem ha] at this
  rw [show a * 4=a * 4+0 by rfl,this,List.getD_eq_getElem?_getD,List.getElem?_eq_getElem ha]
  rfl
 have ej:(((j+1:Nat):Int) - 1)=(j:Nat):=by omega
 unfold gS
 refine ACalls.body T_ok Tryz.func110 (by kernel_rfl) rfl Tryz.ntmps110 (congrArg Array.toList Tryz.results110) ?_
 refine aQ39 ?_
 refine za0 (by kernel_rfl) (by kernel_rfl) ?_
 refine aQ39 ?_
 refine⟨fun h=>absurd h (by omega),fun _=>?_⟩
 refine za0 (by kernel_rfl) (by kernel_rfl) ?_
 try simp -implicitDefEqProofs only [LM6,LB16,LB17,eq_self,zaA,zbu T191,zaE c0,zaE ck,zbG c1,zas,zcw T193,Nat.zero_add,TB,SB,Int.reduceToNat,Nat.reduceAdd,Nat.reduceEqDiff,Nat.reduceLT,Nat.reduceMod,Nat.reducePow,Nat.reduceSub,if_true,reduceIte]
 refine⟨by unfold inI;omega,by omega,by omega,?_⟩
 rw [ej,Int.toNat_natCast]
 refine za0 (by kernel_rfl) (by kernel_rfl) ?_
 try simp -implicitDefEqProofs only [LM6,LB16,LB17,eq_self,zaA,zbu T191,zaE c0,zaE ck,zbG c1,zas,zcw T193,Nat.zero_add,TB,SB,Int.reduceToNat,Nat.reduceAdd,Nat.reduceEqDiff,Nat.reduceLT,Nat.reduceMod,Nat.reducePow,Nat.reduceSub,if_true,reduceIte]
 refine⟨by omega,by omega,?_⟩
 refine za0 (by kernel_rfl) (by kernel_rfl) ?_
 try simp -implicitDefEqProofs only [LM6,LB16,LB17,eq_self,zaA,zbu T191,zaE c0,zaE ck,zbG c1,zas,zcw T193,Nat.zero_add,TB,SB,Int.reduceToNat,Nat.reduceAdd,Nat.reduceEqDiff,Nat.reduceLT,Nat.reduceMod,Nat.reducePow,Nat.reduceSub,if_true,reduceIte]
 refine⟨by omega,by omega,fun _=>⟨by unfold inI;omega,?_⟩,fun h=>absurd hb h⟩
 refine zb7 [14] (by kernel_rfl) (by kernel_rfl) (by kernel_rfl) ?_
 try simp -implicitDefEqProofs only [LM6,LB16,LB17,eq_self,zaA,zbu T191,zaE c0,zaE ck,zbG c1,zas,zcw T193,Nat.zero_add,TB,SB,Int.reduceToNat,Nat.reduceAdd,Nat.reduceEqDiff,Nat.reduceLT,Nat.reduceMod,Nat.reducePow,Nat.reduceSub,if_true,reduceIte]
 rw [ej]
 refine⟨by unfold inI;omega,?_⟩
 rw [wsl_O_hi]
 refine⟨by omega,by omega,?_⟩
 rw [Int.toNat_natCast]
 refine aQ39 ?_
 have e9:((p:Int)+1)=((p+1:Nat):Int):=by omega
 rw [e9]
 exact zeM rfl ⟨rfl,rfl⟩
end Go.Proofs.YtcahoelfogjljaaGreatDoor
end

section
namespace Go.Proofs.YtcahoelfogjljaaGreatDoor
open Go Go.Eng
theorem gkid_bad (s:List UInt8) (p:Nat) (l:List Nd) (j:Nat) (O:List (Nat × List UInt8)) (hs:s.length≤1000000000) (hp:p≤s.length) {a:Nat} {last:List UInt8} (hj:O[j]?=some (a,last)) (ha:a < l.length) (hpl:p < s.length) (hb:¬ s.getD p 0=0) (hO:O.length≤1000000000) (hl:l.length≤800000000) (h5:(l.getD a n0d).kind=5) (hb1:¬ s.getD p 0=1) :
  ACalls Tryz.prog 110 [.ptr 0 0] (gS s p l (j+1) O) (fun y σ=>y=.pan cgu∧σ=[Blk.dead,Blk.dead,Blk.dead]):=by
 have hjl:=(List.getElem?_eq_some_iff.1 hj).1
 have c0:(O.flatMap oC)[j * 2]?=some (i64 a):=by
  have:=getO O j 0 (by omega)
  rw [hj] at this
  exact this
 have c1:(O.flatMap oC)[j * 2+1]?=some (str last):=by
  have:=getO O j 1 (by omega)
  rw [hj] at this
  exact this
 have ck:(l.flatMap nC)[a * 4]?=some (i64 (l.getD a n0d).kind):=by
  have:=getN l a 0 (by omega)
  rw [List.getElem?_eq_getElem ha] at this
  rw [show a * 4=a * 4+0 by rfl,this,List.getD_eq_getElem?_getD,List.getElem?_eq_getElem ha]
  rfl
 have ej:(((j+1:Nat):Int) - 1)=(j:Nat):=by omega
 unfold gS
 refine ACalls.body T_ok Tryz.func110 (by kernel_rfl) rfl Tryz.ntmps110 (congrArg Array.toList Tryz.results110) ?_
 refine aQ39 ?_
 refine za0 (by kernel_rfl) (by kernel_rfl) ?_
 refine aQ39 ?_
 refine⟨fun h=>absurd h (by omega),fun _=>?_⟩
 refine za0 (by kernel_rfl) (by kernel_rfl) ?_
 try simp -implicitDefEqProofs only [LM6,LB16,LB17,eq_self,zaA,zbu T191,zaE c0,zaE ck,zbG c1,zas,zcw T193,Nat.zero_add,TB,SB,Int.reduceToNat,Nat.reduceAdd,Nat.reduceEqDiff,Nat.reduceLT,Nat.reduceMod,Nat.reducePow,Nat.reduceSub,if_true,reduceIte]
 refine⟨by unfold inI;omega,by omega,by omega,?_⟩
 rw [ej,Int.toNat_natCast]
 refine za0 (by kernel_rfl) (by kernel_rfl) ?_
 try simp -implicitDefEqProofs only [LM6,LB16,LB17,eq_self,zaA,zbu T191,zaE c0,zaE ck,zbG c1,zas,zcw T193,Nat.zero_add,TB,SB,Int.reduceToNat,Nat.reduceAdd,Nat.reduceEqDiff,Nat.reduceLT,Nat.reduceMod,Nat.reducePow,Nat.reduceSub,if_true,reduceIte]
 refine⟨by omega,by omega,?_⟩
 refine za0 (by kernel_rfl) (by kernel_rfl) ?_
 try simp -implicitDefEqProofs only [LM6,LB16,LB17,eq_self,zaA,zbu T191,zaE c0,zaE ck,zbG c1,zas,zcw T193,Nat.zero_add,TB,SB,Int.reduceToNat,Nat.reduceAdd,Nat.reduceEqDiff,Nat.reduceLT,Nat.reduceMod,Nat.reducePow,Nat.reduceSub,if_true,reduceIte]
 refine⟨by omega,by omega,fun h=>absurd h hb,fun _=>?_⟩
 rw [decide_eq_true h5]
 refine aQ39 ?_
 exact⟨fun _=>zbc (zaj _) ⟨rfl,rfl⟩,fun h=>absurd h hb1⟩
def incK (l:List Nd) (a:Nat):List Nd:=l.set a ⟨(l.getD a n0d).kind,(l.getD a n0d).num,(l.getD a n0d).text,(l.getD a n0d).kids+1⟩
theorem zbm (l:List Nd) (a:Nat):(incK l a).length=l.length:=by simp [incK]
theorem gkid_list (s:List UInt8) (p:Nat) (l:List Nd) (j:Nat) (O:List (Nat × List UInt8)) (hs:s.length≤1000000000) (hp:p≤s.length) {a:Nat} {last:List UInt8} (hj:O[j]?=some (a,last)) (ha:a < l.length) (hpl:p < s.length) (hb:¬ s.getD p 0=0) (hO:O.length≤1000000000) (hl:l.length≤800000000) (h5:¬ (l.getD a n0d).kind=5) (hk1:0≤(l.getD a n0d).kids) (hk2:(l.getD a n0d).kids≤1000000000) (K:AEnd→zaa→Prop) (hB:ACalls Tryz.prog 109 [.ptr 0 0] (gS s p (incK l a) (j+1) O) (fun y σ=>(y=.ret (.tup [])∨y=.pan cgu)∧K y σ)) :
  ACalls Tryz.prog 110 [.ptr 0 0] (gS s p l (j+1) O) K:=by
 have hjl:=(List.getElem?_eq_some_iff.1 hj).1
 have c0:(O.flatMap oC)[j * 2]?=some (i64 a):=by
  have:=getO O j 0 (by omega)
  rw [hj] at this
  exact this
 have c1:(O.flatMap oC)[j * 2+1]?=some (str last):=by
  have:=getO O j 1 (by omega)
  rw [hj] at this
  exact this
 have ck:(l.flatMap nC)[a * 4]?=some (i64 (l.getD a n0d).kind):=by
  have:=getN l a 0 (by omega)
  rw [List.getElem?_eq_getElem ha] at this
  rw [show a * 4=a * 4+0 by rfl,this,List.getD_eq_getElem?_getD,List.getElem?_eq_getElem ha]
  rfl
 have ej:(((j+1:Nat):Int) - 1)=(j:Nat):=by omega
 have c3:(l.flatMap nC)[a * 4+3]?=some (i64 (l.getD a n0d).kids):=by
  have:=getN l a 3 (by omega)
  rw [List.getElem?_eq_getElem ha] at this
  rw [this,List.getD_eq_getElem?_getD,List.getElem?_eq_getElem ha]
  rfl
 unfold gS
 refine ACalls.body T_ok Tryz.func110 (by kernel_rfl) rfl Tryz.ntmps110 (congrArg Array.toList Tryz.results110) ?_
 refine aQ39 ?_
 refine za0 (by kernel_rfl) (by kernel_rfl) ?_
 refine aQ39 ?_
 refine⟨fun h=>absurd h (by omega),fun _=>?_⟩
 refine za0 (by kernel_rfl) (by kernel_rfl) ?_
 try simp -implicitDefEqProofs only [LM6,LB16,LB17,eq_self,zaA,zbu T191,zaE c0,zaE ck,zbG c1,zas,zcw T193,Nat.zero_add,TB,SB,Int.reduceToNat,Nat.reduceAdd,Nat.reduceEqDiff,Nat.reduceLT,Nat.reduceMod,Nat.reducePow,Nat.reduceSub,if_true,reduceIte]
 refine⟨by unfold inI;omega,by omega,by omega,?_⟩
 rw [ej,Int.toNat_natCast]
 refine za0 (by kernel_rfl) (by kernel_rfl) ?_
 try simp -implicitDefEqProofs only [LM6,LB16,LB17,eq_self,zaA,zbu T191,zaE c0,zaE ck,zbG c1,zas,zcw T193,Nat.zero_add,TB,SB,Int.reduceToNat,Nat.reduceAdd,Nat.reduceEqDiff,Nat.reduceLT,Nat.reduceMod,Nat.reducePow,Nat.reduceSub,if_true,reduceIte]
 refine⟨by omega,by omega,?_⟩
 refine za0 (by kernel_rfl) (by kernel_rfl) ?_
 try simp -implicitDefEqProofs only [LM6,LB16,LB17,eq_self,zaA,zbu T191,zaE c0,zaE ck,zbG c1,zas,zcw T193,Nat.zero_add,TB,SB,Int.reduceToNat,Nat.reduceAdd,Nat.reduceEqDiff,Nat.reduceLT,Nat.reduceMod,Nat.reducePow,Nat.reduceSub,if_true,reduceIte]
 refine⟨by omega,by omega,fun h=>absurd h hb,fun _=>?_⟩
 rw [decide_eq_false h5]
 refine aQ39 ?_
 refine zb7 [14] (by kernel_rfl) (by kernel_rfl) (by kernel_rfl) ?_
 try simp -implicitDefEqProofs only [LM6,LB16,eq_self,zaA,zbu T191,zaE c3,zaE c0,zas,Nat.zero_add,TB,SB,Int.reduceToNat,Nat.reduceAdd,Nat.reduceEqDiff,Nat.reduceLT,Nat.reduceMod,Nat.reducePow,Nat.reduceSub,if_true,reduceIte]
 refine⟨by omega,by omega,by unfold inI;omega,by omega,by omega,by rw [zbv];omega,?_⟩
 rw [zd0 l a _ ha]
 unfold gS at hB
 rw [zbm] at hB
 refine ACalls.mono hB ?_
 rintro y σ ⟨rfl | rfl,hK⟩
 ·refine aQ39 ?_
  exact zaG hK
 ·refine aQ39 ?_
  exact zaG hK
end Go.Proofs.YtcahoelfogjljaaGreatDoor
end

section
namespace Go.Proofs.YtcahoelfogjljaaGreatDoor
open Go Go.Eng
theorem gkid_map (s:List UInt8) (p:Nat) (l:List Nd) (j:Nat) (O:List (Nat × List UInt8)) (hs:s.length≤1000000000) (hp:p≤s.length) {a:Nat} {last:List UInt8} (hj:O[j]?=some (a,last)) (ha:a < l.length) (hpl:p < s.length) (hb:¬ s.getD p 0=0) (hO:O.length≤800000000) (hl:l.length≤800000000) (h5:(l.getD a n0d).kind=5) (hb1:s.getD p 0=1) {t:List UInt8} {n:Nat} (hx:rdT (s.drop (p+1))=some (t,n)) (hok:¬ (0 < (l.getD a n0d).kids∧leB t last=true)) (hk1:0≤(l.getD a n0d).kids) (hk2:(l.getD a n0d).kids≤1000000000) {nd:Nd} {e:Nat} (hpn:p+1+n≤s.length) (hn:nodR s (p+1+n)=some (nd,e)) (h4:nd.kind≠4) (h5':nd.kind≠5) :
  ACalls Tryz.prog 110 [.ptr 0 0] (gS s p l (j+1) O) (fun y σ=>y=.ret (.tup [])∧σ=[.rw (cC s (e:Int) (.ref 3 0 (l.length+1+1) 4) (.ref 2 0 (j+1) 2)),.dead,.rw ((O.set j (a,t)).flatMap oC),.rw (((incK (l++[(⟨3,0,t,0⟩:Nd)]) a)++[nd]).flatMap nC)]):=by
 have hjl:=(List.getElem?_eq_some_iff.1 hj).1
 have c0:(O.flatMap oC)[j * 2]?=some (i64 a):=by
  have:=getO O j 0 (by omega)
  rw [hj] at this
  exact this
 have c1:(O.flatMap oC)[j * 2+1]?=some (str last):=by
  have:=getO O j 1 (by omega)
  rw [hj] at this
  exact this
 have ck:(l.flatMap nC)[a * 4]?=some (i64 (l.getD a n0d).kind):=by
  have:=getN l a 0 (by omega)
  rw [List.getElem?_eq_getElem ha] at this
  rw [show a * 4=a * 4+0 by rfl,this,List.getD_eq_getElem?_getD,List.getElem?_eq_getElem ha]
  rfl
 have ej:(((j+1:Nat):Int) - 1)=(j:Nat):=by omega
 have hky:=gkey_ok s (p+1) l (j+1) j O hs (by omega) (by omega) hj ha hx hok
 obtain⟨M,hM⟩:∃ M,M=(l++[(⟨3,0,t,0⟩:Nd)]):=⟨_,rfl⟩
 have hMl:M.length=l.length+1:=by rw [hM];simp
 rw [← hM] at hky ⊢
 obtain⟨M2,hM2⟩:∃ M2,M2=incK M a:=⟨_,rfl⟩
 obtain⟨M3,hM3⟩:∃ M3,M3=M2++[nd]:=⟨_,rfl⟩
 rw [← hM2,← hM3]
 have hal:a < M.length:=by omega
 have hg:M.getD a n0d=l.getD a n0d:=by rw [hM,List.getD_eq_getElem?_getD,List.getElem?_append_left ha,List.getD_eq_getElem?_getD]
 have hkk:(M.getD a n0d).kids=(l.getD a n0d).kids:=by rw [hg]
 have hj1:(O.set j (a,t))[j]?=some (a,t):=by rw [List.getElem?_set_self hjl]
 have d0:((O.set j (a,t)).flatMap oC)[j * 2]?=some (i64 a):=by
  have:=getO (O.set j (a,t)) j 0 (by omega)
  rw [hj1] at this
  exact this
 have d3:(M.flatMap nC)[a * 4+3]?=some (i64 (l.getD a n0d).kids):=by
  have:=getN M a 3 (by omega)
  rw [hM,List.getElem?_append_left ha,List.getElem?_eq_getElem ha] at this
  rw [hM,this,List.getD_eq_getElem?_getD,List.getElem?_eq_getElem ha]
  rfl
 unfold gS
 refine ACalls.body T_ok Tryz.func110 (by kernel_rfl) rfl Tryz.ntmps110 (congrArg Array.toList Tryz.results110) ?_
 refine aQ39 ?_
 refine za0 (by kernel_rfl) (by kernel_rfl) ?_
 refine aQ39 ?_
 refine⟨fun h=>absurd h (by omega),fun _=>?_⟩
 refine za0 (by kernel_rfl) (by kernel_rfl) ?_
 try simp -implicitDefEqProofs only [LM6,LB16,LB17,eq_self,zaA,zbu T191,zaE c0,zaE ck,zbG c1,zas,zcw T193,Nat.zero_add,TB,SB,Int.reduceToNat,Nat.reduceAdd,Nat.reduceEqDiff,Nat.reduceLT,Nat.reduceMod,Nat.reducePow,Nat.reduceSub,if_true,reduceIte]
 refine⟨by unfold inI;omega,by omega,by omega,?_⟩
 rw [ej,Int.toNat_natCast]
 refine za0 (by kernel_rfl) (by kernel_rfl) ?_
 try simp -implicitDefEqProofs only [LM6,LB16,LB17,eq_self,zaA,zbu T191,zaE c0,zaE ck,zbG c1,zas,zcw T193,Nat.zero_add,TB,SB,Int.reduceToNat,Nat.reduceAdd,Nat.reduceEqDiff,Nat.reduceLT,Nat.reduceMod,Nat.reducePow,Nat.reduceSub,if_true,reduceIte]
 refine⟨by omega,by omega,?_⟩
 refine za0 (by kernel_rfl) (by kernel_rfl) ?_
 try simp -implicitDefEqProofs only [LM6,LB16,LB17,eq_self,zaA,zbu T191,zaE c0,zaE ck,zbG c1,zas,zcw T193,Nat.zero_add,TB,SB,Int.reduceToNat,Nat.reduceAdd,Nat.reduceEqDiff,Nat.reduceLT,Nat.reduceMod,Nat.reducePow,Nat.reduceSub,if_true,reduceIte]
 refine⟨by omega,by omega,fun h=>absurd h hb,fun _=>?_⟩
 rw [decide_eq_true h5]
 refine aQ39 ?_
 refine⟨fun h=>absurd hb1 h,fun _=>⟨by unfold inI;omega,?_⟩⟩
 refine ACalls.frame ([0,1,2]) (hky) rfl (by decide) (by simp [LM1,zal,zaq,zae,zaf,renL,AV.ren,AEnd.ren,zao,fS,gS,cC,nilS,zau,zaj,zac,wI,wO,zab,zad,List.getElem?_cons_zero,List.getElem?_cons_succ]) (by first | rfl | simp [LM1,zal,zaq,zae,zaf,renL,AV.ren,AEnd.ren,zao,fS,gS,cC,nilS,zau,zaj,zac,wI,wO,zab,zad,List.getElem?_cons_zero,List.getElem?_cons_succ]) ?_
 rintro _ _ ⟨rfl,rfl⟩
 refine⟨.ret (.tup []),[.rw (cC s ((p+1+n:Nat):Int) (.ref 3 0 (l.length+1) 4) (.ref 2 0 (j+1) 2)),.dead,.rw ((O.set j (a,t)).flatMap oC),.rw (M.flatMap nC)],(aQ3 ([0,1,2,3])),(aQ10 ([0,1,2,3])),?_⟩
 refine aQ39 ?_
 refine zb7 [14] (by kernel_rfl) (by kernel_rfl) (by kernel_rfl) ?_
 try simp -implicitDefEqProofs only [LM6,LB16,eq_self,zaA,zbu T191,zaE d3,zaE d0,zas,Nat.zero_add,TB,SB,Int.reduceToNat,Nat.reduceAdd,Nat.reduceEqDiff,Nat.reduceLT,Nat.reduceMod,Nat.reducePow,Nat.reduceSub,if_true,reduceIte]
 refine⟨by omega,by omega,by unfold inI;omega,by omega,by omega,by rw [zbv];omega,?_⟩
 rw [← hkk,zd0 M a _ hal]
 have hI:M2.length=l.length+1:=by rw [hM2,zbm];omega
 rw [show M.set a ⟨(M.getD a n0d).kind,(M.getD a n0d).num,(M.getD a n0d).text,(M.getD a n0d).kids+1⟩=M2 from hM2.symm]
 have hB:=zgN s (p+1+n) M2 (j+1) (O.set j (a,t)) hs (by exact hpn) hn (by omega) (by rw [List.length_set];omega) (by omega) h4 h5'
 unfold gS at hB
 rw [hI,← hM3] at hB
 refine ACalls.frame ([0,3,2]) (hB) rfl (by decide) (by simp [LM1,zal,zaq,zae,zaf,renL,AV.ren,AEnd.ren,zao,fS,gS,cC,nilS,zau,zaj,zac,wI,wO,zab,zad,List.getElem?_cons_zero,List.getElem?_cons_succ]) (by first | rfl | simp [LM1,zal,zaq,zae,zaf,renL,AV.ren,AEnd.ren,zao,fS,gS,cC,nilS,zau,zaj,zac,wI,wO,zab,zad,List.getElem?_cons_zero,List.getElem?_cons_succ]) ?_
 rintro _ _ ⟨rfl,rfl⟩
 refine⟨.ret (.tup []),[.rw (cC s (e:Int) (.ref 4 0 (l.length+1+1) 4) (.ref 2 0 (j+1) 2)),.dead,.rw ((O.set j (a,t)).flatMap oC),.dead,.rw (M3.flatMap nC)],(aQ3 ([0,4,2,1,3])),(aQ10 ([0,4,2,1,3])),?_⟩
 refine aQ39 ?_
 exact zbk [0,1,2,4] (.tup []) _ rfl rfl (by decide) rfl aQ19 ⟨rfl,rfl⟩
end Go.Proofs.YtcahoelfogjljaaGreatDoor
end

section
namespace Go.Proofs.YtcahoelfogjljaaGreatDoor
open Go Go.Eng
theorem gkid_mapo (s:List UInt8) (p:Nat) (l:List Nd) (j:Nat) (O:List (Nat × List UInt8)) (hs:s.length≤1000000000) (hp:p≤s.length) {a:Nat} {last:List UInt8} (hj:O[j]?=some (a,last)) (ha:a < l.length) (hpl:p < s.length) (hb:¬ s.getD p 0=0) (hO:O.length≤800000000) (hl:l.length≤800000000) (h5:(l.getD a n0d).kind=5) (hb1:s.getD p 0=1) {t:List UInt8} {n:Nat} (hx:rdT (s.drop (p+1))=some (t,n)) (hok:¬ (0 < (l.getD a n0d).kids∧leB t last=true)) (hk1:0≤(l.getD a n0d).kids) (hk2:(l.getD a n0d).kids≤1000000000) {nd:Nd} {e:Nat} (hpn:p+1+n≤s.length) (hn:nodR s (p+1+n)=some (nd,e)) (h45:nd.kind=4∨nd.kind=5) :
  ACalls Tryz.prog 110 [.ptr 0 0] (gS s p l (j+1) O) (fun y σ=>y=.ret (.tup [])∧σ=[.rw (cC s (e:Int) (.ref 4 0 (l.length+1+1) 4) (.ref 3 0 (j+1+1) 2)),.dead,.dead,.rw (((O.set j (a,t)).take (j+1)++[(l.length+1,[])]).flatMap oC),.rw (((incK (l++[(⟨3,0,t,0⟩:Nd)]) a)++[nd]).flatMap nC)]):=by
 have hjl:=(List.getElem?_eq_some_iff.1 hj).1
 have c0:(O.flatMap oC)[j * 2]?=some (i64 a):=by
  have:=getO O j 0 (by omega)
  rw [hj] at this
  exact this
 have c1:(O.flatMap oC)[j * 2+1]?=some (str last):=by
  have:=getO O j 1 (by omega)
  rw [hj] at this
  exact this
 have ck:(l.flatMap nC)[a * 4]?=some (i64 (l.getD a n0d).kind):=by
  have:=getN l a 0 (by omega)
  rw [List.getElem?_eq_getElem ha] at this
  rw [show a * 4=a * 4+0 by rfl,this,List.getD_eq_getElem?_getD,List.getElem?_eq_getElem ha]
  rfl
 have ej:(((j+1:Nat):Int) - 1)=(j:Nat):=by omega
 have hky:=gkey_ok s (p+1) l (j+1) j O hs (by omega) (by omega) hj ha hx hok
 obtain⟨M,hM⟩:∃ M,M=(l++[(⟨3,0,t,0⟩:Nd)]):=⟨_,rfl⟩
 have hMl:M.length=l.length+1:=by rw [hM];simp
 rw [← hM] at hky ⊢
 obtain⟨M2,hM2⟩:∃ M2,M2=incK M a:=⟨_,rfl⟩
 obtain⟨M3,hM3⟩:∃ M3,M3=M2++[nd]:=⟨_,rfl⟩
 rw [← hM2,← hM3]
 have hal:a < M.length:=by omega
 have hg:M.getD a n0d=l.getD a n0d:=by rw [hM,List.getD_eq_getElem?_getD,List.getElem?_append_left ha,List.getD_eq_getElem?_getD]
 have hkk:(M.getD a n0d).kids=(l.getD a n0d).kids:=by rw [hg]
 have hj1:(O.set j (a,t))[j]?=some (a,t):=by rw [List.getElem?_set_self hjl]
 have d0:((O.set j (a,t)).flatMap oC)[j * 2]?=some (i64 a):=by
  have:=getO (O.set j (a,t)) j 0 (by omega)
  rw [hj1] at this
  exact this
 have d3:(M.flatMap nC)[a * 4+3]?=some (i64 (l.getD a n0d).kids):=by
  have:=getN M a 3 (by omega)
  rw [hM,List.getElem?_append_left ha,List.getElem?_eq_getElem ha] at this
  rw [hM,this,List.getD_eq_getElem?_getD,List.getElem?_eq_getElem ha]
  rfl
 unfold gS
 refine ACalls.body T_ok Tryz.func110 (by kernel_rfl) rfl Tryz.ntmps110 (congrArg Array.toList Tryz.results110) ?_
 refine aQ39 ?_
 refine za0 (by kernel_rfl) (by kernel_rfl) ?_
 refine aQ39 ?_
 refine⟨fun h=>absurd h (by omega),fun _=>?_⟩
 refine za0 (by kernel_rfl) (by kernel_rfl) ?_
 try simp -implicitDefEqProofs only [LM6,LB16,LB17,eq_self,zaA,zbu T191,zaE c0,zaE ck,zbG c1,zas,zcw T193,Nat.zero_add,TB,SB,Int.reduceToNat,Nat.reduceAdd,Nat.reduceEqDiff,Nat.reduceLT,Nat.reduceMod,Nat.reducePow,Nat.reduceSub,if_true,reduceIte]
 refine⟨by unfold inI;omega,by omega,by omega,?_⟩
 rw [ej,Int.toNat_natCast]
 refine za0 (by kernel_rfl) (by kernel_rfl) ?_
 try simp -implicitDefEqProofs only [LM6,LB16,LB17,eq_self,zaA,zbu T191,zaE c0,zaE ck,zbG c1,zas,zcw T193,Nat.zero_add,TB,SB,Int.reduceToNat,Nat.reduceAdd,Nat.reduceEqDiff,Nat.reduceLT,Nat.reduceMod,Nat.reducePow,Nat.reduceSub,if_true,reduceIte]
 refine⟨by omega,by omega,?_⟩
 refine za0 (by kernel_rfl) (by kernel_rfl) ?_
 try simp -implicitDefEqProofs only [LM6,LB16,LB17,eq_self,zaA,zbu T191,zaE c0,zaE ck,zbG c1,zas,zcw T193,Nat.zero_add,TB,SB,Int.reduceToNat,Nat.reduceAdd,Nat.reduceEqDiff,Nat.reduceLT,Nat.reduceMod,Nat.reducePow,Nat.reduceSub,if_true,reduceIte]
 refine⟨by omega,by omega,fun h=>absurd h hb,fun _=>?_⟩
 rw [decide_eq_true h5]
 refine aQ39 ?_
 refine⟨fun h=>absurd hb1 h,fun _=>⟨by unfold inI;omega,?_⟩⟩
 refine ACalls.frame ([0,1,2]) (hky) rfl (by decide) (by simp [LM1,zal,zaq,zae,zaf,renL,AV.ren,AEnd.ren,zao,fS,gS,cC,nilS,zau,zaj,zac,wI,wO,zab,zad,List.getElem?_cons_zero,List.getElem?_cons_succ]) (by first | rfl | simp [LM1,zal,zaq,zae,zaf,renL,AV.ren,AEnd.ren,zao,fS,gS,cC,nilS,zau,zaj,zac,wI,wO,zab,zad,List.getElem?_cons_zero,List.getElem?_cons_succ]) ?_
 rintro _ _ ⟨rfl,rfl⟩
 refine⟨.ret (.tup []),[.rw (cC s ((p+1+n:Nat):Int) (.ref 3 0 (l.length+1) 4) (.ref 2 0 (j+1) 2)),.dead,.rw ((O.set j (a,t)).flatMap oC),.rw (M.flatMap nC)],(aQ3 ([0,1,2,3])),(aQ10 ([0,1,2,3])),?_⟩
 refine aQ39 ?_
 refine zb7 [14] (by kernel_rfl) (by kernel_rfl) (by kernel_rfl) ?_
 try simp -implicitDefEqProofs only [LM6,LB16,eq_self,zaA,zbu T191,zaE d3,zaE d0,zas,Nat.zero_add,TB,SB,Int.reduceToNat,Nat.reduceAdd,Nat.reduceEqDiff,Nat.reduceLT,Nat.reduceMod,Nat.reducePow,Nat.reduceSub,if_true,reduceIte]
 refine⟨by omega,by omega,by unfold inI;omega,by omega,by omega,by rw [zbv];omega,?_⟩
 rw [← hkk,zd0 M a _ hal]
 have hI:M2.length=l.length+1:=by rw [hM2,zbm];omega
 rw [show M.set a ⟨(M.getD a n0d).kind,(M.getD a n0d).num,(M.getD a n0d).text,(M.getD a n0d).kids+1⟩=M2 from hM2.symm]
 have hB:=zhW s (p+1+n) M2 (j+1) (O.set j (a,t)) hs (by exact hpn) hn (by omega) (by rw [List.length_set];omega) (by omega) h45
 unfold gS at hB
 obtain⟨Q,hQ⟩:∃ Q,Q=(O.set j (a,t)).take (j+1)++[(l.length+1,[])]:=⟨_,rfl⟩
 rw [hI,← hM3,← hQ] at hB
 rw [← hQ]
 refine ACalls.frame ([0,3,2]) (hB) rfl (by decide) (by simp [LM1,zal,zaq,zae,zaf,renL,AV.ren,AEnd.ren,zao,fS,gS,cC,nilS,zau,zaj,zac,wI,wO,zab,zad,List.getElem?_cons_zero,List.getElem?_cons_succ]) (by first | rfl | simp [LM1,zal,zaq,zae,zaf,renL,AV.ren,AEnd.ren,zao,fS,gS,cC,nilS,zau,zaj,zac,wI,wO,zab,zad,List.getElem?_cons_zero,List.getElem?_cons_succ]) ?_
 rintro _ _ ⟨rfl,rfl⟩
 refine⟨.ret (.tup []),[.rw (cC s (e:Int) (.ref 5 0 (l.length+1+1) 4) (.ref 4 0 (j+1+1) 2)),.dead,.dead,.dead,.rw (Q.flatMap oC),.rw (M3.flatMap nC)],(aQ3 ([0,5,2,1,3,4])),(aQ10 ([0,5,2,1,3,4])),?_⟩
 refine aQ39 ?_
 exact zbk [0,1,2,4,5] (.tup []) _ rfl rfl (by decide) rfl aQ19 ⟨rfl,rfl⟩
theorem gkid_mapn (s:List UInt8) (p:Nat) (l:List Nd) (j:Nat) (O:List (Nat × List UInt8)) (hs:s.length≤1000000000) (hp:p≤s.length) {a:Nat} {last:List UInt8} (hj:O[j]?=some (a,last)) (ha:a < l.length) (hpl:p < s.length) (hb:¬ s.getD p 0=0) (hO:O.length≤800000000) (hl:l.length≤800000000) (h5:(l.getD a n0d).kind=5) (hb1:s.getD p 0=1) {t:List UInt8} {n:Nat} (hx:rdT (s.drop (p+1))=some (t,n)) (hok:¬ (0 < (l.getD a n0d).kids∧leB t last=true)) (hk1:0≤(l.getD a n0d).kids) (hk2:(l.getD a n0d).kids≤1000000000) (hpn:p+1+n≤s.length) (hn:nodR s (p+1+n)=none) :
  ACalls Tryz.prog 110 [.ptr 0 0] (gS s p l (j+1) O) (fun y σ=>y=.pan cgu∧σ=[Blk.dead,Blk.dead,Blk.dead]):=by
 have hjl:=(List.getElem?_eq_some_iff.1 hj).1
 have c0:(O.flatMap oC)[j * 2]?=some (i64 a):=by
  have:=getO O j 0 (by omega)
  rw [hj] at this
  exact this
 have c1:(O.flatMap oC)[j * 2+1]?=some (str last):=by
  have:=getO O j 1 (by omega)
  rw [hj] at this
  exact this
 have ck:(l.flatMap nC)[a * 4]?=some (i64 (l.getD a n0d).kind):=by
  have:=getN l a 0 (by omega)
  rw [List.getElem?_eq_getElem ha] at this
  rw [show a * 4=a * 4+0 by rfl,this,List.getD_eq_getElem?_getD,List.getElem?_eq_getElem ha]
  rfl
 have ej:(((j+1:Nat):Int) - 1)=(j:Nat):=by omega
 have hky:=gkey_ok s (p+1) l (j+1) j O hs (by omega) (by omega) hj ha hx hok
 obtain⟨M,hM⟩:∃ M,M=(l++[(⟨3,0,t,0⟩:Nd)]):=⟨_,rfl⟩
 have hMl:M.length=l.length+1:=by rw [hM];simp
 rw [← hM] at hky
 obtain⟨M2,hM2⟩:∃ M2,M2=incK M a:=⟨_,rfl⟩
 have hal:a < M.length:=by omega
 have hg:M.getD a n0d=l.getD a n0d:=by rw [hM,List.getD_eq_getElem?_getD,List.getElem?_append_left ha,List.getD_eq_getElem?_getD]
 have hkk:(M.getD a n0d).kids=(l.getD a n0d).kids:=by rw [hg]
 have hj1:(O.set j (a,t))[j]?=some (a,t):=by rw [List.getElem?_set_self hjl]
 have d0:((O.set j (a,t)).flatMap oC)[j * 2]?=some (i64 a):=by
  have:=getO (O.set j (a,t)) j 0 (by omega)
  rw [hj1] at this
  exact this
 have d3:(M.flatMap nC)[a * 4+3]?=some (i64 (l.getD a n0d).kids):=by
  have:=getN M a 3 (by omega)
  rw [hM,List.getElem?_append_left ha,List.getElem?_eq_getElem ha] at this
  rw [hM,this,List.getD_eq_getElem?_getD,List.getElem?_eq_getElem ha]
  rfl
 unfold gS
 refine ACalls.body T_ok Tryz.func110 (by kernel_rfl) rfl Tryz.ntmps110 (congrArg Array.toList Tryz.results110) ?_
 refine aQ39 ?_
 refine za0 (by kernel_rfl) (by kernel_rfl) ?_
 refine aQ39 ?_
 refine⟨fun h=>absurd h (by omega),fun _=>?_⟩
 refine za0 (by kernel_rfl) (by kernel_rfl) ?_
 try simp -implicitDefEqProofs only [LM6,LB16,LB17,eq_self,zaA,zbu T191,zaE c0,zaE ck,zbG c1,zas,zcw T193,Nat.zero_add,TB,SB,Int.reduceToNat,Nat.reduceAdd,Nat.reduceEqDiff,Nat.reduceLT,Nat.reduceMod,Nat.reducePow,Nat.reduceSub,if_true,reduceIte]
 refine⟨by unfold inI;omega,by omega,by omega,?_⟩
 rw [ej,Int.toNat_natCast]
 refine za0 (by kernel_rfl) (by kernel_rfl) ?_
 try simp -implicitDefEqProofs only [LM6,LB16,LB17,eq_self,zaA,zbu T191,zaE c0,zaE ck,zbG c1,zas,zcw T193,Nat.zero_add,TB,SB,Int.reduceToNat,Nat.reduceAdd,Nat.reduceEqDiff,Nat.reduceLT,Nat.reduceMod,Nat.reducePow,Nat.reduceSub,if_true,reduceIte]
 refine⟨by omega,by omega,?_⟩
 refine za0 (by kernel_rfl) (by kernel_rfl) ?_
 try simp -implicitDefEqProofs only [LM6,LB16,LB17,eq_self,zaA,zbu T191,zaE c0,zaE ck,zbG c1,zas,zcw T193,Nat.zero_add,TB,SB,Int.reduceToNat,Nat.reduceAdd,Nat.reduceEqDiff,Nat.reduceLT,Nat.reduceMod,Nat.reducePow,Nat.reduceSub,if_true,reduceIte]
 refine⟨by omega,by omega,fun h=>absurd h hb,fun _=>?_⟩
 rw [decide_eq_true h5]
 refine aQ39 ?_
 refine⟨fun h=>absurd hb1 h,fun _=>⟨by unfold inI;omega,?_⟩⟩
 refine ACalls.frame ([0,1,2]) (hky) rfl (by decide) (by simp [LM1,zal,zaq,zae,zaf,renL,AV.ren,AEnd.ren,zao,fS,gS,cC,nilS,zau,zaj,zac,wI,wO,zab,zad,List.getElem?_cons_zero,List.getElem?_cons_succ]) (by first | rfl | simp [LM1,zal,zaq,zae,zaf,renL,AV.ren,AEnd.ren,zao,fS,gS,cC,nilS,zau,zaj,zac,wI,wO,zab,zad,List.getElem?_cons_zero,List.getElem?_cons_succ]) ?_
 rintro _ _ ⟨rfl,rfl⟩
 refine⟨.ret (.tup []),[.rw (cC s ((p+1+n:Nat):Int) (.ref 3 0 (l.length+1) 4) (.ref 2 0 (j+1) 2)),.dead,.rw ((O.set j (a,t)).flatMap oC),.rw (M.flatMap nC)],(aQ3 ([0,1,2,3])),(aQ10 ([0,1,2,3])),?_⟩
 refine aQ39 ?_
 refine zb7 [14] (by kernel_rfl) (by kernel_rfl) (by kernel_rfl) ?_
 try simp -implicitDefEqProofs only [LM6,LB16,eq_self,zaA,zbu T191,zaE d3,zaE d0,zas,Nat.zero_add,TB,SB,Int.reduceToNat,Nat.reduceAdd,Nat.reduceEqDiff,Nat.reduceLT,Nat.reduceMod,Nat.reducePow,Nat.reduceSub,if_true,reduceIte]
 refine⟨by omega,by omega,by unfold inI;omega,by omega,by omega,by rw [zbv];omega,?_⟩
 rw [← hkk,zd0 M a _ hal]
 have hI:M2.length=l.length+1:=by rw [hM2,zbm];omega
 rw [show M.set a ⟨(M.getD a n0d).kind,(M.getD a n0d).num,(M.getD a n0d).text,(M.getD a n0d).kids+1⟩=M2 from hM2.symm]
 have hB:=gbegin_no s (p+1+n) M2 (j+1) (O.set j (a,t)) hs (by exact hpn) hn
 unfold gS at hB
 rw [hI] at hB
 refine ACalls.frame ([0,3,2]) (hB) rfl (by decide) (by simp [LM1,zal,zaq,zae,zaf,renL,AV.ren,AEnd.ren,zao,fS,gS,cC,nilS,zau,zaj,zac,wI,wO,zab,zad,List.getElem?_cons_zero,List.getElem?_cons_succ]) (by first | rfl | simp [LM1,zal,zaq,zae,zaf,renL,AV.ren,AEnd.ren,zao,fS,gS,cC,nilS,zau,zaj,zac,wI,wO,zab,zad,List.getElem?_cons_zero,List.getElem?_cons_succ]) ?_
 rintro _ _ ⟨rfl,rfl⟩
 refine⟨.pan cgu,[.dead,.dead,.dead,.dead],(aQ3 ([0,3,2,1])),(aQ10 ([0,3,2,1])),?_⟩
 refine aQ39 ?_
 exact zbc (zaj _) ⟨rfl,rfl⟩
theorem gkid_mapk (s:List UInt8) (p:Nat) (l:List Nd) (j:Nat) (O:List (Nat × List UInt8)) (hs:s.length≤1000000000) (hp:p≤s.length) {a:Nat} {last:List UInt8} (hj:O[j]?=some (a,last)) (ha:a < l.length) (hpl:p < s.length) (hb:¬ s.getD p 0=0) (hO:O.length≤800000000) (hl:l.length≤800000000) (h5:(l.getD a n0d).kind=5) (hb1:s.getD p 0=1) (hky:ACalls Tryz.prog 141 [.ptr 0 0,.ptr 2 (j * 2)] (gS s ((p+1:Nat):Int) l (j+1) O) (fun y σ=>y=.pan cgu∧σ=[Blk.dead,Blk.dead,Blk.dead])) :
  ACalls Tryz.prog 110 [.ptr 0 0] (gS s p l (j+1) O) (fun y σ=>y=.pan cgu∧σ=[Blk.dead,Blk.dead,Blk.dead]):=by
 have hjl:=(List.getElem?_eq_some_iff.1 hj).1
 have c0:(O.flatMap oC)[j * 2]?=some (i64 a):=by
  have:=getO O j 0 (by omega)
  rw [hj] at this
  exact this
 have c1:(O.flatMap oC)[j * 2+1]?=some (str last):=by
  have:=getO O j 1 (by omega)
  rw [hj] at this
  exact this
 have ck:(l.flatMap nC)[a * 4]?=some (i64 (l.getD a n0d).kind):=by
  have:=getN l a 0 (by omega)
  rw [List.getElem?_eq_getElem ha] at this
  rw [show a * 4=a * 4+0 by rfl,this,List.getD_eq_getElem?_getD,List.getElem?_eq_getElem ha]
  rfl
 have ej:(((j+1:Nat):Int) - 1)=(j:Nat):=by omega
 unfold gS
 refine ACalls.body T_ok Tryz.func110 (by kernel_rfl) rfl Tryz.ntmps110 (congrArg Array.toList Tryz.results110) ?_
 refine aQ39 ?_
 refine za0 (by kernel_rfl) (by kernel_rfl) ?_
 refine aQ39 ?_
 refine⟨fun h=>absurd h (by omega),fun _=>?_⟩
 refine za0 (by kernel_rfl) (by kernel_rfl) ?_
 try simp -implicitDefEqProofs only [LM6,LB16,LB17,eq_self,zaA,zbu T191,zaE c0,zaE ck,zbG c1,zas,zcw T193,Nat.zero_add,TB,SB,Int.reduceToNat,Nat.reduceAdd,Nat.reduceEqDiff,Nat.reduceLT,Nat.reduceMod,Nat.reducePow,Nat.reduceSub,if_true,reduceIte]
 refine⟨by unfold inI;omega,by omega,by omega,?_⟩
 rw [ej,Int.toNat_natCast]
 refine za0 (by kernel_rfl) (by kernel_rfl) ?_
 try simp -implicitDefEqProofs only [LM6,LB16,LB17,eq_self,zaA,zbu T191,zaE c0,zaE ck,zbG c1,zas,zcw T193,Nat.zero_add,TB,SB,Int.reduceToNat,Nat.reduceAdd,Nat.reduceEqDiff,Nat.reduceLT,Nat.reduceMod,Nat.reducePow,Nat.reduceSub,if_true,reduceIte]
 refine⟨by omega,by omega,?_⟩
 refine za0 (by kernel_rfl) (by kernel_rfl) ?_
 try simp -implicitDefEqProofs only [LM6,LB16,LB17,eq_self,zaA,zbu T191,zaE c0,zaE ck,zbG c1,zas,zcw T193,Nat.zero_add,TB,SB,Int.reduceToNat,Nat.reduceAdd,Nat.reduceEqDiff,Nat.reduceLT,Nat.reduceMod,Nat.reducePow,Nat.reduceSub,if_true,reduceIte]
 refine⟨by omega,by omega,fun h=>absurd h hb,fun _=>?_⟩
 rw [decide_eq_true h5]
 refine aQ39 ?_
 refine⟨fun h=>absurd hb1 h,fun _=>⟨by unfold inI;omega,?_⟩⟩
 have hky2:=hky
 unfold gS at hky2
 refine ACalls.frame ([0,1,2]) (hky2) rfl (by decide) (by simp [LM1,zal,zaq,zae,zaf,renL,AV.ren,AEnd.ren,zao,fS,gS,cC,nilS,zau,zaj,zac,wI,wO,zab,zad,List.getElem?_cons_zero,List.getElem?_cons_succ]) (by first | rfl | simp [LM1,zal,zaq,zae,zaf,renL,AV.ren,AEnd.ren,zao,fS,gS,cC,nilS,zau,zaj,zac,wI,wO,zab,zad,List.getElem?_cons_zero,List.getElem?_cons_succ]) ?_
 rintro _ _ ⟨rfl,rfl⟩
 refine⟨.pan cgu,[.dead,.dead,.dead],(aQ3 ([0,1,2])),(aQ10 ([0,1,2])),?_⟩
 refine aQ39 ?_
 exact zbc (zaj _) ⟨rfl,rfl⟩
end Go.Proofs.YtcahoelfogjljaaGreatDoor
end

section
namespace Go.Proofs.YtcahoelfogjljaaGreatDoor
open Go Go.Eng
theorem zgO:∀ (n:Nat) (s:List UInt8),s.length≤n→∀ x,rdT s=some x→2≤x.2∧x.2≤s.length
 | 0,s,h,x,hx=>by
  have:s=[]:=List.eq_nil_of_length_eq_zero (by omega)
  subst this
  cases hx
 | n+1,s,h,x,hx=>by
  match s,h,hx with
  | [],_,hx=>cases hx
  | [_],_,hx=>cases hx
  | c::b::r,h,hx =>
   simp only [List.length_cons] at h ⊢
   rw [rdT] at hx
   split at hx
   ·split at hx
    ·cases hx;simp
    ·split at hx
     ·cases hr:rdT r with
      | none=>rw [hr] at hx;cases hx
      | some y =>
       rw [hr] at hx
       cases hx
       have:=zgO n r (by omega) y hr
       simp only;omega
     ·cases hx
   ·cases hr:rdT (b::r) with
    | none=>rw [hr] at hx;cases hx
    | some y =>
     rw [hr] at hx
     cases hx
     have:=zgO n (b::r) aQ13 y hr
     simp only [List.length_cons] at this ⊢;omega
structure RS where
 p:Nat
 l:List Nd
 o:List (Nat × List UInt8)
def zbS (s:List UInt8) (x:RS):Option RS:=match nodR s x.p with
 | none=>none
 | some (n,e)=>if n.kind=4∨n.kind=5 then some ⟨e,x.l++[n],x.o++[(x.l.length,[])]⟩ else some ⟨e,x.l++[n],x.o⟩
def kidR (s:List UInt8) (x:RS) (a:Nat) (last:List UInt8):Option RS :=
 if s.length≤x.p then none
 else if s.getD x.p 0=0 then some ⟨x.p+1,x.l,x.o.dropLast⟩
 else if (x.l.getD a n0d).kind=5 then
  if s.getD x.p 0=1 then match rdT (s.drop (x.p+1)) with
   | none=>none
   | some (t,n)=>if 0 < (x.l.getD a n0d).kids∧leB t last=true then none
    else zbS s ⟨x.p+1+n,incK (x.l++[⟨3,0,t,0⟩]) a,x.o.dropLast++[(a,t)]⟩
  else none
 else zbS s ⟨x.p,incK x.l a,x.o⟩
def gB (s:List UInt8) (p:Int) (l:List Nd) (m:Nat) (O:List (Nat × List UInt8)):zaa:=[.rw (cC s p (.ref 3 0 l.length 4) (.ref 2 0 m 2)),.dead,.rw (O.flatMap oC),.rw (l.flatMap nC)]
def gC (s:List UInt8) (p:Int) (l:List Nd) (m:Nat) (O:List (Nat × List UInt8)):zaa:=[.rw (cC s p (.ref 4 0 l.length 4) (.ref 3 0 m 2)),.dead,.dead,.rw (O.flatMap oC),.rw (l.flatMap nC)]
def outK (s:List UInt8) (B:Nat) (x:Option RS):AEnd→zaa→Prop:=fun y σ=>match x with
 | none=>y=.pan cgu∧σ=[Blk.dead,Blk.dead,Blk.dead]
 | some x=>y=.ret (.tup [])∧∃ O,O.take x.o.length=x.o∧O.length≤B+1∧(σ=gS s x.p x.l x.o.length O∨σ=gB s x.p x.l x.o.length O∨σ=gC s x.p x.l x.o.length O)
theorem gbegin_ok (s:List UInt8) (x:RS) (O:List (Nat × List UInt8)) (hs:s.length≤1000000000) (hp:x.p≤s.length) (hl:x.l.length≤900000000) (hO:O.take x.o.length=x.o) (hm:x.o.length≤O.length) (hO2:O.length≤900000000):ACalls Tryz.prog 109 [.ptr 0 0] (gS s x.p x.l x.o.length O) (outK s O.length (zbS s x)):=by
 obtain⟨p,l,o⟩:=x
 dsimp only at hp hl hO hm ⊢
 cases hx:nodR s p with
 | none =>
  refine(gbegin_no s p l o.length O hs hp hx).mono ?_
  rintro _ _ ⟨rfl,rfl⟩
  simp only [zbS,hx]
  exact⟨rfl,rfl⟩
 | some z =>
  obtain⟨n,e⟩:=z
  by_cases h45:n.kind=4∨n.kind=5
  ·refine(zhW s p l o.length O hs hp hx hl hm (by omega) h45).mono ?_
   rintro _ _ ⟨rfl,rfl⟩
   simp only [zbS,hx,if_pos h45]
   refine⟨rfl,O.take o.length++[(l.length,[])],?_,?_,.inr (.inr ?_)⟩
   ·rw [hO]
    exact List.take_of_length_le (by simp)
   ·simp only [List.length_append,List.length_take,List.length_cons,List.length_nil];omega
   ·simp only [gC,List.length_append,List.length_cons,List.length_nil]
  ·refine(zgN s p l o.length O hs hp hx hl hm (by omega) (fun h=>h45 (.inl h)) (fun h=>h45 (.inr h))).mono ?_
   rintro _ _ ⟨rfl,rfl⟩
   simp only [zbS,hx,if_neg h45]
   refine⟨rfl,O,hO,by omega,.inr (.inl ?_)⟩
   simp only [gB,List.length_append,List.length_cons,List.length_nil]
end Go.Proofs.YtcahoelfogjljaaGreatDoor
end

section
namespace Go.Proofs.YtcahoelfogjljaaGreatDoor
open Go Go.Eng
theorem gkid_ok (s:List UInt8) (x:RS) (j:Nat) (O:List (Nat × List UInt8)) (hs:s.length≤1000000000) (hp:x.p≤s.length) {a:Nat} {last:List UInt8} (hj:O[j]?=some (a,last)) (ha:a < x.l.length) (hO1:x.o.length=j+1) (hO:O.take (j+1)=x.o) (hO2:O.length≤800000000) (hl:x.l.length≤800000000) (hk1:0≤(x.l.getD a n0d).kids) (hk2:(x.l.getD a n0d).kids≤1000000000) :
  ACalls Tryz.prog 110 [.ptr 0 0] (gS s x.p x.l (j+1) O) (outK s O.length (kidR s x a last)):=by
 obtain⟨p,l,o⟩:=x
 dsimp only at hp ha hO1 hO hl hk1 hk2 ⊢
 have hjl:=(List.getElem?_eq_some_iff.1 hj).1
 have hdl:o.dropLast=O.take j:=by rw [← hO,List.dropLast_eq_take,List.length_take,List.take_take];congr 1;omega
 by_cases hpe:p=s.length
 ·refine(gkid_no0 s p l j O hs hp hpe).mono ?_
  rintro _ _ ⟨rfl,rfl⟩
  rw [kidR,if_pos (by dsimp only;omega)]
  exact⟨rfl,rfl⟩
 have hpl:p < s.length:=by omega
 have c1:¬ s.length≤p:=by omega
 by_cases hb:s.getD p 0=0
 ·refine(gkid_end s p l j O hs hp hj ha hpl hb (by omega)).mono ?_
  rintro _ _ ⟨rfl,rfl⟩
  rw [kidR,if_neg c1,if_pos hb]
  refine⟨rfl,O,?_,?_,.inl ?_⟩
  ·dsimp only
   rw [hdl,List.length_take];congr 1;omega
  ·omega
  ·dsimp only
   rw [hdl,List.length_take,Nat.min_eq_left (by omega)]
 by_cases h5:(l.getD a n0d).kind=5
 ·by_cases hb1:s.getD p 0=1
  ·cases hx:rdT (s.drop (p+1)) with
   | none =>
    refine(gkid_mapk s p l j O hs hp hj ha hpl hb (by omega) hl h5 hb1 (gkey_no1 s (p+1) l (j+1) j O hs (by omega) hx)).mono ?_
    rintro _ _ ⟨rfl,rfl⟩
    rw [kidR,if_neg c1,if_neg hb,if_pos h5,if_pos hb1]
    simp only [hx]
    exact⟨rfl,rfl⟩
   | some z =>
    obtain⟨t,n⟩:=z
    have hle:=zgO _ _ (Nat.le_refl _) _ hx
    simp only [List.length_drop] at hle
    by_cases hok:0 < (l.getD a n0d).kids∧leB t last=true
    ·refine(gkid_mapk s p l j O hs hp hj ha hpl hb (by omega) hl h5 hb1 (gkey_no2 s (p+1) l (j+1) j O hs (by omega) hj ha hx hok.1 hok.2)).mono ?_
     rintro _ _ ⟨rfl,rfl⟩
     rw [kidR,if_neg c1,if_neg hb,if_pos h5,if_pos hb1]
     simp only [hx,if_pos hok]
     exact⟨rfl,rfl⟩
    ·have hk:kidR s ⟨p,l,o⟩ a last=zbS s ⟨p+1+n,incK (l++[⟨3,0,t,0⟩]) a,O.take j++[(a,t)]⟩:=by
      rw [kidR,if_neg c1,if_neg hb,if_pos h5,if_pos hb1]
      simp only [hx,if_neg hok,hdl]
     have hset:(O.set j (a,t)).take (j+1)=O.take j++[(a,t)]:=by
      rw [List.take_succ_eq_append_getElem (by rw [List.length_set];omega),List.take_set_of_le (Nat.le_refl _)]
      simp
     have hlen2:(O.take j++[(a,t)]).length=j+1:=by simp;omega
     rw [hk]
     cases hn:nodR s (p+1+n) with
     | none =>
      refine(gkid_mapn s p l j O hs hp hj ha hpl hb (by omega) hl h5 hb1 hx hok hk1 hk2 (by omega) hn).mono ?_
      rintro _ _ ⟨rfl,rfl⟩
      simp only [zbS,hn]
      exact⟨rfl,rfl⟩
     | some z =>
      obtain⟨nd,e⟩:=z
      by_cases h45:nd.kind=4∨nd.kind=5
      ·refine(gkid_mapo s p l j O hs hp hj ha hpl hb (by omega) hl h5 hb1 hx hok hk1 hk2 (by omega) hn h45).mono ?_
       rintro _ _ ⟨rfl,rfl⟩
       simp only [zbS,hn,if_pos h45]
       refine⟨rfl,(O.set j (a,t)).take (j+1)++[(l.length+1,[])],?_,?_,.inr (.inr ?_)⟩
       ·rw [hset]
        simp only [zbm,List.length_append,List.length_cons,List.length_nil]
        rw [List.take_of_length_le (by simp)]
       ·simp only [List.length_append,List.length_take,List.length_set,List.length_cons,List.length_nil];omega
       ·simp only [gC,List.length_append,List.length_cons,List.length_nil,zbm]
        rw [show (O.take j).length=j by rw [List.length_take];omega]
      ·refine(gkid_map s p l j O hs hp hj ha hpl hb (by omega) hl h5 hb1 hx hok hk1 hk2 (by omega) hn (fun h=>h45 (.inl h)) (fun h=>h45 (.inr h))).mono ?_
       rintro _ _ ⟨rfl,rfl⟩
       simp only [zbS,hn,if_neg h45]
       refine⟨rfl,O.set j (a,t),?_,?_,.inr (.inl ?_)⟩
       ·rw [hlen2,hset]
       ·rw [List.length_set];omega
       ·simp only [gB,hlen2,List.length_append,List.length_cons,List.length_nil,zbm]
  ·refine(gkid_bad s p l j O hs hp hj ha hpl hb (by omega) hl h5 hb1).mono ?_
   rintro _ _ ⟨rfl,rfl⟩
   rw [kidR,if_neg c1,if_neg hb,if_pos h5,if_neg hb1]
   exact⟨rfl,rfl⟩
 ·have hk:kidR s ⟨p,l,o⟩ a last=zbS s ⟨p,incK l a,o⟩:=by rw [kidR,if_neg c1,if_neg hb,if_neg h5]
  rw [hk]
  have hB:=gbegin_ok s ⟨p,incK l a,o⟩ O hs hp (by rw [zbm];omega) (by dsimp only;rw [hO1,hO]) (by dsimp only;omega) (by omega)
  dsimp only at hB
  rw [hO1] at hB
  refine gkid_list s p l j O hs hp hj ha hpl hb (by omega) hl h5 hk1 hk2 _ (hB.mono ?_)
  intro y σ h
  refine⟨?_,h⟩
  unfold outK at h
  split at h
  ·exact .inr h.1
  ·exact .inl h.1
end Go.Proofs.YtcahoelfogjljaaGreatDoor
end

section
namespace Go.Proofs.YtcahoelfogjljaaGreatDoor
open Go Go.Eng
theorem zg5 {s:List UInt8} {p:Nat} {n:Nd} {e:Nat} (h:nodR s p=some (n,e)) (hp:p≤s.length):n.kids=0∧p < e∧e≤s.length:=by
 have hl:(s.drop p).length=s.length - p:=List.length_drop
 rw [nodR] at h
 generalize s.drop p=d at h hl
 match d,h with
 | [],h=>cases h
 | c::r,h =>
  simp only [List.length_cons] at hl
  simp only at h
  split at h
  ·cases h;exact⟨rfl,by omega,by omega⟩
  ·split at h
   ·match r,h,hl with
    | [],h,_=>cases h
    | b::r,h,hl =>
     simp only [List.length_cons] at hl
     simp only at h
     split at h
     ·cases h;exact⟨rfl,by omega,by omega⟩
     ·cases h
   ·split at h
    ·split at h
     ·cases h
     ·cases h;exact⟨rfl,by omega,by omega⟩
    ·split at h
     ·cases hr:rdT r with
      | none=>rw [hr] at h;cases h
      | some y =>
       rw [hr] at h
       cases h
       have:=zgO r.length r (Nat.le_refl _) y hr
       exact⟨rfl,by omega,by omega⟩
     ·cases h
structure InvR (s:List UInt8) (x:RS):Prop where
 hp:x.p≤s.length
 hl:x.l.length≤x.p
 ho:∀ q∈x.o,q.1 < x.l.length∧0≤(x.l.getD q.1 n0d).kids∧(x.l.getD q.1 n0d).kids≤x.p
theorem zc5 {l m:List Nd} {a:Nat} (h:a < l.length):(l++m).getD a n0d=l.getD a n0d:=by
 rw [List.getD_eq_getElem?_getD,List.getElem?_append_left h,List.getD_eq_getElem?_getD]
theorem zfZ (l:List Nd) (a b:Nat) (hb:b < l.length):((incK l a).getD b n0d).kids=(l.getD b n0d).kids∨((incK l a).getD b n0d).kids=(l.getD b n0d).kids+1:=by
 by_cases h:a=b
 ·subst h
  right
  rw [incK,List.getD_eq_getElem?_getD,List.getElem?_set_self hb]
  rfl
 ·left
  rw [incK,List.getD_eq_getElem?_getD,List.getElem?_set_ne h,List.getD_eq_getElem?_getD]
theorem zda {s:List UInt8} {x y:RS} (h:zbS s x=some y) (hp:x.p≤s.length) (hl:x.l.length≤x.p) (ho:∀ q∈x.o,q.1 < x.l.length∧0≤(x.l.getD q.1 n0d).kids∧(x.l.getD q.1 n0d).kids≤x.p+1):InvR s y∧x.p < y.p:=by
 rw [zbS] at h
 cases hn:nodR s x.p with
 | none=>rw [hn] at h;cases h
 | some z =>
  obtain⟨n,e⟩:=z
  obtain⟨k0,e1,e2⟩:=zg5 hn hp
  rw [hn] at h
  simp only at h
  have old:∀ q∈x.o,q.1 < (x.l++[n]).length∧0≤((x.l++[n]).getD q.1 n0d).kids∧((x.l++[n]).getD q.1 n0d).kids≤e:=fun q hq=>by
   obtain⟨h1,h2,h3⟩:=ho q hq
   rw [zc5 h1]
   exact⟨by simp only [List.length_append,List.length_cons,List.length_nil];omega,h2,by omega⟩
  split at h
  ·cases h
   refine⟨⟨e2,by simp only [List.length_append,List.length_cons,List.length_nil];omega,fun q hq=>?_⟩,e1⟩
   rcases List.mem_append.1 hq with hq | hq
   ·exact old q hq
   ·simp only [List.mem_cons,List.not_mem_nil,or_false] at hq
    subst hq
    have e9:(x.l++[n]).getD x.l.length n0d=n:=by simp
    rw [e9,k0]
    exact⟨by simp,by omega,by omega⟩
  ·cases h
   exact⟨⟨e2,by simp only [List.length_append,List.length_cons,List.length_nil];omega,old⟩,e1⟩
theorem zg6 {s:List UInt8} {x y:RS} {a:Nat} {last:List UInt8} (hx:InvR s x) (ht:x.o.getLast?=some (a,last)) (h:kidR s x a last=some y):InvR s y∧x.p < y.p:=by
 obtain⟨hp,hl,ho⟩:=hx
 have hmem:(a,last)∈x.o:=List.mem_of_getLast? ht
 obtain⟨ha,k1,k2⟩:=ho _ hmem
 dsimp only at ha k1 k2
 have hdrop:∀ q∈x.o.dropLast,q∈x.o:=fun q hq=>(List.dropLast_sublist _).subset hq
 rw [kidR] at h
 split at h
 ·cases h
 split at h
 ·cases h
  exact⟨⟨by dsimp only;omega,by dsimp only;omega,fun q hq=>by
   obtain⟨h1,h2,h3⟩:=ho q (hdrop q hq)
   exact⟨h1,h2,by dsimp only at h3 ⊢;omega⟩⟩,by dsimp only;omega⟩
 split at h
 ·split at h
  ·cases hr:rdT (s.drop (x.p+1)) with
   | none=>rw [hr] at h;cases h
   | some z =>
    obtain⟨t,n⟩:=z
    have hle:=zgO _ _ (Nat.le_refl _) _ hr
    simp only [List.length_drop] at hle
    rw [hr] at h
    simp only at h
    split at h
    ·cases h
    ·have key:=zda h (by dsimp only;omega) (by simp only [zbm,List.length_append,List.length_cons,List.length_nil];omega) (fun q hq=>by
      have hq2:q.1 < x.l.length∧0≤(x.l.getD q.1 n0d).kids∧(x.l.getD q.1 n0d).kids≤x.p:=by
       rcases List.mem_append.1 hq with hq | hq
       ·exact ho q (hdrop q hq)
       ·simp only [List.mem_cons,List.not_mem_nil,or_false] at hq
        subst hq
        exact⟨ha,k1,k2⟩
      obtain⟨h1,h2,h3⟩:=hq2
      have hb:q.1 < (x.l++[(⟨3,0,t,0⟩:Nd)]).length:=by simp only [List.length_append,List.length_cons,List.length_nil];omega
      have hg:=zfZ (x.l++[(⟨3,0,t,0⟩:Nd)]) a q.1 hb
      rw [zc5 h1] at hg
      dsimp only
      exact⟨by rw [zbm];exact hb,by omega,by omega⟩)
     exact⟨key.1,by have:=key.2;dsimp only at this;omega⟩
  ·cases h
 ·exact zda (x:=⟨x.p,incK x.l a,x.o⟩) h hp (by rw [zbm];exact hl) (fun q hq=>by
   obtain⟨h1,h2,h3⟩:=ho q hq
   have hg:=zfZ x.l a q.1 h1
   dsimp only
   exact⟨by rw [zbm];exact h1,by omega,by omega⟩)
def runR (s:List UInt8):Nat→RS→Option RS
 | 0,x=>if x.o=[] then some x else none
 | f+1,x=>match x.o.getLast? with
  | none=>some x
  | some (a,last)=>(kidR s x a last).bind (runR s f)
theorem zem (s:List UInt8) (f:Nat) (x:RS) (h:x.o=[]):runR s f x=some x:=by
 cases f with
 | zero=>rw [runR,if_pos h]
 | succ f=>rw [runR,h];rfl
theorem zen {s:List UInt8} {x y:RS} {a:Nat} {last:List UInt8} (h:kidR s x a last=some y):x.p < s.length:=by
 rw [kidR] at h
 split at h
 ·cases h
 ·omega
theorem zdr {s:List UInt8}:∀ (f g:Nat) (x:RS),InvR s x→s.length - x.p≤f→s.length - x.p≤g→runR s f x=runR s g x
 | 0,g,x,hx,hf,_=>by
  cases ht:x.o.getLast? with
  | none =>
   have h0:x.o=[]:=List.getLast?_eq_none_iff.1 ht
   rw [zem s 0 x h0,zem s g x h0]
  | some q =>
   obtain⟨a,last⟩:=q
   have hne:x.o≠[]:=fun h=>by rw [h] at ht;cases ht
   have hk:kidR s x a last=none:=by
    cases hk:kidR s x a last with
    | none=>rfl
    | some y=>have:=zen hk;omega
   cases g with
   | zero=>rfl
   | succ g=>rw [runR,if_neg hne,runR,ht];simp only [hk,Option.bind_none]
 | f+1,0,x,hx,hf,hg=>by rw [zdr 0 (f+1) x hx hg hf]
 | f+1,g+1,x,hx,hf,hg=>by
  cases ht:x.o.getLast? with
  | none=>rw [runR,runR,ht]
  | some q =>
   obtain⟨a,last⟩:=q
   rw [runR,runR,ht]
   simp only
   cases hk:kidR s x a last with
   | none=>rfl
   | some y =>
    obtain⟨h1,h2⟩:=zg6 hx ht hk
    simp only [Option.bind_some]
    exact zdr f g y h1 (by omega) (by omega)
def zcS (s:List UInt8):Option RS:=(zbS s ⟨0,[],[]⟩).bind (runR s s.length)
end Go.Proofs.YtcahoelfogjljaaGreatDoor
end

section
namespace Go.Proofs.YtcahoelfogjljaaGreatDoor
open Go Go.Eng
set_option linter.defProp false in
def LB18:=And.intro @nilB_cgu (@len_nilS)
theorem rdP_ok (a b c:AV) (σ:zaa) (K:zaa→Prop) (h:K (.rw [nilS]::.rw [i64 0]::.rw [i64 5]::σ)):DCalls Tryz.prog 108 [.ptr 0 0,.ptr 1 0,.ptr 2 0] (.rw [a]::.rw [b]::.rw [c]::σ) (some cgu) K:=by
 refine DCalls.body (b:=true) T_ok Tryz.func108 rfl Tryz.ntmps108 Tryz.results108 rfl ?_ ?_
 ·first|exact aQ41 trivial|refine aQ41 ?_
 ·refine aQ41 ?_
  exact h
theorem rdN_ok (a b c:AV) (σ:zaa) (K:zaa→Prop) (h:K (.rw [a]::.rw [b]::.rw [c]::σ)):DCalls Tryz.prog 108 [.ptr 0 0,.ptr 1 0,.ptr 2 0] (.rw [a]::.rw [b]::.rw [c]::σ) none K:=by
 refine DCalls.body (b:=false) T_ok Tryz.func108 rfl Tryz.ntmps108 Tryz.results108 rfl ?_ ?_
 ·refine aQ41 ?_
  exact⟨rfl,rfl,rfl⟩
 ·refine aQ41 ?_
  exact h
def crdT:Tr:=(.br 0 (.br 1 (.br 2 (.br 3 (.br 4 (.br 5 (.br 6 .done .nil) .nil) .nil) (.br 4 (.br 3 (.br 5 (.br 6 .done .nil) .nil) .nil) .nil)) (.br 4 (.br 2 (.br 3 (.br 5 (.br 6 .done .nil) .nil) .nil) .nil) .nil)) (.br 2 (.br 1 (.br 3 (.br 4 (.br 5 (.br 6 .done .nil) .nil) .nil) (.br 4 (.br 3 (.br 5 (.br 6 .done .nil) .nil) .nil) .nil)) (.br 3 (.br 1 (.br 4 (.br 5 (.br 6 .done .nil) .nil) .nil) .nil) .nil)) .nil)) (.br 2 (.br 0 (.br 1 (.br 3 (.br 4 (.br 5 (.br 6 .done .nil) .nil) .nil) (.br 4 (.br 3 (.br 5 (.br 6 .done .nil) .nil) .nil) .nil)) (.br 3 (.br 1 (.br 4 (.br 5 (.br 6 .done .nil) .nil) .nil) .nil) .nil)) (.br 3 (.br 0 (.br 1 (.br 4 (.br 5 (.br 6 .done .nil) .nil) .nil) .nil) .nil) .nil)) .nil))
def readA (s:List UInt8):AV:=match zcS s with
 | none=>.tup [.sl [] 0,i64 0,i64 5]
 | some x=>.tup [.sl (x.l.flatMap nC) x.l.length,i64 (x.p:Int),i64 0]
def loA (b:Bool) (x:RS) (O:List (Nat × List UInt8)) (s:List UInt8):zaa :=
 if b then [.rw [nilS],.rw [i64 0],.rw [i64 0],.rw (cC s (x.p:Int) (.ref 4 0 x.l.length 4) (.ref 5 0 x.o.length 2)),.rw (x.l.flatMap nC),.rw (O.flatMap oC)]
 else [.rw [nilS],.rw [i64 0],.rw [i64 0],.rw (cC s (x.p:Int) (.ref 4 0 x.l.length 4) nilS),.rw (x.l.flatMap nC)]
theorem frz_Nr {σ:zaa} {id n:Nat} {l:List Nd} (h:σ[id]?=some (.ro (l.flatMap nC))) (hn:n=l.length):frzA σ (.ref id 0 n 4) (.sl (l.flatMap nC) l.length):=by
 subst hn
 refine .inr ⟨_,h,by rw [zbv];omega,?_⟩
 rw [List.drop_zero,List.take_of_length_le (by rw [zbv];omega)]
theorem zjj {σ:zaa} {x:RS} {s:List UInt8} (hx:zcS s=some x) (h:σ[4]?=some (.rw (x.l.flatMap nC))):endQ 0 (.tup [.ref 4 0 x.l.length 4,i64 (x.p:Int),i64 0]) σ (fun r _=>AEnd.ret r=AEnd.ret (readA s)):=by
 have hro:(zdv σ [4])[4]?=some (.ro (x.l.flatMap nC)):=by
  have hl:=(List.getElem?_eq_some_iff.1 h).1
  simp only [zdv,h]
  simp [hl]
 exact zc2 [4] (.tup [.sl (x.l.flatMap nC) x.l.length,i64 (x.p:Int),i64 0]) ⟨_,rfl,_,_,rfl,frz_Nr hro rfl,_,_,rfl,.inl rfl,_,_,rfl,.inl rfl,rfl⟩ ⟨[],.tup [.sl (x.l.flatMap nC) x.l.length,i64 (x.p:Int),i64 0],[],rfl,rfl,by decide,by simp [AV.ren,renL,zao,zam],trivial,by rw [readA,hx]⟩
theorem endBad {σ:zaa} {s:List UInt8} (hx:zcS s=none):endQ 0 (.tup [nilS,i64 0,i64 5]) σ (fun r _=>AEnd.ret r=AEnd.ret (readA s)) :=
 zc2 [] (.tup [.sl [] 0,i64 0,i64 5]) ⟨_,rfl,_,_,rfl,.inr ⟨rfl,rfl⟩,_,_,rfl,.inl rfl,_,_,rfl,.inl rfl,rfl⟩ ⟨[],.tup [.sl [] 0,i64 0,i64 5],[],rfl,rfl,by decide,by simp [AV.ren,renL,zam],trivial,by rw [readA,hx]⟩
theorem cread_ok (s:List UInt8) (hs:s.length≤700000000):ACalls Tryz.prog 78 [str s] [] (fun y _=>y=.ret (readA s)):=by
 refine ACalls.bodyD T_ok Tryz.func78 (by kernel_rfl) rfl Tryz.ntmps78 (congrArg Array.toList Tryz.results78) ?_
 rw [zi7 rfl]
 refine aQ41 ?_
 rw [WD_some rfl]
 refine aQ41 ?_
 refine⟨by kernel_rfl,?_⟩
 refine aQ41 ?_
 cases hn:nodR s 0 with
 | none =>
  have hB:=fbegin_no s 0 (by omega) (by omega) hn
  have hbad:zcS s=none:=by rw [zcS,zbS,hn];rfl
  unfold fS at hB
  refine ACalls.frame ([3]) (hB) rfl (by decide) (by simp [LM1,zal,zaq,zae,zaf,renL,AV.ren,AEnd.ren,zbP,zao,fS,gS,cC,nilS,zau,zaj,zac,wI,wO,zab,zad,List.getElem?_cons_zero,List.getElem?_cons_succ]) (by first | rfl | simp [LM1,zal,zaq,zae,zaf,renL,AV.ren,AEnd.ren,zbP,zao,fS,gS,cC,nilS,zau,zaj,zac,wI,wO,zab,zad,List.getElem?_cons_zero,List.getElem?_cons_succ]) ?_
  rintro _ _ ⟨rfl,rfl⟩
  refine⟨.pan cgu,[.rw [nilS],.rw [i64 0],.rw [i64 0],.dead],(aQ4 ([1,1,1,0])),(aQ11 ([1,1,1,0])),?_⟩
  refine aQ41 ?_
  refine rdP_ok _ _ _ _ _ ?_
  refine aQ41 ?_
  exact endBad hbad
 | some z =>
  obtain⟨n,e⟩:=z
  obtain⟨n0,e1,e2⟩:=zg5 hn (by omega)
  by_cases h45:n.kind=4∨n.kind=5
  ·have hB:=fbegin_open s 0 (by omega) (by omega) hn h45
   have hbR:zbS s ⟨0,[],[]⟩=some ⟨e,[n],[(0,[])]⟩:=by rw [zbS,hn];simp only [if_pos h45];rfl
   have hI0:=zda hbR (by dsimp only;omega) (by simp) (fun q hq=>by cases hq)
   have hR0:zcS s=runR s (s.length - e) ⟨e,[n],[(0,[])]⟩:=by rw [zcS,hbR];exact zdr _ _ _ hI0.1 (by dsimp only;omega) (Nat.le_refl _)
   unfold fS at hB
   refine ACalls.frame ([3]) (hB) rfl (by decide) (by simp [LM1,zal,zaq,zae,zaf,renL,AV.ren,AEnd.ren,zbP,zao,fS,gS,cC,nilS,zau,zaj,zac,wI,wO,zab,zad,List.getElem?_cons_zero,List.getElem?_cons_succ]) (by first | rfl | simp [LM1,zal,zaq,zae,zaf,renL,AV.ren,AEnd.ren,zbP,zao,fS,gS,cC,nilS,zau,zaj,zac,wI,wO,zab,zad,List.getElem?_cons_zero,List.getElem?_cons_succ]) ?_
   rintro _ _ ⟨rfl,rfl⟩
   refine⟨.ret (.tup []),[.rw [nilS],.rw [i64 0],.rw [i64 0],.rw (cC s (e:Int) (.ref 5 0 1 4) (.ref 4 0 1 2)),.rw ([((0:Nat),([]:List UInt8))].flatMap oC),.rw ([n].flatMap nC)],(aQ4 ([3,3,3,0,1,2])),(aQ11 ([3,3,3,0,1,2])),?_⟩
   refine aQ41 ?_
   rw [zbj]
   refine⟨Bool × RS × List (Nat × List UInt8),fun i=>InvR s i.2.1∧(i.1=true→i.2.2.take i.2.1.o.length=i.2.1.o∧i.2.1.o.length≤i.2.2.length∧i.2.2.length≤i.2.1.p)∧(i.1=false→i.2.1.o=[])∧zcS s=runR s (s.length - i.2.1.p) i.2.1,fun i=>[.bot,.bot,.ptr 0 0,.ptr 1 0,.ptr 2 0,.ptr 3 0,.bot,.bot,.bot,.bot,.bot,.bot,.bot,.bot,.bot,.bot,.bot,.bot,.bot],fun i=>loA i.1 i.2.1 i.2.2 s,fun i=>s.length - i.2.1.p,(true,⟨e,[n],[(0,[])]⟩,[(0,[])]),⟨hI0.1,fun _=>⟨rfl,by simp,by dsimp only;simp;omega⟩,(fun h=>by cases h),hR0⟩,zak (q:=[0,1,2,3,5,4]) rfl rfl (by decide) ?_ ?_,?_⟩
   ·first|exact aQ24 trivial|refine aQ24 ?_
   ·simp [loA,zal,zaD,cC,nilS,renL,AV.ren,zag,zam,zao,zau,zac,nC,oC]
   rintro⟨b,x,O⟩ ⟨hx,h1,h2,hR⟩
   dsimp only at hx h1 h2 hR ⊢
   cases b with
   | false =>
    have ho:=h2 rfl
    have hRx:zcS s=some x:=by rw [hR,zem s _ x ho]
    simp only [loA,Bool.false_eq_true,if_false]
    refine aQ41 ?_
    try refine⟨fun h=>absurd h (by decide),fun _=>?_⟩
    refine zed crdT ([.bot,.bot,.ptr 0 0,.ptr 1 0,.ptr 2 0,.bot,.bot,.bot,.bot,.bot,.bot,.bot,.bot,.bot,.bot,.bot,.bot,.bot,.bot]) [.rw [.ref 4 0 x.l.length 4],.rw [i64 (x.p:Int)],.rw [i64 0],.rw (cC s (x.p:Int) (.ref 4 0 x.l.length 4) nilS),.rw (x.l.flatMap nC)] (by kernel_rfl) (by kernel_rfl) ?_ ?_
    ·unfold crdT
     refine aQ41 ?_
     repeat' (with_reducible refine And.intro ?_ ?_)
     all_goals
      refine za2 ?_
      first|exact aQ25 trivial|refine aQ25 ?_
    refine aQ41 ?_
    refine rdN_ok _ _ _ _ _ ?_
    refine aQ41 ?_
    exact zjj hRx rfl
   | true =>
    obtain⟨hO,hO3,hO4⟩:=h1 rfl
    simp only [loA,if_true]
    refine aQ41 ?_
    refine⟨fun hlt=>?_,fun hge=>?_⟩
    ·skip
     obtain⟨j,hj⟩:∃ j,x.o.length=j+1:=⟨x.o.length - 1,by omega⟩
     obtain⟨⟨a,last⟩,ht⟩:∃ q,x.o.getLast?=some q:=by
      cases h:x.o.getLast? with
      | none=>rw [List.getLast?_eq_none_iff.1 h] at hj;simp at hj
      | some q=>exact⟨q,rfl⟩
     have hOj:O[j]?=some (a,last):=by
      have e1:x.o[j]?=some (a,last):=by rw [← ht,List.getLast?_eq_getElem?];congr 1;omega
      rw [← hO,List.getElem?_take,if_pos (by omega)] at e1
      exact e1
     have hmem:(a,last)∈x.o:=List.mem_of_getLast? ht
     obtain⟨ha,k1,k2⟩:=hx.ho _ hmem
     dsimp only at ha k1 k2
     have hp:=hx.hp
     have hl:=hx.hl
     have hk:=gkid_ok s x j O (by omega) hp hOj ha hj (by rw [← hj];exact hO) (by omega) (by omega) k1 (by omega)
     cases hkr:kidR s x a last with
     | none =>
      have hbad:zcS s=none:=by
       rw [hR]
       obtain⟨f,hf⟩:∃ f,s.length - x.p=f∨s.length - x.p=f+1:=⟨s.length - x.p,.inl rfl⟩
       cases hd:s.length - x.p with
       | zero=>rw [runR,if_neg (fun h=>by rw [h] at ht;cases ht)]
       | succ f=>rw [runR,ht];simp only [hkr,Option.bind_none]
      rw [hkr] at hk
      unfold outK gS at hk
      dsimp only at hk
      rw [hj]
      refine ACalls.frame ([3,4,5]) (hk) rfl (by decide) (by simp [LM1,zal,zaq,zae,zaf,renL,AV.ren,AEnd.ren,zbP,zao,fS,gS,cC,nilS,zau,zaj,zac,wI,wO,zab,zad,List.getElem?_cons_zero,List.getElem?_cons_succ]) (by first | rfl | simp [LM1,zal,zaq,zae,zaf,renL,AV.ren,AEnd.ren,zbP,zao,fS,gS,cC,nilS,zau,zaj,zac,wI,wO,zab,zad,List.getElem?_cons_zero,List.getElem?_cons_succ]) ?_
      rintro _ _ ⟨rfl,rfl⟩
      refine⟨.pan cgu,[.rw [nilS],.rw [i64 0],.rw [i64 0],.dead,.dead,.dead],(aQ4 ([3,3,3,0,1,2])),(aQ11 ([3,3,3,0,1,2])),?_⟩
      refine aQ41 ?_
      refine rdP_ok _ _ _ _ _ ?_
      refine aQ41 ?_
      exact endBad hbad
     | some y =>
      have hI:=zg6 hx ht hkr
      have hR':zcS s=runR s (s.length - y.p) y:=by
       rw [hR]
       have:=zen hkr
       obtain⟨f,hf⟩:∃ f,s.length - x.p=f+1:=⟨s.length - x.p - 1,by omega⟩
       rw [hf,runR,ht]
       simp only [hkr,Option.bind_some]
       exact zdr _ _ y hI.1 (by omega) (Nat.le_refl _)
      rw [hkr] at hk
      have hpp:=hI.2
      unfold outK at hk
      dsimp only at hk
      unfold gS at hk
      rw [hj]
      refine ACalls.frame [3,4,5] hk rfl (by decide) (by simp [LB9,LB10,zal,zaq,zae,renL,AV.ren,AEnd.ren,zao,zau,zbP,cC,nilS,zaj,List.getElem?_cons_zero,List.getElem?_cons_succ]) (by first | rfl | simp [LB9,LB10,zal,zaq,zae,renL,AV.ren,AEnd.ren,zao,zau,zbP,cC,nilS,zaj,List.getElem?_cons_zero,List.getElem?_cons_succ]) ?_
      rintro _ σ1 ⟨rfl,O',hO',hB',hσ⟩
      rcases hσ with rfl | rfl | rfl
      ·skip
       try simp only [gS]
       refine⟨.ret (.tup []),[.rw [nilS],.rw [i64 0],.rw [i64 0],.rw (cC s (y.p:Int) (.ref 4 0 y.l.length 4) (.ref 5 0 y.o.length 2)),.rw (y.l.flatMap nC),.rw (O'.flatMap oC)],(aQ5 [3,3,3,0,1,2]),(aQ12 [3,3,3,0,1,2]),?_⟩
       refine aQ41 ?_
       rw [zap]
       refine⟨(true,y,O'),⟨hI.1,fun _=>⟨hO',by have:=congrArg List.length hO';rw [List.length_take] at this;dsimp only;omega,by dsimp only;omega⟩,(fun h=>by cases h),hR'⟩,by (show s.length - y.p < s.length - x.p);have:=zen hkr;omega,zak (q:=[0,1,2,3,4,5]) rfl rfl (by decide) ?_ ?_⟩
       ·first|exact aQ24 trivial|refine aQ24 ?_
       ·exact aQ42 trivial
      ·skip
       try simp only [gB]
       refine⟨.ret (.tup []),[.rw [nilS],.rw [i64 0],.rw [i64 0],.rw (cC s (y.p:Int) (.ref 6 0 y.l.length 4) (.ref 5 0 y.o.length 2)),.dead,.rw (O'.flatMap oC),.rw (y.l.flatMap nC)],(aQ6 [4,4,4,0,1,2,3]),(aQ12 [4,4,4,0,1,2,3]),?_⟩
       refine aQ41 ?_
       rw [zap]
       refine⟨(true,y,O'),⟨hI.1,fun _=>⟨hO',by have:=congrArg List.length hO';rw [List.length_take] at this;dsimp only;omega,by dsimp only;omega⟩,(fun h=>by cases h),hR'⟩,by (show s.length - y.p < s.length - x.p);have:=zen hkr;omega,zak (q:=[0,1,2,3,6,5]) rfl rfl (by decide) ?_ ?_⟩
       ·first|exact aQ24 trivial|refine aQ24 ?_
       ·exact aQ42 trivial
      ·skip
       try simp only [gC]
       refine⟨.ret (.tup []),[.rw [nilS],.rw [i64 0],.rw [i64 0],.rw (cC s (y.p:Int) (.ref 7 0 y.l.length 4) (.ref 6 0 y.o.length 2)),.dead,.dead,.rw (O'.flatMap oC),.rw (y.l.flatMap nC)],(aQ7 [5,5,5,0,1,2,3,4]),(aQ12 [5,5,5,0,1,2,3,4]),?_⟩
       refine aQ41 ?_
       rw [zap]
       refine⟨(true,y,O'),⟨hI.1,fun _=>⟨hO',by have:=congrArg List.length hO';rw [List.length_take] at this;dsimp only;omega,by dsimp only;omega⟩,(fun h=>by cases h),hR'⟩,by (show s.length - y.p < s.length - x.p);have:=zen hkr;omega,zak (q:=[0,1,2,3,7,6]) rfl rfl (by decide) ?_ ?_⟩
       ·first|exact aQ24 trivial|refine aQ24 ?_
       ·exact aQ42 trivial
    ·have ho:x.o=[]:=List.eq_nil_of_length_eq_zero (by omega)
     have hRx:zcS s=some x:=by rw [hR,zem s _ x ho]
     refine zed crdT ([.bot,.bot,.ptr 0 0,.ptr 1 0,.ptr 2 0,.bot,.bot,.bot,.bot,.bot,.bot,.bot,.bot,.bot,.bot,.bot,.bot,.bot,.bot]) [.rw [.ref 4 0 x.l.length 4],.rw [i64 (x.p:Int)],.rw [i64 0],.rw (cC s (x.p:Int) (.ref 4 0 x.l.length 4) (.ref 5 0 x.o.length 2)),.rw (x.l.flatMap nC),.rw (O.flatMap oC)] (by kernel_rfl) (by kernel_rfl) ?_ ?_
     ·unfold crdT
      refine aQ41 ?_
      repeat' (with_reducible refine And.intro ?_ ?_)
      all_goals
       refine za2 ?_
       first|exact aQ25 trivial|refine aQ25 ?_
     refine aQ41 ?_
     refine rdN_ok _ _ _ _ _ ?_
     refine aQ41 ?_
     exact zjj hRx rfl
  ·have hB:=fbegin_plain s 0 (by omega) (by omega) hn (fun h=>h45 (.inl h)) (fun h=>h45 (.inr h))
   have hbR:zbS s ⟨0,[],[]⟩=some ⟨e,[n],[]⟩:=by rw [zbS,hn];simp only [if_neg h45];rfl
   have hI0:=zda hbR (by dsimp only;omega) (by simp) (fun q hq=>by cases hq)
   have hR0:zcS s=runR s (s.length - e) ⟨e,[n],[]⟩:=by rw [zcS,hbR];exact zdr _ _ _ hI0.1 (by dsimp only;omega) (Nat.le_refl _)
   unfold fS at hB
   refine ACalls.frame ([3]) (hB) rfl (by decide) (by simp [LM1,zal,zaq,zae,zaf,renL,AV.ren,AEnd.ren,zbP,zao,fS,gS,cC,nilS,zau,zaj,zac,wI,wO,zab,zad,List.getElem?_cons_zero,List.getElem?_cons_succ]) (by first | rfl | simp [LM1,zal,zaq,zae,zaf,renL,AV.ren,AEnd.ren,zbP,zao,fS,gS,cC,nilS,zau,zaj,zac,wI,wO,zab,zad,List.getElem?_cons_zero,List.getElem?_cons_succ]) ?_
   rintro _ _ ⟨rfl,rfl⟩
   refine⟨.ret (.tup []),[.rw [nilS],.rw [i64 0],.rw [i64 0],.rw (cC s (e:Int) (.ref 4 0 1 4) nilS),.rw ([n].flatMap nC)],(aQ4 ([2,2,2,0,1])),(aQ11 ([2,2,2,0,1])),?_⟩
   refine aQ41 ?_
   rw [zbj]
   refine⟨Bool × RS × List (Nat × List UInt8),fun i=>InvR s i.2.1∧(i.1=true→i.2.2.take i.2.1.o.length=i.2.1.o∧i.2.1.o.length≤i.2.2.length∧i.2.2.length≤i.2.1.p)∧(i.1=false→i.2.1.o=[])∧zcS s=runR s (s.length - i.2.1.p) i.2.1,fun i=>[.bot,.bot,.ptr 0 0,.ptr 1 0,.ptr 2 0,.ptr 3 0,.bot,.bot,.bot,.bot,.bot,.bot,.bot,.bot,.bot,.bot,.bot,.bot,.bot],fun i=>loA i.1 i.2.1 i.2.2 s,fun i=>s.length - i.2.1.p,(false,⟨e,[n],[]⟩,[]),⟨hI0.1,(fun h=>by cases h),fun _=>rfl,hR0⟩,zak (q:=[0,1,2,3,4]) rfl rfl (by decide) ?_ ?_,?_⟩
   ·first|exact aQ24 trivial|refine aQ24 ?_
   ·simp [loA,zal,zaD,cC,nilS,renL,AV.ren,zag,zam,zao,zau,zac,nC,oC]
   rintro⟨b,x,O⟩ ⟨hx,h1,h2,hR⟩
   dsimp only at hx h1 h2 hR ⊢
   cases b with
   | false =>
    have ho:=h2 rfl
    have hRx:zcS s=some x:=by rw [hR,zem s _ x ho]
    simp only [loA,Bool.false_eq_true,if_false]
    refine aQ41 ?_
    try refine⟨fun h=>absurd h (by decide),fun _=>?_⟩
    refine zed crdT ([.bot,.bot,.ptr 0 0,.ptr 1 0,.ptr 2 0,.bot,.bot,.bot,.bot,.bot,.bot,.bot,.bot,.bot,.bot,.bot,.bot,.bot,.bot]) [.rw [.ref 4 0 x.l.length 4],.rw [i64 (x.p:Int)],.rw [i64 0],.rw (cC s (x.p:Int) (.ref 4 0 x.l.length 4) nilS),.rw (x.l.flatMap nC)] (by kernel_rfl) (by kernel_rfl) ?_ ?_
    ·unfold crdT
     refine aQ41 ?_
     repeat' (with_reducible refine And.intro ?_ ?_)
     all_goals
      refine za2 ?_
      first|exact aQ25 trivial|refine aQ25 ?_
    refine aQ41 ?_
    refine rdN_ok _ _ _ _ _ ?_
    refine aQ41 ?_
    exact zjj hRx rfl
   | true =>
    obtain⟨hO,hO3,hO4⟩:=h1 rfl
    simp only [loA,if_true]
    refine aQ41 ?_
    refine⟨fun hlt=>?_,fun hge=>?_⟩
    ·skip
     obtain⟨j,hj⟩:∃ j,x.o.length=j+1:=⟨x.o.length - 1,by omega⟩
     obtain⟨⟨a,last⟩,ht⟩:∃ q,x.o.getLast?=some q:=by
      cases h:x.o.getLast? with
      | none=>rw [List.getLast?_eq_none_iff.1 h] at hj;simp at hj
      | some q=>exact⟨q,rfl⟩
     have hOj:O[j]?=some (a,last):=by
      have e1:x.o[j]?=some (a,last):=by rw [← ht,List.getLast?_eq_getElem?];congr 1;omega
      rw [← hO,List.getElem?_take,if_pos (by omega)] at e1
      exact e1
     have hmem:(a,last)∈x.o:=List.mem_of_getLast? ht
     obtain⟨ha,k1,k2⟩:=hx.ho _ hmem
     dsimp only at ha k1 k2
     have hp:=hx.hp
     have hl:=hx.hl
     have hk:=gkid_ok s x j O (by omega) hp hOj ha hj (by rw [← hj];exact hO) (by omega) (by omega) k1 (by omega)
     cases hkr:kidR s x a last with
     | none =>
      have hbad:zcS s=none:=by
       rw [hR]
       obtain⟨f,hf⟩:∃ f,s.length - x.p=f∨s.length - x.p=f+1:=⟨s.length - x.p,.inl rfl⟩
       cases hd:s.length - x.p with
       | zero=>rw [runR,if_neg (fun h=>by rw [h] at ht;cases ht)]
       | succ f=>rw [runR,ht];simp only [hkr,Option.bind_none]
      rw [hkr] at hk
      unfold outK gS at hk
      dsimp only at hk
      rw [hj]
      refine ACalls.frame ([3,4,5]) (hk) rfl (by decide) (by simp [LM1,zal,zaq,zae,zaf,renL,AV.ren,AEnd.ren,zbP,zao,fS,gS,cC,nilS,zau,zaj,zac,wI,wO,zab,zad,List.getElem?_cons_zero,List.getElem?_cons_succ]) (by first | rfl | simp [LM1,zal,zaq,zae,zaf,renL,AV.ren,AEnd.ren,zbP,zao,fS,gS,cC,nilS,zau,zaj,zac,wI,wO,zab,zad,List.getElem?_cons_zero,List.getElem?_cons_succ]) ?_
      rintro _ _ ⟨rfl,rfl⟩
      refine⟨.pan cgu,[.rw [nilS],.rw [i64 0],.rw [i64 0],.dead,.dead,.dead],(aQ4 ([3,3,3,0,1,2])),(aQ11 ([3,3,3,0,1,2])),?_⟩
      refine aQ41 ?_
      refine rdP_ok _ _ _ _ _ ?_
      refine aQ41 ?_
      exact endBad hbad
     | some y =>
      have hI:=zg6 hx ht hkr
      have hR':zcS s=runR s (s.length - y.p) y:=by
       rw [hR]
       have:=zen hkr
       obtain⟨f,hf⟩:∃ f,s.length - x.p=f+1:=⟨s.length - x.p - 1,by omega⟩
       rw [hf,runR,ht]
       simp only [hkr,Option.bind_some]
       exact zdr _ _ y hI.1 (by omega) (Nat.le_refl _)
      rw [hkr] at hk
      have hpp:=hI.2
      unfold outK at hk
      dsimp only at hk
      unfold gS at hk
      rw [hj]
      refine ACalls.frame [3,4,5] hk rfl (by decide) (by simp [LB9,LB10,zal,zaq,zae,renL,AV.ren,AEnd.ren,zao,zau,zbP,cC,nilS,zaj,List.getElem?_cons_zero,List.getElem?_cons_succ]) (by first | rfl | simp [LB9,LB10,zal,zaq,zae,renL,AV.ren,AEnd.ren,zao,zau,zbP,cC,nilS,zaj,List.getElem?_cons_zero,List.getElem?_cons_succ]) ?_
      rintro _ σ1 ⟨rfl,O',hO',hB',hσ⟩
      rcases hσ with rfl | rfl | rfl
      ·skip
       try simp only [gS]
       refine⟨.ret (.tup []),[.rw [nilS],.rw [i64 0],.rw [i64 0],.rw (cC s (y.p:Int) (.ref 4 0 y.l.length 4) (.ref 5 0 y.o.length 2)),.rw (y.l.flatMap nC),.rw (O'.flatMap oC)],(aQ5 [3,3,3,0,1,2]),(aQ12 [3,3,3,0,1,2]),?_⟩
       refine aQ41 ?_
       rw [zap]
       refine⟨(true,y,O'),⟨hI.1,fun _=>⟨hO',by have:=congrArg List.length hO';rw [List.length_take] at this;dsimp only;omega,by dsimp only;omega⟩,(fun h=>by cases h),hR'⟩,by (show s.length - y.p < s.length - x.p);have:=zen hkr;omega,zak (q:=[0,1,2,3,4,5]) rfl rfl (by decide) ?_ ?_⟩
       ·first|exact aQ24 trivial|refine aQ24 ?_
       ·exact aQ42 trivial
      ·skip
       try simp only [gB]
       refine⟨.ret (.tup []),[.rw [nilS],.rw [i64 0],.rw [i64 0],.rw (cC s (y.p:Int) (.ref 6 0 y.l.length 4) (.ref 5 0 y.o.length 2)),.dead,.rw (O'.flatMap oC),.rw (y.l.flatMap nC)],(aQ6 [4,4,4,0,1,2,3]),(aQ12 [4,4,4,0,1,2,3]),?_⟩
       refine aQ41 ?_
       rw [zap]
       refine⟨(true,y,O'),⟨hI.1,fun _=>⟨hO',by have:=congrArg List.length hO';rw [List.length_take] at this;dsimp only;omega,by dsimp only;omega⟩,(fun h=>by cases h),hR'⟩,by (show s.length - y.p < s.length - x.p);have:=zen hkr;omega,zak (q:=[0,1,2,3,6,5]) rfl rfl (by decide) ?_ ?_⟩
       ·first|exact aQ24 trivial|refine aQ24 ?_
       ·exact aQ42 trivial
      ·skip
       try simp only [gC]
       refine⟨.ret (.tup []),[.rw [nilS],.rw [i64 0],.rw [i64 0],.rw (cC s (y.p:Int) (.ref 7 0 y.l.length 4) (.ref 6 0 y.o.length 2)),.dead,.dead,.rw (O'.flatMap oC),.rw (y.l.flatMap nC)],(aQ7 [5,5,5,0,1,2,3,4]),(aQ12 [5,5,5,0,1,2,3,4]),?_⟩
       refine aQ41 ?_
       rw [zap]
       refine⟨(true,y,O'),⟨hI.1,fun _=>⟨hO',by have:=congrArg List.length hO';rw [List.length_take] at this;dsimp only;omega,by dsimp only;omega⟩,(fun h=>by cases h),hR'⟩,by (show s.length - y.p < s.length - x.p);have:=zen hkr;omega,zak (q:=[0,1,2,3,7,6]) rfl rfl (by decide) ?_ ?_⟩
       ·first|exact aQ24 trivial|refine aQ24 ?_
       ·exact aQ42 trivial
    ·have ho:x.o=[]:=List.eq_nil_of_length_eq_zero (by omega)
     have hRx:zcS s=some x:=by rw [hR,zem s _ x ho]
     refine zed crdT ([.bot,.bot,.ptr 0 0,.ptr 1 0,.ptr 2 0,.bot,.bot,.bot,.bot,.bot,.bot,.bot,.bot,.bot,.bot,.bot,.bot,.bot,.bot]) [.rw [.ref 4 0 x.l.length 4],.rw [i64 (x.p:Int)],.rw [i64 0],.rw (cC s (x.p:Int) (.ref 4 0 x.l.length 4) (.ref 5 0 x.o.length 2)),.rw (x.l.flatMap nC),.rw (O.flatMap oC)] (by kernel_rfl) (by kernel_rfl) ?_ ?_
     ·unfold crdT
      refine aQ41 ?_
      repeat' (with_reducible refine And.intro ?_ ?_)
      all_goals
       refine za2 ?_
       first|exact aQ25 trivial|refine aQ25 ?_
     refine aQ41 ?_
     refine rdN_ok _ _ _ _ _ ?_
     refine aQ41 ?_
     exact zjj hRx rfl
end Go.Proofs.YtcahoelfogjljaaGreatDoor
end

section
namespace Go.Proofs.YtcahoelfogjljaaGreatDoor
open Go Go.Eng
theorem runR_inv {s:List UInt8}:∀ (f:Nat) (x y:RS),InvR s x→runR s f x=some y→InvR s y∧y.o=[]∧x.p≤y.p
 | 0,x,y,hx,h=>by
  rw [runR] at h
  split at h
  ·rename_i h0
   cases h
   exact⟨hx,h0,Nat.le_refl _⟩
  ·cases h
 | f+1,x,y,hx,h=>by
  rw [runR] at h
  cases ht:x.o.getLast? with
  | none =>
   rw [ht] at h
   cases h
   exact⟨hx,List.getLast?_eq_none_iff.1 ht,Nat.le_refl _⟩
  | some q =>
   obtain⟨a,last⟩:=q
   rw [ht] at h
   simp only at h
   cases hk:kidR s x a last with
   | none=>rw [hk] at h;cases h
   | some z =>
    rw [hk] at h
    obtain⟨h1,h2⟩:=zg6 hx ht hk
    obtain⟨g1,g2,g3⟩:=runR_inv f z y h1 h
    exact⟨g1,g2,by omega⟩
theorem readR_inv {s:List UInt8} {x:RS} (h:zcS s=some x):x.p≤s.length∧x.l.length≤x.p∧0 < x.p:=by
 rw [zcS] at h
 cases hb:zbS s ⟨0,[],[]⟩ with
 | none=>rw [hb] at h;cases h
 | some y =>
  rw [hb] at h
  have hI:=zda hb (by dsimp only;omega) (by simp) (fun q hq=>by cases hq)
  obtain⟨g1,_,g3⟩:=runR_inv _ y x hI.1 h
  have:=hI.2
  dsimp only at this
  exact⟨g1.hp,g1.hl,by omega⟩
def getR (s:List UInt8):List Nd × Int:=match zcS s with
 | none=>([],5)
 | some x=>if x.p < s.length∨zbA x.l≠0 then ([],5) else (x.l,0)
theorem zg7 (l:List Nd) (n:Nat) (e:Int) (q:List Nat):(AV.tup [.sl (l.flatMap nC) n,i64 e]).ren q=some (.tup [.sl (l.flatMap nC) n,i64 e]):=by simp [AV.ren,renL,zao,zam]
theorem ze4 {σ:zaa} {e:Int} {K:AV→zaa→Prop} (h:K (.tup [.sl (([]:List Nd).flatMap nC) ([]:List Nd).length,i64 e]) []):endQ 0 (.tup [.lit (.slice none 0 0),i64 e]) σ K :=
 zc2 [] (.tup [.sl [] 0,i64 e]) ⟨_,rfl,_,_,rfl,.inr ⟨rfl,rfl⟩,_,_,rfl,.inl rfl,rfl⟩ ⟨[],_,[],rfl,rfl,by decide,zg7 [] 0 e _,trivial,h⟩
theorem get_ok (s:List UInt8) (hs:s.length≤1000000):ACalls Tryz.prog 40 [str s] [] (fun y _=>y=.ret (.tup [.sl ((getR s).1.flatMap nC) (getR s).1.length,i64 (getR s).2])):=by
 have hr:=cread_ok s (by omega)
 unfold readA at hr
 refine ACalls.body T_ok Tryz.func40 (by kernel_rfl) rfl Tryz.ntmps40 (congrArg Array.toList Tryz.results40) ?_
 refine aQ41 ?_
 cases hx:zcS s with
 | none =>
  rw [hx] at hr
  dsimp only at hr
  refine hr.pure (by simp [renL,zag]) ?_
  rintro _ σ rfl
  refine⟨by simp [AEnd.noid,AV.ren,renL,zam],?_⟩
  have hf:getR s=([],5):=by rw [getR,hx]
  rw [hf]
  rw [show ([AV.sl [] 0,i64 0,i64 5]:List AV)=[.sl (([]:List Nd).flatMap nC) 0,i64 0,i64 5] from rfl]
  refine aQ41 ?_
  try rw [decide_eq_false (show ¬ (5:Int)=0 by decide)]
  refine aQ41 ?_
  exact ze4 rfl
 | some x =>
  obtain⟨h1,h2,h3⟩:=readR_inv hx
  rw [hx] at hr
  dsimp only at hr
  refine hr.pure (by simp [renL,zag]) ?_
  rintro _ σ rfl
  refine⟨by simp [AEnd.noid,AV.ren,renL,zao,zam],?_⟩
  refine aQ41 ?_
  by_cases g1:(x.p:Int) < s.length
  ·have hf:getR s=([],5):=by rw [getR,hx];simp only;rw [if_pos (.inl (by omega))]
   rw [hf]
   try rw [decide_eq_true g1]
   refine aQ41 ?_
   exact ze4 rfl
  ·try rw [decide_eq_false g1]
   refine aQ41 ?_
   refine(Check_ok x.l (by omega)).mono ?_
   rintro _ _ ⟨rfl,rfl⟩
   refine aQ41 ?_
   refine⟨fun h=>?_,fun h=>?_⟩
   ·have hf:getR s=([],5):=by rw [getR,hx];simp only;rw [if_pos (.inr h)]
    rw [hf]
    exact ze4 rfl
   ·have hf:getR s=(x.l,0):=by rw [getR,hx];simp only;rw [if_neg (by rintro(h' | h');omega;exact h' h)]
    rw [hf]
    exact zaO (zg7 _ _ _ _) rfl
end Go.Proofs.YtcahoelfogjljaaGreatDoor
end

section
namespace Go.Proofs.YtcahoelfogjljaaGreatDoor
open Go Go.Eng
def slS (l:List (List UInt8)):AV:=.sl (l.map str) l.length
theorem zjk (q:List Nat) (l:List (List UInt8)):(slS l).ren q=some (slS l):=by simp [slS,AV.ren,zax str zag]
end Go.Proofs.YtcahoelfogjljaaGreatDoor
end

section
namespace Go.Proofs.YtcahoelfogjljaaGreatDoor
open Go Go.Eng
theorem noid_SE (l:List (List UInt8)) (e:Int) (q:List Nat):(AV.tup [slS l,i64 e]).ren q=some (.tup [slS l,i64 e]):=by simp [slS,AV.ren,renL,zax str zag,zam]
theorem zc6 {σ:zaa} {e:Int} {K:AV→zaa→Prop} (h:K (.tup [slS [],i64 e]) []):endQ 0 (.tup [.lit (.slice none 0 0),i64 e]) σ K :=
 zc2 [] (.tup [.sl [] 0,i64 e]) ⟨_,rfl,_,_,rfl,.inr ⟨rfl,rfl⟩,_,_,rfl,.inl rfl,rfl⟩ ⟨[],_,[],rfl,rfl,by decide,noid_SE [] e _,trivial,h⟩
theorem setRo_one {σ:zaa} {id:Nat} {cs:List AV} (h:σ[id]?=some (.rw cs)):(zdv σ [id])[id]?=some (.ro cs):=by
 have hl:=(List.getElem?_eq_some_iff.1 h).1
 simp only [zdv,h]
 simp [hl]
theorem end_refE {σ:zaa} {id:Nat} {l:List (List UInt8)} {e:Int} {K:AV→zaa→Prop} (hi:σ[id]?=some (.rw (l.map str))) (h:K (.tup [slS l,i64 e]) []):endQ 0 (.tup [.ref id 0 l.length 1,i64 e]) σ K :=
 zc2 [id] (.tup [slS l,i64 e]) ⟨_,rfl,_,_,rfl,frz_Ss (setRo_one hi) rfl,_,_,rfl,.inl rfl,rfl⟩ ⟨[],_,[],rfl,rfl,by decide,noid_SE l e _,trivial,h⟩
theorem zgr (s:List UInt8) (l:List (List UInt8)):zbl (s::l)=zba 3::(escT s++zbl l):=by
 simp [zbl]
end Go.Proofs.YtcahoelfogjljaaGreatDoor
end

section
namespace Go.Proofs.YtcahoelfogjljaaGreatDoor
open Go Go.Eng
set_option linter.defProp false in
def LB19:=And.intro @box_str (@ld_str1)
def zbw:Nat→List UInt8→Option (List (List UInt8))
 | 0,s=>if s=[] then some [] else none
 | f+1,s=>if s=[] then some [] else match nodR s 0 with
  | some (n,e)=>if n.kind=3 then (zbw f (s.drop e)).map (n.text::·) else none
  | none=>none
def zbf (s:List UInt8):List (List UInt8) × Int:=match zbw s.length s with
 | some l=>(l,0)
 | none=>([],5)
theorem nodR_le {s:List UInt8} {x:Nd × Nat} (h:nodR s 0=some x) (h3:x.1.kind=3):1≤x.2∧x.2≤s.length:=by
 rw [nodR,List.drop_zero] at h
 match s,h with
 | [],h=>cases h
 | c::r,h =>
  simp only at h
  split at h
  ·cases h;simp
  ·split at h
   ·match r,h with
    | [],h=>cases h
    | b::r,h =>
     simp only at h
     split at h
     ·cases h;simp
     ·cases h
   ·split at h
    ·split at h
     ·cases h
     ·cases h;simp only [List.length_cons];omega
    ·split at h
     ·cases hr:rdT r with
      | none=>rw [hr] at h;cases h
      | some y =>
       rw [hr] at h
       cases h
       have:=zgO r.length r (Nat.le_refl _) y hr
       simp only [List.length_cons];omega
     ·cases h
theorem zdb (f:Nat):zbw f []=some []:=by cases f <;> simp [zbw]
theorem zfs:∀ (f g:Nat) (s:List UInt8),s.length≤f→s.length≤g→zbw f s=zbw g s
 | 0,g,s,h,_=>by
  have:s=[]:=List.eq_nil_of_length_eq_zero (by omega)
  subst this
  rw [zdb,zdb]
 | f+1,0,s,_,h=>by
  have:s=[]:=List.eq_nil_of_length_eq_zero (by omega)
  subst this
  rw [zdb,zdb]
 | f+1,g+1,s,hf,hg=>by
  simp only [zbw]
  split
  ·rfl
  ·cases hx:nodR s 0 with
   | none=>rfl
   | some x =>
    obtain⟨n,e⟩:=x
    simp only
    split
    ·rename_i h3
     have:=nodR_le hx h3
     rw [zfs f g (s.drop e) aQ20 aQ20]
    ·rfl
def accA (l:List (List UInt8)):AV:=match l with
 | []=>nilS
 | _::_=>.ref 0 0 l.length 1
def accS (l:List (List UInt8)):zaa:=match l with
 | []=>[]
 | _::_=>[.rw (l.map str)]
theorem zeo:accA []=.lit (.slice none 0 0):=rfl
theorem zds (a:List UInt8) (l:List (List UInt8)):accA (a::l)=.ref 0 0 (a::l).length 1:=rfl
theorem zep:accS []=[]:=rfl
theorem zdt (a:List UInt8) (l:List (List UInt8)):accS (a::l)=[.rw ((a::l).map str)]:=rfl
theorem split_ok (s:List UInt8) (hs:s.length≤1000000000):ACalls Tryz.prog 39 [str s] [] (fun y _=>y=.ret (.tup [slS (zbf s).1,i64 (zbf s).2])):=by
 refine ACalls.body T_ok Tryz.func39 (by kernel_rfl) rfl Tryz.ntmps39 (congrArg Array.toList Tryz.results39) ?_
 refine aQ43 ?_
 rw [zbj]
 refine⟨List (List UInt8) × List UInt8,fun x=>x.1.length+x.2.length≤s.length∧zbw s.length s=(zbw x.2.length x.2).map (x.1++·),fun x=>[str x.2,.bot,.bot,.bot,accA x.1,.bot,.bot,.bot,.bot,.bot,.bot,.bot,.bot,.bot,.bot,.bot,.bot,.bot,.bot,.bot,.bot,.bot,.bot,.bot,.bot,.bot,.bot,.bot,.bot,.bot,.bot,.bot],fun x=>accS x.1,fun x=>x.2.length,([],s),⟨by simp,by cases zbw s.length s <;> simp⟩,?_,?_⟩
 ·refine zak (q:=[]) rfl rfl (by decide) ?_ ?_
  ·refine aQ24 ?_
   simp [accA,nilS,AV.ren]
  ·refine aQ24 ?_
   simp [accS,zal]
 ·rintro⟨acc,r⟩ ⟨hlen,heq⟩
  dsimp only at hlen heq ⊢
  refine aQ43 ?_
  refine⟨fun hne=>?_,fun he=>?_⟩
  ·have hk:r≠[]:=hne
   have hrl:r.length≠0:=fun h=>hk (List.eq_nil_of_length_eq_zero h)
   obtain⟨rn,hrn⟩:∃ rn,r.length=rn+1:=⟨r.length - 1,by omega⟩
   have hone:=one_ok r (by omega)
   cases hx:nodR r 0 with
   | none =>
    have e1:oneR r=(n0d,0,false):=by rw [oneR,hx]
    have e2:zbf s=([],5):=by rw [zbf,heq,hrn,zbw,if_neg hk,hx];rfl
    rw [e1] at hone
    cases acc
    all_goals simp only [zeo,zds,zep,zdt]
    ·skip
     refine(hone).pure aQ14 ?_
     rintro _ σ rfl
     refine⟨by first | rfl | simp [AEnd.noid,AV.ren,renL,za5,zax str zag,za8,za4,zaU,zam,zad,zag],?_⟩
     refine aQ43 ?_
     exact zc6 (by rw [e2])
    ·skip
     refine(hone).pure aQ14 ?_
     rintro _ σ rfl
     refine⟨by first | rfl | simp [AEnd.noid,AV.ren,renL,za5,zax str zag,za8,za4,zaU,zam,zad,zag],?_⟩
     refine aQ43 ?_
     exact zc6 (by rw [e2])
   | some x =>
    obtain⟨n,e⟩:=x
    have e1:oneR r=(n,e,true):=by rw [oneR,hx]
    rw [e1] at hone
    by_cases h3:n.kind=3
    ·have hle:=nodR_le hx h3
     dsimp only at hle
     have e3:zbw r.length r=(zbw (r.drop e).length (r.drop e)).map (n.text::·):=by
      rw [hrn,zbw,if_neg hk,hx]
      simp only [h3,if_true]
      rw [zfs rn (r.drop e).length (r.drop e) aQ20 (Nat.le_refl _)]
     cases acc with
     | nil =>
      simp only [zeo,zep]
      refine(hone).pure aQ14 ?_
      rintro _ σ rfl
      refine⟨by first | rfl | simp [AEnd.noid,AV.ren,renL,za5,zax str zag,za8,za4,zaU,zam,zad,zag],?_⟩
      refine aQ43 ?_
      refine⟨fun h=>absurd h3 h,fun _=>?_⟩
      refine W_drawP [1,2,0,5,6,7,3,4,8,9] [6,0] (by kernel_rfl) (by kernel_rfl) (by kernel_rfl) (by kernel_rfl) ?_
      simp only [zc1,zig,List.map_cons,List.map_nil,List.getElem?_cons_zero,List.getElem?_cons_succ,Option.getD_some]
      refine aQ43 ?_
      refine⟨by omega,by omega,?_⟩
      refine zfq str zbV rfl rfl T32 T32 (zhJ _) T9 zdL (ys:=[n.text]) (m:=1) (ze2 (l:=[n.text]) rfl rfl) (by omega) (by simp only [tyStr];omega) ?_
      refine aQ43 ?_
      rw [zap]
      refine⟨([n.text],r.drop e),⟨by simp only [List.length_cons,List.length_nil,List.length_drop] at hlen ⊢;omega,by rw [heq,e3];cases zbw (r.drop e).length (r.drop e) <;> rfl⟩,by (show (r.drop e).length < r.length);rw [List.length_drop];omega,zak (q:=[2]) rfl rfl (by decide) ?_ ?_⟩
      ·refine aQ24 ?_
       simp [accA,AV.ren]
      ·refine aQ24 ?_
       simp [accS,zal,Blk.ren,renL,zag]
     | cons a acc =>
      simp only [zds,zdt]
      refine(hone).pure aQ14 ?_
      rintro _ σ rfl
      refine⟨by first | rfl | simp [AEnd.noid,AV.ren,renL,za5,zax str zag,za8,za4,zaU,zam,zad,zag],?_⟩
      refine aQ43 ?_
      refine⟨fun h=>absurd h3 h,fun _=>?_⟩
      refine W_drawP [1,2,0,5,6,7,3,4,8,9] [6,0] (by kernel_rfl) (by kernel_rfl) (by kernel_rfl) (by kernel_rfl) ?_
      simp only [zc1,zig,List.map_cons,List.map_nil,List.getElem?_cons_zero,List.getElem?_cons_succ,Option.getD_some]
      refine aQ43 ?_
      refine⟨by omega,by omega,?_⟩
      refine zcc str zbV rfl rfl T32 T32 (zhJ _) T9 zdL (l:=a::acc) (ys:=[n.text]) (m:=1) rfl rfl (ze2 (l:=[n.text]) rfl rfl) (by simp only [List.length_cons] at hlen ⊢;omega) (by simp only [tyStr];simp only [List.length_cons] at hlen ⊢;omega) ?_
      refine aQ43 ?_
      rw [zap]
      refine⟨(a::acc++[n.text],r.drop e),⟨by simp only [List.length_cons,List.length_append,List.length_nil,List.length_drop] at hlen ⊢;omega,by rw [heq,e3];cases zbw (r.drop e).length (r.drop e) <;> simp⟩,by (show (r.drop e).length < r.length);rw [List.length_drop];omega,zak (q:=[3]) rfl rfl (by decide) ?_ ?_⟩
      ·refine aQ24 ?_
       simp [accA,AV.ren]
      ·refine aQ24 ?_
       refine⟨.inr ⟨.rw ((a::acc++[n.text]).map str),?_,rfl⟩,trivial⟩
       show (Blk.rw ((a::acc++[n.text]).map str)).ren [3]=_
       rw [zaD,zax str zag]
       rfl
    ·have e2:zbf s=([],5):=by rw [zbf,heq,hrn,zbw,if_neg hk,hx];simp only [if_neg h3];rfl
     cases acc
     all_goals simp only [zeo,zds,zep,zdt]
     ·skip
      refine(hone).pure aQ14 ?_
      rintro _ σ rfl
      refine⟨by first | rfl | simp [AEnd.noid,AV.ren,renL,za5,zax str zag,za8,za4,zaU,zam,zad,zag],?_⟩
      refine aQ43 ?_
      exact⟨fun _=>zc6 (by rw [e2]),fun h=>absurd h h3⟩
     ·skip
      refine(hone).pure aQ14 ?_
      rintro _ σ rfl
      refine⟨by first | rfl | simp [AEnd.noid,AV.ren,renL,za5,zax str zag,za8,za4,zaU,zam,zad,zag],?_⟩
      refine aQ43 ?_
      exact⟨fun _=>zc6 (by rw [e2]),fun h=>absurd h h3⟩
  ·have hk:r=[]:=by simpa using he
   subst hk
   have e2:zbf s=(acc,0):=by rw [zbf,heq,zdb];simp
   cases acc with
   | nil =>
    simp only [zeo,zep]
    refine aQ43 ?_
    exact zc6 (by rw [e2])
   | cons a acc =>
    simp only [zds,zdt]
    refine aQ43 ?_
    exact end_refE (l:=a::acc) rfl (by rw [e2])
end Go.Proofs.YtcahoelfogjljaaGreatDoor
end

