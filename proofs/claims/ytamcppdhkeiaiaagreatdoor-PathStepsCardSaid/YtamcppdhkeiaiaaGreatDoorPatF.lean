/-
  A path is shown; the document's own paths. No condition.
-/
import Derived.Test.YtamcppdhkeiaiaaGreatDoorPatE
import Derived.Shelf.Strings.Builder1
import Derived.Lib.AppendIntMem
set_option linter.unusedSimpArgs false
set_option linter.unusedVariables false
set_option linter.unusedSectionVars false
section
namespace Go.Proofs.YtamcppdhkeiaiaaGreatDoor
open Go Go.Eng
set_option linter.defProp false in
def LB19:=And.intro @rd_rt0 (And.intro (fun {K}=>wfa_bld1 (T:=T) (K:=K) 63 60 61 5 rfl rfl) (And.intro @len_bsl (And.intro @st_bsl (And.intro @wsd_bsl (And.intro @Wop_us (And.intro @Qop_usd (@ofVal_nilIface)))))))
def ziD:Go.Shelf.Ren:=⟨fun | 240=>42 | 276=>59 | n=>n,fun | 70=>60 | 72=>63 | 9=>9 | 4=>4 | 20=>20 | 164=>122 | 37=>61 | 5=>5 | 0=>0 | n=>n,fun | n=>n⟩
theorem lays240:Go.Proofs.Lays.n240 Tryz.prog ziD:={
 mixed:=by kernel_rfl
 f240:=Tryz.func42.trans (congrArg some (by kernel_rfl))
 f276:=Tryz.func59.trans (congrArg some (by kernel_rfl))
 t0:=Tryz.underlying0
 a0:=Tryz.isAgg0
 z0:=Tryz.sizeOf0
 v0:=Tryz.zeroValue0
 t4:=Tryz.underlying4
 a4:=Tryz.isAgg4
 z4:=Tryz.sizeOf4
 v4:=Tryz.zeroValue4
 t9:=Tryz.underlying9
 a9:=Tryz.isAgg9
 z9:=Tryz.sizeOf9
 v9:=Tryz.zeroValue9
 t20:=Tryz.underlying20
 a20:=Tryz.isAgg20
 z20:=Tryz.sizeOf20
 v20:=Tryz.zeroValue20
 t70:=Tryz.underlying60
 a70:=Tryz.isAgg60
 z70:=Tryz.sizeOf60
 v70:=Tryz.zeroValue60
 t72:=Tryz.underlying63
 a72:=Tryz.isAgg63
 z72:=Tryz.sizeOf63
 v72:=Tryz.zeroValue63
 t164:=Tryz.underlying122
 a164:=Tryz.isAgg122
 z164:=Tryz.sizeOf122
 v164:=Tryz.zeroValue122 }
theorem x72:Go.Proofs.Builder.X72 Tryz.prog ziD:={
 sizeBuilder:=by kernel_rfl
 liesBuilder:=by kernel_rfl }
theorem copyCheck_ok (u:Bool) (k n:Nat) (X:zad):ACalls Tryz.prog 42 [.ptr 0 0] (sbA 63 u 0 k n::X) (fun x σ=>x=.ret (.tup [])∧σ=sbA 63 true 0 k n::X) :=
 copyCheck_of (by kernel_rfl) (fun b w h0 h1 h2=>Any.Builder_copyCheck_fresh lays240 x72 b w h0 h1 h2) (fun b w h0=>Any.Builder_copyCheck_used lays240 x72 b w h0) u k n X
theorem bws_ok (u:Bool) (l s:List UInt8) (h:l.length+s.length≤140737488355328):ACalls Tryz.prog 25 [.ptr 0 0,str s] [sbA 63 u 0 1 l.length,sbB 5 l] (fun x σ=>x=.ret (.tup [i64 s.length,.lit .nilIface])∧σ=[sbA 63 true 0 2 (l++s).length,.dead,sbB 5 (l++s)]):=by
 refine ACalls.body T_ok Tryz.func25 (by kernel_rfl) rfl Tryz.ntmps25 (congrArg Array.toList Tryz.results25) ?_
 try simp -implicitDefEqProofs only [LM4,LB19,eq_self,zaa,zab,Nat.zero_mul,lzS,zbX (T:=T) 63 60 61 5 rfl,TB,SB,Int.reduceToNat,Nat.reduceAdd,Nat.reduceEqDiff,Nat.reduceLT,Nat.reduceMod,Nat.reducePow,Nat.reduceSub,if_true,reduceIte]
 refine(copyCheck_ok u 1 l.length [sbB 5 l]).mono ?_
 rintro _ _ ⟨rfl,rfl⟩
 simp only [sbA,sbB]
 try simp -implicitDefEqProofs only [LM4,LB19,eq_self,zaa,zab,Nat.zero_mul,lzS,zbX (T:=T) 63 60 61 5 rfl,TB,SB,Int.reduceToNat,Nat.reduceAdd,Nat.reduceEqDiff,Nat.reduceLT,Nat.reduceMod,Nat.reducePow,Nat.reduceSub,if_true,reduceIte]
 refine append_bsl (e:=5) rfl rfl rfl rfl tx_str rfl zid (cs:=l.map u8) (xs:=s.map u8) rfl (by simp) (asrc_str s) (zdG u8 zi7 _) (zdG u8 zi7 _) (by omega) (by show _ * 1≤_;omega) ?_
 try simp -implicitDefEqProofs only [LM4,LB19,eq_self,zaa,zab,Nat.zero_mul,lzS,zbX (T:=T) 63 60 61 5 rfl,TB,SB,Int.reduceToNat,Nat.reduceAdd,Nat.reduceEqDiff,Nat.reduceLT,Nat.reduceMod,Nat.reducePow,Nat.reduceSub,if_true,reduceIte]
 refine zaH ⟨rfl,?_⟩
 simp [sbA,sbB]
end Go.Proofs.YtamcppdhkeiaiaaGreatDoor
end

section
namespace Go.Proofs.YtamcppdhkeiaiaaGreatDoor
open Go Go.Eng
set_option linter.defProp false in
def LB20:=And.intro @zaN (And.intro @zbn (And.intro @ren_ptA (@zfF)))
set_option linter.defProp false in
def LB21:=And.intro @ren_sbA (And.intro @ren_sbB (And.intro @ren_sbF (And.intro @sbA_dead (@sbB_dead))))
theorem bstrF_ok (u:Bool) (l:List UInt8) (h:l.length≤140737488355328):ACalls Tryz.prog 27 [.ptr 0 0] [sbA 63 u 0 1 l.length,sbB 5 l] (fun x σ=>x=.ret (str l)∧σ=[sbA 63 u 0 1 l.length,sbF 5 l]):=by
 refine ACalls.body T_ok Tryz.func27 (by kernel_rfl) rfl Tryz.ntmps27 (congrArg Array.toList Tryz.results27) ?_
 simp only [sbA]
 try simp -implicitDefEqProofs only [LM4,LB19,eq_self,zaa,zab,Nat.zero_mul,lzS,zbX (T:=T) 63 60 61 5 rfl,TB,SB,Int.reduceToNat,Nat.reduceAdd,Nat.reduceEqDiff,Nat.reduceLT,Nat.reduceMod,Nat.reducePow,Nat.reduceSub,if_true,reduceIte]
 refine zgX [10] (by kernel_rfl) (by kernel_rfl) (by kernel_rfl) ?_
 try simp -implicitDefEqProofs only [LM4,LB19,eq_self,zaa,zab,Nat.zero_mul,lzS,zbX (T:=T) 63 60 61 5 rfl,TB,SB,Int.reduceToNat,Nat.reduceAdd,Nat.reduceEqDiff,Nat.reduceLT,Nat.reduceMod,Nat.reducePow,Nat.reduceSub,if_true,reduceIte]
 refine wusF_ok (e:=5) rfl rfl rfl (by omega) rfl ?_
 try simp -implicitDefEqProofs only [LM4,LB19,eq_self,zaa,zab,Nat.zero_mul,lzS,zbX (T:=T) 63 60 61 5 rfl,TB,SB,Int.reduceToNat,Nat.reduceAdd,Nat.reduceEqDiff,Nat.reduceLT,Nat.reduceMod,Nat.reducePow,Nat.reduceSub,if_true,reduceIte]
 exact zaH ⟨rfl,rfl⟩
theorem bstrG_ok (u:Bool) (l:List UInt8) (h:l.length≤140737488355328):ACalls Tryz.prog 27 [.ptr 0 0] [sbA 63 u 0 1 l.length,sbF 5 l] (fun x σ=>x=.ret (str l)∧σ=[sbA 63 u 0 1 l.length,sbF 5 l]):=by
 refine ACalls.body T_ok Tryz.func27 (by kernel_rfl) rfl Tryz.ntmps27 (congrArg Array.toList Tryz.results27) ?_
 simp only [sbA]
 try simp -implicitDefEqProofs only [LM4,LB19,eq_self,zaa,zab,Nat.zero_mul,lzS,zbX (T:=T) 63 60 61 5 rfl,TB,SB,Int.reduceToNat,Nat.reduceAdd,Nat.reduceEqDiff,Nat.reduceLT,Nat.reduceMod,Nat.reducePow,Nat.reduceSub,if_true,reduceIte]
 refine zgX [10] (by kernel_rfl) (by kernel_rfl) (by kernel_rfl) ?_
 try simp -implicitDefEqProofs only [LM4,LB19,eq_self,zaa,zab,Nat.zero_mul,lzS,zbX (T:=T) 63 60 61 5 rfl,TB,SB,Int.reduceToNat,Nat.reduceAdd,Nat.reduceEqDiff,Nat.reduceLT,Nat.reduceMod,Nat.reducePow,Nat.reduceSub,if_true,reduceIte]
 refine wusG_ok (e:=5) rfl rfl rfl (by omega) rfl ?_
 try simp -implicitDefEqProofs only [LM4,LB19,eq_self,zaa,zab,Nat.zero_mul,lzS,zbX (T:=T) 63 60 61 5 rfl,TB,SB,Int.reduceToNat,Nat.reduceAdd,Nat.reduceEqDiff,Nat.reduceLT,Nat.reduceMod,Nat.reducePow,Nat.reduceSub,if_true,reduceIte]
 exact zaH ⟨rfl,rfl⟩
theorem zj5:∀ (k u:Nat),u < 10 ^ (k+1)→Lib.nDigits u≤k+1
 | 0,u,h=>by rw [Lib.nDigits,dif_pos (by omega)];exact Nat.le_refl _
 | k+1,u,h=>by
  rw [Lib.nDigits]
  split
  ·omega
  ·have:=zj5 k (u / 10) (by rw [Nat.pow_succ] at h;omega)
   omega
theorem itoa_le {n:Int} (hn:inI n):(Lib.itoa n).length≤20:=by
 unfold inI at hn
 unfold Lib.itoa
 split
 ·rw [List.length_cons,Lib.decDigits_length]
  have:=zj5 18 n.natAbs (by omega)
  omega
 ·rw [Lib.decDigits_length]
  have:=zj5 18 n.toNat (by omega)
  omega
theorem Itoa_ok (n:Int) (hn:inI n):ACalls Tryz.prog 43 [i64 n] [] (fun x _=>x=.ret (str (Lib.itoa n))) :=
 zgH 4 powT rfl (by kernel_rfl) fun w O m vs hp hr=>by
  simp only [reps,i64,rep] at hr
  obtain⟨v,r,e1,rfl,rfl⟩:=hr
  have ev:vs=#[.int .i64 n]:=by
   apply Array.ext'
   simpa using e1
  subst ev
  obtain⟨e,f,hp⟩:=hp
  unfold inI at hn
  have htab : Go.Lib.TabIs Tryz.prog w "internal/strconv.uint64pow10" .u64 Go.Lib.pow10Tab := by
   show World.var? _ _ _=_
   unfold World.var?
   rw [show Program.globalNamed Tryz.prog "internal/strconv.uint64pow10" = some 4 by kernel_rfl, Option.bind_some, hp]
   rfl
  refine(Go.Proofs.Tryz.strconv_Itoa n (by omega) (by omega) w htab).mono ?_
  rintro e w' ⟨rfl,k,os,rfl⟩
  exact⟨⟨_,rfl,fun w' O m=>by simp only [str,rep]⟩,Go.Lib.below_grow _ _ (Nat.le_refl _) _ _⟩
theorem zj6 {x:Pt} {f:Bool} (h:x.pos=-1):ptX f x=if f=true then x.key else 46::x.key:=by
 unfold ptX
 rw [if_neg (fun k=>k h)]
theorem ptX_num {x:Pt} {f:Bool} (h:x.pos≠-1):ptX f x=91::(Lib.itoa x.pos++[93]):=by
 unfold ptX
 rw [if_pos h]
theorem pstext_ok (x:Pt) (f:Bool) (hx:inI x.pos) (hk:x.key.length≤1000000000):ACalls Tryz.prog 26 [ptA x,bl f] [] (fun y _=>y=.ret (str (ptX f x))):=by
 rw [ze0]
 refine ACalls.body T_ok Tryz.func26 (by kernel_rfl) rfl Tryz.ntmps26 (congrArg Array.toList Tryz.results26) ?_
 by_cases hp:x.pos=-1
 ·have dp:=decide_eq_true hp
  try simp -implicitDefEqProofs only [LM4,LB19,eq_self,zaa,zab,Nat.zero_mul,lzS,zbX (T:=T) 63 60 61 5 rfl,dp,TB,SB,Int.reduceToNat,Nat.reduceAdd,Nat.reduceEqDiff,Nat.reduceLT,Nat.reduceMod,Nat.reducePow,Nat.reduceSub,if_true,reduceIte]
  cases f with
  | true =>
   try simp -implicitDefEqProofs only [LM4,LB19,eq_self,zaa,zab,Nat.zero_mul,lzS,zbX (T:=T) 63 60 61 5 rfl,TB,SB,Int.reduceToNat,Nat.reduceAdd,Nat.reduceEqDiff,Nat.reduceLT,Nat.reduceMod,Nat.reducePow,Nat.reduceSub,if_true,reduceIte]
   exact zdU (by rw [zj6 hp,if_pos rfl])
  | false =>
   try simp -implicitDefEqProofs only [LM4,LB19,eq_self,zaa,zab,Nat.zero_mul,lzS,zbX (T:=T) 63 60 61 5 rfl,TB,SB,Int.reduceToNat,Nat.reduceAdd,Nat.reduceEqDiff,Nat.reduceLT,Nat.reduceMod,Nat.reducePow,Nat.reduceSub,if_true,reduceIte]
   exact⟨by omega,zdU (by rw [zj6 hp,if_neg (by decide)])⟩
 ·have dp:=decide_eq_false hp
  try simp -implicitDefEqProofs only [LM4,LB19,eq_self,zaa,zab,Nat.zero_mul,lzS,zbX (T:=T) 63 60 61 5 rfl,dp,TB,SB,Int.reduceToNat,Nat.reduceAdd,Nat.reduceEqDiff,Nat.reduceLT,Nat.reduceMod,Nat.reducePow,Nat.reduceSub,if_true,reduceIte]
  refine(Itoa_ok _ hx).pure (by simp [renL,zaf]) ?_
  rintro _ σ rfl
  refine⟨zai _ _,?_⟩
  have:=itoa_le hx
  try simp -implicitDefEqProofs only [LM4,LB19,eq_self,zaa,zab,Nat.zero_mul,lzS,zbX (T:=T) 63 60 61 5 rfl,TB,SB,Int.reduceToNat,Nat.reduceAdd,Nat.reduceEqDiff,Nat.reduceLT,Nat.reduceMod,Nat.reducePow,Nat.reduceSub,if_true,reduceIte]
  exact⟨by omega,by omega,zdU (by rw [ptX_num hp])⟩
theorem shP_snoc:∀ (l:List Pt) (f:Bool) (x:Pt),shP f (l++[x])=shP f l++ptX (f && l.isEmpty) x
 | [],f,x=>by simp [shP]
 | y::r,f,x=>by
  rw [List.cons_append,shP,shP_snoc r false x,shP,List.append_assoc]
  simp
theorem zj7 {l:List Pt} {k:Nat} (h:k < l.length):shP true (l.take (k+1))=shP true (l.take k)++ptX (decide ((k:Int)=0)) (l.getD k pt0):=by
 rw [List.take_succ_eq_append_getElem h,shP_snoc,List.getD_eq_getElem?_getD,List.getElem?_eq_getElem h,Bool.true_and]
 congr 2
 cases k with
 | zero=>rfl
 | succ k =>
  cases l with
  | nil=>simp at h
  | cons y r=>simp;omega
theorem ptX_le {x:Pt} {f:Bool} (hx:inI x.pos) {n:Nat} (hk:x.key.length≤n):(ptX f x).length≤n+22:=by
 have:=itoa_le hx
 unfold ptX
 split
 ·simp only [List.length_cons,List.length_append,List.length_nil];omega
 ·split
  ·omega
  ·simp only [List.length_cons];omega
theorem ziE (l:List Pt) (n:Nat) (h:∀ x∈l,inI x.pos∧x.key.length≤n):∀ k,k≤l.length→(shP true (l.take k)).length≤k * (n+22)
 | 0,_=>by simp [shP]
 | k+1,hk=>by
  have ih:=ziE l n h k (by omega)
  have hm:l.getD k pt0∈l:=by rw [List.getD_eq_getElem?_getD,List.getElem?_eq_getElem (show k < l.length by omega)];exact List.getElem_mem _
  have:=ptX_le (f:=decide ((k:Int)=0)) (h _ hm).1 (h _ hm).2
  rw [zj7 (by omega),List.length_append,Nat.succ_mul]
  omega
theorem ziF (s:List UInt8):(zci s).1.length≤120:=by
 by_cases h:(zci s).2=0
 ·have hp:zci s=((zci s).1,0):=Prod.ext rfl h
  obtain⟨g1,g2,g3⟩:=zfG hp
  have:=shP_len (zci s).1 true (List.all_eq_true.1 g2)
  rw [← g1] at this
  omega
 ·rw [pathV_bad h];simp
theorem PShow_ok (l:List Pt) (hl:l.length≤9223372036854775807) (h:∀ x∈l,inI x.pos∧x.key.length≤100000):ACalls Tryz.prog 10 [.sl (l.flatMap ptC) l.length] [] (fun y _=>y=.ret (.tup [str (zfP l).1,i64 (zfP l).2])):=by
 have hX:=showP_eq l
 generalize zfP l=X at hX ⊢
 refine ACalls.body T_ok Tryz.func10 (by kernel_rfl) rfl Tryz.ntmps10 (congrArg Array.toList Tryz.results10) ?_
 by_cases h0:120 < (l.length:Int)
 ·have d0:=decide_eq_true h0
  try simp -implicitDefEqProofs only [LM4,LB19,eq_self,zaa,zab,Nat.zero_mul,lzS,zbX (T:=T) 63 60 61 5 rfl,d0,TB,SB,Int.reduceToNat,Nat.reduceAdd,Nat.reduceEqDiff,Nat.reduceLT,Nat.reduceMod,Nat.reducePow,Nat.reduceSub,if_true,reduceIte]
  refine zat (by simp [AV.ren,renL,zai,zaf]) ?_
  rw [hX,if_neg (fun e=>?_)]
  obtain⟨e1,e2,e3⟩:=zfG e
  have:=shP_len l true (List.all_eq_true.1 e2)
  omega
 have d0:=decide_eq_false h0
 try simp -implicitDefEqProofs only [LM4,LB19,eq_self,zaa,zab,Nat.zero_mul,lzS,zbX (T:=T) 63 60 61 5 rfl,d0,TB,SB,Int.reduceToNat,Nat.reduceAdd,Nat.reduceEqDiff,Nat.reduceLT,Nat.reduceMod,Nat.reducePow,Nat.reduceSub,if_true,reduceIte]
 rw [zaV]
 refine⟨Nat × Bool,fun p=>p.1≤l.length,fun p=>[.sl (l.flatMap ptC) l.length,.bot,str [],i64 0,.ptr 0 0,.bot,.bot,.bot,.bot,.bot,.bot,.bot,.sl (l.flatMap ptC) l.length,i64 l.length,i64 p.1,.bot,.bot,.bot,.bot,.bot,.bot,.bot,.bot,.bot,.bot,.bot,.bot,.bot,.bot,.bot,.bot,.bot,.bot,.bot,.bot,.bot,.bot,.bot,.bot],fun p=>[sbA 63 p.2 0 1 (shP true (l.take p.1)).length,sbB 5 (shP true (l.take p.1))],fun p=>l.length - p.1,(0,false),Nat.zero_le _,?_,?_⟩
 ·refine zcP ?_
  try simp only [LB3,List.getElem?_cons_zero,true_and,and_true,or_true,true_or,reduceCtorEq,false_or]
  try exact .inr rfl
 ·rintro⟨k,u⟩ hk
  simp only at hk
  have hle:=ziE l 100000 h k hk
  have hm:k * (100000+22)≤120 * (100000+22):=Nat.mul_le_mul_right _ (by omega)
  by_cases hlt:k < l.length
  ·have dl:decide ((k:Int) < (l.length:Int))=true:=decide_eq_true (by omega)
   try simp -implicitDefEqProofs only [LM4,LB19,eq_self,zaa,zab,Nat.zero_mul,lzS,zbX (T:=T) 63 60 61 5 rfl,dl,TB,SB,Int.reduceToNat,Nat.reduceAdd,Nat.reduceEqDiff,Nat.reduceLT,Nat.reduceMod,Nat.reducePow,Nat.reduceSub,if_true,reduceIte]
   refine⟨by omega,by omega,Nat.le_refl _,hlt,?_⟩
   have hm2:l.getD k pt0∈l:=by rw [List.getD_eq_getElem?_getD,List.getElem?_eq_getElem hlt];exact List.getElem_mem _
   have hxk:=h _ hm2
   have hpl:=ptX_le (f:=decide ((k:Int)=0)) hxk.1 hxk.2
   have e1:=zj7 hlt
   refine(pstext_ok (l.getD k pt0) (decide ((k:Int)=0)) hxk.1 (by omega)).pure (by simp [renL,AV.ren,ptA,ptC,zai,zaf,zap]) ?_
   rintro _ σ rfl
   refine⟨zai _ _,?_⟩
   try simp -implicitDefEqProofs only [LM4,LB19,eq_self,zaa,zab,Nat.zero_mul,lzS,zbX (T:=T) 63 60 61 5 rfl,TB,SB,Int.reduceToNat,Nat.reduceAdd,Nat.reduceEqDiff,Nat.reduceLT,Nat.reduceMod,Nat.reducePow,Nat.reduceSub,if_true,reduceIte]
   refine ACalls.frame ([0,1]) (bws_ok u (shP true (l.take k)) (ptX (decide ((k:Int)=0)) (l.getD k pt0)) (by omega)) rfl (by decide) (by simp [LM1,LB20,LB21,zag,zae,renL,AV.ren,AEnd.ren,zah,mbF.fren,zac,List.getElem?_cons_zero,List.getElem?_cons_succ]) (by first | rfl | simp [LM1,LB20,LB21,zag,zae,renL,AV.ren,AEnd.ren,zah,mbF.fren,zac,List.getElem?_cons_zero,List.getElem?_cons_succ]) ?_
   rintro _ _ ⟨rfl,rfl⟩
   refine⟨.ret (.tup [i64 (ptX (decide ((k:Int)=0)) (l.getD k pt0)).length,.lit .nilIface]),[sbA 63 true 0 3 (shP true (l.take k)++ptX (decide ((k:Int)=0)) (l.getD k pt0)).length,.dead,.rw [str (l.getD k pt0).key,i64 (l.getD k pt0).pos],sbB 5 (shP true (l.take k)++ptX (decide ((k:Int)=0)) (l.getD k pt0))],(by show zae _ _ ([0,1,3,2]) ([0,1,3,2]) 0 _;simp [LM1,LB20,LB21,zag,zae,renL,AV.ren,AEnd.ren,zah,mbF.fren,zac,List.getElem?_cons_zero,List.getElem?_cons_succ]),(by show AEnd.ren ([0,1,3,2]) _ _;first | rfl | simp [LM1,LB20,LB21,zag,zae,renL,AV.ren,AEnd.ren,zah,mbF.fren,zac,List.getElem?_cons_zero,List.getElem?_cons_succ]),?_⟩
   try simp -implicitDefEqProofs only [LM4,LB19,eq_self,zaa,zab,Nat.zero_mul,lzS,zbX (T:=T) 63 60 61 5 rfl,TB,SB,Int.reduceToNat,Nat.reduceAdd,Nat.reduceEqDiff,Nat.reduceLT,Nat.reduceMod,Nat.reducePow,Nat.reduceSub,if_true,reduceIte]
   refine⟨by unfold inI;omega,?_⟩
   rw [zak]
   refine⟨(k+1,true),by (show k+1≤l.length);omega,by (show l.length - (k+1) < l.length - k);omega,?_⟩
   rw [← e1]
   refine zaj (q:=[0,3]) rfl rfl (by decide) ?_ ?_
   ·try simp only [FB,AV.ren,Nat.reduceAdd,reduceCtorEq]
    simp [zaN]
   ·try simp only [FB,AV.ren,Nat.reduceAdd,reduceCtorEq]
    simp [zag,ren_sbA,ren_sbB]
  ·obtain rfl:k=l.length:=by omega
   have dl:decide ((l.length:Int) < (l.length:Int))=false:=decide_eq_false (by omega)
   try simp -implicitDefEqProofs only [LM4,LB19,eq_self,zaa,zab,Nat.zero_mul,lzS,zbX (T:=T) 63 60 61 5 rfl,dl,List.take_length,TB,SB,Int.reduceToNat,Nat.reduceAdd,Nat.reduceEqDiff,Nat.reduceLT,Nat.reduceMod,Nat.reducePow,Nat.reduceSub,if_true,reduceIte]
   rw [List.take_length] at hle
   refine ACalls.frame ([0,1]) (bstrF_ok u (shP true l) (by omega)) rfl (by decide) (by simp [LM1,LB20,LB21,zag,zae,renL,AV.ren,AEnd.ren,zah,mbF.fren,zac,List.getElem?_cons_zero,List.getElem?_cons_succ]) (by first | rfl | simp [LM1,LB20,LB21,zag,zae,renL,AV.ren,AEnd.ren,zah,mbF.fren,zac,List.getElem?_cons_zero,List.getElem?_cons_succ]) ?_
   rintro _ _ ⟨rfl,rfl⟩
   refine⟨.ret (str (shP true l)),[sbA 63 u 0 1 (shP true l).length,sbF 5 (shP true l)],(by show zae _ _ ([0,1]) ([0,1]) 0 _;simp [LM1,LB20,LB21,zag,zae,renL,AV.ren,AEnd.ren,zah,mbF.fren,zac,List.getElem?_cons_zero,List.getElem?_cons_succ]),(by show AEnd.ren ([0,1]) _ _;first | rfl | simp [LM1,LB20,LB21,zag,zae,renL,AV.ren,AEnd.ren,zah,mbF.fren,zac,List.getElem?_cons_zero,List.getElem?_cons_succ]),?_⟩
   try simp -implicitDefEqProofs only [LM4,LB19,eq_self,zaa,zab,Nat.zero_mul,lzS,zbX (T:=T) 63 60 61 5 rfl,TB,SB,Int.reduceToNat,Nat.reduceAdd,Nat.reduceEqDiff,Nat.reduceLT,Nat.reduceMod,Nat.reducePow,Nat.reduceSub,if_true,reduceIte]
   refine(zhD (shP true l) (by omega)).pure (by simp [renL,zai]) ?_
   rintro _ σ rfl
   refine⟨by simp [AEnd.noid,AV.ren,renL,zbn,zaf],?_⟩
   rw [zjg]
   by_cases he:(zci (shP true l)).2=0
   ·have de:=decide_eq_true he
    try simp -implicitDefEqProofs only [LM4,LB19,eq_self,zaa,zab,Nat.zero_mul,lzS,zbX (T:=T) 63 60 61 5 rfl,de,TB,SB,Int.reduceToNat,Nat.reduceAdd,Nat.reduceEqDiff,Nat.reduceLT,Nat.reduceMod,Nat.reducePow,Nat.reduceSub,if_true,reduceIte]
    refine(psame_ok (zci (shP true l)).1 l (by have:=ziF (shP true l);omega)).pure (by simp [renL,AV.ren,zaN]) ?_
    rintro _ σ rfl
    refine⟨zap _ _,?_⟩
    by_cases hs:(zci (shP true l)).1=l
    ·have ds:=decide_eq_true hs
     try simp -implicitDefEqProofs only [LM4,LB19,eq_self,zaa,zab,Nat.zero_mul,lzS,zbX (T:=T) 63 60 61 5 rfl,ds,TB,SB,Int.reduceToNat,Nat.reduceAdd,Nat.reduceEqDiff,Nat.reduceLT,Nat.reduceMod,Nat.reducePow,Nat.reduceSub,if_true,reduceIte]
     refine ACalls.frame ([0,1]) (bstrG_ok u (shP true l) (by omega)) rfl (by decide) (by simp [LM1,LB20,LB21,zag,zae,renL,AV.ren,AEnd.ren,zah,mbF.fren,zac,List.getElem?_cons_zero,List.getElem?_cons_succ]) (by first | rfl | simp [LM1,LB20,LB21,zag,zae,renL,AV.ren,AEnd.ren,zah,mbF.fren,zac,List.getElem?_cons_zero,List.getElem?_cons_succ]) ?_
     rintro _ _ ⟨rfl,rfl⟩
     refine⟨.ret (str (shP true l)),[sbA 63 u 0 1 (shP true l).length,sbF 5 (shP true l)],(by show zae _ _ ([0,1]) ([0,1]) 0 _;simp [LM1,LB20,LB21,zag,zae,renL,AV.ren,AEnd.ren,zah,mbF.fren,zac,List.getElem?_cons_zero,List.getElem?_cons_succ]),(by show AEnd.ren ([0,1]) _ _;first | rfl | simp [LM1,LB20,LB21,zag,zae,renL,AV.ren,AEnd.ren,zah,mbF.fren,zac,List.getElem?_cons_zero,List.getElem?_cons_succ]),?_⟩
     try simp -implicitDefEqProofs only [LM4,LB19,eq_self,zaa,zab,Nat.zero_mul,lzS,zbX (T:=T) 63 60 61 5 rfl,TB,SB,Int.reduceToNat,Nat.reduceAdd,Nat.reduceEqDiff,Nat.reduceLT,Nat.reduceMod,Nat.reducePow,Nat.reduceSub,if_true,reduceIte]
     refine zat (by simp [AV.ren,renL,zai,zaf]) ?_
     rw [hX,if_pos (Prod.ext hs he)]
    ·have ds:=decide_eq_false hs
     try simp -implicitDefEqProofs only [LM4,LB19,eq_self,zaa,zab,Nat.zero_mul,lzS,zbX (T:=T) 63 60 61 5 rfl,ds,TB,SB,Int.reduceToNat,Nat.reduceAdd,Nat.reduceEqDiff,Nat.reduceLT,Nat.reduceMod,Nat.reducePow,Nat.reduceSub,if_true,reduceIte]
     refine zat (by simp [AV.ren,renL,zai,zaf]) ?_
     rw [hX,if_neg (fun e=>hs (by rw [e]))]
   ·have de:=decide_eq_false he
    try simp -implicitDefEqProofs only [LM4,LB19,eq_self,zaa,zab,Nat.zero_mul,lzS,zbX (T:=T) 63 60 61 5 rfl,de,TB,SB,Int.reduceToNat,Nat.reduceAdd,Nat.reduceEqDiff,Nat.reduceLT,Nat.reduceMod,Nat.reducePow,Nat.reduceSub,if_true,reduceIte]
    refine zat (by simp [AV.ren,renL,zai,zaf]) ?_
    rw [hX,if_neg (fun e=>he (by rw [e]))]
end Go.Proofs.YtamcppdhkeiaiaaGreatDoor
end

section
namespace Go.Proofs.YtamcppdhkeiaiaaGreatDoor
open Go Go.Eng
theorem get_all {α:Type} {P:α→Prop} {l:List α} {d:α} {k:Nat} (hk:l.length≤k) (h:∀ j,j < k→P (l.getD j d)):∀ x∈l,P x:=by
 intro x hx
 obtain⟨j,hj,rfl⟩:=List.getElem_of_mem hx
 have:=h j (by omega)
 rwa [List.getD_eq_getElem?_getD,List.getElem?_eq_getElem hj] at this
theorem zdK {α:Type} {l:List α} {k:Nat} (d:α) (h:k < l.length):l.take (k+1)=l.take k++[l.getD k d]:=by
 rw [List.take_succ_eq_append_getElem h,List.getD_eq_getElem?_getD,List.getElem?_eq_getElem h]
 rfl
def fewP (l:List Pt):Prop:=l.length≤140∧∀ o∈l,o.key.length≤140
theorem fewP_ok (l:List Pt) (hl:l.length≤9223372036854775807):ACalls Tryz.prog 7 [.sl (l.flatMap ptC) l.length] [] (fun y _=>∃ b:Bool,y=.ret (bl b)∧(b=true→fewP l)):=by
 have hno:∀ σ:zad,endQ 0 (bl false) σ (fun r _=>∃ b:Bool,AEnd.ret r=.ret (bl b)∧(b=true→fewP l)):=fun σ=>zaI ⟨false,rfl,fun h=>by cases h⟩
 refine ACalls.body T_ok Tryz.func7 (by kernel_rfl) rfl Tryz.ntmps7 (congrArg Array.toList Tryz.results7) ?_
 try simp -implicitDefEqProofs only [LM4,eq_self,zaa,zab,Nat.zero_mul,lzS,TB,SB,Int.reduceToNat,Nat.reduceAdd,Nat.reduceEqDiff,Nat.reduceLT,Nat.reduceMod,Nat.reducePow,Nat.reduceSub,if_true,reduceIte]
 rw [zaV]
 refine⟨Nat,fun k=>k≤141∧k≤l.length∧∀ j,j < k→(l.getD j pt0).key.length≤140,fun k=>[.sl (l.flatMap ptC) l.length,.bot,.bot,i64 k,.bot,.bot,.bot,.bot,.bot,.bot,.bot,.bot,.bot,.bot,.bot,.bot,.bot,.bot,.bot,.bot,.bot,.bot,.bot,.bot],fun _=>[],fun k=>142 - k,0,⟨by omega,Nat.zero_le _,fun j h=>absurd h (by omega)⟩,zaj (q:=[]) rfl rfl (by decide) ?_ ?_,?_⟩
 ·skip
  try simp only [FB,AV.ren,Nat.reduceAdd,reduceCtorEq]
  simp [zaN,AV.ren]
 ·skip
  try simp only [FB,AV.ren,Nat.reduceAdd,reduceCtorEq]
 ·rintro k ⟨hk,hk',hj⟩
  try simp -implicitDefEqProofs only [LM4,eq_self,zaa,zab,Nat.zero_mul,lzS,TB,SB,Int.reduceToNat,Nat.reduceAdd,Nat.reduceEqDiff,Nat.reduceLT,Nat.reduceMod,Nat.reducePow,Nat.reduceSub,if_true,reduceIte]
  by_cases h1:(k:Int) < l.length
  rotate_left
  ·rw [decide_eq_false h1]
   try simp -implicitDefEqProofs only [LM4,eq_self,zaa,zab,Nat.zero_mul,lzS,TB,SB,Int.reduceToNat,Nat.reduceAdd,Nat.reduceEqDiff,Nat.reduceLT,Nat.reduceMod,Nat.reducePow,Nat.reduceSub,if_true,reduceIte]
   refine zaI ⟨_,rfl,fun h=>?_⟩
   have:=of_decide_eq_true h
   exact⟨by omega,get_all (by omega) hj⟩
  rw [decide_eq_true h1]
  try simp -implicitDefEqProofs only [LM4,eq_self,zaa,zab,Nat.zero_mul,lzS,TB,SB,Int.reduceToNat,Nat.reduceAdd,Nat.reduceEqDiff,Nat.reduceLT,Nat.reduceMod,Nat.reducePow,Nat.reduceSub,if_true,reduceIte]
  refine⟨fun h2=>?_,fun h2=>?_⟩
  ·have hk2:k < l.length:=by omega
   repeat (with_reducible refine zbU ?_)
   refine⟨fun h3=>hno _,fun h3=>⟨by unfold inI;omega,?_⟩⟩
   rw [zak]
   refine⟨k+1,⟨by omega,by omega,fun j h=>?_⟩,by (show 142 - (k+1) < 142 - k);omega,zaj (q:=[]) rfl rfl (by decide) ?_ ?_⟩
   ·rcases Nat.lt_succ_iff_lt_or_eq.1 h with h | rfl
    ·exact hj j h
    ·omega
   ·skip
    try simp only [FB,AV.ren,Nat.reduceAdd,reduceCtorEq]
    simp [zaN,AV.ren]
   ·skip
    try simp only [FB,AV.ren,Nat.reduceAdd,reduceCtorEq]
  ·exact zaI ⟨_,rfl,fun h=>by have:=of_decide_eq_true h;omega⟩
theorem rt_app {σ:zad} {KS:AV→zad→Prop} {id n:Nat} {l:List Pt} {y:Pt} {x:AV} (hc:σ[id]?=some (.rw (l.flatMap ptC))) (hn:n=l.length) (hx:asrc σ 2 x=some ([y].flatMap ptC,1)) (g:l.length≤1000000) (hk:KS (.ref σ.length 0 (n+1) 2) (σ.set id .dead++[.rw ((l++[y]).flatMap ptC)])):zby T #[28,28] (.ref id 0 n 2) x σ KS:=by
 subst hn
 exact ptF.app rfl rfl T28 T28 (zfL _) T58 rfl rfl hc hx rfl (by omega) (by simp only [tyPt];omega) hk
theorem end_Pr {σ:zad} {a:AV} {l:List Pt} {K:AV→zad→Prop} (ids:List Nat) (h:frzA (zeF σ ids) a (slP l)) (hK:K (slP l) []):endQ 0 a σ K :=
 zfC ids (slP l) h ⟨[],slP l,[],rfl,rfl,by decide,zbn _ _,trivial,hK⟩
theorem rof_ok (l:List Pt) (hl:l.length≤1000000):ACalls Tryz.prog 12 [.sl (l.flatMap ptC) l.length] [] (fun y _=>y=.ret (slP l)):=by
 refine ACalls.body T_ok Tryz.func12 (by kernel_rfl) rfl Tryz.ntmps12 (congrArg Array.toList Tryz.results12) ?_
 try simp -implicitDefEqProofs only [LM4,eq_self,zaa,zab,Nat.zero_mul,lzS,TB,SB,Int.reduceToNat,Nat.reduceAdd,Nat.reduceEqDiff,Nat.reduceLT,Nat.reduceMod,Nat.reducePow,Nat.reduceSub,if_true,reduceIte]
 rw [zaV]
 refine⟨Nat,fun k=>k≤l.length,fun k=>[.sl (l.flatMap ptC) l.length,.bot,.lit (.slice none 0 0),.ref 0 0 k 2,i64 k,.bot,.bot,.bot,.bot,.bot,.bot,.bot,.bot,.bot,.bot,.bot,.bot,.bot,.bot,.bot,.bot,.bot,.bot,.bot,.bot,.bot],fun k=>[.rw ((l.take k).flatMap ptC)],fun k=>l.length - k,0,Nat.zero_le _,zdR 3 2 rfl (zaj (q:=[0]) rfl rfl (by decide) ?_ ?_),?_⟩
 ·try simp only [FB,AV.ren,Nat.reduceAdd,reduceCtorEq]
  simp [zaN,AV.ren]
 ·simp [zag,Blk.ren,renL]
 intro k hk
 by_cases hlt:k < l.length
 ·have dl:decide ((k:Int) < (l.length:Int))=true:=decide_eq_true (by omega)
  try simp -implicitDefEqProofs only [LM4,eq_self,zaa,zab,Nat.zero_mul,lzS,dl,TB,SB,Int.reduceToNat,Nat.reduceAdd,Nat.reduceEqDiff,Nat.reduceLT,Nat.reduceMod,Nat.reducePow,Nat.reduceSub,if_true,reduceIte]
  refine zgX [13] (by kernel_rfl) (by kernel_rfl) (by kernel_rfl) ?_
  try simp -implicitDefEqProofs only [LM4,eq_self,zaa,zab,Nat.zero_mul,lzS,TB,SB,Int.reduceToNat,Nat.reduceAdd,Nat.reduceEqDiff,Nat.reduceLT,Nat.reduceMod,Nat.reducePow,Nat.reduceSub,if_true,reduceIte]
  refine⟨by omega,by omega,Nat.le_refl _,hlt,by omega,by omega,Nat.le_refl _,hlt,?_⟩
  try simp -implicitDefEqProofs only [LM4,eq_self,zaa,zab,Nat.zero_mul,lzS,qb_P,TB,SB,Int.reduceToNat,Nat.reduceAdd,Nat.reduceEqDiff,Nat.reduceLT,Nat.reduceMod,Nat.reducePow,Nat.reduceSub,if_true,reduceIte]
  refine rt_app (l:=l.take k) (y:=l.getD k pt0) rfl (by rw [List.length_take];omega) rfl (by rw [List.length_take];omega) ?_
  rw [← zdK pt0 hlt]
  try simp -implicitDefEqProofs only [LM4,eq_self,zaa,zab,Nat.zero_mul,lzS,TB,SB,Int.reduceToNat,Nat.reduceAdd,Nat.reduceEqDiff,Nat.reduceLT,Nat.reduceMod,Nat.reducePow,Nat.reduceSub,if_true,reduceIte]
  refine⟨by unfold inI;omega,?_⟩
  rw [zak]
  refine⟨k+1,by omega,by (show l.length - (k+1) < l.length - k);omega,?_⟩
  refine zaj (q:=[1]) rfl rfl (by decide) ?_ ?_
  ·try simp only [FB,AV.ren,Nat.reduceAdd,reduceCtorEq]
   rw [zaN]
   exact⟨rfl,.inr (by omega)⟩
  ·simp [zag,Blk.ren,zaN]
 ·obtain rfl:k=l.length:=by omega
  have dl:decide ((l.length:Int) < (l.length:Int))=false:=decide_eq_false (by omega)
  try simp -implicitDefEqProofs only [LM4,eq_self,zaa,zab,Nat.zero_mul,lzS,dl,TB,SB,Int.reduceToNat,Nat.reduceAdd,Nat.reduceEqDiff,Nat.reduceLT,Nat.reduceMod,Nat.reducePow,Nat.reduceSub,if_true,reduceIte]
  exact end_Pr (l:=l) [0] (ptF.frz (by rw [List.take_length];rfl) rfl) rfl
end Go.Proofs.YtamcppdhkeiaiaaGreatDoor
end

section
namespace Go.Proofs.YtamcppdhkeiaiaaGreatDoor
open Go Go.Eng
theorem rname_ok (s:List UInt8) (hs:s.length≤1000000000):ACalls Tryz.prog 30 [str s] [] (fun y _=>y=.ret (bl (s.all isNm && decide (s≠[])))):=by
 refine ACalls.body T_ok Tryz.func30 (by kernel_rfl) rfl Tryz.ntmps30 (congrArg Array.toList Tryz.results30) ?_
 try simp -implicitDefEqProofs only [LM4,eq_self,zaa,zab,Nat.zero_mul,lzS,TB,SB,Int.reduceToNat,Nat.reduceAdd,Nat.reduceEqDiff,Nat.reduceLT,Nat.reduceMod,Nat.reducePow,Nat.reduceSub,if_true,reduceIte]
 rw [zaV]
 refine⟨Nat,fun k=>k≤nmL s,fun k=>[str s,.bot,bl false,i64 k,.bot,.bot,.bot,.bot,.bot,.bot,.bot,.bot,.bot,.bot,.bot,.bot,.bot],fun _=>[],fun k=>s.length - k,0,Nat.zero_le _,zaj (q:=[]) rfl rfl (by decide) ?_ ?_,?_⟩
 ·try simp only [FB,AV.ren,Nat.reduceAdd,reduceCtorEq]
  try exact .inr rfl
 ·try simp only [FB,AV.ren,Nat.reduceAdd,reduceCtorEq]
 intro k hk
 have hle:=zkx s
 by_cases hl:k < s.length
 ·have d0:decide ((k:Int) < (s.length:Int))=true:=decide_eq_true (by omega)
  have hst:=zfr isNm s k hk hl
  try simp -implicitDefEqProofs only [LM4,eq_self,zaa,zab,Nat.zero_mul,lzS,d0,TB,SB,Int.reduceToNat,Nat.reduceAdd,Nat.reduceEqDiff,Nat.reduceLT,Nat.reduceMod,Nat.reducePow,Nat.reduceSub,if_true,reduceIte]
  refine⟨by omega,by omega,?_⟩
  refine(named_ok _).pure (by simp [renL,zaz]) ?_
  rintro _ σ rfl
  refine⟨zap _ _,?_⟩
  rw [hst]
  by_cases hn:k < runL isNm s
  ·try simp -implicitDefEqProofs only [LM4,eq_self,zaa,zab,Nat.zero_mul,lzS,decide_eq_true hn,TB,SB,Int.reduceToNat,Nat.reduceAdd,Nat.reduceEqDiff,Nat.reduceLT,Nat.reduceMod,Nat.reducePow,Nat.reduceSub,if_true,reduceIte]
   refine⟨by unfold inI;omega,?_⟩
   rw [zak]
   refine⟨k+1,hn,by (show s.length - (k+1) < s.length - k);omega,?_⟩
   refine zaj (q:=[]) rfl rfl (by decide) ?_ ?_
   ·try simp only [FB,AV.ren,Nat.reduceAdd,reduceCtorEq]
    try exact .inr (by omega)
   ·try simp only [FB,AV.ren,Nat.reduceAdd,reduceCtorEq]
  ·try simp -implicitDefEqProofs only [LM4,eq_self,zaa,zab,Nat.zero_mul,lzS,decide_eq_false hn,TB,SB,Int.reduceToNat,Nat.reduceAdd,Nat.reduceEqDiff,Nat.reduceLT,Nat.reduceMod,Nat.reducePow,Nat.reduceSub,if_true,reduceIte]
   have hk2:k=runL isNm s:=by unfold nmL at hk;omega
   refine zaI ?_
   have:s.all isNm=false:=by
    cases ha:s.all isNm with
    | false=>rfl
    | true =>
     rw [List.all_eq_true] at ha
     have:=ha (s.getD k 0) (by rw [List.getD_eq_getElem?_getD,List.getElem?_eq_getElem hl];exact List.getElem_mem hl)
     rw [hst,decide_eq_false hn] at this
     cases this
   rw [this,Bool.false_and]
 ·have d0:decide ((k:Int) < (s.length:Int))=false:=decide_eq_false (by omega)
  try simp -implicitDefEqProofs only [LM4,eq_self,zaa,zab,Nat.zero_mul,lzS,d0,TB,SB,Int.reduceToNat,Nat.reduceAdd,Nat.reduceEqDiff,Nat.reduceLT,Nat.reduceMod,Nat.reducePow,Nat.reduceSub,if_true,reduceIte]
  refine zaI ?_
  have:s.all isNm=true:=List.all_eq_true.2 fun c hc=>zhz isNm s (nmL s) (Nat.le_refl _) c (by rw [List.take_of_length_le (by omega)];exact hc)
  rw [this,Bool.true_and]
  congr 1
  simp
end Go.Proofs.YtamcppdhkeiaiaaGreatDoor
end

section
namespace Go.Proofs.YtamcppdhkeiaiaaGreatDoor
open Go Go.Eng
theorem ziG {T:Tab} {t:TypeId} {K:AV→Prop} (x y:UInt8):wbin T .gtr t (u8 x) (u8 y) K=K (bl (decide ((y.toNat:Int) < x.toNat))):=by
 simp [wbin,u8,bl,zed,cmpV]
theorem u8_ofInt (u:Nat) (h:u < 10):UInt8.ofBitVec (BitVec.ofInt 8 (48+(u:Int)))=UInt8.ofNat (48+u):=by
 apply UInt8.toNat_inj.1
 rw [zgG h]
 show (BitVec.ofInt 8 (48+(u:Int))).toNat=_
 rw [show (48+(u:Int))=((48+u:Nat):Int) by omega,BitVec.ofInt_natCast,BitVec.toNat_ofNat]
 omega
theorem zjj:∀ (n u:Nat),u≤n→u≤999→ACalls Tryz.prog 29 [i64 u] [] (fun y _=>y=.ret (str (Lib.decDigits u)))
 | n,u,hn,h=>by
  have d0:decide ((0:Int)≤(u:Int))=true:=decide_eq_true (by omega)
  by_cases h1:u < 10
  ·refine ACalls.body T_ok Tryz.func29 (by kernel_rfl) rfl Tryz.ntmps29 (congrArg Array.toList Tryz.results29) ?_
   have d1:decide ((u:Int) < 10)=true:=decide_eq_true (by omega)
   try simp -implicitDefEqProofs only [LM4,eq_self,zaa,zab,Nat.zero_mul,lzS,d0,d1,TB,SB,Int.reduceToNat,Nat.reduceAdd,Nat.reduceEqDiff,Nat.reduceLT,Nat.reduceMod,Nat.reducePow,Nat.reduceSub,if_true,reduceIte]
   refine⟨by unfold inI;omega,?_⟩
   refine zdU ?_
   rw [u8_ofInt u h1,zjZ h1]
  ·cases n with
   | zero=>omega
   | succ n =>
    have ih:=zjj n (u / 10) (by omega) (by omega)
    refine ACalls.body T_ok Tryz.func29 (by kernel_rfl) rfl Tryz.ntmps29 (congrArg Array.toList Tryz.results29) ?_
    have d1:decide ((u:Int) < 10)=false:=decide_eq_false (by omega)
    have d2:decide ((u:Int) < 0)=false:=decide_eq_false (by omega)
    try simp -implicitDefEqProofs only [LM4,eq_self,zaa,zab,Nat.zero_mul,lzS,d0,d1,d2,TB,SB,Int.reduceToNat,Nat.reduceAdd,Nat.reduceEqDiff,Nat.reduceLT,Nat.reduceMod,Nat.reducePow,Nat.reduceSub,if_true,reduceIte]
    have em:(u:Int).tmod 10=((u % 10:Nat):Int):=rfl
    have eq:(u:Int).tdiv 10=((u / 10:Nat):Int):=rfl
    rw [em]
    refine⟨by decide,fun h=>absurd h (by omega),fun _=>?_⟩
    refine zdg (by kernel_rfl) (by kernel_rfl) ?_
    try simp -implicitDefEqProofs only [LM4,eq_self,zaa,zab,Nat.zero_mul,lzS,TB,SB,Int.reduceToNat,Nat.reduceAdd,Nat.reduceEqDiff,Nat.reduceLT,Nat.reduceMod,Nat.reducePow,Nat.reduceSub,if_true,reduceIte]
    rw [eq]
    refine⟨by decide,by unfold inI;omega,?_⟩
    refine zen (ih) (by first | rfl | simp [renL,AV.ren,zaw,zal str zai,zaz,zaA,zay,zaf,zap,zai]) (by first | rfl | simp [AEnd.noid,AV.ren,renL,zaw,zaz,zaA,zay,zaf,zap,zai]) ?_
    try simp -implicitDefEqProofs only [LM4,eq_self,zaa,zab,Nat.zero_mul,lzS,TB,SB,Int.reduceToNat,Nat.reduceAdd,Nat.reduceEqDiff,Nat.reduceLT,Nat.reduceMod,Nat.reducePow,Nat.reduceSub,if_true,reduceIte]
    have hl:(Lib.decDigits (u / 10)).length≤20:=by rw [Lib.decDigits_length];exact Nat.le_trans (zj5 18 _ (by omega)) (by decide)
    try simp -implicitDefEqProofs only [LM4,eq_self,zaa,zab,Nat.zero_mul,lzS,u8_ofInt (u % 10) (by omega),TB,SB,Int.reduceToNat,Nat.reduceAdd,Nat.reduceEqDiff,Nat.reduceLT,Nat.reduceMod,Nat.reducePow,Nat.reduceSub,if_true,reduceIte]
    refine⟨by unfold inI;omega,by simp;omega,?_⟩
    exact zdU (by rw [zj0 (show 10≤u by omega)])
def ziH (d:List UInt8):Int:=match numD d with
 | some u=>(u:Int)
 | none=>-1
theorem digV_take {d:List UInt8} {k:Nat} (h:k < d.length):digV 0 (d.take (k+1))=10 * digV 0 (d.take k)+((d.getD k 0).toNat - 48):=by
 have gen:∀ (a:List UInt8) (n:Nat) (c:UInt8),digV n (a++[c])=10 * digV n a+(c.toNat - 48):=by
  intro a
  induction a with
  | nil=>intro n c;rw [List.nil_append,zfs,zdW,zdW]
  | cons x a ih=>intro n c;rw [List.cons_append,zfs,ih,zfs]
 rw [zdK 0 h,gen]
theorem digV_lt (d:List UInt8) (k:Nat) (hd:∀ j,j < k→isDg (d.getD j 0)=true) (hk:k≤d.length):digV 0 (d.take k) < 10 ^ k:=by
 induction k with
 | zero=>rw [List.take_zero,zdW];decide
 | succ k ih =>
  have:=ih (fun j hj=>hd j (by omega)) (by omega)
  have h9:=isDg_iff.1 (hd k (by omega))
  rw [digV_take (by omega),Nat.pow_succ]
  omega
theorem zjk (d:List UInt8):ACalls Tryz.prog 23 [str d] [] (fun y _=>y=.ret (i64 (ziH d))):=by
 have hno:numB d=false→ziH d=-1:=fun h=>by rw [ziH,numD,if_neg (by rw [h];decide)]
 have hnb:¬ (d≠[]∧d.length≤3∧¬ (1 < d.length∧d.head?=some 48))→numB d=false:=fun h=>by rw [numB,decide_eq_false h,Bool.false_and]
 refine ACalls.body T_ok Tryz.func23 (by kernel_rfl) rfl Tryz.ntmps23 (congrArg Array.toList Tryz.results23) ?_
 by_cases h0:d=[]
 ·try simp -implicitDefEqProofs only [LM4,eq_self,zaa,zab,Nat.zero_mul,lzS,decide_eq_true h0,TB,SB,Int.reduceToNat,Nat.reduceAdd,Nat.reduceEqDiff,Nat.reduceLT,Nat.reduceMod,Nat.reducePow,Nat.reduceSub,if_true,reduceIte]
  exact zcs (by rw [hno (hnb (fun h=>h.1 h0))])
 have e0:=decide_eq_false h0
 have hp:=List.length_pos_iff.2 h0
 by_cases h3:3 < (d.length:Int)
 ·try simp -implicitDefEqProofs only [LM4,eq_self,zaa,zab,Nat.zero_mul,lzS,e0,decide_eq_true h3,TB,SB,Int.reduceToNat,Nat.reduceAdd,Nat.reduceEqDiff,Nat.reduceLT,Nat.reduceMod,Nat.reducePow,Nat.reduceSub,if_true,reduceIte]
  exact zcs (by rw [hno (hnb (fun h=>by omega))])
 have e3:=decide_eq_false h3
 have hh:d.head?=some (d.getD 0 0):=by
  cases d with
  | nil=>exact absurd rfl h0
  | cons c r=>rfl
 have hd0:(1 < (d.length:Int)∧d.getD 0 0=UInt8.ofNat 48) ↔ (1 < d.length∧d.head?=some 48):=by
  rw [hh]
  exact⟨fun h=>⟨by omega,congrArg some h.2⟩,fun h=>⟨by omega,Option.some.inj h.2⟩⟩
 by_cases h1:1 < d.length∧d.head?=some 48
 ·obtain⟨g1,g2⟩:=hd0.2 h1
  try simp -implicitDefEqProofs only [LM4,eq_self,zaa,zab,Nat.zero_mul,lzS,e0,e3,decide_eq_true g1,TB,SB,Int.reduceToNat,Nat.reduceAdd,Nat.reduceEqDiff,Nat.reduceLT,Nat.reduceMod,Nat.reducePow,Nat.reduceSub,if_true,reduceIte]
  refine⟨by decide,by omega,fun _=>?_,fun h=>absurd g2 h⟩
  exact zcs (by rw [hno (hnb (fun h=>h.2.2 h1))])
 have goal:∀ K:AEnd→zad→Prop,K (.ret (i64 (ziH d))) []→True:=fun _ _=>trivial
 have hb:numB d=d.all isDg:=by rw [numB,decide_eq_true (show d≠[]∧d.length≤3∧¬ (1 < d.length∧d.head?=some 48) from ⟨h0,by omega,h1⟩),Bool.true_and]
 by_cases g1:1 < (d.length:Int)
 case' pos =>
  have g2:¬ d.getD 0 0=UInt8.ofNat 48:=fun e=>h1 (hd0.1 ⟨g1,e⟩)
  try simp -implicitDefEqProofs only [LM4,eq_self,zaa,zab,Nat.zero_mul,lzS,e0,e3,decide_eq_true g1,TB,SB,Int.reduceToNat,Nat.reduceAdd,Nat.reduceEqDiff,Nat.reduceLT,Nat.reduceMod,Nat.reducePow,Nat.reduceSub,if_true,reduceIte]
  refine⟨by decide,by omega,fun h=>absurd h g2,fun _=>?_⟩
 case' neg =>
  try simp -implicitDefEqProofs only [LM4,eq_self,zaa,zab,Nat.zero_mul,lzS,e0,e3,decide_eq_false g1,TB,SB,Int.reduceToNat,Nat.reduceAdd,Nat.reduceEqDiff,Nat.reduceLT,Nat.reduceMod,Nat.reducePow,Nat.reduceSub,if_true,reduceIte]
 all_goals
  rw [zaV]
  refine⟨Nat,fun k=>k≤d.length∧∀ j,j < k→isDg (d.getD j 0)=true,fun k=>[str d,.bot,i64 0,i64 (digV 0 (d.take k):Nat),i64 k,.bot,.bot,.bot,.bot,.bot,.bot,.bot,.bot,.bot,.bot,.bot,.bot,.bot,.bot,.bot,.bot,.bot,.bot,.bot,.bot,.bot,.bot,.bot,.bot,.bot,.bot,.bot,.bot,.bot,.bot,.bot,.bot,.bot,.bot,.bot,.bot,.bot,.bot,.bot,.bot,.bot,.bot],fun _=>[],fun k=>d.length - k,0,⟨Nat.zero_le _,fun j h=>absurd h (Nat.not_lt_zero _)⟩,zaj (q:=[]) rfl rfl (by decide) ?_ ?_,?_⟩
  ·try simp only [FB,AV.ren,Nat.reduceAdd,reduceCtorEq]
   exact⟨.inr (by rw [List.take_zero,zdW];rfl),.inr rfl⟩
  ·try simp only [FB,AV.ren,Nat.reduceAdd,reduceCtorEq]
  rintro k ⟨hk,hj⟩
  have h10:=digV_lt d k hj hk
  have h1000:10 ^ k≤10 ^ 3:=Nat.pow_le_pow_right (by decide) (by omega)
  by_cases hlt:k < d.length
  ·have dl:decide ((k:Int) < (d.length:Int))=true:=decide_eq_true (by omega)
   have e48:((UInt8.ofNat 48).toNat:Int)=48:=rfl
   have e57:((UInt8.ofNat 57).toNat:Int)=57:=rfl
   have hall:¬ isDg (d.getD k 0)=true→d.all isDg=false:=fun hn=>by
    cases ha:d.all isDg with
    | false=>rfl
    | true =>
     rw [List.all_eq_true] at ha
     exact absurd (ha (d.getD k 0) (by rw [List.getD_eq_getElem?_getD,List.getElem?_eq_getElem hlt];exact List.getElem_mem hlt)) hn
   by_cases c1:((d.getD k 0).toNat:Int) < (UInt8.ofNat 48).toNat
   ·have dc:=decide_eq_true c1
    try simp -implicitDefEqProofs only [LM4,eq_self,zaa,zab,Nat.zero_mul,lzS,dl,TB,SB,Int.reduceToNat,Nat.reduceAdd,Nat.reduceEqDiff,Nat.reduceLT,Nat.reduceMod,Nat.reducePow,Nat.reduceSub,if_true,reduceIte]
    refine⟨by omega,by omega,?_⟩
    rw [dc]
    try simp -implicitDefEqProofs only [LM4,eq_self,zaa,zab,Nat.zero_mul,lzS,TB,SB,Int.reduceToNat,Nat.reduceAdd,Nat.reduceEqDiff,Nat.reduceLT,Nat.reduceMod,Nat.reducePow,Nat.reduceSub,if_true,reduceIte]
    exact zcs (by rw [hno (by rw [hb];exact hall (fun h=>by have:=isDg_iff.1 h;omega))])
   have dc:=decide_eq_false c1
   by_cases c2:((UInt8.ofNat 57).toNat:Int) < (d.getD k 0).toNat
   ·have dc2:=decide_eq_true c2
    try simp -implicitDefEqProofs only [LM4,eq_self,zaa,zab,Nat.zero_mul,lzS,dl,TB,SB,Int.reduceToNat,Nat.reduceAdd,Nat.reduceEqDiff,Nat.reduceLT,Nat.reduceMod,Nat.reducePow,Nat.reduceSub,if_true,reduceIte]
    refine⟨by omega,by omega,?_⟩
    rw [dc]
    try simp -implicitDefEqProofs only [LM4,eq_self,zaa,zab,Nat.zero_mul,lzS,ziG,dc2,TB,SB,Int.reduceToNat,Nat.reduceAdd,Nat.reduceEqDiff,Nat.reduceLT,Nat.reduceMod,Nat.reducePow,Nat.reduceSub,if_true,reduceIte]
    refine⟨by omega,by omega,?_⟩
    exact zcs (by rw [hno (by rw [hb];exact hall (fun h=>by have:=isDg_iff.1 h;omega))])
   have dc2:=decide_eq_false c2
   try simp -implicitDefEqProofs only [LM4,eq_self,zaa,zab,Nat.zero_mul,lzS,dl,TB,SB,Int.reduceToNat,Nat.reduceAdd,Nat.reduceEqDiff,Nat.reduceLT,Nat.reduceMod,Nat.reducePow,Nat.reduceSub,if_true,reduceIte]
   refine⟨by omega,by omega,?_⟩
   rw [dc]
   try simp -implicitDefEqProofs only [LM4,eq_self,zaa,zab,Nat.zero_mul,lzS,ziG,dc2,TB,SB,Int.reduceToNat,Nat.reduceAdd,Nat.reduceEqDiff,Nat.reduceLT,Nat.reduceMod,Nat.reducePow,Nat.reduceSub,if_true,reduceIte]
   have hc:isDg (d.getD k 0)=true:=isDg_iff.2 (by omega)
   have hs:((d.getD k 0 - UInt8.ofNat 48).toNat:Int)=(((d.getD k 0).toNat - 48:Nat):Int):=by
    rw [UInt8.toNat_sub_of_le _ _ (by rw [UInt8.le_iff_toNat_le];omega)]
    rfl
   have ht:=digV_take hlt
   have h9:=isDg_iff.1 hc
   rw [hs]
   refine⟨by omega,by omega,by unfold inI;omega,by omega,by omega,by unfold inI;omega,by unfold inI;omega,?_⟩
   rw [zak]
   refine⟨k+1,⟨by omega,fun j h=>?_⟩,by (show d.length - (k+1) < d.length - k);omega,zaj (q:=[]) rfl rfl (by decide) ?_ ?_⟩
   ·rcases Nat.lt_succ_iff_lt_or_eq.1 h with h | rfl
    ·exact hj j h
    ·exact hc
   ·skip
    try simp only [FB,AV.ren,Nat.reduceAdd,reduceCtorEq]
    exact⟨.inr (by rw [ht];omega),.inr (by omega)⟩
   ·skip
    try simp only [FB,AV.ren,Nat.reduceAdd,reduceCtorEq]
  ·obtain rfl:k=d.length:=by omega
   have dl:decide ((d.length:Int) < (d.length:Int))=false:=decide_eq_false (by omega)
   try simp -implicitDefEqProofs only [LM4,eq_self,zaa,zab,Nat.zero_mul,lzS,dl,TB,SB,Int.reduceToNat,Nat.reduceAdd,Nat.reduceEqDiff,Nat.reduceLT,Nat.reduceMod,Nat.reducePow,Nat.reduceSub,if_true,reduceIte]
   refine zcs ?_
   have ha:d.all isDg=true:=List.all_eq_true.2 fun c hc=>by
    obtain⟨j,hj2,rfl⟩:=List.getElem_of_mem hc
    have:=hj j hj2
    rwa [List.getD_eq_getElem?_getD,List.getElem?_eq_getElem hj2] at this
   rw [ziH,numD,hb,ha,if_pos rfl,List.take_length]
end Go.Proofs.YtamcppdhkeiaiaaGreatDoor
end

section
namespace Go.Proofs.YtamcppdhkeiaiaaGreatDoor
open Go Go.Eng
theorem clL_91 (r:List UInt8):clL (91::r)=clL r+1:=by rw [clL,runL,if_pos (by decide)];rfl
theorem zjl (s:List UInt8) (a k:Nat):(s.take (a+k)).drop a=(s.drop a).take k:=by rw [List.drop_take,Nat.add_sub_cancel_left]
theorem rnumI_neg (d:List UInt8):(ziH d < 0)=(numD d=none):=by
 unfold ziH
 cases numD d with
 | none=>simp
 | some u=>simp
theorem zjm (s:List UInt8) (p k:Nat):(s.drop p).getD k 0=s.getD (p+k) 0:=by
 simp [List.getD_eq_getElem?_getD,List.getElem?_drop]
theorem rpath_ok (s:List UInt8) (hs:s.length≤9223372036854775807):ACalls Tryz.prog 9 [str s] [] (fun y _=>y=.ret (.tup [slP (zci s).1,i64 (zci s).2])):=by
 obtain⟨X,hX⟩:∃ X,X=zci s:=⟨_,rfl⟩
 rw [← hX]
 refine ACalls.body T_ok Tryz.func9 (by kernel_rfl) rfl Tryz.ntmps9 (congrArg Array.toList Tryz.results9) ?_
 by_cases h0:120 < (s.length:Int)
 ·have d0:=decide_eq_true h0
  try simp -implicitDefEqProofs only [LM4,eq_self,zaa,zab,Nat.zero_mul,lzS,d0,TB,SB,Int.reduceToNat,Nat.reduceAdd,Nat.reduceEqDiff,Nat.reduceLT,Nat.reduceMod,Nat.reducePow,Nat.reduceSub,if_true,reduceIte]
  exact ziC (l:=[]) [] zhm (by rw [hX,zci,if_pos (by omega)])
 have d0:=decide_eq_false h0
 have hX2:X=match zev [] s with | some l=>(l,0) | none=>([],9):=by
  rw [hX,zci,if_neg (by omega),zev]
  cases hp:parP s.length true s with
  | none=>simp [hp]
  | some l=>simp [hp]
 try simp -implicitDefEqProofs only [LM4,eq_self,zaa,zab,Nat.zero_mul,lzS,d0,TB,SB,Int.reduceToNat,Nat.reduceAdd,Nat.reduceEqDiff,Nat.reduceLT,Nat.reduceMod,Nat.reducePow,Nat.reduceSub,if_true,reduceIte]
 rw [zaV]
 refine⟨List Pt × Nat,fun x=>zev [] s=zev x.1 (s.drop x.2)∧x.2≤s.length∧x.1.length≤x.2∧x.1.isEmpty=decide (x.2=0),fun x=>[str s,.bot,.lit (.slice none 0 0),i64 0,.ref 0 0 x.1.length 2,i64 x.2,.bot,.bot,.bot,.bot,.bot,.bot,.bot,.bot,.bot,.bot,.bot,.bot,.bot,.bot,.bot,.bot,.bot,.bot,.bot,.bot,.bot,.bot,.bot,.bot,.bot,.bot,.bot,.bot,.bot,.bot,.bot,.bot,.bot,.bot,.bot,.bot,.bot,.bot,.bot,.bot,.bot,.bot,.bot,.bot,.bot,.bot,.bot,.bot,.bot,.bot,.bot,.bot,.bot,.bot,.bot,.bot,.bot,.bot,.bot,.bot,.bot,.bot,.bot,.bot,.bot,.bot,.bot,.bot,.bot,.bot,.bot,.bot,.bot,.bot,.bot,.bot,.bot,.bot,.bot,.bot,.bot,.bot,.bot,.bot,.bot],fun x=>[.rw (x.1.flatMap ptC)],fun x=>s.length - x.2,([],0),⟨rfl,Nat.zero_le _,Nat.zero_le _,rfl⟩,zdR 4 2 rfl (zaj (q:=[0]) rfl rfl (by decide) ?_ ?_),?_⟩
 ·try simp only [FB,AV.ren,Nat.reduceAdd,reduceCtorEq]
  try exact .inr rfl
 ·simp [zag,Blk.ren,renL]
 rintro⟨l,p⟩ ⟨hc,hp,hl,he⟩
 dsimp only at hc hp hl he ⊢
 by_cases hlt:p < s.length
 rotate_left
 ·obtain rfl:p=s.length:=by omega
  have dl:decide ((s.length:Int) < (s.length:Int))=false:=decide_eq_false (by omega)
  try simp -implicitDefEqProofs only [LM4,eq_self,zaa,zab,Nat.zero_mul,lzS,dl,TB,SB,Int.reduceToNat,Nat.reduceAdd,Nat.reduceEqDiff,Nat.reduceLT,Nat.reduceMod,Nat.reducePow,Nat.reduceSub,if_true,reduceIte]
  exact ziC (l:=l) [0] (ptF.frz rfl rfl) (by rw [hX2,hc,List.drop_length,contP_nil])
 have dl:decide ((p:Int) < (s.length:Int))=true:=decide_eq_true (by omega)
 have hd:=zbv hlt
 try simp -implicitDefEqProofs only [LM4,eq_self,zaa,zab,Nat.zero_mul,lzS,dl,TB,SB,Int.reduceToNat,Nat.reduceAdd,Nat.reduceEqDiff,Nat.reduceLT,Nat.reduceMod,Nat.reducePow,Nat.reduceSub,if_true,reduceIte]
 refine⟨by omega,by omega,?_⟩
 rw [show UInt8.ofNat 91=91 from rfl]
 refine⟨fun h1=>?_,fun h1=>?_⟩
 ·rw [h1] at hd
  have hn:zdo (s.drop p) l.isEmpty=numV (s.drop (p+1)):=by rw [hd,zdo,if_pos rfl]
  have hcl:clL (s.drop p)=clL (s.drop (p+1))+1:=by rw [hd,clL_91]
  have hcr:=clL_le (s.drop (p+1))
  rw [List.length_drop] at hcr
  rw [zaV]
  refine⟨Nat,fun k=>k≤clL (s.drop p),fun k=>[str s,.bot,.lit (.slice none 0 0),i64 0,.ref 0 0 l.length 2,i64 p,i64 (p+k:Nat),.bot,.bot,.bot,.bot,.bot,.bot,.bot,.bot,.bot,.bot,.bot,.bot,.bot,.bot,.bot,.bot,.bot,.bot,.bot,.bot,.bot,.bot,.bot,.bot,.bot,.bot,.bot,.bot,.bot,.bot,.bot,.bot,.bot,.bot,.bot,.bot,.bot,.bot,.bot,.bot,.bot,.bot,.bot,.bot,.bot,.bot,.bot,.bot,.bot,.bot,.bot,.bot,.bot,.bot,.bot,.bot,.bot,.bot,.bot,.bot,.bot,.bot,.bot,.bot,.bot,.bot,.bot,.bot,.bot,.bot,.bot,.bot,.bot,.bot,.bot,.bot,.bot,.bot,.bot,.bot,.bot,.bot,.bot,.bot],fun _=>[.rw (l.flatMap ptC)],fun k=>s.length - (p+k),0,Nat.zero_le _,zaj (q:=[0]) rfl rfl (by decide) ?_ ?_,?_⟩
  ·try simp only [FB,AV.ren,Nat.reduceAdd,reduceCtorEq]
   try exact .inr rfl
  ·simp [zag,Blk.ren,zaN]
  intro k hk
  by_cases hin:p+k < s.length
  rotate_left
  ·have d1:decide (((p+k:Nat):Int) < (s.length:Int))=false:=decide_eq_false (by omega)
   have d2:decide (((p+k:Nat):Int)=(s.length:Int))=true:=decide_eq_true (by omega)
   try simp -implicitDefEqProofs only [LM4,eq_self,zaa,zab,Nat.zero_mul,lzS,d1,d2,TB,SB,Int.reduceToNat,Nat.reduceAdd,Nat.reduceEqDiff,Nat.reduceLT,Nat.reduceMod,Nat.reducePow,Nat.reduceSub,if_true,reduceIte]
   exact ziC (l:=[]) [] zhm (by rw [hX2,hc,zgI (by rw [hn,numV,if_neg (by rw [List.length_drop];omega)]) (by rw [hd];exact List.cons_ne_nil _ _)])
  have d1:decide (((p+k:Nat):Int) < (s.length:Int))=true:=decide_eq_true (by omega)
  have d2:decide (((p+k:Nat):Int)=(s.length:Int))=false:=decide_eq_false (by omega)
  have hst:=zfr (fun c=>c != 93) (s.drop p) k hk (by rw [List.length_drop];omega)
  rw [zjm] at hst
  by_cases hkc:k < clL (s.drop p)
  ·have h93:¬ s.getD (p+k) 0=UInt8.ofNat 93:=fun e=>by
    rw [show runL (fun c=>c != 93) (s.drop p)=clL (s.drop p) from rfl,decide_eq_true hkc,e] at hst
    exact absurd hst (by decide)
   try simp -implicitDefEqProofs only [LM4,eq_self,zaa,zab,Nat.zero_mul,lzS,d1,TB,SB,Int.reduceToNat,Nat.reduceAdd,Nat.reduceEqDiff,Nat.reduceLT,Nat.reduceMod,Nat.reducePow,Nat.reduceSub,if_true,reduceIte]
   refine⟨by omega,by omega,?_⟩
   refine⟨fun _=>⟨by unfold inI;omega,?_⟩,fun h=>absurd h h93⟩
   rw [zak]
   refine⟨k+1,hkc,by (show s.length - (p+(k+1)) < s.length - (p+k));omega,zaj (q:=[0]) rfl rfl (by decide) ?_ ?_⟩
   ·try simp only [FB,AV.ren,Nat.reduceAdd,reduceCtorEq]
    exact .inr (by omega)
   ·simp [zag,Blk.ren,zaN]
  ·have h93:s.getD (p+k) 0=UInt8.ofNat 93:=by
    rw [show runL (fun c=>c != 93) (s.drop p)=clL (s.drop p) from rfl,decide_eq_false hkc] at hst
    simpa using hst
   try simp -implicitDefEqProofs only [LM4,eq_self,zaa,zab,Nat.zero_mul,lzS,d1,TB,SB,Int.reduceToNat,Nat.reduceAdd,Nat.reduceEqDiff,Nat.reduceLT,Nat.reduceMod,Nat.reducePow,Nat.reduceSub,if_true,reduceIte]
   refine⟨by omega,by omega,?_⟩
   refine⟨fun h=>absurd h93 h,fun _=>?_⟩
   rw [d2]
   try simp -implicitDefEqProofs only [LM4,eq_self,zaa,zab,Nat.zero_mul,lzS,TB,SB,Int.reduceToNat,Nat.reduceAdd,Nat.reduceEqDiff,Nat.reduceLT,Nat.reduceMod,Nat.reducePow,Nat.reduceSub,if_true,reduceIte]
   refine⟨by unfold inI;omega,by omega,by omega,by omega,?_⟩
   obtain⟨c,hce⟩:∃ c,c=clL (s.drop (p+1)):=⟨_,rfl⟩
   rw [← hce] at hcl hcr
   have hk1:p+k=(p+1)+c:=by omega
   have hdt:(s.take (p+k)).drop ((p:Int)+1).toNat=(s.drop (p+1)).take c:=by
    rw [show ((p:Int)+1).toNat=p+1 by omega,hk1,zjl]
   rw [hdt]
   refine(zjk _).pure (by simp [renL,zai]) ?_
   rintro _ σ rfl
   refine⟨zaf _ _,?_⟩
   have hnv:numV (s.drop (p+1))=(numD ((s.drop (p+1)).take c)).map fun (u:Nat)=>((⟨[],(u:Int)⟩:Pt),s.drop (p+k+1)):=by
    rw [numV,← hce,if_pos (by rw [List.length_drop];omega),List.drop_drop,show p+1+(c+1)=p+k+1 by omega]
   have hrn:=rnumI_neg ((s.drop (p+1)).take c)
   cases hnd:numD ((s.drop (p+1)).take c) with
   | none =>
    have dn:decide (ziH ((s.drop (p+1)).take c) < 0)=true:=decide_eq_true (by rw [hrn];exact hnd)
    try simp -implicitDefEqProofs only [LM4,eq_self,zaa,zab,Nat.zero_mul,lzS,dn,TB,SB,Int.reduceToNat,Nat.reduceAdd,Nat.reduceEqDiff,Nat.reduceLT,Nat.reduceMod,Nat.reducePow,Nat.reduceSub,if_true,reduceIte]
    refine ziC (l:=[]) [] zhm ?_
    rw [hX2,hc,zgI (by rw [hn,hnv,hnd];rfl) (by rw [hd];exact List.cons_ne_nil _ _)]
   | some u =>
    have dn:decide (ziH ((s.drop (p+1)).take c) < 0)=false:=decide_eq_false (by rw [hrn,hnd];simp)
    try simp -implicitDefEqProofs only [LM4,eq_self,zaa,zab,Nat.zero_mul,lzS,dn,TB,SB,Int.reduceToNat,Nat.reduceAdd,Nat.reduceEqDiff,Nat.reduceLT,Nat.reduceMod,Nat.reducePow,Nat.reduceSub,if_true,reduceIte]
    refine⟨by unfold inI;omega,by omega,by omega,by omega,?_⟩
    rw [hdt]
    refine(zjk _).pure (by simp [renL,zai]) ?_
    rintro _ σ rfl
    refine⟨zaf _ _,?_⟩
    rw [show ziH ((s.drop (p+1)).take c)=(u:Int) by rw [ziH,hnd]]
    try simp -implicitDefEqProofs only [LM4,eq_self,zaa,zab,Nat.zero_mul,lzS,bs_P,TB,SB,Int.reduceToNat,Nat.reduceAdd,Nat.reduceEqDiff,Nat.reduceLT,Nat.reduceMod,Nat.reducePow,Nat.reduceSub,if_true,reduceIte]
    refine rt_app (l:=l) (y:=⟨[],u⟩) rfl rfl rfl (by omega) ?_
    try simp -implicitDefEqProofs only [LM4,eq_self,zaa,zab,Nat.zero_mul,lzS,TB,SB,Int.reduceToNat,Nat.reduceAdd,Nat.reduceEqDiff,Nat.reduceLT,Nat.reduceMod,Nat.reducePow,Nat.reduceSub,if_true,reduceIte]
    have hns:zdo (s.drop p) l.isEmpty=some (⟨[],(u:Int)⟩,s.drop (p+k+1)):=by rw [hn,hnv,hnd];rfl
    refine⟨by unfold inI;omega,?_⟩
    rw [zak]
    refine⟨(l++[⟨[],u⟩],p+k+1),⟨?_,by (show p+k+1≤s.length);omega,by (show (l++[_]).length≤p+k+1);rw [List.length_append,List.length_cons,List.length_nil];omega,?_⟩,by (show s.length - (p+k+1) < s.length - p);omega,?_⟩
    ·show zev [] s=zev (l++[⟨[],u⟩]) (s.drop (p+k+1))
     rw [hc,zhe hns (by rw [hd];exact List.cons_ne_nil _ _)]
    ·show (l++[_]).isEmpty=decide (p+k+1=0)
     rw [decide_eq_false (by omega)]
     cases l <;> rfl
    refine zaj (q:=[2]) rfl rfl (by decide) ?_ ?_
    ·try simp only [FB,AV.ren,Nat.reduceAdd,reduceCtorEq]
     exact⟨by rw [List.length_append,List.length_cons,List.length_nil],.inr (by omega)⟩
    ·simp only [zag,Blk.ren,zaN,List.getElem?_cons_zero,List.getElem?_cons_succ]
     simp [zaN]
 ·have hb:∃ b,b≤s.length∧p≤b∧True:=⟨p,hp,Nat.le_refl _,trivial⟩
  by_cases hp0:0 < (p:Int)
  case' pos =>
   have hem:l.isEmpty=false:=by rw [he];exact decide_eq_false (by omega)
   refine⟨fun _=>⟨by omega,by omega,fun h2=>?_,fun h2=>⟨by unfold inI;omega,?_⟩⟩,fun h=>absurd hp0 h⟩
   ·refine ziC (l:=[]) [] zhm ?_
    rw [hX2,hc,zgI (by rw [hd,zdo,if_neg h1,hem,if_neg (by decide),if_neg (show ¬ s.getD p 0=46 from h2)]) (by rw [hd];exact List.cons_ne_nil _ _)]
   have hnx:zdo (s.drop p) l.isEmpty=zft (s.drop (p+1)):=by rw [hd,zdo,if_neg h1,hem,if_neg (by decide),if_pos (show s.getD p 0=46 from h2)]
   rw [show (p:Int)+1=((p+1:Nat):Int) by omega]
   obtain⟨b,hbe⟩:∃ b,b=p+1:=⟨_,rfl⟩
   rw [← hbe] at hnx ⊢
   have hb1:b≤s.length:=by omega
   have hb2:p≤b:=by omega
  case' neg =>
   have hem:l.isEmpty=true:=by rw [he];exact decide_eq_true (by omega)
   refine⟨fun h=>absurd h hp0,fun _=>?_⟩
   have hnx0:zdo (s.drop p) l.isEmpty=zft (s.drop p):=by rw [hem,hd,zdo,if_neg h1,if_pos rfl]
   obtain⟨b,hbe⟩:∃ b,b=p:=⟨_,rfl⟩
   have hnx:zdo (s.drop p) l.isEmpty=zft (s.drop b):=by rw [hbe];exact hnx0
   rw [← hbe]
   have hb1:b≤s.length:=by omega
   have hb2:p≤b:=by omega
  all_goals
   have hmle:=zkx (s.drop b)
   rw [List.length_drop] at hmle
   rw [zaV]
   refine⟨Nat,fun k=>k≤nmL (s.drop b),fun k=>[str s,.bot,.lit (.slice none 0 0),i64 0,.ref 0 0 l.length 2,i64 b,.bot,i64 (b+k:Nat),.bot,.bot,.bot,.bot,.bot,.bot,.bot,.bot,.bot,.bot,.bot,.bot,.bot,.bot,.bot,.bot,.bot,.bot,.bot,.bot,.bot,.bot,.bot,.bot,.bot,.bot,.bot,.bot,.bot,.bot,.bot,.bot,.bot,.bot,.bot,.bot,.bot,.bot,.bot,.bot,.bot,.bot,.bot,.bot,.bot,.bot,.bot,.bot,.bot,.bot,.bot,.bot,.bot,.bot,.bot,.bot,.bot,.bot,.bot,.bot,.bot,.bot,.bot,.bot,.bot,.bot,.bot,.bot,.bot,.bot,.bot,.bot,.bot,.bot,.bot,.bot,.bot,.bot,.bot,.bot,.bot,.bot,.bot],fun _=>[.rw (l.flatMap ptC)],fun k=>s.length - (b+k),0,Nat.zero_le _,zaj (q:=[0]) rfl rfl (by decide) ?_ ?_,?_⟩
   ·try simp only [FB,AV.ren,Nat.reduceAdd,reduceCtorEq]
    try exact .inr rfl
   ·simp [zag,Blk.ren,zaN]
   intro k hk
   have stop:¬ (b+k < s.length∧k < nmL (s.drop b))→k=nmL (s.drop b):=fun h=>by omega
   by_cases hin:b+k < s.length
   case' neg =>
    have d1:decide (((b+k:Nat):Int) < (s.length:Int))=false:=decide_eq_false (by omega)
    have hke:k=nmL (s.drop b):=by omega
    try simp -implicitDefEqProofs only [LM4,eq_self,zaa,zab,Nat.zero_mul,lzS,d1,TB,SB,Int.reduceToNat,Nat.reduceAdd,Nat.reduceEqDiff,Nat.reduceLT,Nat.reduceMod,Nat.reducePow,Nat.reduceSub,if_true,reduceIte]
   case' pos =>
    have d1:decide (((b+k:Nat):Int) < (s.length:Int))=true:=decide_eq_true (by omega)
    have hst:=zfr isNm (s.drop b) k hk (by rw [List.length_drop];omega)
    rw [zjm] at hst
    try simp -implicitDefEqProofs only [LM4,eq_self,zaa,zab,Nat.zero_mul,lzS,d1,TB,SB,Int.reduceToNat,Nat.reduceAdd,Nat.reduceEqDiff,Nat.reduceLT,Nat.reduceMod,Nat.reducePow,Nat.reduceSub,if_true,reduceIte]
    refine⟨by omega,by omega,?_⟩
    refine(named_ok _).pure (by simp [renL,zaz]) ?_
    rintro _ σ rfl
    refine⟨zap _ _,?_⟩
    rw [hst]
    by_cases hkc:k < nmL (s.drop b)
    case pos =>
     rw [show decide (k < runL isNm (s.drop b))=true from decide_eq_true hkc]
     try simp -implicitDefEqProofs only [LM4,eq_self,zaa,zab,Nat.zero_mul,lzS,TB,SB,Int.reduceToNat,Nat.reduceAdd,Nat.reduceEqDiff,Nat.reduceLT,Nat.reduceMod,Nat.reducePow,Nat.reduceSub,if_true,reduceIte]
     refine⟨by unfold inI;omega,?_⟩
     rw [zak]
     refine⟨k+1,hkc,by (show s.length - (b+(k+1)) < s.length - (b+k));omega,zaj (q:=[0]) rfl rfl (by decide) ?_ ?_⟩
     ·try simp only [FB,AV.ren,Nat.reduceAdd,reduceCtorEq]
      exact .inr (by omega)
     ·simp [zag,Blk.ren,zaN]
    case' neg =>
     rw [show decide (k < runL isNm (s.drop b))=false from decide_eq_false hkc]
     have hke:k=nmL (s.drop b):=by omega
     try simp -implicitDefEqProofs only [LM4,eq_self,zaa,zab,Nat.zero_mul,lzS,TB,SB,Int.reduceToNat,Nat.reduceAdd,Nat.reduceEqDiff,Nat.reduceLT,Nat.reduceMod,Nat.reducePow,Nat.reduceSub,if_true,reduceIte]
   all_goals
    refine⟨fun h0=>?_,fun h0=>⟨by omega,by omega,by omega,?_⟩⟩
    ·refine ziC (l:=[]) [] zhm ?_
     rw [hX2,hc,zgI (by rw [hnx,zft,if_neg (by omega)]) (by rw [hd];exact List.cons_ne_nil _ _)]
    rw [zjl]
    try simp -implicitDefEqProofs only [LM4,eq_self,zaa,zab,Nat.zero_mul,lzS,bs_P,TB,SB,Int.reduceToNat,Nat.reduceAdd,Nat.reduceEqDiff,Nat.reduceLT,Nat.reduceMod,Nat.reducePow,Nat.reduceSub,if_true,reduceIte]
    refine rt_app (l:=l) (y:=⟨(s.drop b).take k,-1⟩) rfl rfl rfl (by omega) ?_
    try simp -implicitDefEqProofs only [LM4,eq_self,zaa,zab,Nat.zero_mul,lzS,TB,SB,Int.reduceToNat,Nat.reduceAdd,Nat.reduceEqDiff,Nat.reduceLT,Nat.reduceMod,Nat.reducePow,Nat.reduceSub,if_true,reduceIte]
    have hns:zdo (s.drop p) l.isEmpty=some (⟨(s.drop b).take k,-1⟩,s.drop (b+k)):=by
     rw [hnx,zft,← hke,if_pos (by omega),List.drop_drop]
    rw [zak]
    refine⟨(l++[⟨(s.drop b).take k,-1⟩],b+k),⟨?_,by (show b+k≤s.length);omega,by (show (l++[_]).length≤b+k);rw [List.length_append,List.length_cons,List.length_nil];omega,?_⟩,by (dsimp only;omega),?_⟩
    ·show zev [] s=zev (l++[⟨(s.drop b).take k,-1⟩]) (s.drop (b+k))
     rw [hc,zhe hns (by rw [hd];exact List.cons_ne_nil _ _)]
    ·show (l++[_]).isEmpty=decide (b+k=0)
     rw [decide_eq_false (by omega)]
     cases l <;> rfl
    refine zaj (q:=[2]) rfl rfl (by decide) ?_ ?_
    ·try simp only [FB,AV.ren,Nat.reduceAdd,reduceCtorEq]
     first | exact⟨by rw [List.length_append,List.length_cons,List.length_nil],.inr rfl⟩ | (rw [List.length_append,List.length_cons,List.length_nil])
    ·simp only [zag,Blk.ren,zaN,List.getElem?_cons_zero,List.getElem?_cons_succ]
     simp [zaN]
end Go.Proofs.YtamcppdhkeiaiaaGreatDoor
end

section
namespace Go.Proofs.YtamcppdhkeiaiaaGreatDoor
open Go Go.Eng
theorem zjn:∀ (a b:List Pt) (f:Bool),shP f (a++b)=shP f a++shP (f && a.isEmpty) b
 | [],b,f=>by simp [shP]
 | x::a,b,f=>by
  rw [List.cons_append,shP,zjn a b false,shP,List.append_assoc]
  simp
theorem shP_pre (l:List Pt) (k:Nat):(shP true (l.take k)).length≤(shP true l).length:=by
 have h:=zjn (l.take k) (l.drop k) true
 rw [List.take_append_drop] at h
 rw [h,List.length_append]
 omega
theorem rshow_ok (l:List Pt) (hl:l.length≤9223372036854775807) (h:∀ x∈l,inI x.pos∧x.key.length≤100000):ACalls Tryz.prog 11 [.sl (l.flatMap ptC) l.length] [] (fun y _=>y=.ret (.tup [str (zfP l).1,i64 (zfP l).2])):=by
 have hbad:∀ x∈l,okP x=false→zfP l=([],9):=fun x hx hk=>by
  rw [zfP,if_neg (fun e=>by have:=List.all_eq_true.1 e.1 x hx;rw [hk] at this;cases this)]
 have hbig:120 < (shP true l).length→zfP l=([],9):=fun hx=>by rw [zfP,if_neg (fun e=>by omega)]
 have hgood:(∀ x∈l,okP x=true)→(shP true l).length≤120→zfP l=(shP true l,0):=fun h1 h2=>by rw [zfP,if_pos ⟨List.all_eq_true.2 h1,h2⟩]
 generalize zfP l=X at hbad hbig hgood ⊢
 refine ACalls.body T_ok Tryz.func11 (by kernel_rfl) rfl Tryz.ntmps11 (congrArg Array.toList Tryz.results11) ?_
 try simp -implicitDefEqProofs only [LM4,eq_self,zaa,zab,Nat.zero_mul,lzS,TB,SB,Int.reduceToNat,Nat.reduceAdd,Nat.reduceEqDiff,Nat.reduceLT,Nat.reduceMod,Nat.reducePow,Nat.reduceSub,if_true,reduceIte]
 rw [zaV]
 refine⟨Nat,fun k=>k≤l.length∧∀ j,j < k→okP (l.getD j pt0)=true,fun k=>[.sl (l.flatMap ptC) l.length,.bot,str [],i64 0,str (shP true (l.take k)),i64 k,.bot,.bot,.bot,.bot,.bot,.bot,.bot,.bot,.bot,.bot,.bot,.bot,.bot,.bot,.bot,.bot,.bot,.bot,.bot,.bot,.bot,.bot,.bot,.bot,.bot,.bot,.bot,.bot,.bot,.bot,.bot,.bot,.bot,.bot,.bot,.bot,.bot,.bot,.bot,.bot,.bot,.bot,.bot,.bot,.bot,.bot,.bot,.bot,.bot,.bot,.bot,.bot,.bot,.bot,.bot,.bot,.bot,.bot,.bot,.bot,.bot,.bot,.bot,.bot,.bot,.bot,.bot,.bot,.bot,.bot,.bot,.bot,.bot],fun _=>[],fun k=>l.length - k,0,⟨Nat.zero_le _,fun j hj=>absurd hj (Nat.not_lt_zero _)⟩,zaj (q:=[]) rfl rfl (by decide) ?_ ?_,?_⟩
 ·try simp only [FB,AV.ren,Nat.reduceAdd,reduceCtorEq]
  exact⟨by rw [zaN];rfl,.inr rfl,.inr rfl⟩
 ·try simp only [FB,AV.ren,Nat.reduceAdd,reduceCtorEq]
 rintro k ⟨hk,hok⟩
 have hpre:=shP_pre l k
 by_cases hlt:k < l.length
 rotate_left
 ·obtain rfl:k=l.length:=by omega
  have dl:decide ((l.length:Int) < (l.length:Int))=false:=decide_eq_false (by omega)
  try simp -implicitDefEqProofs only [LM4,eq_self,zaa,zab,Nat.zero_mul,lzS,dl,List.take_length,TB,SB,Int.reduceToNat,Nat.reduceAdd,Nat.reduceEqDiff,Nat.reduceLT,Nat.reduceMod,Nat.reducePow,Nat.reduceSub,if_true,reduceIte]
  refine⟨fun hb=>zat (by simp [AV.ren,renL,zai,zaf]) (by rw [hbig (by omega)]),fun hb=>zat (by simp [AV.ren,renL,zai,zaf]) (by rw [hgood (get_all (Nat.le_refl _) hok) (by omega)])⟩
 have dl:decide ((k:Int) < (l.length:Int))=true:=decide_eq_true (by omega)
 by_cases hbg:((shP true (l.take k)).length:Int)≤120
 rotate_left
 ·have db:decide (((shP true (l.take k)).length:Int)≤120)=false:=decide_eq_false hbg
  try simp -implicitDefEqProofs only [LM4,eq_self,zaa,zab,Nat.zero_mul,lzS,dl,db,TB,SB,Int.reduceToNat,Nat.reduceAdd,Nat.reduceEqDiff,Nat.reduceLT,Nat.reduceMod,Nat.reducePow,Nat.reduceSub,if_true,reduceIte]
  refine⟨fun _=>zat (by simp [AV.ren,renL,zai,zaf]) (by rw [hbig (by omega)]),fun hb=>absurd (show 120 < ((shP true (l.take k)).length:Int) by omega) hb⟩
 have db:decide (((shP true (l.take k)).length:Int)≤120)=true:=decide_eq_true hbg
 have hm2:l.getD k pt0∈l:=by rw [List.getD_eq_getElem?_getD,List.getElem?_eq_getElem hlt];exact List.getElem_mem _
 have hxk:=h _ hm2
 have hst:=zj7 hlt
 obtain⟨x,hx⟩:∃ x,x=l.getD k pt0:=⟨_,rfl⟩
 rw [← hx] at hm2 hxk hst
 have hnn:∀ o,okP o=false→o=x→X=([],9):=fun o ho he=>hbad x hm2 (by rw [← he];exact ho)
 have i20:=itoa_le hxk.1
 by_cases hA:x.key=[]∧0≤x.pos∧x.pos≤999
 ·obtain⟨a1,a2,a3⟩:=hA
  have e1:=decide_eq_true a1
  have e2:=decide_eq_true a2
  have e3:=decide_eq_true a3
  try simp -implicitDefEqProofs only [LM4,eq_self,zaa,zab,Nat.zero_mul,lzS,dl,db,← hx,TB,SB,Int.reduceToNat,Nat.reduceAdd,Nat.reduceEqDiff,Nat.reduceLT,Nat.reduceMod,Nat.reducePow,Nat.reduceSub,if_true,reduceIte]
  refine⟨by omega,by omega,Nat.le_refl _,hlt,?_⟩
  rw [e1]
  try simp -implicitDefEqProofs only [LM4,eq_self,zaa,zab,Nat.zero_mul,lzS,← hx,TB,SB,Int.reduceToNat,Nat.reduceAdd,Nat.reduceEqDiff,Nat.reduceLT,Nat.reduceMod,Nat.reducePow,Nat.reduceSub,if_true,reduceIte]
  refine⟨by omega,by omega,Nat.le_refl _,hlt,?_⟩
  rw [e2]
  try simp -implicitDefEqProofs only [LM4,eq_self,zaa,zab,Nat.zero_mul,lzS,← hx,TB,SB,Int.reduceToNat,Nat.reduceAdd,Nat.reduceEqDiff,Nat.reduceLT,Nat.reduceMod,Nat.reducePow,Nat.reduceSub,if_true,reduceIte]
  refine⟨by omega,by omega,Nat.le_refl _,hlt,?_⟩
  refine⟨fun _=>⟨by omega,by omega,by omega,Nat.le_refl _,hlt,?_⟩,fun h=>absurd a3 h⟩
  obtain⟨u,hu⟩:∃ u:Nat,x.pos=u:=⟨x.pos.toNat,by omega⟩
  rw [hu]
  refine(zjj u u (Nat.le_refl _) (by omega)).pure (by simp [renL,zaf]) ?_
  rintro _ σ rfl
  refine⟨zai _ _,?_⟩
  have hok1:okP x=true:=by
   simp only [okP,Bool.or_eq_true,Bool.and_eq_true,decide_eq_true_eq]
   exact .inl ⟨a1,a2,a3⟩
  have hpx:ptX (decide ((k:Int)=0)) x=91::(Lib.decDigits u++[93]):=by rw [ptX_num (by omega),hu,zhB]
  rw [hu,zhB] at i20
  try simp -implicitDefEqProofs only [LM4,eq_self,zaa,zab,Nat.zero_mul,lzS,TB,SB,Int.reduceToNat,Nat.reduceAdd,Nat.reduceEqDiff,Nat.reduceLT,Nat.reduceMod,Nat.reducePow,Nat.reduceSub,if_true,reduceIte]
  refine⟨by simp;omega,by simp;omega,by unfold inI;omega,?_⟩
  rw [zak]
  refine⟨k+1,⟨by omega,fun j h=>?_⟩,by (show l.length - (k+1) < l.length - k);omega,zaj (q:=[]) rfl rfl (by decide) ?_ ?_⟩
  ·rcases Nat.lt_succ_iff_lt_or_eq.1 h with h | rfl
   ·exact hok j h
   ·rw [← hx];exact hok1
  ·skip
   try simp only [FB,AV.ren,Nat.reduceAdd,reduceCtorEq]
   rw [zaN]
   exact⟨rfl,.inr (by rw [hst,hpx];simp),.inr (by omega)⟩
  ·try simp only [FB,AV.ren,Nat.reduceAdd,reduceCtorEq]
 have go:∀ (b:Bool),True:=fun _=>trivial
 by_cases a1:x.key=[]
 case' neg =>
  have e1:=decide_eq_false a1
  try simp -implicitDefEqProofs only [LM4,eq_self,zaa,zab,Nat.zero_mul,lzS,dl,db,← hx,TB,SB,Int.reduceToNat,Nat.reduceAdd,Nat.reduceEqDiff,Nat.reduceLT,Nat.reduceMod,Nat.reducePow,Nat.reduceSub,if_true,reduceIte]
  refine⟨by omega,by omega,Nat.le_refl _,hlt,?_⟩
  rw [e1]
  try simp -implicitDefEqProofs only [LM4,eq_self,zaa,zab,Nat.zero_mul,lzS,← hx,TB,SB,Int.reduceToNat,Nat.reduceAdd,Nat.reduceEqDiff,Nat.reduceLT,Nat.reduceMod,Nat.reducePow,Nat.reduceSub,if_true,reduceIte]
 case' pos =>
  have e1:=decide_eq_true a1
  by_cases a2:0≤x.pos
  case' neg =>
   have e2:=decide_eq_false a2
   try simp -implicitDefEqProofs only [LM4,eq_self,zaa,zab,Nat.zero_mul,lzS,dl,db,← hx,TB,SB,Int.reduceToNat,Nat.reduceAdd,Nat.reduceEqDiff,Nat.reduceLT,Nat.reduceMod,Nat.reducePow,Nat.reduceSub,if_true,reduceIte]
   refine⟨by omega,by omega,Nat.le_refl _,hlt,?_⟩
   rw [e1]
   try simp -implicitDefEqProofs only [LM4,eq_self,zaa,zab,Nat.zero_mul,lzS,← hx,TB,SB,Int.reduceToNat,Nat.reduceAdd,Nat.reduceEqDiff,Nat.reduceLT,Nat.reduceMod,Nat.reducePow,Nat.reduceSub,if_true,reduceIte]
   refine⟨by omega,by omega,Nat.le_refl _,hlt,?_⟩
   rw [e2]
   try simp -implicitDefEqProofs only [LM4,eq_self,zaa,zab,Nat.zero_mul,lzS,← hx,TB,SB,Int.reduceToNat,Nat.reduceAdd,Nat.reduceEqDiff,Nat.reduceLT,Nat.reduceMod,Nat.reducePow,Nat.reduceSub,if_true,reduceIte]
  case' pos =>
   have e2:=decide_eq_true a2
   have e3:decide (x.pos≤999)=false:=decide_eq_false (fun a3=>hA ⟨a1,a2,a3⟩)
   try simp -implicitDefEqProofs only [LM4,eq_self,zaa,zab,Nat.zero_mul,lzS,dl,db,← hx,TB,SB,Int.reduceToNat,Nat.reduceAdd,Nat.reduceEqDiff,Nat.reduceLT,Nat.reduceMod,Nat.reducePow,Nat.reduceSub,if_true,reduceIte]
   refine⟨by omega,by omega,Nat.le_refl _,hlt,?_⟩
   rw [e1]
   try simp -implicitDefEqProofs only [LM4,eq_self,zaa,zab,Nat.zero_mul,lzS,← hx,TB,SB,Int.reduceToNat,Nat.reduceAdd,Nat.reduceEqDiff,Nat.reduceLT,Nat.reduceMod,Nat.reducePow,Nat.reduceSub,if_true,reduceIte]
   refine⟨by omega,by omega,Nat.le_refl _,hlt,?_⟩
   rw [e2]
   try simp -implicitDefEqProofs only [LM4,eq_self,zaa,zab,Nat.zero_mul,lzS,← hx,TB,SB,Int.reduceToNat,Nat.reduceAdd,Nat.reduceEqDiff,Nat.reduceLT,Nat.reduceMod,Nat.reducePow,Nat.reduceSub,if_true,reduceIte]
   refine⟨by omega,by omega,Nat.le_refl _,hlt,?_⟩
   refine⟨fun h=>absurd ⟨a1,a2,h⟩ hA,fun _=>?_⟩
 all_goals
  refine⟨by omega,by omega,Nat.le_refl _,hlt,?_⟩
  by_cases hp:x.pos=-1
  rotate_left
  ·rw [decide_eq_false hp]
   try simp -implicitDefEqProofs only [LM4,eq_self,zaa,zab,Nat.zero_mul,lzS,TB,SB,Int.reduceToNat,Nat.reduceAdd,Nat.reduceEqDiff,Nat.reduceLT,Nat.reduceMod,Nat.reducePow,Nat.reduceSub,if_true,reduceIte]
   refine zat (by simp [AV.ren,renL,zai,zaf]) ?_
   rw [hnn x ?_ rfl]
   simp only [okP,Bool.or_eq_false_iff,Bool.and_eq_false_iff,decide_eq_false_iff_not]
   exact⟨(Classical.em (x.key=[])).elim (fun b1=>.inr (fun b2=>hA ⟨b1,b2⟩)) .inl,.inl hp⟩
  rw [decide_eq_true hp]
  try simp -implicitDefEqProofs only [LM4,eq_self,zaa,zab,Nat.zero_mul,lzS,← hx,TB,SB,Int.reduceToNat,Nat.reduceAdd,Nat.reduceEqDiff,Nat.reduceLT,Nat.reduceMod,Nat.reducePow,Nat.reduceSub,if_true,reduceIte]
  refine⟨by omega,by omega,Nat.le_refl _,hlt,?_⟩
  refine(rname_ok x.key (by omega)).pure (by simp [renL,zai]) ?_
  rintro _ σ rfl
  refine⟨zap _ _,?_⟩
  cases hnm:(x.key.all isNm && decide (x.key≠[])) with
  | false =>
   try simp -implicitDefEqProofs only [LM4,eq_self,zaa,zab,Nat.zero_mul,lzS,TB,SB,Int.reduceToNat,Nat.reduceAdd,Nat.reduceEqDiff,Nat.reduceLT,Nat.reduceMod,Nat.reducePow,Nat.reduceSub,if_true,reduceIte]
   refine zat (by simp [AV.ren,renL,zai,zaf]) ?_
   rw [hnn x ?_ rfl]
   simp only [okP,Bool.or_eq_false_iff,Bool.and_eq_false_iff,decide_eq_false_iff_not]
   refine⟨.inr (fun b2=>by omega),.inr ?_⟩
   simp only [Bool.and_eq_false_iff,decide_eq_false_iff_not] at hnm
   exact hnm.symm
  | true =>
   have hok1:okP x=true:=by
    simp only [Bool.and_eq_true,decide_eq_true_eq] at hnm
    simp only [okP,Bool.or_eq_true,Bool.and_eq_true,decide_eq_true_eq]
    exact .inr ⟨hp,hnm.2,hnm.1⟩
   have hpx:ptX (decide ((k:Int)=0)) x=if decide ((k:Int)=0)=true then x.key else 46::x.key:=zj6 hp
   by_cases hk0:0 < (k:Int)
   ·have ek:=decide_eq_true hk0
    rw [if_neg (by rw [decide_eq_false (by omega)];decide)] at hpx
    try simp -implicitDefEqProofs only [LM4,eq_self,zaa,zab,Nat.zero_mul,lzS,ek,← hx,TB,SB,Int.reduceToNat,Nat.reduceAdd,Nat.reduceEqDiff,Nat.reduceLT,Nat.reduceMod,Nat.reducePow,Nat.reduceSub,if_true,reduceIte]
    refine⟨by omega,by omega,by omega,Nat.le_refl _,hlt,by rw [List.length_append,List.length_cons,List.length_nil];omega,by unfold inI;omega,?_⟩
    rw [zak]
    refine⟨k+1,⟨by omega,fun j h=>?_⟩,by (show l.length - (k+1) < l.length - k);omega,zaj (q:=[]) rfl rfl (by decide) ?_ ?_⟩
    ·rcases Nat.lt_succ_iff_lt_or_eq.1 h with h | rfl
     ·exact hok j h
     ·rw [← hx];exact hok1
    ·skip
     try simp only [FB,AV.ren,Nat.reduceAdd,reduceCtorEq]
     rw [zaN]
     exact⟨rfl,.inr (by first | (rw [hst,hpx];done) | (rw [hst,hpx];simp)),.inr (by omega)⟩
    ·try simp only [FB,AV.ren,Nat.reduceAdd,reduceCtorEq]
   ·have ek:=decide_eq_false hk0
    rw [if_pos (decide_eq_true (by omega))] at hpx
    try simp -implicitDefEqProofs only [LM4,eq_self,zaa,zab,Nat.zero_mul,lzS,ek,← hx,TB,SB,Int.reduceToNat,Nat.reduceAdd,Nat.reduceEqDiff,Nat.reduceLT,Nat.reduceMod,Nat.reducePow,Nat.reduceSub,if_true,reduceIte]
    refine⟨by omega,by omega,Nat.le_refl _,hlt,by omega,by unfold inI;omega,?_⟩
    rw [zak]
    refine⟨k+1,⟨by omega,fun j h=>?_⟩,by (show l.length - (k+1) < l.length - k);omega,zaj (q:=[]) rfl rfl (by decide) ?_ ?_⟩
    ·rcases Nat.lt_succ_iff_lt_or_eq.1 h with h | rfl
     ·exact hok j h
     ·rw [← hx];exact hok1
    ·skip
     try simp only [FB,AV.ren,Nat.reduceAdd,reduceCtorEq]
     rw [zaN]
     exact⟨rfl,.inr (by first | (rw [hst,hpx];done) | (rw [hst,hpx];simp)),.inr (by omega)⟩
    ·try simp only [FB,AV.ren,Nat.reduceAdd,reduceCtorEq]
end Go.Proofs.YtamcppdhkeiaiaaGreatDoor
end

