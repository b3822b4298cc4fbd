/-
  A path is shown; the document's own paths. No condition.
-/
import Derived.Test.YtamcppdhkeiaiaaGreatDoorPatE
import Derived.Shelf.Strings.Builder1
import Derived.Lib.AppendIntMem
set_option linter.unusedSimpArgs false
set_option linter.unusedVariables false
set_option linter.unusedSectionVars false
section
namespace Go.Proofs.YtamcppdhkeiaiaaGreatDoor
open Go Go.Eng
set_option linter.defProp false in
def LB19:=And.intro @rd_rt0 (And.intro (fun {K}=>wfa_bld1 (T:=T) (K:=K) 63 60 61 5 rfl rfl) (And.intro @len_bsl (And.intro @st_bsl (And.intro @wsd_bsl (And.intro @Wop_us (And.intro @Qop_usd (@ofVal_nilIface)))))))
def ziF:Go.Shelf.Ren:=⟨fun | 240=>42 | 276=>59 | n=>n,fun | 70=>60 | 72=>63 | 9=>9 | 4=>4 | 20=>20 | 164=>122 | 37=>61 | 5=>5 | 0=>0 | n=>n,fun | n=>n⟩
theorem lays240:Go.Proofs.Lays.n240 Tryz.prog ziF:={
 mixed:=by kernel_rfl
 f240:=Tryz.func42.trans (congrArg some (by kernel_rfl))
 f276:=Tryz.func59.trans (congrArg some (by kernel_rfl))
 t0:=Tryz.underlying0
 a0:=Tryz.isAgg0
 z0:=Tryz.sizeOf0
 v0:=Tryz.zeroValue0
 t4:=Tryz.underlying4
 a4:=Tryz.isAgg4
 z4:=Tryz.sizeOf4
 v4:=Tryz.zeroValue4
 t9:=Tryz.underlying9
 a9:=Tryz.isAgg9
 z9:=Tryz.sizeOf9
 v9:=Tryz.zeroValue9
 t20:=Tryz.underlying20
 a20:=Tryz.isAgg20
 z20:=Tryz.sizeOf20
 v20:=Tryz.zeroValue20
 t70:=Tryz.underlying60
 a70:=Tryz.isAgg60
 z70:=Tryz.sizeOf60
 v70:=Tryz.zeroValue60
 t72:=Tryz.underlying63
 a72:=Tryz.isAgg63
 z72:=Tryz.sizeOf63
 v72:=Tryz.zeroValue63
 t164:=Tryz.underlying122
 a164:=Tryz.isAgg122
 z164:=Tryz.sizeOf122
 v164:=Tryz.zeroValue122 }
theorem x72:Go.Proofs.Builder.X72 Tryz.prog ziF:={
 sizeBuilder:=by kernel_rfl
 liesBuilder:=by kernel_rfl }
theorem copyCheck_ok (u:Bool) (k n:Nat) (X:zad):ACalls Tryz.prog 42 [.ptr 0 0] (sbA 63 u 0 k n::X) (fun x σ=>x=.ret (.tup [])∧σ=sbA 63 true 0 k n::X) :=
 copyCheck_of (by kernel_rfl) (fun b w h0 h1 h2=>Any.Builder_copyCheck_fresh lays240 x72 b w h0 h1 h2) (fun b w h0=>Any.Builder_copyCheck_used lays240 x72 b w h0) u k n X
theorem bws_ok (u:Bool) (l s:List UInt8) (h:l.length+s.length≤140737488355328):ACalls Tryz.prog 25 [.ptr 0 0,str s] [sbA 63 u 0 1 l.length,sbB 5 l] (fun x σ=>x=.ret (.tup [i64 s.length,.lit .nilIface])∧σ=[sbA 63 true 0 2 (l++s).length,.dead,sbB 5 (l++s)]):=by
 refine ACalls.body T_ok Tryz.func25 (by kernel_rfl) rfl Tryz.ntmps25 (congrArg Array.toList Tryz.results25) ?_
 try simp -implicitDefEqProofs only [LM4,LB19,eq_self,zaa,zab,Nat.zero_mul,lzS,zb0 (T:=T) 63 60 61 5 rfl,TB,SB,Int.reduceToNat,Nat.reduceAdd,Nat.reduceEqDiff,Nat.reduceLT,Nat.reduceMod,Nat.reducePow,Nat.reduceSub,if_true,reduceIte]
 refine(copyCheck_ok u 1 l.length [sbB 5 l]).mono ?_
 rintro _ _ ⟨rfl,rfl⟩
 simp only [sbA,sbB]
 try simp -implicitDefEqProofs only [LM4,LB19,eq_self,zaa,zab,Nat.zero_mul,lzS,zb0 (T:=T) 63 60 61 5 rfl,TB,SB,Int.reduceToNat,Nat.reduceAdd,Nat.reduceEqDiff,Nat.reduceLT,Nat.reduceMod,Nat.reducePow,Nat.reduceSub,if_true,reduceIte]
 refine append_bsl (e:=5) rfl rfl rfl rfl tx_str rfl zia (cs:=l.map u8) (xs:=s.map u8) rfl (by simp) (asrc_str s) (zdL u8 zjd _) (zdL u8 zjd _) (by omega) (by show _ * 1≤_;omega) ?_
 try simp -implicitDefEqProofs only [LM4,LB19,eq_self,zaa,zab,Nat.zero_mul,lzS,zb0 (T:=T) 63 60 61 5 rfl,TB,SB,Int.reduceToNat,Nat.reduceAdd,Nat.reduceEqDiff,Nat.reduceLT,Nat.reduceMod,Nat.reducePow,Nat.reduceSub,if_true,reduceIte]
 refine zaH ⟨rfl,?_⟩
 simp [sbA,sbB]
end Go.Proofs.YtamcppdhkeiaiaaGreatDoor
end

section
namespace Go.Proofs.YtamcppdhkeiaiaaGreatDoor
open Go Go.Eng
set_option linter.defProp false in
def LB20:=And.intro @zbv (And.intro @zb8 (And.intro @ren_ptA (@zfA)))
set_option linter.defProp false in
def LB21:=And.intro @ren_sbA (And.intro @ren_sbB (And.intro @ren_sbF (And.intro @sbA_dead (@sbB_dead))))
theorem bstrF_ok (u:Bool) (l:List UInt8) (h:l.length≤140737488355328):ACalls Tryz.prog 27 [.ptr 0 0] [sbA 63 u 0 1 l.length,sbB 5 l] (fun x σ=>x=.ret (str l)∧σ=[sbA 63 u 0 1 l.length,sbF 5 l]):=by
 refine ACalls.body T_ok Tryz.func27 (by kernel_rfl) rfl Tryz.ntmps27 (congrArg Array.toList Tryz.results27) ?_
 simp only [sbA]
 try simp -implicitDefEqProofs only [LM4,LB19,eq_self,zaa,zab,Nat.zero_mul,lzS,zb0 (T:=T) 63 60 61 5 rfl,TB,SB,Int.reduceToNat,Nat.reduceAdd,Nat.reduceEqDiff,Nat.reduceLT,Nat.reduceMod,Nat.reducePow,Nat.reduceSub,if_true,reduceIte]
 refine zh7 [10] (by kernel_rfl) (by kernel_rfl) (by kernel_rfl) ?_
 try simp -implicitDefEqProofs only [LM4,LB19,eq_self,zaa,zab,Nat.zero_mul,lzS,zb0 (T:=T) 63 60 61 5 rfl,TB,SB,Int.reduceToNat,Nat.reduceAdd,Nat.reduceEqDiff,Nat.reduceLT,Nat.reduceMod,Nat.reducePow,Nat.reduceSub,if_true,reduceIte]
 refine wusF_ok (e:=5) rfl rfl rfl (by omega) rfl ?_
 try simp -implicitDefEqProofs only [LM4,LB19,eq_self,zaa,zab,Nat.zero_mul,lzS,zb0 (T:=T) 63 60 61 5 rfl,TB,SB,Int.reduceToNat,Nat.reduceAdd,Nat.reduceEqDiff,Nat.reduceLT,Nat.reduceMod,Nat.reducePow,Nat.reduceSub,if_true,reduceIte]
 exact zaH ⟨rfl,rfl⟩
theorem bstrG_ok (u:Bool) (l:List UInt8) (h:l.length≤140737488355328):ACalls Tryz.prog 27 [.ptr 0 0] [sbA 63 u 0 1 l.length,sbF 5 l] (fun x σ=>x=.ret (str l)∧σ=[sbA 63 u 0 1 l.length,sbF 5 l]):=by
 refine ACalls.body T_ok Tryz.func27 (by kernel_rfl) rfl Tryz.ntmps27 (congrArg Array.toList Tryz.results27) ?_
 simp only [sbA]
 try simp -implicitDefEqProofs only [LM4,LB19,eq_self,zaa,zab,Nat.zero_mul,lzS,zb0 (T:=T) 63 60 61 5 rfl,TB,SB,Int.reduceToNat,Nat.reduceAdd,Nat.reduceEqDiff,Nat.reduceLT,Nat.reduceMod,Nat.reducePow,Nat.reduceSub,if_true,reduceIte]
 refine zh7 [10] (by kernel_rfl) (by kernel_rfl) (by kernel_rfl) ?_
 try simp -implicitDefEqProofs only [LM4,LB19,eq_self,zaa,zab,Nat.zero_mul,lzS,zb0 (T:=T) 63 60 61 5 rfl,TB,SB,Int.reduceToNat,Nat.reduceAdd,Nat.reduceEqDiff,Nat.reduceLT,Nat.reduceMod,Nat.reducePow,Nat.reduceSub,if_true,reduceIte]
 refine wusG_ok (e:=5) rfl rfl rfl (by omega) rfl ?_
 try simp -implicitDefEqProofs only [LM4,LB19,eq_self,zaa,zab,Nat.zero_mul,lzS,zb0 (T:=T) 63 60 61 5 rfl,TB,SB,Int.reduceToNat,Nat.reduceAdd,Nat.reduceEqDiff,Nat.reduceLT,Nat.reduceMod,Nat.reducePow,Nat.reduceSub,if_true,reduceIte]
 exact zaH ⟨rfl,rfl⟩
theorem nDig_le:∀ (k u:Nat),u < 10 ^ (k+1)→Lib.nDigits u≤k+1
 | 0,u,h=>by rw [Lib.nDigits,dif_pos (by omega)];exact Nat.le_refl _
 | k+1,u,h=>by
  rw [Lib.nDigits]
  split
  ·omega
  ·have:=nDig_le k (u / 10) (by rw [Nat.pow_succ] at h;omega)
   omega
theorem itoa_le {n:Int} (hn:inI n):(Lib.itoa n).length≤20:=by
 unfold inI at hn
 unfold Lib.itoa
 split
 ·rw [List.length_cons,Lib.decDigits_length]
  have:=nDig_le 18 n.natAbs (by omega)
  omega
 ·rw [Lib.decDigits_length]
  have:=nDig_le 18 n.toNat (by omega)
  omega
theorem Itoa_ok (n:Int) (hn:inI n):ACalls Tryz.prog 43 [i64 n] [] (fun x _=>x=.ret (str (Lib.itoa n))) :=
 zgB 4 powT rfl (by kernel_rfl) fun w O m vs hp hr=>by
  simp only [reps,i64,rep] at hr
  obtain⟨v,r,e1,rfl,rfl⟩:=hr
  have ev:vs=#[.int .i64 n]:=by
   apply Array.ext'
   simpa using e1
  subst ev
  obtain⟨e,f,hp⟩:=hp
  unfold inI at hn
  have htab : Go.Lib.TabIs Tryz.prog w "internal/strconv.uint64pow10" .u64 Go.Lib.pow10Tab := by
   show World.var? _ _ _=_
   unfold World.var?
   rw [show Program.globalNamed Tryz.prog "internal/strconv.uint64pow10" = some 4 by kernel_rfl, Option.bind_some, hp]
   rfl
  refine(Go.Proofs.Tryz.strconv_Itoa n (by omega) (by omega) w htab).mono ?_
  rintro e w' ⟨rfl,k,os,rfl⟩
  exact⟨⟨_,rfl,fun w' O m=>by simp only [str,rep]⟩,Go.Lib.below_grow _ _ (Nat.le_refl _) _ _⟩
theorem ptX_name {x:Pt} {f:Bool} (h:x.pos=-1):ptX f x=if f=true then x.key else 46::x.key:=by
 unfold ptX
 rw [if_neg (fun k=>k h)]
theorem ptX_num {x:Pt} {f:Bool} (h:x.pos≠-1):ptX f x=91::(Lib.itoa x.pos++[93]):=by
 unfold ptX
 rw [if_pos h]
theorem pstext_ok (x:Pt) (f:Bool) (hx:inI x.pos) (hk:x.key.length≤1000000000):ACalls Tryz.prog 26 [ptA x,bl f] [] (fun y _=>y=.ret (str (ptX f x))):=by
 rw [zeV]
 refine ACalls.body T_ok Tryz.func26 (by kernel_rfl) rfl Tryz.ntmps26 (congrArg Array.toList Tryz.results26) ?_
 by_cases hp:x.pos=-1
 ·have dp:=decide_eq_true hp
  try simp -implicitDefEqProofs only [LM4,LB19,eq_self,zaa,zab,Nat.zero_mul,lzS,zb0 (T:=T) 63 60 61 5 rfl,dp,TB,SB,Int.reduceToNat,Nat.reduceAdd,Nat.reduceEqDiff,Nat.reduceLT,Nat.reduceMod,Nat.reducePow,Nat.reduceSub,if_true,reduceIte]
  cases f with
  | true =>
   try simp -implicitDefEqProofs only [LM4,LB19,eq_self,zaa,zab,Nat.zero_mul,lzS,zb0 (T:=T) 63 60 61 5 rfl,TB,SB,Int.reduceToNat,Nat.reduceAdd,Nat.reduceEqDiff,Nat.reduceLT,Nat.reduceMod,Nat.reducePow,Nat.reduceSub,if_true,reduceIte]
   exact zfy (by rw [ptX_name hp,if_pos rfl])
  | false =>
   try simp -implicitDefEqProofs only [LM4,LB19,eq_self,zaa,zab,Nat.zero_mul,lzS,zb0 (T:=T) 63 60 61 5 rfl,TB,SB,Int.reduceToNat,Nat.reduceAdd,Nat.reduceEqDiff,Nat.reduceLT,Nat.reduceMod,Nat.reducePow,Nat.reduceSub,if_true,reduceIte]
   exact⟨by omega,zfy (by rw [ptX_name hp,if_neg (by decide)])⟩
 ·have dp:=decide_eq_false hp
  try simp -implicitDefEqProofs only [LM4,LB19,eq_self,zaa,zab,Nat.zero_mul,lzS,zb0 (T:=T) 63 60 61 5 rfl,dp,TB,SB,Int.reduceToNat,Nat.reduceAdd,Nat.reduceEqDiff,Nat.reduceLT,Nat.reduceMod,Nat.reducePow,Nat.reduceSub,if_true,reduceIte]
  refine(Itoa_ok _ hx).pure (by simp [renL,zag]) ?_
  rintro _ σ rfl
  refine⟨zai _ _,?_⟩
  have:=itoa_le hx
  try simp -implicitDefEqProofs only [LM4,LB19,eq_self,zaa,zab,Nat.zero_mul,lzS,zb0 (T:=T) 63 60 61 5 rfl,TB,SB,Int.reduceToNat,Nat.reduceAdd,Nat.reduceEqDiff,Nat.reduceLT,Nat.reduceMod,Nat.reducePow,Nat.reduceSub,if_true,reduceIte]
  exact⟨by omega,by omega,zfy (by rw [ptX_num hp])⟩
theorem shP_snoc:∀ (l:List Pt) (f:Bool) (x:Pt),shP f (l++[x])=shP f l++ptX (f && l.isEmpty) x
 | [],f,x=>by simp [shP]
 | y::r,f,x=>by
  rw [List.cons_append,shP,shP_snoc r false x,shP,List.append_assoc]
  simp
theorem shP_take {l:List Pt} {k:Nat} (h:k < l.length):shP true (l.take (k+1))=shP true (l.take k)++ptX (decide ((k:Int)=0)) (l.getD k pt0):=by
 rw [List.take_succ_eq_append_getElem h,shP_snoc,List.getD_eq_getElem?_getD,List.getElem?_eq_getElem h,Bool.true_and]
 congr 2
 cases k with
 | zero=>rfl
 | succ k =>
  cases l with
  | nil=>simp at h
  | cons y r=>simp;omega
theorem ptX_le {x:Pt} {f:Bool} (hx:inI x.pos) {n:Nat} (hk:x.key.length≤n):(ptX f x).length≤n+22:=by
 have:=itoa_le hx
 unfold ptX
 split
 ·simp only [List.length_cons,List.length_append,List.length_nil];omega
 ·split
  ·omega
  ·simp only [List.length_cons];omega
theorem ziG (l:List Pt) (n:Nat) (h:∀ x∈l,inI x.pos∧x.key.length≤n):∀ k,k≤l.length→(shP true (l.take k)).length≤k * (n+22)
 | 0,_=>by simp [shP]
 | k+1,hk=>by
  have ih:=ziG l n h k (by omega)
  have hm:l.getD k pt0∈l:=by rw [List.getD_eq_getElem?_getD,List.getElem?_eq_getElem (show k < l.length by omega)];exact List.getElem_mem _
  have:=ptX_le (f:=decide ((k:Int)=0)) (h _ hm).1 (h _ hm).2
  rw [shP_take (by omega),List.length_append,Nat.succ_mul]
  omega
theorem ziH (s:List UInt8):(zcz s).1.length≤120:=by
 by_cases h:(zcz s).2=0
 ·have hp:zcz s=((zcz s).1,0):=Prod.ext rfl h
  obtain⟨g1,g2,g3⟩:=zfB hp
  have:=shP_len (zcz s).1 true (List.all_eq_true.1 g2)
  rw [← g1] at this
  omega
 ·rw [pathV_bad h];simp
theorem PShow_ok (l:List Pt) (hl:l.length≤9223372036854775807) (h:∀ x∈l,inI x.pos∧x.key.length≤100000):ACalls Tryz.prog 10 [.sl (l.flatMap ptC) l.length] [] (fun y _=>y=.ret (.tup [str (zkP l).1,i64 (zkP l).2])):=by
 have hX:=showP_eq l
 generalize zkP l=X at hX ⊢
 refine ACalls.body T_ok Tryz.func10 (by kernel_rfl) rfl Tryz.ntmps10 (congrArg Array.toList Tryz.results10) ?_
 by_cases h0:120 < (l.length:Int)
 ·have d0:=decide_eq_true h0
  try simp -implicitDefEqProofs only [LM4,LB19,eq_self,zaa,zab,Nat.zero_mul,lzS,zb0 (T:=T) 63 60 61 5 rfl,d0,TB,SB,Int.reduceToNat,Nat.reduceAdd,Nat.reduceEqDiff,Nat.reduceLT,Nat.reduceMod,Nat.reducePow,Nat.reduceSub,if_true,reduceIte]
  refine zax (by simp [AV.ren,renL,zai,zag]) ?_
  rw [hX,if_neg (fun e=>?_)]
  obtain⟨e1,e2,e3⟩:=zfB e
  have:=shP_len l true (List.all_eq_true.1 e2)
  omega
 have d0:=decide_eq_false h0
 try simp -implicitDefEqProofs only [LM4,LB19,eq_self,zaa,zab,Nat.zero_mul,lzS,zb0 (T:=T) 63 60 61 5 rfl,d0,TB,SB,Int.reduceToNat,Nat.reduceAdd,Nat.reduceEqDiff,Nat.reduceLT,Nat.reduceMod,Nat.reducePow,Nat.reduceSub,if_true,reduceIte]
 rw [zbe]
 refine⟨Nat × Bool,fun p=>p.1≤l.length,fun p=>[.sl (l.flatMap ptC) l.length,.bot,str [],i64 0,.ptr 0 0,.bot,.bot,.bot,.bot,.bot,.bot,.bot,.sl (l.flatMap ptC) l.length,i64 l.length,i64 p.1,.bot,.bot,.bot,.bot,.bot,.bot,.bot,.bot,.bot,.bot,.bot,.bot,.bot,.bot,.bot,.bot,.bot,.bot,.bot,.bot,.bot,.bot,.bot,.bot],fun p=>[sbA 63 p.2 0 1 (shP true (l.take p.1)).length,sbB 5 (shP true (l.take p.1))],fun p=>l.length - p.1,(0,false),Nat.zero_le _,?_,?_⟩
 ·refine zct ?_
  try simp only [LB3,List.getElem?_cons_zero,true_and,and_true,or_true,true_or,reduceCtorEq,false_or]
  try exact .inr rfl
 ·rintro⟨k,u⟩ hk
  simp only at hk
  have hle:=ziG l 100000 h k hk
  have hm:k * (100000+22)≤120 * (100000+22):=Nat.mul_le_mul_right _ (by omega)
  by_cases hlt:k < l.length
  ·have dl:decide ((k:Int) < (l.length:Int))=true:=decide_eq_true (by omega)
   try simp -implicitDefEqProofs only [LM4,LB19,eq_self,zaa,zab,Nat.zero_mul,lzS,zb0 (T:=T) 63 60 61 5 rfl,dl,TB,SB,Int.reduceToNat,Nat.reduceAdd,Nat.reduceEqDiff,Nat.reduceLT,Nat.reduceMod,Nat.reducePow,Nat.reduceSub,if_true,reduceIte]
   refine⟨by omega,by omega,Nat.le_refl _,hlt,?_⟩
   have hm2:l.getD k pt0∈l:=by rw [List.getD_eq_getElem?_getD,List.getElem?_eq_getElem hlt];exact List.getElem_mem _
   have hxk:=h _ hm2
   have hpl:=ptX_le (f:=decide ((k:Int)=0)) hxk.1 hxk.2
   have e1:=shP_take hlt
   refine(pstext_ok (l.getD k pt0) (decide ((k:Int)=0)) hxk.1 (by omega)).pure (by simp [renL,AV.ren,ptA,ptC,zai,zag,zao]) ?_
   rintro _ σ rfl
   refine⟨zai _ _,?_⟩
   try simp -implicitDefEqProofs only [LM4,LB19,eq_self,zaa,zab,Nat.zero_mul,lzS,zb0 (T:=T) 63 60 61 5 rfl,TB,SB,Int.reduceToNat,Nat.reduceAdd,Nat.reduceEqDiff,Nat.reduceLT,Nat.reduceMod,Nat.reducePow,Nat.reduceSub,if_true,reduceIte]
   refine ACalls.frame ([0,1]) (bws_ok u (shP true (l.take k)) (ptX (decide ((k:Int)=0)) (l.getD k pt0)) (by omega)) rfl (by decide) (by simp [LM1,LB20,LB21,zah,zae,renL,AV.ren,AEnd.ren,zaf,mbF.fren,zac,List.getElem?_cons_zero,List.getElem?_cons_succ]) (by first | rfl | simp [LM1,LB20,LB21,zah,zae,renL,AV.ren,AEnd.ren,zaf,mbF.fren,zac,List.getElem?_cons_zero,List.getElem?_cons_succ]) ?_
   rintro _ _ ⟨rfl,rfl⟩
   refine⟨.ret (.tup [i64 (ptX (decide ((k:Int)=0)) (l.getD k pt0)).length,.lit .nilIface]),[sbA 63 true 0 3 (shP true (l.take k)++ptX (decide ((k:Int)=0)) (l.getD k pt0)).length,.dead,.rw [str (l.getD k pt0).key,i64 (l.getD k pt0).pos],sbB 5 (shP true (l.take k)++ptX (decide ((k:Int)=0)) (l.getD k pt0))],(by show zae _ _ ([0,1,3,2]) ([0,1,3,2]) 0 _;simp [LM1,LB20,LB21,zah,zae,renL,AV.ren,AEnd.ren,zaf,mbF.fren,zac,List.getElem?_cons_zero,List.getElem?_cons_succ]),(by show AEnd.ren ([0,1,3,2]) _ _;first | rfl | simp [LM1,LB20,LB21,zah,zae,renL,AV.ren,AEnd.ren,zaf,mbF.fren,zac,List.getElem?_cons_zero,List.getElem?_cons_succ]),?_⟩
   try simp -implicitDefEqProofs only [LM4,LB19,eq_self,zaa,zab,Nat.zero_mul,lzS,zb0 (T:=T) 63 60 61 5 rfl,TB,SB,Int.reduceToNat,Nat.reduceAdd,Nat.reduceEqDiff,Nat.reduceLT,Nat.reduceMod,Nat.reducePow,Nat.reduceSub,if_true,reduceIte]
   refine⟨by unfold inI;omega,?_⟩
   rw [zal]
   refine⟨(k+1,true),by (show k+1≤l.length);omega,by (show l.length - (k+1) < l.length - k);omega,?_⟩
   rw [← e1]
   refine zaj (q:=[0,3]) rfl rfl (by decide) ?_ ?_
   ·try simp only [FB,AV.ren,Nat.reduceAdd,reduceCtorEq]
    simp [zbv]
   ·try simp only [FB,AV.ren,Nat.reduceAdd,reduceCtorEq]
    simp [zah,ren_sbA,ren_sbB]
  ·obtain rfl:k=l.length:=by omega
   have dl:decide ((l.length:Int) < (l.length:Int))=false:=decide_eq_false (by omega)
   try simp -implicitDefEqProofs only [LM4,LB19,eq_self,zaa,zab,Nat.zero_mul,lzS,zb0 (T:=T) 63 60 61 5 rfl,dl,List.take_length,TB,SB,Int.reduceToNat,Nat.reduceAdd,Nat.reduceEqDiff,Nat.reduceLT,Nat.reduceMod,Nat.reducePow,Nat.reduceSub,if_true,reduceIte]
   rw [List.take_length] at hle
   refine ACalls.frame ([0,1]) (bstrF_ok u (shP true l) (by omega)) rfl (by decide) (by simp [LM1,LB20,LB21,zah,zae,renL,AV.ren,AEnd.ren,zaf,mbF.fren,zac,List.getElem?_cons_zero,List.getElem?_cons_succ]) (by first | rfl | simp [LM1,LB20,LB21,zah,zae,renL,AV.ren,AEnd.ren,zaf,mbF.fren,zac,List.getElem?_cons_zero,List.getElem?_cons_succ]) ?_
   rintro _ _ ⟨rfl,rfl⟩
   refine⟨.ret (str (shP true l)),[sbA 63 u 0 1 (shP true l).length,sbF 5 (shP true l)],(by show zae _ _ ([0,1]) ([0,1]) 0 _;simp [LM1,LB20,LB21,zah,zae,renL,AV.ren,AEnd.ren,zaf,mbF.fren,zac,List.getElem?_cons_zero,List.getElem?_cons_succ]),(by show AEnd.ren ([0,1]) _ _;first | rfl | simp [LM1,LB20,LB21,zah,zae,renL,AV.ren,AEnd.ren,zaf,mbF.fren,zac,List.getElem?_cons_zero,List.getElem?_cons_succ]),?_⟩
   try simp -implicitDefEqProofs only [LM4,LB19,eq_self,zaa,zab,Nat.zero_mul,lzS,zb0 (T:=T) 63 60 61 5 rfl,TB,SB,Int.reduceToNat,Nat.reduceAdd,Nat.reduceEqDiff,Nat.reduceLT,Nat.reduceMod,Nat.reducePow,Nat.reduceSub,if_true,reduceIte]
   refine(zhu (shP true l) (by omega)).pure (by simp [renL,zai]) ?_
   rintro _ σ rfl
   refine⟨by simp [AEnd.noid,AV.ren,renL,zb8,zag],?_⟩
   rw [ziy]
   by_cases he:(zcz (shP true l)).2=0
   ·have de:=decide_eq_true he
    try simp -implicitDefEqProofs only [LM4,LB19,eq_self,zaa,zab,Nat.zero_mul,lzS,zb0 (T:=T) 63 60 61 5 rfl,de,TB,SB,Int.reduceToNat,Nat.reduceAdd,Nat.reduceEqDiff,Nat.reduceLT,Nat.reduceMod,Nat.reducePow,Nat.reduceSub,if_true,reduceIte]
    refine(psame_ok (zcz (shP true l)).1 l (by have:=ziH (shP true l);omega)).pure (by simp [renL,AV.ren,zbv]) ?_
    rintro _ σ rfl
    refine⟨zao _ _,?_⟩
    by_cases hs:(zcz (shP true l)).1=l
    ·have ds:=decide_eq_true hs
     try simp -implicitDefEqProofs only [LM4,LB19,eq_self,zaa,zab,Nat.zero_mul,lzS,zb0 (T:=T) 63 60 61 5 rfl,ds,TB,SB,Int.reduceToNat,Nat.reduceAdd,Nat.reduceEqDiff,Nat.reduceLT,Nat.reduceMod,Nat.reducePow,Nat.reduceSub,if_true,reduceIte]
     refine ACalls.frame ([0,1]) (bstrG_ok u (shP true l) (by omega)) rfl (by decide) (by simp [LM1,LB20,LB21,zah,zae,renL,AV.ren,AEnd.ren,zaf,mbF.fren,zac,List.getElem?_cons_zero,List.getElem?_cons_succ]) (by first | rfl | simp [LM1,LB20,LB21,zah,zae,renL,AV.ren,AEnd.ren,zaf,mbF.fren,zac,List.getElem?_cons_zero,List.getElem?_cons_succ]) ?_
     rintro _ _ ⟨rfl,rfl⟩
     refine⟨.ret (str (shP true l)),[sbA 63 u 0 1 (shP true l).length,sbF 5 (shP true l)],(by show zae _ _ ([0,1]) ([0,1]) 0 _;simp [LM1,LB20,LB21,zah,zae,renL,AV.ren,AEnd.ren,zaf,mbF.fren,zac,List.getElem?_cons_zero,List.getElem?_cons_succ]),(by show AEnd.ren ([0,1]) _ _;first | rfl | simp [LM1,LB20,LB21,zah,zae,renL,AV.ren,AEnd.ren,zaf,mbF.fren,zac,List.getElem?_cons_zero,List.getElem?_cons_succ]),?_⟩
     try simp -implicitDefEqProofs only [LM4,LB19,eq_self,zaa,zab,Nat.zero_mul,lzS,zb0 (T:=T) 63 60 61 5 rfl,TB,SB,Int.reduceToNat,Nat.reduceAdd,Nat.reduceEqDiff,Nat.reduceLT,Nat.reduceMod,Nat.reducePow,Nat.reduceSub,if_true,reduceIte]
     refine zax (by simp [AV.ren,renL,zai,zag]) ?_
     rw [hX,if_pos (Prod.ext hs he)]
    ·have ds:=decide_eq_false hs
     try simp -implicitDefEqProofs only [LM4,LB19,eq_self,zaa,zab,Nat.zero_mul,lzS,zb0 (T:=T) 63 60 61 5 rfl,ds,TB,SB,Int.reduceToNat,Nat.reduceAdd,Nat.reduceEqDiff,Nat.reduceLT,Nat.reduceMod,Nat.reducePow,Nat.reduceSub,if_true,reduceIte]
     refine zax (by simp [AV.ren,renL,zai,zag]) ?_
     rw [hX,if_neg (fun e=>hs (by rw [e]))]
   ·have de:=decide_eq_false he
    try simp -implicitDefEqProofs only [LM4,LB19,eq_self,zaa,zab,Nat.zero_mul,lzS,zb0 (T:=T) 63 60 61 5 rfl,de,TB,SB,Int.reduceToNat,Nat.reduceAdd,Nat.reduceEqDiff,Nat.reduceLT,Nat.reduceMod,Nat.reducePow,Nat.reduceSub,if_true,reduceIte]
    refine zax (by simp [AV.ren,renL,zai,zag]) ?_
    rw [hX,if_neg (fun e=>he (by rw [e]))]
end Go.Proofs.YtamcppdhkeiaiaaGreatDoor
end

section
namespace Go.Proofs.YtamcppdhkeiaiaaGreatDoor
open Go Go.Eng
theorem zfl {α:Type} {l:List α} {k:Nat} (d:α) (h:k < l.length):l.take (k+1)=l.take k++[l.getD k d]:=by
 rw [List.take_succ_eq_append_getElem h,List.getD_eq_getElem?_getD,List.getElem?_eq_getElem h]
 rfl
end Go.Proofs.YtamcppdhkeiaiaaGreatDoor
end

section
namespace Go.Proofs.YtamcppdhkeiaiaaGreatDoor
open Go Go.Eng
end Go.Proofs.YtamcppdhkeiaiaaGreatDoor
end

section
namespace Go.Proofs.YtamcppdhkeiaiaaGreatDoor
open Go Go.Eng
end Go.Proofs.YtamcppdhkeiaiaaGreatDoor
end

section
namespace Go.Proofs.YtamcppdhkeiaiaaGreatDoor
open Go Go.Eng
end Go.Proofs.YtamcppdhkeiaiaaGreatDoor
end

section
namespace Go.Proofs.YtamcppdhkeiaiaaGreatDoor
open Go Go.Eng
end Go.Proofs.YtamcppdhkeiaiaaGreatDoor
end

