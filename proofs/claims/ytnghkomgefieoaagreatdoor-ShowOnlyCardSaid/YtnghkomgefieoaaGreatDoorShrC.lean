/-
  Values that are made; the builder, digits, quoted texts, the shower. No condition.
-/
import Derived.Test.YtnghkomgefieoaaGreatDoorShrB
import Derived.Test.YtnghkomgefieoaaGreatDoorLib
import Derived.Lib.AppendIntMem
set_option linter.unusedSimpArgs false
set_option linter.unusedVariables false
set_option linter.unusedSectionVars false
section
namespace Go.Eng
open Go
theorem aQ2 {a b:zab} {c:Nat} {d:zab} (p:List Nat) (e:zad a b p p c d:=by simp [LM11,zah,zad,renL,AV.ren,AEnd.ren,List.getElem?_cons_zero,List.getElem?_cons_succ]):zad a b p p c d:=e
theorem aQ3 {a b:zab} {c:Nat} {d:zab} (p:List Nat) (e:zad a b p p c d:=by simp [LM3,zah,zad,renL,AV.ren,AEnd.ren,zan,List.getElem?_cons_zero,List.getElem?_cons_succ]):zad a b p p c d:=e
theorem aQ9 {a b:AEnd} (p:List Nat) (e:AEnd.ren p a b:=by first | rfl | simp [LM11,zah,zad,renL,AV.ren,AEnd.ren,List.getElem?_cons_zero,List.getElem?_cons_succ]):AEnd.ren p a b:=e
theorem aQ10 {a b:AEnd} (p:List Nat) (e:AEnd.ren p a b:=by first | rfl | simp [LM3,zah,zad,renL,AV.ren,AEnd.ren,zan,List.getElem?_cons_zero,List.getElem?_cons_succ]):AEnd.ren p a b:=e
theorem aQ37 {P Q:Prop} (h:Q) (e:P=Q:=by first|(simp -implicitDefEqProofs only [LM8,LB6,LB10,eq_self,zao,box_nil,ld_strs,TB,SB,Int.reduceToNat,Nat.reduceAdd,Nat.reduceEqDiff,Nat.reduceLT,Nat.reduceMod,Nat.reducePow,Nat.reduceSub,if_true,reduceIte];first|done|exact rfl)|exact rfl):P:=e ▸ h
theorem aQ38 {P Q:Prop} (h:Q) (e:P=Q:=by first|(simp -implicitDefEqProofs only [LM8,LB11,eq_self,TB,SB,Int.reduceToNat,Nat.reduceAdd,Nat.reduceEqDiff,Nat.reduceLT,Nat.reduceMod,Nat.reducePow,Nat.reduceSub,if_true,reduceIte];first|done|exact rfl)|exact rfl):P:=e ▸ h
theorem aQ39 {P Q:Prop} (h:Q) (e:P=Q:=by first|(simp -implicitDefEqProofs only [LM8,LB11,eq_self,za2 (T:=T) 71 68 69 5 rfl,zag,zaf,zaJ,TB,SB,Int.reduceToNat,Nat.reduceAdd,Nat.reduceEqDiff,Nat.reduceLT,Nat.reduceMod,Nat.reducePow,Nat.reduceSub,if_true,reduceIte];first|done|exact rfl)|exact rfl):P:=e ▸ h
theorem aQ40 {P Q:Prop} (h:Q) (e:P=Q:=by first|(simp -implicitDefEqProofs only [LM8,LB11,eq_self,za2 (T:=T) 71 68 69 5 rfl,zag,zaf,zaJ,idx_hex,shr_4,TB,SB,Int.reduceToNat,Nat.reduceAdd,Nat.reduceEqDiff,Nat.reduceLT,Nat.reduceMod,Nat.reducePow,Nat.reduceSub,if_true,reduceIte];first|done|exact rfl)|exact rfl):P:=e ▸ h
theorem aQ41 {P Q:Prop} (h:Q) (e:P=Q:=by first|(simp -implicitDefEqProofs only [LM8,LB11,eq_self,za2 (T:=T) 71 68 69 5 rfl,zag,zaf,zaJ,idx_hex,and_15,TB,SB,Int.reduceToNat,Nat.reduceAdd,Nat.reduceEqDiff,Nat.reduceLT,Nat.reduceMod,Nat.reducePow,Nat.reduceSub,if_true,reduceIte];first|done|exact rfl)|exact rfl):P:=e ▸ h
theorem aQ42 {P Q:Prop} (h:Q) (e:P=Q:=by first|(simp -implicitDefEqProofs only [LM8,LB11,eq_self,za2 (T:=T) 71 68 69 5 rfl,zag,zaf,zaJ,fa_h0,fa_h1,fa_h2,fa_h3,fa_h4,fa_h5,fa_h6,rd_w,ld_h1,ld_h2,ld_h3,ld_h4,ld_h5,ld_h6,st_h2,st_h4,TB,SB,Int.reduceToNat,Nat.reduceAdd,Nat.reduceEqDiff,Nat.reduceLT,Nat.reduceMod,Nat.reducePow,Nat.reduceSub,if_true,reduceIte];first|done|exact rfl)|exact rfl):P:=e ▸ h
end Go.Eng
end

section
namespace Go.Proofs.YtnghkomgefieoaaGreatDoor
open Go Go.Eng
def o1:Nd:=⟨2,1,[],0⟩
def lv:List Nd:=[⟨4,0,[],2⟩,⟨2,1,[],0⟩,⟨0,0,[],0⟩]
def mv:List Nd:=[⟨5,0,[],2⟩,⟨3,0,[97],0⟩,⟨4,0,[],2⟩,⟨2,1,[],0⟩,⟨0,0,[],0⟩,⟨3,0,[98],0⟩,⟨2,1,[],0⟩]
theorem srt_ba:srt [[98],[97]]=[[97],[98]]:=by
 simp [srt,List.mergeSort,List.MergeSort.Internal.splitInTwo,List.merge,List.splitAt,List.splitAt.go]
 decide
theorem bd_n01 {K:AV→Prop} {t:TypeId} (ht:T t=some tyNd) (k j:Int):zbg T t [(0,i64 k),(1,i64 j)] K=K (nA ⟨k,j,[],0⟩):=by
 simp [zbg,ht,tyNd,T3,T2,T41,T9,zbZ,zaH,zcj,zbQ,za5,za4,tyStr,nA,nC]
 try rfl
theorem bs_str_2 (a b:List UInt8) (σ:zab) (K:AV→zab→Prop):bs2 (some tyStr) 2 [(0,str a),(1,str b)] σ K=K (.ref σ.length 0 2 1) (σ++[.rw ([a,b].map str)]):=by
 simp [bs2,tyStr,zbZ,zb2,zc1,za5,List.range_succ,zce,List.replicate]
theorem bs_sl_2 (e:TypeId) (a b:AV) (ha:a.one=true) (hb:b.one=true) (ca:a.cells=[a]) (cb:b.cells=[b]) (σ:zab) (K:AV→zab→Prop):bs2 (some (tySl e)) 2 [(0,a),(1,b)] σ K=K (.ref σ.length 0 2 1) (σ++[.rw [a,b]]):=by
 simp [bs2,tySl,zbZ,zb2,ca,cb,ha,hb,za5,List.range_succ,List.replicate]
theorem bs_rr (e:TypeId) (i j k l m n o p:Nat) (σ:zab) (K:AV→zab→Prop):bs2 (some (tySl e)) 2 [(0,.ref i j k l),(1,.ref m n o p)] σ K=K (.ref σ.length 0 2 1) (σ++[.rw [.ref i j k l,.ref m n o p]]):=bs_sl_2 e _ _ rfl rfl rfl rfl σ K
theorem bs_str_1 (a:List UInt8) (σ:zab) (K:AV→zab→Prop):bs2 (some tyStr) 1 [(0,str a)] σ K=K (.ref σ.length 0 1 1) (σ++[.rw ([a].map str)]):=by
 simp [bs2,tyStr,zbZ,zb2,zc1,za5,List.range_succ,zce,List.replicate]
theorem frz_N {σ:zab} {id n:Nat} {l:List Nd} (h:σ[id]?=some (.ro (l.flatMap nC))) (hn:n=l.length):frzA σ (.ref id 0 n 4) (slNs l):=by
 subst hn
 refine .inr ⟨_,h,by rw [zbD];omega,?_⟩
 rw [List.drop_zero,List.take_of_length_le (by rw [zbD];omega)]
 rfl
theorem frz_Ns {σ:zab} {id n:Nat} {L:List (List Nd)} (h:σ[id]?=some (.ro (L.map slNs))) (hn:n=L.length):frzA σ (.ref id 0 n 1) (.sl (L.map slNs) L.length):=by
 subst hn
 refine .inr ⟨_,h,by simp,?_⟩
 rw [List.drop_zero,List.take_of_length_le (by simp)]
theorem frz_Ss {σ:zab} {id n:Nat} {l:List (List UInt8)} (h:σ[id]?=some (.ro (l.map str))) (hn:n=l.length):frzA σ (.ref id 0 n 1) (.sl (l.map str) l.length):=by
 subst hn
 refine .inr ⟨_,h,by simp,?_⟩
 rw [List.drop_zero,List.take_of_length_le (by simp)]
theorem noid_NE (l:List Nd) (n:Nat) (e:Int) (q:List Nat):(AV.tup [.sl (l.flatMap nC) n,i64 e]).ren q=some (.tup [.sl (l.flatMap nC) n,i64 e]):=by simp [AV.ren,renL,zbF,zaq]
theorem noid_N2 (a b:List Nd) (n m:Nat) (q:List Nat):renL q [.sl (a.flatMap nC) n,.sl (b.flatMap nC) m]=some [.sl (a.flatMap nC) n,.sl (b.flatMap nC) m]:=by simp only [renL,AV.ren,zbF,Option.map_some,bind,Option.bind,pure]
theorem zcg (a:List Nd) (n:Nat) (q:List Nat):renL q [.sl (a.flatMap nC) n]=some [.sl (a.flatMap nC) n]:=by simp only [renL,AV.ren,zbF,Option.map_some,bind,Option.bind,pure]
theorem noid_Ni (a:List Nd) (n:Nat) (k:Int) (q:List Nat):renL q [.sl (a.flatMap nC) n,i64 k]=some [.sl (a.flatMap nC) n,i64 k]:=by simp only [renL,AV.ren,zbF,zaq,Option.map_some,bind,Option.bind,pure]
theorem noid_SNs (l:List (List UInt8)) (L:List (List Nd)) (k n:Nat) (q:List Nat):renL q [.sl (l.map str) k,.sl (L.map slNs) n]=some [.sl (l.map str) k,.sl (L.map slNs) n]:=by simp [renL,AV.ren,zhh,zae]
end Go.Proofs.YtnghkomgefieoaaGreatDoor
end

section
namespace Go.Proofs.YtnghkomgefieoaaGreatDoor
open Go Go.Eng
set_option linter.defProp false in
def LB10:=And.intro (fun {K}=>@bd_n01 K _ T43) (And.intro @bs_str_2 (And.intro @bs_rr (@bs_str_1)))
def fewB (l:List Nd):Bool:=decide (l.length≤130) && (l.all fun n=>decide (n.text.length≤130))
theorem few_long {l:List Nd} {k:Nat} (hk:k < l.length) (h:130 < (l.getD k n0d).text.length):fewB l=false:=by
 rw [fewB,Bool.and_eq_false_iff]
 refine .inr ?_
 rw [List.all_eq_false]
 refine⟨l.getD k n0d,?_,by simpa using h⟩
 rw [List.getD_eq_getElem?_getD,List.getElem?_eq_getElem hk]
 exact List.getElem_mem _
theorem few_end {l:List Nd} {k:Nat} (h:k=l.length∨130 < l.length) (hj:∀ j,j < k→(l.getD j n0d).text.length≤130):fewB l=decide ((l.length:Int)≤130):=by
 rw [fewB]
 by_cases hl:l.length≤130
 ·rw [decide_eq_true hl,decide_eq_true (by omega),Bool.true_and,List.all_eq_true]
  intro n hn
  obtain⟨j,hjl,rfl⟩:=List.getElem_of_mem hn
  have:=hj j (by omega)
  rw [List.getD_eq_getElem?_getD,List.getElem?_eq_getElem hjl] at this
  simpa using this
 ·rw [decide_eq_false hl,decide_eq_false (by omega),Bool.false_and]
theorem Few_ok (l:List Nd) (hl:l.length≤9223372036854775807):ACalls Tryz.prog 7 [.sl (l.flatMap nC) l.length] [] (fun y _=>y=.ret (bl (fewB l))):=by
 refine ACalls.body T_ok Tryz.func7 (by kernel_rfl) rfl Tryz.ntmps7 (congrArg Array.toList Tryz.results7) ?_
 refine aQ37 ?_
 rw [za6]
 refine⟨Nat,fun k=>k≤l.length∧k≤131∧∀ j,j < k→(l.getD j n0d).text.length≤130,fun k=>[.sl (l.flatMap nC) l.length,.bot,bl false,i64 k,.bot,.bot,.bot,.bot,.bot,.bot,.bot,.bot,.bot,.bot,.bot,.bot,.bot,.bot,.bot,.bot,.bot,.bot,.bot,.bot],fun _=>[],fun k=>l.length - k,0,⟨Nat.zero_le _,by omega,fun j h=>absurd h (by omega)⟩,zcN ?_,?_⟩
 ·refine aQ28 ?_
  try exact .inr rfl
 ·rintro k ⟨hk,hk1,hj⟩
  refine aQ37 ?_
  by_cases hlt:k < l.length
  ·rw [decide_eq_true (by omega:(k:Int) < l.length)]
   refine aQ37 ?_
   refine⟨fun hlt2=>?_,fun hlt2=>?_⟩
   ·repeat (with_reducible refine And.intro aQ15 ?_)
    refine⟨fun hg=>?_,fun hg=>?_⟩
    ·refine aQ37 ?_
     exact za0 (by rw [few_long hlt (by omega)])
    ·refine aQ37 ?_
     repeat (with_reducible refine And.intro aQ15 ?_)
     rw [zam]
     refine⟨k+1,⟨by omega,by omega,fun j h=>?_⟩,by (show l.length - (k+1) < l.length - k);omega,zcN ?_⟩
     ·by_cases e:j=k
      ·subst e;omega
      ·exact hj j (by omega)
     ·refine aQ28 ?_
      try exact .inr rfl
   ·refine aQ37 ?_
    exact za0 (by rw [few_end (.inr (by omega)) hj])
  ·rw [decide_eq_false (by omega:¬ (k:Int) < l.length)]
   refine aQ37 ?_
   exact za0 (by rw [few_end (.inl (by omega)) hj])
theorem few_le {l:List Nd} (h:fewB l=true):l.length≤130:=by
 rw [fewB,Bool.and_eq_true,decide_eq_true_eq] at h
 exact h.1
end Go.Proofs.YtnghkomgefieoaaGreatDoor
end

section
namespace Go.Proofs.YtnghkomgefieoaaGreatDoor
open Go Go.Eng
structure Part (l m:List Nd) (o:Nat):Prop where
 le:o+m.length≤l.length
 at':∀ q,q < m.length→m[q]?=l[o+q]?
theorem Part.node {l m:List Nd} {o q:Nat} (h:Part l m o) (hq:q < m.length):zbL m q=zbL l (o+q):=by
 simp only [zbL,h.at' q hq]
structure Alk (l m:List Nd) (o q:Nat):Prop where
 fwd:∀ r,vl m q=some r→vl l (o+q)=some (o+r.1,r.2)
 back:∀ r,vl l (o+q)=some r→r.1≤o+m.length→vl m q=some (r.1 - o,r.2)
end Go.Proofs.YtnghkomgefieoaaGreatDoor
end

section
namespace Go.Proofs.YtnghkomgefieoaaGreatDoor
open Go Go.Eng
set_option linter.defProp false in
def LB11:=And.intro @len_bsl (And.intro @wsd_bsl (And.intro @Wop_us (And.intro @Qop_usd (And.intro @ofVal_nilIface ((fun {K}=>wfa_bld1 (T:=T) (K:=K) 71 68 69 5 rfl rfl))))))
def zho:Go.Shelf.Ren:=⟨fun | 240=>46 | 276=>72 | n=>n,fun | 70=>68 | 72=>71 | 9=>9 | 4=>4 | 20=>20 | 164=>103 | 37=>69 | 5=>5 | 0=>0 | n=>n,fun | n=>n⟩
theorem ziq:Go.Proofs.Lays.n240 Tryz.prog zho:={
 mixed:=by kernel_rfl
 f240:=Tryz.func46.trans (congrArg some (by kernel_rfl))
 f276:=Tryz.func72.trans (congrArg some (by kernel_rfl))
 t0:=Tryz.underlying0
 a0:=Tryz.isAgg0
 z0:=Tryz.sizeOf0
 v0:=Tryz.zeroValue0
 t4:=Tryz.underlying4
 a4:=Tryz.isAgg4
 z4:=Tryz.sizeOf4
 v4:=Tryz.zeroValue4
 t9:=Tryz.underlying9
 a9:=Tryz.isAgg9
 z9:=Tryz.sizeOf9
 v9:=Tryz.zeroValue9
 t20:=Tryz.underlying20
 a20:=Tryz.isAgg20
 z20:=Tryz.sizeOf20
 v20:=Tryz.zeroValue20
 t70:=Tryz.underlying68
 a70:=Tryz.isAgg68
 z70:=Tryz.sizeOf68
 v70:=Tryz.zeroValue68
 t72:=Tryz.underlying71
 a72:=Tryz.isAgg71
 z72:=Tryz.sizeOf71
 v72:=Tryz.zeroValue71
 t164:=Tryz.underlying103
 a164:=Tryz.isAgg103
 z164:=Tryz.sizeOf103
 v164:=Tryz.zeroValue103 }
theorem x72:Go.Proofs.Builder.X72 Tryz.prog zho:={
 sizeBuilder:=by kernel_rfl
 liesBuilder:=by kernel_rfl }
def Cp (tb : TypeId) (N : Nat) : Prop := ∀ (u : Bool) (id k n : Nat) (r : List AV), r.length = N → ∀ (σ : zab), σ[id]? = some (sbW tb u id k n r) → ACalls Tryz.prog 46 [.ptr id 0] σ (fun x σ' => x = .ret (.tup []) ∧ σ' = σ.set id (sbW tb true id k n r))
theorem cp_S:Cp 78 6:=fun u id k n r hN σ hi =>
 zfy (by kernel_rfl) (fun b w h0 h1 h2=>ze0 ziq x72 (by omega) (by kernel_rfl) b w h0 h1 h2) (fun b w h0=>Go.Proofs.Any.Builder_copyCheck_used ziq x72 b w h0) hN hi
theorem cp_B:Cp 71 0:=fun u id k n r hN σ hi =>
 zfy (by kernel_rfl) (fun b w h0 h1 h2=>ze0 ziq x72 (by omega) (by kernel_rfl) b w h0 h1 h2) (fun b w h0=>Go.Proofs.Any.Builder_copyCheck_used ziq x72 b w h0) hN hi
def wwS (tb eb:TypeId) (σ:zab) (id k:Nat) (l:List UInt8) (r:List AV):zab:=((σ.set id (sbW tb true id σ.length l.length r)).set k .dead)++[sbB eb l]
theorem bws_w {u:Bool} {id k:Nat} {l s:List UInt8} {r:List AV} {tb:TypeId} {N:Nat} (hC:Cp tb N) (hN:r.length=N) {σ:zab} {K:AEnd→zab→Prop} (hi:σ[id]?=some (sbW tb u id k l.length r)) (hk:σ[k]?=some (sbB 5 l)) (hne:id≠k) (h:l.length+s.length≤140737488355328)
  (hK:K (.ret (.tup [i64 s.length,.lit .nilIface])) (wwS tb 5 σ id k (l++s) r)):ACalls Tryz.prog 30 [.ptr id 0,str s] σ K:=by
 have hil:id < σ.length:=(List.getElem?_eq_some_iff.1 hi).1
 have hkl:k < σ.length:=(List.getElem?_eq_some_iff.1 hk).1
 refine ACalls.body T_ok Tryz.func30 (by kernel_rfl) rfl Tryz.ntmps30 (congrArg Array.toList Tryz.results30) ?_
 refine aQ38 ?_
 refine(hC _ _ _ _ _ hN _ hi).mono ?_
 rintro _ _ ⟨rfl,rfl⟩
 have h1:(σ.set id (sbW tb true id k l.length r))[id]?=some (sbW tb true id k l.length r):=by simp [hil]
 have h2:(σ.set id (sbW tb true id k l.length r))[k]?=some (sbB 5 l):=by rw [List.getElem?_set_ne hne];exact hk
 have h3:rd (σ.set id (sbW tb true id k l.length r)) id=some (.ptr id 0::.bsl k l.length::r):=rd_rtE h1
 try simp -implicitDefEqProofs only [LM8,LB11,eq_self,h3,Nat.zero_add,zaJ,TB,SB,Int.reduceToNat,Nat.reduceAdd,Nat.reduceEqDiff,Nat.reduceLT,Nat.reduceMod,Nat.reducePow,Nat.reduceSub,if_true,reduceIte]
 refine zhS (e:=5) rfl rfl rfl rfl tx_str rfl zhR (cs:=l.map u8) (xs:=s.map u8) h2 (by simp) (asrc_str s) (zcA u8 zha _) (zcA u8 zha _) (by omega) (by show _ * 1≤_;omega) ?_
 have h4:((σ.set id (sbW tb true id k l.length r)).set k .dead++[Blk.rt false 5 (l.map u8++s.map u8)])[id]?=some (.rt true tb (.ptr id 0::.bsl k l.length::r)):=by
  rw [List.getElem?_append_left (by simp [hil]),List.getElem?_set_ne (fun e=>hne e.symm)]
  exact h1
 try simp -implicitDefEqProofs only [LM8,LB11,eq_self,st_bslW _ _ _ _ _ _ _ _ _ h4,TB,SB,Int.reduceToNat,Nat.reduceAdd,Nat.reduceEqDiff,Nat.reduceLT,Nat.reduceMod,Nat.reducePow,Nat.reduceSub,if_true,reduceIte]
 refine zau ?_
 have e1:((σ.set id (sbW tb true id k l.length r)).set k .dead++[Blk.rt false 5 (l.map u8++s.map u8)]).set id (.rt true tb (.ptr id 0::.bsl (σ.set id (sbW tb true id k l.length r)).length (l.length+s.length)::r))=wwS tb 5 σ id k (l++s) r:=by
  rw [wwS,List.set_append,if_pos (by simp [hil]),List.set_comm _ _ (fun e=>hne e.symm),List.set_set]
  simp [sbW,sbB]
 rw [← e1] at hK
 exact hK
def wI (tb:TypeId) (u:Bool) (l:List UInt8) (r:List AV):zab:=[sbW tb u 0 1 l.length r,sbB 5 l]
def wO (tb:TypeId) (l:List UInt8) (r:List AV):zab:=[sbW tb true 0 2 l.length r,.dead,sbB 5 l]
theorem zhp (u:Bool) (l s:List UInt8) (r:List AV) {tb:TypeId} {N:Nat} (hC:Cp tb N) (hN:r.length=N) (h:l.length+s.length≤140737488355328):ACalls Tryz.prog 30 [.ptr 0 0,str s] (wI tb u l r) (fun x σ=>x=.ret (.tup [i64 s.length,.lit .nilIface])∧σ=wO tb (l++s) r) :=
 bws_w hC hN rfl rfl (by omega) h ⟨rfl,rfl⟩
theorem zeE {n0 : Nat} (q : List Nat) (r' : AV) (σ' : zab) {r : AV} {σ : zab} {K : AV → zab → Prop} (h1 : q.length = σ'.length) (h2 : q.take n0 = List.range n0) (h3 : q.Nodup) (h4 : r'.ren q = some r) (h5 : zah σ q q σ') (h6 : K r' σ') : endQ n0 r σ K := .inl ⟨q, r', σ', h1, h2, h3, h4, h5, h6⟩
theorem zdo (u:Bool) (l:List UInt8) (c:UInt8) (r:List AV) {tb:TypeId} {N:Nat} (hC:Cp tb N) (hN:r.length=N) (hr:∀ q:List Nat,0 < q.length→q[0]?=some 0→renL q r=some r) (h:l.length+1≤140737488355328):ACalls Tryz.prog 29 [.ptr 0 0,u8 c] (wI tb u l r) (fun x σ=>x=.ret (.lit .nilIface)∧σ=wO tb (l++[c]) r):=by
 refine ACalls.body T_ok Tryz.func29 (by kernel_rfl) rfl Tryz.ntmps29 (congrArg Array.toList Tryz.results29) ?_
 refine aQ38 ?_
 refine(hC u 0 1 l.length r hN _ rfl).mono ?_
 rintro _ _ ⟨rfl,rfl⟩
 simp only [wI,List.set_cons_zero]
 have h3:rd [sbW tb true 0 1 l.length r,sbB 5 l] 0=some (.ptr 0 0::.bsl 1 l.length::r):=rfl
 try simp -implicitDefEqProofs only [LM8,LB11,eq_self,h3,Nat.zero_add,zaJ,TB,SB,Int.reduceToNat,Nat.reduceAdd,Nat.reduceEqDiff,Nat.reduceLT,Nat.reduceMod,Nat.reducePow,Nat.reduceSub,if_true,reduceIte]
 refine zhS (e:=5) rfl rfl rfl rfl (zgq _) rfl zhR (cs:=l.map u8) (xs:=[u8 c]) rfl (by simp) rfl (zcA u8 zha _) rfl (by omega) (by show _ * 1≤_;omega) ?_
 have h4:∀ (k n:Nat) (σ:zab) (KS:AV→zab→Prop),st2 (some (tySl 5)) (some (sbW tb true 0 1 l.length r)) 0 1 (.bsl k n) σ KS=KS (.lit undef) (σ.set 0 (.rt true tb (.ptr 0 0::.bsl k n::r))):=fun _ _ _ _=>st_bslW _ _ _ _ _ _ _ _ _ rfl
 try simp -implicitDefEqProofs only [LM8,LB11,eq_self,h4,TB,SB,Int.reduceToNat,Nat.reduceAdd,Nat.reduceEqDiff,Nat.reduceLT,Nat.reduceMod,Nat.reducePow,Nat.reduceSub,if_true,reduceIte]
 refine zeE [0,1,3] (.lit .nilIface) (wO tb (l++[c]) r) rfl rfl (by decide) rfl ?_ ⟨rfl,rfl⟩
 have e1:(sbW tb true 0 2 (l++[c]).length r).ren [0,1,3]=some (.rt true tb (.ptr 0 0::.bsl 3 (l.length+1)::r)):=by
  rw [zex _ _ _ _ _ _ _ (by decide)]
  simp [hr [0,1,3] (by decide) rfl,sbW]
 have e2:(sbB 5 (l++[c])).ren [0,1,3]=some (.rt false 5 (l.map u8++[u8 c])):=by
  rw [zev]
  simp [sbB]
 exact⟨.inr ⟨_,e1,rfl⟩,.inl rfl,.inr ⟨_,e2,rfl⟩,trivial⟩
theorem bstr_w {tb:TypeId} {u:Bool} {id k:Nat} {l:List UInt8} {r:List AV} {σ:zab} {K:AEnd→zab→Prop} (hi:σ[id]?=some (sbW tb u id k l.length r)) (hk:σ[k]?=some (sbB 5 l)) (h:l.length≤140737488355328)
  (hK:K (.ret (str l)) (σ.set k (sbC 5 l))):ACalls Tryz.prog 31 [.ptr id 0] σ K:=by
 have h3:rd σ id=some ((if u then .ptr id 0 else .lit (.pointer none))::.bsl k l.length::r):=rd_rtE hi
 refine ACalls.body T_ok Tryz.func31 (by kernel_rfl) rfl Tryz.ntmps31 (congrArg Array.toList Tryz.results31) ?_
 refine aQ38 ?_
 refine zcd [10] (by kernel_rfl) (by kernel_rfl) (by kernel_rfl) ?_
 try simp -implicitDefEqProofs only [LM8,LB11,eq_self,h3,Nat.zero_add,zaJ,TB,SB,Int.reduceToNat,Nat.reduceAdd,Nat.reduceEqDiff,Nat.reduceLT,Nat.reduceMod,Nat.reducePow,Nat.reduceSub,if_true,reduceIte]
 refine wus_ok (e:=5) rfl rfl rfl (by omega) hk ?_
 refine aQ38 ?_
 exact zau hK
end Go.Proofs.YtnghkomgefieoaaGreatDoor
end

section
namespace Go.Proofs.YtnghkomgefieoaaGreatDoor
open Go Go.Eng
theorem acalls_belowT [Globs] {P:Program} {f:FuncId} {xs:List AV} {v:AV} (g:Nat) (cs:List Value) (hgt:Globs.tab g=some cs) (hc:zaX P f=true)
  (h:∀ (w:World) (O:Nat→Prop) (m:Ids) (vs:Array Value),(∃ e f,w.heap[g]?=some (.cells cs.toArray e f))→reps w O m xs vs.toList→Calls P f vs w fun e w'=>(∃ u,e=.returned u∧∀ (w':World) (O:Nat→Prop) (m:Ids),rep w' O m v u)∧RowKit.Below w.heap.size w w'):ACalls P f xs [] (fun x _=>x=.ret v):=by
 refine fun H w m vs hg hs hr=>.inl ⟨hc,?_⟩
 obtain⟨_,_,hn,_⟩:=hg.1 g cs hgt
 refine(h w _ m vs hn hr).mono ?_
 rintro e w' ⟨⟨u,rfl,hu⟩,hb⟩
 obtain⟨s1,x1⟩:=hs.old (w':=w') hb.size hb.block hb.os hb.tape hb.output
 exact⟨.ret v,m,[],s1,x1,hu _ _ _,rfl⟩
theorem dig_ok (n:Int) (hn:inI n):ACalls Tryz.prog 23 [i64 n,i64 10] [] (fun x _=>x=.ret (str (Go.Lib.itoa n))) :=
 acalls_belowT 1 powT rfl (by kernel_rfl) fun w O m vs hp hr=>by
  simp only [reps,i64,rep] at hr
  obtain⟨v,r,e1,rfl,v2,r2,rfl,rfl,rfl⟩:=hr
  have ev:vs=#[.int .i64 n,.int .i64 10]:=by
   apply Array.ext'
   simpa using e1
  subst ev
  obtain⟨e,f,hp⟩:=hp
  unfold inI at hn
  have htab : Go.Lib.TabIs Tryz.prog w "internal/strconv.uint64pow10" .u64 Go.Lib.pow10Tab := by
   show World.var? _ _ _=_
   unfold World.var?
   rw [show Program.globalNamed Tryz.prog "internal/strconv.uint64pow10" = some 1 by kernel_rfl, Option.bind_some, hp]
   rfl
  refine(Go.Proofs.Tryz.strconv_FormatInt_10 n (by omega) (by omega) w htab).mono ?_
  rintro e w' ⟨rfl,k,os,rfl⟩
  exact⟨⟨_,rfl,fun w' O m=>by simp only [str,rep]⟩,Go.Lib.below_grow _ _ (Nat.le_refl _) _ _⟩
theorem fbool_ok (b:Bool):ACalls Tryz.prog 49 [bl b] [] (fun x _=>x=.ret (str (Go.Lib.formatBool b))) :=
 zew (by kernel_rfl) fun w O m vs hr=>by
  simp only [reps,bl,rep] at hr
  obtain⟨v,r,e1,rfl,rfl⟩:=hr
  have ev:vs=#[.bool b]:=by
   apply Array.ext'
   simpa using e1
  subst ev
  refine(Go.Proofs.Tryz.strconv_FormatBool b w).mono ?_
  rintro e w' ⟨rfl,rfl⟩
  exact⟨⟨_,rfl,fun w' O m=>by simp only [str,rep]⟩,RowKit.Below.refl _ _⟩
theorem zhq (b:UInt8):∀ c,Go.Lib.repeatL [b] c=List.replicate c b
 | 0=>rfl
 | c+1=>by rw [Go.Lib.repeatL,zhq b c];rfl
theorem repeat_ok (b:UInt8) (c:Nat) (h:c≤140737488355328):ACalls Tryz.prog 52 [str [b],i64 c] [] (fun x _=>x=.ret (str (List.replicate c b))) :=
 zew (by kernel_rfl) fun w O m vs hr=>by
  simp only [reps,str,i64,rep] at hr
  obtain⟨v,r,e1,rfl,v2,r2,rfl,rfl,rfl⟩:=hr
  have ev:vs=#[.string ⟨[b].toArray⟩,.int .i64 (c:Int)]:=by
   apply Array.ext'
   simpa using e1
  subst ev
  refine(Go.Proofs.Tryz.strings_Repeat ⟨[b].toArray⟩ c w (by omega) (by show 1 * c≤_;omega)).mono ?_
  rintro e w' ⟨rfl,hb⟩
  refine⟨⟨_,rfl,fun w' O m=>?_⟩,hb⟩
  simp only [str,rep]
  rw [zhq]
theorem zhV (n:Int) (hn:inI n):ACalls Tryz.prog 12 [i64 n] [] (fun x _=>x=.ret (str (Go.Lib.itoa n))):=by
 refine ACalls.body T_ok Tryz.func12 (by kernel_rfl) rfl Tryz.ntmps12 (congrArg Array.toList Tryz.results12) ?_
 refine aQ38 ?_
 refine(dig_ok n hn).pure aQ16 ?_
 rintro _ σ rfl
 refine⟨by first | rfl | simp [AEnd.noid,AV.ren,renL,zaP,zaG str zar,zba,zaZ,za3,zaq,zaU,zar],?_⟩
 refine aQ38 ?_
 exact zaz (zar _ _) rfl
def hexL:List UInt8:=[48,49,50,51,52,53,54,55,56,57,97,98,99,100,101,102]
theorem idx_hex {T:Tab} {K:AV→Prop} (x:UInt8):idx2 T (some tyStr) (str [48,49,50,51,52,53,54,55,56,57,97,98,99,100,101,102]) (u8 x) K=((x.toNat:Int) < 16∧K (u8 (hexL.getD x.toNat 0))):=by
 have:=idx_str (T:=T) (K:=K) hexL (x.toNat:Int)
 rw [show (0≤(x.toNat:Int))=True from eq_true (by omega),true_and,Int.toNat_natCast] at this
 exact this
theorem shr_4 (c:UInt8):(UInt8.ofBitVec (c.toBitVec >>> 4)).toNat=c.toNat / 16:=by
 show (c.toBitVec >>> 4).toNat=_
 rw [BitVec.toNat_ushiftRight,Nat.shiftRight_eq_div_pow]
 rfl
theorem and_15 (c:UInt8):(c &&& UInt8.ofNat 15).toNat=c.toNat % 16:=by
 rw [UInt8.toNat_and]
 exact Nat.and_two_pow_sub_one_eq_mod c.toNat 4
def hexD (n:Nat):UInt8:=hexL.getD n 0
def quoB (b:UInt8):List UInt8:=if b=34∨b=92 then [92,b] else if 32≤b.toNat∧b.toNat < 127 then [b] else [92,117,48,48,hexD (b.toNat / 16),hexD (b.toNat % 16)]
def quoT (s:List UInt8):List UInt8:=s.flatMap quoB
def quoS (s:List UInt8):List UInt8:=34::(quoT s++[34])
theorem quoT_succ {s:List UInt8} {k:Nat} (h:k < s.length):quoT (s.take (k+1))=quoT (s.take k)++quoB (s.getD k 0):=by
 rw [List.take_succ_eq_append_getElem h,quoT,List.flatMap_append,quoT]
 simp [List.getD_eq_getElem?_getD,List.getElem?_eq_getElem h]
theorem quoB_le (b:UInt8):(quoB b).length≤6:=by
 unfold quoB
 split
 ·simp
 ·split <;> simp
theorem zir (s:List UInt8):(quoT s).length≤s.length * 6:=by
 induction s with
 | nil=>simp [quoT]
 | cons b s ih =>
  have:=quoB_le b
  rw [quoT,List.flatMap_cons,List.length_append,List.length_cons]
  rw [quoT] at ih
  omega
end Go.Proofs.YtnghkomgefieoaaGreatDoor
end

section
namespace Go.Proofs.YtnghkomgefieoaaGreatDoor
open Go Go.Eng
set_option linter.defProp false in
def LB12:=And.intro @zex (@zev)
set_option linter.defProp false in
def LM11:=And.intro LB3 (And.intro LB8 (LB12))
theorem ziT {tb e:TypeId} {k d:Nat} {l:List UInt8} {σ:zab} (h0:σ[0]?=some (sbW tb true 0 k l.length [])) (hk:σ[k]?=some (sbB e l)):zah σ [0,d,k] [0,d,k] [sbW tb true 0 2 l.length [],.dead,sbB e l] :=
 ⟨.inr ⟨_,by rw [zex _ _ _ _ _ _ _ (by simp)];rfl,h0⟩,.inl rfl,.inr ⟨_,by rw [zev],hk⟩,trivial⟩
theorem zgE (s:List UInt8) (hs:s.length≤1000000000):ACalls Tryz.prog 15 [str s] [] (fun y _=>y=.ret (str (quoS s))):=by
 have hb:∀ (u:Bool) (l:List UInt8) (c:UInt8),l.length+1≤140737488355328→ACalls Tryz.prog 29 [.ptr 0 0,u8 c] [sbW 71 u 0 1 l.length [],sbB 5 l] (fun x σ=>x=.ret (.lit .nilIface)∧σ=[sbW 71 true 0 2 (l++[c]).length [],.dead,sbB 5 (l++[c])]):=fun u l c h=>zdo u l c [] cp_B rfl (fun _ _ _=>rfl) h
 have hw:∀ (u:Bool) (l c:List UInt8),l.length+c.length≤140737488355328→ACalls Tryz.prog 30 [.ptr 0 0,str c] [sbW 71 u 0 1 l.length [],sbB 5 l] (fun x σ=>x=.ret (.tup [i64 c.length,.lit .nilIface])∧σ=[sbW 71 true 0 2 (l++c).length [],.dead,sbB 5 (l++c)]):=fun u l c h=>zhp u l c [] cp_B rfl h
 have hql:∀ k,(quoT (s.take k)).length≤6000000000:=fun k=>by
  have:=zir (s.take k)
  rw [List.length_take] at this
  omega
 refine ACalls.body T_ok Tryz.func15 (by kernel_rfl) rfl Tryz.ntmps15 (congrArg Array.toList Tryz.results15) ?_
 refine aQ39 ?_
 rw [show sbA 71 false 0 1 0=sbW 71 false 0 1 ([]:List UInt8).length [] from rfl]
 refine ACalls.frame ([0,1]) (hb false [] 34 (by simp)) rfl (by decide) (by simp [LM11,zah,zad,renL,AV.ren,AEnd.ren,List.getElem?_cons_zero,List.getElem?_cons_succ]) (by first | rfl | simp [LM11,zah,zad,renL,AV.ren,AEnd.ren,List.getElem?_cons_zero,List.getElem?_cons_succ]) ?_
 rintro _ _ ⟨rfl,rfl⟩
 refine⟨.ret (.lit .nilIface),[sbW 71 true 0 2 ([]++[34]:List UInt8).length [],.dead,sbB 5 ([]++[34])],(aQ2 ([0,1,2])),(aQ9 ([0,1,2])),?_⟩
 refine aQ39 ?_
 rw [za6]
 refine⟨Nat,fun k=>k≤s.length,fun k=>[str s,.bot,.bot,.ptr 0 0,.bot,.bot,.bot,.bot,i64 s.length,i64 k,.bot,.bot,.bot,.bot,.bot,.bot,.bot,.bot,.bot,.bot,.bot,.bot,.bot,.bot,.bot,.bot,.bot,.bot,.bot,.bot,.bot,.bot,.bot,.bot,.bot,.bot,.bot,.bot,.bot,.bot,.bot,.bot,.bot,.bot,.bot,.bot],fun k=>[sbW 71 true 0 2 (34::quoT (s.take k)).length [],.dead,sbB 5 (34::quoT (s.take k))],fun k=>s.length - k,0,Nat.zero_le _,zak (q:=[0,1,2]) rfl rfl (by decide) ?_ ?_,?_⟩
 ·refine aQ27 ?_
  exact .inr rfl
 ·simp [zah,zex,zev,renL,quoT,bren_dead]
 ·intro k hk
  have hacc:=hql k
  have hal:(34::quoT (s.take k)).length≤6000000001:=by simp;omega
  obtain⟨acc,hA⟩:∃ acc,acc=34::quoT (s.take k):=⟨_,rfl⟩
  dsimp only
  rw [← hA] at hal ⊢
  refine aQ39 ?_
  refine⟨fun hlt=>?_,fun hge=>?_⟩
  ·have hks:k < s.length:=by omega
   have hsucc:=quoT_succ hks
   have hqb:=quoB_le (s.getD k 0)
   have hfin:∀ x,quoB (s.getD k 0)=x→acc++x=34::quoT (s.take (k+1)):=fun x hx=>by rw [hsucc,hA,← hx];rfl
   obtain⟨c,hc⟩:∃ c,s.getD k 0=c:=⟨_,rfl⟩
   rw [hc] at hqb hfin ⊢
   have u1:UInt8.ofNat 34=34:=rfl
   have u2:UInt8.ofNat 92=92:=rfl
   have u3:(UInt8.ofNat 32).toNat=32:=rfl
   have u4:(UInt8.ofNat 127).toNat=127:=rfl
   repeat (with_reducible refine And.intro aQ15 ?_)
   have esc:c=34∨c=92→acc++[92]++[c]=34::quoT (s.take (k+1)):=fun h=>by
    rw [← hfin [92,c] (by rw [quoB,if_pos h])]
    simp
   by_cases e1:c=34
   ·try simp -implicitDefEqProofs only [LM8,LB11,eq_self,za2 (T:=T) 71 68 69 5 rfl,zag,zaf,zaJ,u1,u2,decide_eq_true e1,TB,SB,Int.reduceToNat,Nat.reduceAdd,Nat.reduceEqDiff,Nat.reduceLT,Nat.reduceMod,Nat.reducePow,Nat.reduceSub,if_true,reduceIte]
    refine ACalls.frame ([0,2]) (hb true acc 92 (by omega)) rfl (by decide) (by simp [LM11,zah,zad,renL,AV.ren,AEnd.ren,List.getElem?_cons_zero,List.getElem?_cons_succ]) (by first | rfl | simp [LM11,zah,zad,renL,AV.ren,AEnd.ren,List.getElem?_cons_zero,List.getElem?_cons_succ]) ?_
    rintro _ _ ⟨rfl,rfl⟩
    refine⟨.ret (.lit .nilIface),[sbW 71 true 0 3 (acc++[92]).length [],.dead,.dead,sbB 5 (acc++[92])],(aQ2 ([0,3,1,2])),(aQ9 ([0,3,1,2])),?_⟩
    refine aQ39 ?_
    refine ACalls.frame ([0,3]) (hb true (acc++[92]) c (by simp;omega)) rfl (by decide) (by simp [LM11,zah,zad,renL,AV.ren,AEnd.ren,List.getElem?_cons_zero,List.getElem?_cons_succ]) (by first | rfl | simp [LM11,zah,zad,renL,AV.ren,AEnd.ren,List.getElem?_cons_zero,List.getElem?_cons_succ]) ?_
    rintro _ _ ⟨rfl,rfl⟩
    refine⟨.ret (.lit .nilIface),[sbW 71 true 0 4 (acc++[92]++[c]).length [],.dead,.dead,.dead,sbB 5 (acc++[92]++[c])],(aQ2 ([0,3,3,1,2])),(aQ9 ([0,3,3,1,2])),?_⟩
    refine aQ39 ?_
    repeat (with_reducible refine And.intro aQ15 ?_)
    rw [zam]
    refine⟨k+1,by omega,by (show s.length - (k+1) < s.length - k);omega,zak (q:=[0,1,4]) rfl rfl (by decide) ?_ ?_⟩
    ·refine aQ27 ?_
     try exact .inr (by omega)
    ·(show zah _ _ _ [sbW 71 true 0 2 (34::quoT (s.take (k+1))).length [],.dead,sbB 5 (34::quoT (s.take (k+1)))])
     rw [← esc (.inl e1)]
     exact ziT rfl rfl
   ·by_cases e2:c=92
    ·try simp -implicitDefEqProofs only [LM8,LB11,eq_self,za2 (T:=T) 71 68 69 5 rfl,zag,zaf,zaJ,u1,u2,decide_eq_false e1,decide_eq_true e2,TB,SB,Int.reduceToNat,Nat.reduceAdd,Nat.reduceEqDiff,Nat.reduceLT,Nat.reduceMod,Nat.reducePow,Nat.reduceSub,if_true,reduceIte]
     refine ACalls.frame ([0,2]) (hb true acc 92 (by omega)) rfl (by decide) (by simp [LM11,zah,zad,renL,AV.ren,AEnd.ren,List.getElem?_cons_zero,List.getElem?_cons_succ]) (by first | rfl | simp [LM11,zah,zad,renL,AV.ren,AEnd.ren,List.getElem?_cons_zero,List.getElem?_cons_succ]) ?_
     rintro _ _ ⟨rfl,rfl⟩
     refine⟨.ret (.lit .nilIface),[sbW 71 true 0 3 (acc++[92]).length [],.dead,.dead,sbB 5 (acc++[92])],(aQ2 ([0,3,1,2])),(aQ9 ([0,3,1,2])),?_⟩
     refine aQ39 ?_
     refine ACalls.frame ([0,3]) (hb true (acc++[92]) c (by simp;omega)) rfl (by decide) (by simp [LM11,zah,zad,renL,AV.ren,AEnd.ren,List.getElem?_cons_zero,List.getElem?_cons_succ]) (by first | rfl | simp [LM11,zah,zad,renL,AV.ren,AEnd.ren,List.getElem?_cons_zero,List.getElem?_cons_succ]) ?_
     rintro _ _ ⟨rfl,rfl⟩
     refine⟨.ret (.lit .nilIface),[sbW 71 true 0 4 (acc++[92]++[c]).length [],.dead,.dead,.dead,sbB 5 (acc++[92]++[c])],(aQ2 ([0,3,3,1,2])),(aQ9 ([0,3,3,1,2])),?_⟩
     refine aQ39 ?_
     repeat (with_reducible refine And.intro aQ15 ?_)
     rw [zam]
     refine⟨k+1,by omega,by (show s.length - (k+1) < s.length - k);omega,zak (q:=[0,1,4]) rfl rfl (by decide) ?_ ?_⟩
     ·refine aQ27 ?_
      try exact .inr (by omega)
     ·(show zah _ _ _ [sbW 71 true 0 2 (34::quoT (s.take (k+1))).length [],.dead,sbB 5 (34::quoT (s.take (k+1)))])
      rw [← esc (.inr e2)]
      exact ziT rfl rfl
    ·try simp -implicitDefEqProofs only [LM8,LB11,eq_self,za2 (T:=T) 71 68 69 5 rfl,zag,zaf,zaJ,u1,u2,decide_eq_false e1,decide_eq_false e2,TB,SB,Int.reduceToNat,Nat.reduceAdd,Nat.reduceEqDiff,Nat.reduceLT,Nat.reduceMod,Nat.reducePow,Nat.reduceSub,if_true,reduceIte]
     have hne:¬ (c=34∨c=92):=fun h=>h.elim e1 e2
     by_cases e3:32≤c.toNat∧c.toNat < 127
     ·have d3:=decide_eq_true (show ((UInt8.ofNat 32).toNat:Int)≤(c.toNat:Int) by rw [u3];omega)
      have d4:=decide_eq_true (show (c.toNat:Int) < ((UInt8.ofNat 127).toNat:Int) by rw [u4];omega)
      try simp -implicitDefEqProofs only [LM8,LB11,eq_self,za2 (T:=T) 71 68 69 5 rfl,zag,zaf,zaJ,d3,d4,TB,SB,Int.reduceToNat,Nat.reduceAdd,Nat.reduceEqDiff,Nat.reduceLT,Nat.reduceMod,Nat.reducePow,Nat.reduceSub,if_true,reduceIte]
      refine ACalls.frame ([0,2]) (hb true acc c (by omega)) rfl (by decide) (by simp [LM11,zah,zad,renL,AV.ren,AEnd.ren,List.getElem?_cons_zero,List.getElem?_cons_succ]) (by first | rfl | simp [LM11,zah,zad,renL,AV.ren,AEnd.ren,List.getElem?_cons_zero,List.getElem?_cons_succ]) ?_
      rintro _ _ ⟨rfl,rfl⟩
      refine⟨.ret (.lit .nilIface),[sbW 71 true 0 3 (acc++[c]).length [],.dead,.dead,sbB 5 (acc++[c])],(aQ2 ([0,3,1,2])),(aQ9 ([0,3,1,2])),?_⟩
      refine aQ39 ?_
      repeat (with_reducible refine And.intro aQ15 ?_)
      rw [zam]
      refine⟨k+1,by omega,by (show s.length - (k+1) < s.length - k);omega,zak (q:=[0,1,3]) rfl rfl (by decide) ?_ ?_⟩
      ·refine aQ27 ?_
       try exact .inr (by omega)
      ·(show zah _ _ _ [sbW 71 true 0 2 (34::quoT (s.take (k+1))).length [],.dead,sbB 5 (34::quoT (s.take (k+1)))])
       rw [← hfin [c] (by rw [quoB,if_neg hne,if_pos e3])]
       exact ziT rfl rfl
     ·have h8:=c.toNat_lt
      have hx:=hfin _ (by rw [quoB,if_neg hne,if_neg e3])
      by_cases e5:32≤c.toNat
      ·have d3:=decide_eq_true (show ((UInt8.ofNat 32).toNat:Int)≤(c.toNat:Int) by rw [u3];omega)
       have d4:=decide_eq_false (show ¬ (c.toNat:Int) < ((UInt8.ofNat 127).toNat:Int) by rw [u4];omega)
       try simp -implicitDefEqProofs only [LM8,LB11,eq_self,za2 (T:=T) 71 68 69 5 rfl,zag,zaf,zaJ,d3,d4,TB,SB,Int.reduceToNat,Nat.reduceAdd,Nat.reduceEqDiff,Nat.reduceLT,Nat.reduceMod,Nat.reducePow,Nat.reduceSub,if_true,reduceIte]
       refine ACalls.frame ([0,2]) (hw true acc [92,117,48,48] (by simp;omega)) rfl (by decide) (by simp [LM11,zah,zad,renL,AV.ren,AEnd.ren,List.getElem?_cons_zero,List.getElem?_cons_succ]) (by first | rfl | simp [LM11,zah,zad,renL,AV.ren,AEnd.ren,List.getElem?_cons_zero,List.getElem?_cons_succ]) ?_
       rintro _ _ ⟨rfl,rfl⟩
       refine⟨.ret (.tup [i64 ([92,117,48,48]:List UInt8).length,.lit .nilIface]),[sbW 71 true 0 3 (acc++[92,117,48,48]).length [],.dead,.dead,sbB 5 (acc++[92,117,48,48])],(aQ2 ([0,3,1,2])),(aQ9 ([0,3,1,2])),?_⟩
       refine aQ39 ?_
       refine aQ40 ?_
       repeat (with_reducible refine And.intro aQ15 ?_)
       refine ACalls.frame ([0,3]) (hb true (acc++[92,117,48,48]) (hexL.getD (c.toNat / 16) 0) (by simp;omega)) rfl (by decide) (by simp [LM11,zah,zad,renL,AV.ren,AEnd.ren,List.getElem?_cons_zero,List.getElem?_cons_succ]) (by first | rfl | simp [LM11,zah,zad,renL,AV.ren,AEnd.ren,List.getElem?_cons_zero,List.getElem?_cons_succ]) ?_
       rintro _ _ ⟨rfl,rfl⟩
       refine⟨.ret (.lit .nilIface),[sbW 71 true 0 4 (acc++[92,117,48,48]++[hexL.getD (c.toNat / 16) 0]).length [],.dead,.dead,.dead,sbB 5 (acc++[92,117,48,48]++[hexL.getD (c.toNat / 16) 0])],(aQ2 ([0,3,3,1,2])),(aQ9 ([0,3,3,1,2])),?_⟩
       refine aQ39 ?_
       refine aQ41 ?_
       repeat (with_reducible refine And.intro aQ15 ?_)
       refine ACalls.frame ([0,4]) (hb true (acc++[92,117,48,48]++[hexL.getD (c.toNat / 16) 0]) (hexL.getD (c.toNat % 16) 0) (by simp;omega)) rfl (by decide) (by simp [LM11,zah,zad,renL,AV.ren,AEnd.ren,List.getElem?_cons_zero,List.getElem?_cons_succ]) (by first | rfl | simp [LM11,zah,zad,renL,AV.ren,AEnd.ren,List.getElem?_cons_zero,List.getElem?_cons_succ]) ?_
       rintro _ _ ⟨rfl,rfl⟩
       refine⟨.ret (.lit .nilIface),[sbW 71 true 0 5 (acc++[92,117,48,48]++[hexL.getD (c.toNat / 16) 0]++[hexL.getD (c.toNat % 16) 0]).length [],.dead,.dead,.dead,.dead,sbB 5 (acc++[92,117,48,48]++[hexL.getD (c.toNat / 16) 0]++[hexL.getD (c.toNat % 16) 0])],(aQ2 ([0,3,3,3,1,2])),(aQ9 ([0,3,3,3,1,2])),?_⟩
       refine aQ39 ?_
       repeat (with_reducible refine And.intro aQ15 ?_)
       have hx2:acc++[92,117,48,48]++[hexL.getD (c.toNat / 16) 0]++[hexL.getD (c.toNat % 16) 0]=34::quoT (s.take (k+1)):=by rw [← hx];simp [hexD]
       rw [zam]
       refine⟨k+1,by omega,by (show s.length - (k+1) < s.length - k);omega,zak (q:=[0,1,5]) rfl rfl (by decide) ?_ ?_⟩
       ·refine aQ27 ?_
        try exact .inr (by omega)
       ·(show zah _ _ _ [sbW 71 true 0 2 (34::quoT (s.take (k+1))).length [],.dead,sbB 5 (34::quoT (s.take (k+1)))])
        rw [← hx2]
        exact ziT rfl rfl
      ·have d3:=decide_eq_false (show ¬ ((UInt8.ofNat 32).toNat:Int)≤(c.toNat:Int) by rw [u3];omega)
       try simp -implicitDefEqProofs only [LM8,LB11,eq_self,za2 (T:=T) 71 68 69 5 rfl,zag,zaf,zaJ,d3,TB,SB,Int.reduceToNat,Nat.reduceAdd,Nat.reduceEqDiff,Nat.reduceLT,Nat.reduceMod,Nat.reducePow,Nat.reduceSub,if_true,reduceIte]
       refine ACalls.frame ([0,2]) (hw true acc [92,117,48,48] (by simp;omega)) rfl (by decide) (by simp [LM11,zah,zad,renL,AV.ren,AEnd.ren,List.getElem?_cons_zero,List.getElem?_cons_succ]) (by first | rfl | simp [LM11,zah,zad,renL,AV.ren,AEnd.ren,List.getElem?_cons_zero,List.getElem?_cons_succ]) ?_
       rintro _ _ ⟨rfl,rfl⟩
       refine⟨.ret (.tup [i64 ([92,117,48,48]:List UInt8).length,.lit .nilIface]),[sbW 71 true 0 3 (acc++[92,117,48,48]).length [],.dead,.dead,sbB 5 (acc++[92,117,48,48])],(aQ2 ([0,3,1,2])),(aQ9 ([0,3,1,2])),?_⟩
       refine aQ39 ?_
       refine aQ40 ?_
       repeat (with_reducible refine And.intro aQ15 ?_)
       refine ACalls.frame ([0,3]) (hb true (acc++[92,117,48,48]) (hexL.getD (c.toNat / 16) 0) (by simp;omega)) rfl (by decide) (by simp [LM11,zah,zad,renL,AV.ren,AEnd.ren,List.getElem?_cons_zero,List.getElem?_cons_succ]) (by first | rfl | simp [LM11,zah,zad,renL,AV.ren,AEnd.ren,List.getElem?_cons_zero,List.getElem?_cons_succ]) ?_
       rintro _ _ ⟨rfl,rfl⟩
       refine⟨.ret (.lit .nilIface),[sbW 71 true 0 4 (acc++[92,117,48,48]++[hexL.getD (c.toNat / 16) 0]).length [],.dead,.dead,.dead,sbB 5 (acc++[92,117,48,48]++[hexL.getD (c.toNat / 16) 0])],(aQ2 ([0,3,3,1,2])),(aQ9 ([0,3,3,1,2])),?_⟩
       refine aQ39 ?_
       refine aQ41 ?_
       repeat (with_reducible refine And.intro aQ15 ?_)
       refine ACalls.frame ([0,4]) (hb true (acc++[92,117,48,48]++[hexL.getD (c.toNat / 16) 0]) (hexL.getD (c.toNat % 16) 0) (by simp;omega)) rfl (by decide) (by simp [LM11,zah,zad,renL,AV.ren,AEnd.ren,List.getElem?_cons_zero,List.getElem?_cons_succ]) (by first | rfl | simp [LM11,zah,zad,renL,AV.ren,AEnd.ren,List.getElem?_cons_zero,List.getElem?_cons_succ]) ?_
       rintro _ _ ⟨rfl,rfl⟩
       refine⟨.ret (.lit .nilIface),[sbW 71 true 0 5 (acc++[92,117,48,48]++[hexL.getD (c.toNat / 16) 0]++[hexL.getD (c.toNat % 16) 0]).length [],.dead,.dead,.dead,.dead,sbB 5 (acc++[92,117,48,48]++[hexL.getD (c.toNat / 16) 0]++[hexL.getD (c.toNat % 16) 0])],(aQ2 ([0,3,3,3,1,2])),(aQ9 ([0,3,3,3,1,2])),?_⟩
       refine aQ39 ?_
       repeat (with_reducible refine And.intro aQ15 ?_)
       have hx2:acc++[92,117,48,48]++[hexL.getD (c.toNat / 16) 0]++[hexL.getD (c.toNat % 16) 0]=34::quoT (s.take (k+1)):=by rw [← hx];simp [hexD]
       rw [zam]
       refine⟨k+1,by omega,by (show s.length - (k+1) < s.length - k);omega,zak (q:=[0,1,5]) rfl rfl (by decide) ?_ ?_⟩
       ·refine aQ27 ?_
        try exact .inr (by omega)
       ·(show zah _ _ _ [sbW 71 true 0 2 (34::quoT (s.take (k+1))).length [],.dead,sbB 5 (34::quoT (s.take (k+1)))])
        rw [← hx2]
        exact ziT rfl rfl
  ·obtain rfl:k=s.length:=by omega
   rw [List.take_length] at hA
   subst hA
   refine ACalls.frame ([0,2]) (hb true (34::quoT s) 34 (by omega)) rfl (by decide) (by simp [LM11,zah,zad,renL,AV.ren,AEnd.ren,List.getElem?_cons_zero,List.getElem?_cons_succ]) (by first | rfl | simp [LM11,zah,zad,renL,AV.ren,AEnd.ren,List.getElem?_cons_zero,List.getElem?_cons_succ]) ?_
   rintro _ _ ⟨rfl,rfl⟩
   refine⟨.ret (.lit .nilIface),[sbW 71 true 0 3 (34::quoT s++[34]).length [],.dead,.dead,sbB 5 (34::quoT s++[34])],(aQ2 ([0,3,1,2])),(aQ9 ([0,3,1,2])),?_⟩
   refine aQ39 ?_
   refine bstr_w (u:=true) (k:=3) (l:=34::quoT s++[34]) (r:=[]) rfl rfl (by rw [List.length_append,List.length_singleton];omega) ?_
   refine aQ39 ?_
   exact zaz (zar _ _) rfl
end Go.Proofs.YtnghkomgefieoaaGreatDoor
end

section
namespace Go.Proofs.YtnghkomgefieoaaGreatDoor
open Go Go.Eng
set_option linter.defProp false in
def LB13:=And.intro @sbW_dead (@sbB_dead)
set_option linter.defProp false in
def LM3:=And.intro LB3 (And.intro LB8 (And.intro LB12 (LB13)))
def apV (m:Bool):AV:=.fn (.func (if m then 35 else 32)) [.ptr 0 0] []
def sR (m:Bool) (b:Int) (cl:List UInt8) (R:List Nd) (p o:Int):List AV:=[.sl (R.flatMap nC) R.length,i64 p,i64 b,i64 o,apV m,str cl]
theorem zan {q:List Nat} (h:q[0]?=some 0) (m:Bool) (b:Int) (cl:List UInt8) (R:List Nd) (p o:Int):renL q (sR m b cl R p o)=some (sR m b cl R p o):=by
 simp [sR,apV,renL,AV.ren,zbF,zaq,zar,h]
section
variable {m : Bool} {b o : Int} {cl : List UInt8} {R : List Nd} {p : Int} {x : AV} {k n : Nat} {K : AV → Prop} {KS : AV → zab → Prop} {σ : zab} {id : Nat}
theorem fa_h0:zat T 78 (.ptr id 0) 0 K=K (.ptr id 0):=by simp [zat,T78,tySw,T71,ziQ]
theorem fa_h1:zat T 78 (.ptr id 0) 1 K=K (.ptr id 2):=by simp [zat,T78,tySw,T22,tySl]
theorem fa_h2:zat T 78 (.ptr id 0) 2 K=K (.ptr id 3):=by simp [zat,T78,tySw,T3,za4]
theorem fa_h3:zat T 78 (.ptr id 0) 3 K=K (.ptr id 4):=by simp [zat,T78,tySw,T3,za4]
theorem fa_h4:zat T 78 (.ptr id 0) 4 K=K (.ptr id 5):=by simp [zat,T78,tySw,T3,za4]
theorem fa_h5:zat T 78 (.ptr id 0) 5 K=K (.ptr id 6):=by simp [zat,T78,tySw,T1,tyFn]
theorem fa_h6:zat T 78 (.ptr id 0) 6 K=K (.ptr id 7):=by simp [zat,T78,tySw,T9,tyStr]
theorem rd_w (tb:TypeId) (u:Bool) (id k n:Nat) (r:List AV) (X:zab):rd (sbW tb u id k n r::X) 0=some ((if u then .ptr id 0 else .lit (.pointer none))::.bsl k n::r):=rfl
theorem ld_h1 (e:TypeId):ld2 (some (tySl e)) (some (x::.bsl k n::sR m b cl R p o)) 2 K=K (.sl (R.flatMap nC) R.length):=by simp [ld2,wfin,tySl,TD.agg,sR]
theorem ld_h2:ld2 (some za4) (some (x::.bsl k n::sR m b cl R p o)) 3 K=K (i64 p):=by simp [ld2,wfin,za4,TD.agg,sR]
theorem ld_h3:ld2 (some za4) (some (x::.bsl k n::sR m b cl R p o)) 4 K=K (i64 b):=by simp [ld2,wfin,za4,TD.agg,sR]
theorem ld_h4:ld2 (some za4) (some (x::.bsl k n::sR m b cl R p o)) 5 K=K (i64 o):=by simp [ld2,wfin,za4,TD.agg,sR]
theorem ld_h5:ld2 (some tyFn) (some (x::.bsl k n::sR m b cl R p o)) 6 K=K (apV m):=by simp [ld2,wfin,tyFn,TD.agg,sR]
theorem ld_h6:ld2 (some tyStr) (some (x::.bsl k n::sR m b cl R p o)) 7 K=K (str cl):=by simp [ld2,wfin,tyStr,TD.agg,sR]
theorem st_h2 (u:Bool) (q:Int):st2 (some za4) (some (sbW 78 u 0 k n (sR m b cl R p o))) id 3 (i64 q) σ KS=KS (.lit undef) (σ.set id (sbW 78 u 0 k n (sR m b cl R q o))):=by
 simp [st2,za4,sbW,sR,AV.cells,AV.one,Value.oneCell',za5,i64]
theorem st_h4 (u:Bool) (q:Int):st2 (some za4) (some (sbW 78 u 0 k n (sR m b cl R p o))) id 5 (i64 q) σ KS=KS (.lit undef) (σ.set id (sbW 78 u 0 k n (sR m b cl R p q))):=by
 simp [st2,za4,sbW,sR,AV.cells,AV.one,Value.oneCell',za5,i64]
end
theorem keep_s {l:List UInt8} {r:List AV} {u:Bool} {rest:zab} {x:AV} {K:AV→zab→Prop} (hr:renL [0,1] r=some r) (hx:x.ren [0,1]=some x) (h:K x (wI 78 u l r)):endQ 2 x (sbW 78 u 0 1 l.length r::sbB 5 l::rest) K:=by
 refine zeE [0,1] x (wI 78 u l r) rfl rfl (by decide) hx ?_ h
 refine⟨.inr ⟨_,?_,rfl⟩,.inr ⟨_,zev _ _ _,rfl⟩,trivial⟩
 rw [zex _ _ _ _ _ _ _ (by decide)]
 simp [hr]
theorem zfg {l:List UInt8} {r:List AV} {k:Nat} {σ:zab} {x:AV} {K:AV→zab→Prop} (h0:σ[0]?=some (sbW 78 true 0 k l.length r)) (hk:σ[k]?=some (sbB 5 l)) (hk1:1 < k) (hr:renL [0,1,k] r=some r) (hx:x.ren [0,1,k]=some x) (h:K x (wO 78 l r)):endQ 2 x σ K:=by
 refine zeE [0,1,k] x (wO 78 l r) rfl rfl ?_ hx ?_ h
 ·refine List.nodup_cons.2 ⟨?_,List.nodup_cons.2 ⟨?_,by simp⟩⟩
  ·simp;omega
  ·simp;omega
 refine⟨.inr ⟨_,?_,h0⟩,.inl rfl,.inr ⟨_,zev _ _ _,hk⟩,trivial⟩
 rw [zex _ _ _ _ _ _ _ (by simp)]
 simp [hr]
theorem snext_ok (u:Bool) (l:List UInt8) (m:Bool) (b o:Int) (cl:List UInt8) (R:List Nd) (p:Nat) (hp:p < R.length) (hR:R.length≤1000000):ACalls Tryz.prog 48 [.ptr 0 0] [sbW 78 u 0 1 l.length (sR m b cl R p o),sbB 5 l] (fun x σ=>x=.ret (nA (R.getD p n0d))∧σ=[sbW 78 u 0 1 l.length (sR m b cl R ((p+1:Nat):Int) o),sbB 5 l]):=by
 refine ACalls.body T_ok Tryz.func48 (by kernel_rfl) rfl Tryz.ntmps48 (congrArg Array.toList Tryz.results48) ?_
 refine aQ42 ?_
 refine⟨by unfold inI;omega,?_⟩
 refine zcd [11] (by kernel_rfl) (by kernel_rfl) (by kernel_rfl) ?_
 refine aQ42 ?_
 have e1:((p:Int)+1 - 1).toNat=p:=by omega
 refine⟨by unfold inI;omega,by omega,by omega,Nat.le_refl _,by omega,?_⟩
 rw [e1]
 exact keep_s (zan rfl _ _ _ _ _ _) (ren_nA _ _) ⟨rfl,by simp [wI]⟩
theorem zeQ (σ : zab) : ACalls Tryz.prog 32 [.ptr 0 0] σ (fun x σ' => x = .ret (.tup []) ∧ σ' = σ) := by
 refine ACalls.body T_ok Tryz.func32 (by kernel_rfl) rfl Tryz.ntmps32 (congrArg Array.toList Tryz.results32) ?_
 refine aQ42 ?_
 exact zau ⟨rfl,rfl⟩
def apS (m:Bool) (b:Nat) (o:Nat):List UInt8:=if m then 10::List.replicate (b * o) 32 else []
theorem zeR (u:Bool) (l:List UInt8) (b o:Nat) (hb:b≤8) (ho:o≤1000000) (cl:List UInt8) (R:List Nd) (p:Int) (hl:l.length≤100000000000):ACalls Tryz.prog 35 [.ptr 0 0] [sbW 78 u 0 1 l.length (sR true b cl R p o),sbB 5 l] (fun x σ=>x=.ret (.tup [])∧σ=[sbW 78 true 0 2 (l++apS true b o).length (sR true b cl R p o),.dead,sbB 5 (l++apS true b o)]):=by
 have hbo:b * o≤8000000:=Nat.mul_le_mul hb ho
 have h1:=zdo u l 10 (sR true b cl R p o) cp_S rfl (fun q _ h=>zan h _ _ _ _ _ _) (by omega)
 have h2:=zhp true (l++[10]) (List.replicate (b * o) 32) (sR true b cl R p o) cp_S rfl (by simp;omega)
 unfold wI wO at h1 h2
 refine ACalls.body T_ok Tryz.func35 (by kernel_rfl) rfl Tryz.ntmps35 (congrArg Array.toList Tryz.results35) ?_
 refine aQ42 ?_
 refine ACalls.frame ([0,1]) (h1) rfl (by decide) (by simp [LM3,zah,zad,renL,AV.ren,AEnd.ren,zan,List.getElem?_cons_zero,List.getElem?_cons_succ]) (by first | rfl | simp [LM3,zah,zad,renL,AV.ren,AEnd.ren,zan,List.getElem?_cons_zero,List.getElem?_cons_succ]) ?_
 rintro _ _ ⟨rfl,rfl⟩
 refine⟨.ret (.lit .nilIface),[sbW 78 true 0 2 (l++[10]).length (sR true b cl R p o),.dead,sbB 5 (l++[10])],(aQ3 ([0,1,2])),(aQ10 ([0,1,2])),?_⟩
 refine aQ42 ?_
 refine zcd [13] (by kernel_rfl) (by kernel_rfl) (by kernel_rfl) ?_
 refine aQ42 ?_
 repeat (with_reducible refine And.intro aQ15 ?_)
 have hm:(b:Int) * (o:Int)=((b * o:Nat):Int):=by rw [Int.natCast_mul]
 rw [hm]
 refine zcM (repeat_ok 32 (b * o) (by omega)) (by simp [renL,zar,zaq]) (zar _ _) ?_
 refine aQ42 ?_
 refine ACalls.frame ([0,2]) (h2) rfl (by decide) (by simp [LM3,zah,zad,renL,AV.ren,AEnd.ren,zan,List.getElem?_cons_zero,List.getElem?_cons_succ]) (by first | rfl | simp [LM3,zah,zad,renL,AV.ren,AEnd.ren,zan,List.getElem?_cons_zero,List.getElem?_cons_succ]) ?_
 rintro _ _ ⟨rfl,rfl⟩
 refine⟨.ret (.tup [i64 (List.replicate (b * o) (32:UInt8)).length,.lit .nilIface]),[sbW 78 true 0 3 (l++[10]++List.replicate (b * o) 32).length (sR true b cl R p o),.dead,.dead,sbB 5 (l++[10]++List.replicate (b * o) 32)],(aQ3 ([0,3,1,2])),(aQ10 ([0,3,1,2])),?_⟩
 refine aQ42 ?_
 have e:l++[10]++List.replicate (b * o) 32=l++apS true b o:=by simp [apS]
 rw [e]
 exact zfg (k:=3) rfl rfl (by decide) (zan rfl _ _ _ _ _ _) rfl ⟨rfl,rfl⟩
end Go.Proofs.YtnghkomgefieoaaGreatDoor
end

