/-
  Values are put. No condition.
-/
import Derived.Test.YtcahoelfogjljaaGreatDoorTerA
import Derived.Test.YtcahoelfogjljaaGreatDoorLib
set_option linter.unusedSimpArgs false
set_option linter.unusedVariables false
set_option linter.unusedSectionVars false
section
namespace Go.Eng
open Go
theorem aQ1 {a b:zaa} {c:Nat} {d:zaa} (p:List Nat) (e:zaH a b p p c d:=by simp [LM3,zao,zaH,zaw,zax,renL,AV.ren,AEnd.ren,zan,wI,wO,zag,zak,List.getElem?_cons_zero,List.getElem?_cons_succ]):zaH a b p p c d:=e
theorem aQ2 {a b:AEnd} (p:List Nat) (e:AEnd.ren p a b:=by first | rfl | simp [LM3,zao,zaH,zaw,zax,renL,AV.ren,AEnd.ren,zan,wI,wO,zag,zak,List.getElem?_cons_zero,List.getElem?_cons_succ]):AEnd.ren p a b:=e
theorem aQ5 {P:Prop} (e:P:=by first | rfl | simp [AEnd.noid,AV.ren,renL,zb8,zb7,zbX,zbx,zae,zak,zah]):P:=e
theorem aQ6 {P:Prop} (e:P:=by simp [AV.ren,renL,zah,zae]):P:=e
theorem aQ24 {P Q:Prop} (h:Q) (e:P=Q:=by first|(simp -implicitDefEqProofs only [LM6,LB10,eq_self,TB,SB,Int.reduceToNat,Nat.reduceAdd,Nat.reduceEqDiff,Nat.reduceLT,Nat.reduceMod,Nat.reducePow,Nat.reduceSub,if_true,reduceIte];first|done|exact rfl)|exact rfl):P:=e ▸ h
theorem aQ25 {P Q:Prop} (h:Q) (e:P=Q:=by first|(simp -implicitDefEqProofs only [LM6,LB10,eq_self,zdU,fa_w0 T111,fa_w1 T111,fa_w2 T111,fa_w3 T111,rd_w,ld_w1,ld_w2,st_w2,zi6,TB,SB,Int.reduceToNat,Nat.reduceAdd,Nat.reduceEqDiff,Nat.reduceLT,Nat.reduceMod,Nat.reducePow,Nat.reduceSub,if_true,reduceIte];first|done|exact rfl)|exact rfl):P:=e ▸ h
theorem aQ26 {P Q:Prop} (h:Q) (e:P=Q:=by first|(simp -implicitDefEqProofs only [LM1,eq_self,zdU,TB,SB,Int.reduceToNat,Nat.reduceAdd,Nat.reduceEqDiff,Nat.reduceLT,Nat.reduceMod,Nat.reducePow,Nat.reduceSub,if_true,reduceIte];first|done|exact rfl)|exact rfl):P:=e ▸ h
theorem aQ27 {P Q:Prop} (h:Q) (e:P=Q:=by first|(simp -implicitDefEqProofs only [LM6,LB6,LB10,LB15,eq_self,zdU,ldd_str0,TB,SB,Int.reduceToNat,Nat.reduceAdd,Nat.reduceEqDiff,Nat.reduceLT,Nat.reduceMod,Nat.reducePow,Nat.reduceSub,if_true,reduceIte];first|done|exact rfl)|exact rfl):P:=e ▸ h
theorem aQ28 {P Q:Prop} (h:Q) (e:P=Q:=by first|(simp -implicitDefEqProofs only [LM1,eq_self,zdU,bd_n2 T51,TB,SB,Int.reduceToNat,Nat.reduceAdd,Nat.reduceEqDiff,Nat.reduceLT,Nat.reduceMod,Nat.reducePow,Nat.reduceSub,if_true,reduceIte];first|done|exact rfl)|exact rfl):P:=e ▸ h
end Go.Eng
end

section
namespace Go.Proofs.YtcahoelfogjljaaGreatDoor
open Go Go.Eng
set_option linter.defProp false in
def LB10:=And.intro @len_bsl (And.intro @wsd_bsl (And.intro @Wop_us (And.intro @Qop_usd (And.intro @ofVal_nilIface ((fun {K}=>wfa_bld1 (T:=T) (K:=K) 107 104 105 5 rfl rfl))))))
def zil:Go.Shelf.Ren:=⟨fun | 240=>102 | 276=>134 | n=>n,fun | 70=>104 | 72=>107 | 9=>9 | 4=>4 | 20=>20 | 164=>173 | 37=>105 | 5=>5 | 0=>0 | n=>n,fun | n=>n⟩
theorem lays240:Go.Proofs.Lays.n240 Tryz.prog zil:={
 mixed:=by kernel_rfl
 f240:=Tryz.func102.trans (congrArg some (by kernel_rfl))
 f276:=Tryz.func134.trans (congrArg some (by kernel_rfl))
 t0:=Tryz.underlying0
 a0:=Tryz.isAgg0
 z0:=Tryz.sizeOf0
 v0:=Tryz.zeroValue0
 t4:=Tryz.underlying4
 a4:=Tryz.isAgg4
 z4:=Tryz.sizeOf4
 v4:=Tryz.zeroValue4
 t9:=Tryz.underlying9
 a9:=Tryz.isAgg9
 z9:=Tryz.sizeOf9
 v9:=Tryz.zeroValue9
 t20:=Tryz.underlying20
 a20:=Tryz.isAgg20
 z20:=Tryz.sizeOf20
 v20:=Tryz.zeroValue20
 t70:=Tryz.underlying104
 a70:=Tryz.isAgg104
 z70:=Tryz.sizeOf104
 v70:=Tryz.zeroValue104
 t72:=Tryz.underlying107
 a72:=Tryz.isAgg107
 z72:=Tryz.sizeOf107
 v72:=Tryz.zeroValue107
 t164:=Tryz.underlying173
 a164:=Tryz.isAgg173
 z164:=Tryz.sizeOf173
 v164:=Tryz.zeroValue173 }
theorem x72:Go.Proofs.Builder.X72 Tryz.prog zil:={
 sizeBuilder:=by kernel_rfl
 liesBuilder:=by kernel_rfl }
theorem zeD {u : Bool} {id k n : Nat} {r : List AV} (hN : r.length = 8) {σ : zaa} (hi : σ[id]? = some (sbW 111 u id k n r)) : ACalls Tryz.prog 102 [.ptr id 0] σ (fun x σ' => x = .ret (.tup []) ∧ σ' = σ.set id (sbW 111 true id k n r)) :=
 copyCheck_ofW (by kernel_rfl) (fun b w h0 h1 h2=>copyCheck_wide lays240 x72 (by omega) (by kernel_rfl) b w h0 h1 h2) (fun b w h0=>Go.Proofs.Any.Builder_copyCheck_used lays240 x72 b w h0) hN hi
def wwS (tb eb:TypeId) (σ:zaa) (id k:Nat) (l:List UInt8) (r:List AV):zaa:=((σ.set id (sbW tb true id σ.length l.length r)).set k .dead)++[sbB eb l]
theorem bws_w {u:Bool} {id k:Nat} {l s:List UInt8} {r:List AV} (hN:r.length=8) {σ:zaa} {K:AEnd→zaa→Prop} (hi:σ[id]?=some (sbW 111 u id k l.length r)) (hk:σ[k]?=some (sbB 5 l)) (hne:id≠k) (h:l.length+s.length≤140737488355328)
  (hK:K (.ret (.tup [i64 s.length,.lit .nilIface])) (wwS 111 5 σ id k (l++s) r)):ACalls Tryz.prog 103 [.ptr id 0,str s] σ K:=by
 have hil:id < σ.length:=(List.getElem?_eq_some_iff.1 hi).1
 have hkl:k < σ.length:=(List.getElem?_eq_some_iff.1 hk).1
 refine ACalls.body T_ok Tryz.func103 (by kernel_rfl) rfl Tryz.ntmps103 (congrArg Array.toList Tryz.results103) ?_
 refine aQ24 ?_
 refine(zeD hN hi).mono ?_
 rintro _ _ ⟨rfl,rfl⟩
 have h1:(σ.set id (sbW 111 true id k l.length r))[id]?=some (sbW 111 true id k l.length r):=by simp [hil]
 have h2:(σ.set id (sbW 111 true id k l.length r))[k]?=some (sbB 5 l):=by rw [List.getElem?_set_ne hne];exact hk
 have h3:rd (σ.set id (sbW 111 true id k l.length r)) id=some (.ptr id 0::.bsl k l.length::r):=rd_rtE h1
 try simp -implicitDefEqProofs only [LM6,LB10,eq_self,h3,Nat.zero_add,zdU,TB,SB,Int.reduceToNat,Nat.reduceAdd,Nat.reduceEqDiff,Nat.reduceLT,Nat.reduceMod,Nat.reducePow,Nat.reduceSub,if_true,reduceIte]
 refine ziZ (e:=5) rfl rfl rfl rfl tx_str rfl zkb (cs:=l.map u8) (xs:=s.map u8) h2 (by simp) (asrc_str s) (zcR u8 u8_one _) (zcR u8 u8_one _) (by omega) (by show _ * 1≤_;omega) ?_
 have h4:((σ.set id (sbW 111 true id k l.length r)).set k .dead++[Blk.rt false 5 (l.map u8++s.map u8)])[id]?=some (.rt true 111 (.ptr id 0::.bsl k l.length::r)):=by
  rw [List.getElem?_append_left (by simp [hil]),List.getElem?_set_ne (fun e=>hne e.symm)]
  exact h1
 try simp -implicitDefEqProofs only [LM6,LB10,eq_self,st_bslW _ _ _ _ _ _ _ _ _ h4,TB,SB,Int.reduceToNat,Nat.reduceAdd,Nat.reduceEqDiff,Nat.reduceLT,Nat.reduceMod,Nat.reducePow,Nat.reduceSub,if_true,reduceIte]
 refine zaO ?_
 have e1:((σ.set id (sbW 111 true id k l.length r)).set k .dead++[Blk.rt false 5 (l.map u8++s.map u8)]).set id (.rt true 111 (.ptr id 0::.bsl (σ.set id (sbW 111 true id k l.length r)).length (l.length+s.length)::r))=wwS 111 5 σ id k (l++s) r:=by
  rw [wwS,List.set_append,if_pos (by simp [hil]),List.set_comm _ _ (fun e=>hne e.symm),List.set_set]
  simp [sbW,sbB]
 rw [← e1] at hK
 exact hK
def wI (u:Bool) (l:List UInt8) (r:List AV):zaa:=[sbW 111 u 0 1 l.length r,sbB 5 l]
def wO (l:List UInt8) (r:List AV):zaa:=[sbW 111 true 0 2 l.length r,.dead,sbB 5 l]
theorem bws_ok (u:Bool) (l s:List UInt8) (r:List AV) (hN:r.length=8) (h:l.length+s.length≤140737488355328):ACalls Tryz.prog 103 [.ptr 0 0,str s] (wI u l r) (fun x σ=>x=.ret (.tup [i64 s.length,.lit .nilIface])∧σ=wO (l++s) r) :=
 bws_w hN rfl rfl (by omega) h ⟨rfl,rfl⟩
theorem zim {n0 : Nat} (q : List Nat) (r' : AV) (σ' : zaa) {r : AV} {σ : zaa} {K : AV → zaa → Prop} (h1 : q.length = σ'.length) (h2 : q.take n0 = List.range n0) (h3 : q.Nodup) (h4 : r'.ren q = some r) (h5 : zao σ q q σ') (h6 : K r' σ') : endQ n0 r σ K := .inl ⟨q, r', σ', h1, h2, h3, h4, h5, h6⟩
theorem zfw (u:Bool) (l:List UInt8) (c:UInt8) (r:List AV) (hN:r.length=8) (hr:∀ q:List Nat,0 < q.length→q[0]?=some 0→renL q r=some r) (h:l.length+1≤140737488355328):ACalls Tryz.prog 69 [.ptr 0 0,u8 c] (wI u l r) (fun x σ=>x=.ret (.lit .nilIface)∧σ=wO (l++[c]) r):=by
 refine ACalls.body T_ok Tryz.func69 (by kernel_rfl) rfl Tryz.ntmps69 (congrArg Array.toList Tryz.results69) ?_
 refine aQ24 ?_
 refine(zeD (u:=u) (k:=1) (n:=l.length) (r:=r) hN rfl).mono ?_
 rintro _ _ ⟨rfl,rfl⟩
 simp only [wI,List.set_cons_zero]
 have h3:rd [sbW 111 true 0 1 l.length r,sbB 5 l] 0=some (.ptr 0 0::.bsl 1 l.length::r):=rfl
 try simp -implicitDefEqProofs only [LM6,LB10,eq_self,h3,Nat.zero_add,zdU,TB,SB,Int.reduceToNat,Nat.reduceAdd,Nat.reduceEqDiff,Nat.reduceLT,Nat.reduceMod,Nat.reducePow,Nat.reduceSub,if_true,reduceIte]
 refine ziZ (e:=5) rfl rfl rfl rfl (zcS _) rfl zkb (cs:=l.map u8) (xs:=[u8 c]) rfl (by simp) rfl (zcR u8 u8_one _) rfl (by omega) (by show _ * 1≤_;omega) ?_
 have h4:∀ (k n:Nat) (σ:zaa) (KS:AV→zaa→Prop),st2 (some (tySl 5)) (some (sbW 111 true 0 1 l.length r)) 0 1 (.bsl k n) σ KS=KS (.lit undef) (σ.set 0 (.rt true 111 (.ptr 0 0::.bsl k n::r))):=fun _ _ _ _=>st_bslW _ _ _ _ _ _ _ _ _ rfl
 try simp -implicitDefEqProofs only [LM6,LB10,eq_self,h4,TB,SB,Int.reduceToNat,Nat.reduceAdd,Nat.reduceEqDiff,Nat.reduceLT,Nat.reduceMod,Nat.reducePow,Nat.reduceSub,if_true,reduceIte]
 refine zim [0,1,3] (.lit .nilIface) (wO (l++[c]) r) rfl rfl (by decide) rfl ?_ ⟨rfl,rfl⟩
 have e1:(sbW 111 true 0 2 (l++[c]).length r).ren [0,1,3]=some (.rt true 111 (.ptr 0 0::.bsl 3 (l.length+1)::r)):=by
  rw [zcV _ _ _ _ _ _ _ (by decide)]
  simp [hr [0,1,3] (by decide) rfl,sbW]
 have e2:(sbB 5 (l++[c])).ren [0,1,3]=some (.rt false 5 (l.map u8++[u8 c])):=by
  rw [zcT]
  simp [sbB]
 exact⟨.inr ⟨_,e1,rfl⟩,.inl rfl,.inr ⟨_,e2,rfl⟩,trivial⟩
theorem bstr_w {u:Bool} {id k:Nat} {l:List UInt8} {r:List AV} {σ:zaa} {K:AEnd→zaa→Prop} (hi:σ[id]?=some (sbW 111 u id k l.length r)) (hk:σ[k]?=some (sbB 5 l)) (h:l.length≤140737488355328)
  (hK:K (.ret (str l)) (σ.set k (sbC 5 l))):ACalls Tryz.prog 68 [.ptr id 0] σ K:=by
 have h3:rd σ id=some ((if u then .ptr id 0 else .lit (.pointer none))::.bsl k l.length::r):=rd_rtE hi
 refine ACalls.body T_ok Tryz.func68 (by kernel_rfl) rfl Tryz.ntmps68 (congrArg Array.toList Tryz.results68) ?_
 refine aQ24 ?_
 refine zdz [10] (by kernel_rfl) (by kernel_rfl) (by kernel_rfl) ?_
 try simp -implicitDefEqProofs only [LM6,LB10,eq_self,h3,Nat.zero_add,zdU,TB,SB,Int.reduceToNat,Nat.reduceAdd,Nat.reduceEqDiff,Nat.reduceLT,Nat.reduceMod,Nat.reducePow,Nat.reduceSub,if_true,reduceIte]
 refine wus_ok (e:=5) rfl rfl rfl (by omega) hk ?_
 refine aQ24 ?_
 exact zaO hK
end Go.Proofs.YtcahoelfogjljaaGreatDoor
end

section
namespace Go.Proofs.YtcahoelfogjljaaGreatDoor
open Go Go.Eng
def esc (s:List UInt8):List UInt8:=s.flatMap fun c=>if c=0 then [0,255] else [c]
def escT (s:List UInt8):List UInt8:=esc s++[0,0]
theorem esc_0 (s:List UInt8):esc (0::s)=0::255::esc s:=rfl
theorem esc_1 {c:UInt8} (h:c≠0) (s:List UInt8):esc (c::s)=c::esc s:=by simp [esc,h]
theorem esc_append (s t:List UInt8):esc (s++t)=esc s++esc t:=by simp [esc]
theorem zkj:∀ s:List UInt8,(esc s).length≤2 * s.length
 | []=>by simp [esc]
 | c::s=>by
  have:=zkj s
  by_cases h:c=0
  ·subst h
   rw [esc_0]
   simp only [List.length_cons]
   omega
  ·rw [esc_1 h]
   simp only [List.length_cons]
   omega
theorem idx_0 (s:List UInt8):Lib.index (0::s) [0]=0:=by simp [Lib.index,List.isPrefixOf]
theorem idx_1 {c:UInt8} (h:c≠0) (s:List UInt8):Lib.index (c::s) [0]=if Lib.index s [0] == -1 then -1 else Lib.index s [0]+1:=by
 have h':((0:UInt8) == c)=false:=by rw [beq_eq_false_iff_ne];exact fun e=>h e.symm
 simp [Lib.index,List.isPrefixOf,h']
theorem repK:∀ (s:List UInt8) (k:Nat),s.count 0≤k→Lib.replaceK [0] [0,255] k s=esc s
 | [],0,_=>rfl
 | [],k+1,_=>rfl
 | c::s,k,hk=>by
  by_cases h:c=0
  ·subst h
   rw [List.count_cons_self] at hk
   match k,hk with
   | k+1,hk =>
    rw [Lib.replaceK_hit _ _ k _ 0 (by rw [idx_0];rfl)]
    simp only [List.take_zero,List.nil_append,List.length_singleton,Nat.zero_add,List.drop_succ_cons,List.drop_zero,List.cons_append]
    rw [repK s k (by omega),esc_0]
  ·rw [List.count_cons_of_ne h] at hk
   have ih:=repK s k hk
   rw [esc_1 h,← ih]
   cases k with
   | zero=>rfl
   | succ k =>
    have hge:=Lib.index_ge s [0]
    by_cases hi:Lib.index s [0]=-1
    ·simp [Lib.replaceK,idx_1 h,hi]
    ·obtain⟨i,hi'⟩:∃ i:Nat,Lib.index s [0]=i:=⟨(Lib.index s [0]).toNat,by omega⟩
     have e1:Lib.index (c::s) [0]=((i+1:Nat):Int):=by
      rw [idx_1 h,hi',if_neg (by rw [beq_iff_eq];omega)]
      omega
     rw [Lib.replaceK_hit _ _ k _ _ e1,Lib.replaceK_hit _ _ k _ _ hi']
     simp [Nat.add_right_comm i 1 1]
theorem cntF:∀ (n:Nat) (s:List UInt8),s.length < n→s.count 0≤Lib.countFrom [0] n s
 | n+1,s,hn=>by
  rw [Lib.countFrom]
  by_cases hi:Lib.index s [0]=-1
  ·rw [if_pos (by simp [hi])]
   have:s.count 0=0:=by
    clear hn
    induction s with
    | nil=>rfl
    | cons c s ih =>
     by_cases h:c=0
     ·subst h;rw [idx_0] at hi;cases hi
     ·rw [List.count_cons_of_ne h]
      rw [idx_1 h] at hi
      by_cases h2:Lib.index s [0]=-1
      ·exact ih h2
      ·have:=Lib.index_ge s [0]
       rw [if_neg (by simpa using h2)] at hi
       omega
   omega
  ·rw [if_neg (by simpa using hi)]
   have hge:=Lib.index_ge s [0]
   have hroom:=Lib.index_room s [0] (by omega)
   obtain⟨i,hi'⟩:∃ i:Nat,Lib.index s [0]=i:=⟨(Lib.index s [0]).toNat,by omega⟩
   rw [hi'] at hroom ⊢
   simp only [List.length_singleton,Int.toNat_natCast] at hroom ⊢
   have ih:=cntF n (s.drop (i+1)) (by rw [List.length_drop];omega)
   have hc:s.count 0≤1+(s.drop (i+1)).count 0:=by
    clear ih hroom hn hge hi
    induction s generalizing i with
    | nil=>simp
    | cons c s ih =>
     by_cases h:c=0
     ·subst h
      rw [idx_0] at hi'
      obtain rfl:i=0:=by omega
      rw [List.count_cons_self,List.drop_succ_cons,List.drop_zero]
      omega
     ·rw [idx_1 h] at hi'
      have hge:=Lib.index_ge s [0]
      split at hi'
      ·omega
      ·rename_i h3
       have h3':Lib.index s [0]≠-1:=by simpa using h3
       match i,hi' with
       | 0,hi'=>omega
       | i+1,hi' =>
        rw [List.count_cons_of_ne h,List.drop_succ_cons]
        exact ih i (by omega)
   omega
theorem repAll (s:List UInt8):Lib.replaceAll s [0] [0,255]=esc s:=by
 have h1:=cntF (s.length+1) s (by omega)
 rw [Lib.replaceAll,Lib.replace,if_neg (by decide),Lib.replaceNum,if_pos (.inl (by decide))]
 exact repK s _ h1
theorem repall_ok (s:List UInt8) (h:s.length < 4294967281):ACalls Tryz.prog 104 [str s,str [0],str [0,255]] [] (fun x _=>x=.ret (str (esc s))):=by
 refine zdf 1 (by simp [Globs.ints]) (by kernel_rfl) fun w O m vs n hn hr=>?_
 simp only [reps,str,rep] at hr
 obtain⟨_,_,e1,rfl,_,_,rfl,rfl,_,_,rfl,rfl,rfl⟩:=hr
 have ev:vs=#[.string ⟨s.toArray⟩,.string ⟨[0].toArray⟩,.string ⟨[0,255].toArray⟩]:=by
  apply Array.ext'
  simpa using e1
 subst ev
 have hsz:(⟨s.toArray⟩:ByteArray).size=s.length:=by simp [ByteArray.size]
 have hc:=Lib.countB_mul_le ⟨[0].toArray⟩ (by decide) s.length ⟨s.toArray⟩ (by rw [hsz];exact Nat.le_refl _)
 have h1:(⟨[(0:UInt8)].toArray⟩:ByteArray).size=1:=rfl
 have h2:(⟨[(0:UInt8),255].toArray⟩:ByteArray).size=2:=rfl
 rw [h1,hsz] at hc
 refine(Tryz.strings_ReplaceAll _ ⟨[0].toArray⟩ ⟨[0,255].toArray⟩ n w (by rw [hsz];exact h) hn (by decide) (by rw [hsz,h2];omega)).mono ?_
 rintro e w' ⟨rfl,hb⟩
 refine⟨⟨_,rfl,fun w' O m=>?_⟩,hb⟩
 simp only [str,rep]
 have:=repAll s
 simp only [this]
end Go.Proofs.YtcahoelfogjljaaGreatDoor
end

section
namespace Go.Proofs.YtcahoelfogjljaaGreatDoor
open Go Go.Eng
def zee (n:Int):Nat:=(min (max n 0) 8).toNat
theorem clamp8_le (n:Int):zee n≤8:=by unfold zee;omega
theorem within_ok (n:Int):ACalls Tryz.prog 164 [i64 n] [] (fun x _=>x=.ret (i64 (zee n))):=by
 refine ACalls.body T_ok Tryz.func164 (by kernel_rfl) rfl Tryz.ntmps164 (congrArg Array.toList Tryz.results164) ?_
 refine aQ24 ?_
 refine za5 ?_
 rw [show ((zee n:Nat):Int)=min (max n 0) 8 by unfold zee;omega]
theorem text_ok (l:List UInt8):ACalls Tryz.prog 165 [.sl (l.map u8) l.length] [] (fun x _=>x=.ret (str l)):=by
 refine ACalls.body T_ok Tryz.func165 (by kernel_rfl) rfl Tryz.ntmps165 (congrArg Array.toList Tryz.results165) ?_
 refine aQ24 ?_
 exact zbN rfl
theorem text_ref {l:List UInt8} {id:Nat} {σ:zaa} {K:AEnd→zaa→Prop} (hr:rd σ id=some (l.map u8)) (hk:K (.ret (str l)) σ):ACalls Tryz.prog 165 [.ref id 0 l.length 1] σ K :=
 (text_ok l).lend ⟨.inr (.inl ⟨id,0,l.length,1,l.map u8,rfl,hr,by simp,zas u8 zb7 _ _,by rw [List.drop_zero,List.take_of_length_le (by simp)]⟩),trivial⟩ (by
  rintro _ σ' rfl
  exact⟨trivial,hk⟩)
def byteAt (x:BitVec 64) (i:Nat):UInt8:=UInt8.ofBitVec ((x >>> (8 * i)).setWidth 8)
def lowL (x:BitVec 64) (n:Nat):List UInt8:=(List.range n).map (byteAt x)
def bigL (x:BitVec 64) (n:Nat):List UInt8:=(lowL x n).reverse
def zdc (x:BitVec 64) (m k:Nat):List UInt8:=(List.range m).map fun j=>if m - 1 - j < k then byteAt x (m - 1 - j) else 0
theorem bigRow_zero (x:BitVec 64) (m:Nat):zdc x m 0=List.replicate m 0:=by
 apply List.ext_getElem <;> simp [zdc]
theorem bigRow_succ (x:BitVec 64) (m k:Nat) (h:k < m):(zdc x m k).set (m - 1 - k) (byteAt x k)=zdc x m (k+1):=by
 apply List.ext_getElem
 ·simp [zdc]
 ·intro i h1 h2
  simp [zdc] at h1 h2
  rw [List.getElem_set]
  simp only [zdc,List.getElem_map,List.getElem_range]
  by_cases hi:m - 1 - k=i
  ·subst hi
   rw [if_pos rfl,if_pos (by omega),show m - 1 - (m - 1 - k)=k by omega]
  ·rw [if_neg hi]
   by_cases h3:m - 1 - i < k
   ·rw [if_pos h3,if_pos (by omega)]
   ·rw [if_neg h3,if_neg (by omega)]
theorem bigRow_all (x:BitVec 64) (m:Nat):zdc x m m=bigL x m:=by
 apply List.ext_getElem
 ·simp [zdc,bigL,lowL]
 ·intro i h1 h2
  simp [zdc] at h1
  simp [zdc,bigL,lowL]
  intro h;omega
theorem big_ok (x:BitVec 64) (n:Int):ACalls Tryz.prog 133 [u64 x,i64 n] [] (fun y _=>y=.ret (str (bigL x (zee n)))):=by
 refine ACalls.body T_ok Tryz.func133 (by kernel_rfl) rfl Tryz.ntmps133 (congrArg Array.toList Tryz.results133) ?_
 refine aQ24 ?_
 refine(within_ok n).pure rfl ?_
 rintro _ σ rfl
 refine⟨rfl,?_⟩
 refine aQ24 ?_
 have hm:=clamp8_le n
 repeat (with_reducible refine zbt ?_)
 rw [zaN]
 generalize zee n=m at *
 refine⟨Nat,fun k=>k≤m,fun k=>[u64 x,i64 m,.bot,.bot,.bot,.ref 0 0 m 1,.bot,.bot,.bot,.bot,.bot,i64 m,i64 k,.bot,.bot,.bot,.bot,.bot,.bot,.bot,.bot,.bot,.bot,.bot,.bot,.bot,.bot,.bot,.bot],fun k=>[.rw ((zdc x m k).map u8)],fun k=>m - k,0,Nat.zero_le _,?_,?_⟩
 ·refine zab (q:=[0]) rfl rfl (by decide) ?_ ?_
  ·refine aQ19 ?_
   try simp
  ·refine aQ19 ?_
   simp [bigRow_zero]
 ·intro k hk
  refine aQ24 ?_
  have hl:(zdc x m k).length=m:=by simp [zdc]
  refine⟨fun hlt=>?_,fun hge=>?_⟩
  ·rw [List.length_map,hl]
   repeat (with_reducible refine zbt ?_)
   rw [zac]
   refine⟨k+1,by omega,by omega,zab (q:=[0]) rfl rfl (by decide) ?_ ?_⟩
   ·refine aQ19 ?_
    try simp
   ·refine aQ19 ?_
    rw [← bigRow_succ x m k (by omega),List.map_set]
    congr 2
    ·omega
  ·obtain rfl:k=m:=by omega
   have e:AV.ref 0 0 k 1=AV.ref 0 0 (zdc x k k).length 1:=by rw [hl]
   rw [e]
   refine text_ref (l:=zdc x k k) rfl ?_
   refine aQ24 ?_
   refine zbN ?_
   rw [bigRow_all]
def rbStep (n:BitVec 64) (b:UInt8):BitVec 64:=n <<< 8 ||| b.toBitVec.setWidth 64
def readBigL (l:List UInt8):BitVec 64:=l.foldl rbStep 0#64
end Go.Proofs.YtcahoelfogjljaaGreatDoor
end

section
namespace Go.Proofs.YtcahoelfogjljaaGreatDoor
open Go Go.Eng
set_option linter.defProp false in
def LB11:=And.intro @zah (@zae)
set_option linter.defProp false in
def LB12:=And.intro @zar (@bren_dead)
set_option linter.defProp false in
def LB13:=And.intro (zas str zah) (And.intro (zas i64 zae) (And.intro @zb8 (And.intro @zb7 (And.intro @zbX (@zbx)))))
set_option linter.defProp false in
def LB14:=And.intro @bren_rt (And.intro @ze5 (And.intro @ren_slN (And.intro @zeB (And.intro @zcV (And.intro @zcT (And.intro @ren_sbC (And.intro @sbW_dead (@sbB_dead))))))))
set_option linter.defProp false in
def LM3:=And.intro LB11 (And.intro LB12 (And.intro LB13 (LB14)))
def wF:List AV:=[.fn (.func 96) [.ptr 0 0] [],.fn (.func 97) [.ptr 0 0] [],.fn (.func 98) [.ptr 0 0] [],.fn (.func 71) [.ptr 0 0] [],.fn (.func 99) [.ptr 0 0] [],.fn (.func 100) [.ptr 0 0] []]
def wR (R:List Nd) (p:Int):List AV:=.sl (R.flatMap nC) R.length::i64 p::wF
theorem zag {q:List Nat} (h:q[0]?=some 0) (R:List Nd) (p:Int):renL q (wR R p)=some (wR R p):=by
 simp [wR,wF,renL,AV.ren,zat,zae,h]
section
variable {R : List Nd} {p : Int} {x : AV} {k n : Nat} {K : AV → Prop} {KS : AV → zaa → Prop} {σ : zaa} {t : TypeId} {id : Nat}
theorem fa_w0 (ht:T t=some tyWr):zaf T t (.ptr id 0) 0 K=K (.ptr id 0):=by simp [zaf,ht,tyWr,T107,tyBld]
theorem fa_w1 (ht:T t=some tyWr):zaf T t (.ptr id 0) 1 K=K (.ptr id 2):=by simp [zaf,ht,tyWr,T22,tySl]
theorem fa_w2 (ht:T t=some tyWr):zaf T t (.ptr id 0) 2 K=K (.ptr id 3):=by simp [zaf,ht,tyWr,T3,zaD]
theorem fa_w3 (ht:T t=some tyWr):zaf T t (.ptr id 0) 3 K=K (.ptr id 4):=by simp [zaf,ht,tyWr,T109,zgM,tyFn]
theorem rd_w (tb:TypeId) (u:Bool) (id k n:Nat) (r:List AV) (X:zaa):rd (sbW tb u id k n r::X) 0=some ((if u then .ptr id 0 else .lit (.pointer none))::.bsl k n::r):=rfl
theorem ld_w1 (e:TypeId):ld2 (some (tySl e)) (some (x::.bsl k n::wR R p)) 2 K=K (.sl (R.flatMap nC) R.length):=by
 simp [ld2,wfin,tySl,TD.agg,wR]
theorem ld_w2:ld2 (some zaD) (some (x::.bsl k n::wR R p)) 3 K=K (i64 p):=by
 simp [ld2,wfin,zaD,TD.agg,wR]
theorem st_w2 (u:Bool) (q:Int):st2 (some zaD) (some (sbW 111 u 0 k n (wR R p))) id 3 (i64 q) σ KS=KS (.lit undef) (σ.set id (sbW 111 u 0 k n (wR R q))):=by
 simp [st2,zaD,sbW,wR,AV.cells,AV.one,Value.oneCell',za7,i64]
def wK (k:Nat):FuncId:=[96,97,98,71,99,100].getD k 0
theorem ia_w3 {j:Nat} (ht:T t=some (zgM 6 108 tyFn)):zbr T t (.ptr 0 4) (i64 (j:Nat)) K=(j < 6∧K (.ptr 0 (4+j))):=by
 simp only [zbr,ht,zgM,i64,T108,Option.some.injEq,exists_eq_left',tyFn,Nat.mul_one,Int.toNat_natCast]
 apply propext
 constructor
 ·rintro⟨_,h2,h3⟩
  exact⟨by omega,h3⟩
 ·rintro⟨h2,h3⟩
  exact⟨by omega,by omega,h3⟩
theorem ld_w3 {j:Nat} (hj:j < 6):ld2 (some tyFn) (some (x::.bsl k n::wR R p)) (4+j) K=K (.fn (.func (wK j)) [.ptr 0 0] []):=by
 match j,hj with
 | 0,_=>simp [ld2,wfin,tyFn,TD.agg,wR,wF,wK]
 | 1,_=>simp [ld2,wfin,tyFn,TD.agg,wR,wF,wK]
 | 2,_=>simp [ld2,wfin,tyFn,TD.agg,wR,wF,wK]
 | 3,_=>simp [ld2,wfin,tyFn,TD.agg,wR,wF,wK]
 | 4,_=>simp [ld2,wfin,tyFn,TD.agg,wR,wF,wK]
 | 5,_=>simp [ld2,wfin,tyFn,TD.agg,wR,wF,wK]
end
def zbh (k:Int):UInt8:=UInt8.ofBitVec (BitVec.ofInt 8 k)+UInt8.ofNat 1
def numB (k:Int):UInt8:=UInt8.ofBitVec (BitVec.ofInt 8 k)
def numL (k:Int):List UInt8:=bigL (BitVec.ofInt 64 k ^^^ 9223372036854775808#64) 8
theorem zi6 {T:Tab} {t:TypeId} {K:AV→Prop} (x y:UInt8):wbin T .add t (u8 x) (u8 y) K=K (u8 (x+y)):=by
 simp [wbin,u8,zdQ,zjy,BitVec.ofInt_add,zdA]
theorem keep_w {l:List UInt8} {r:List AV} {u:Bool} {rest:zaa} {x:AV} {K:AV→zaa→Prop} (hr:renL [0,1] r=some r) (hx:x.ren [0,1]=some x) (h:K x (wI u l r)):endQ 2 x (sbW 111 u 0 1 l.length r::sbB 5 l::rest) K:=by
 refine zim [0,1] x (wI u l r) rfl rfl (by decide) hx ?_ h
 refine⟨.inr ⟨_,?_,rfl⟩,.inr ⟨_,zcT _ _ _,rfl⟩,trivial⟩
 rw [zcV _ _ _ _ _ _ _ (by decide)]
 simp [hr]
theorem zcX {l:List UInt8} {r:List AV} {k:Nat} {σ:zaa} {x:AV} {K:AV→zaa→Prop} (h0:σ[0]?=some (sbW 111 true 0 k l.length r)) (hk:σ[k]?=some (sbB 5 l)) (hk1:1 < k) (hr:renL [0,1,k] r=some r) (hx:x.ren [0,1,k]=some x) (h:K x (wO l r)):endQ 2 x σ K:=by
 refine zim [0,1,k] x (wO l r) rfl rfl ?_ hx ?_ h
 ·refine List.nodup_cons.2 ⟨?_,List.nodup_cons.2 ⟨?_,by simp⟩⟩
  ·simp;omega
  ·simp;omega
 refine⟨.inr ⟨_,?_,h0⟩,.inl rfl,.inr ⟨_,zcT _ _ _,hk⟩,trivial⟩
 rw [zcV _ _ _ _ _ _ _ (by simp)]
 simp [hr]
theorem zjO (u:Bool) (l:List UInt8) (R:List Nd) (p:Nat) (hp:p < R.length) (hR:R.length≤9223372036854775806):ACalls Tryz.prog 101 [.ptr 0 0] (wI u l (wR R p)) (fun x σ=>x=.ret (nA (R.getD p n0d))∧σ=wI u l (wR R ((p+1:Nat):Int))):=by
 unfold wI
 refine ACalls.body T_ok Tryz.func101 (by kernel_rfl) rfl Tryz.ntmps101 (congrArg Array.toList Tryz.results101) ?_
 refine aQ25 ?_
 refine⟨by unfold inI;omega,?_⟩
 refine zdz [11] (by kernel_rfl) (by kernel_rfl) (by kernel_rfl) ?_
 refine aQ25 ?_
 have e1:((p:Int)+1 - 1).toNat=p:=by omega
 refine⟨by unfold inI;omega,by omega,by omega,Nat.le_refl _,by omega,?_⟩
 rw [e1]
 exact keep_w (zag rfl _ _) (ze5 _ _) ⟨rfl,by simp [wI]⟩
theorem kind_ok (k:Int):ACalls Tryz.prog 70 [i64 k] [] (fun x _=>x=.ret (u8 (zbh k))):=by
 refine ACalls.body T_ok Tryz.func70 (by kernel_rfl) rfl Tryz.ntmps70 (congrArg Array.toList Tryz.results70) ?_
 refine aQ25 ?_
 exact zaP (zb7 _ _) rfl
theorem wnull_ok (l:List UInt8) (R:List Nd) (p:Int) (n:Nd):ACalls Tryz.prog 96 [.ptr 0 0,nA n] (wI true l (wR R p)) (fun x σ=>x=.ret (.tup [])∧σ=wI true l (wR R p)):=by
 unfold wI
 refine ACalls.body T_ok Tryz.func96 (by kernel_rfl) rfl Tryz.ntmps96 (congrArg Array.toList Tryz.results96) ?_
 refine aQ25 ?_
 exact keep_w (zag rfl _ _) rfl ⟨rfl,rfl⟩
theorem zgn (u:Bool) (l:List UInt8) (R:List Nd) (p:Int) (n:Nd) (hn:n.text.length < 4294967281) (h:l.length+(escT n.text).length≤140737488355328):ACalls Tryz.prog 71 [.ptr 0 0,nA n] (wI u l (wR R p)) (fun x σ=>x=.ret (.tup [])∧σ=wO (l++escT n.text) (wR R p)):=by
 have h1:l.length+(esc n.text).length≤140737488355328:=by
  simp only [escT,List.length_append] at h
  omega
 have h2:(l++esc n.text).length+([0,0]:List UInt8).length≤140737488355328:=by
  simp only [escT,List.length_append] at h ⊢
  omega
 unfold wI
 refine ACalls.body T_ok Tryz.func71 (by kernel_rfl) rfl Tryz.ntmps71 (congrArg Array.toList Tryz.results71) ?_
 refine aQ25 ?_
 refine zdz [6] (by kernel_rfl) (by kernel_rfl) (by kernel_rfl) ?_
 refine aQ25 ?_
 refine zcI (repall_ok n.text hn) aQ3 aQ5 ?_
 refine aQ25 ?_
 refine aQ25 ?_
 refine ACalls.frame ([0,1]) (bws_ok u l (esc n.text) (wR R p) rfl h1) rfl (by decide) (by simp [LM3,zao,zaH,zaw,zax,renL,AV.ren,AEnd.ren,zan,wI,wO,zag,zak,List.getElem?_cons_zero,List.getElem?_cons_succ]) (by first | rfl | simp [LM3,zao,zaH,zaw,zax,renL,AV.ren,AEnd.ren,zan,wI,wO,zag,zak,List.getElem?_cons_zero,List.getElem?_cons_succ]) ?_
 rintro _ _ ⟨rfl,rfl⟩
 refine⟨.ret (.tup [i64 (esc n.text).length,.lit .nilIface]),[sbW 111 true 0 3 (l++esc n.text).length (wR R p),.dead,.rw (nC n),sbB 5 (l++esc n.text)],(aQ1 ([0,1,3,2])),(aQ2 ([0,1,3,2])),?_⟩
 refine aQ25 ?_
 refine ACalls.frame ([0,3]) (bws_ok true (l++esc n.text) [0,0] (wR R p) rfl h2) rfl (by decide) (by simp [LM3,zao,zaH,zaw,zax,renL,AV.ren,AEnd.ren,zan,wI,wO,zag,zak,List.getElem?_cons_zero,List.getElem?_cons_succ]) (by first | rfl | simp [LM3,zao,zaH,zaw,zax,renL,AV.ren,AEnd.ren,zan,wI,wO,zag,zak,List.getElem?_cons_zero,List.getElem?_cons_succ]) ?_
 rintro _ _ ⟨rfl,rfl⟩
 refine⟨.ret (.tup [i64 2,.lit .nilIface]),[sbW 111 true 0 4 (l++esc n.text++[0,0]).length (wR R p),.dead,.rw (nC n),.dead,sbB 5 (l++esc n.text++[0,0])],(aQ1 ([0,3,3,1,2])),(aQ2 ([0,3,3,1,2])),?_⟩
 refine aQ25 ?_
 rw [escT,← List.append_assoc]
 exact zcX (k:=4) rfl rfl (by decide) (zag rfl _ _) rfl ⟨rfl,rfl⟩
theorem wtruth_ok (l:List UInt8) (R:List Nd) (p:Int) (n:Nd) (h:l.length+1≤140737488355328):ACalls Tryz.prog 97 [.ptr 0 0,nA n] (wI true l (wR R p)) (fun x σ=>x=.ret (.tup [])∧σ=wO (l++[numB n.num]) (wR R p)):=by
 unfold wI
 refine ACalls.body T_ok Tryz.func97 (by kernel_rfl) rfl Tryz.ntmps97 (congrArg Array.toList Tryz.results97) ?_
 refine aQ25 ?_
 refine zdz [6] (by kernel_rfl) (by kernel_rfl) (by kernel_rfl) ?_
 refine aQ25 ?_
 refine ACalls.frame ([0,1]) (zfw true l (numB n.num) (wR R p) rfl (fun q h0 h1=>zag h1 R p) h) rfl (by decide) (by simp [LM3,zao,zaH,zaw,zax,renL,AV.ren,AEnd.ren,zan,wI,wO,zag,zak,List.getElem?_cons_zero,List.getElem?_cons_succ]) (by first | rfl | simp [LM3,zao,zaH,zaw,zax,renL,AV.ren,AEnd.ren,zan,wI,wO,zag,zak,List.getElem?_cons_zero,List.getElem?_cons_succ]) ?_
 rintro _ _ ⟨rfl,rfl⟩
 refine⟨.ret (.lit .nilIface),[sbW 111 true 0 3 (l++[numB n.num]).length (wR R p),.dead,.rw (nC n),sbB 5 (l++[numB n.num])],(aQ1 ([0,1,3,2])),(aQ2 ([0,1,3,2])),?_⟩
 refine aQ25 ?_
 exact zcX (k:=3) rfl rfl (by decide) (zag rfl _ _) rfl ⟨rfl,rfl⟩
theorem wnumber_ok (l:List UInt8) (R:List Nd) (p:Int) (n:Nd) (h:l.length+(numL n.num).length≤140737488355328):ACalls Tryz.prog 98 [.ptr 0 0,nA n] (wI true l (wR R p)) (fun x σ=>x=.ret (.tup [])∧σ=wO (l++numL n.num) (wR R p)):=by
 unfold wI
 refine ACalls.body T_ok Tryz.func98 (by kernel_rfl) rfl Tryz.ntmps98 (congrArg Array.toList Tryz.results98) ?_
 refine aQ25 ?_
 refine zdz [8] (by kernel_rfl) (by kernel_rfl) (by kernel_rfl) ?_
 refine aQ25 ?_
 refine zcI (big_ok (BitVec.ofInt 64 n.num ^^^ 9223372036854775808#64) 8) aQ3 aQ5 ?_
 refine aQ25 ?_
 refine aQ25 ?_
 refine ACalls.frame ([0,1]) (bws_ok true l (numL n.num) (wR R p) rfl h) rfl (by decide) (by simp [LM3,zao,zaH,zaw,zax,renL,AV.ren,AEnd.ren,zan,wI,wO,zag,zak,List.getElem?_cons_zero,List.getElem?_cons_succ]) (by first | rfl | simp [LM3,zao,zaH,zaw,zax,renL,AV.ren,AEnd.ren,zan,wI,wO,zag,zak,List.getElem?_cons_zero,List.getElem?_cons_succ]) ?_
 rintro _ _ ⟨rfl,rfl⟩
 refine⟨.ret (.tup [i64 (numL n.num).length,.lit .nilIface]),[sbW 111 true 0 3 (l++numL n.num).length (wR R p),.dead,.rw (nC n),sbB 5 (l++numL n.num)],(aQ1 ([0,1,3,2])),(aQ2 ([0,1,3,2])),?_⟩
 refine aQ25 ?_
 exact zcX (k:=3) rfl rfl (by decide) (zag rfl _ _) rfl ⟨rfl,rfl⟩
end Go.Proofs.YtcahoelfogjljaaGreatDoor
end

section
namespace Go.Proofs.YtcahoelfogjljaaGreatDoor
open Go Go.Eng
set_option linter.defProp false in
def LB15:=And.intro (fun {K} {id}=>@fa_w0 K _ id T111) (And.intro (fun {K} {id}=>@fa_w1 K _ id T111) (And.intro (fun {K} {id}=>@fa_w2 K _ id T111) (And.intro (fun {K} {id}=>@fa_w3 K _ id T111) (And.intro @rd_w (And.intro @ld_w1 (And.intro @ld_w2 (And.intro @st_w2 (@zi6))))))))
set_option linter.defProp false in
def LM1:=And.intro LB1 (And.intro LB2 (And.intro LB3 (And.intro LB4 (And.intro LB10 (LB15)))))
def zfr (n:Nd):List UInt8:=zbh n.kind::(if n.kind=1 then [numB n.num] else if n.kind=2 then numL n.num else if n.kind=3 then escT n.text else [])
def zco (E:Nat→List UInt8) (R:List Nd) (mp:Bool) (p j:Nat):List UInt8:=(if mp then 1::escT (keyT R mp p j) else [])++E (eAt R mp p j+bK mp)
def zaT (E:Nat→List UInt8) (R:List Nd) (mp:Bool) (p k:Nat):List UInt8:=(List.range k).flatMap (zco E R mp p)
def encF:Nat→List Nd→Nat→List UInt8
 | 0,_,_=>[]
 | f+1,R,p=>zfr (R.getD p n0d)++if (R.getD p n0d).kind=4∨(R.getD p n0d).kind=5 then zaT (encF f R) R (decide ((R.getD p n0d).kind=5)) p (R.getD p n0d).kids.toNat++[0] else []
theorem zcY (E:Nat→List UInt8) (R:List Nd) (mp:Bool) (p k:Nat):zaT E R mp p (k+1)=zaT E R mp p k++zco E R mp p k:=by
 simp [zaT,List.range_succ]
theorem zgo (E:Nat→List UInt8) (R:List Nd) (mp:Bool) (p:Nat) {k c:Nat} (h:k≤c):(zaT E R mp p k).length≤(zaT E R mp p c).length:=by
 induction c with
 | zero=>obtain rfl:k=0:=by omega
         exact Nat.le_refl _
 | succ c ih =>
  rcases Nat.lt_or_ge c k with hc | hc
  ·obtain rfl:k=c+1:=by omega
   exact Nat.le_refl _
  ·rw [zcY,List.length_append]
   have:=ih hc
   omega
def ValueAt (f:Nat) (R:List Nd):Prop:=∀ (p:Nat) (r:Nat × Nat) (u:Bool) (acc:List UInt8),vl R p=some r→r.1 - p≤f→acc.length+(encF f R p).length≤140737488355328 →
 ACalls Tryz.prog 67 [.ptr 0 0] (wI u acc (wR R p)) (fun x σ=>x=.ret (.tup [])∧σ=wO (acc++encF f R p) (wR R r.1))
def listS (f:Nat) (R:List Nd) (p:Nat) (n:Nd) (acc:List UInt8):Nat→zaa
 | 0=>[sbW 111 true 0 1 acc.length (wR R ((eAt R false p 0:Nat):Int)),sbB 5 acc,.rw (nC n)]
 | k+1=>[sbW 111 true 0 3 (acc++zaT (encF f R) R false p (k+1)).length (wR R ((eAt R false p (k+1):Nat):Int)),.dead,.rw (nC n),sbB 5 (acc++zaT (encF f R) R false p (k+1))]
theorem wlist_ok (f:Nat) (R:List Nd) (V:ValueAt f R) (hR:R.length≤9223372036854775806) (hT:∀ m,m∈R→m.text.length < 4294967281) {p:Nat} {n:Nd} {r:Nat × Nat} (hK:Kids R p n r) (hk:n.kind=4) (hf:r.1 - p≤f+1) (acc:List UInt8) (hl:acc.length+(zaT (encF f R) R false p n.kids.toNat++[0]).length≤140737488355328) :
  ACalls Tryz.prog 99 [.ptr 0 0,nA n] (wI true acc (wR R ((p+1:Nat):Int))) (fun x σ=>x=.ret (.tup [])∧σ=wO (acc++(zaT (encF f R) R false p n.kids.toNat++[0])) (wR R r.1)):=by
 have few:=hK.few
 have kid:=@Kids.kid R p n r hK
 have inv:=hK.inv
 have ends:=hK.ends.1
 rw [show decide (n.kind=5)=false from decide_eq_false (by omega)] at kid inv ends
 rw [List.length_append,List.length_singleton] at hl
 have hcl:(acc++zaT (encF f R) R false p n.kids.toNat).length+1≤140737488355328:=by rw [List.length_append];omega
 unfold wI
 refine ACalls.body T_ok Tryz.func99 (by kernel_rfl) rfl Tryz.ntmps99 (congrArg Array.toList Tryz.results99) ?_
 refine aQ26 ?_
 rw [zaN]
 refine⟨Nat,fun k=>k≤n.kids.toNat,fun k=>[.ptr 0 0,nA n,.bot,.ptr 2 0,.bot,i64 n.kids,i64 k,.bot,.bot,.bot,.bot,.bot,.bot,.bot,.bot],fun k=>listS f R p n acc k,fun k=>n.kids.toNat - k,0,Nat.zero_le _,zab (q:=[0,1,2]) rfl rfl (by decide) ?_ ?_,?_⟩
 ·refine aQ19 ?_
  exact⟨.inr (ze5 _ _),.inr rfl⟩
 ·simp [listS,eAt,zao,zar,zan,zcV,zcT,zag]
 ·intro k hk0
  simp only [bK,Bool.false_eq_true,if_false,Nat.add_zero] at kid
  have e1:acc++zco (encF f R) R false p 0=acc++zaT (encF f R) R false p (0+1):=by rw [zcY];rfl
  match k,hk0 with
  | 0,hk0 =>
   simp only [listS]
   refine aQ26 ?_
   refine⟨fun hlt=>?_,fun hge=>?_⟩
   ·have hlx:0 < n.kids.toNat:=by omega
    obtain⟨r',q1,q2,q3⟩:=kid hlx
    have i0:=inv 0 (by omega)
    have i1:=inv (0+1) (by omega)
    have g1:=za6 q1
    have hln:=zgo (encF f R) R false p (k:=0+1) (c:=n.kids.toNat) (by omega)
    rw [q2] at i1
    have hv:=V (eAt R false p 0) r' true acc q1 (by omega) (by
     have:=congrArg List.length e1
     simp only [List.length_append,zco,bK,Bool.false_eq_true,if_false,List.nil_append,Nat.add_zero] at this hl ⊢
     omega)
    have e3:acc++encF f R (eAt R false p 0)=acc++zaT (encF f R) R false p (0+1):=by rw [← e1];simp [zco,bK]
    rw [e3,← q2] at hv
    refine ACalls.frame ([0,1]) (hv) rfl (by decide) (by simp [LM3,zao,zaH,zaw,zax,renL,AV.ren,AEnd.ren,zan,wI,wO,zag,zak,List.getElem?_cons_zero,List.getElem?_cons_succ]) (by first | rfl | simp [LM3,zao,zaH,zaw,zax,renL,AV.ren,AEnd.ren,zan,wI,wO,zag,zak,List.getElem?_cons_zero,List.getElem?_cons_succ]) ?_
    rintro _ _ ⟨rfl,rfl⟩
    refine⟨.ret (.tup []),[sbW 111 true 0 3 (acc++zaT (encF f R) R false p (0+1)).length (wR R ((eAt R false p (0+1):Nat):Int)),.dead,.rw (nC n),sbB 5 (acc++zaT (encF f R) R false p (0+1))],(aQ1 ([0,1,3,2])),(aQ2 ([0,1,3,2])),?_⟩
    refine aQ26 ?_
    refine⟨by unfold inI;omega,1,by omega,(by show n.kids.toNat - 1 < n.kids.toNat - 0;omega),zab (q:=[0,1,2,3]) rfl rfl (by decide) ?_ ?_⟩
    ·refine aQ19 ?_
     exact⟨.inr (ze5 _ _),.inr (by omega)⟩
    ·simp [listS,zao,zar,zan,zcV,zcT,zag]
   ·have h0:n.kids.toNat=0:=by omega
    rw [h0] at ends hcl ⊢
    have e2:acc++zaT (encF f R) R false p 0=acc:=by simp [zaT]
    rw [e2] at hcl
    rw [show eAt R false p 0=r.1 from ends,show zaT (encF f R) R false p 0=[] from rfl]
    refine ACalls.frame ([0,1]) (zfw true acc (UInt8.ofNat 0) (wR R r.1) rfl (fun q h0 h1=>zag h1 R _) hcl) rfl (by decide) (by simp [LM3,zao,zaH,zaw,zax,renL,AV.ren,AEnd.ren,zan,wI,wO,zag,zak,List.getElem?_cons_zero,List.getElem?_cons_succ]) (by first | rfl | simp [LM3,zao,zaH,zaw,zax,renL,AV.ren,AEnd.ren,zan,wI,wO,zag,zak,List.getElem?_cons_zero,List.getElem?_cons_succ]) ?_
    rintro _ _ ⟨rfl,rfl⟩
    refine⟨.ret (.lit .nilIface),[sbW 111 true 0 3 (acc++[UInt8.ofNat 0]).length (wR R r.1),.dead,.rw (nC n),sbB 5 (acc++[UInt8.ofNat 0])],(aQ1 ([0,1,3,2])),(aQ2 ([0,1,3,2])),?_⟩
    refine aQ26 ?_
    exact zcX (k:=3) rfl rfl (by decide) (zag rfl _ _) rfl ⟨rfl,rfl⟩
  | k+1,hk0 =>
   simp only [listS]
   refine aQ26 ?_
   refine⟨fun hlt=>?_,fun hge=>?_⟩
   ·have hlx:k+1 < n.kids.toNat:=by omega
    obtain⟨r',q1,q2,q3⟩:=kid hlx
    have i0:=inv (k+1) (by omega)
    have i1:=inv (k+1+1) (by omega)
    have g1:=za6 q1
    have hln:=zgo (encF f R) R false p (k:=k+1+1) (c:=n.kids.toNat) (by omega)
    rw [q2] at i1
    have e1:acc++zaT (encF f R) R false p (k+1)++zco (encF f R) R false p (k+1)=acc++zaT (encF f R) R false p (k+1+1):=by rw [zcY _ _ _ _ (k+1),List.append_assoc]
    have hv:=V (eAt R false p (k+1)) r' true (acc++zaT (encF f R) R false p (k+1)) q1 (by omega) (by
     have:=congrArg List.length e1
     simp only [List.length_append,zco,bK,Bool.false_eq_true,if_false,List.nil_append,Nat.add_zero] at this hl ⊢
     omega)
    have e3:acc++zaT (encF f R) R false p (k+1)++encF f R (eAt R false p (k+1))=acc++zaT (encF f R) R false p (k+1+1):=by rw [← e1];simp [zco,bK]
    rw [e3,← q2] at hv
    refine ACalls.frame ([0,3]) (hv) rfl (by decide) (by simp [LM3,zao,zaH,zaw,zax,renL,AV.ren,AEnd.ren,zan,wI,wO,zag,zak,List.getElem?_cons_zero,List.getElem?_cons_succ]) (by first | rfl | simp [LM3,zao,zaH,zaw,zax,renL,AV.ren,AEnd.ren,zan,wI,wO,zag,zak,List.getElem?_cons_zero,List.getElem?_cons_succ]) ?_
    rintro _ _ ⟨rfl,rfl⟩
    refine⟨.ret (.tup []),[sbW 111 true 0 4 (acc++zaT (encF f R) R false p (k+1+1)).length (wR R ((eAt R false p (k+1+1):Nat):Int)),.dead,.rw (nC n),.dead,sbB 5 (acc++zaT (encF f R) R false p (k+1+1))],(aQ1 ([0,3,3,1,2])),(aQ2 ([0,3,3,1,2])),?_⟩
    refine aQ26 ?_
    refine⟨by unfold inI;omega,k+1+1,by omega,(by show n.kids.toNat - (k+1+1) < n.kids.toNat - (k+1);omega),zab (q:=[0,1,2,4]) rfl rfl (by decide) ?_ ?_⟩
    ·refine aQ19 ?_
     exact⟨.inr (ze5 _ _),.inr (by omega)⟩
    ·simp [listS,zao,zar,zan,zcV,zcT,zag]
   ·have h0:n.kids.toNat=k+1:=by omega
    rw [h0] at ends hcl ⊢
    rw [show eAt R false p (k+1)=r.1 from ends,← List.append_assoc]
    refine ACalls.frame ([0,3]) (zfw true (acc++zaT (encF f R) R false p (k+1)) (UInt8.ofNat 0) (wR R r.1) rfl (fun q h0 h1=>zag h1 R _) hcl) rfl (by decide) (by simp [LM3,zao,zaH,zaw,zax,renL,AV.ren,AEnd.ren,zan,wI,wO,zag,zak,List.getElem?_cons_zero,List.getElem?_cons_succ]) (by first | rfl | simp [LM3,zao,zaH,zaw,zax,renL,AV.ren,AEnd.ren,zan,wI,wO,zag,zak,List.getElem?_cons_zero,List.getElem?_cons_succ]) ?_
    rintro _ _ ⟨rfl,rfl⟩
    refine⟨.ret (.lit .nilIface),[sbW 111 true 0 4 (acc++zaT (encF f R) R false p (k+1)++[UInt8.ofNat 0]).length (wR R r.1),.dead,.rw (nC n),.dead,sbB 5 (acc++zaT (encF f R) R false p (k+1)++[UInt8.ofNat 0])],(aQ1 ([0,3,3,1,2])),(aQ2 ([0,3,3,1,2])),?_⟩
    refine aQ26 ?_
    exact zcX (k:=4) rfl rfl (by decide) (zag rfl _ _) rfl ⟨rfl,rfl⟩
def zfp (f:Nat) (R:List Nd) (p:Nat) (n:Nd) (acc:List UInt8):Nat→zaa
 | 0=>[sbW 111 true 0 1 acc.length (wR R ((eAt R true p 0:Nat):Int)),sbB 5 acc,.rw (nC n)]
 | k+1=>[sbW 111 true 0 3 (acc++zaT (encF f R) R true p (k+1)).length (wR R ((eAt R true p (k+1):Nat):Int)),.dead,.rw (nC n),sbB 5 (acc++zaT (encF f R) R true p (k+1))]
theorem wmembers_ok (f:Nat) (R:List Nd) (V:ValueAt f R) (hR:R.length≤9223372036854775806) (hT:∀ m,m∈R→m.text.length < 4294967281) {p:Nat} {n:Nd} {r:Nat × Nat} (hK:Kids R p n r) (hk:n.kind=5) (hf:r.1 - p≤f+1) (acc:List UInt8) (hl:acc.length+(zaT (encF f R) R true p n.kids.toNat++[0]).length≤140737488355328) :
  ACalls Tryz.prog 100 [.ptr 0 0,nA n] (wI true acc (wR R ((p+1:Nat):Int))) (fun x σ=>x=.ret (.tup [])∧σ=wO (acc++(zaT (encF f R) R true p n.kids.toNat++[0])) (wR R r.1)):=by
 have few:=hK.few
 have kid:=@Kids.kid R p n r hK
 have inv:=hK.inv
 have ends:=hK.ends.1
 rw [decide_eq_true hk] at kid inv ends
 rw [List.length_append,List.length_singleton] at hl
 have hcl:(acc++zaT (encF f R) R true p n.kids.toNat).length+1≤140737488355328:=by rw [List.length_append];omega
 unfold wI
 refine ACalls.body T_ok Tryz.func100 (by kernel_rfl) rfl Tryz.ntmps100 (congrArg Array.toList Tryz.results100) ?_
 refine aQ26 ?_
 rw [zaN]
 refine⟨Nat,fun k=>k≤n.kids.toNat,fun k=>[.ptr 0 0,nA n,.bot,.ptr 2 0,.bot,i64 n.kids,i64 k,.bot,.bot,.bot,.bot,.bot,.bot,.bot,.bot,.bot,.bot,.bot,.bot,.bot,.bot,.bot,.bot],fun k=>zfp f R p n acc k,fun k=>n.kids.toNat - k,0,Nat.zero_le _,zab (q:=[0,1,2]) rfl rfl (by decide) ?_ ?_,?_⟩
 ·refine aQ19 ?_
  exact⟨.inr (ze5 _ _),.inr rfl⟩
 ·simp [zfp,eAt,zao,zar,zan,zcV,zcT,zag]
 ·intro k hk0
  simp only [bK,if_true] at kid
  have e1:acc++zco (encF f R) R true p 0=acc++zaT (encF f R) R true p (0+1):=by rw [zcY];rfl
  match k,hk0 with
  | 0,hk0 =>
   simp only [zfp]
   refine aQ26 ?_
   refine⟨fun hlt=>?_,fun hge=>?_⟩
   ·have hlx:0 < n.kids.toNat:=by omega
    obtain⟨r',q1,q2,q3⟩:=kid hlx
    have i0:=inv 0 (by omega)
    have i1:=inv (0+1) (by omega)
    have g1:=za6 q1
    have hln:=zgo (encF f R) R true p (k:=0+1) (c:=n.kids.toNat) (by omega)
    rw [q2] at i1
    have hm:(R.getD (eAt R true p (0)) n0d)∈R:=by
     rw [List.getD_eq_getElem?_getD,List.getElem?_eq_getElem (by omega)]
     exact List.getElem_mem _
    have hlen:(acc++zco (encF f R) R true p (0)).length≤140737488355328:=by
     rw [e1,List.length_append]
     omega
    have e4:acc++zco (encF f R) R true p (0)=((acc++[UInt8.ofNat 1])++escT (R.getD (eAt R true p (0)) n0d).text)++encF f R (eAt R true p (0)+1):=by simp [zco,bK,keyT]
    rw [e4] at hlen e1
    have hl2:(acc++[UInt8.ofNat 1]).length+(escT (R.getD (eAt R true p (0)) n0d).text).length≤140737488355328:=by
     simp only [List.length_append] at hlen ⊢
     omega
    have hl1:acc.length+1≤140737488355328:=by
     simp only [List.length_append,List.length_singleton] at hl2 ⊢
     omega
    have hv:=V (eAt R true p (0)+1) r' true ((acc++[UInt8.ofNat 1])++escT (R.getD (eAt R true p (0)) n0d).text) q1 (by omega) (by rw [← List.length_append];exact hlen)
    rw [e1,← q2] at hv
    refine ACalls.frame ([0,1]) (zfw true acc (UInt8.ofNat 1) (wR R ((eAt R true p (0):Nat):Int)) rfl (fun q h0 h1=>zag h1 R _) hl1) rfl (by decide) (by simp [LM3,zao,zaH,zaw,zax,renL,AV.ren,AEnd.ren,zan,wI,wO,zag,zak,List.getElem?_cons_zero,List.getElem?_cons_succ]) (by first | rfl | simp [LM3,zao,zaH,zaw,zax,renL,AV.ren,AEnd.ren,zan,wI,wO,zag,zak,List.getElem?_cons_zero,List.getElem?_cons_succ]) ?_
    rintro _ _ ⟨rfl,rfl⟩
    refine⟨.ret (.lit .nilIface),[sbW 111 true 0 3 (acc++[UInt8.ofNat 1]).length (wR R ((eAt R true p (0):Nat):Int)),.dead,.rw (nC n),sbB 5 (acc++[UInt8.ofNat 1])],(aQ1 ([0,1,3,2])),(aQ2 ([0,1,3,2])),?_⟩
    refine aQ26 ?_
    refine ACalls.frame ([0,3]) (zjO true (acc++[UInt8.ofNat 1]) R (eAt R true p (0)) (by omega) hR) rfl (by decide) (by simp [LM3,zao,zaH,zaw,zax,renL,AV.ren,AEnd.ren,zan,wI,wO,zag,zak,List.getElem?_cons_zero,List.getElem?_cons_succ]) (by first | rfl | simp [LM3,zao,zaH,zaw,zax,renL,AV.ren,AEnd.ren,zan,wI,wO,zag,zak,List.getElem?_cons_zero,List.getElem?_cons_succ]) ?_
    rintro _ _ ⟨rfl,rfl⟩
    refine⟨.ret (nA (R.getD (eAt R true p (0)) n0d)),[sbW 111 true 0 3 (acc++[UInt8.ofNat 1]).length (wR R ((eAt R true p (0)+1:Nat):Int)),.dead,.rw (nC n),sbB 5 (acc++[UInt8.ofNat 1])],(aQ1 ([0,2,2,1])),(aQ2 ([0,2,2,1])),?_⟩
    refine aQ26 ?_
    refine ACalls.frame ([0,3]) (zgn true (acc++[UInt8.ofNat 1]) R ((eAt R true p (0)+1:Nat):Int) (R.getD (eAt R true p (0)) n0d) (hT _ hm) hl2) rfl (by decide) (by simp [LM3,zao,zaH,zaw,zax,renL,AV.ren,AEnd.ren,zan,wI,wO,zag,zak,List.getElem?_cons_zero,List.getElem?_cons_succ]) (by first | rfl | simp [LM3,zao,zaH,zaw,zax,renL,AV.ren,AEnd.ren,zan,wI,wO,zag,zak,List.getElem?_cons_zero,List.getElem?_cons_succ]) ?_
    rintro _ _ ⟨rfl,rfl⟩
    refine⟨.ret (.tup []),[sbW 111 true 0 4 ((acc++[UInt8.ofNat 1])++escT (R.getD (eAt R true p (0)) n0d).text).length (wR R ((eAt R true p (0)+1:Nat):Int)),.dead,.rw (nC n),.dead,sbB 5 ((acc++[UInt8.ofNat 1])++escT (R.getD (eAt R true p (0)) n0d).text)],(aQ1 ([0,3,3,1,2])),(aQ2 ([0,3,3,1,2])),?_⟩
    refine aQ26 ?_
    refine ACalls.frame ([0,4]) (hv) rfl (by decide) (by simp [LM3,zao,zaH,zaw,zax,renL,AV.ren,AEnd.ren,zan,wI,wO,zag,zak,List.getElem?_cons_zero,List.getElem?_cons_succ]) (by first | rfl | simp [LM3,zao,zaH,zaw,zax,renL,AV.ren,AEnd.ren,zan,wI,wO,zag,zak,List.getElem?_cons_zero,List.getElem?_cons_succ]) ?_
    rintro _ _ ⟨rfl,rfl⟩
    refine⟨.ret (.tup []),[sbW 111 true 0 5 (acc++zaT (encF f R) R true p (0+1)).length (wR R ((eAt R true p (0+1):Nat):Int)),.dead,.rw (nC n),.dead,.dead,sbB 5 (acc++zaT (encF f R) R true p (0+1))],(aQ1 ([0,3,3,3,1,2])),(aQ2 ([0,3,3,3,1,2])),?_⟩
    refine aQ26 ?_
    refine⟨by unfold inI;omega,1,by omega,(by show n.kids.toNat - 1 < n.kids.toNat - 0;omega),zab (q:=[0,1,2,5]) rfl rfl (by decide) ?_ ?_⟩
    ·refine aQ19 ?_
     exact⟨.inr (ze5 _ _),.inr (by omega)⟩
    ·simp [zfp,zao,zar,zan,zcV,zcT,zag]
   ·have h0:n.kids.toNat=0:=by omega
    rw [h0] at ends hcl ⊢
    have e2:acc++zaT (encF f R) R true p 0=acc:=by simp [zaT]
    rw [e2] at hcl
    rw [show eAt R true p 0=r.1 from ends,show zaT (encF f R) R true p 0=[] from rfl]
    refine ACalls.frame ([0,1]) (zfw true acc (UInt8.ofNat 0) (wR R r.1) rfl (fun q h0 h1=>zag h1 R _) hcl) rfl (by decide) (by simp [LM3,zao,zaH,zaw,zax,renL,AV.ren,AEnd.ren,zan,wI,wO,zag,zak,List.getElem?_cons_zero,List.getElem?_cons_succ]) (by first | rfl | simp [LM3,zao,zaH,zaw,zax,renL,AV.ren,AEnd.ren,zan,wI,wO,zag,zak,List.getElem?_cons_zero,List.getElem?_cons_succ]) ?_
    rintro _ _ ⟨rfl,rfl⟩
    refine⟨.ret (.lit .nilIface),[sbW 111 true 0 3 (acc++[UInt8.ofNat 0]).length (wR R r.1),.dead,.rw (nC n),sbB 5 (acc++[UInt8.ofNat 0])],(aQ1 ([0,1,3,2])),(aQ2 ([0,1,3,2])),?_⟩
    refine aQ26 ?_
    exact zcX (k:=3) rfl rfl (by decide) (zag rfl _ _) rfl ⟨rfl,rfl⟩
  | k+1,hk0 =>
   simp only [zfp]
   refine aQ26 ?_
   refine⟨fun hlt=>?_,fun hge=>?_⟩
   ·have hlx:k+1 < n.kids.toNat:=by omega
    obtain⟨r',q1,q2,q3⟩:=kid hlx
    have i0:=inv (k+1) (by omega)
    have i1:=inv (k+1+1) (by omega)
    have g1:=za6 q1
    have hln:=zgo (encF f R) R true p (k:=k+1+1) (c:=n.kids.toNat) (by omega)
    rw [q2] at i1
    have e1:acc++zaT (encF f R) R true p (k+1)++zco (encF f R) R true p (k+1)=acc++zaT (encF f R) R true p (k+1+1):=by rw [zcY _ _ _ _ (k+1),List.append_assoc]
    have hm:(R.getD (eAt R true p (k+1)) n0d)∈R:=by
     rw [List.getD_eq_getElem?_getD,List.getElem?_eq_getElem (by omega)]
     exact List.getElem_mem _
    have hlen:((acc++zaT (encF f R) R true p (k+1))++zco (encF f R) R true p (k+1)).length≤140737488355328:=by
     rw [e1,List.length_append]
     omega
    have e4:(acc++zaT (encF f R) R true p (k+1))++zco (encF f R) R true p (k+1)=(((acc++zaT (encF f R) R true p (k+1))++[UInt8.ofNat 1])++escT (R.getD (eAt R true p (k+1)) n0d).text)++encF f R (eAt R true p (k+1)+1):=by simp [zco,bK,keyT]
    rw [e4] at hlen e1
    have hl2:((acc++zaT (encF f R) R true p (k+1))++[UInt8.ofNat 1]).length+(escT (R.getD (eAt R true p (k+1)) n0d).text).length≤140737488355328:=by
     simp only [List.length_append] at hlen ⊢
     omega
    have hl1:(acc++zaT (encF f R) R true p (k+1)).length+1≤140737488355328:=by
     simp only [List.length_append,List.length_singleton] at hl2 ⊢
     omega
    have hv:=V (eAt R true p (k+1)+1) r' true (((acc++zaT (encF f R) R true p (k+1))++[UInt8.ofNat 1])++escT (R.getD (eAt R true p (k+1)) n0d).text) q1 (by omega) (by rw [← List.length_append];exact hlen)
    rw [e1,← q2] at hv
    refine ACalls.frame ([0,3]) (zfw true (acc++zaT (encF f R) R true p (k+1)) (UInt8.ofNat 1) (wR R ((eAt R true p (k+1):Nat):Int)) rfl (fun q h0 h1=>zag h1 R _) hl1) rfl (by decide) (by simp [LM3,zao,zaH,zaw,zax,renL,AV.ren,AEnd.ren,zan,wI,wO,zag,zak,List.getElem?_cons_zero,List.getElem?_cons_succ]) (by first | rfl | simp [LM3,zao,zaH,zaw,zax,renL,AV.ren,AEnd.ren,zan,wI,wO,zag,zak,List.getElem?_cons_zero,List.getElem?_cons_succ]) ?_
    rintro _ _ ⟨rfl,rfl⟩
    refine⟨.ret (.lit .nilIface),[sbW 111 true 0 4 ((acc++zaT (encF f R) R true p (k+1))++[UInt8.ofNat 1]).length (wR R ((eAt R true p (k+1):Nat):Int)),.dead,.rw (nC n),.dead,sbB 5 ((acc++zaT (encF f R) R true p (k+1))++[UInt8.ofNat 1])],(aQ1 ([0,3,3,1,2])),(aQ2 ([0,3,3,1,2])),?_⟩
    refine aQ26 ?_
    refine ACalls.frame ([0,4]) (zjO true ((acc++zaT (encF f R) R true p (k+1))++[UInt8.ofNat 1]) R (eAt R true p (k+1)) (by omega) hR) rfl (by decide) (by simp [LM3,zao,zaH,zaw,zax,renL,AV.ren,AEnd.ren,zan,wI,wO,zag,zak,List.getElem?_cons_zero,List.getElem?_cons_succ]) (by first | rfl | simp [LM3,zao,zaH,zaw,zax,renL,AV.ren,AEnd.ren,zan,wI,wO,zag,zak,List.getElem?_cons_zero,List.getElem?_cons_succ]) ?_
    rintro _ _ ⟨rfl,rfl⟩
    refine⟨.ret (nA (R.getD (eAt R true p (k+1)) n0d)),[sbW 111 true 0 4 ((acc++zaT (encF f R) R true p (k+1))++[UInt8.ofNat 1]).length (wR R ((eAt R true p (k+1)+1:Nat):Int)),.dead,.rw (nC n),.dead,sbB 5 ((acc++zaT (encF f R) R true p (k+1))++[UInt8.ofNat 1])],(aQ1 ([0,2,2,2,1])),(aQ2 ([0,2,2,2,1])),?_⟩
    refine aQ26 ?_
    refine ACalls.frame ([0,4]) (zgn true ((acc++zaT (encF f R) R true p (k+1))++[UInt8.ofNat 1]) R ((eAt R true p (k+1)+1:Nat):Int) (R.getD (eAt R true p (k+1)) n0d) (hT _ hm) hl2) rfl (by decide) (by simp [LM3,zao,zaH,zaw,zax,renL,AV.ren,AEnd.ren,zan,wI,wO,zag,zak,List.getElem?_cons_zero,List.getElem?_cons_succ]) (by first | rfl | simp [LM3,zao,zaH,zaw,zax,renL,AV.ren,AEnd.ren,zan,wI,wO,zag,zak,List.getElem?_cons_zero,List.getElem?_cons_succ]) ?_
    rintro _ _ ⟨rfl,rfl⟩
    refine⟨.ret (.tup []),[sbW 111 true 0 5 (((acc++zaT (encF f R) R true p (k+1))++[UInt8.ofNat 1])++escT (R.getD (eAt R true p (k+1)) n0d).text).length (wR R ((eAt R true p (k+1)+1:Nat):Int)),.dead,.rw (nC n),.dead,.dead,sbB 5 (((acc++zaT (encF f R) R true p (k+1))++[UInt8.ofNat 1])++escT (R.getD (eAt R true p (k+1)) n0d).text)],(aQ1 ([0,3,3,3,1,2])),(aQ2 ([0,3,3,3,1,2])),?_⟩
    refine aQ26 ?_
    refine ACalls.frame ([0,5]) (hv) rfl (by decide) (by simp [LM3,zao,zaH,zaw,zax,renL,AV.ren,AEnd.ren,zan,wI,wO,zag,zak,List.getElem?_cons_zero,List.getElem?_cons_succ]) (by first | rfl | simp [LM3,zao,zaH,zaw,zax,renL,AV.ren,AEnd.ren,zan,wI,wO,zag,zak,List.getElem?_cons_zero,List.getElem?_cons_succ]) ?_
    rintro _ _ ⟨rfl,rfl⟩
    refine⟨.ret (.tup []),[sbW 111 true 0 6 (acc++zaT (encF f R) R true p (k+1+1)).length (wR R ((eAt R true p (k+1+1):Nat):Int)),.dead,.rw (nC n),.dead,.dead,.dead,sbB 5 (acc++zaT (encF f R) R true p (k+1+1))],(aQ1 ([0,3,3,3,3,1,2])),(aQ2 ([0,3,3,3,3,1,2])),?_⟩
    refine aQ26 ?_
    refine⟨by unfold inI;omega,k+1+1,by omega,(by show n.kids.toNat - (k+1+1) < n.kids.toNat - (k+1);omega),zab (q:=[0,1,2,6]) rfl rfl (by decide) ?_ ?_⟩
    ·refine aQ19 ?_
     exact⟨.inr (ze5 _ _),.inr (by omega)⟩
    ·simp [zfp,zao,zar,zan,zcV,zcT,zag]
   ·have h0:n.kids.toNat=k+1:=by omega
    rw [h0] at ends hcl ⊢
    rw [show eAt R true p (k+1)=r.1 from ends,← List.append_assoc]
    refine ACalls.frame ([0,3]) (zfw true (acc++zaT (encF f R) R true p (k+1)) (UInt8.ofNat 0) (wR R r.1) rfl (fun q h0 h1=>zag h1 R _) hcl) rfl (by decide) (by simp [LM3,zao,zaH,zaw,zax,renL,AV.ren,AEnd.ren,zan,wI,wO,zag,zak,List.getElem?_cons_zero,List.getElem?_cons_succ]) (by first | rfl | simp [LM3,zao,zaH,zaw,zax,renL,AV.ren,AEnd.ren,zan,wI,wO,zag,zak,List.getElem?_cons_zero,List.getElem?_cons_succ]) ?_
    rintro _ _ ⟨rfl,rfl⟩
    refine⟨.ret (.lit .nilIface),[sbW 111 true 0 4 (acc++zaT (encF f R) R true p (k+1)++[UInt8.ofNat 0]).length (wR R r.1),.dead,.rw (nC n),.dead,sbB 5 (acc++zaT (encF f R) R true p (k+1)++[UInt8.ofNat 0])],(aQ1 ([0,3,3,1,2])),(aQ2 ([0,3,3,1,2])),?_⟩
    refine aQ26 ?_
    exact zcX (k:=4) rfl rfl (by decide) (zag rfl _ _) rfl ⟨rfl,rfl⟩
end Go.Proofs.YtcahoelfogjljaaGreatDoor
end

section
namespace Go.Proofs.YtcahoelfogjljaaGreatDoor
open Go Go.Eng
theorem zi7 {n:Nd} (h:zbU n=true):∃ k:Nat,n.kind=k∧k < 6:=by
 simp only [zbU,Bool.and_eq_true,decide_eq_true_eq] at h
 exact⟨n.kind.toNat,by omega,by omega⟩
theorem alone_plain {n:Nd} (h:zbU n=true) (h4:n.kind≠4) (h5:n.kind≠5):n.kids=0:=by
 simp only [zbU,Bool.and_eq_true,decide_eq_true_eq] at h
 have:=congrArg Nd.kids h.2
 simp only [wantN] at this
 repeat' split at this
 all_goals first | exact this | omega
theorem value_all (R:List Nd) (hR:R.length≤9223372036854775806) (hT:∀ m,m∈R→m.text.length < 4294967281):∀ f,ValueAt f R:=by
 intro f
 induction f with
 | zero =>
  intro p r u acc hv hf
  have:=za6 hv
  omega
 | succ f ih =>
  intro p r u acc hv hf hl
  obtain⟨n,hK⟩:=zcm hv
  have hn:R.getD p n0d=n:=zaJ hK.node
  obtain⟨hp,hnp,hal⟩:=zbc hK.node
  obtain⟨k,hk,hk6⟩:=zi7 hal
  have ends:=hK.ends.1
  have hm:n∈R:=List.mem_of_getElem? hnp
  obtain⟨L,hL⟩:∃ L,L=encF (f+1) R p:=⟨_,rfl⟩
  rw [← hL] at hl ⊢
  rw [encF,hn] at hL
  have hnx:=zjO u acc R p hp hR
  rw [hn] at hnx
  have hl1:acc.length+1≤140737488355328:=by
   rw [hL,zfr] at hl
   simp only [List.length_append,List.length_cons] at hl
   omega
  unfold wI
  refine ACalls.body T_ok Tryz.func67 (by kernel_rfl) rfl Tryz.ntmps67 (congrArg Array.toList Tryz.results67) ?_
  refine aQ26 ?_
  refine ACalls.frame ([0,1]) (hnx) rfl (by decide) (by simp [LM3,zao,zaH,zaw,zax,renL,AV.ren,AEnd.ren,zan,wI,wO,zag,zak,List.getElem?_cons_zero,List.getElem?_cons_succ]) (by first | rfl | simp [LM3,zao,zaH,zaw,zax,renL,AV.ren,AEnd.ren,zan,wI,wO,zag,zak,List.getElem?_cons_zero,List.getElem?_cons_succ]) ?_
  rintro _ _ ⟨rfl,rfl⟩
  refine⟨.ret (nA n),[sbW 111 u 0 1 acc.length (wR R ((p+1:Nat):Int)),sbB 5 acc],(aQ1 ([0,1])),(aQ2 ([0,1])),?_⟩
  refine aQ26 ?_
  refine zdz [6] (by kernel_rfl) (by kernel_rfl) (by kernel_rfl) ?_
  refine aQ26 ?_
  refine zcI (kind_ok n.kind) aQ3 aQ5 ?_
  refine aQ26 ?_
  refine aQ26 ?_
  refine ACalls.frame ([0,1]) (zfw u acc (zbh n.kind) (wR R ((p+1:Nat):Int)) rfl (fun q h0 h1=>zag h1 R _) hl1) rfl (by decide) (by simp [LM3,zao,zaH,zaw,zax,renL,AV.ren,AEnd.ren,zan,wI,wO,zag,zak,List.getElem?_cons_zero,List.getElem?_cons_succ]) (by first | rfl | simp [LM3,zao,zaH,zaw,zax,renL,AV.ren,AEnd.ren,zan,wI,wO,zag,zak,List.getElem?_cons_zero,List.getElem?_cons_succ]) ?_
  rintro _ _ ⟨rfl,rfl⟩
  refine⟨.ret (.lit .nilIface),[sbW 111 true 0 3 (acc++[zbh n.kind]).length (wR R ((p+1:Nat):Int)),.dead,.rw (nC n),sbB 5 (acc++[zbh n.kind])],(aQ1 ([0,1,3,2])),(aQ2 ([0,1,3,2])),?_⟩
  refine aQ26 ?_
  refine zdz [8] (by kernel_rfl) (by kernel_rfl) (by kernel_rfl) ?_
  try simp -implicitDefEqProofs only [LM1,eq_self,zdU,hk,ia_w3 T109,ld_w3 hk6,TB,SB,Int.reduceToNat,Nat.reduceAdd,Nat.reduceEqDiff,Nat.reduceLT,Nat.reduceMod,Nat.reducePow,Nat.reduceSub,if_true,reduceIte]
  refine⟨hk6,?_⟩
  have plain:n.kind≠4→n.kind≠5→p+1=r.1:=fun h4 h5=>by
   rw [alone_plain hal h4 h5] at ends
   exact ends
  clear hnx hl1
  by_cases c0:k=0
  ·subst c0
   have eL:acc++L=(acc++[zbh ((0:Nat):Int)]):=by
    rw [hL]
    simp [zfr,hk]
   have hl2:((acc++[zbh ((0:Nat):Int)])).length≤140737488355328:=by
    rw [← eL,List.length_append]
    exact hl
   rw [eL,← plain (by omega) (by omega)]
   refine ACalls.frame ([0,3]) (wnull_ok (acc++[zbh ((0:Nat):Int)]) R ((p+1:Nat):Int) n) rfl (by decide) (by simp [LM3,zao,zaH,zaw,zax,renL,AV.ren,AEnd.ren,zan,wI,wO,zag,zak,List.getElem?_cons_zero,List.getElem?_cons_succ]) (by first | rfl | simp [LM3,zao,zaH,zaw,zax,renL,AV.ren,AEnd.ren,zan,wI,wO,zag,zak,List.getElem?_cons_zero,List.getElem?_cons_succ]) ?_
   rintro _ _ ⟨rfl,rfl⟩
   refine⟨.ret (.tup []),[sbW 111 true 0 3 (acc++[zbh ((0:Nat):Int)]).length (wR R ((p+1:Nat):Int)),.dead,.rw (nC n),sbB 5 (acc++[zbh ((0:Nat):Int)])],(aQ1 ([0,2,2,1])),(aQ2 ([0,2,2,1])),?_⟩
   refine aQ26 ?_
   exact zcX (k:=3) rfl rfl (by decide) (zag rfl _ _) rfl ⟨rfl,rfl⟩
  by_cases c1:k=1
  ·subst c1
   have eL:acc++L=(acc++[zbh ((1:Nat):Int)])++[numB n.num]:=by
    rw [hL]
    simp [zfr,hk]
   have hl2:((acc++[zbh ((1:Nat):Int)])++[numB n.num]).length≤140737488355328:=by
    rw [← eL,List.length_append]
    exact hl
   rw [List.length_append] at hl2
   rw [eL,← plain (by omega) (by omega)]
   refine ACalls.frame ([0,3]) (wtruth_ok (acc++[zbh ((1:Nat):Int)]) R ((p+1:Nat):Int) n hl2) rfl (by decide) (by simp [LM3,zao,zaH,zaw,zax,renL,AV.ren,AEnd.ren,zan,wI,wO,zag,zak,List.getElem?_cons_zero,List.getElem?_cons_succ]) (by first | rfl | simp [LM3,zao,zaH,zaw,zax,renL,AV.ren,AEnd.ren,zan,wI,wO,zag,zak,List.getElem?_cons_zero,List.getElem?_cons_succ]) ?_
   rintro _ _ ⟨rfl,rfl⟩
   refine⟨.ret (.tup []),[sbW 111 true 0 4 ((acc++[zbh ((1:Nat):Int)])++[numB n.num]).length (wR R ((p+1:Nat):Int)),.dead,.rw (nC n),.dead,sbB 5 ((acc++[zbh ((1:Nat):Int)])++[numB n.num])],(aQ1 ([0,3,3,1,2])),(aQ2 ([0,3,3,1,2])),?_⟩
   refine aQ26 ?_
   exact zcX (k:=4) rfl rfl (by decide) (zag rfl _ _) rfl ⟨rfl,rfl⟩
  by_cases c2:k=2
  ·subst c2
   have eL:acc++L=(acc++[zbh ((2:Nat):Int)])++numL n.num:=by
    rw [hL]
    simp [zfr,hk]
   have hl2:((acc++[zbh ((2:Nat):Int)])++numL n.num).length≤140737488355328:=by
    rw [← eL,List.length_append]
    exact hl
   rw [List.length_append] at hl2
   rw [eL,← plain (by omega) (by omega)]
   refine ACalls.frame ([0,3]) (wnumber_ok (acc++[zbh ((2:Nat):Int)]) R ((p+1:Nat):Int) n hl2) rfl (by decide) (by simp [LM3,zao,zaH,zaw,zax,renL,AV.ren,AEnd.ren,zan,wI,wO,zag,zak,List.getElem?_cons_zero,List.getElem?_cons_succ]) (by first | rfl | simp [LM3,zao,zaH,zaw,zax,renL,AV.ren,AEnd.ren,zan,wI,wO,zag,zak,List.getElem?_cons_zero,List.getElem?_cons_succ]) ?_
   rintro _ _ ⟨rfl,rfl⟩
   refine⟨.ret (.tup []),[sbW 111 true 0 4 ((acc++[zbh ((2:Nat):Int)])++numL n.num).length (wR R ((p+1:Nat):Int)),.dead,.rw (nC n),.dead,sbB 5 ((acc++[zbh ((2:Nat):Int)])++numL n.num)],(aQ1 ([0,3,3,1,2])),(aQ2 ([0,3,3,1,2])),?_⟩
   refine aQ26 ?_
   exact zcX (k:=4) rfl rfl (by decide) (zag rfl _ _) rfl ⟨rfl,rfl⟩
  by_cases c3:k=3
  ·subst c3
   have eL:acc++L=(acc++[zbh ((3:Nat):Int)])++escT n.text:=by
    rw [hL]
    simp [zfr,hk]
   have hl2:((acc++[zbh ((3:Nat):Int)])++escT n.text).length≤140737488355328:=by
    rw [← eL,List.length_append]
    exact hl
   rw [List.length_append] at hl2
   rw [eL,← plain (by omega) (by omega)]
   refine ACalls.frame ([0,3]) (zgn true (acc++[zbh ((3:Nat):Int)]) R ((p+1:Nat):Int) n (hT n hm) hl2) rfl (by decide) (by simp [LM3,zao,zaH,zaw,zax,renL,AV.ren,AEnd.ren,zan,wI,wO,zag,zak,List.getElem?_cons_zero,List.getElem?_cons_succ]) (by first | rfl | simp [LM3,zao,zaH,zaw,zax,renL,AV.ren,AEnd.ren,zan,wI,wO,zag,zak,List.getElem?_cons_zero,List.getElem?_cons_succ]) ?_
   rintro _ _ ⟨rfl,rfl⟩
   refine⟨.ret (.tup []),[sbW 111 true 0 4 ((acc++[zbh ((3:Nat):Int)])++escT n.text).length (wR R ((p+1:Nat):Int)),.dead,.rw (nC n),.dead,sbB 5 ((acc++[zbh ((3:Nat):Int)])++escT n.text)],(aQ1 ([0,3,3,1,2])),(aQ2 ([0,3,3,1,2])),?_⟩
   refine aQ26 ?_
   exact zcX (k:=4) rfl rfl (by decide) (zag rfl _ _) rfl ⟨rfl,rfl⟩
  by_cases c4:k=4
  ·subst c4
   have eL:acc++L=(acc++[zbh ((4:Nat):Int)])++(zaT (encF f R) R false p n.kids.toNat++[0]):=by
    rw [hL]
    simp [zfr,hk]
   have hl2:((acc++[zbh ((4:Nat):Int)])++(zaT (encF f R) R false p n.kids.toNat++[0])).length≤140737488355328:=by
    rw [← eL,List.length_append]
    exact hl
   rw [List.length_append] at hl2
   rw [eL]
   refine ACalls.frame ([0,3]) (wlist_ok f R ih hR hT hK hk (by omega) (acc++[zbh ((4:Nat):Int)]) hl2) rfl (by decide) (by simp [LM3,zao,zaH,zaw,zax,renL,AV.ren,AEnd.ren,zan,wI,wO,zag,zak,List.getElem?_cons_zero,List.getElem?_cons_succ]) (by first | rfl | simp [LM3,zao,zaH,zaw,zax,renL,AV.ren,AEnd.ren,zan,wI,wO,zag,zak,List.getElem?_cons_zero,List.getElem?_cons_succ]) ?_
   rintro _ _ ⟨rfl,rfl⟩
   refine⟨.ret (.tup []),[sbW 111 true 0 4 ((acc++[zbh ((4:Nat):Int)])++(zaT (encF f R) R false p n.kids.toNat++[0])).length (wR R (r.1:Int)),.dead,.rw (nC n),.dead,sbB 5 ((acc++[zbh ((4:Nat):Int)])++(zaT (encF f R) R false p n.kids.toNat++[0]))],(aQ1 ([0,3,3,1,2])),(aQ2 ([0,3,3,1,2])),?_⟩
   refine aQ26 ?_
   exact zcX (k:=4) rfl rfl (by decide) (zag rfl _ _) rfl ⟨rfl,rfl⟩
  by_cases c5:k=5
  ·subst c5
   have eL:acc++L=(acc++[zbh ((5:Nat):Int)])++(zaT (encF f R) R true p n.kids.toNat++[0]):=by
    rw [hL]
    simp [zfr,hk]
   have hl2:((acc++[zbh ((5:Nat):Int)])++(zaT (encF f R) R true p n.kids.toNat++[0])).length≤140737488355328:=by
    rw [← eL,List.length_append]
    exact hl
   rw [List.length_append] at hl2
   rw [eL]
   refine ACalls.frame ([0,3]) (wmembers_ok f R ih hR hT hK hk (by omega) (acc++[zbh ((5:Nat):Int)]) hl2) rfl (by decide) (by simp [LM3,zao,zaH,zaw,zax,renL,AV.ren,AEnd.ren,zan,wI,wO,zag,zak,List.getElem?_cons_zero,List.getElem?_cons_succ]) (by first | rfl | simp [LM3,zao,zaH,zaw,zax,renL,AV.ren,AEnd.ren,zan,wI,wO,zag,zak,List.getElem?_cons_zero,List.getElem?_cons_succ]) ?_
   rintro _ _ ⟨rfl,rfl⟩
   refine⟨.ret (.tup []),[sbW 111 true 0 4 ((acc++[zbh ((5:Nat):Int)])++(zaT (encF f R) R true p n.kids.toNat++[0])).length (wR R (r.1:Int)),.dead,.rw (nC n),.dead,sbB 5 ((acc++[zbh ((5:Nat):Int)])++(zaT (encF f R) R true p n.kids.toNat++[0]))],(aQ1 ([0,3,3,1,2])),(aQ2 ([0,3,3,1,2])),?_⟩
   refine aQ26 ?_
   exact zcX (k:=4) rfl rfl (by decide) (zag rfl _ _) rfl ⟨rfl,rfl⟩
  omega
end Go.Proofs.YtcahoelfogjljaaGreatDoor
end

section
namespace Go.Proofs.YtcahoelfogjljaaGreatDoor
open Go Go.Eng
theorem encF_le (R:List Nd) (hT:∀ m,m∈R→m.text.length≤120):∀ (f p:Nat) (r:Nat × Nat),vl R p=some r→r.1 - p≤f→(encF f R p).length≤500 * (r.1 - p):=by
 intro f
 induction f with
 | zero =>
  intro p r hv hf
  have:=za6 hv
  omega
 | succ f ih =>
  intro p r hv hf
  obtain⟨n,hK⟩:=zcm hv
  have hn:R.getD p n0d=n:=zaJ hK.node
  obtain⟨hp,hnp,hal⟩:=zbc hK.node
  have hm:n∈R:=List.mem_of_getElem? hnp
  have ht:∀ s:List UInt8,s.length≤120→(escT s).length≤242:=fun s hs=>by
   have:=zkj s
   simp only [escT,List.length_append,List.length_cons,List.length_nil]
   omega
  have hh:(zfr n).length≤243:=by
   have h1:=ht n.text (hT n hm)
   rw [zfr]
   split
   ·simp
   ·split
    ·simp [numL,bigL,lowL]
    ·split
     ·simp only [List.length_cons];omega
     ·simp
  have few:=hK.few
  have ends:=hK.ends.1
  rw [encF,hn]
  split
  ·have hk:∀ k,k≤n.kids.toNat→(zaT (encF f R) R (decide (n.kind=5)) p k).length≤500 * (eAt R (decide (n.kind=5)) p k - (p+1)):=by
    intro k
    induction k with
    | zero=>intro _;simp [zaT]
    | succ k ihk =>
     intro hk
     have i0:=ihk (by omega)
     obtain⟨r',q1,q2,_⟩:=hK.kid (k:=k) (by omega)
     have j0:=hK.inv k (by omega)
     have j1:=hK.inv (k+1) (by omega)
     have g1:=za6 q1
     rw [q2] at j1 ⊢
     have h2:=ih _ _ q1 (by omega)
     rw [zcY,List.length_append,zco,List.length_append]
     cases hmp:decide (n.kind=5) with
     | false =>
      rw [hmp] at i0 h2 g1 j0
      simp only [bK,Bool.false_eq_true,if_false,List.length_nil,Nat.add_zero] at h2 g1 ⊢
      omega
     | true =>
      rw [hmp] at i0 h2 g1 j0
      have hmm:R.getD (eAt R true p k) n0d∈R:=by
       simp only [bK,if_true] at g1
       rw [List.getD_eq_getElem?_getD,List.getElem?_eq_getElem (by omega)]
       exact List.getElem_mem _
      have h3:=ht (keyT R true p k) (hT _ hmm)
      simp only [bK,if_true,List.length_cons] at h2 g1 ⊢
      omega
   have h1:=hk _ (Nat.le_refl _)
   rw [ends] at h1
   simp only [List.length_append,List.length_singleton]
   omega
  ·simp only [List.append_nil]
   omega
def putR (l:List Nd):List UInt8 × Int:=if zaz l=0 then (encF l.length l 0,0) else ([],zaz l)
theorem long_of {l:List Nd} (h:zbY l=false):∀ m,m∈l→m.text.length≤120:=fun m hm=>by
 have:=List.any_eq_false.1 h m hm
 simpa using this
def nF:AV:=.lit .nilFunc
section
variable {x : AV} {K : AV → Prop} {KS : AV → zaa → Prop} {σ : zaa} {t : TypeId}
theorem bd_w1 (ht:T t=some tyWr) (hx:x.cells=[x]) (h1:x.one=true):za1 T t [(1,x)] K=K (.agg [.lit (.pointer none),nilS,x,i64 0,nF,nF,nF,nF,nF,nF]):=by
 simp [za1,ht,tyWr,T22,T107,T3,T109,tySl,zbF,zaI,hx,h1,za7,nilS,nF,i64]
theorem box_w {eb:TypeId} (h1:x.one=true) (hk:KS (.ptr σ.length 0) (σ++[.rt true 111 [.lit (.pointer none),.bsl (σ.length+1) 0,x,i64 0,nF,nF,nF,nF,nF,nF]]++[.rt false eb []])):wbox 111 (.agg [.lit (.pointer none),nilS,x,i64 0,nF,nF,nF,nF,nF,nF]) σ KS:=by
 refine⟨by simp only [AV.cells,List.all_cons,h1,List.all_nil];rfl,?_⟩
 rw [if_pos (show zc8 (AV.agg [.lit (.pointer none),nilS,x,i64 0,nF,nF,nF,nF,nF,nF]).cells=true from rfl)]
 exact⟨eb,hk⟩
theorem bd_six (ht:T t=some (zgM 6 108 tyFn)) (f0 f1 f2 f3 f4 f5:Fn) (a:List AV):za1 T t [(0,.fn f0 a []),(1,.fn f1 a []),(2,.fn f2 a []),(3,.fn f3 a []),(4,.fn f4 a []),(5,.fn f5 a [])] K=K (.agg [.fn f0 a [],.fn f1 a [],.fn f2 a [],.fn f3 a [],.fn f4 a [],.fn f5 a []]):=by
 simp [za1,ht,zgM,tyFn,T108,zbF,zaI,AV.cells,AV.one,za7]
theorem st_six {a b c d:AV} (f0 f1 f2 f3 f4 f5:Fn) (r0 r1 r2 r3 r4 r5:List AV) {e:TypeId} {id:Nat}:st2 (some (zgM 6 e tyFn)) (some (.rt true 111 [a,b,c,d,nF,nF,nF,nF,nF,nF])) id 4 (.agg [.fn f0 r0 [],.fn f1 r1 [],.fn f2 r2 [],.fn f3 r3 [],.fn f4 r4 [],.fn f5 r5 []]) σ KS=KS (.lit undef) (σ.set id (.rt true 111 [a,b,c,d,.fn f0 r0 [],.fn f1 r1 [],.fn f2 r2 [],.fn f3 r3 [],.fn f4 r4 [],.fn f5 r5 []])):=by
 simp [st2,zgM,tyFn,AV.cells,AV.one,za7,nF]
end
theorem zhe (R:List Nd):ACalls Tryz.prog 66 [.sl (R.flatMap nC) R.length] [] (fun x σ=>x=.ret (.ptr 0 0)∧σ=wI false [] (wR R 0)):=by
 refine ACalls.body T_ok Tryz.func66 (by kernel_rfl) rfl Tryz.ntmps66 (congrArg Array.toList Tryz.results66) ?_
 try simp -implicitDefEqProofs only [LM1,eq_self,zdU,bd_w1 T111 (zhw _ _) (one_sl _ _),TB,SB,Int.reduceToNat,Nat.reduceAdd,Nat.reduceEqDiff,Nat.reduceLT,Nat.reduceMod,Nat.reducePow,Nat.reduceSub,if_true,reduceIte]
 refine box_w (eb:=5) (one_sl _ _) ?_
 try simp -implicitDefEqProofs only [LM1,eq_self,zdU,bd_six T109,st_six,TB,SB,Int.reduceToNat,Nat.reduceAdd,Nat.reduceEqDiff,Nat.reduceLT,Nat.reduceMod,Nat.reducePow,Nat.reduceSub,if_true,reduceIte]
 exact zaO ⟨rfl,rfl⟩
theorem put_ok (l:List Nd) (hl:l.length≤1000000):ACalls Tryz.prog 32 [.sl (l.flatMap nC) l.length] [] (fun y _=>y=.ret (.tup [str (putR l).1,i64 (putR l).2])):=by
 refine ACalls.body T_ok Tryz.func32 (by kernel_rfl) rfl Tryz.ntmps32 (congrArg Array.toList Tryz.results32) ?_
 refine aQ26 ?_
 refine(zjL l hl).pure (by simp [renL,AV.ren,zat]) ?_
 rintro _ σ ⟨rfl,rfl⟩
 refine⟨zae _ _,?_⟩
 refine aQ26 ?_
 refine⟨fun h0=>zaP aQ6 (by rw [putR,if_neg h0]),fun h0=>?_⟩
 obtain⟨hl1,hlg,d,hd,_⟩:=zcW h0
 have ht:=long_of hlg
 have hlen:=encF_le l ht l.length 0 _ hd (by simp)
 have hv:=value_all l (by omega) (fun m hm=>by have:=ht m hm;omega) l.length 0 _ false [] hd (by simp) (by simp only [List.length_nil];simp only [Nat.sub_zero] at hlen;omega)
 rw [List.nil_append] at hv
 refine(zhe l).mono ?_
 rintro _ _ ⟨rfl,rfl⟩
 simp only [wI]
 refine aQ26 ?_
 refine ACalls.frame ([0,1]) (hv) rfl (by decide) (by simp [LM3,zao,zaH,zaw,zax,renL,AV.ren,AEnd.ren,zan,wI,wO,zag,zak,List.getElem?_cons_zero,List.getElem?_cons_succ]) (by first | rfl | simp [LM3,zao,zaH,zaw,zax,renL,AV.ren,AEnd.ren,zan,wI,wO,zag,zak,List.getElem?_cons_zero,List.getElem?_cons_succ]) ?_
 rintro _ _ ⟨rfl,rfl⟩
 refine⟨.ret (.tup []),[sbW 111 true 0 2 (encF l.length l 0).length (wR l (l.length:Int)),.dead,sbB 5 (encF l.length l 0)],(aQ1 ([0,1,2])),(aQ2 ([0,1,2])),?_⟩
 refine aQ26 ?_
 refine bstr_w (k:=2) rfl rfl (by simp only [Nat.sub_zero] at hlen;omega) ?_
 refine aQ26 ?_
 exact zaP aQ6 (by rw [putR,if_pos h0])
end Go.Proofs.YtcahoelfogjljaaGreatDoor
end

section
namespace Go.Proofs.YtcahoelfogjljaaGreatDoor
open Go Go.Eng
def zbJ (l:List (List UInt8)):List UInt8:=l.flatMap fun s=>zbh 3::escT s
theorem zgU (l:List (List UInt8)) (k:Nat) (h:k < l.length):zbJ (l.take (k+1))=zbJ (l.take k)++[zbh 3]++escT (l.getD k []):=by
 rw [← List.take_append_getElem h,List.getD_eq_getElem?_getD,List.getElem?_eq_getElem h]
 simp only [zbJ,List.flatMap_append,List.flatMap_cons,List.flatMap_nil,List.append_nil,List.append_assoc,List.cons_append,List.nil_append,Option.getD_some]
theorem zjP (l:List (List UInt8)) (k:Nat):(zbJ (l.take k)).length≤(zbJ l).length:=by
 have:zbJ l=zbJ (l.take k)++zbJ (l.drop k):=by rw [zbJ,zbJ,zbJ,← List.flatMap_append,List.take_append_drop]
 rw [this,List.length_append]
 omega
theorem bd_n2 {t:TypeId} {K:AV→Prop} (ht:T t=some tyNd) (j:List UInt8):za1 T t [(2,str j)] K=K (nA ⟨0,0,j,0⟩):=by
 simp [za1,ht,tyNd,T3,T2,T49,T9,zbF,zaI,zb2,zb9,zdm,zbR,za7,zaD,tyStr,nA,nC]
 try rfl
theorem ldd_str0 {K:AV→Prop} (l:List (List UInt8)):ld2 (some tyStr) (some (l.map str)) 0 K=(0 < l.length∧K (str (l.getD 0 []))):=by
 have:=ldd_str (K:=K) l 0 0
 simpa only [List.drop_zero,Nat.add_zero,Nat.zero_add] using this
def joinS (l:List (List UInt8)):Nat→zaa
 | 0=>[sbW 111 false 0 1 ([]:List UInt8).length (wR [] 0),sbB 5 ([]:List UInt8)]
 | k+1=>[sbW 111 true 0 2 (zbJ (l.take (k+1))).length (wR [] 0),.dead,sbB 5 (zbJ (l.take (k+1)))]
theorem join_ok (l:List (List UInt8)) (hn:l.length≤9223372036854775806) (hT:∀ s,s∈l→s.length < 4294967281) (hl:(zbJ l).length≤140737488355328):ACalls Tryz.prog 34 [.sl (l.map str) l.length] [] (fun y _=>y=.ret (str (zbJ l))):=by
 have hw:ACalls Tryz.prog 66 [.lit (.slice none 0 0)] [] (fun x σ=>x=.ret (.ptr 0 0)∧σ=wI false [] (wR [] 0)):=(zhe []).nils ⟨.inr ⟨rfl,rfl⟩,trivial⟩
 refine ACalls.body T_ok Tryz.func34 (by kernel_rfl) rfl Tryz.ntmps34 (congrArg Array.toList Tryz.results34) ?_
 refine aQ26 ?_
 refine hw.mono ?_
 rintro _ _ ⟨rfl,rfl⟩
 simp only [wI]
 refine aQ26 ?_
 rw [zaN]
 refine⟨Nat,fun k=>k≤l.length,fun k=>[.sl (l.map str) l.length,.bot,str [],.ptr 0 0,.bot,.bot,.bot,.sl (l.map str) l.length,i64 l.length,i64 k,.bot,.bot,.bot,.bot,.bot,.bot,.bot,.bot,.bot,.bot,.bot,.bot,.bot,.bot,.bot,.bot,.bot],fun k=>joinS l k,fun k=>l.length - k,0,Nat.zero_le _,zab (q:=[0,1]) rfl rfl (by decide) ?_ ?_,?_⟩
 ·refine aQ19 ?_
  exact⟨by simp [zas str zah],by simp [zas str zah],.inr rfl⟩
 ·simp [joinS,zao,zcV,zcT,zag]
 ·intro k hk0
  match k,hk0 with
  | 0,hk0 =>
   simp only [joinS]
   refine aQ26 ?_
   refine⟨fun hlt=>?_,fun hge=>?_⟩
   ·skip
    have hlk:0 < l.length:=by omega
    have hm:(l.getD (0) [])∈l:=by
     rw [List.getD_eq_getElem?_getD,List.getElem?_eq_getElem hlk]
     exact List.getElem_mem _
    have e1:([]:List UInt8)++[zbh 3]++escT (l.getD (0) [])=(zbJ (l.take (0+1))):=by rw [zgU l _ hlk];rfl
    have hle:=zjP l (0+1)
    rw [← e1] at hle
    have hl2:(([]:List UInt8)++[zbh 3]).length+(escT (l.getD (0) [])).length≤140737488355328:=by
     rw [← List.length_append]
     omega
    have hl1:([]:List UInt8).length+1≤140737488355328:=by
     rw [List.length_append,List.length_singleton] at hl2
     omega
    have ht:=zgn true (([]:List UInt8)++[zbh 3]) [] 0 ⟨0,0,(l.getD (0) []),0⟩ (hT _ hm) hl2
    rw [e1] at ht
    refine aQ27 ?_
    refine⟨by omega,by omega,hlk,?_⟩
    refine zdz [4] (by kernel_rfl) (by kernel_rfl) (by kernel_rfl) ?_
    refine aQ26 ?_
    refine zcI (kind_ok 3) aQ3 aQ5 ?_
    refine aQ26 ?_
    refine aQ26 ?_
    refine ACalls.frame ([0,1]) (zfw false ([]:List UInt8) (zbh 3) (wR [] 0) rfl (fun q h0 h1=>zag h1 [] _) hl1) rfl (by decide) (by simp [LM3,zao,zaH,zaw,zax,renL,AV.ren,AEnd.ren,zan,wI,wO,zag,zak,List.getElem?_cons_zero,List.getElem?_cons_succ]) (by first | rfl | simp [LM3,zao,zaH,zaw,zax,renL,AV.ren,AEnd.ren,zan,wI,wO,zag,zak,List.getElem?_cons_zero,List.getElem?_cons_succ]) ?_
    rintro _ _ ⟨rfl,rfl⟩
    refine⟨.ret (.lit .nilIface),[sbW 111 true 0 2 (([]:List UInt8)++[zbh 3]).length (wR [] 0),.dead,sbB 5 (([]:List UInt8)++[zbh 3])],(aQ1 ([0,1,2])),(aQ2 ([0,1,2])),?_⟩
    refine aQ26 ?_
    refine aQ28 ?_
    refine ACalls.frame ([0,2]) (ht) rfl (by decide) (by simp [LM3,zao,zaH,zaw,zax,renL,AV.ren,AEnd.ren,zan,wI,wO,zag,zak,List.getElem?_cons_zero,List.getElem?_cons_succ]) (by first | rfl | simp [LM3,zao,zaH,zaw,zax,renL,AV.ren,AEnd.ren,zan,wI,wO,zag,zak,List.getElem?_cons_zero,List.getElem?_cons_succ]) ?_
    rintro _ _ ⟨rfl,rfl⟩
    refine⟨.ret (.tup []),[sbW 111 true 0 3 (zbJ (l.take (0+1))).length (wR [] 0),.dead,.dead,sbB 5 (zbJ (l.take (0+1)))],(aQ1 ([0,3,1,2])),(aQ2 ([0,3,1,2])),?_⟩
    refine aQ26 ?_
    refine⟨by unfold inI;omega,1,by omega,(by show l.length - 1 < l.length - 0;omega),zab (q:=[0,1,3]) rfl rfl (by decide) ?_ ?_⟩
    ·refine aQ19 ?_
     exact⟨by simp [zas str zah],by simp [zas str zah],.inr (by omega)⟩
    ·simp [joinS,zao,zcV,zcT,zag]
   ·have h0:l.length=0:=by omega
    have e0:zbJ l=[]:=by rw [List.eq_nil_of_length_eq_zero h0];rfl
    rw [e0]
    refine bstr_w (k:=1) (l:=[]) rfl rfl (by decide) ?_
    refine aQ26 ?_
    exact zaP (zah _ _) rfl
  | k+1,hk0 =>
   simp only [joinS]
   refine aQ26 ?_
   refine⟨fun hlt=>?_,fun hge=>?_⟩
   ·skip
    have hlk:k+1 < l.length:=by omega
    have hm:(l.getD (k+1) [])∈l:=by
     rw [List.getD_eq_getElem?_getD,List.getElem?_eq_getElem hlk]
     exact List.getElem_mem _
    have e1:(zbJ (l.take (k+1)))++[zbh 3]++escT (l.getD (k+1) [])=(zbJ (l.take (k+1+1))):=by rw [zgU l _ hlk]
    have hle:=zjP l (k+1+1)
    rw [← e1] at hle
    have hl2:((zbJ (l.take (k+1)))++[zbh 3]).length+(escT (l.getD (k+1) [])).length≤140737488355328:=by
     rw [← List.length_append]
     omega
    have hl1:(zbJ (l.take (k+1))).length+1≤140737488355328:=by
     rw [List.length_append,List.length_singleton] at hl2
     omega
    have ht:=zgn true ((zbJ (l.take (k+1)))++[zbh 3]) [] 0 ⟨0,0,(l.getD (k+1) []),0⟩ (hT _ hm) hl2
    rw [e1] at ht
    refine aQ27 ?_
    refine⟨by omega,by omega,hlk,?_⟩
    refine zdz [4] (by kernel_rfl) (by kernel_rfl) (by kernel_rfl) ?_
    refine aQ26 ?_
    refine zcI (kind_ok 3) aQ3 aQ5 ?_
    refine aQ26 ?_
    refine aQ26 ?_
    refine ACalls.frame ([0,2]) (zfw true (zbJ (l.take (k+1))) (zbh 3) (wR [] 0) rfl (fun q h0 h1=>zag h1 [] _) hl1) rfl (by decide) (by simp [LM3,zao,zaH,zaw,zax,renL,AV.ren,AEnd.ren,zan,wI,wO,zag,zak,List.getElem?_cons_zero,List.getElem?_cons_succ]) (by first | rfl | simp [LM3,zao,zaH,zaw,zax,renL,AV.ren,AEnd.ren,zan,wI,wO,zag,zak,List.getElem?_cons_zero,List.getElem?_cons_succ]) ?_
    rintro _ _ ⟨rfl,rfl⟩
    refine⟨.ret (.lit .nilIface),[sbW 111 true 0 3 ((zbJ (l.take (k+1)))++[zbh 3]).length (wR [] 0),.dead,.dead,sbB 5 ((zbJ (l.take (k+1)))++[zbh 3])],(aQ1 ([0,3,1,2])),(aQ2 ([0,3,1,2])),?_⟩
    refine aQ26 ?_
    refine aQ28 ?_
    refine ACalls.frame ([0,3]) (ht) rfl (by decide) (by simp [LM3,zao,zaH,zaw,zax,renL,AV.ren,AEnd.ren,zan,wI,wO,zag,zak,List.getElem?_cons_zero,List.getElem?_cons_succ]) (by first | rfl | simp [LM3,zao,zaH,zaw,zax,renL,AV.ren,AEnd.ren,zan,wI,wO,zag,zak,List.getElem?_cons_zero,List.getElem?_cons_succ]) ?_
    rintro _ _ ⟨rfl,rfl⟩
    refine⟨.ret (.tup []),[sbW 111 true 0 4 (zbJ (l.take (k+1+1))).length (wR [] 0),.dead,.dead,.dead,sbB 5 (zbJ (l.take (k+1+1)))],(aQ1 ([0,3,3,1,2])),(aQ2 ([0,3,3,1,2])),?_⟩
    refine aQ26 ?_
    refine⟨by unfold inI;omega,k+1+1,by omega,(by show l.length - (k+1+1) < l.length - (k+1);omega),zab (q:=[0,1,4]) rfl rfl (by decide) ?_ ?_⟩
    ·refine aQ19 ?_
     exact⟨by simp [zas str zah],by simp [zas str zah],.inr (by omega)⟩
    ·simp [joinS,zao,zcV,zcT,zag]
   ·have h0:l.take (k+1)=l:=List.take_of_length_le (by omega)
    rw [h0]
    refine bstr_w (k:=2) (l:=zbJ l) rfl rfl hl ?_
    refine aQ26 ?_
    exact zaP (zah _ _) rfl
end Go.Proofs.YtcahoelfogjljaaGreatDoor
end

