/-
  strings.Builder; rows of nodes; texts as bytes. No condition.
-/
import Derived.Test.YtdmiflfhaobngaaGreatDoorVauB
import Derived.Shelf.Strings.Builder1
import Derived.Test.YtdmiflfhaobngaaGreatDoorLib
set_option linter.unusedSimpArgs false
set_option linter.unusedVariables false
set_option linter.unusedSectionVars false
section
namespace Go.Proofs.YtdmiflfhaobngaaGreatDoor
open Go Go.Eng
set_option linter.defProp false in
def LB7:=And.intro (fun {K}=>wfa_bld1 (T:=T) (K:=K) 125 123 88 5 rfl rfl) (And.intro @len_bsl (And.intro @wsd_bsl (And.intro @Wop_us (And.intro @Qop_usd (@ofVal_nilIface)))))
def zhk:Go.Shelf.Ren:=⟨fun | 240=>108 | 276=>122 | n=>n,fun | 70=>123 | 72=>125 | 9=>9 | 4=>4 | 20=>20 | 164=>176 | 37=>88 | 5=>5 | 0=>0 | n=>n,fun | n=>n⟩
theorem lays240:Go.Proofs.Lays.n240 Tryz.prog zhk:={
 mixed:=by kernel_rfl
 f240:=Tryz.func108.trans (congrArg some (by kernel_rfl))
 f276:=Tryz.func122.trans (congrArg some (by kernel_rfl))
 t0:=Tryz.underlying0
 a0:=Tryz.isAgg0
 z0:=Tryz.sizeOf0
 v0:=Tryz.zeroValue0
 t4:=Tryz.underlying4
 a4:=Tryz.isAgg4
 z4:=Tryz.sizeOf4
 v4:=Tryz.zeroValue4
 t9:=Tryz.underlying9
 a9:=Tryz.isAgg9
 z9:=Tryz.sizeOf9
 v9:=Tryz.zeroValue9
 t20:=Tryz.underlying20
 a20:=Tryz.isAgg20
 z20:=Tryz.sizeOf20
 v20:=Tryz.zeroValue20
 t70:=Tryz.underlying123
 a70:=Tryz.isAgg123
 z70:=Tryz.sizeOf123
 v70:=Tryz.zeroValue123
 t72:=Tryz.underlying125
 a72:=Tryz.isAgg125
 z72:=Tryz.sizeOf125
 v72:=Tryz.zeroValue125
 t164:=Tryz.underlying176
 a164:=Tryz.isAgg176
 z164:=Tryz.sizeOf176
 v164:=Tryz.zeroValue176 }
theorem x72:Go.Proofs.Builder.X72 Tryz.prog zhk:={
 sizeBuilder:=by kernel_rfl
 liesBuilder:=by kernel_rfl }
end Go.Proofs.YtdmiflfhaobngaaGreatDoor
end

section
namespace Go.Proofs.YtdmiflfhaobngaaGreatDoor
open Go Go.Eng
def slN (l:List Nd):AV:=.sl (l.flatMap nC) l.length
theorem flatN_len (l:List Nd):(l.flatMap nC).length=l.length * 4:=by
 induction l with
 | nil=>rfl
 | cons a l ih=>rw [List.flatMap_cons,List.length_append,ih];simp [nC];omega
theorem flatN_drop (l:List Nd) (k:Nat):(l.flatMap nC).drop (k * 4)=(l.drop k).flatMap nC:=by
 induction l generalizing k with
 | nil=>simp
 | cons a l ih =>
  cases k with
  | zero=>simp
  | succ k =>
   rw [List.flatMap_cons,List.drop_succ_cons,← ih,Nat.succ_mul,show k * 4+4=4+k * 4 by omega,List.drop_append]
   simp [nC]
section
variable {l : List Nd} {σ : zag} {K : AV → Prop} {KS : AV → zag → Prop} {t : TypeId} {id : Nat}
theorem ia_N (m:Nat) (k:Int):ia3 (some tyNd) (.sl (l.flatMap nC) m) k K=(0≤k∧k < m∧m * 4≤l.length * 4∧K (.rp ((l.drop k.toNat).flatMap nC))):=by
 have:=flatN_drop l k.toNat
 simp only [ia3,tyNd,flatN_len,this,Nat.zero_lt_succ,true_and]
theorem fa_N2 (ht:T t=some tyNd) (cs:List AV):zap T t (.rp cs) 2 K=K (.rp (cs.drop 2)):=by simp [zap,ht,tyNd,T9,tyStr]
end
theorem zis (q:List Nat) (n:Nd):renL q (nC n)=some (nC n):=by simp only [nC,renL,zaj,zae,Option.map,bind,Option.bind,pure]
theorem zaq (q:List Nat) (n:Nd):(nA n).ren q=some (nA n):=by simp only [nA,AV.ren,zis,Option.map]
theorem renL_app (q:List Nat):∀ (l m:List AV),renL q l=some l→renL q m=some m→renL q (l++m)=some (l++m)
 | [],m,_,h=>h
 | a::l,m,h1,h2=>by
  simp only [renL,Option.bind_eq_some_iff,Option.map_eq_some_iff] at h1
  obtain⟨a',h3,l',h4,h5⟩:=h1
  simp only [List.cons.injEq] at h5
  obtain⟨rfl,rfl⟩:=h5
  simp only [List.cons_append,renL,h3,renL_app q l' m h4 h2,Option.bind_some,Option.map_some]
theorem za6 (q:List Nat):∀ l:List Nd,renL q (l.flatMap nC)=some (l.flatMap nC)
 | []=>rfl
 | a::l=>by rw [List.flatMap_cons];exact renL_app q _ _ (zis q a) (za6 q l)
theorem ren_slN (q:List Nat) (l:List Nd) (n:Nat):(AV.sl (l.flatMap nC) n).ren q=some (.sl (l.flatMap nC) n):=by simp only [AV.ren,za6,Option.map]
theorem retQ_pan (rs : List ResultVar) (KK : AEnd → zag → Prop) (n0 : Nat) (r : AV) (env : Env) (σ : zag) : retQ T n0 rs KK (.pan r) env σ = endQ n0 r σ (fun r σ' => KK (.pan r) σ') := rfl
theorem setp_2 (env:Env) (t u:Tmp) (a b:AV):setp env [t,u] [a,b]=(env.set t a).set u b:=rfl
end Go.Proofs.YtdmiflfhaobngaaGreatDoor
end

section
namespace Go.Proofs.YtdmiflfhaobngaaGreatDoor
open Go Go.Eng
set_option linter.defProp false in
def LB8:=And.intro @one_sl (@cells_sl)
set_option linter.defProp false in
def LB9:=And.intro @ia_N ((fun {K}=>@fa_N2 K _ T135))
set_option linter.defProp false in
def LB10:=And.intro @recQ_ret (And.intro @recQ_pan (@endD_normal))
set_option linter.defProp false in
def LB11:=And.intro @Wop_panic (And.intro @wpan_ifc (@retQ_pan))
set_option linter.defProp false in
def LB12:=And.intro @setp_1 (And.intro @setp_2 (And.intro @wres_nil (And.intro @wres_cell (And.intro @wres_tmp (And.intro @packR_1 (And.intro @packR_2 (And.intro @packR_3 (@retQ_wres))))))))
set_option linter.defProp false in
def LB13:=And.intro (fun {K} {id}=>@fa_n0 K _ id T135) (And.intro (fun {K} {id}=>@fa_n1 K _ id T135) (And.intro (fun {K} {id}=>@fa_n2 K _ id T135) (And.intro @ld_n0 (And.intro @ld_n1 (And.intro @ld_n2 (And.intro @st_n (And.intro @al_n (And.intro @Bool.not_true (And.intro @Bool.not_false (And.intro @Int.toNat_natCast (@decide_true)))))))))))
set_option linter.defProp false in
def LB14:=And.intro @box_n (And.intro @ld_n (And.intro (fun {K}=>@bd_n0 K _ T135) (And.intro @mkI2_gu (And.intro @set_n1 (And.intro @set_n2 (And.intro @len_nC (And.intro @al_bl (And.intro @ld_bl1 (And.intro @al_i64 (And.intro @al_sl (And.intro @st_slc (And.intro @ld_i64 (@ld_sl1)))))))))))))
set_option linter.defProp false in
def LM3:=And.intro LB7 (And.intro LB8 (And.intro LB9 (And.intro LB10 (And.intro LB11 (And.intro LB12 (And.intro LB13 (LB14)))))))
theorem zhl {u : Bool} {id k n : Nat} {r : List AV} (hN : r.length = 8) {σ : zag} (hi : σ[id]? = some (sbW 130 u id k n r)) : ACalls Tryz.prog 108 [.ptr id 0] σ (fun x σ' => x = .ret (.tup []) ∧ σ' = σ.set id (sbW 130 true id k n r)) :=
 copyCheck_ofW (by kernel_rfl) (fun b w h0 h1 h2=>copyCheck_wide lays240 x72 (by omega) (by kernel_rfl) b w h0 h1 h2) (fun b w h0=>Go.Proofs.Any.Builder_copyCheck_used lays240 x72 b w h0) hN hi
def wwS (tb eb:TypeId) (σ:zag) (id k:Nat) (l:List UInt8) (r:List AV):zag:=((σ.set id (sbW tb true id σ.length l.length r)).set k .dead)++[sbB eb l]
theorem bws_w {u:Bool} {id k:Nat} {l s:List UInt8} {r:List AV} (hN:r.length=8) {σ:zag} {K:AEnd→zag→Prop} (hi:σ[id]?=some (sbW 130 u id k l.length r)) (hk:σ[k]?=some (sbB 5 l)) (hne:id≠k) (h:l.length+s.length≤140737488355328)
  (hK:K (.ret (.tup [i64 s.length,.lit .nilIface])) (wwS 130 5 σ id k (l++s) r)):ACalls Tryz.prog 109 [.ptr id 0,str s] σ K:=by
 have hil:id < σ.length:=(List.getElem?_eq_some_iff.1 hi).1
 have hkl:k < σ.length:=(List.getElem?_eq_some_iff.1 hk).1
 refine ACalls.body T_ok Tryz.func109 (by kernel_rfl) rfl Tryz.ntmps109 (congrArg Array.toList Tryz.results109) ?_
 try simp -implicitDefEqProofs only [LM3,zai T135,eq_self,TB,SB,Int.reduceToNat,Nat.reduceAdd,Nat.reduceEqDiff,Nat.reduceLT,Nat.reduceMod,Nat.reducePow,Nat.reduceSub,if_true,reduceIte]
 refine(zhl hN hi).mono ?_
 rintro _ _ ⟨rfl,rfl⟩
 have h1:(σ.set id (sbW 130 true id k l.length r))[id]?=some (sbW 130 true id k l.length r):=by simp [hil]
 have h2:(σ.set id (sbW 130 true id k l.length r))[k]?=some (sbB 5 l):=by rw [List.getElem?_set_ne hne];exact hk
 have h3:rd (σ.set id (sbW 130 true id k l.length r)) id=some (.ptr id 0::.bsl k l.length::r):=rd_rtE h1
 try simp -implicitDefEqProofs only [LM3,zai T135,eq_self,h3,Nat.zero_add,zav,TB,SB,Int.reduceToNat,Nat.reduceAdd,Nat.reduceEqDiff,Nat.reduceLT,Nat.reduceMod,Nat.reducePow,Nat.reduceSub,if_true,reduceIte]
 refine zhZ (e:=5) rfl rfl rfl rfl tx_str rfl zgA (cs:=l.map u8) (xs:=s.map u8) h2 (by simp) (zin s) (zcV u8 zhY _) (zcV u8 zhY _) (by omega) (by show _ * 1≤_;omega) ?_
 have h4:((σ.set id (sbW 130 true id k l.length r)).set k .dead++[Blk.rt false 5 (l.map u8++s.map u8)])[id]?=some (.rt true 130 (.ptr id 0::.bsl k l.length::r)):=by
  rw [List.getElem?_append_left (by simp [hil]),List.getElem?_set_ne (fun e=>hne e.symm)]
  exact h1
 try simp -implicitDefEqProofs only [LM3,zai T135,eq_self,st_bslW _ _ _ _ _ _ _ _ _ h4,TB,SB,Int.reduceToNat,Nat.reduceAdd,Nat.reduceEqDiff,Nat.reduceLT,Nat.reduceMod,Nat.reducePow,Nat.reduceSub,if_true,reduceIte]
 refine zbi ?_
 have e1:((σ.set id (sbW 130 true id k l.length r)).set k .dead++[Blk.rt false 5 (l.map u8++s.map u8)]).set id (.rt true 130 (.ptr id 0::.bsl (σ.set id (sbW 130 true id k l.length r)).length (l.length+s.length)::r))=wwS 130 5 σ id k (l++s) r:=by
  rw [wwS,List.set_append,if_pos (by simp [hil]),List.set_comm _ _ (fun e=>hne e.symm),List.set_set]
  simp [sbW,sbB]
 rw [← e1] at hK
 exact hK
def wI (u:Bool) (l:List UInt8) (r:List AV):zag:=[sbW 130 u 0 1 l.length r,sbB 5 l]
def wO (l:List UInt8) (r:List AV):zag:=[sbW 130 true 0 2 l.length r,.dead,sbB 5 l]
theorem wbs_ok (u:Bool) (l s:List UInt8) (r:List AV) (hN:r.length=8) (h:l.length+s.length≤140737488355328):ACalls Tryz.prog 109 [.ptr 0 0,str s] (wI u l r) (fun x σ=>x=.ret (.tup [i64 s.length,.lit .nilIface])∧σ=wO (l++s) r) :=
 bws_w hN rfl rfl (by omega) h ⟨rfl,rfl⟩
theorem zbC {n0 : Nat} (q : List Nat) (r' : AV) (σ' : zag) {r : AV} {σ : zag} {K : AV → zag → Prop} (h1 : q.length = σ'.length) (h2 : q.take n0 = List.range n0) (h3 : q.Nodup) (h4 : r'.ren q = some r) (h5 : zao σ q q σ') (h6 : K r' σ') : endQ n0 r σ K := .inl ⟨q, r', σ', h1, h2, h3, h4, h5, h6⟩
theorem wbb_ok (u:Bool) (l:List UInt8) (c:UInt8) (r:List AV) (hN:r.length=8) (hr:∀ q:List Nat,0 < q.length→q[0]?=some 0→renL q r=some r) (h:l.length+1≤140737488355328):ACalls Tryz.prog 79 [.ptr 0 0,u8 c] (wI u l r) (fun x σ=>x=.ret (.lit .nilIface)∧σ=wO (l++[c]) r):=by
 refine ACalls.body T_ok Tryz.func79 (by kernel_rfl) rfl Tryz.ntmps79 (congrArg Array.toList Tryz.results79) ?_
 try simp -implicitDefEqProofs only [LM3,zai T135,eq_self,TB,SB,Int.reduceToNat,Nat.reduceAdd,Nat.reduceEqDiff,Nat.reduceLT,Nat.reduceMod,Nat.reducePow,Nat.reduceSub,if_true,reduceIte]
 refine(zhl (u:=u) (k:=1) (n:=l.length) (r:=r) hN rfl).mono ?_
 rintro _ _ ⟨rfl,rfl⟩
 simp only [wI,List.set_cons_zero]
 have h3:rd [sbW 130 true 0 1 l.length r,sbB 5 l] 0=some (.ptr 0 0::.bsl 1 l.length::r):=rfl
 try simp -implicitDefEqProofs only [LM3,zai T135,eq_self,h3,Nat.zero_add,zav,TB,SB,Int.reduceToNat,Nat.reduceAdd,Nat.reduceEqDiff,Nat.reduceLT,Nat.reduceMod,Nat.reducePow,Nat.reduceSub,if_true,reduceIte]
 refine zhZ (e:=5) rfl rfl rfl rfl (zdz _) rfl zgA (cs:=l.map u8) (xs:=[u8 c]) rfl (by simp) rfl (zcV u8 zhY _) rfl (by omega) (by show _ * 1≤_;omega) ?_
 have h4:∀ (k n:Nat) (σ:zag) (KS:AV→zag→Prop),st2 (some (tySl 5)) (some (sbW 130 true 0 1 l.length r)) 0 1 (.bsl k n) σ KS=KS (.lit undef) (σ.set 0 (.rt true 130 (.ptr 0 0::.bsl k n::r))):=fun _ _ _ _=>st_bslW _ _ _ _ _ _ _ _ _ rfl
 try simp -implicitDefEqProofs only [LM3,zai T135,eq_self,h4,TB,SB,Int.reduceToNat,Nat.reduceAdd,Nat.reduceEqDiff,Nat.reduceLT,Nat.reduceMod,Nat.reducePow,Nat.reduceSub,if_true,reduceIte]
 refine zbC [0,1,3] (.lit .nilIface) (wO (l++[c]) r) rfl rfl (by decide) rfl ?_ ⟨rfl,rfl⟩
 have e1:(sbW 130 true 0 2 (l++[c]).length r).ren [0,1,3]=some (.rt true 130 (.ptr 0 0::.bsl 3 (l.length+1)::r)):=by
  rw [zgp _ _ _ _ _ _ _ (by decide)]
  simp [hr [0,1,3] (by decide) rfl,sbW]
 have e2:(sbB 5 (l++[c])).ren [0,1,3]=some (.rt false 5 (l.map u8++[u8 c])):=by
  rw [zgn]
  simp [sbB]
 exact⟨.inr ⟨_,e1,rfl⟩,.inl rfl,.inr ⟨_,e2,rfl⟩,trivial⟩
theorem bstr_w {u:Bool} {id k:Nat} {l:List UInt8} {r:List AV} {σ:zag} {K:AEnd→zag→Prop} (hi:σ[id]?=some (sbW 130 u id k l.length r)) (hk:σ[k]?=some (sbB 5 l)) (h:l.length≤140737488355328)
  (hK:K (.ret (str l)) (σ.set k (sbC 5 l))):ACalls Tryz.prog 82 [.ptr id 0] σ K:=by
 have h3:rd σ id=some ((if u then .ptr id 0 else .lit (.pointer none))::.bsl k l.length::r):=rd_rtE hi
 refine ACalls.body T_ok Tryz.func82 (by kernel_rfl) rfl Tryz.ntmps82 (congrArg Array.toList Tryz.results82) ?_
 try simp -implicitDefEqProofs only [LM3,zai T135,eq_self,TB,SB,Int.reduceToNat,Nat.reduceAdd,Nat.reduceEqDiff,Nat.reduceLT,Nat.reduceMod,Nat.reducePow,Nat.reduceSub,if_true,reduceIte]
 refine zbg [10] (by kernel_rfl) (by kernel_rfl) (by kernel_rfl) ?_
 try simp -implicitDefEqProofs only [LM3,zai T135,eq_self,h3,Nat.zero_add,zav,TB,SB,Int.reduceToNat,Nat.reduceAdd,Nat.reduceEqDiff,Nat.reduceLT,Nat.reduceMod,Nat.reducePow,Nat.reduceSub,if_true,reduceIte]
 refine wus_ok (e:=5) rfl rfl rfl (by omega) hk ?_
 try simp -implicitDefEqProofs only [LM3,zai T135,eq_self,TB,SB,Int.reduceToNat,Nat.reduceAdd,Nat.reduceEqDiff,Nat.reduceLT,Nat.reduceMod,Nat.reducePow,Nat.reduceSub,if_true,reduceIte]
 exact zbi hK
end Go.Proofs.YtdmiflfhaobngaaGreatDoor
end

section
namespace Go.Proofs.YtdmiflfhaobngaaGreatDoor
open Go Go.Eng
def esc (s:List UInt8):List UInt8:=s.flatMap fun c=>if c=0 then [0,255] else [c]
def escT (s:List UInt8):List UInt8:=esc s++[0,0]
theorem esc_0 (s:List UInt8):esc (0::s)=0::255::esc s:=rfl
theorem esc_1 {c:UInt8} (h:c≠0) (s:List UInt8):esc (c::s)=c::esc s:=by simp [esc,h]
theorem esc_append (s t:List UInt8):esc (s++t)=esc s++esc t:=by simp [esc]
theorem esc_le:∀ s:List UInt8,(esc s).length≤2 * s.length
 | []=>by simp [esc]
 | c::s=>by
  have:=esc_le s
  by_cases h:c=0
  ·subst h
   rw [esc_0]
   simp only [List.length_cons]
   omega
  ·rw [esc_1 h]
   simp only [List.length_cons]
   omega
theorem idx_0 (s:List UInt8):Lib.index (0::s) [0]=0:=by simp [Lib.index,List.isPrefixOf]
theorem idx_1 {c:UInt8} (h:c≠0) (s:List UInt8):Lib.index (c::s) [0]=if Lib.index s [0] == -1 then -1 else Lib.index s [0]+1:=by
 have h':((0:UInt8) == c)=false:=by rw [beq_eq_false_iff_ne];exact fun e=>h e.symm
 simp [Lib.index,List.isPrefixOf,h']
theorem repK:∀ (s:List UInt8) (k:Nat),s.count 0≤k→Lib.replaceK [0] [0,255] k s=esc s
 | [],0,_=>rfl
 | [],k+1,_=>rfl
 | c::s,k,hk=>by
  by_cases h:c=0
  ·subst h
   rw [List.count_cons_self] at hk
   match k,hk with
   | k+1,hk =>
    rw [Lib.replaceK_hit _ _ k _ 0 (by rw [idx_0];rfl)]
    simp only [List.take_zero,List.nil_append,List.length_singleton,Nat.zero_add,List.drop_succ_cons,List.drop_zero,List.cons_append]
    rw [repK s k (by omega),esc_0]
  ·rw [List.count_cons_of_ne h] at hk
   have ih:=repK s k hk
   rw [esc_1 h,← ih]
   cases k with
   | zero=>rfl
   | succ k =>
    have hge:=Lib.index_ge s [0]
    by_cases hi:Lib.index s [0]=-1
    ·simp [Lib.replaceK,idx_1 h,hi]
    ·obtain⟨i,hi'⟩:∃ i:Nat,Lib.index s [0]=i:=⟨(Lib.index s [0]).toNat,by omega⟩
     have e1:Lib.index (c::s) [0]=((i+1:Nat):Int):=by
      rw [idx_1 h,hi',if_neg (by rw [beq_iff_eq];omega)]
      omega
     rw [Lib.replaceK_hit _ _ k _ _ e1,Lib.replaceK_hit _ _ k _ _ hi']
     simp [Nat.add_right_comm i 1 1]
theorem cntF:∀ (n:Nat) (s:List UInt8),s.length < n→s.count 0≤Lib.countFrom [0] n s
 | n+1,s,hn=>by
  rw [Lib.countFrom]
  by_cases hi:Lib.index s [0]=-1
  ·rw [if_pos (by simp [hi])]
   have:s.count 0=0:=by
    clear hn
    induction s with
    | nil=>rfl
    | cons c s ih =>
     by_cases h:c=0
     ·subst h;rw [idx_0] at hi;cases hi
     ·rw [List.count_cons_of_ne h]
      rw [idx_1 h] at hi
      by_cases h2:Lib.index s [0]=-1
      ·exact ih h2
      ·have:=Lib.index_ge s [0]
       rw [if_neg (by simpa using h2)] at hi
       omega
   omega
  ·rw [if_neg (by simpa using hi)]
   have hge:=Lib.index_ge s [0]
   have hroom:=Lib.index_room s [0] (by omega)
   obtain⟨i,hi'⟩:∃ i:Nat,Lib.index s [0]=i:=⟨(Lib.index s [0]).toNat,by omega⟩
   rw [hi'] at hroom ⊢
   simp only [List.length_singleton,Int.toNat_natCast] at hroom ⊢
   have ih:=cntF n (s.drop (i+1)) (by rw [List.length_drop];omega)
   have hc:s.count 0≤1+(s.drop (i+1)).count 0:=by
    clear ih hroom hn hge hi
    induction s generalizing i with
    | nil=>simp
    | cons c s ih =>
     by_cases h:c=0
     ·subst h
      rw [idx_0] at hi'
      obtain rfl:i=0:=by omega
      rw [List.count_cons_self,List.drop_succ_cons,List.drop_zero]
      omega
     ·rw [idx_1 h] at hi'
      have hge:=Lib.index_ge s [0]
      split at hi'
      ·omega
      ·rename_i h3
       have h3':Lib.index s [0]≠-1:=by simpa using h3
       match i,hi' with
       | 0,hi'=>omega
       | i+1,hi' =>
        rw [List.count_cons_of_ne h,List.drop_succ_cons]
        exact ih i (by omega)
   omega
theorem repAll (s:List UInt8):Lib.replaceAll s [0] [0,255]=esc s:=by
 have h1:=cntF (s.length+1) s (by omega)
 rw [Lib.replaceAll,Lib.replace,if_neg (by decide),Lib.replaceNum,if_pos (.inl (by decide))]
 exact repK s _ h1
theorem repall_ok (s:List UInt8) (h:s.length < 4294967281):ACalls Tryz.prog 110 [str s,str [0],str [0,255]] [] (fun x _=>x=.ret (str (esc s))):=by
 refine zf5 2 (by simp [Globs.ints]) (by kernel_rfl) fun w O m vs n hn hr=>?_
 simp only [reps,str,rep] at hr
 obtain⟨_,_,e1,rfl,_,_,rfl,rfl,_,_,rfl,rfl,rfl⟩:=hr
 have ev:vs=#[.string ⟨s.toArray⟩,.string ⟨[0].toArray⟩,.string ⟨[0,255].toArray⟩]:=by
  apply Array.ext'
  simpa using e1
 subst ev
 have hsz:(⟨s.toArray⟩:ByteArray).size=s.length:=by simp [ByteArray.size]
 have hc:=Lib.countB_mul_le ⟨[0].toArray⟩ (by decide) s.length ⟨s.toArray⟩ (by rw [hsz];exact Nat.le_refl _)
 have h1:(⟨[(0:UInt8)].toArray⟩:ByteArray).size=1:=rfl
 have h2:(⟨[(0:UInt8),255].toArray⟩:ByteArray).size=2:=rfl
 rw [h1,hsz] at hc
 refine(Tryz.strings_ReplaceAll _ ⟨[0].toArray⟩ ⟨[0,255].toArray⟩ n w (by rw [hsz];exact h) hn (by decide) (by rw [hsz,h2];omega)).mono ?_
 rintro e w' ⟨rfl,hb⟩
 refine⟨⟨_,rfl,fun w' O m=>?_⟩,hb⟩
 simp only [str,rep]
 have:=repAll s
 simp only [this]
end Go.Proofs.YtdmiflfhaobngaaGreatDoor
end

section
namespace Go.Proofs.YtdmiflfhaobngaaGreatDoor
open Go Go.Eng
set_option linter.defProp false in
def LB15:=And.intro @zis (And.intro @ren_slN (And.intro @zgp (And.intro @zgn (And.intro @ren_sbC (And.intro @sbW_dead (@sbB_dead))))))
set_option linter.defProp false in
def LM11:=And.intro LM5 (LB15)
def wF:List AV:=[.fn (.func 103) [.ptr 0 0] [],.fn (.func 104) [.ptr 0 0] [],.fn (.func 105) [.ptr 0 0] [],.fn (.func 81) [.ptr 0 0] [],.fn (.func 106) [.ptr 0 0] [],.fn (.func 107) [.ptr 0 0] []]
def wR (R:List Nd) (p:Int):List AV:=.sl (R.flatMap nC) R.length::i64 p::wF
theorem zaz {q:List Nat} (h:q[0]?=some 0) (R:List Nd) (p:Int):renL q (wR R p)=some (wR R p):=by
 simp [wR,wF,renL,AV.ren,za6,zaj,h]
section
variable {R : List Nd} {p : Int} {x : AV} {k n : Nat} {K : AV → Prop} {KS : AV → zag → Prop} {σ : zag} {t : TypeId} {id : Nat}
theorem zi2 (ht:T t=some tyWr):zap T t (.ptr id 0) 0 K=K (.ptr id 0):=by simp [zap,ht,tyWr,T125,tyBld]
theorem zi3 (ht:T t=some tyWr):zap T t (.ptr id 0) 3 K=K (.ptr id 4):=by simp [zap,ht,tyWr,T128,zcm,tyFn]
end
def zdY (k:Int):UInt8:=UInt8.ofBitVec (BitVec.ofInt 8 k)+UInt8.ofNat 1
theorem zcI {T:Tab} {t:TypeId} {K:AV→Prop} (x y:UInt8):wbin T .add t (u8 x) (u8 y) K=K (u8 (x+y)):=by
 simp [wbin,u8,zej,zik,BitVec.ofInt_add,zbX]
theorem keep_w3 {l:List UInt8} {r:List AV} {k:Nat} {σ:zag} {x:AV} {K:AV→zag→Prop} (h0:σ[0]?=some (sbW 130 true 0 k l.length r)) (hk:σ[k]?=some (sbB 5 l)) (hk1:1 < k) (hr:renL [0,1,k] r=some r) (hx:x.ren [0,1,k]=some x) (h:K x (wO l r)):endQ 2 x σ K:=by
 refine zbC [0,1,k] x (wO l r) rfl rfl ?_ hx ?_ h
 ·refine List.nodup_cons.2 ⟨?_,List.nodup_cons.2 ⟨?_,by simp⟩⟩
  ·simp;omega
  ·simp;omega
 refine⟨.inr ⟨_,?_,h0⟩,.inl rfl,.inr ⟨_,zgn _ _ _,hk⟩,trivial⟩
 rw [zgp _ _ _ _ _ _ _ (by simp)]
 simp [hr]
theorem kind_ok (k:Int):ACalls Tryz.prog 80 [i64 k] [] (fun x _=>x=.ret (u8 (zdY k))):=by
 refine ACalls.body T_ok Tryz.func80 (by kernel_rfl) rfl Tryz.ntmps80 (congrArg Array.toList Tryz.results80) ?_
 try simp -implicitDefEqProofs only [LM3,zai T135,eq_self,zav,zi2 T130,zi3 T130,zcI,TB,SB,Int.reduceToNat,Nat.reduceAdd,Nat.reduceEqDiff,Nat.reduceLT,Nat.reduceMod,Nat.reducePow,Nat.reduceSub,if_true,reduceIte]
 exact zbd (zaL _ _) rfl
theorem wtext_ok (u:Bool) (l:List UInt8) (R:List Nd) (p:Int) (n:Nd) (hn:n.text.length < 4294967281) (h:l.length+(escT n.text).length≤140737488355328):ACalls Tryz.prog 81 [.ptr 0 0,nA n] (wI u l (wR R p)) (fun x σ=>x=.ret (.tup [])∧σ=wO (l++escT n.text) (wR R p)):=by
 have h1:l.length+(esc n.text).length≤140737488355328:=by
  simp only [escT,List.length_append] at h
  omega
 have h2:(l++esc n.text).length+([0,0]:List UInt8).length≤140737488355328:=by
  simp only [escT,List.length_append] at h ⊢
  omega
 unfold wI
 refine ACalls.body T_ok Tryz.func81 (by kernel_rfl) rfl Tryz.ntmps81 (congrArg Array.toList Tryz.results81) ?_
 try simp -implicitDefEqProofs only [LM3,zai T135,eq_self,zav,zi2 T130,zi3 T130,zcI,TB,SB,Int.reduceToNat,Nat.reduceAdd,Nat.reduceEqDiff,Nat.reduceLT,Nat.reduceMod,Nat.reducePow,Nat.reduceSub,if_true,reduceIte]
 refine zbg [6] (by kernel_rfl) (by kernel_rfl) (by kernel_rfl) ?_
 try simp -implicitDefEqProofs only [LM3,zai T135,eq_self,zav,zi2 T130,zi3 T130,zcI,TB,SB,Int.reduceToNat,Nat.reduceAdd,Nat.reduceEqDiff,Nat.reduceLT,Nat.reduceMod,Nat.reducePow,Nat.reduceSub,if_true,reduceIte]
 refine zbt (repall_ok n.text hn) (by first | rfl | simp [renL,AV.ren,zaw,zaf str zae,zaL,zaB,zaA,zaj,zax,zae]) (by first | rfl | simp [AEnd.noid,AV.ren,renL,zaw,zaL,zaB,zaA,zaj,zax,zae]) ?_
 try simp -implicitDefEqProofs only [LM3,zai T135,eq_self,zav,zi2 T130,zi3 T130,zcI,TB,SB,Int.reduceToNat,Nat.reduceAdd,Nat.reduceEqDiff,Nat.reduceLT,Nat.reduceMod,Nat.reducePow,Nat.reduceSub,if_true,reduceIte]
 try simp -implicitDefEqProofs only [LM3,zai T135,eq_self,zav,zi2 T130,zi3 T130,zcI,TB,SB,Int.reduceToNat,Nat.reduceAdd,Nat.reduceEqDiff,Nat.reduceLT,Nat.reduceMod,Nat.reducePow,Nat.reduceSub,if_true,reduceIte]
 refine ACalls.frame ([0,1]) (wbs_ok u l (esc n.text) (wR R p) rfl h1) rfl (by decide) (by simp [LM11,zao,zas,renL,AV.ren,AEnd.ren,zaf str zae,zaf i64 zaj,zaq,wI,wO,zaz,List.getElem?_cons_zero,List.getElem?_cons_succ]) (by first | rfl | simp [LM11,zao,zas,renL,AV.ren,AEnd.ren,zaf str zae,zaf i64 zaj,zaq,wI,wO,zaz,List.getElem?_cons_zero,List.getElem?_cons_succ]) ?_
 rintro _ _ ⟨rfl,rfl⟩
 refine⟨.ret (.tup [i64 (esc n.text).length,.lit .nilIface]),[sbW 130 true 0 3 (l++esc n.text).length (wR R p),.dead,.rw (nC n),sbB 5 (l++esc n.text)],(by show zas _ _ ([0,1,3,2]) ([0,1,3,2]) 0 _;simp [LM11,zao,zas,renL,AV.ren,AEnd.ren,zaf str zae,zaf i64 zaj,zaq,wI,wO,zaz,List.getElem?_cons_zero,List.getElem?_cons_succ]),(by show AEnd.ren ([0,1,3,2]) _ _;first | rfl | simp [LM11,zao,zas,renL,AV.ren,AEnd.ren,zaf str zae,zaf i64 zaj,zaq,wI,wO,zaz,List.getElem?_cons_zero,List.getElem?_cons_succ]),?_⟩
 try simp -implicitDefEqProofs only [LM3,zai T135,eq_self,zav,zi2 T130,zi3 T130,zcI,TB,SB,Int.reduceToNat,Nat.reduceAdd,Nat.reduceEqDiff,Nat.reduceLT,Nat.reduceMod,Nat.reducePow,Nat.reduceSub,if_true,reduceIte]
 refine ACalls.frame ([0,3]) (wbs_ok true (l++esc n.text) [0,0] (wR R p) rfl h2) rfl (by decide) (by simp [LM11,zao,zas,renL,AV.ren,AEnd.ren,zaf str zae,zaf i64 zaj,zaq,wI,wO,zaz,List.getElem?_cons_zero,List.getElem?_cons_succ]) (by first | rfl | simp [LM11,zao,zas,renL,AV.ren,AEnd.ren,zaf str zae,zaf i64 zaj,zaq,wI,wO,zaz,List.getElem?_cons_zero,List.getElem?_cons_succ]) ?_
 rintro _ _ ⟨rfl,rfl⟩
 refine⟨.ret (.tup [i64 2,.lit .nilIface]),[sbW 130 true 0 4 (l++esc n.text++[0,0]).length (wR R p),.dead,.rw (nC n),.dead,sbB 5 (l++esc n.text++[0,0])],(by show zas _ _ ([0,3,3,1,2]) ([0,3,3,1,2]) 0 _;simp [LM11,zao,zas,renL,AV.ren,AEnd.ren,zaf str zae,zaf i64 zaj,zaq,wI,wO,zaz,List.getElem?_cons_zero,List.getElem?_cons_succ]),(by show AEnd.ren ([0,3,3,1,2]) _ _;first | rfl | simp [LM11,zao,zas,renL,AV.ren,AEnd.ren,zaf str zae,zaf i64 zaj,zaq,wI,wO,zaz,List.getElem?_cons_zero,List.getElem?_cons_succ]),?_⟩
 try simp -implicitDefEqProofs only [LM3,zai T135,eq_self,zav,zi2 T130,zi3 T130,zcI,TB,SB,Int.reduceToNat,Nat.reduceAdd,Nat.reduceEqDiff,Nat.reduceLT,Nat.reduceMod,Nat.reducePow,Nat.reduceSub,if_true,reduceIte]
 rw [escT,← List.append_assoc]
 exact keep_w3 (k:=4) rfl rfl (by decide) (zaz rfl _ _) rfl ⟨rfl,rfl⟩
end Go.Proofs.YtdmiflfhaobngaaGreatDoor
end

section
namespace Go.Proofs.YtdmiflfhaobngaaGreatDoor
open Go Go.Eng
set_option linter.defProp false in
def LB16:=And.intro (fun {K} {id}=>@zi2 K _ id T130) (And.intro (fun {K} {id}=>@zi3 K _ id T130) (@zcI))
def nF:AV:=.lit .nilFunc
section
variable {x : AV} {K : AV → Prop} {KS : AV → zag → Prop} {σ : zag} {t : TypeId}
theorem bd_w1 (ht:T t=some tyWr) (hx:x.cells=[x]) (h1:x.one=true):zaQ T t [(1,x)] K=K (.agg [.lit (.pointer none),nilS,x,i64 0,nF,nF,nF,nF,nF,nF]):=by
 simp [zaQ,ht,tyWr,T126,T125,T3,T128,tySl,zbs,zaK,hx,h1,zbc,nilS,nF,i64]
theorem box_w {eb:TypeId} (h1:x.one=true) (hk:KS (.ptr σ.length 0) (σ++[.rt true 130 [.lit (.pointer none),.bsl (σ.length+1) 0,x,i64 0,nF,nF,nF,nF,nF,nF]]++[.rt false eb []])):wbox 130 (.agg [.lit (.pointer none),nilS,x,i64 0,nF,nF,nF,nF,nF,nF]) σ KS:=by
 refine⟨by simp only [AV.cells,List.all_cons,h1,List.all_nil];rfl,?_⟩
 rw [if_pos (show zdb (AV.agg [.lit (.pointer none),nilS,x,i64 0,nF,nF,nF,nF,nF,nF]).cells=true from rfl)]
 exact⟨eb,hk⟩
theorem bd_six (ht:T t=some (zcm 6 127 tyFn)) (f0 f1 f2 f3 f4 f5:Fn) (a:List AV):zaQ T t [(0,.fn f0 a []),(1,.fn f1 a []),(2,.fn f2 a []),(3,.fn f3 a []),(4,.fn f4 a []),(5,.fn f5 a [])] K=K (.agg [.fn f0 a [],.fn f1 a [],.fn f2 a [],.fn f3 a [],.fn f4 a [],.fn f5 a []]):=by
 simp [zaQ,ht,zcm,tyFn,T127,zbs,zaK,AV.cells,AV.one,zbc]
theorem st_six {a b c d:AV} (f0 f1 f2 f3 f4 f5:Fn) (r0 r1 r2 r3 r4 r5:List AV) {e:TypeId} {id:Nat}:st2 (some (zcm 6 e tyFn)) (some (.rt true 130 [a,b,c,d,nF,nF,nF,nF,nF,nF])) id 4 (.agg [.fn f0 r0 [],.fn f1 r1 [],.fn f2 r2 [],.fn f3 r3 [],.fn f4 r4 [],.fn f5 r5 []]) σ KS=KS (.lit undef) (σ.set id (.rt true 130 [a,b,c,d,.fn f0 r0 [],.fn f1 r1 [],.fn f2 r2 [],.fn f3 r3 [],.fn f4 r4 [],.fn f5 r5 []])):=by
 simp [st2,zcm,tyFn,AV.cells,AV.one,zbc,nF]
end
theorem newWriter_ok (R:List Nd):ACalls Tryz.prog 78 [.sl (R.flatMap nC) R.length] [] (fun x σ=>x=.ret (.ptr 0 0)∧σ=wI false [] (wR R 0)):=by
 refine ACalls.body T_ok Tryz.func78 (by kernel_rfl) rfl Tryz.ntmps78 (congrArg Array.toList Tryz.results78) ?_
 try simp -implicitDefEqProofs only [LM3,LB16,zai T135,eq_self,zav,bd_w1 T130 (cells_sl _ _) (one_sl _ _),TB,SB,Int.reduceToNat,Nat.reduceAdd,Nat.reduceEqDiff,Nat.reduceLT,Nat.reduceMod,Nat.reducePow,Nat.reduceSub,if_true,reduceIte]
 refine box_w (eb:=5) (one_sl _ _) ?_
 try simp -implicitDefEqProofs only [LM3,LB16,zai T135,eq_self,zav,bd_six T128,st_six,TB,SB,Int.reduceToNat,Nat.reduceAdd,Nat.reduceEqDiff,Nat.reduceLT,Nat.reduceMod,Nat.reducePow,Nat.reduceSub,if_true,reduceIte]
 exact zbi ⟨rfl,rfl⟩
end Go.Proofs.YtdmiflfhaobngaaGreatDoor
end

section
namespace Go.Proofs.YtdmiflfhaobngaaGreatDoor
open Go Go.Eng
set_option linter.defProp false in
def LB17:=And.intro @ia_sl_str (@ldd_str)
def zbk (l:List (List UInt8)):List UInt8:=l.flatMap fun s=>zdY 3::escT s
theorem zgq (l:List (List UInt8)) (k:Nat) (h:k < l.length):zbk (l.take (k+1))=zbk (l.take k)++[zdY 3]++escT (l.getD k []):=by
 rw [← List.take_append_getElem h,List.getD_eq_getElem?_getD,List.getElem?_eq_getElem h]
 simp only [zbk,List.flatMap_append,List.flatMap_cons,List.flatMap_nil,List.append_nil,List.append_assoc,List.cons_append,List.nil_append,Option.getD_some]
theorem zit (l:List (List UInt8)) (k:Nat):(zbk (l.take k)).length≤(zbk l).length:=by
 have:zbk l=zbk (l.take k)++zbk (l.drop k):=by rw [zbk,zbk,zbk,← List.flatMap_append,List.take_append_drop]
 rw [this,List.length_append]
 omega
theorem bd_n2 {t:TypeId} {K:AV→Prop} (ht:T t=some tyNd) (j:List UInt8):zaQ T t [(2,str j)] K=K (nA ⟨0,0,j,0⟩):=by
 simp [zaQ,ht,tyNd,T3,T2,T133,T9,zbs,zaK,zb8,zb1,zbT,zad,zbc,zbB,tyStr,nA,nC]
 try rfl
theorem zac {K:AV→Prop} (l:List (List UInt8)):ld2 (some tyStr) (some (l.map str)) 0 K=(0 < l.length∧K (str (l.getD 0 []))):=by
 have:=ldd_str (K:=K) l 0 0
 simpa only [List.drop_zero,Nat.add_zero,Nat.zero_add] using this
def joinS (l:List (List UInt8)):Nat→zag
 | 0=>[sbW 130 false 0 1 ([]:List UInt8).length (wR [] 0),sbB 5 ([]:List UInt8)]
 | k+1=>[sbW 130 true 0 2 (zbk (l.take (k+1))).length (wR [] 0),.dead,sbB 5 (zbk (l.take (k+1)))]
theorem join_ok (l:List (List UInt8)) (hn:l.length≤9223372036854775806) (hT:∀ s,s∈l→s.length < 4294967281) (hl:(zbk l).length≤140737488355328):ACalls Tryz.prog 48 [.sl (l.map str) l.length] [] (fun y _=>y=.ret (str (zbk l))):=by
 have hw:ACalls Tryz.prog 78 [.lit (.slice none 0 0)] [] (fun x σ=>x=.ret (.ptr 0 0)∧σ=wI false [] (wR [] 0)):=(newWriter_ok []).nils ⟨.inr ⟨rfl,rfl⟩,trivial⟩
 refine ACalls.body T_ok Tryz.func48 (by kernel_rfl) rfl Tryz.ntmps48 (congrArg Array.toList Tryz.results48) ?_
 try simp -implicitDefEqProofs only [LM3,LB16,zai T135,eq_self,zav,TB,SB,Int.reduceToNat,Nat.reduceAdd,Nat.reduceEqDiff,Nat.reduceLT,Nat.reduceMod,Nat.reducePow,Nat.reduceSub,if_true,reduceIte]
 refine hw.mono ?_
 rintro _ _ ⟨rfl,rfl⟩
 simp only [wI]
 try simp -implicitDefEqProofs only [LM3,LB16,zai T135,eq_self,zav,TB,SB,Int.reduceToNat,Nat.reduceAdd,Nat.reduceEqDiff,Nat.reduceLT,Nat.reduceMod,Nat.reducePow,Nat.reduceSub,if_true,reduceIte]
 rw [za9]
 refine⟨Nat,fun k=>k≤l.length,fun k=>[.sl (l.map str) l.length,.bot,str [],.ptr 0 0,.bot,.bot,.bot,.sl (l.map str) l.length,i64 l.length,i64 k,.bot,.bot,.bot,.bot,.bot,.bot,.bot,.bot,.bot,.bot,.bot,.bot,.bot,.bot,.bot,.bot,.bot],fun k=>joinS l k,fun k=>l.length - k,0,Nat.zero_le _,zal (q:=[0,1]) rfl rfl (by decide) ?_ ?_,?_⟩
 ·try simp only [FB,AV.ren,Nat.reduceAdd,reduceCtorEq]
  exact⟨by simp [zaf str zae],by simp [zaf str zae],.inr rfl⟩
 ·simp [joinS,zao,zgp,zgn,zaz]
 ·intro k hk0
  match k,hk0 with
  | 0,hk0 =>
   simp only [joinS]
   try simp -implicitDefEqProofs only [LM3,LB16,zai T135,eq_self,zav,TB,SB,Int.reduceToNat,Nat.reduceAdd,Nat.reduceEqDiff,Nat.reduceLT,Nat.reduceMod,Nat.reducePow,Nat.reduceSub,if_true,reduceIte]
   refine⟨fun hlt=>?_,fun hge=>?_⟩
   ·skip
    have hlk:0 < l.length:=by omega
    have hm:(l.getD (0) [])∈l:=by
     rw [List.getD_eq_getElem?_getD,List.getElem?_eq_getElem hlk]
     exact List.getElem_mem _
    have e1:([]:List UInt8)++[zdY 3]++escT (l.getD (0) [])=(zbk (l.take (0+1))):=by rw [zgq l _ hlk];rfl
    have hle:=zit l (0+1)
    rw [← e1] at hle
    have hl2:(([]:List UInt8)++[zdY 3]).length+(escT (l.getD (0) [])).length≤140737488355328:=by
     rw [← List.length_append]
     omega
    have hl1:([]:List UInt8).length+1≤140737488355328:=by
     rw [List.length_append,List.length_singleton] at hl2
     omega
    have ht:=wtext_ok true (([]:List UInt8)++[zdY 3]) [] 0 ⟨0,0,(l.getD (0) []),0⟩ (hT _ hm) hl2
    rw [e1] at ht
    try simp -implicitDefEqProofs only [LM3,LB16,LB17,zai T135,eq_self,zav,zac,TB,SB,Int.reduceToNat,Nat.reduceAdd,Nat.reduceEqDiff,Nat.reduceLT,Nat.reduceMod,Nat.reducePow,Nat.reduceSub,if_true,reduceIte]
    refine⟨by omega,by omega,hlk,?_⟩
    refine zbg [4] (by kernel_rfl) (by kernel_rfl) (by kernel_rfl) ?_
    try simp -implicitDefEqProofs only [LM3,LB16,zai T135,eq_self,zav,TB,SB,Int.reduceToNat,Nat.reduceAdd,Nat.reduceEqDiff,Nat.reduceLT,Nat.reduceMod,Nat.reducePow,Nat.reduceSub,if_true,reduceIte]
    refine zbt (kind_ok 3) (by first | rfl | simp [renL,AV.ren,zaw,zaf str zae,zaL,zaB,zaA,zaj,zax,zae]) (by first | rfl | simp [AEnd.noid,AV.ren,renL,zaw,zaL,zaB,zaA,zaj,zax,zae]) ?_
    try simp -implicitDefEqProofs only [LM3,LB16,zai T135,eq_self,zav,TB,SB,Int.reduceToNat,Nat.reduceAdd,Nat.reduceEqDiff,Nat.reduceLT,Nat.reduceMod,Nat.reducePow,Nat.reduceSub,if_true,reduceIte]
    try simp -implicitDefEqProofs only [LM3,LB16,zai T135,eq_self,zav,TB,SB,Int.reduceToNat,Nat.reduceAdd,Nat.reduceEqDiff,Nat.reduceLT,Nat.reduceMod,Nat.reducePow,Nat.reduceSub,if_true,reduceIte]
    refine ACalls.frame ([0,1]) (wbb_ok false ([]:List UInt8) (zdY 3) (wR [] 0) rfl (fun q h0 h1=>zaz h1 [] _) hl1) rfl (by decide) (by simp [LM11,zao,zas,renL,AV.ren,AEnd.ren,zaf str zae,zaf i64 zaj,zaq,wI,wO,zaz,List.getElem?_cons_zero,List.getElem?_cons_succ]) (by first | rfl | simp [LM11,zao,zas,renL,AV.ren,AEnd.ren,zaf str zae,zaf i64 zaj,zaq,wI,wO,zaz,List.getElem?_cons_zero,List.getElem?_cons_succ]) ?_
    rintro _ _ ⟨rfl,rfl⟩
    refine⟨.ret (.lit .nilIface),[sbW 130 true 0 2 (([]:List UInt8)++[zdY 3]).length (wR [] 0),.dead,sbB 5 (([]:List UInt8)++[zdY 3])],(by show zas _ _ ([0,1,2]) ([0,1,2]) 0 _;simp [LM11,zao,zas,renL,AV.ren,AEnd.ren,zaf str zae,zaf i64 zaj,zaq,wI,wO,zaz,List.getElem?_cons_zero,List.getElem?_cons_succ]),(by show AEnd.ren ([0,1,2]) _ _;first | rfl | simp [LM11,zao,zas,renL,AV.ren,AEnd.ren,zaf str zae,zaf i64 zaj,zaq,wI,wO,zaz,List.getElem?_cons_zero,List.getElem?_cons_succ]),?_⟩
    try simp -implicitDefEqProofs only [LM3,LB16,zai T135,eq_self,zav,TB,SB,Int.reduceToNat,Nat.reduceAdd,Nat.reduceEqDiff,Nat.reduceLT,Nat.reduceMod,Nat.reducePow,Nat.reduceSub,if_true,reduceIte]
    try simp -implicitDefEqProofs only [LM3,LB16,zai T135,eq_self,zav,bd_n2 T135,TB,SB,Int.reduceToNat,Nat.reduceAdd,Nat.reduceEqDiff,Nat.reduceLT,Nat.reduceMod,Nat.reducePow,Nat.reduceSub,if_true,reduceIte]
    refine ACalls.frame ([0,2]) (ht) rfl (by decide) (by simp [LM11,zao,zas,renL,AV.ren,AEnd.ren,zaf str zae,zaf i64 zaj,zaq,wI,wO,zaz,List.getElem?_cons_zero,List.getElem?_cons_succ]) (by first | rfl | simp [LM11,zao,zas,renL,AV.ren,AEnd.ren,zaf str zae,zaf i64 zaj,zaq,wI,wO,zaz,List.getElem?_cons_zero,List.getElem?_cons_succ]) ?_
    rintro _ _ ⟨rfl,rfl⟩
    refine⟨.ret (.tup []),[sbW 130 true 0 3 (zbk (l.take (0+1))).length (wR [] 0),.dead,.dead,sbB 5 (zbk (l.take (0+1)))],(by show zas _ _ ([0,3,1,2]) ([0,3,1,2]) 0 _;simp [LM11,zao,zas,renL,AV.ren,AEnd.ren,zaf str zae,zaf i64 zaj,zaq,wI,wO,zaz,List.getElem?_cons_zero,List.getElem?_cons_succ]),(by show AEnd.ren ([0,3,1,2]) _ _;first | rfl | simp [LM11,zao,zas,renL,AV.ren,AEnd.ren,zaf str zae,zaf i64 zaj,zaq,wI,wO,zaz,List.getElem?_cons_zero,List.getElem?_cons_succ]),?_⟩
    try simp -implicitDefEqProofs only [LM3,LB16,zai T135,eq_self,zav,TB,SB,Int.reduceToNat,Nat.reduceAdd,Nat.reduceEqDiff,Nat.reduceLT,Nat.reduceMod,Nat.reducePow,Nat.reduceSub,if_true,reduceIte]
    refine⟨by unfold inI;omega,1,by omega,(by show l.length - 1 < l.length - 0;omega),zal (q:=[0,1,3]) rfl rfl (by decide) ?_ ?_⟩
    ·try simp only [FB,AV.ren,Nat.reduceAdd,reduceCtorEq]
     exact⟨by simp [zaf str zae],by simp [zaf str zae],.inr (by omega)⟩
    ·simp [joinS,zao,zgp,zgn,zaz]
   ·have h0:l.length=0:=by omega
    have e0:zbk l=[]:=by rw [List.eq_nil_of_length_eq_zero h0];rfl
    rw [e0]
    refine bstr_w (k:=1) (l:=[]) rfl rfl (by decide) ?_
    try simp -implicitDefEqProofs only [LM3,LB16,zai T135,eq_self,zav,TB,SB,Int.reduceToNat,Nat.reduceAdd,Nat.reduceEqDiff,Nat.reduceLT,Nat.reduceMod,Nat.reducePow,Nat.reduceSub,if_true,reduceIte]
    exact zbd (zae _ _) rfl
  | k+1,hk0 =>
   simp only [joinS]
   try simp -implicitDefEqProofs only [LM3,LB16,zai T135,eq_self,zav,TB,SB,Int.reduceToNat,Nat.reduceAdd,Nat.reduceEqDiff,Nat.reduceLT,Nat.reduceMod,Nat.reducePow,Nat.reduceSub,if_true,reduceIte]
   refine⟨fun hlt=>?_,fun hge=>?_⟩
   ·skip
    have hlk:k+1 < l.length:=by omega
    have hm:(l.getD (k+1) [])∈l:=by
     rw [List.getD_eq_getElem?_getD,List.getElem?_eq_getElem hlk]
     exact List.getElem_mem _
    have e1:(zbk (l.take (k+1)))++[zdY 3]++escT (l.getD (k+1) [])=(zbk (l.take (k+1+1))):=by rw [zgq l _ hlk]
    have hle:=zit l (k+1+1)
    rw [← e1] at hle
    have hl2:((zbk (l.take (k+1)))++[zdY 3]).length+(escT (l.getD (k+1) [])).length≤140737488355328:=by
     rw [← List.length_append]
     omega
    have hl1:(zbk (l.take (k+1))).length+1≤140737488355328:=by
     rw [List.length_append,List.length_singleton] at hl2
     omega
    have ht:=wtext_ok true ((zbk (l.take (k+1)))++[zdY 3]) [] 0 ⟨0,0,(l.getD (k+1) []),0⟩ (hT _ hm) hl2
    rw [e1] at ht
    try simp -implicitDefEqProofs only [LM3,LB16,LB17,zai T135,eq_self,zav,zac,TB,SB,Int.reduceToNat,Nat.reduceAdd,Nat.reduceEqDiff,Nat.reduceLT,Nat.reduceMod,Nat.reducePow,Nat.reduceSub,if_true,reduceIte]
    refine⟨by omega,by omega,hlk,?_⟩
    refine zbg [4] (by kernel_rfl) (by kernel_rfl) (by kernel_rfl) ?_
    try simp -implicitDefEqProofs only [LM3,LB16,zai T135,eq_self,zav,TB,SB,Int.reduceToNat,Nat.reduceAdd,Nat.reduceEqDiff,Nat.reduceLT,Nat.reduceMod,Nat.reducePow,Nat.reduceSub,if_true,reduceIte]
    refine zbt (kind_ok 3) (by first | rfl | simp [renL,AV.ren,zaw,zaf str zae,zaL,zaB,zaA,zaj,zax,zae]) (by first | rfl | simp [AEnd.noid,AV.ren,renL,zaw,zaL,zaB,zaA,zaj,zax,zae]) ?_
    try simp -implicitDefEqProofs only [LM3,LB16,zai T135,eq_self,zav,TB,SB,Int.reduceToNat,Nat.reduceAdd,Nat.reduceEqDiff,Nat.reduceLT,Nat.reduceMod,Nat.reducePow,Nat.reduceSub,if_true,reduceIte]
    try simp -implicitDefEqProofs only [LM3,LB16,zai T135,eq_self,zav,TB,SB,Int.reduceToNat,Nat.reduceAdd,Nat.reduceEqDiff,Nat.reduceLT,Nat.reduceMod,Nat.reducePow,Nat.reduceSub,if_true,reduceIte]
    refine ACalls.frame ([0,2]) (wbb_ok true (zbk (l.take (k+1))) (zdY 3) (wR [] 0) rfl (fun q h0 h1=>zaz h1 [] _) hl1) rfl (by decide) (by simp [LM11,zao,zas,renL,AV.ren,AEnd.ren,zaf str zae,zaf i64 zaj,zaq,wI,wO,zaz,List.getElem?_cons_zero,List.getElem?_cons_succ]) (by first | rfl | simp [LM11,zao,zas,renL,AV.ren,AEnd.ren,zaf str zae,zaf i64 zaj,zaq,wI,wO,zaz,List.getElem?_cons_zero,List.getElem?_cons_succ]) ?_
    rintro _ _ ⟨rfl,rfl⟩
    refine⟨.ret (.lit .nilIface),[sbW 130 true 0 3 ((zbk (l.take (k+1)))++[zdY 3]).length (wR [] 0),.dead,.dead,sbB 5 ((zbk (l.take (k+1)))++[zdY 3])],(by show zas _ _ ([0,3,1,2]) ([0,3,1,2]) 0 _;simp [LM11,zao,zas,renL,AV.ren,AEnd.ren,zaf str zae,zaf i64 zaj,zaq,wI,wO,zaz,List.getElem?_cons_zero,List.getElem?_cons_succ]),(by show AEnd.ren ([0,3,1,2]) _ _;first | rfl | simp [LM11,zao,zas,renL,AV.ren,AEnd.ren,zaf str zae,zaf i64 zaj,zaq,wI,wO,zaz,List.getElem?_cons_zero,List.getElem?_cons_succ]),?_⟩
    try simp -implicitDefEqProofs only [LM3,LB16,zai T135,eq_self,zav,TB,SB,Int.reduceToNat,Nat.reduceAdd,Nat.reduceEqDiff,Nat.reduceLT,Nat.reduceMod,Nat.reducePow,Nat.reduceSub,if_true,reduceIte]
    try simp -implicitDefEqProofs only [LM3,LB16,zai T135,eq_self,zav,bd_n2 T135,TB,SB,Int.reduceToNat,Nat.reduceAdd,Nat.reduceEqDiff,Nat.reduceLT,Nat.reduceMod,Nat.reducePow,Nat.reduceSub,if_true,reduceIte]
    refine ACalls.frame ([0,3]) (ht) rfl (by decide) (by simp [LM11,zao,zas,renL,AV.ren,AEnd.ren,zaf str zae,zaf i64 zaj,zaq,wI,wO,zaz,List.getElem?_cons_zero,List.getElem?_cons_succ]) (by first | rfl | simp [LM11,zao,zas,renL,AV.ren,AEnd.ren,zaf str zae,zaf i64 zaj,zaq,wI,wO,zaz,List.getElem?_cons_zero,List.getElem?_cons_succ]) ?_
    rintro _ _ ⟨rfl,rfl⟩
    refine⟨.ret (.tup []),[sbW 130 true 0 4 (zbk (l.take (k+1+1))).length (wR [] 0),.dead,.dead,.dead,sbB 5 (zbk (l.take (k+1+1)))],(by show zas _ _ ([0,3,3,1,2]) ([0,3,3,1,2]) 0 _;simp [LM11,zao,zas,renL,AV.ren,AEnd.ren,zaf str zae,zaf i64 zaj,zaq,wI,wO,zaz,List.getElem?_cons_zero,List.getElem?_cons_succ]),(by show AEnd.ren ([0,3,3,1,2]) _ _;first | rfl | simp [LM11,zao,zas,renL,AV.ren,AEnd.ren,zaf str zae,zaf i64 zaj,zaq,wI,wO,zaz,List.getElem?_cons_zero,List.getElem?_cons_succ]),?_⟩
    try simp -implicitDefEqProofs only [LM3,LB16,zai T135,eq_self,zav,TB,SB,Int.reduceToNat,Nat.reduceAdd,Nat.reduceEqDiff,Nat.reduceLT,Nat.reduceMod,Nat.reducePow,Nat.reduceSub,if_true,reduceIte]
    refine⟨by unfold inI;omega,k+1+1,by omega,(by show l.length - (k+1+1) < l.length - (k+1);omega),zal (q:=[0,1,4]) rfl rfl (by decide) ?_ ?_⟩
    ·try simp only [FB,AV.ren,Nat.reduceAdd,reduceCtorEq]
     exact⟨by simp [zaf str zae],by simp [zaf str zae],.inr (by omega)⟩
    ·simp [joinS,zao,zgp,zgn,zaz]
   ·have h0:l.take (k+1)=l:=List.take_of_length_le (by omega)
    rw [h0]
    refine bstr_w (k:=2) (l:=zbk l) rfl rfl hl ?_
    try simp -implicitDefEqProofs only [LM3,LB16,zai T135,eq_self,zav,TB,SB,Int.reduceToNat,Nat.reduceAdd,Nat.reduceEqDiff,Nat.reduceLT,Nat.reduceMod,Nat.reducePow,Nat.reduceSub,if_true,reduceIte]
    exact zbd (zae _ _) rfl
end Go.Proofs.YtdmiflfhaobngaaGreatDoor
end

