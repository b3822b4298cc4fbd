/-
  Items put into a row, and taken; a batch is done. No condition.
-/
import Derived.Test.YtdmiflfhaobngaaGreatDoorVauG
set_option linter.unusedSimpArgs false
set_option linter.unusedVariables false
set_option linter.unusedSectionVars false
section
namespace Go.Proofs.YtdmiflfhaobngaaGreatDoor
open Go Go.Eng
theorem half_toNat (a b c:Nat) (h:a+b≤4000000) (hc:c=(a+b) / 2):IntKind.i64.wrap ((BitVec.ofInt 64 ((a:Int)+(b:Int)) >>> 1).toNat:Int)=(c:Int):=by
 have e:(BitVec.ofInt 64 ((a:Int)+(b:Int))).toNat=a+b:=by
  rw [BitVec.toNat_ofInt]
  omega
 rw [BitVec.toNat_ushiftRight,e,Nat.shiftRight_eq_div_pow,zef (by omega) (by omega),hc]
theorem zah (σ:zag) (KS:AV→zag→Prop):bs2 (some tyIt) 0 [] σ KS=KS (.ref σ.length 0 0 2) (σ++[.rw (([]:List It).flatMap itC)]):=by
 simp [bs2,tyIt,zbs,zb4]
theorem zeh (l:List It) (h:l.length≤1000000):ACalls Tryz.prog 36 [.sl (l.flatMap itC) l.length] [] (fun y σ=>y=.ret (.ref 0 0 l.length 2)∧σ=[.rw (l.flatMap itC)]):=by
 refine ACalls.body T_ok Tryz.func36 (by kernel_rfl) rfl Tryz.ntmps36 (congrArg Array.toList Tryz.results36) ?_
 try simp -implicitDefEqProofs only [LM10,LB25,eq_self,zab (h:=T68),zad,zac,zaa,zaa,zah,TB,SB,Int.reduceToNat,Nat.reduceAdd,Nat.reduceEqDiff,Nat.reduceLT,Nat.reduceMod,Nat.reducePow,Nat.reduceSub,if_true,reduceIte]
 intro b hb
 cases b
 ·try simp -implicitDefEqProofs only [LM10,LB25,eq_self,zab (h:=T68),zad,zac,zaa,zaa,zah,TB,SB,Int.reduceToNat,Nat.reduceAdd,Nat.reduceEqDiff,Nat.reduceLT,Nat.reduceMod,Nat.reducePow,Nat.reduceSub,if_true,reduceIte]
  refine itF.app (l:=[]) (ys:=l) (m:=l.length) rfl rfl T22 T22 (zdz _) T74 rfl rfl rfl (itF.asrc _) rfl (by simp;omega) (by simp only [tyIt,List.length_nil];omega) ?_
  try simp -implicitDefEqProofs only [LM10,LB25,eq_self,zab (h:=T68),zad,zac,zaa,zaa,zah,TB,SB,Int.reduceToNat,Nat.reduceAdd,Nat.reduceEqDiff,Nat.reduceLT,Nat.reduceMod,Nat.reducePow,Nat.reduceSub,if_true,reduceIte]
  refine zbC [1] (.ref 0 0 l.length 2) [.rw (l.flatMap itC)] rfl rfl (by decide) (by simp [AV.ren]) ?_ ⟨rfl,rfl⟩
  simp [zao,Blk.ren,zaH]
 ·have hl:l=[]:=by
   have h1:=hb rfl
   cases l with
   | nil=>rfl
   | cons a l=>simp [itC] at h1
  subst hl
  try simp -implicitDefEqProofs only [LM10,LB25,eq_self,zab (h:=T68),zad,zac,zaa,zaa,zah,TB,SB,Int.reduceToNat,Nat.reduceAdd,Nat.reduceEqDiff,Nat.reduceLT,Nat.reduceMod,Nat.reducePow,Nat.reduceSub,if_true,reduceIte]
  exact zhd 2 ⟨rfl,rfl⟩
set_option maxHeartbeats 1600000 in
theorem bsr_ok (l:List It) (s:List UInt8) (hl:l.length≤1000000) (hA:∀ i j,i < j→j < l.length→(l.getD i i0).label < (l.getD j i0).label):ACalls Tryz.prog 128 [.sl (l.flatMap itC) l.length,str s,.fn (.func 75) [] []] [] (fun y _=>∃ (n:Nat) (b:Bool),y=.ret (.tup [i64 n,bl b])∧n≤l.length∧(∀ j,j < n→(l.getD j i0).label < s)∧(∀ j,n≤j→j < l.length→¬ (l.getD j i0).label < s)∧(b=true ↔ n < l.length∧(l.getD n i0).label=s)):=by
 refine ACalls.body T_ok Tryz.func128 (by kernel_rfl) rfl Tryz.ntmps128 (congrArg Array.toList Tryz.results128) ?_
 try simp -implicitDefEqProofs only [LM10,LB25,eq_self,zab (h:=T68),zad,zac,zaa,zaa,zah,TB,SB,Int.reduceToNat,Nat.reduceAdd,Nat.reduceEqDiff,Nat.reduceLT,Nat.reduceMod,Nat.reducePow,Nat.reduceSub,if_true,reduceIte]
 rw [za9]
 refine⟨Nat × Nat,fun p=>p.1≤p.2∧p.2≤l.length∧(∀ j,j < p.1→(l.getD j i0).label < s)∧(∀ j,p.2≤j→j < l.length→¬ (l.getD j i0).label < s),fun p=>[.sl (l.flatMap itC) l.length,str s,.fn (.func 75) [] [],.bot,.bot,.bot,i64 0,bl false,i64 l.length,i64 p.1,i64 p.2,.bot,.bot,.bot,.bot,.bot,.bot,.bot,.bot,.bot,.bot,.bot,.bot,.bot,.bot,.bot,.bot,.bot,.bot,.bot,.bot,.bot,.bot,.bot,.bot,.bot,.bot,.bot,.bot,.bot,.bot,.bot,.bot,.bot,.bot,.bot,.bot,.bot,.bot],fun _=>[],fun p=>p.2 - p.1,(0,l.length),⟨Nat.zero_le _,Nat.le_refl _,fun j h=>absurd h (by dsimp only;omega),fun j h1 h2=>absurd h2 (by dsimp only at h1;omega)⟩,zal (q:=[]) rfl rfl (by decide) ?_ ?_,?_⟩
 ·skip
  try simp only [FB,AV.ren,Nat.reduceAdd,reduceCtorEq]
  simp [zaH,AV.ren,renL]
 ·skip
  try simp only [FB,AV.ren,Nat.reduceAdd,reduceCtorEq]
 ·rintro⟨i,j⟩ ⟨h1,h2,h3,h4⟩
  dsimp only at h1 h2 h3 h4
  try simp -implicitDefEqProofs only [LM10,LB25,eq_self,zab (h:=T68),zad,zac,zaa,zaa,zah,TB,SB,Int.reduceToNat,Nat.reduceAdd,Nat.reduceEqDiff,Nat.reduceLT,Nat.reduceMod,Nat.reducePow,Nat.reduceSub,if_true,reduceIte]
  refine⟨fun hlt=>?_,fun hge=>?_⟩
  ·have hij:i < j:=by omega
   refine⟨by unfold inI;omega,?_⟩
   rw [half_toNat i j ((i+j) / 2) (by omega) rfl]
   obtain⟨k,hk⟩:∃ k,k=(i+j) / 2:=⟨_,rfl⟩
   rw [← hk]
   have e1:((k:Nat):Int).toNat=k:=Int.toNat_natCast k
   rw [e1]
   refine⟨by omega,by omega,Nat.le_refl _,by omega,?_⟩
   have ha:=agn_ok (l.getD k i0) s
   rw [zbn] at ha
   refine ha.pure (by simp [renL,AV.ren,zae]) ?_
   rintro _ σ rfl
   refine⟨zaj _ _,?_⟩
   have hup:∀ j',j' < k→(l.getD j' i0).label < (l.getD k i0).label:=fun j' h=>hA j' k h (by omega)
   have hup2:∀ j',k < j'→j' < l.length→(l.getD k i0).label < (l.getD j' i0).label:=fun j' h h'=>hA k j' h h'
   try simp -implicitDefEqProofs only [LM10,LB25,eq_self,zab (h:=T68),zad,zac,zaa,zaa,zah,TB,SB,Int.reduceToNat,Nat.reduceAdd,Nat.reduceEqDiff,Nat.reduceLT,Nat.reduceMod,Nat.reducePow,Nat.reduceSub,if_true,reduceIte]
   refine⟨fun hn=>?_,fun hn=>?_⟩
   ·have hlt':(l.getD k i0).label < s:=Classical.not_not.1 fun h=>by have:=agn_neg.2 h;omega
    refine⟨by unfold inI;omega,?_⟩
    rw [zan]
    refine⟨(k+1,j),⟨by dsimp only;omega,h2,fun j' hj'=>?_,h4⟩,by (show j - (k+1) < j - i);omega,zal (q:=[]) rfl rfl (by decide) ?_ ?_⟩
    ·dsimp only at hj'
     rcases Nat.lt_succ_iff_lt_or_eq.1 hj' with h | rfl
     ·exact List.lt_trans (hup j' h) hlt'
     ·exact hlt'
    ·skip
     try simp only [FB,AV.ren,Nat.reduceAdd,reduceCtorEq]
     simp [zaH,AV.ren,renL]
    ·skip
     try simp only [FB,AV.ren,Nat.reduceAdd,reduceCtorEq]
   ·have hge':¬ (l.getD k i0).label < s:=agn_neg.1 (by omega)
    rw [zan]
    refine⟨(i,k),⟨by dsimp only;omega,by dsimp only;omega,h3,fun j' hj1 hj2=>?_⟩,by (show k - i < j - i);omega,zal (q:=[]) rfl rfl (by decide) ?_ ?_⟩
    ·dsimp only at hj1
     rcases Nat.lt_or_eq_of_le hj1 with h | rfl
     ·exact fun h'=>hge' (List.lt_trans (hup2 j' h hj2) h')
     ·exact hge'
    ·skip
     try simp only [FB,AV.ren,Nat.reduceAdd,reduceCtorEq]
     simp [zaH,AV.ren,renL]
    ·skip
     try simp only [FB,AV.ren,Nat.reduceAdd,reduceCtorEq]
  ·skip
   obtain rfl:i=j:=by omega
   try simp -implicitDefEqProofs only [LM10,LB25,eq_self,zab (h:=T68),zad,zac,zaa,zaa,zah,TB,SB,Int.reduceToNat,Nat.reduceAdd,Nat.reduceEqDiff,Nat.reduceLT,Nat.reduceMod,Nat.reducePow,Nat.reduceSub,if_true,reduceIte]
   have hE:∀ b:Bool,(b=true ↔ i < l.length∧(l.getD i i0).label=s)→∀ σ:zag,endQ 0 (.tup [i64 (i:Int),bl b]) σ (fun r _=>∃ (n:Nat) (b:Bool),AEnd.ret r=.ret (.tup [i64 n,bl b])∧n≤l.length∧(∀ j,j < n→(l.getD j i0).label < s)∧(∀ j,n≤j→j < l.length→¬ (l.getD j i0).label < s)∧(b=true ↔ n < l.length∧(l.getD n i0).label=s)):=fun b hb σ=>zbd (by simp [AV.ren,renL,zaj,zax]) ⟨i,b,rfl,h2,h3,h4,hb⟩
   by_cases hil:(i:Int) < (l.length:Int)
   ·rw [decide_eq_true hil]
    try simp -implicitDefEqProofs only [LM10,LB25,eq_self,zab (h:=T68),zad,zac,zaa,zaa,zah,TB,SB,Int.reduceToNat,Nat.reduceAdd,Nat.reduceEqDiff,Nat.reduceLT,Nat.reduceMod,Nat.reducePow,Nat.reduceSub,if_true,reduceIte]
    refine⟨by omega,by omega,Nat.le_refl _,by omega,?_⟩
    have ha:=agn_ok (l.getD i i0) s
    rw [zbn] at ha
    refine ha.pure (by simp [renL,AV.ren,zae]) ?_
    rintro _ σ rfl
    refine⟨zaj _ _,?_⟩
    try simp -implicitDefEqProofs only [LM10,LB25,eq_self,zab (h:=T68),zad,zac,zaa,zaa,zah,TB,SB,Int.reduceToNat,Nat.reduceAdd,Nat.reduceEqDiff,Nat.reduceLT,Nat.reduceMod,Nat.reducePow,Nat.reduceSub,if_true,reduceIte]
    refine hE _ ?_ _
    have hg:=h4 i (Nat.le_refl _) (by omega)
    rw [decide_eq_true_eq]
    unfold agn
    rw [if_neg hg]
    constructor
    ·intro h
     refine⟨by omega,?_⟩
     split at h
     ·cases h
     ·rename_i hn
      exact List.le_antisymm (List.not_lt.1 hn) (List.not_lt.1 hg)
    ·rintro⟨_,rfl⟩
     rw [if_neg (List.lt_irrefl _)]
   ·rw [decide_eq_false hil]
    try simp -implicitDefEqProofs only [LM10,LB25,eq_self,zab (h:=T68),zad,zac,zaa,zaa,zah,TB,SB,Int.reduceToNat,Nat.reduceAdd,Nat.reduceEqDiff,Nat.reduceLT,Nat.reduceMod,Nat.reducePow,Nat.reduceSub,if_true,reduceIte]
    exact hE false (Iff.intro (fun h=>Bool.noConfusion h) (fun h=>absurd h.1 (by omega))) _
end Go.Proofs.YtdmiflfhaobngaaGreatDoor
end

section
namespace Go.Proofs.YtdmiflfhaobngaaGreatDoor
open Go Go.Eng
set_option linter.defProp false in
def LM4:=And.intro LB8 (And.intro LB11 (And.intro LB12 (And.intro LB13 (And.intro LB17 (And.intro LB19 (And.intro LB20 (And.intro LB21 (And.intro LB22 (And.intro LB24 (LB25))))))))))
theorem zfp {K:AV→Prop} {σ:zag} (id off n:Nat):zbA T 22 (.ref id off n 2) (some (i64 0)) none σ K=K (.ref id off n 2):=by
 simp [zbA,T22,tySl,bnd,i64,T74,tyIt]
theorem zcz {K:AV→Prop} (id off n:Nat) (k:Int):ia3 (some tyIt) (.ref id off n 2) k K=(0≤k∧k < n∧K (.ptr id (off+k.toNat * 2))):=by
 simp [ia3,tyIt]
theorem zdj {K:AV→Prop} (e:Int):zaQ T 106 [(0,i64 e)] K=K (.agg [i64 e]):=by
 simp [zaQ,T106,T29,tyFa,zbs,zaK,zb8,zb1,zbc,zbB]
theorem zb2 {K:AV→Prop} {t:TypeId} (x:AV):mkI2 (some tyFa) t x K=K (.ifc t x):=zhh rfl _ _
def PlR (l:List It) (s:List UInt8) (y:AEnd):Prop:=∃ (n:Nat) (b:Bool),y=.ret (.tup [i64 n,bl b])∧n≤l.length∧(∀ j,j < n→(l.getD j i0).label < s)∧(∀ j,n≤j→j < l.length→¬ (l.getD j i0).label < s)∧(b=true ↔ n < l.length∧(l.getD n i0).label=s)
theorem place_ok (l:List It) (s:List UInt8) (hl:l.length≤1000000) (hA:∀ i j,i < j→j < l.length→(l.getD i i0).label < (l.getD j i0).label):ACalls Tryz.prog 116 [.sl (l.flatMap itC) l.length,str s] [] (fun y _=>PlR l s y):=by
 refine ACalls.body T_ok Tryz.func116 (by kernel_rfl) rfl Tryz.ntmps116 (congrArg Array.toList Tryz.results116) ?_
 try simp -implicitDefEqProofs only [LM4,eq_self,zab (h:=T68),zad,zac,zaa,zah,zfp,zcz,zdj,zb2,TB,SB,Int.reduceToNat,Nat.reduceAdd,Nat.reduceEqDiff,Nat.reduceLT,Nat.reduceMod,Nat.reducePow,Nat.reduceSub,if_true,reduceIte]
 refine(bsr_ok l s hl hA).pure (by simp [renL,zaH,AV.ren,zae]) ?_
 rintro _ σ ⟨n,b,rfl,h⟩
 refine⟨by simp [AEnd.noid,AV.ren,renL,zaj,zax],?_⟩
 try simp -implicitDefEqProofs only [LM4,eq_self,zab (h:=T68),zad,zac,zaa,zah,zfp,zcz,zdj,zb2,TB,SB,Int.reduceToNat,Nat.reduceAdd,Nat.reduceEqDiff,Nat.reduceLT,Nat.reduceMod,Nat.reducePow,Nat.reduceSub,if_true,reduceIte]
 exact zbd (by simp [AV.ren,renL,zaj,zax]) ⟨n,b,rfl,h⟩
theorem see_T {l:List It} {n id:Nat} {σ:zag} (hn:n=l.length) (hr:σ[id]?=some (.rw (l.flatMap itC))):see σ (.ref id 0 n 2) (slT l):=by
 subst hn
 exact .inr (.inl ⟨id,0,l.length,2,l.flatMap itC,rfl,rd_of hr,by rw [itF.flen];omega,itF.fren _ _,by rw [List.drop_zero,itF.full];rfl⟩)
theorem zhr {l:List It} {s:List UInt8} {n id:Nat} {σ:zag} {K:AEnd→zag→Prop} (hn:n=l.length) (hr:σ[id]?=some (.rw (l.flatMap itC))) (hl:l.length≤1000000) (hA:∀ i j,i < j→j < l.length→(l.getD i i0).label < (l.getD j i0).label) (hk:∀ y,PlR l s y→K y σ):ACalls Tryz.prog 116 [.ref id 0 n 2,str s] σ K :=
 (place_ok l s hl hA).lend ⟨see_T hn hr,.inl ⟨rfl,zae _ _⟩,trivial⟩ (by
  rintro y _ h
  refine⟨?_,hk y h⟩
  obtain⟨n,b,rfl,_⟩:=h
  intro x hx
  simp only [List.mem_cons,List.not_mem_nil,or_false] at hx
  rcases hx with rfl | rfl
  ·exact⟨_,rfl⟩
  ·exact⟨_,rfl⟩)
theorem nob_ok (x:It):ACalls Tryz.prog 97 [.agg (itC x)] [] (fun y _=>y=.ret (.tup [])):=by
 rw [zbn]
 refine ACalls.body T_ok Tryz.func97 (by kernel_rfl) rfl Tryz.ntmps97 (congrArg Array.toList Tryz.results97) ?_
 try simp -implicitDefEqProofs only [LM4,eq_self,zab (h:=T68),zad,zac,zaa,zah,zfp,zcz,zdj,zb2,TB,SB,Int.reduceToNat,Nat.reduceAdd,Nat.reduceEqDiff,Nat.reduceLT,Nat.reduceMod,Nat.reducePow,Nat.reduceSub,if_true,reduceIte]
 exact zbd rfl rfl
theorem one_A (x:It):∀ i j,i < j→j < [x].length→(([x]:List It).getD i i0).label < (([x]:List It).getD j i0).label:=fun i j h1 h2=>by simp at h2;omega
theorem zgv (a b:List UInt8) (σ:zag) (KS:AV→zag→Prop):bs2 (some tyIt) 1 [(0,.agg [str a,str b])] σ KS=KS (.ref σ.length 0 1 2) (σ++[.rw [str a,str b]]):=by
 simp [bs2,tyIt,zbs,zb4,AV.cells,zbc,List.range_succ,List.replicate,zad]
theorem ins0_ok (x:It):ACalls Tryz.prog 117 [.ref 0 0 0 2,i64 0,.ref 1 0 1 2] [.rw [],.rw (itC x)] (fun y σ=>y=.ret (.ref 2 0 1 2)∧σ=[.dead,.rw (itC x),.rw (itC x)]):=by
 rw [zbn]
 refine ACalls.body T_ok Tryz.func117 (by kernel_rfl) rfl Tryz.ntmps117 (congrArg Array.toList Tryz.results117) ?_
 try simp -implicitDefEqProofs only [LM4,eq_self,zab (h:=T68),zad,zac,zaa,zah,zfp,zcz,zdj,zb2,zah,zgv,TB,SB,Int.reduceToNat,Nat.reduceAdd,Nat.reduceEqDiff,Nat.reduceLT,Nat.reduceMod,Nat.reducePow,Nat.reduceSub,if_true,reduceIte]
 refine⟨fun h=>absurd h (by decide),fun _=>⟨fun _=>?_,fun h=>absurd rfl h⟩⟩
 refine itF.app (l:=[]) (ys:=[x]) (m:=1) rfl rfl T22 T22 (zdz _) T74 rfl rfl rfl (itF.asrcR (l:=[x]) (id:=1) rfl) rfl (by simp) (by simp only [tyIt,List.length_nil];omega) ?_
 try simp -implicitDefEqProofs only [LM4,eq_self,zab (h:=T68),zad,zac,zaa,zah,zfp,zcz,zdj,zb2,zah,zgv,TB,SB,Int.reduceToNat,Nat.reduceAdd,Nat.reduceEqDiff,Nat.reduceLT,Nat.reduceMod,Nat.reducePow,Nat.reduceSub,if_true,reduceIte]
 exact zbi ⟨rfl,rfl⟩
theorem put0_ok (x:It):ACalls Tryz.prog 96 [.ref 0 0 0 2,.agg (itC x),.fn (.func 97) [] []] [.rw []] (fun y σ=>y=.ret (.ref 1 0 1 2)∧σ=[.dead,.rw (itC x)]):=by
 have hins:=ins0_ok x
 rw [zbn] at hins ⊢
 refine ACalls.body T_ok Tryz.func96 (by kernel_rfl) rfl Tryz.ntmps96 (congrArg Array.toList Tryz.results96) ?_
 try simp -implicitDefEqProofs only [LM4,eq_self,zab (h:=T68),zad,zac,zaa,zah,zfp,zcz,zdj,zb2,zah,zgv,TB,SB,Int.reduceToNat,Nat.reduceAdd,Nat.reduceEqDiff,Nat.reduceLT,Nat.reduceMod,Nat.reducePow,Nat.reduceSub,if_true,reduceIte]
 refine zhr (l:=[]) rfl rfl (by simp) (fun i j _ h=>by simp at h) ?_
 rintro y ⟨n,b,rfl,h1,h2,h3,h4⟩
 obtain rfl:n=0:=by simpa using h1
 obtain rfl:b=false:=by cases b with | false=>rfl | true=>exact absurd (h4.1 rfl).1 (by simp)
 try simp -implicitDefEqProofs only [LM4,eq_self,zab (h:=T68),zad,zac,zaa,zah,zfp,zcz,zdj,zb2,zah,zgv,TB,SB,Int.reduceToNat,Nat.reduceAdd,Nat.reduceEqDiff,Nat.reduceLT,Nat.reduceMod,Nat.reducePow,Nat.reduceSub,if_true,reduceIte]
 refine⟨fun h=>absurd h (by decide),fun _=>?_⟩
 refine ACalls.frame ([0,2]) (hins) rfl (by decide) (by simp [LM13,zao,zas,renL,AV.ren,AEnd.ren,zaf str zae,zaq,List.getElem?_cons_zero,List.getElem?_cons_succ]) (by first | rfl | simp [LM13,zao,zas,renL,AV.ren,AEnd.ren,zaf str zae,zaq,List.getElem?_cons_zero,List.getElem?_cons_succ]) ?_
 rintro _ _ ⟨rfl,rfl⟩
 refine⟨.ret (.ref 3 0 1 2),[.dead,.rw [str x.label,str x.box],.rw [str x.label,str x.box],.rw [str x.label,str x.box]],(by show zas _ _ ([0,3,1,2]) ([0,3,1,2]) 0 _;simp [LM13,zao,zas,renL,AV.ren,AEnd.ren,zaf str zae,zaq,List.getElem?_cons_zero,List.getElem?_cons_succ]),(by show AEnd.ren ([0,3,1,2]) _ _;first | rfl | simp [LM13,zao,zas,renL,AV.ren,AEnd.ren,zaf str zae,zaq,List.getElem?_cons_zero,List.getElem?_cons_succ]),?_⟩
 try simp -implicitDefEqProofs only [LM4,eq_self,zab (h:=T68),zad,zac,zaa,zah,zfp,zcz,zdj,zb2,zah,zgv,TB,SB,Int.reduceToNat,Nat.reduceAdd,Nat.reduceEqDiff,Nat.reduceLT,Nat.reduceMod,Nat.reducePow,Nat.reduceSub,if_true,reduceIte]
 exact zbC [0,3] (.ref 1 0 1 2) [.dead,.rw [str x.label,str x.box]] rfl rfl (by decide) (by simp [AV.ren]) (by simp [zao,Blk.ren,renL,zae]) ⟨rfl,rfl⟩
theorem put1_ok (x y:It) (hxy:y.label=x.label):ACalls Tryz.prog 96 [.ref 0 0 1 2,.agg (itC x),.fn (.func 97) [] []] [.rw (itC y)] (fun z σ=>z=.ret (.ref 0 0 1 2)∧σ=[.rw (itC x)]):=by
 have hno:=nob_ok y
 rw [zbn] at hno ⊢
 rw [zbn] 
 refine ACalls.body T_ok Tryz.func96 (by kernel_rfl) rfl Tryz.ntmps96 (congrArg Array.toList Tryz.results96) ?_
 try simp -implicitDefEqProofs only [LM4,eq_self,zab (h:=T68),zad,zac,zaa,zah,zfp,zcz,zdj,zb2,zah,zgv,TB,SB,Int.reduceToNat,Nat.reduceAdd,Nat.reduceEqDiff,Nat.reduceLT,Nat.reduceMod,Nat.reducePow,Nat.reduceSub,if_true,reduceIte]
 refine zhr (l:=[y]) rfl rfl (by simp) (one_A y) ?_
 rintro z ⟨n,b,rfl,h1,h2,h3,h4⟩
 obtain rfl:n=0:=by
  rcases Nat.eq_zero_or_pos n with h | h
  ·exact h
  ·have:=h2 0 h
   rw [show (([y]:List It).getD 0 i0)=y from rfl,hxy] at this
   exact absurd this (List.lt_irrefl _)
 obtain rfl:b=true:=h4.2 ⟨by simp,hxy⟩
 try simp -implicitDefEqProofs only [LM4,eq_self,zab (h:=T68),zad,zac,zaa,zah,zfp,zcz,zdj,zb2,zah,zgv,TB,SB,Int.reduceToNat,Nat.reduceAdd,Nat.reduceEqDiff,Nat.reduceLT,Nat.reduceMod,Nat.reducePow,Nat.reduceSub,if_true,reduceIte]
 refine⟨by decide,by decide,?_⟩
 simp only [Nat.zero_mul]
 try simp -implicitDefEqProofs only [LM4,eq_self,zab (h:=T68),zad,zac,zaa,zah,zfp,zcz,zdj,zb2,zah,zgv,TB,SB,Int.reduceToNat,Nat.reduceAdd,Nat.reduceEqDiff,Nat.reduceLT,Nat.reduceMod,Nat.reducePow,Nat.reduceSub,if_true,reduceIte]
 refine hno.pure (by simp [renL,AV.ren,zae]) ?_
 rintro _ σ rfl
 refine⟨by simp [AEnd.noid,AV.ren,renL],?_⟩
 try simp -implicitDefEqProofs only [LM4,eq_self,zab (h:=T68),zad,zac,zaa,zah,zfp,zcz,zdj,zb2,zah,zgv,TB,SB,Int.reduceToNat,Nat.reduceAdd,Nat.reduceEqDiff,Nat.reduceLT,Nat.reduceMod,Nat.reducePow,Nat.reduceSub,if_true,reduceIte]
 refine⟨by decide,by decide,?_⟩
 simp only [Nat.zero_mul]
 try simp -implicitDefEqProofs only [LM4,eq_self,zab (h:=T68),zad,zac,zaa,zah,zfp,zcz,zdj,zb2,zah,zgv,TB,SB,Int.reduceToNat,Nat.reduceAdd,Nat.reduceEqDiff,Nat.reduceLT,Nat.reduceMod,Nat.reducePow,Nat.reduceSub,if_true,reduceIte]
 exact zbC [0] (.ref 0 0 1 2) [.rw [str x.label,str x.box]] rfl rfl (by decide) (by simp [AV.ren]) (by simp [zao,Blk.ren,renL,zae]) ⟨rfl,rfl⟩
def fau (e:Int):AV:=.ifc 106 (.agg [i64 e])
theorem fau_ren (e:Int) (q:List Nat):(fau e).ren q=some (fau e):=by simp [fau,AV.ren,renL,zaj]
theorem take1_ok (y:It) (s:List UInt8) (hs:y.label < s):ACalls Tryz.prog 98 [.ref 0 0 1 2,str s] [.rw (itC y)] (fun z σ=>z=.pan (fau 6)∧σ=[.dead]):=by
 rw [zbn]
 refine ACalls.body T_ok Tryz.func98 (by kernel_rfl) rfl Tryz.ntmps98 (congrArg Array.toList Tryz.results98) ?_
 try simp -implicitDefEqProofs only [LM4,eq_self,zab (h:=T68),zad,zac,zaa,zah,zfp,zcz,zdj,zb2,zah,zgv,TB,SB,Int.reduceToNat,Nat.reduceAdd,Nat.reduceEqDiff,Nat.reduceLT,Nat.reduceMod,Nat.reducePow,Nat.reduceSub,if_true,reduceIte]
 refine zhr (l:=[y]) rfl rfl (by simp) (one_A y) ?_
 rintro z ⟨n,b,rfl,h1,h2,h3,h4⟩
 obtain rfl:b=false:=by
  cases b with
  | false=>rfl
  | true =>
   obtain⟨k1,k2⟩:=h4.1 rfl
   obtain rfl:n=0:=by simpa using k1
   rw [show (([y]:List It).getD 0 i0)=y from rfl] at k2
   rw [k2] at hs
   exact absurd hs (List.lt_irrefl _)
 try simp -implicitDefEqProofs only [LM4,eq_self,zab (h:=T68),zad,zac,zaa,zah,zfp,zcz,zdj,zb2,zah,zgv,TB,SB,Int.reduceToNat,Nat.reduceAdd,Nat.reduceEqDiff,Nat.reduceLT,Nat.reduceMod,Nat.reducePow,Nat.reduceSub,if_true,reduceIte]
 exact zdZ (fau_ren _ _) ⟨rfl,rfl⟩
end Go.Proofs.YtdmiflfhaobngaaGreatDoor
end

section
namespace Go.Proofs.YtdmiflfhaobngaaGreatDoor
open Go Go.Eng
set_option linter.defProp false in
def LB26:=And.intro @zgv (And.intro @zfp (And.intro @zcz (And.intro @zdj (@zb2))))
set_option linter.defProp false in
def LM12:=And.intro LM4 (LB26)
theorem putB0_ok (o:Vo) (c:List It) (h:List UInt8) (n:Int):ACalls Tryz.prog 66 [.ptr 0 0,.agg (voC o)] [.rw [.ref 1 0 0 2,.ref 2 0 c.length 2,str h,i64 n],.rw [],.rw (c.flatMap itC)] (fun z σ=>z=.ret (.tup [])∧σ=[.rw [.ref 3 0 1 2,.ref 2 0 c.length 2,str h,i64 n],.dead,.rw (c.flatMap itC),.rw [str o.label,str o.box]]):=by
 have hp:=put0_ok ⟨o.label,o.box⟩
 rw [zbn] at hp
 rw [zeI]
 skip
 refine ACalls.body T_ok Tryz.func66 (by kernel_rfl) rfl Tryz.ntmps66 (congrArg Array.toList Tryz.results66) ?_
 try simp -implicitDefEqProofs only [LM12,eq_self,zab (h:=T68),zad,zac,zaa,zah,TB,SB,Int.reduceToNat,Nat.reduceAdd,Nat.reduceEqDiff,Nat.reduceLT,Nat.reduceMod,Nat.reducePow,Nat.reduceSub,if_true,reduceIte]
 refine zgl true [[.rw [.ref 1 0 0 2,.ref 2 0 c.length 2,str h,i64 n],.rw [],.rw (c.flatMap itC),.rw [i64 o.kind,str o.label,str o.box]],[.rw [.ref 1 0 0 2,.ref 2 0 c.length 2,str h,i64 n],.dead,.rw (c.flatMap itC),.rw [i64 o.kind,str o.label,str o.box],.rw [str o.label,str o.box]]] [10] 1000000 1000000 0 13 (by kernel_rfl) (by kernel_rfl) (by kernel_rfl) (fun h=>absurd h (by decide)) rfl ?_
 simp only [List.take_succ_cons,List.take_zero]
 refine wg_q [0,1] (.ptr 0 0) (by kernel_rfl) (by kernel_rfl) rfl (by kernel_rfl) ?_ ?_
 ·simp only [qAll,List.getD_cons_zero,List.getD_cons_succ]
  refine⟨?_,?_,trivial⟩
  ·try simp -implicitDefEqProofs only [LM12,eq_self,zab (h:=T68),zad,zac,zaa,zah,TB,SB,Int.reduceToNat,Nat.reduceAdd,Nat.reduceEqDiff,Nat.reduceLT,Nat.reduceMod,Nat.reducePow,Nat.reduceSub,if_true,reduceIte]
  ·try simp -implicitDefEqProofs only [LM12,eq_self,zab (h:=T68),zad,zac,zaa,zah,TB,SB,Int.reduceToNat,Nat.reduceAdd,Nat.reduceEqDiff,Nat.reduceLT,Nat.reduceMod,Nat.reducePow,Nat.reduceSub,if_true,reduceIte]
 refine wg_q [0,1] (.ptr 0 0) (by kernel_rfl) (by kernel_rfl) rfl (by kernel_rfl) ?_ ?_
 ·simp only [qAll,List.getD_cons_zero,List.getD_cons_succ]
  refine⟨?_,?_,trivial⟩
  ·try simp -implicitDefEqProofs only [LM12,eq_self,zab (h:=T68),zad,zac,zaa,zah,TB,SB,Int.reduceToNat,Nat.reduceAdd,Nat.reduceEqDiff,Nat.reduceLT,Nat.reduceMod,Nat.reducePow,Nat.reduceSub,if_true,reduceIte]
  ·try simp -implicitDefEqProofs only [LM12,eq_self,zab (h:=T68),zad,zac,zaa,zah,TB,SB,Int.reduceToNat,Nat.reduceAdd,Nat.reduceEqDiff,Nat.reduceLT,Nat.reduceMod,Nat.reducePow,Nat.reduceSub,if_true,reduceIte]
 refine wg_q [0,1] (.ptr 0 0) (by kernel_rfl) (by kernel_rfl) rfl (by kernel_rfl) ?_ ?_
 ·simp only [qAll,List.getD_cons_zero,List.getD_cons_succ]
  refine⟨?_,?_,trivial⟩
  ·try simp -implicitDefEqProofs only [LM12,eq_self,zab (h:=T68),zad,zac,zaa,zah,TB,SB,Int.reduceToNat,Nat.reduceAdd,Nat.reduceEqDiff,Nat.reduceLT,Nat.reduceMod,Nat.reducePow,Nat.reduceSub,if_true,reduceIte]
  ·try simp -implicitDefEqProofs only [LM12,eq_self,zab (h:=T68),zad,zac,zaa,zah,TB,SB,Int.reduceToNat,Nat.reduceAdd,Nat.reduceEqDiff,Nat.reduceLT,Nat.reduceMod,Nat.reducePow,Nat.reduceSub,if_true,reduceIte]
 refine wg_q [0,1] (.ptr 0 0) (by kernel_rfl) (by kernel_rfl) rfl (by kernel_rfl) ?_ ?_
 ·simp only [qAll,List.getD_cons_zero,List.getD_cons_succ]
  refine⟨?_,?_,trivial⟩
  ·try simp -implicitDefEqProofs only [LM12,eq_self,zab (h:=T68),zad,zac,zaa,zah,TB,SB,Int.reduceToNat,Nat.reduceAdd,Nat.reduceEqDiff,Nat.reduceLT,Nat.reduceMod,Nat.reducePow,Nat.reduceSub,if_true,reduceIte]
  ·try simp -implicitDefEqProofs only [LM12,eq_self,zab (h:=T68),zad,zac,zaa,zah,TB,SB,Int.reduceToNat,Nat.reduceAdd,Nat.reduceEqDiff,Nat.reduceLT,Nat.reduceMod,Nat.reducePow,Nat.reduceSub,if_true,reduceIte]
 refine wg_q [0,1] (.ref 1 0 0 2) (by kernel_rfl) (by kernel_rfl) rfl (by kernel_rfl) ?_ ?_
 ·simp only [qAll,List.getD_cons_zero,List.getD_cons_succ]
  refine⟨?_,?_,trivial⟩
  ·try simp -implicitDefEqProofs only [LM12,eq_self,zab (h:=T68),zad,zac,zaa,zah,TB,SB,Int.reduceToNat,Nat.reduceAdd,Nat.reduceEqDiff,Nat.reduceLT,Nat.reduceMod,Nat.reducePow,Nat.reduceSub,if_true,reduceIte]
  ·try simp -implicitDefEqProofs only [LM12,eq_self,zab (h:=T68),zad,zac,zaa,zah,TB,SB,Int.reduceToNat,Nat.reduceAdd,Nat.reduceEqDiff,Nat.reduceLT,Nat.reduceMod,Nat.reducePow,Nat.reduceSub,if_true,reduceIte]
 refine wg_q [0,1] (.ptr 3 1) (by kernel_rfl) (by kernel_rfl) rfl (by kernel_rfl) ?_ ?_
 ·simp only [qAll,List.getD_cons_zero,List.getD_cons_succ]
  refine⟨?_,?_,trivial⟩
  ·try simp -implicitDefEqProofs only [LM12,eq_self,zab (h:=T68),zad,zac,zaa,zah,TB,SB,Int.reduceToNat,Nat.reduceAdd,Nat.reduceEqDiff,Nat.reduceLT,Nat.reduceMod,Nat.reducePow,Nat.reduceSub,if_true,reduceIte]
  ·try simp -implicitDefEqProofs only [LM12,eq_self,zab (h:=T68),zad,zac,zaa,zah,TB,SB,Int.reduceToNat,Nat.reduceAdd,Nat.reduceEqDiff,Nat.reduceLT,Nat.reduceMod,Nat.reducePow,Nat.reduceSub,if_true,reduceIte]
 refine wg_q [0,1] (str o.label) (by kernel_rfl) (by kernel_rfl) rfl (by kernel_rfl) ?_ ?_
 ·simp only [qAll,List.getD_cons_zero,List.getD_cons_succ]
  refine⟨?_,?_,trivial⟩
  ·try simp -implicitDefEqProofs only [LM12,eq_self,zab (h:=T68),zad,zac,zaa,zah,TB,SB,Int.reduceToNat,Nat.reduceAdd,Nat.reduceEqDiff,Nat.reduceLT,Nat.reduceMod,Nat.reducePow,Nat.reduceSub,if_true,reduceIte]
  ·try simp -implicitDefEqProofs only [LM12,eq_self,zab (h:=T68),zad,zac,zaa,zah,TB,SB,Int.reduceToNat,Nat.reduceAdd,Nat.reduceEqDiff,Nat.reduceLT,Nat.reduceMod,Nat.reducePow,Nat.reduceSub,if_true,reduceIte]
 refine wg_q [0,1] (.ptr 3 2) (by kernel_rfl) (by kernel_rfl) rfl (by kernel_rfl) ?_ ?_
 ·simp only [qAll,List.getD_cons_zero,List.getD_cons_succ]
  refine⟨?_,?_,trivial⟩
  ·try simp -implicitDefEqProofs only [LM12,eq_self,zab (h:=T68),zad,zac,zaa,zah,TB,SB,Int.reduceToNat,Nat.reduceAdd,Nat.reduceEqDiff,Nat.reduceLT,Nat.reduceMod,Nat.reducePow,Nat.reduceSub,if_true,reduceIte]
  ·try simp -implicitDefEqProofs only [LM12,eq_self,zab (h:=T68),zad,zac,zaa,zah,TB,SB,Int.reduceToNat,Nat.reduceAdd,Nat.reduceEqDiff,Nat.reduceLT,Nat.reduceMod,Nat.reducePow,Nat.reduceSub,if_true,reduceIte]
 refine wg_q [0,1] (str o.box) (by kernel_rfl) (by kernel_rfl) rfl (by kernel_rfl) ?_ ?_
 ·simp only [qAll,List.getD_cons_zero,List.getD_cons_succ]
  refine⟨?_,?_,trivial⟩
  ·try simp -implicitDefEqProofs only [LM12,eq_self,zab (h:=T68),zad,zac,zaa,zah,TB,SB,Int.reduceToNat,Nat.reduceAdd,Nat.reduceEqDiff,Nat.reduceLT,Nat.reduceMod,Nat.reducePow,Nat.reduceSub,if_true,reduceIte]
  ·try simp -implicitDefEqProofs only [LM12,eq_self,zab (h:=T68),zad,zac,zaa,zah,TB,SB,Int.reduceToNat,Nat.reduceAdd,Nat.reduceEqDiff,Nat.reduceLT,Nat.reduceMod,Nat.reducePow,Nat.reduceSub,if_true,reduceIte]
 refine wg_q [0,1] (.agg [str o.label,str o.box]) (by kernel_rfl) (by kernel_rfl) rfl (by kernel_rfl) ?_ ?_
 ·simp only [qAll,List.getD_cons_zero,List.getD_cons_succ]
  refine⟨?_,?_,trivial⟩
  ·try simp -implicitDefEqProofs only [LM12,eq_self,zab (h:=T68),zad,zac,zaa,zah,TB,SB,Int.reduceToNat,Nat.reduceAdd,Nat.reduceEqDiff,Nat.reduceLT,Nat.reduceMod,Nat.reducePow,Nat.reduceSub,if_true,reduceIte]
  ·try simp -implicitDefEqProofs only [LM12,eq_self,zab (h:=T68),zad,zac,zaa,zah,TB,SB,Int.reduceToNat,Nat.reduceAdd,Nat.reduceEqDiff,Nat.reduceLT,Nat.reduceMod,Nat.reducePow,Nat.reduceSub,if_true,reduceIte]
 refine wg_c (.ref 4 0 1 2) (by kernel_rfl) (by kernel_rfl) ?_ ?_
 ·simp only [show ([10]:List Nat).idxOf 10=0 from rfl,Nat.zero_add,List.getD_cons_zero,List.getD_cons_succ]
  try simp -implicitDefEqProofs only [LM12,eq_self,zab (h:=T68),zad,zac,zaa,zah,TB,SB,Int.reduceToNat,Nat.reduceAdd,Nat.reduceEqDiff,Nat.reduceLT,Nat.reduceMod,Nat.reducePow,Nat.reduceSub,if_true,reduceIte]
  refine ACalls.frame ([1]) (hp) rfl (by decide) (by simp [LM13,zao,zas,renL,AV.ren,AEnd.ren,zaf str zae,zaq,List.getElem?_cons_zero,List.getElem?_cons_succ]) (by first | rfl | simp [LM13,zao,zas,renL,AV.ren,AEnd.ren,zaf str zae,zaq,List.getElem?_cons_zero,List.getElem?_cons_succ]) ?_
  rintro _ _ ⟨rfl,rfl⟩
  refine⟨.ret (.ref 4 0 1 2),[.rw [.ref 1 0 0 2,.ref 2 0 c.length 2,str h,i64 n],.dead,.rw (c.flatMap itC),.rw [i64 o.kind,str o.label,str o.box],.rw [str o.label,str o.box]],(by show zas _ _ ([2,0,2,2,1]) ([2,0,2,2,1]) 0 _;simp [LM13,zao,zas,renL,AV.ren,AEnd.ren,zaf str zae,zaq,List.getElem?_cons_zero,List.getElem?_cons_succ]),(by show AEnd.ren ([2,0,2,2,1]) _ _;first | rfl | simp [LM13,zao,zas,renL,AV.ren,AEnd.ren,zaf str zae,zaq,List.getElem?_cons_zero,List.getElem?_cons_succ]),?_⟩
  try simp -implicitDefEqProofs only [LM12,eq_self,zab (h:=T68),zad,zac,zaa,zah,TB,SB,Int.reduceToNat,Nat.reduceAdd,Nat.reduceEqDiff,Nat.reduceLT,Nat.reduceMod,Nat.reducePow,Nat.reduceSub,if_true,reduceIte]
 refine wg_q [0,1] (.ptr 0 0) (by kernel_rfl) (by kernel_rfl) rfl (by kernel_rfl) ?_ ?_
 ·simp only [qAll,List.getD_cons_zero,List.getD_cons_succ]
  refine⟨?_,?_,trivial⟩
  ·try simp -implicitDefEqProofs only [LM12,eq_self,zab (h:=T68),zad,zac,zaa,zah,TB,SB,Int.reduceToNat,Nat.reduceAdd,Nat.reduceEqDiff,Nat.reduceLT,Nat.reduceMod,Nat.reducePow,Nat.reduceSub,if_true,reduceIte]
  ·try simp -implicitDefEqProofs only [LM12,eq_self,zab (h:=T68),zad,zac,zaa,zah,TB,SB,Int.reduceToNat,Nat.reduceAdd,Nat.reduceEqDiff,Nat.reduceLT,Nat.reduceMod,Nat.reducePow,Nat.reduceSub,if_true,reduceIte]
 refine wg_q [0,1] (.ptr 0 0) (by kernel_rfl) (by kernel_rfl) rfl (by kernel_rfl) ?_ ?_
 ·simp only [qAll,List.getD_cons_zero,List.getD_cons_succ]
  refine⟨?_,?_,trivial⟩
  ·try simp -implicitDefEqProofs only [LM12,eq_self,zab (h:=T68),zad,zac,zaa,zah,TB,SB,Int.reduceToNat,Nat.reduceAdd,Nat.reduceEqDiff,Nat.reduceLT,Nat.reduceMod,Nat.reducePow,Nat.reduceSub,if_true,reduceIte]
  ·try simp -implicitDefEqProofs only [LM12,eq_self,zab (h:=T68),zad,zac,zaa,zah,TB,SB,Int.reduceToNat,Nat.reduceAdd,Nat.reduceEqDiff,Nat.reduceLT,Nat.reduceMod,Nat.reducePow,Nat.reduceSub,if_true,reduceIte]
 refine wg_n (fun _=>?_)
 simp only [wgL,show ¬ (1000000 < 13) from by decide,if_false,List.length_cons,List.length_nil,Nat.zero_add,List.getD_cons_zero,List.getD_cons_succ,List.drop_succ_cons,List.drop_zero]
 try simp -implicitDefEqProofs only [LM12,eq_self,zab (h:=T68),zad,zac,zaa,zah,TB,SB,Int.reduceToNat,Nat.reduceAdd,Nat.reduceEqDiff,Nat.reduceLT,Nat.reduceMod,Nat.reducePow,Nat.reduceSub,if_true,reduceIte]
 exact zbC [0,1,2,4] (.tup []) [.rw [.ref 3 0 1 2,.ref 2 0 c.length 2,str h,i64 n],.dead,.rw (c.flatMap itC),.rw [str o.label,str o.box]] rfl rfl (by decide) rfl (by simp [zao,Blk.ren,renL,AV.ren,zaH,zae,zaj]) ⟨rfl,rfl⟩
theorem putB1_ok (o:Vo) (y:It) (hy:y.label=o.label) (c:List It) (h:List UInt8) (n:Int):ACalls Tryz.prog 66 [.ptr 0 0,.agg (voC o)] [.rw [.ref 1 0 1 2,.ref 2 0 c.length 2,str h,i64 n],.rw (itC y),.rw (c.flatMap itC)] (fun z σ=>z=.ret (.tup [])∧σ=[.rw [.ref 1 0 1 2,.ref 2 0 c.length 2,str h,i64 n],.rw [str o.label,str o.box],.rw (c.flatMap itC)]):=by
 have hp:=put1_ok ⟨o.label,o.box⟩ y hy
 rw [zbn] at hp
 rw [zeI]
 rw [zbn] at hp;rw [zbn]
 refine ACalls.body T_ok Tryz.func66 (by kernel_rfl) rfl Tryz.ntmps66 (congrArg Array.toList Tryz.results66) ?_
 try simp -implicitDefEqProofs only [LM12,eq_self,zab (h:=T68),zad,zac,zaa,zah,TB,SB,Int.reduceToNat,Nat.reduceAdd,Nat.reduceEqDiff,Nat.reduceLT,Nat.reduceMod,Nat.reducePow,Nat.reduceSub,if_true,reduceIte]
 refine zgl true [[.rw [.ref 1 0 1 2,.ref 2 0 c.length 2,str h,i64 n],.rw (itC y),.rw (c.flatMap itC),.rw [i64 o.kind,str o.label,str o.box]],[.rw [.ref 1 0 1 2,.ref 2 0 c.length 2,str h,i64 n],.rw [str o.label,str o.box],.rw (c.flatMap itC),.rw [i64 o.kind,str o.label,str o.box]]] [10] 1000000 1000000 0 13 (by kernel_rfl) (by kernel_rfl) (by kernel_rfl) (fun h=>absurd h (by decide)) rfl ?_
 simp only [List.take_succ_cons,List.take_zero]
 refine wg_q [0,1] (.ptr 0 0) (by kernel_rfl) (by kernel_rfl) rfl (by kernel_rfl) ?_ ?_
 ·simp only [qAll,List.getD_cons_zero,List.getD_cons_succ]
  refine⟨?_,?_,trivial⟩
  ·try simp -implicitDefEqProofs only [LM12,eq_self,zab (h:=T68),zad,zac,zaa,zah,TB,SB,Int.reduceToNat,Nat.reduceAdd,Nat.reduceEqDiff,Nat.reduceLT,Nat.reduceMod,Nat.reducePow,Nat.reduceSub,if_true,reduceIte]
  ·try simp -implicitDefEqProofs only [LM12,eq_self,zab (h:=T68),zad,zac,zaa,zah,TB,SB,Int.reduceToNat,Nat.reduceAdd,Nat.reduceEqDiff,Nat.reduceLT,Nat.reduceMod,Nat.reducePow,Nat.reduceSub,if_true,reduceIte]
 refine wg_q [0,1] (.ptr 0 0) (by kernel_rfl) (by kernel_rfl) rfl (by kernel_rfl) ?_ ?_
 ·simp only [qAll,List.getD_cons_zero,List.getD_cons_succ]
  refine⟨?_,?_,trivial⟩
  ·try simp -implicitDefEqProofs only [LM12,eq_self,zab (h:=T68),zad,zac,zaa,zah,TB,SB,Int.reduceToNat,Nat.reduceAdd,Nat.reduceEqDiff,Nat.reduceLT,Nat.reduceMod,Nat.reducePow,Nat.reduceSub,if_true,reduceIte]
  ·try simp -implicitDefEqProofs only [LM12,eq_self,zab (h:=T68),zad,zac,zaa,zah,TB,SB,Int.reduceToNat,Nat.reduceAdd,Nat.reduceEqDiff,Nat.reduceLT,Nat.reduceMod,Nat.reducePow,Nat.reduceSub,if_true,reduceIte]
 refine wg_q [0,1] (.ptr 0 0) (by kernel_rfl) (by kernel_rfl) rfl (by kernel_rfl) ?_ ?_
 ·simp only [qAll,List.getD_cons_zero,List.getD_cons_succ]
  refine⟨?_,?_,trivial⟩
  ·try simp -implicitDefEqProofs only [LM12,eq_self,zab (h:=T68),zad,zac,zaa,zah,TB,SB,Int.reduceToNat,Nat.reduceAdd,Nat.reduceEqDiff,Nat.reduceLT,Nat.reduceMod,Nat.reducePow,Nat.reduceSub,if_true,reduceIte]
  ·try simp -implicitDefEqProofs only [LM12,eq_self,zab (h:=T68),zad,zac,zaa,zah,TB,SB,Int.reduceToNat,Nat.reduceAdd,Nat.reduceEqDiff,Nat.reduceLT,Nat.reduceMod,Nat.reducePow,Nat.reduceSub,if_true,reduceIte]
 refine wg_q [0,1] (.ptr 0 0) (by kernel_rfl) (by kernel_rfl) rfl (by kernel_rfl) ?_ ?_
 ·simp only [qAll,List.getD_cons_zero,List.getD_cons_succ]
  refine⟨?_,?_,trivial⟩
  ·try simp -implicitDefEqProofs only [LM12,eq_self,zab (h:=T68),zad,zac,zaa,zah,TB,SB,Int.reduceToNat,Nat.reduceAdd,Nat.reduceEqDiff,Nat.reduceLT,Nat.reduceMod,Nat.reducePow,Nat.reduceSub,if_true,reduceIte]
  ·try simp -implicitDefEqProofs only [LM12,eq_self,zab (h:=T68),zad,zac,zaa,zah,TB,SB,Int.reduceToNat,Nat.reduceAdd,Nat.reduceEqDiff,Nat.reduceLT,Nat.reduceMod,Nat.reducePow,Nat.reduceSub,if_true,reduceIte]
 refine wg_q [0,1] (.ref 1 0 1 2) (by kernel_rfl) (by kernel_rfl) rfl (by kernel_rfl) ?_ ?_
 ·simp only [qAll,List.getD_cons_zero,List.getD_cons_succ]
  refine⟨?_,?_,trivial⟩
  ·try simp -implicitDefEqProofs only [LM12,eq_self,zab (h:=T68),zad,zac,zaa,zah,TB,SB,Int.reduceToNat,Nat.reduceAdd,Nat.reduceEqDiff,Nat.reduceLT,Nat.reduceMod,Nat.reducePow,Nat.reduceSub,if_true,reduceIte]
  ·try simp -implicitDefEqProofs only [LM12,eq_self,zab (h:=T68),zad,zac,zaa,zah,TB,SB,Int.reduceToNat,Nat.reduceAdd,Nat.reduceEqDiff,Nat.reduceLT,Nat.reduceMod,Nat.reducePow,Nat.reduceSub,if_true,reduceIte]
 refine wg_q [0,1] (.ptr 3 1) (by kernel_rfl) (by kernel_rfl) rfl (by kernel_rfl) ?_ ?_
 ·simp only [qAll,List.getD_cons_zero,List.getD_cons_succ]
  refine⟨?_,?_,trivial⟩
  ·try simp -implicitDefEqProofs only [LM12,eq_self,zab (h:=T68),zad,zac,zaa,zah,TB,SB,Int.reduceToNat,Nat.reduceAdd,Nat.reduceEqDiff,Nat.reduceLT,Nat.reduceMod,Nat.reducePow,Nat.reduceSub,if_true,reduceIte]
  ·try simp -implicitDefEqProofs only [LM12,eq_self,zab (h:=T68),zad,zac,zaa,zah,TB,SB,Int.reduceToNat,Nat.reduceAdd,Nat.reduceEqDiff,Nat.reduceLT,Nat.reduceMod,Nat.reducePow,Nat.reduceSub,if_true,reduceIte]
 refine wg_q [0,1] (str o.label) (by kernel_rfl) (by kernel_rfl) rfl (by kernel_rfl) ?_ ?_
 ·simp only [qAll,List.getD_cons_zero,List.getD_cons_succ]
  refine⟨?_,?_,trivial⟩
  ·try simp -implicitDefEqProofs only [LM12,eq_self,zab (h:=T68),zad,zac,zaa,zah,TB,SB,Int.reduceToNat,Nat.reduceAdd,Nat.reduceEqDiff,Nat.reduceLT,Nat.reduceMod,Nat.reducePow,Nat.reduceSub,if_true,reduceIte]
  ·try simp -implicitDefEqProofs only [LM12,eq_self,zab (h:=T68),zad,zac,zaa,zah,TB,SB,Int.reduceToNat,Nat.reduceAdd,Nat.reduceEqDiff,Nat.reduceLT,Nat.reduceMod,Nat.reducePow,Nat.reduceSub,if_true,reduceIte]
 refine wg_q [0,1] (.ptr 3 2) (by kernel_rfl) (by kernel_rfl) rfl (by kernel_rfl) ?_ ?_
 ·simp only [qAll,List.getD_cons_zero,List.getD_cons_succ]
  refine⟨?_,?_,trivial⟩
  ·try simp -implicitDefEqProofs only [LM12,eq_self,zab (h:=T68),zad,zac,zaa,zah,TB,SB,Int.reduceToNat,Nat.reduceAdd,Nat.reduceEqDiff,Nat.reduceLT,Nat.reduceMod,Nat.reducePow,Nat.reduceSub,if_true,reduceIte]
  ·try simp -implicitDefEqProofs only [LM12,eq_self,zab (h:=T68),zad,zac,zaa,zah,TB,SB,Int.reduceToNat,Nat.reduceAdd,Nat.reduceEqDiff,Nat.reduceLT,Nat.reduceMod,Nat.reducePow,Nat.reduceSub,if_true,reduceIte]
 refine wg_q [0,1] (str o.box) (by kernel_rfl) (by kernel_rfl) rfl (by kernel_rfl) ?_ ?_
 ·simp only [qAll,List.getD_cons_zero,List.getD_cons_succ]
  refine⟨?_,?_,trivial⟩
  ·try simp -implicitDefEqProofs only [LM12,eq_self,zab (h:=T68),zad,zac,zaa,zah,TB,SB,Int.reduceToNat,Nat.reduceAdd,Nat.reduceEqDiff,Nat.reduceLT,Nat.reduceMod,Nat.reducePow,Nat.reduceSub,if_true,reduceIte]
  ·try simp -implicitDefEqProofs only [LM12,eq_self,zab (h:=T68),zad,zac,zaa,zah,TB,SB,Int.reduceToNat,Nat.reduceAdd,Nat.reduceEqDiff,Nat.reduceLT,Nat.reduceMod,Nat.reducePow,Nat.reduceSub,if_true,reduceIte]
 refine wg_q [0,1] (.agg [str o.label,str o.box]) (by kernel_rfl) (by kernel_rfl) rfl (by kernel_rfl) ?_ ?_
 ·simp only [qAll,List.getD_cons_zero,List.getD_cons_succ]
  refine⟨?_,?_,trivial⟩
  ·try simp -implicitDefEqProofs only [LM12,eq_self,zab (h:=T68),zad,zac,zaa,zah,TB,SB,Int.reduceToNat,Nat.reduceAdd,Nat.reduceEqDiff,Nat.reduceLT,Nat.reduceMod,Nat.reducePow,Nat.reduceSub,if_true,reduceIte]
  ·try simp -implicitDefEqProofs only [LM12,eq_self,zab (h:=T68),zad,zac,zaa,zah,TB,SB,Int.reduceToNat,Nat.reduceAdd,Nat.reduceEqDiff,Nat.reduceLT,Nat.reduceMod,Nat.reducePow,Nat.reduceSub,if_true,reduceIte]
 refine wg_c (.ref 1 0 1 2) (by kernel_rfl) (by kernel_rfl) ?_ ?_
 ·simp only [show ([10]:List Nat).idxOf 10=0 from rfl,Nat.zero_add,List.getD_cons_zero,List.getD_cons_succ]
  try simp -implicitDefEqProofs only [LM12,eq_self,zab (h:=T68),zad,zac,zaa,zah,TB,SB,Int.reduceToNat,Nat.reduceAdd,Nat.reduceEqDiff,Nat.reduceLT,Nat.reduceMod,Nat.reducePow,Nat.reduceSub,if_true,reduceIte]
  refine ACalls.frame ([1]) (hp) rfl (by decide) (by simp [LM13,zao,zas,renL,AV.ren,AEnd.ren,zaf str zae,zaq,List.getElem?_cons_zero,List.getElem?_cons_succ]) (by first | rfl | simp [LM13,zao,zas,renL,AV.ren,AEnd.ren,zaf str zae,zaq,List.getElem?_cons_zero,List.getElem?_cons_succ]) ?_
  rintro _ _ ⟨rfl,rfl⟩
  refine⟨.ret (.ref 1 0 1 2),[.rw [.ref 1 0 1 2,.ref 2 0 c.length 2,str h,i64 n],.rw [str o.label,str o.box],.rw (c.flatMap itC),.rw [i64 o.kind,str o.label,str o.box]],(by show zas _ _ ([1,0,1,1]) ([1,0,1,1]) 0 _;simp [LM13,zao,zas,renL,AV.ren,AEnd.ren,zaf str zae,zaq,List.getElem?_cons_zero,List.getElem?_cons_succ]),(by show AEnd.ren ([1,0,1,1]) _ _;first | rfl | simp [LM13,zao,zas,renL,AV.ren,AEnd.ren,zaf str zae,zaq,List.getElem?_cons_zero,List.getElem?_cons_succ]),?_⟩
  try simp -implicitDefEqProofs only [LM12,eq_self,zab (h:=T68),zad,zac,zaa,zah,TB,SB,Int.reduceToNat,Nat.reduceAdd,Nat.reduceEqDiff,Nat.reduceLT,Nat.reduceMod,Nat.reducePow,Nat.reduceSub,if_true,reduceIte]
 refine wg_q [0,1] (.ptr 0 0) (by kernel_rfl) (by kernel_rfl) rfl (by kernel_rfl) ?_ ?_
 ·simp only [qAll,List.getD_cons_zero,List.getD_cons_succ]
  refine⟨?_,?_,trivial⟩
  ·try simp -implicitDefEqProofs only [LM12,eq_self,zab (h:=T68),zad,zac,zaa,zah,TB,SB,Int.reduceToNat,Nat.reduceAdd,Nat.reduceEqDiff,Nat.reduceLT,Nat.reduceMod,Nat.reducePow,Nat.reduceSub,if_true,reduceIte]
  ·try simp -implicitDefEqProofs only [LM12,eq_self,zab (h:=T68),zad,zac,zaa,zah,TB,SB,Int.reduceToNat,Nat.reduceAdd,Nat.reduceEqDiff,Nat.reduceLT,Nat.reduceMod,Nat.reducePow,Nat.reduceSub,if_true,reduceIte]
 refine wg_q [0,1] (.ptr 0 0) (by kernel_rfl) (by kernel_rfl) rfl (by kernel_rfl) ?_ ?_
 ·simp only [qAll,List.getD_cons_zero,List.getD_cons_succ]
  refine⟨?_,?_,trivial⟩
  ·try simp -implicitDefEqProofs only [LM12,eq_self,zab (h:=T68),zad,zac,zaa,zah,TB,SB,Int.reduceToNat,Nat.reduceAdd,Nat.reduceEqDiff,Nat.reduceLT,Nat.reduceMod,Nat.reducePow,Nat.reduceSub,if_true,reduceIte]
  ·try simp -implicitDefEqProofs only [LM12,eq_self,zab (h:=T68),zad,zac,zaa,zah,TB,SB,Int.reduceToNat,Nat.reduceAdd,Nat.reduceEqDiff,Nat.reduceLT,Nat.reduceMod,Nat.reducePow,Nat.reduceSub,if_true,reduceIte]
 refine wg_n (fun _=>?_)
 simp only [wgL,show ¬ (1000000 < 13) from by decide,if_false,List.length_cons,List.length_nil,Nat.zero_add,List.getD_cons_zero,List.getD_cons_succ,List.drop_succ_cons,List.drop_zero]
 try simp -implicitDefEqProofs only [LM12,eq_self,zab (h:=T68),zad,zac,zaa,zah,TB,SB,Int.reduceToNat,Nat.reduceAdd,Nat.reduceEqDiff,Nat.reduceLT,Nat.reduceMod,Nat.reducePow,Nat.reduceSub,if_true,reduceIte]
 exact zbC [0,1,2] (.tup []) [.rw [.ref 1 0 1 2,.ref 2 0 c.length 2,str h,i64 n],.rw [str o.label,str o.box],.rw (c.flatMap itC)] rfl rfl (by decide) rfl (by simp [zao,Blk.ren,renL,AV.ren,zaH,zae,zaj]) ⟨rfl,rfl⟩
theorem takeB_ok (o:Vo) (y:It) (hy:y.label < o.label) (c:List It) (h:List UInt8) (n:Int):ACalls Tryz.prog 67 [.ptr 0 0,.agg (voC o)] [.rw [.ref 1 0 1 2,.ref 2 0 c.length 2,str h,i64 n],.rw (itC y),.rw (c.flatMap itC)] (fun z σ=>z=.pan (fau 6)∧σ=[.rw [.ref 1 0 1 2,.ref 2 0 c.length 2,str h,i64 n],.dead,.rw (c.flatMap itC)]):=by
 have hp:=take1_ok y o.label hy
 rw [zbn] at hp
 rw [zeI,zbn]
 refine ACalls.body T_ok Tryz.func67 (by kernel_rfl) rfl Tryz.ntmps67 (congrArg Array.toList Tryz.results67) ?_
 try simp -implicitDefEqProofs only [LM12,eq_self,zab (h:=T68),zad,zac,zaa,zah,TB,SB,Int.reduceToNat,Nat.reduceAdd,Nat.reduceEqDiff,Nat.reduceLT,Nat.reduceMod,Nat.reducePow,Nat.reduceSub,if_true,reduceIte]
 refine zgl false [[.rw [.ref 1 0 1 2,.ref 2 0 c.length 2,str h,i64 n],.rw [str y.label,str y.box],.rw (c.flatMap itC),.rw [i64 o.kind,str o.label,str o.box]],[.rw [.ref 1 0 1 2,.ref 2 0 c.length 2,str h,i64 n],.rw [str y.label,str y.box],.rw (c.flatMap itC),.rw [i64 o.kind,str o.label,str o.box]]] [7] 1000000 1000000 0 10 (by kernel_rfl) (by kernel_rfl) (by kernel_rfl) (fun h=>absurd h (by decide)) rfl ?_
 simp only [List.take_succ_cons,List.take_zero]
 refine wg_q [0,1] (.ptr 0 0) (by kernel_rfl) (by kernel_rfl) rfl (by kernel_rfl) ?_ ?_
 ·simp only [qAll,List.getD_cons_zero,List.getD_cons_succ]
  refine⟨?_,?_,trivial⟩
  ·try simp -implicitDefEqProofs only [LM12,eq_self,zab (h:=T68),zad,zac,zaa,zah,TB,SB,Int.reduceToNat,Nat.reduceAdd,Nat.reduceEqDiff,Nat.reduceLT,Nat.reduceMod,Nat.reducePow,Nat.reduceSub,if_true,reduceIte]
  ·try simp -implicitDefEqProofs only [LM12,eq_self,zab (h:=T68),zad,zac,zaa,zah,TB,SB,Int.reduceToNat,Nat.reduceAdd,Nat.reduceEqDiff,Nat.reduceLT,Nat.reduceMod,Nat.reducePow,Nat.reduceSub,if_true,reduceIte]
 refine wg_q [0,1] (.ptr 0 0) (by kernel_rfl) (by kernel_rfl) rfl (by kernel_rfl) ?_ ?_
 ·simp only [qAll,List.getD_cons_zero,List.getD_cons_succ]
  refine⟨?_,?_,trivial⟩
  ·try simp -implicitDefEqProofs only [LM12,eq_self,zab (h:=T68),zad,zac,zaa,zah,TB,SB,Int.reduceToNat,Nat.reduceAdd,Nat.reduceEqDiff,Nat.reduceLT,Nat.reduceMod,Nat.reducePow,Nat.reduceSub,if_true,reduceIte]
  ·try simp -implicitDefEqProofs only [LM12,eq_self,zab (h:=T68),zad,zac,zaa,zah,TB,SB,Int.reduceToNat,Nat.reduceAdd,Nat.reduceEqDiff,Nat.reduceLT,Nat.reduceMod,Nat.reducePow,Nat.reduceSub,if_true,reduceIte]
 refine wg_q [0,1] (.ptr 0 0) (by kernel_rfl) (by kernel_rfl) rfl (by kernel_rfl) ?_ ?_
 ·simp only [qAll,List.getD_cons_zero,List.getD_cons_succ]
  refine⟨?_,?_,trivial⟩
  ·try simp -implicitDefEqProofs only [LM12,eq_self,zab (h:=T68),zad,zac,zaa,zah,TB,SB,Int.reduceToNat,Nat.reduceAdd,Nat.reduceEqDiff,Nat.reduceLT,Nat.reduceMod,Nat.reducePow,Nat.reduceSub,if_true,reduceIte]
  ·try simp -implicitDefEqProofs only [LM12,eq_self,zab (h:=T68),zad,zac,zaa,zah,TB,SB,Int.reduceToNat,Nat.reduceAdd,Nat.reduceEqDiff,Nat.reduceLT,Nat.reduceMod,Nat.reducePow,Nat.reduceSub,if_true,reduceIte]
 refine wg_q [0,1] (.ptr 0 0) (by kernel_rfl) (by kernel_rfl) rfl (by kernel_rfl) ?_ ?_
 ·simp only [qAll,List.getD_cons_zero,List.getD_cons_succ]
  refine⟨?_,?_,trivial⟩
  ·try simp -implicitDefEqProofs only [LM12,eq_self,zab (h:=T68),zad,zac,zaa,zah,TB,SB,Int.reduceToNat,Nat.reduceAdd,Nat.reduceEqDiff,Nat.reduceLT,Nat.reduceMod,Nat.reducePow,Nat.reduceSub,if_true,reduceIte]
  ·try simp -implicitDefEqProofs only [LM12,eq_self,zab (h:=T68),zad,zac,zaa,zah,TB,SB,Int.reduceToNat,Nat.reduceAdd,Nat.reduceEqDiff,Nat.reduceLT,Nat.reduceMod,Nat.reducePow,Nat.reduceSub,if_true,reduceIte]
 refine wg_q [0,1] (.ref 1 0 1 2) (by kernel_rfl) (by kernel_rfl) rfl (by kernel_rfl) ?_ ?_
 ·simp only [qAll,List.getD_cons_zero,List.getD_cons_succ]
  refine⟨?_,?_,trivial⟩
  ·try simp -implicitDefEqProofs only [LM12,eq_self,zab (h:=T68),zad,zac,zaa,zah,TB,SB,Int.reduceToNat,Nat.reduceAdd,Nat.reduceEqDiff,Nat.reduceLT,Nat.reduceMod,Nat.reducePow,Nat.reduceSub,if_true,reduceIte]
  ·try simp -implicitDefEqProofs only [LM12,eq_self,zab (h:=T68),zad,zac,zaa,zah,TB,SB,Int.reduceToNat,Nat.reduceAdd,Nat.reduceEqDiff,Nat.reduceLT,Nat.reduceMod,Nat.reducePow,Nat.reduceSub,if_true,reduceIte]
 refine wg_q [0,1] (.ptr 3 1) (by kernel_rfl) (by kernel_rfl) rfl (by kernel_rfl) ?_ ?_
 ·simp only [qAll,List.getD_cons_zero,List.getD_cons_succ]
  refine⟨?_,?_,trivial⟩
  ·try simp -implicitDefEqProofs only [LM12,eq_self,zab (h:=T68),zad,zac,zaa,zah,TB,SB,Int.reduceToNat,Nat.reduceAdd,Nat.reduceEqDiff,Nat.reduceLT,Nat.reduceMod,Nat.reducePow,Nat.reduceSub,if_true,reduceIte]
  ·try simp -implicitDefEqProofs only [LM12,eq_self,zab (h:=T68),zad,zac,zaa,zah,TB,SB,Int.reduceToNat,Nat.reduceAdd,Nat.reduceEqDiff,Nat.reduceLT,Nat.reduceMod,Nat.reducePow,Nat.reduceSub,if_true,reduceIte]
 refine wg_q [0,1] (str o.label) (by kernel_rfl) (by kernel_rfl) rfl (by kernel_rfl) ?_ ?_
 ·simp only [qAll,List.getD_cons_zero,List.getD_cons_succ]
  refine⟨?_,?_,trivial⟩
  ·try simp -implicitDefEqProofs only [LM12,eq_self,zab (h:=T68),zad,zac,zaa,zah,TB,SB,Int.reduceToNat,Nat.reduceAdd,Nat.reduceEqDiff,Nat.reduceLT,Nat.reduceMod,Nat.reducePow,Nat.reduceSub,if_true,reduceIte]
  ·try simp -implicitDefEqProofs only [LM12,eq_self,zab (h:=T68),zad,zac,zaa,zah,TB,SB,Int.reduceToNat,Nat.reduceAdd,Nat.reduceEqDiff,Nat.reduceLT,Nat.reduceMod,Nat.reducePow,Nat.reduceSub,if_true,reduceIte]
 refine wg_c (.ref 1 0 1 2) (by kernel_rfl) (by kernel_rfl) ?_ ?_
 ·simp only [show ([7]:List Nat).idxOf 7=0 from rfl,Nat.zero_add,List.getD_cons_zero,List.getD_cons_succ]
  try simp -implicitDefEqProofs only [LM12,eq_self,zab (h:=T68),zad,zac,zaa,zah,TB,SB,Int.reduceToNat,Nat.reduceAdd,Nat.reduceEqDiff,Nat.reduceLT,Nat.reduceMod,Nat.reducePow,Nat.reduceSub,if_true,reduceIte]
  refine ACalls.frame ([1]) (hp) rfl (by decide) (by simp [LM13,zao,zas,renL,AV.ren,AEnd.ren,zaf str zae,zaq,List.getElem?_cons_zero,List.getElem?_cons_succ]) (by first | rfl | simp [LM13,zao,zas,renL,AV.ren,AEnd.ren,zaf str zae,zaq,List.getElem?_cons_zero,List.getElem?_cons_succ]) ?_
  rintro _ _ ⟨rfl,rfl⟩
  refine⟨.pan (fau 6),[.rw [.ref 1 0 1 2,.ref 2 0 c.length 2,str h,i64 n],.dead,.rw (c.flatMap itC),.rw [i64 o.kind,str o.label,str o.box]],(by show zas _ _ ([1,0,1,1]) ([1,0,1,1]) 0 _;simp [LM13,zao,zas,renL,AV.ren,AEnd.ren,zaf str zae,zaq,List.getElem?_cons_zero,List.getElem?_cons_succ]),(by show AEnd.ren ([1,0,1,1]) _ _;first | rfl | simp [LM13,zao,zas,renL,AV.ren,AEnd.ren,zaf str zae,zaq,List.getElem?_cons_zero,List.getElem?_cons_succ]),?_⟩
  try simp -implicitDefEqProofs only [LM12,eq_self,zab (h:=T68),zad,zac,zaa,zah,TB,SB,Int.reduceToNat,Nat.reduceAdd,Nat.reduceEqDiff,Nat.reduceLT,Nat.reduceMod,Nat.reducePow,Nat.reduceSub,if_true,reduceIte]
  exact fun _=>zbC [0,1,2] (fau 6) [.rw [.ref 1 0 1 2,.ref 2 0 c.length 2,str h,i64 n],.dead,.rw (c.flatMap itC)] rfl rfl (by decide) (fau_ren _ _) (by simp [zao,Blk.ren,renL,AV.ren,zaH,zae,zaj]) ⟨rfl,rfl⟩
 refine wg_q [0,1] (.ptr 0 0) (by kernel_rfl) (by kernel_rfl) rfl (by kernel_rfl) ?_ ?_
 ·simp only [qAll,List.getD_cons_zero,List.getD_cons_succ]
  refine⟨?_,?_,trivial⟩
  ·try simp -implicitDefEqProofs only [LM12,eq_self,zab (h:=T68),zad,zac,zaa,zah,TB,SB,Int.reduceToNat,Nat.reduceAdd,Nat.reduceEqDiff,Nat.reduceLT,Nat.reduceMod,Nat.reducePow,Nat.reduceSub,if_true,reduceIte]
  ·try simp -implicitDefEqProofs only [LM12,eq_self,zab (h:=T68),zad,zac,zaa,zah,TB,SB,Int.reduceToNat,Nat.reduceAdd,Nat.reduceEqDiff,Nat.reduceLT,Nat.reduceMod,Nat.reducePow,Nat.reduceSub,if_true,reduceIte]
 refine wg_q [0,1] (.ptr 0 0) (by kernel_rfl) (by kernel_rfl) rfl (by kernel_rfl) ?_ ?_
 ·simp only [qAll,List.getD_cons_zero,List.getD_cons_succ]
  refine⟨?_,?_,trivial⟩
  ·try simp -implicitDefEqProofs only [LM12,eq_self,zab (h:=T68),zad,zac,zaa,zah,TB,SB,Int.reduceToNat,Nat.reduceAdd,Nat.reduceEqDiff,Nat.reduceLT,Nat.reduceMod,Nat.reducePow,Nat.reduceSub,if_true,reduceIte]
  ·try simp -implicitDefEqProofs only [LM12,eq_self,zab (h:=T68),zad,zac,zaa,zah,TB,SB,Int.reduceToNat,Nat.reduceAdd,Nat.reduceEqDiff,Nat.reduceLT,Nat.reduceMod,Nat.reducePow,Nat.reduceSub,if_true,reduceIte]
 exact wg_n (fun h=>absurd (h (by decide)) (by decide))
end Go.Proofs.YtdmiflfhaobngaaGreatDoor
end

section
namespace Go.Proofs.YtdmiflfhaobngaaGreatDoor
open Go Go.Eng
set_option linter.defProp false in
def LB27:=And.intro @kontP_eq (And.intro @WP_skip (And.intro @WP_region (And.intro @WP_seq (@WP_cond))))
set_option linter.defProp false in
def LM1:=And.intro LB8 (And.intro LB10 (And.intro LB11 (And.intro LB12 (And.intro LB13 (And.intro LB17 (And.intro LB19 (And.intro LB20 (And.intro LB21 (And.intro LB22 (And.intro LB24 (And.intro LB25 (And.intro LB26 (LB27)))))))))))))
section
variable {σ : zag} {K : AV → Prop} {KS : AV → zag → Prop} {id : Nat}
theorem zaE (x:AV):recV (some x)=x:=rfl
theorem zaF:recV none=.lit .nilIface:=rfl
theorem zaX (e:Int):zeO (fau e)=some (106,.agg [i64 e]):=rfl
theorem zaO:zeO (AV.lit .nilIface)=none:=rfl
theorem zaY (x y:AV) (P:Program):ass2 P (some tyFa) 106 true (some (106,x)) y K=K (.tup [x,bl true]):=by simp [ass2,tyFa,TD.conc,bl]
theorem fau_zero:∃ i,Tryz.prog.info? 106=some i∧i.zero=some (.agg #[.int .i64 0]):=by
 have h:(Tryz.prog.info? 106).bind (fun i=>i.zero)=some (.agg #[.int .i64 0]):=by kernel_rfl
 cases hi:Tryz.prog.info? 106 with
 | none=>rw [hi] at h;cases h
 | some i=>rw [hi] at h;exact⟨i,rfl,h⟩
theorem zaP:ass2 Tryz.prog (some tyFa) 106 true none (AV.lit .nilIface) K=K (.tup [.agg [i64 0],bl false]):=by
 apply propext
 constructor
 ·intro h
  simp only [ass2] at h
  obtain⟨_,_,_,h⟩:=h
  rw [if_pos ⟨rfl,rfl⟩] at h
  obtain⟨z,⟨i,h1,h2⟩,h3⟩:=h
  obtain⟨i',k1,k2⟩:=fau_zero
  rw [k1] at h1
  cases h1
  rw [k2] at h2
  have hz:z=.int .i64 0:=by
   have h4:=Option.some.inj h2
   have h5:=congrArg Array.toList (Value.agg.inj h4)
   exact(List.cons.inj h5).1.symm
  subst hz
  exact h3
 ·intro h
  refine⟨rfl,rfl,.inl rfl,?_⟩
  rw [if_pos ⟨rfl,rfl⟩]
  exact⟨_,fau_zero,h⟩
theorem zco (e:TypeId):al1 T e (some tyFa) σ KS=KS (.ptr σ.length 0) (σ++[.rw [i64 0]]):=by
 simp [al1,tyFa,zaK,i64]
theorem zcp (a:AV) (e:Int):st2 (some tyFa) (some (.rw [a])) id 0 (.agg [i64 e]) σ KS=KS (.lit undef) (σ.set id (.rw [i64 e])):=by
 simp [st2,tyFa,AV.cells,zbc,zb1]
theorem zcq (o:Nat):zap T 106 (.ptr id o) 0 K=K (.ptr id (o+0)):=fzP T106 rfl rfl T29 (by decide) id o
theorem zaZ (f0 f1 f2 f3:Fn) (a:List AV):zaQ T 109 [(0,.fn f0 a []),(1,.fn f1 a []),(2,.fn f2 a []),(3,.fn f3 a [])] K=K (.agg [.fn f0 a [],.fn f1 a [],.fn f2 a [],.fn f3 a []]):=by
 simp [zaQ,T109,zcm,tyFn,T108,zbs,zaK,AV.cells,AV.one,zbc]
theorem za0 (e:TypeId):al1 T e (some (zcm 4 108 tyFn)) σ KS=KS (.ptr σ.length 0) (σ++[.rw [.lit .nilFunc,.lit .nilFunc,.lit .nilFunc,.lit .nilFunc]]):=by
 simp [al1,zcm,tyFn,zaK]
theorem za1 (f0 f1 f2 f3:Fn) (r0 r1 r2 r3:List AV) {a b c d:AV} {e:TypeId}:st2 (some (zcm 4 e tyFn)) (some (.rw [a,b,c,d])) id 0 (.agg [.fn f0 r0 [],.fn f1 r1 [],.fn f2 r2 [],.fn f3 r3 []]) σ KS=KS (.lit undef) (σ.set id (.rw [.fn f0 r0 [],.fn f1 r1 [],.fn f2 r2 [],.fn f3 r3 []])):=by
 simp [st2,zcm,tyFn,AV.cells,AV.one,zbc]
theorem zbp (a:AV) (l:List AV):ld2 (some tyFn) (some (a::l)) 0 K=K a:=by simp [ld2,wfin,tyFn,TD.agg]
theorem zbq (o:Vo):ld2 (some tyVo) (some (List.flatMap voC [o])) 0 K=K (.agg [i64 o.kind,str o.label,str o.box]):=by
 simp [voC,ld2,wfin,tyVo,TD.agg]
theorem zbr (k:Int):ia4 (some tyFn) (.ptr id 0) 4 k K=(0≤k∧k < 4∧K (.ptr id k.toNat)):=by
 simp [ia4,tyFn]
end
def fns4:List AV:=[.fn (.func 66) [.ptr 0 0] [],.fn (.func 67) [.ptr 0 0] [],.fn (.func 68) [.ptr 0 0] [],.fn (.func 69) [.ptr 0 0] []]
theorem doN1_ok (s b c p:Blk) (e:AV) (K:zag→Prop) (h:K [s,b,c,.rw [e],p,.rw [i64 0]]):DCalls Tryz.prog 65 [.ptr 3 0] [s,b,c,.rw [e],p] none K:=by
 refine DCalls.bodyL T_ok Tryz.func65 rfl Tryz.ntmps65 Tryz.results65 rfl ?_
 try simp -implicitDefEqProofs only [LM1,eq_self,zab (h:=T68),zad,zac,zaa,zah,zaE,zaF,zaX,zaO,zaY,zaP,zco,zcp,zcq,zaZ,za0,za1,zbp,zbq,zbr,TB,SB,Int.reduceToNat,Nat.reduceAdd,Nat.reduceEqDiff,Nat.reduceLT,Nat.reduceMod,Nat.reducePow,Nat.reduceSub,if_true,reduceIte]
 exact h
theorem doN2_ok (s b c p q:Blk) (e:AV) (K:zag→Prop) (h:K [s,b,c,.rw [e],p,q,.rw [i64 0]]):DCalls Tryz.prog 65 [.ptr 3 0] [s,b,c,.rw [e],p,q] none K:=by
 refine DCalls.bodyL T_ok Tryz.func65 rfl Tryz.ntmps65 Tryz.results65 rfl ?_
 try simp -implicitDefEqProofs only [LM1,eq_self,zab (h:=T68),zad,zac,zaa,zah,zaE,zaF,zaX,zaO,zaY,zaP,zco,zcp,zcq,zaZ,za0,za1,zbp,zbq,zbr,TB,SB,Int.reduceToNat,Nat.reduceAdd,Nat.reduceEqDiff,Nat.reduceLT,Nat.reduceMod,Nat.reducePow,Nat.reduceSub,if_true,reduceIte]
 exact h
theorem doP2_ok (s b c p q:Blk) (e:Int) (K:zag→Prop) (h:K [s,b,c,.rw [i64 6],p,q,.rw [i64 6]]):DCalls Tryz.prog 65 [.ptr 3 0] [s,b,c,.rw [i64 e],p,q] (some (fau 6)) K:=by
 refine DCalls.bodyL T_ok Tryz.func65 rfl Tryz.ntmps65 Tryz.results65 rfl ?_
 try simp -implicitDefEqProofs only [LM1,eq_self,zab (h:=T68),zad,zac,zaa,zah,zaE,zaF,zaX,zaO,zaY,zaP,zco,zcp,zcq,zaZ,za0,za1,zbp,zbq,zbr,TB,SB,Int.reduceToNat,Nat.reduceAdd,Nat.reduceEqDiff,Nat.reduceLT,Nat.reduceMod,Nat.reducePow,Nat.reduceSub,if_true,reduceIte]
 exact h
def doE (o:Vo):Bool→List AV
 | false=>[.ptr 0 0,.sl ([o].flatMap voC) 1,.bot,.bot,.ptr 3 0,.ptr 4 0,.bot,.bot,.bot,.bot,.bot,.bot,.bot,.bot,.bot,.bot,.bot,.bot,.sl ([o].flatMap voC) 1,i64 1,i64 0,.bot,.bot,.bot,.bot,.bot,.bot,.bot,.bot,.bot,.bot,.bot,.bot,.bot,.bot,.bot,.bot,.bot,.bot,.bot,.bot,.bot,.bot,.bot,.bot,.bot,.bot,.bot,.bot,.bot,.bot,.bot,.bot,.bot,.bot,.bot]
 | true=>[.ptr 0 0,.sl ([o].flatMap voC) 1,.bot,.bot,.ptr 3 0,.ptr 4 0,.bot,.bot,.bot,.bot,.bot,.bot,.bot,.bot,.bot,.bot,.bot,.bot,.sl ([o].flatMap voC) 1,i64 1,i64 1,.bot,.bot,.bot,.bot,.bot,.bot,.bot,.bot,.bot,.bot,.bot,.bot,.bot,.bot,.bot,.bot,.bot,.bot,.bot,.bot,.bot,.bot,.bot,.bot,.bot,.bot,.bot,.bot,.bot,.bot,.bot,.bot,.bot,.bot,.bot]
def doM:Bool→Nat
 | false=>1
 | true=>0
def doS0 (o:Vo) (c:List It) (h:List UInt8) (n:Int):Bool→zag
 | false=>[.rw [.ref 1 0 0 2,.ref 2 0 c.length 2,str h,i64 n],.rw [],.rw (c.flatMap itC),.rw [i64 0],.rw fns4]
 | true=>[.rw [.ref 5 0 1 2,.ref 2 0 c.length 2,str h,i64 n],.dead,.rw (c.flatMap itC),.rw [i64 0],.rw fns4,.rw [str o.label,str o.box]]
set_option maxHeartbeats 3200000 in
theorem do0_ok (o:Vo) (hk:o.kind=0) (hB:zbf [o]=true) (c:List It) (h:List UInt8) (hh:h.length=32) (n:Int) (hn:0≤n∧n < 1073741824):ACalls Tryz.prog 37 [.ptr 0 0,.sl ([o].flatMap voC) 1] [.rw [.ref 1 0 0 2,.ref 2 0 c.length 2,str h,i64 n],.rw [],.rw (c.flatMap itC)] (fun z σ=>z=.ret (i64 0)∧σ=[.rw [.ref 3 0 1 2,.ref 2 0 c.length 2,str (shaR (h++(putV [o]).1)),i64 (n+1)],.dead,.rw (c.flatMap itC),.rw [str o.label,str o.box]]):=by
 have hp:=putB0_ok o c h n
 have hnx:=ziE h [o] (by omega)
 unfold nextR at hnx
 rw [if_pos hB] at hnx
 rw [zeI,hk] at hp
 skip
 refine ACalls.bodyD T_ok Tryz.func37 (by kernel_rfl) rfl Tryz.ntmps37 (congrArg Array.toList Tryz.results37) ?_
 rw [zio rfl]
 try simp -implicitDefEqProofs only [LM1,eq_self,zab (h:=T68),zad,zac,zaa,zah,zaE,zaF,zaX,zaO,zaY,zaP,zco,zcp,zcq,zaZ,za0,za1,zbp,zbq,zbr,TB,SB,Int.reduceToNat,Nat.reduceAdd,Nat.reduceEqDiff,Nat.reduceLT,Nat.reduceMod,Nat.reducePow,Nat.reduceSub,if_true,reduceIte]
 rw [ziq rfl]
 try simp -implicitDefEqProofs only [LM1,eq_self,zab (h:=T68),zad,zac,zaa,zah,zaE,zaF,zaX,zaO,zaY,zaP,zco,zcp,zcq,zaZ,za0,za1,zbp,zbq,zbr,TB,SB,Int.reduceToNat,Nat.reduceAdd,Nat.reduceEqDiff,Nat.reduceLT,Nat.reduceMod,Nat.reducePow,Nat.reduceSub,if_true,reduceIte]
 refine⟨by kernel_rfl,?_⟩
 try simp -implicitDefEqProofs only [LM1,eq_self,zab (h:=T68),zad,zac,zaa,zah,zaE,zaF,zaX,zaO,zaY,zaP,zco,zcp,zcq,zaZ,za0,za1,zbp,zbq,zbr,TB,SB,Int.reduceToNat,Nat.reduceAdd,Nat.reduceEqDiff,Nat.reduceLT,Nat.reduceMod,Nat.reducePow,Nat.reduceSub,if_true,reduceIte]
 rw [za9]
 refine⟨Bool,fun _=>True,doE o,doS0 o c h n,doM,false,trivial,zal (q:=[0,1,2,3,4]) rfl rfl (by decide) ?_ ?_,?_⟩
 ·unfold doE
  try simp only [FB,AV.ren,Nat.reduceAdd,reduceCtorEq]
  simp [zaH,AV.ren,voC,renL,zaj,zae]
 ·unfold doS0 fns4
  simp [zao,Blk.ren,renL,AV.ren,zaH,zae,zaj]
 ·rintro b -
  cases b with
  | false =>
   simp only [doE,doS0,fns4]
   skip
   try simp -implicitDefEqProofs only [LM1,eq_self,zab (h:=T68),zad,zac,zaa,zah,zaE,zaF,zaX,zaO,zaY,zaP,zco,zcp,zcq,zaZ,za0,za1,zbp,zbq,zbr,hk,TB,SB,Int.reduceToNat,Nat.reduceAdd,Nat.reduceEqDiff,Nat.reduceLT,Nat.reduceMod,Nat.reducePow,Nat.reduceSub,if_true,reduceIte]
   refine⟨fun _=>?_,fun h=>absurd h (by decide)⟩
   refine⟨by decide,by decide,by decide,?_⟩
   try simp -implicitDefEqProofs only [LM1,eq_self,zab (h:=T68),zad,zac,zaa,zah,zaE,zaF,zaX,zaO,zaY,zaP,zco,zcp,zcq,zaZ,za0,za1,zbp,zbq,zbr,hk,TB,SB,Int.reduceToNat,Nat.reduceAdd,Nat.reduceEqDiff,Nat.reduceLT,Nat.reduceMod,Nat.reducePow,Nat.reduceSub,if_true,reduceIte]
   refine zbg [5] (by kernel_rfl) (by kernel_rfl) (by kernel_rfl) ?_
   try simp -implicitDefEqProofs only [LM1,eq_self,zab (h:=T68),zad,zac,zaa,zah,zaE,zaF,zaX,zaO,zaY,zaP,zco,zcp,zcq,zaZ,za0,za1,zbp,zbq,zbr,TB,SB,Int.reduceToNat,Nat.reduceAdd,Nat.reduceEqDiff,Nat.reduceLT,Nat.reduceMod,Nat.reducePow,Nat.reduceSub,if_true,reduceIte]
   refine⟨by decide,by decide,?_⟩
   try simp -implicitDefEqProofs only [LM1,eq_self,zab (h:=T68),zad,zac,zaa,zah,zaE,zaF,zaX,zaO,zaY,zaP,zco,zcp,zcq,zaZ,za0,za1,zbp,zbq,zbr,hk,TB,SB,Int.reduceToNat,Nat.reduceAdd,Nat.reduceEqDiff,Nat.reduceLT,Nat.reduceMod,Nat.reducePow,Nat.reduceSub,if_true,reduceIte]
   refine ACalls.frame ([0,1,2]) (hp) rfl (by decide) (by simp [LM13,zao,zas,renL,AV.ren,AEnd.ren,zaf str zae,zaq,List.getElem?_cons_zero,List.getElem?_cons_succ]) (by first | rfl | simp [LM13,zao,zas,renL,AV.ren,AEnd.ren,zaf str zae,zaq,List.getElem?_cons_zero,List.getElem?_cons_succ]) ?_
   rintro _ _ ⟨rfl,rfl⟩
   refine⟨.ret (.tup []),[.rw [.ref 6 0 1 2,.ref 2 0 c.length 2,str h,i64 n],.dead,.rw (c.flatMap itC),.rw [i64 0],.rw [.fn (.func 66) [.ptr 0 0] [],.fn (.func 67) [.ptr 0 0] [],.fn (.func 68) [.ptr 0 0] [],.fn (.func 69) [.ptr 0 0] []],.rw [i64 0,str o.label,str o.box],.rw [str o.label,str o.box]],(by show zas _ _ ([0,1,2,4,4,4,3]) ([0,1,2,4,4,4,3]) 0 _;simp [LM13,zao,zas,renL,AV.ren,AEnd.ren,zaf str zae,zaq,List.getElem?_cons_zero,List.getElem?_cons_succ]),(by show AEnd.ren ([0,1,2,4,4,4,3]) _ _;first | rfl | simp [LM13,zao,zas,renL,AV.ren,AEnd.ren,zaf str zae,zaq,List.getElem?_cons_zero,List.getElem?_cons_succ]),?_⟩
   try simp -implicitDefEqProofs only [LM1,eq_self,zab (h:=T68),zad,zac,zaa,zah,zaE,zaF,zaX,zaO,zaY,zaP,zco,zcp,zcq,zaZ,za0,za1,zbp,zbq,zbr,TB,SB,Int.reduceToNat,Nat.reduceAdd,Nat.reduceEqDiff,Nat.reduceLT,Nat.reduceMod,Nat.reducePow,Nat.reduceSub,if_true,reduceIte]
   refine⟨by unfold inI;omega,?_⟩
   rw [zan]
   refine⟨true,trivial,by decide,zal (q:=[0,1,2,3,4,6]) rfl rfl (by decide) ?_ ?_⟩
   ·unfold doE
    try simp only [FB,AV.ren,Nat.reduceAdd,reduceCtorEq]
    simp [zaH,AV.ren,voC,renL,zaj,zae]
   ·unfold doS0 fns4
    simp [zao,Blk.ren,renL,AV.ren,zaH,zae,zaj]
  | true =>
   simp only [doE,doS0,fns4]
   try simp -implicitDefEqProofs only [LM1,eq_self,zab (h:=T68),zad,zac,zaa,zah,zaE,zaF,zaX,zaO,zaY,zaP,zco,zcp,zcq,zaZ,za0,za1,zbp,zbq,zbr,TB,SB,Int.reduceToNat,Nat.reduceAdd,Nat.reduceEqDiff,Nat.reduceLT,Nat.reduceMod,Nat.reducePow,Nat.reduceSub,if_true,reduceIte]
   refine⟨fun h=>absurd h (by decide),fun _=>?_⟩
   try simp -implicitDefEqProofs only [LM1,eq_self,zab (h:=T68),zad,zac,zaa,zah,zaE,zaF,zaX,zaO,zaY,zaP,zco,zcp,zcq,zaZ,za0,za1,zbp,zbq,zbr,TB,SB,Int.reduceToNat,Nat.reduceAdd,Nat.reduceEqDiff,Nat.reduceLT,Nat.reduceMod,Nat.reducePow,Nat.reduceSub,if_true,reduceIte]
   refine⟨fun hx=>by omega,fun _=>⟨by unfold inI;omega,?_⟩⟩
   refine hnx.pure (by simp [renL,zaH,AV.ren,zae,zaj,voC]) ?_
   rintro _ σ rfl
   refine⟨by simp [AEnd.noid,AV.ren,renL,zae,zaj],?_⟩
   try simp -implicitDefEqProofs only [LM1,eq_self,zab (h:=T68),zad,zac,zaa,zah,zaE,zaF,zaX,zaO,zaY,zaP,zco,zcp,zcq,zaZ,za0,za1,zbp,zbq,zbr,TB,SB,Int.reduceToNat,Nat.reduceAdd,Nat.reduceEqDiff,Nat.reduceLT,Nat.reduceMod,Nat.reducePow,Nat.reduceSub,if_true,reduceIte]
   refine doN2_ok _ _ _ _ _ _ _ ?_
   try simp -implicitDefEqProofs only [LM1,eq_self,zab (h:=T68),zad,zac,zaa,zah,zaE,zaF,zaX,zaO,zaY,zaP,zco,zcp,zcq,zaZ,za0,za1,zbp,zbq,zbr,TB,SB,Int.reduceToNat,Nat.reduceAdd,Nat.reduceEqDiff,Nat.reduceLT,Nat.reduceMod,Nat.reducePow,Nat.reduceSub,if_true,reduceIte]
   exact zbC [0,1,2,5] (i64 0) [.rw [.ref 3 0 1 2,.ref 2 0 c.length 2,str (shaR (h++(putV [o]).1)),i64 (n+1)],.dead,.rw (c.flatMap itC),.rw [str o.label,str o.box]] rfl rfl (by decide) (zaj _ _) (by simp [zao,Blk.ren,renL,AV.ren,zaH,zae,zaj]) ⟨rfl,rfl⟩
def doS1 (o:Vo) (y:It) (c:List It) (h:List UInt8) (n:Int):Bool→zag
 | false=>[.rw [.ref 1 0 1 2,.ref 2 0 c.length 2,str h,i64 n],.rw (itC y),.rw (c.flatMap itC),.rw [i64 0],.rw fns4]
 | true=>[.rw [.ref 1 0 1 2,.ref 2 0 c.length 2,str h,i64 n],.rw [str o.label,str o.box],.rw (c.flatMap itC),.rw [i64 0],.rw fns4]
set_option maxHeartbeats 3200000 in
theorem do1_ok (o:Vo) (hk:o.kind=0) (hB:zbf [o]=true) (y:It) (hy:y.label=o.label) (c:List It) (h:List UInt8) (hh:h.length=32) (n:Int) (hn:0≤n∧n < 1073741824):ACalls Tryz.prog 37 [.ptr 0 0,.sl ([o].flatMap voC) 1] [.rw [.ref 1 0 1 2,.ref 2 0 c.length 2,str h,i64 n],.rw (itC y),.rw (c.flatMap itC)] (fun z σ=>z=.ret (i64 0)∧σ=[.rw [.ref 1 0 1 2,.ref 2 0 c.length 2,str (shaR (h++(putV [o]).1)),i64 (n+1)],.rw [str o.label,str o.box],.rw (c.flatMap itC)]):=by
 have hp:=putB1_ok o y hy c h n
 have hnx:=ziE h [o] (by omega)
 unfold nextR at hnx
 rw [if_pos hB] at hnx
 rw [zeI,hk] at hp
 rw [zbn] at hp ⊢
 refine ACalls.bodyD T_ok Tryz.func37 (by kernel_rfl) rfl Tryz.ntmps37 (congrArg Array.toList Tryz.results37) ?_
 rw [zio rfl]
 try simp -implicitDefEqProofs only [LM1,eq_self,zab (h:=T68),zad,zac,zaa,zah,zaE,zaF,zaX,zaO,zaY,zaP,zco,zcp,zcq,zaZ,za0,za1,zbp,zbq,zbr,TB,SB,Int.reduceToNat,Nat.reduceAdd,Nat.reduceEqDiff,Nat.reduceLT,Nat.reduceMod,Nat.reducePow,Nat.reduceSub,if_true,reduceIte]
 rw [ziq rfl]
 try simp -implicitDefEqProofs only [LM1,eq_self,zab (h:=T68),zad,zac,zaa,zah,zaE,zaF,zaX,zaO,zaY,zaP,zco,zcp,zcq,zaZ,za0,za1,zbp,zbq,zbr,TB,SB,Int.reduceToNat,Nat.reduceAdd,Nat.reduceEqDiff,Nat.reduceLT,Nat.reduceMod,Nat.reducePow,Nat.reduceSub,if_true,reduceIte]
 refine⟨by kernel_rfl,?_⟩
 try simp -implicitDefEqProofs only [LM1,eq_self,zab (h:=T68),zad,zac,zaa,zah,zaE,zaF,zaX,zaO,zaY,zaP,zco,zcp,zcq,zaZ,za0,za1,zbp,zbq,zbr,TB,SB,Int.reduceToNat,Nat.reduceAdd,Nat.reduceEqDiff,Nat.reduceLT,Nat.reduceMod,Nat.reducePow,Nat.reduceSub,if_true,reduceIte]
 rw [za9]
 refine⟨Bool,fun _=>True,doE o,doS1 o y c h n,doM,false,trivial,zal (q:=[0,1,2,3,4]) rfl rfl (by decide) ?_ ?_,?_⟩
 ·unfold doE
  try simp only [FB,AV.ren,Nat.reduceAdd,reduceCtorEq]
  simp [zaH,AV.ren,voC,renL,zaj,zae]
 ·unfold doS1 fns4
  simp [zao,Blk.ren,renL,AV.ren,zaH,zae,zaj,zbn]
 ·rintro b -
  cases b with
  | false =>
   simp only [doE,doS1,fns4]
   rw [zbn]
   try simp -implicitDefEqProofs only [LM1,eq_self,zab (h:=T68),zad,zac,zaa,zah,zaE,zaF,zaX,zaO,zaY,zaP,zco,zcp,zcq,zaZ,za0,za1,zbp,zbq,zbr,hk,TB,SB,Int.reduceToNat,Nat.reduceAdd,Nat.reduceEqDiff,Nat.reduceLT,Nat.reduceMod,Nat.reducePow,Nat.reduceSub,if_true,reduceIte]
   refine⟨fun _=>?_,fun h=>absurd h (by decide)⟩
   refine⟨by decide,by decide,by decide,?_⟩
   try simp -implicitDefEqProofs only [LM1,eq_self,zab (h:=T68),zad,zac,zaa,zah,zaE,zaF,zaX,zaO,zaY,zaP,zco,zcp,zcq,zaZ,za0,za1,zbp,zbq,zbr,hk,TB,SB,Int.reduceToNat,Nat.reduceAdd,Nat.reduceEqDiff,Nat.reduceLT,Nat.reduceMod,Nat.reducePow,Nat.reduceSub,if_true,reduceIte]
   refine zbg [5] (by kernel_rfl) (by kernel_rfl) (by kernel_rfl) ?_
   try simp -implicitDefEqProofs only [LM1,eq_self,zab (h:=T68),zad,zac,zaa,zah,zaE,zaF,zaX,zaO,zaY,zaP,zco,zcp,zcq,zaZ,za0,za1,zbp,zbq,zbr,TB,SB,Int.reduceToNat,Nat.reduceAdd,Nat.reduceEqDiff,Nat.reduceLT,Nat.reduceMod,Nat.reducePow,Nat.reduceSub,if_true,reduceIte]
   refine⟨by decide,by decide,?_⟩
   try simp -implicitDefEqProofs only [LM1,eq_self,zab (h:=T68),zad,zac,zaa,zah,zaE,zaF,zaX,zaO,zaY,zaP,zco,zcp,zcq,zaZ,za0,za1,zbp,zbq,zbr,hk,TB,SB,Int.reduceToNat,Nat.reduceAdd,Nat.reduceEqDiff,Nat.reduceLT,Nat.reduceMod,Nat.reducePow,Nat.reduceSub,if_true,reduceIte]
   refine ACalls.frame ([0,1,2]) (hp) rfl (by decide) (by simp [LM13,zao,zas,renL,AV.ren,AEnd.ren,zaf str zae,zaq,List.getElem?_cons_zero,List.getElem?_cons_succ]) (by first | rfl | simp [LM13,zao,zas,renL,AV.ren,AEnd.ren,zaf str zae,zaq,List.getElem?_cons_zero,List.getElem?_cons_succ]) ?_
   rintro _ _ ⟨rfl,rfl⟩
   refine⟨.ret (.tup []),[.rw [.ref 1 0 1 2,.ref 2 0 c.length 2,str h,i64 n],.rw [str o.label,str o.box],.rw (c.flatMap itC),.rw [i64 0],.rw [.fn (.func 66) [.ptr 0 0] [],.fn (.func 67) [.ptr 0 0] [],.fn (.func 68) [.ptr 0 0] [],.fn (.func 69) [.ptr 0 0] []],.rw [i64 0,str o.label,str o.box]],(by show zas _ _ ([0,1,2,3,3,3]) ([0,1,2,3,3,3]) 0 _;simp [LM13,zao,zas,renL,AV.ren,AEnd.ren,zaf str zae,zaq,List.getElem?_cons_zero,List.getElem?_cons_succ]),(by show AEnd.ren ([0,1,2,3,3,3]) _ _;first | rfl | simp [LM13,zao,zas,renL,AV.ren,AEnd.ren,zaf str zae,zaq,List.getElem?_cons_zero,List.getElem?_cons_succ]),?_⟩
   try simp -implicitDefEqProofs only [LM1,eq_self,zab (h:=T68),zad,zac,zaa,zah,zaE,zaF,zaX,zaO,zaY,zaP,zco,zcp,zcq,zaZ,za0,za1,zbp,zbq,zbr,TB,SB,Int.reduceToNat,Nat.reduceAdd,Nat.reduceEqDiff,Nat.reduceLT,Nat.reduceMod,Nat.reducePow,Nat.reduceSub,if_true,reduceIte]
   refine⟨by unfold inI;omega,?_⟩
   rw [zan]
   refine⟨true,trivial,by decide,zal (q:=[0,1,2,3,4]) rfl rfl (by decide) ?_ ?_⟩
   ·unfold doE
    try simp only [FB,AV.ren,Nat.reduceAdd,reduceCtorEq]
    simp [zaH,AV.ren,voC,renL,zaj,zae]
   ·unfold doS1 fns4
    simp [zao,Blk.ren,renL,AV.ren,zaH,zae,zaj]
  | true =>
   simp only [doE,doS1,fns4]
   try simp -implicitDefEqProofs only [LM1,eq_self,zab (h:=T68),zad,zac,zaa,zah,zaE,zaF,zaX,zaO,zaY,zaP,zco,zcp,zcq,zaZ,za0,za1,zbp,zbq,zbr,TB,SB,Int.reduceToNat,Nat.reduceAdd,Nat.reduceEqDiff,Nat.reduceLT,Nat.reduceMod,Nat.reducePow,Nat.reduceSub,if_true,reduceIte]
   refine⟨fun h=>absurd h (by decide),fun _=>?_⟩
   try simp -implicitDefEqProofs only [LM1,eq_self,zab (h:=T68),zad,zac,zaa,zah,zaE,zaF,zaX,zaO,zaY,zaP,zco,zcp,zcq,zaZ,za0,za1,zbp,zbq,zbr,TB,SB,Int.reduceToNat,Nat.reduceAdd,Nat.reduceEqDiff,Nat.reduceLT,Nat.reduceMod,Nat.reducePow,Nat.reduceSub,if_true,reduceIte]
   refine⟨fun hx=>by omega,fun _=>⟨by unfold inI;omega,?_⟩⟩
   refine hnx.pure (by simp [renL,zaH,AV.ren,zae,zaj,voC]) ?_
   rintro _ σ rfl
   refine⟨by simp [AEnd.noid,AV.ren,renL,zae,zaj],?_⟩
   try simp -implicitDefEqProofs only [LM1,eq_self,zab (h:=T68),zad,zac,zaa,zah,zaE,zaF,zaX,zaO,zaY,zaP,zco,zcp,zcq,zaZ,za0,za1,zbp,zbq,zbr,TB,SB,Int.reduceToNat,Nat.reduceAdd,Nat.reduceEqDiff,Nat.reduceLT,Nat.reduceMod,Nat.reducePow,Nat.reduceSub,if_true,reduceIte]
   refine doN1_ok _ _ _ _ _ _ ?_
   try simp -implicitDefEqProofs only [LM1,eq_self,zab (h:=T68),zad,zac,zaa,zah,zaE,zaF,zaX,zaO,zaY,zaP,zco,zcp,zcq,zaZ,za0,za1,zbp,zbq,zbr,TB,SB,Int.reduceToNat,Nat.reduceAdd,Nat.reduceEqDiff,Nat.reduceLT,Nat.reduceMod,Nat.reducePow,Nat.reduceSub,if_true,reduceIte]
   exact zbC [0,1,2] (i64 0) [.rw [.ref 1 0 1 2,.ref 2 0 c.length 2,str (shaR (h++(putV [o]).1)),i64 (n+1)],.rw [str o.label,str o.box],.rw (c.flatMap itC)] rfl rfl (by decide) (zaj _ _) (by simp [zao,Blk.ren,renL,AV.ren,zaH,zae,zaj]) ⟨rfl,rfl⟩
def doS2 (o:Vo) (y:It) (c:List It) (h:List UInt8) (n:Int):Bool→zag
 | false=>[.rw [.ref 1 0 1 2,.ref 2 0 c.length 2,str h,i64 n],.rw (itC y),.rw (c.flatMap itC),.rw [i64 0],.rw fns4]
 | true=>[]
set_option maxHeartbeats 3200000 in
theorem do2_ok (o:Vo) (hk:o.kind=1) (hB:zbf [o]=true) (y:It) (hy:y.label < o.label) (c:List It) (h:List UInt8) (hh:h.length=32) (n:Int) (hn:0≤n∧n < 1073741824):ACalls Tryz.prog 37 [.ptr 0 0,.sl ([o].flatMap voC) 1] [.rw [.ref 1 0 1 2,.ref 2 0 c.length 2,str h,i64 n],.rw (itC y),.rw (c.flatMap itC)] (fun z σ=>z=.ret (i64 6)∧σ=[.rw [.ref 1 0 1 2,.ref 2 0 c.length 2,str h,i64 n],.dead,.rw (c.flatMap itC)]):=by
 have hp:=takeB_ok o y hy c h n
 rw [zeI,hk] at hp
 rw [zbn] at hp ⊢
 refine ACalls.bodyD T_ok Tryz.func37 (by kernel_rfl) rfl Tryz.ntmps37 (congrArg Array.toList Tryz.results37) ?_
 rw [zio rfl]
 try simp -implicitDefEqProofs only [LM1,eq_self,zab (h:=T68),zad,zac,zaa,zah,zaE,zaF,zaX,zaO,zaY,zaP,zco,zcp,zcq,zaZ,za0,za1,zbp,zbq,zbr,TB,SB,Int.reduceToNat,Nat.reduceAdd,Nat.reduceEqDiff,Nat.reduceLT,Nat.reduceMod,Nat.reducePow,Nat.reduceSub,if_true,reduceIte]
 rw [ziq rfl]
 try simp -implicitDefEqProofs only [LM1,eq_self,zab (h:=T68),zad,zac,zaa,zah,zaE,zaF,zaX,zaO,zaY,zaP,zco,zcp,zcq,zaZ,za0,za1,zbp,zbq,zbr,TB,SB,Int.reduceToNat,Nat.reduceAdd,Nat.reduceEqDiff,Nat.reduceLT,Nat.reduceMod,Nat.reducePow,Nat.reduceSub,if_true,reduceIte]
 refine⟨by kernel_rfl,?_⟩
 try simp -implicitDefEqProofs only [LM1,eq_self,zab (h:=T68),zad,zac,zaa,zah,zaE,zaF,zaX,zaO,zaY,zaP,zco,zcp,zcq,zaZ,za0,za1,zbp,zbq,zbr,TB,SB,Int.reduceToNat,Nat.reduceAdd,Nat.reduceEqDiff,Nat.reduceLT,Nat.reduceMod,Nat.reducePow,Nat.reduceSub,if_true,reduceIte]
 rw [za9]
 refine⟨Bool,fun b=>b=false,doE o,doS2 o y c h n,doM,false,rfl,zal (q:=[0,1,2,3,4]) rfl rfl (by decide) ?_ ?_,?_⟩
 ·unfold doE
  try simp only [FB,AV.ren,Nat.reduceAdd,reduceCtorEq]
  simp [zaH,AV.ren,voC,renL,zaj,zae]
 ·unfold doS2 fns4
  simp [zao,Blk.ren,renL,AV.ren,zaH,zae,zaj,zbn]
 ·rintro b hb
  cases b with
  | false =>
   simp only [doE,doS2,fns4]
   rw [zbn]
   try simp -implicitDefEqProofs only [LM1,eq_self,zab (h:=T68),zad,zac,zaa,zah,zaE,zaF,zaX,zaO,zaY,zaP,zco,zcp,zcq,zaZ,za0,za1,zbp,zbq,zbr,hk,TB,SB,Int.reduceToNat,Nat.reduceAdd,Nat.reduceEqDiff,Nat.reduceLT,Nat.reduceMod,Nat.reducePow,Nat.reduceSub,if_true,reduceIte]
   refine⟨fun _=>?_,fun h=>absurd h (by decide)⟩
   refine⟨by decide,by decide,by decide,?_⟩
   try simp -implicitDefEqProofs only [LM1,eq_self,zab (h:=T68),zad,zac,zaa,zah,zaE,zaF,zaX,zaO,zaY,zaP,zco,zcp,zcq,zaZ,za0,za1,zbp,zbq,zbr,hk,TB,SB,Int.reduceToNat,Nat.reduceAdd,Nat.reduceEqDiff,Nat.reduceLT,Nat.reduceMod,Nat.reducePow,Nat.reduceSub,if_true,reduceIte]
   refine zbg [5] (by kernel_rfl) (by kernel_rfl) (by kernel_rfl) ?_
   try simp -implicitDefEqProofs only [LM1,eq_self,zab (h:=T68),zad,zac,zaa,zah,zaE,zaF,zaX,zaO,zaY,zaP,zco,zcp,zcq,zaZ,za0,za1,zbp,zbq,zbr,TB,SB,Int.reduceToNat,Nat.reduceAdd,Nat.reduceEqDiff,Nat.reduceLT,Nat.reduceMod,Nat.reducePow,Nat.reduceSub,if_true,reduceIte]
   refine⟨by decide,by decide,?_⟩
   try simp -implicitDefEqProofs only [LM1,eq_self,zab (h:=T68),zad,zac,zaa,zah,zaE,zaF,zaX,zaO,zaY,zaP,zco,zcp,zcq,zaZ,za0,za1,zbp,zbq,zbr,hk,TB,SB,Int.reduceToNat,Nat.reduceAdd,Nat.reduceEqDiff,Nat.reduceLT,Nat.reduceMod,Nat.reducePow,Nat.reduceSub,if_true,reduceIte]
   refine ACalls.frame ([0,1,2]) (hp) rfl (by decide) (by simp [LM13,zao,zas,renL,AV.ren,AEnd.ren,zaf str zae,zaq,List.getElem?_cons_zero,List.getElem?_cons_succ]) (by first | rfl | simp [LM13,zao,zas,renL,AV.ren,AEnd.ren,zaf str zae,zaq,List.getElem?_cons_zero,List.getElem?_cons_succ]) ?_
   rintro _ _ ⟨rfl,rfl⟩
   refine⟨.pan (fau 6),[.rw [.ref 1 0 1 2,.ref 2 0 c.length 2,str h,i64 n],.dead,.rw (c.flatMap itC),.rw [i64 0],.rw [.fn (.func 66) [.ptr 0 0] [],.fn (.func 67) [.ptr 0 0] [],.fn (.func 68) [.ptr 0 0] [],.fn (.func 69) [.ptr 0 0] []],.rw [i64 1,str o.label,str o.box]],(by show zas _ _ ([0,1,2,3,3,3]) ([0,1,2,3,3,3]) 0 _;simp [LM13,zao,zas,renL,AV.ren,AEnd.ren,zaf str zae,zaq,List.getElem?_cons_zero,List.getElem?_cons_succ]),(by show AEnd.ren ([0,1,2,3,3,3]) _ _;first | rfl | simp [LM13,zao,zas,renL,AV.ren,AEnd.ren,zaf str zae,zaq,List.getElem?_cons_zero,List.getElem?_cons_succ]),?_⟩
   try simp -implicitDefEqProofs only [LM1,eq_self,zab (h:=T68),zad,zac,zaa,zah,zaE,zaF,zaX,zaO,zaY,zaP,zco,zcp,zcq,zaZ,za0,za1,zbp,zbq,zbr,TB,SB,Int.reduceToNat,Nat.reduceAdd,Nat.reduceEqDiff,Nat.reduceLT,Nat.reduceMod,Nat.reducePow,Nat.reduceSub,if_true,reduceIte]
   refine doP2_ok _ _ _ _ _ _ _ ?_
   try simp -implicitDefEqProofs only [LM1,eq_self,zab (h:=T68),zad,zac,zaa,zah,zaE,zaF,zaX,zaO,zaY,zaP,zco,zcp,zcq,zaZ,za0,za1,zbp,zbq,zbr,TB,SB,Int.reduceToNat,Nat.reduceAdd,Nat.reduceEqDiff,Nat.reduceLT,Nat.reduceMod,Nat.reducePow,Nat.reduceSub,if_true,reduceIte]
   exact zbC [0,1,2] (i64 6) [.rw [.ref 1 0 1 2,.ref 2 0 c.length 2,str h,i64 n],.dead,.rw (c.flatMap itC)] rfl rfl (by decide) (zaj _ _) (by simp [zao,Blk.ren,renL,AV.ren,zaH,zae,zaj]) ⟨rfl,rfl⟩
  | true=>cases hb
end Go.Proofs.YtdmiflfhaobngaaGreatDoor
end

