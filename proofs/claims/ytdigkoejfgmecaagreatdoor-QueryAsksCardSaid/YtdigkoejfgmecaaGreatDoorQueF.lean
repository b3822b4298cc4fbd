/-
  The order of values. No condition.
-/
import Derived.Test.YtdigkoejfgmecaaGreatDoorQueR
import Derived.Sort.Walk0
import Derived.Test.YtdigkoejfgmecaaGreatDoorLib
set_option linter.unusedSimpArgs false
set_option linter.unusedVariables false
set_option linter.unusedSectionVars false
section
namespace Go.Eng
open Go
theorem aQ8 {P:Prop} (e:P:=by first | rfl | simp [AEnd.noid,AV.ren,renL,zcs,zcO,zbY,zbt,zac,zay,zaj]):P:=e
theorem aQ9 {P:Prop} (e:P:=by rw [zcc,zcc]):P:=e
theorem aQ10 {P:Prop} (e:P:=by simp [renL,AV.ren,zai,zac]):P:=e
theorem aQ40 {P Q:Prop} (h:Q) (e:P=Q:=by first|(simp -implicitDefEqProofs only [LM5,LB13,eq_self,ia_slI,TB,SB,Int.reduceToNat,Nat.reduceAdd,Nat.reduceEqDiff,Nat.reduceLT,Nat.reduceMod,Nat.reducePow,Nat.reduceSub,if_true,reduceIte];first|done|exact rfl)|exact rfl):P:=e ▸ h
theorem aQ41 {P Q:Prop} (h:Q) (e:P=Q:=by first|(simp -implicitDefEqProofs only [LM5,LB13,LB14,eq_self,fl_s1 T113,fl_s3 T113,TB,SB,Int.reduceToNat,Nat.reduceAdd,Nat.reduceEqDiff,Nat.reduceLT,Nat.reduceMod,Nat.reducePow,Nat.reduceSub,if_true,reduceIte];first|done|exact rfl)|exact rfl):P:=e ▸ h
theorem aQ42 {P Q:Prop} (h:Q) (e:P=Q:=by first|(simp -implicitDefEqProofs only [LM4,eq_self,TB,SB,Int.reduceToNat,Nat.reduceAdd,Nat.reduceEqDiff,Nat.reduceLT,Nat.reduceMod,Nat.reducePow,Nat.reduceSub,if_true,reduceIte];first|done|exact rfl)|exact rfl):P:=e ▸ h
theorem aQ43 {P Q:Prop} (h:Q) (e:P=Q:=by first|(simp -implicitDefEqProofs only [LM4,eq_self,ldw_0,TB,SB,Int.reduceToNat,Nat.reduceAdd,Nat.reduceEqDiff,Nat.reduceLT,Nat.reduceMod,Nat.reducePow,Nat.reduceSub,if_true,reduceIte];first|done|exact rfl)|exact rfl):P:=e ▸ h
theorem aQ44 {P Q:Prop} (h:Q) (e:P=Q:=by first|(simp -implicitDefEqProofs only [LM4,eq_self,mk_sl0,bs_Ns1,TB,SB,Int.reduceToNat,Nat.reduceAdd,Nat.reduceEqDiff,Nat.reduceLT,Nat.reduceMod,Nat.reducePow,Nat.reduceSub,if_true,reduceIte];first|done|exact rfl)|exact rfl):P:=e ▸ h
theorem aQ45 {P Q:Prop} (h:Q) (e:P=Q:=by first|(simp -implicitDefEqProofs only [LM4,eq_self,cells_nA,TB,SB,Int.reduceToNat,Nat.reduceAdd,Nat.reduceEqDiff,Nat.reduceLT,Nat.reduceMod,Nat.reducePow,Nat.reduceSub,if_true,reduceIte];first|done|exact rfl)|exact rfl):P:=e ▸ h
theorem aQ46 {P Q:Prop} (h:Q) (e:P=Q:=by first|(simp -implicitDefEqProofs only [LM4,LB16,eq_self,TB,SB,Int.reduceToNat,Nat.reduceAdd,Nat.reduceEqDiff,Nat.reduceLT,Nat.reduceMod,Nat.reducePow,Nat.reduceSub,if_true,reduceIte];first|done|exact rfl)|exact rfl):P:=e ▸ h
theorem aQ47 {P Q:Prop} (h:Q) (e:P=Q:=by first|(simp -implicitDefEqProofs only [LM4,LB16,eq_self,bs_ss2,ldd_Ns0,TB,SB,Int.reduceToNat,Nat.reduceAdd,Nat.reduceEqDiff,Nat.reduceLT,Nat.reduceMod,Nat.reducePow,Nat.reduceSub,if_true,reduceIte];first|done|exact rfl)|exact rfl):P:=e ▸ h
end Go.Eng
end

section
namespace Go.Proofs.YtdigkoejfgmecaaGreatDoor
open Go Go.Eng
theorem plain_eq (n:Nd):zb3 n=(decide (0≤n.kind) && (decide (n.kind≤5) && ((decide (n.kind=2) || (decide (n.num=0) || (decide (n.kind=1) && decide (n.num=1)))) && ((decide (n.kind=3) || decide (n.text=[])) && (decide (n.kids=0) || (decide (0 < n.kids) && (decide (n.kind=4) || decide (n.kind=5)))))))):=by
 obtain⟨k,m,t,c⟩:=n
 rw [Bool.eq_iff_iff]
 simp only [zb3,wantN,Bool.and_eq_true,Bool.or_eq_true,decide_eq_true_eq]
 constructor
 ·rintro⟨⟨h1,h2⟩,h3⟩
  refine⟨h1,h2,?_⟩
  split at h3
  ·split at h3 <;> (simp only [Nd.mk.injEq] at h3;obtain⟨_,h4,h5,h6⟩:=h3;refine⟨by omega,.inr h5,.inl h6⟩)
  ·split at h3
   ·simp only [Nd.mk.injEq] at h3
    obtain⟨_,h4,h5,h6⟩:=h3
    exact⟨by omega,.inr h5,.inl h6⟩
   ·split at h3
    ·simp only [Nd.mk.injEq] at h3
     obtain⟨_,h4,h5,h6⟩:=h3
     exact⟨by omega,.inl (by assumption),.inl h6⟩
    ·split at h3
     ·simp only [Nd.mk.injEq] at h3
      obtain⟨_,h4,h5,h6⟩:=h3
      exact⟨by omega,.inr h5,by omega⟩
     ·simp only [Nd.mk.injEq] at h3
      obtain⟨_,h4,h5,h6⟩:=h3
      exact⟨by omega,.inr h5,.inl h6⟩
 ·rintro⟨h1,h2,h3,h4,h5⟩
  refine⟨⟨h1,h2⟩,?_⟩
  split
  ·split
   ·simp only [Nd.mk.injEq]
    exact⟨by omega,by omega,by rcases h4 with h | h;exact absurd h (by omega);exact h,by omega⟩
   ·simp only [Nd.mk.injEq]
    exact⟨by omega,by omega,by rcases h4 with h | h;exact absurd h (by omega);exact h,by omega⟩
  ·split
   ·simp only [Nd.mk.injEq]
    exact⟨by omega,trivial,by rcases h4 with h | h;exact absurd h (by omega);exact h,by omega⟩
   ·split
    ·simp only [Nd.mk.injEq]
     exact⟨by omega,by omega,trivial,by omega⟩
    ·split
     ·simp only [Nd.mk.injEq]
      exact⟨trivial,by omega,by rcases h4 with h | h;exact absurd h (by omega);exact h,by omega⟩
     ·simp only [Nd.mk.injEq]
      exact⟨trivial,by omega,by rcases h4 with h | h;exact absurd h (by omega);exact h,by omega⟩
theorem gGo_cases {p:Prop} [Decidable p] {want:Bool} {A:Bool→Prop} (h1:p→gGo (bl true) want A) (h2:¬ p→gGo (bl false) want A):gGo (bl (decide p)) want A:=by
 by_cases h:p
 ·rw [decide_eq_true h];exact h1 h
 ·rw [decide_eq_false h];exact h2 h
set_option maxHeartbeats 4000000 in
theorem plain_ok (n:Nd):ACalls Tryz.prog 105 [nA n] [] (fun y _=>y=.ret (bl (zb3 n))):=by
 refine ACalls.body T_ok Tryz.func105 (by kernel_rfl) rfl Tryz.ntmps105 (congrArg Array.toList Tryz.results105) ?_
 rw [plain_eq]
 iterate 13
  all_goals
   first|exact aQ23 trivial|refine aQ23 ?_
  all_goals try (refine gGo_cases (fun h=>?_) (fun h=>?_) <;> first | (exfalso;omega) | (rw [decide_eq_true h]) | (rw [decide_eq_false h]) | skip)
 all_goals (refine zaq ?_;simp_all)
theorem rSame_ok (a b:List Nd) (ha:a.length≤1000000000000):ACalls Tryz.prog 44 [.sl (a.flatMap nC) a.length,.sl (b.flatMap nC) b.length] [] (fun y _=>y=.ret (bl (decide (a=b)))):=by
 refine ACalls.body T_ok Tryz.func44 (by kernel_rfl) rfl Tryz.ntmps44 (congrArg Array.toList Tryz.results44) ?_
 refine aQ23 ?_
 refine⟨fun hne=>?_,fun heq=>?_⟩
 ·refine zaq ?_
  rw [decide_eq_false (fun h=>hne (by rw [h]))]
 have hl:a.length=b.length:=by omega
 rw [zaK]
 refine⟨Nat,fun k=>k≤a.length∧∀ i,i < k→a.getD i n0d=b.getD i n0d,fun k=>[.sl (a.flatMap nC) a.length,.sl (b.flatMap nC) b.length,.bot,.bot,bl false,i64 k,.bot,.bot,.bot,.bot,.bot,.bot,.bot,.bot,.bot,.bot,.bot,.bot,.bot,.bot,.bot,.bot,.bot,.bot,.bot,.bot],fun _=>[],fun k=>a.length - k,0,⟨Nat.zero_le _,fun i hi=>by omega⟩,?_,?_⟩
 ·refine zab (q:=[]) rfl rfl (by decide) ?_ ?_
  ·refine aQ18 ?_
   simp [zai,AV.ren,renL]
  ·first|exact aQ18 trivial|refine aQ18 ?_
 ·rintro k ⟨hk,hsame⟩
  refine aQ23 ?_
  refine⟨fun hlt=>?_,fun hge=>?_⟩
  ·refine zcw (by kernel_rfl) (by kernel_rfl) ?_
   refine aQ23 ?_
   repeat (with_reducible refine zbg ?_)
   refine⟨fun hne=>?_,fun heq=>?_⟩
   ·refine zaq ?_
    rw [decide_eq_false (by rintro rfl;exact hne rfl)]
   ·repeat (with_reducible refine zbg ?_)
    rw [zad]
    refine⟨k+1,⟨by omega,fun i hi=>?_⟩,by omega,zab (q:=[]) rfl rfl (by decide) ?_ ?_⟩
    ·rcases Nat.lt_succ_iff_lt_or_eq.1 hi with h | rfl
     ·exact hsame i h
     ·simpa using heq
    ·refine aQ18 ?_
     simp [zai,AV.ren,renL]
    ·first|exact aQ18 trivial|refine aQ18 ?_
  ·obtain rfl:k=a.length:=by omega
   refine aQ23 ?_
   refine zaq ?_
   rw [decide_eq_true (List.ext_getElem hl fun i h1 h2=>by have:=hsame i h1;simpa [h1,h2] using this)]
theorem rInts_ok (a b:List Int) (ha:a.length≤1000000000000):ACalls Tryz.prog 13 [.sl (a.map i64) a.length,.sl (b.map i64) b.length] [] (fun y _=>y=.ret (bl (decide (a=b)))):=by
 refine ACalls.body T_ok Tryz.func13 (by kernel_rfl) rfl Tryz.ntmps13 (congrArg Array.toList Tryz.results13) ?_
 refine aQ23 ?_
 refine⟨fun hne=>?_,fun heq=>?_⟩
 ·refine zaq ?_
  rw [decide_eq_false (fun h=>hne (by rw [h]))]
 have hl:a.length=b.length:=by omega
 rw [zaK]
 refine⟨Nat,fun k=>k≤a.length∧∀ i,i < k→a.getD i 0=b.getD i 0,fun k=>[.sl (a.map i64) a.length,.sl (b.map i64) b.length,.bot,.bot,bl false,i64 k,.bot,.bot,.bot,.bot,.bot,.bot,.bot,.bot,.bot,.bot,.bot,.bot,.bot,.bot,.bot,.bot,.bot,.bot,.bot,.bot],fun _=>[],fun k=>a.length - k,0,⟨Nat.zero_le _,fun i hi=>by omega⟩,?_,?_⟩
 ·refine zab (q:=[]) rfl rfl (by decide) ?_ ?_
  ·refine aQ18 ?_
   simp [zcn,AV.ren,renL]
  ·first|exact aQ18 trivial|refine aQ18 ?_
 ·rintro k ⟨hk,hsame⟩
  refine aQ23 ?_
  refine⟨fun hlt=>?_,fun hge=>?_⟩
  ·refine zcw (by kernel_rfl) (by kernel_rfl) ?_
   refine aQ23 ?_
   repeat (with_reducible refine zbg ?_)
   refine⟨fun hne=>?_,fun heq=>?_⟩
   ·refine zaq ?_
    rw [decide_eq_false (by rintro rfl;exact hne rfl)]
   ·repeat (with_reducible refine zbg ?_)
    rw [zad]
    refine⟨k+1,⟨by omega,fun i hi=>?_⟩,by omega,zab (q:=[]) rfl rfl (by decide) ?_ ?_⟩
    ·rcases Nat.lt_succ_iff_lt_or_eq.1 hi with h | rfl
     ·exact hsame i h
     ·simpa using heq
    ·refine aQ18 ?_
     simp [zcn,AV.ren,renL]
    ·first|exact aQ18 trivial|refine aQ18 ?_
  ·obtain rfl:k=a.length:=by omega
   refine aQ23 ?_
   refine zaq ?_
   rw [decide_eq_true (List.ext_getElem hl fun i h1 h2=>by have:=hsame i h1;simpa [h1,h2] using this)]
def sC (e d:Int) (b:Bool) (k s:AV):List AV:=[i64 e,i64 d,bl b,k,s]
def slI (l:List Int):AV:=.sl (l.map i64) l.length
def zkg (e d:Int) (b:Bool) (k s:List Int):AV:=.agg (sC e d b (slI k) (slI s))
section
variable {e d : Int} {b : Bool} {k s : AV} {σ : zaa} {K : AV → Prop} {KS : AV → zaa → Prop} {t : TypeId} {id : Nat}
theorem fa_s0 (ht:T t=some tySn):zag T t (.ptr id 0) 0 K=K (.ptr id 0):=by simp [zag,ht,tySn,T3,zaC]
theorem fa_s1 (ht:T t=some tySn):zag T t (.ptr id 0) 1 K=K (.ptr id 1):=by simp [zag,ht,tySn,T3,zaC]
theorem fa_s2 (ht:T t=some tySn):zag T t (.ptr id 0) 2 K=K (.ptr id 2):=by simp [zag,ht,tySn,T4,zeS]
theorem fa_s3 (ht:T t=some tySn):zag T t (.ptr id 0) 3 K=K (.ptr id 3):=by simp [zag,ht,tySn,T31,tySl]
theorem fa_s4 (ht:T t=some tySn):zag T t (.ptr id 0) 4 K=K (.ptr id 4):=by simp [zag,ht,tySn,T31,tySl]
theorem ld_s0:ld2 (some zaC) (some (sC e d b k s)) 0 K=K (i64 e):=by simp [ld2,wfin,zaC,TD.agg,sC]
theorem ld_s1:ld2 (some zaC) (some (sC e d b k s)) 1 K=K (i64 d):=by simp [ld2,wfin,zaC,TD.agg,sC]
theorem ld_sb:ld2 (some zeS) (some (sC e d b k s)) 2 K=K (bl b):=by simp [ld2,wfin,zeS,TD.agg,sC]
theorem ld_s3 (x:TypeId):ld2 (some (tySl x)) (some (sC e d b k s)) 3 K=K k:=by simp [ld2,wfin,tySl,TD.agg,sC]
theorem ld_s4 (x:TypeId):ld2 (some (tySl x)) (some (sC e d b k s)) 4 K=K s:=by simp [ld2,wfin,tySl,TD.agg,sC]
theorem ld_sw:ld2 (some tySn) (some (sC e d b k s)) 0 K=K (.agg (sC e d b k s)):=by simp [ld2,wfin,tySn,TD.agg,sC]
theorem al_sn (x:TypeId):al1 T x (some tySn) σ KS=KS (.ptr σ.length 0) (σ++[.rw (sC 0 0 false (.lit (.slice none 0 0)) (.lit (.slice none 0 0)))]):=by
 simp [al1,tySn,zaE,sC,i64,bl]
theorem st_s3 (x:TypeId) (j n:Nat):st2 (some (tySl x)) (some (.rw (sC e d b k s))) id 3 (.ref j 0 n 1) σ KS=KS (.lit undef) (σ.set id (.rw (sC e d b (.ref j 0 n 1) s))):=by
 simp [st2,tySl,sC,AV.cells,AV.one,za0]
theorem st_s4 (x:TypeId) (j n:Nat):st2 (some (tySl x)) (some (.rw (sC e d b k s))) id 4 (.ref j 0 n 1) σ KS=KS (.lit undef) (σ.set id (.rw (sC e d b k (.ref j 0 n 1)))):=by
 simp [st2,tySl,sC,AV.cells,AV.one,za0]
theorem st_swn (e' d':Int) (b':Bool):st2 (some tySn) (some (.rw (sC e d b k s))) id 0 (.agg (sC e' d' b' (.lit (.slice none 0 0)) (.lit (.slice none 0 0)))) σ KS=KS (.lit undef) (σ.set id (.rw (sC e' d' b' (.lit (.slice none 0 0)) (.lit (.slice none 0 0))))):=by
 simp [st2,tySn,sC,AV.cells,AV.one,Value.oneCell',za0,i64,bl]
theorem st_sws (e' d':Int) (b':Bool) (k' s':List Int):st2 (some tySn) (some (.rw (sC e d b k s))) id 0 (.agg (sC e' d' b' (slI k') (slI s'))) σ KS=KS (.lit undef) (σ.set id (.rw (sC e' d' b' (slI k') (slI s')))):=by
 simp [st2,tySn,sC,slI,AV.cells,AV.one,Value.oneCell',za0,i64,bl]
theorem bd_s2 (ht:T t=some tySn) (x:Bool):zaY T t [(2,bl x)] K=K (.agg (sC 0 0 x (.lit (.slice none 0 0)) (.lit (.slice none 0 0)))):=by
 simp [zaY,ht,tySn,T3,T31,T4,zbo,zaE,cells_bl',one_bl',za0,zaC,tySl,zeS,sC]
 try rfl
theorem bd_s0 (ht:T t=some tySn) (x:Int):zaY T t [(0,i64 x)] K=K (.agg (sC x 0 false (.lit (.slice none 0 0)) (.lit (.slice none 0 0)))):=by
 simp [zaY,ht,tySn,T3,T31,T4,zbo,zaE,zcT,zcE,za0,zaC,tySl,zeS,sC]
 try rfl
theorem fl_s0 (ht:T t=some tySn):zc6 T t (.agg (sC e d b k s)) 0 K=K (i64 e):=by
 simp [zc6,ht,tySn,T3,zht,zaC,sC,TD.agg]
end
def cI (l:List Int):List AV:=l.map i64
theorem cI_one (l:List Int):(cI l).all AV.one=true:=by simp [cI,i64,AV.one,Value.oneCell']
theorem cI_len (l:List Int):(cI l).length=l.length:=by simp [cI]
def wapA (x:Option (List AV × Nat)) (σ:zaa) (id n:Nat) (KS:AV→zaa→Prop) (b:Option Blk):Prop:=match x,b with
 | some (xs,m),some (.rw cs)=>n≤cs.length∧xs.all AV.one=true∧(cs.take n).all AV.one=true∧n+m≤9223372036854775807∧(n+m) * 8≤140737488355328∧KS (.ref σ.length 0 (n+m) 1) (σ.set id .dead++[.rw (cs.take n++xs)])
 | _,_=>False
theorem app_I {x:AV} {σ:zaa} {id n:Nat} {KS:AV→zaa→Prop}:zbA T #[31,31] (.ref id 0 n 1) x σ KS=wapA (asrc σ 1 x) σ id n KS (σ[id]?):=by
 have e1:(#[31,31]:Array TypeId)[0]?=some 31:=rfl
 have e2:(#[31,31]:Array TypeId)[1]?=some 31:=rfl
 simp only [zbA,e1,e2,Option.bind_some,T31,tySl,T3]
 cases hx:asrc σ 1 x with
 | none=>simp [wapA,zaC,hx]
 | some q =>
  obtain⟨xs,m⟩:=q
  cases hb:σ[id]? with
  | none=>simp [wapA,zaC,hx,adst,adstT,hb]
  | some b =>
   cases b <;> simp [wapA,zaC,hx,adst,adstT,hb]
   rename_i cs
   by_cases hn:n≤cs.length
   ·simp [hn]
   ·simp [hn]
theorem wapA_0 {σ:zaa} {id m:Nat} {KS:AV→zaa→Prop} (ys:List Int):wapA (some (cI ys,m)) σ id 0 KS (some (.rw []))=(m≤9223372036854775807∧m * 8≤140737488355328∧KS (.ref σ.length 0 m 1) (σ.set id .dead++[.rw (cI ys)])):=by
 simp only [wapA,cI_one,List.take_nil,List.nil_append,List.length_nil,Nat.le_refl,List.all_nil,true_and,Nat.zero_add]
theorem wapA_1 {σ:zaa} {id:Nat} {KS:AV→zaa→Prop} (l:List Int) (a:Int):wapA (some ([i64 a],1)) σ id l.length KS (some (.rw (cI l)))=(l.length+1≤9223372036854775807∧(l.length+1) * 8≤140737488355328∧KS (.ref σ.length 0 (l.length+1) 1) (σ.set id .dead++[.rw (cI (l++[a]))])):=by
 have h1:(cI l).take l.length=cI l:=List.take_of_length_le (by rw [cI_len];omega)
 have h2:cI l++[i64 a]=cI (l++[a]):=by simp [cI]
 have h3:[i64 a].all AV.one=true:=rfl
 simp only [wapA,cI_len,Nat.le_refl,h1,h2,h3,cI_one,true_and]
theorem asrc_slI {σ:zaa} (l:List Int):asrc σ 1 (slI l)=some (cI l,l.length):=by
 simp [asrc,asl,slI,cI]
 exact List.take_of_length_le (by simp)
def asrB (n:Nat):Option Blk→Option (List AV × Nat)
 | some (.rw cs)=>if n≤cs.length then some (cs.take n,n) else none
 | some (.ro cs)=>if n≤cs.length then some (cs.take n,n) else none
 | some (.rt _ _ cs)=>if n≤cs.length then some (cs.take n,n) else none
 | some (.fz _ _ cs)=>if n≤cs.length then some (cs.take n,n) else none
 | _=>none
theorem asrc_rI {σ:zaa} (id n:Nat):asrc σ 1 (.ref id 0 n 1)=asrB n (σ[id]?):=by
 simp only [asrc,asl,rd,if_true,Nat.mul_one,Nat.zero_add,List.drop_zero]
 cases σ[id]? with
 | none=>rfl
 | some b=>cases b <;> rfl
theorem asrB_1 (a:Int):asrB 1 (some (.rw [i64 a]))=some ([i64 a],1):=rfl
theorem bs_I0 {σ:zaa} {KS:AV→zaa→Prop}:bs2 (some zaC) 0 [] σ KS=KS (.ref σ.length 0 0 1) (σ++[.rw []]):=by
 simp [bs2,zaC,zbo,zbz]
theorem bs_I1 {σ:zaa} {KS:AV→zaa→Prop} (a:Int):bs2 (some zaC) 1 [(0,i64 a)] σ KS=KS (.ref σ.length 0 1 1) (σ++[.rw [i64 a]]):=by
 rw [bs_i64_1];rfl
theorem len_sC (e d:Int) (b:Bool) (k s:AV):(sC e d b k s).length=5:=rfl
theorem set_s0 (e d:Int) (b:Bool) (k s:AV) (x:Int):(sC e d b k s).set 0 (i64 x)=sC x d b k s:=rfl
theorem set_s1 (e d:Int) (b:Bool) (k s:AV) (x:Int):(sC e d b k s).set 1 (i64 x)=sC e x b k s:=rfl
theorem set_sb (e d:Int) (b:Bool) (k s:AV) (x:Bool):(sC e d b k s).set 2 (bl x)=sC e d x k s:=rfl
set_option linter.defProp false in
def LB13:=And.intro @app_I (And.intro @wapA_0 (And.intro @wapA_1 (And.intro @asrc_slI (And.intro @asrc_rI (And.intro @asrB_1 (And.intro @bs_I0 (And.intro @bs_I1 (And.intro @len_sC (And.intro @set_s0 (And.intro @set_s1 (And.intro @set_sb (And.intro (fun {K} {id}=>@fa_s0 K _ id T113) (And.intro (fun {K} {id}=>@fa_s1 K _ id T113) (And.intro (fun {K} {id}=>@fa_s2 K _ id T113) (And.intro (fun {K} {id}=>@fa_s3 K _ id T113) (And.intro (fun {K} {id}=>@fa_s4 K _ id T113) (And.intro @ld_s0 (And.intro @ld_s1 (And.intro @ld_sb (And.intro @ld_s3 (And.intro @ld_s4 (And.intro @ld_sw (And.intro @al_sn (And.intro @st_s3 (And.intro @st_s4 (And.intro @st_swn (And.intro @st_sws (And.intro (fun {K}=>@bd_s2 K _ T113) ((fun {K}=>@bd_s0 K _ T113))))))))))))))))))))))))))))))
theorem leB_iff (a b:List UInt8):leB a b=!Op.bytesLess b a:=by
 rw [Bool.eq_iff_iff]
 simp only [leB,Bool.or_eq_true,decide_eq_true_eq,Go.Proofs.bytesLess_eq,Bool.not_eq_true',decide_eq_false_iff_not]
 rw [List.not_lt,List.le_iff_lt_or_eq]
theorem zgS {V:Nat→Option (Nat × Nat)} {l:List Nd} {mp:Bool} (hV:∀ e r,V e=some r→e < r.1∧r.1≤l.length∧r.2+e≤r.1):∀ (c:Nat) (last:Option (List UInt8)) (e d:Nat) (r:Nat × Nat),e≤l.length→zbn V l mp c last e d=some r→e≤r.1∧r.2≤max d (r.1 - e)
 | 0,last,e,d,r,he,h=>by
  simp only [zbn,Option.some.injEq] at h
  subst h
  exact⟨Nat.le_refl _,by omega⟩
 | c+1,last,e,d,r,he,h=>by
  cases mp with
  | true =>
   rw [zcH] at h
   split at h
   ·split at h
    ·split at h
     ·rename_i r' hr'
      have h1:=hV _ _ hr'
      have h2:=zgS hV c _ _ _ _ h1.2.1 h
      omega
     ·cases h
    ·cases h
   ·cases h
  | false =>
   rw [zce] at h
   split at h
   ·rename_i r' hr'
    have h1:=hV _ _ hr'
    have h2:=zgS hV c _ _ _ _ h1.2.1 h
    omega
   ·cases h
theorem vl_deep {l:List Nd}:∀ (m p:Nat) (r:Nat × Nat),l.length - p=m→vl l p=some r→r.2+p≤r.1:=by
 intro m
 induction m using Nat.strongRecOn with
 | _ m ih =>
  intro p r hm h
  have hr:=zaR h
  obtain⟨n,q,h1,h2,rfl⟩:=zjD h
  have hlt:=(za3 h1).1
  have:=zgS (V:=fun e=>if p < e then vl l e else none) (fun e r' hr'=>by
   split at hr'
   ·have:=zaR hr'
    exact⟨this.1,this.2,ih (l.length - e) (by omega) e r' rfl hr'⟩
   ·cases hr') n.kids.toNat none (p+1) 0 q (by omega) (by
    rw [← h2]
    refine(zdx (V:=vl l) (fun e r h=>(zaR h).1) (p+1) (fun e he=>?_) _ _ _ _ (Nat.le_refl _)).symm
    show vl l e=if p < e then vl l e else none
    rw [if_pos (by omega)])
  dsimp only
  omega
def kidZ (l:List Nd) (p c:Nat):List Int:=(List.range c).map fun k=>((eAt l (decide ((l.getD p n0d).kind=5)) p k+bK (decide ((l.getD p n0d).kind=5)):Nat):Int)
def keyZ (l:List Nd) (p c:Nat):List Int:=if (l.getD p n0d).kind=5 then (List.range c).map fun k=>((eAt l true p k:Nat):Int) else []
def valQ (l:List Nd) (p:Nat):AEnd→zaa→Prop:=fun y σ=>σ=[]∧match vl l p with
 | some r=>y=.ret (zkg r.1 r.2 false (kidZ l p (l.getD p n0d).kids.toNat) (keyZ l p (l.getD p n0d).kids.toNat))
 | none=>∃ e d ks ss,y=.ret (zkg e d true ks ss)∧0≤d∧d≤131+((l.length - p:Nat):Int)
theorem zfd {l : List Nd} {p : Nat} (h : vl l p = none) {σ : zaa} : endQ 0 (.agg (sC 0 0 true (.lit (.slice none 0 0)) (.lit (.slice none 0 0)))) σ (fun r σ' => valQ l p (.ret r) σ') := by
 refine zaX [] (zkg 0 0 true [] []) ⟨_,rfl,_,_,rfl,.inl rfl,_,_,rfl,.inl rfl,_,_,rfl,.inl rfl,_,_,rfl,.inr ⟨rfl,rfl⟩,_,_,rfl,.inr ⟨rfl,rfl⟩,rfl⟩ ⟨[],zkg 0 0 true [] [],[],rfl,rfl,by decide,by simp [zkg,sC,slI,AV.ren,renL,zac,zay],trivial,rfl,?_⟩
 rw [h]
 exact⟨0,0,[],[],rfl,by omega,by omega⟩
structure Going (l:List Nd) (p:Nat) (n:Nd) (mp:Bool) (k:Nat):Prop where
 le:k≤n.kids.toNat
 lo:p+1+k≤eAt l mp p k
 hi:eAt l mp p k≤l.length
 deep:dAt l mp p k+p≤l.length
 at':∀ j,j < k→eAt l mp p j < l.length
 q:zbn (vl l) l mp (n.kids.toNat - k) (zc3 mp k (keyT l mp p (k - 1))) (eAt l mp p k) (dAt l mp p k)=zbn (vl l) l mp n.kids.toNat none (p+1) 0
def kZ (l:List Nd) (mp:Bool) (p k:Nat):List Int:=(List.range k).map fun j=>((eAt l mp p j+bK mp:Nat):Int)
def sZ (l:List Nd) (mp:Bool) (p k:Nat):List Int:=if mp then (List.range k).map fun j=>((eAt l mp p j:Nat):Int) else []
theorem sZ_len (l:List Nd) (p k:Nat):(sZ l true p k).length=k:=by simp [sZ]
theorem sZ_get (l:List Nd) (p k j:Nat) (h:j < k):(sZ l true p k).getD j 0=((eAt l true p j:Nat):Int):=by simp [sZ,h]
theorem ia_slI {K:AV→Prop} (l:List Int) (n:Int):ia3 (some zaC) (slI l) n K=(0≤n∧n < l.length∧K (.rp ((l.map i64).drop n.toNat))):=ia_sl_i64 l n
theorem go_list {l:List Nd} {p:Nat} {n:Nd} {k:Nat} (hG:Going l p n false k) (hk:k < n.kids.toNat) {r:Nat × Nat} (hv:vl l (eAt l false p k)=some r):Going l p n false (k+1)∧eAt l false p (k+1)=r.1∧dAt l false p (k+1)=max (dAt l false p k) r.2:=by
 have he:eAt l false p (k+1)=r.1:=by simp [eAt,bK,zdD,hv]
 have hd:dAt l false p (k+1)=max (dAt l false p k) r.2:=by simp [dAt,bK,depAt,hv]
 have hr:=zaR hv
 have hdp:=vl_deep _ _ _ rfl hv
 have hq:=hG.q
 have hlo:=hG.lo
 have hdd:=hG.deep
 rw [show n.kids.toNat - k=(n.kids.toNat - (k+1))+1 by omega,zce,hv] at hq
 refine⟨⟨by omega,by omega,by omega,by omega,fun j hj=>?_,?_⟩,he,hd⟩
 ·by_cases e:j=k
  ·subst e;omega
  ·exact hG.at' j (by omega)
 ·rw [← hq,he,hd]
  simp [zc3]
theorem go_list_stop {l:List Nd} {p:Nat} {n:Nd} {k:Nat} (hG:Going l p n false k) (hk:k < n.kids.toNat) (hv:vl l (eAt l false p k)=none):zbn (vl l) l false n.kids.toNat none (p+1) 0=none:=by
 rw [← hG.q,show n.kids.toNat - k=(n.kids.toNat - (k+1))+1 by omega,zce,hv]
theorem go_map {l:List Nd} {p:Nat} {n:Nd} {k:Nat} (hG:Going l p n true k) (hk:k < n.kids.toNat) {m:Nd} (hm:zbh l (eAt l true p k)=some m) (hc:m.kind=3∧aftB (zc3 true k (keyT l true p (k - 1))) m.text=true) {r:Nat × Nat} (hv:vl l (eAt l true p k+1)=some r):Going l p n true (k+1)∧eAt l true p (k+1)=r.1∧dAt l true p (k+1)=max (dAt l true p k) r.2:=by
 have he:eAt l true p (k+1)=r.1:=by simp [eAt,bK,zdD,hv]
 have hd:dAt l true p (k+1)=max (dAt l true p k) r.2:=by simp [dAt,bK,depAt,hv]
 have hr:=zaR hv
 have hdp:=vl_deep _ _ _ rfl hv
 have hq:=hG.q
 have hlo:=hG.lo
 have hdd:=hG.deep
 have hkt:m.text=keyT l true p k:=by rw [keyT,zav hm]
 rw [show n.kids.toNat - k=(n.kids.toNat - (k+1))+1 by omega,zcH,hm] at hq
 dsimp only at hq
 rw [if_pos hc,hv] at hq
 refine⟨⟨by omega,by omega,by omega,by omega,fun j hj=>?_,?_⟩,he,hd⟩
 ·by_cases e:j=k
  ·subst e;omega
  ·exact hG.at' j (by omega)
 ·rw [← hq,he,hd]
  simp [zc3,hkt]
theorem zfO {l:List Nd} {p:Nat} {n:Nd} {k:Nat} (hG:Going l p n true k) (hk:k < n.kids.toNat) (h:∀ m,zbh l (eAt l true p k)=some m→m.kind=3∧aftB (zc3 true k (keyT l true p (k - 1))) m.text=true→vl l (eAt l true p k+1)=none):zbn (vl l) l true n.kids.toNat none (p+1) 0=none:=by
 rw [← hG.q,show n.kids.toNat - k=(n.kids.toNat - (k+1))+1 by omega,zcH]
 split
 ·rename_i m hm
  split
  ·rename_i hc
   rw [h m hm hc]
  ·rfl
 ·rfl
def goI (l:List Nd) (p:Nat) (n:Nd) (mp:Bool) (i:Nat × Option (Int × Int × List Int × List Int)):Prop:=match i.2 with
 | none=>Going l p n mp i.1
 | some x=>zbn (vl l) l mp n.kids.toNat none (p+1) 0=none∧i.1≤1100∧0≤x.2.1∧x.2.1≤130+((l.length - p:Nat):Int)
def goS (l:List Nd) (p:Nat) (mp:Bool) (i:Nat × Option (Int × Int × List Int × List Int)):zaa:=match i.2 with
 | none=>[.rw (sC 0 0 false (.lit (.slice none 0 0)) (.lit (.slice none 0 0))),.rw (sC (eAt l mp p i.1) (dAt l mp p i.1) false (slI (kZ l mp p i.1)) (slI (sZ l mp p i.1)))]
 | some x=>[.rw (sC 0 0 false (.lit (.slice none 0 0)) (.lit (.slice none 0 0))),.rw (sC x.1 x.2.1 true (slI x.2.2.1) (slI x.2.2.2))]
theorem kZ_succ (l:List Nd) (mp:Bool) (p k:Nat):kZ l mp p (k+1)=kZ l mp p k++[((eAt l mp p k+bK mp:Nat):Int)]:=by simp [kZ,List.range_succ]
theorem sZ_succ (l:List Nd) (p k:Nat):sZ l true p (k+1)=sZ l true p k++[((eAt l true p k:Nat):Int)]:=by simp [sZ,List.range_succ]
theorem frz_sC {σ:zaa} {e d:Int} {b:Bool} {k s k' s':AV} (h1:frzA σ k k') (h2:frzA σ s s'):frzL σ (sC e d b k s) (sC e d b k' s') :=
 ⟨_,_,rfl,.inl rfl,_,_,rfl,.inl rfl,_,_,rfl,.inl rfl,_,_,rfl,h1,_,_,rfl,h2,rfl⟩
theorem frz_niI {σ:zaa}:frzA σ (.lit (.slice none 0 0)) (slI []):=.inr ⟨rfl,rfl⟩
theorem frz_slI {σ:zaa} {l:List Int}:frzA σ (slI l) (slI l):=rfl
theorem zkc {σ:zaa} {id n:Nat} {l:List Int} (h:σ[id]?=some (.ro (l.map i64))) (hn:n=l.length):frzA σ (.ref id 0 n 1) (slI l):=by
 subst hn
 refine .inr ⟨_,h,by simp,?_⟩
 rw [List.drop_zero,List.take_of_length_le (by simp)]
 rfl
theorem zbr (q:List Nat) (e d:Int) (b:Bool) (k s:List Int):renL q (sC e d b (slI k) (slI s))=some (sC e d b (slI k) (slI s)):=by simp [sC,slI,renL,AV.ren,zcn,zac,zay]
theorem zcY (q:List Nat) (e d:Int) (b:Bool):renL q (sC e d b (.lit (.slice none 0 0)) (.lit (.slice none 0 0)))=some (sC e d b (.lit (.slice none 0 0)) (.lit (.slice none 0 0))):=by simp [sC,renL,AV.ren,zac,zay]
theorem goS_0 (l:List Nd) (p:Nat) (mp:Bool):goS l p mp (0,none)=[.rw (sC 0 0 false (.lit (.slice none 0 0)) (.lit (.slice none 0 0))),.rw (sC ((p:Int)+1) 0 false (slI []) (slI []))]:=by cases mp <;> rfl
theorem valQ_end {l : List Nd} {p : Nat} {e d : Int} {b : Bool} {k s : List Int} (h : valQ l p (.ret (zkg e d b k s)) []) {σ : zaa} : endQ 0 (.agg (sC e d b (slI k) (slI s))) σ (fun r σ' => valQ l p (.ret r) σ') :=
 zaF (by simp [sC,slI,AV.ren,renL,zcn,zac,zay]) h
theorem zhk {l:List Nd} {q:Nat} {y:AEnd} {σ:zaa} (h:valQ l q y σ):∃ e d b ks ss,y=.ret (.agg (sC e d b (slI ks) (slI ss)))∧σ=[]∧0≤d∧d≤131+((l.length - q:Nat):Int)∧((b=false∧∃ r,vl l q=some r∧e=(r.1:Int)∧d=(r.2:Int))∨(b=true∧vl l q=none)):=by
 obtain⟨rfl,h⟩:=h
 cases hv:vl l q with
 | some r =>
  rw [hv] at h
  have h1:=vl_deep _ _ _ rfl hv
  have h2:=zaR hv
  exact⟨_,_,_,_,_,h,rfl,by omega,by omega,.inl ⟨rfl,r,rfl,rfl,rfl⟩⟩
 | none =>
  rw [hv] at h
  obtain⟨e,d,ks,ss,rfl,h1,h2⟩:=h
  exact⟨_,_,_,_,_,rfl,rfl,h1,h2,.inr ⟨rfl,rfl⟩⟩
theorem zbw (e d:Int) (b:Bool) (k s:List Int) (q:List Nat):(AV.agg (sC e d b (slI k) (slI s))).ren q=some (.agg (sC e d b (slI k) (slI s))):=by simp [sC,slI,AV.ren,renL,zcn,zac,zay]
def appT:Tr:=(.br 0 (.br 1 (.br 2 (.br 3 (.br 4 (.br 5 (.br 6 (.br 7 (.br 8 (.br 9 .done .nil) .nil) .nil) .nil) .nil) .nil) (.br 4 (.br 3 (.br 5 (.br 6 (.br 7 (.br 8 (.br 9 .done .nil) .nil) .nil) .nil) .nil) (.br 5 (.br 3 (.br 6 (.br 7 (.br 8 (.br 9 .done .nil) .nil) .nil) .nil) (.br 6 (.br 3 (.br 7 (.br 8 (.br 9 .done .nil) .nil) .nil) .nil) .nil)) .nil)) .nil)) (.br 4 (.br 2 (.br 3 (.br 5 (.br 6 (.br 7 (.br 8 (.br 9 .done .nil) .nil) .nil) .nil) .nil) (.br 5 (.br 3 (.br 6 (.br 7 (.br 8 (.br 9 .done .nil) .nil) .nil) .nil) (.br 6 (.br 3 (.br 7 (.br 8 (.br 9 .done .nil) .nil) .nil) .nil) .nil)) .nil)) (.br 5 (.br 2 (.br 3 (.br 6 (.br 7 (.br 8 (.br 9 .done .nil) .nil) .nil) .nil) (.br 6 (.br 3 (.br 7 (.br 8 (.br 9 .done .nil) .nil) .nil) .nil) .nil)) (.br 6 (.br 2 (.br 3 (.br 7 (.br 8 (.br 9 .done .nil) .nil) .nil) .nil) .nil) .nil)) .nil)) .nil)) (.br 4 (.br 1 (.br 2 (.br 3 (.br 5 (.br 6 (.br 7 (.br 8 (.br 9 .done .nil) .nil) .nil) .nil) .nil) (.br 5 (.br 3 (.br 6 (.br 7 (.br 8 (.br 9 .done .nil) .nil) .nil) .nil) (.br 6 (.br 3 (.br 7 (.br 8 (.br 9 .done .nil) .nil) .nil) .nil) .nil)) .nil)) (.br 5 (.br 2 (.br 3 (.br 6 (.br 7 (.br 8 (.br 9 .done .nil) .nil) .nil) .nil) (.br 6 (.br 3 (.br 7 (.br 8 (.br 9 .done .nil) .nil) .nil) .nil) .nil)) (.br 6 (.br 2 (.br 3 (.br 7 (.br 8 (.br 9 .done .nil) .nil) .nil) .nil) .nil) .nil)) .nil)) (.br 5 (.br 1 (.br 2 (.br 3 (.br 6 (.br 7 (.br 8 (.br 9 .done .nil) .nil) .nil) .nil) (.br 6 (.br 3 (.br 7 (.br 8 (.br 9 .done .nil) .nil) .nil) .nil) .nil)) (.br 6 (.br 2 (.br 3 (.br 7 (.br 8 (.br 9 .done .nil) .nil) .nil) .nil) .nil) .nil)) (.br 6 (.br 1 (.br 2 (.br 3 (.br 7 (.br 8 (.br 9 .done .nil) .nil) .nil) .nil) .nil) .nil) .nil)) .nil)) .nil)) (.br 1 (.br 0 (.br 2 (.br 3 (.br 4 (.br 5 (.br 6 (.br 7 (.br 8 (.br 9 .done .nil) .nil) .nil) .nil) .nil) .nil) (.br 4 (.br 3 (.br 5 (.br 6 (.br 7 (.br 8 (.br 9 .done .nil) .nil) .nil) .nil) .nil) (.br 5 (.br 3 (.br 6 (.br 7 (.br 8 (.br 9 .done .nil) .nil) .nil) .nil) (.br 6 (.br 3 (.br 7 (.br 8 (.br 9 .done .nil) .nil) .nil) .nil) .nil)) .nil)) .nil)) (.br 4 (.br 2 (.br 3 (.br 5 (.br 6 (.br 7 (.br 8 (.br 9 .done .nil) .nil) .nil) .nil) .nil) (.br 5 (.br 3 (.br 6 (.br 7 (.br 8 (.br 9 .done .nil) .nil) .nil) .nil) (.br 6 (.br 3 (.br 7 (.br 8 (.br 9 .done .nil) .nil) .nil) .nil) .nil)) .nil)) (.br 5 (.br 2 (.br 3 (.br 6 (.br 7 (.br 8 (.br 9 .done .nil) .nil) .nil) .nil) (.br 6 (.br 3 (.br 7 (.br 8 (.br 9 .done .nil) .nil) .nil) .nil) .nil)) (.br 6 (.br 2 (.br 3 (.br 7 (.br 8 (.br 9 .done .nil) .nil) .nil) .nil) .nil) .nil)) .nil)) .nil)) (.br 2 (.br 0 (.br 3 (.br 4 (.br 5 (.br 6 (.br 7 (.br 8 (.br 9 .done .nil) .nil) .nil) .nil) .nil) .nil) (.br 4 (.br 3 (.br 5 (.br 6 (.br 7 (.br 8 (.br 9 .done .nil) .nil) .nil) .nil) .nil) (.br 5 (.br 3 (.br 6 (.br 7 (.br 8 (.br 9 .done .nil) .nil) .nil) .nil) (.br 6 (.br 3 (.br 7 (.br 8 (.br 9 .done .nil) .nil) .nil) .nil) .nil)) .nil)) .nil)) (.br 4 (.br 0 (.br 3 (.br 5 (.br 6 (.br 7 (.br 8 (.br 9 .done .nil) .nil) .nil) .nil) .nil) (.br 5 (.br 3 (.br 6 (.br 7 (.br 8 (.br 9 .done .nil) .nil) .nil) .nil) (.br 6 (.br 3 (.br 7 (.br 8 (.br 9 .done .nil) .nil) .nil) .nil) .nil)) .nil)) (.br 5 (.br 0 (.br 3 (.br 6 (.br 7 (.br 8 (.br 9 .done .nil) .nil) .nil) .nil) (.br 6 (.br 3 (.br 7 (.br 8 (.br 9 .done .nil) .nil) .nil) .nil) .nil)) (.br 6 (.br 0 (.br 3 (.br 7 (.br 8 (.br 9 .done .nil) .nil) .nil) .nil) .nil) .nil)) .nil)) .nil)) (.br 4 (.br 0 (.br 2 (.br 3 (.br 5 (.br 6 (.br 7 (.br 8 (.br 9 .done .nil) .nil) .nil) .nil) .nil) (.br 5 (.br 3 (.br 6 (.br 7 (.br 8 (.br 9 .done .nil) .nil) .nil) .nil) (.br 6 (.br 3 (.br 7 (.br 8 (.br 9 .done .nil) .nil) .nil) .nil) .nil)) .nil)) (.br 5 (.br 2 (.br 3 (.br 6 (.br 7 (.br 8 (.br 9 .done .nil) .nil) .nil) .nil) (.br 6 (.br 3 (.br 7 (.br 8 (.br 9 .done .nil) .nil) .nil) .nil) .nil)) (.br 6 (.br 2 (.br 3 (.br 7 (.br 8 (.br 9 .done .nil) .nil) .nil) .nil) .nil) .nil)) .nil)) (.br 2 (.br 0 (.br 3 (.br 5 (.br 6 (.br 7 (.br 8 (.br 9 .done .nil) .nil) .nil) .nil) .nil) (.br 5 (.br 3 (.br 6 (.br 7 (.br 8 (.br 9 .done .nil) .nil) .nil) .nil) (.br 6 (.br 3 (.br 7 (.br 8 (.br 9 .done .nil) .nil) .nil) .nil) .nil)) .nil)) (.br 5 (.br 0 (.br 3 (.br 6 (.br 7 (.br 8 (.br 9 .done .nil) .nil) .nil) .nil) (.br 6 (.br 3 (.br 7 (.br 8 (.br 9 .done .nil) .nil) .nil) .nil) .nil)) (.br 6 (.br 0 (.br 3 (.br 7 (.br 8 (.br 9 .done .nil) .nil) .nil) .nil) .nil) .nil)) .nil)) (.br 5 (.br 0 (.br 2 (.br 3 (.br 6 (.br 7 (.br 8 (.br 9 .done .nil) .nil) .nil) .nil) (.br 6 (.br 3 (.br 7 (.br 8 (.br 9 .done .nil) .nil) .nil) .nil) .nil)) (.br 6 (.br 2 (.br 3 (.br 7 (.br 8 (.br 9 .done .nil) .nil) .nil) .nil) .nil) .nil)) (.br 2 (.br 0 (.br 3 (.br 6 (.br 7 (.br 8 (.br 9 .done .nil) .nil) .nil) .nil) (.br 6 (.br 3 (.br 7 (.br 8 (.br 9 .done .nil) .nil) .nil) .nil) .nil)) (.br 6 (.br 0 (.br 3 (.br 7 (.br 8 (.br 9 .done .nil) .nil) .nil) .nil) .nil) .nil)) (.br 6 (.br 0 (.br 2 (.br 3 (.br 7 (.br 8 (.br 9 .done .nil) .nil) .nil) .nil) .nil) (.br 2 (.br 0 (.br 3 (.br 7 (.br 8 (.br 9 .done .nil) .nil) .nil) .nil) .nil) .nil)) .nil))) .nil))) .nil))) (.br 4 (.br 0 (.br 1 (.br 2 (.br 3 (.br 5 (.br 6 (.br 7 (.br 8 (.br 9 .done .nil) .nil) .nil) .nil) .nil) (.br 5 (.br 3 (.br 6 (.br 7 (.br 8 (.br 9 .done .nil) .nil) .nil) .nil) (.br 6 (.br 3 (.br 7 (.br 8 (.br 9 .done .nil) .nil) .nil) .nil) .nil)) .nil)) (.br 5 (.br 2 (.br 3 (.br 6 (.br 7 (.br 8 (.br 9 .done .nil) .nil) .nil) .nil) (.br 6 (.br 3 (.br 7 (.br 8 (.br 9 .done .nil) .nil) .nil) .nil) .nil)) (.br 6 (.br 2 (.br 3 (.br 7 (.br 8 (.br 9 .done .nil) .nil) .nil) .nil) .nil) .nil)) .nil)) (.br 5 (.br 1 (.br 2 (.br 3 (.br 6 (.br 7 (.br 8 (.br 9 .done .nil) .nil) .nil) .nil) (.br 6 (.br 3 (.br 7 (.br 8 (.br 9 .done .nil) .nil) .nil) .nil) .nil)) (.br 6 (.br 2 (.br 3 (.br 7 (.br 8 (.br 9 .done .nil) .nil) .nil) .nil) .nil) .nil)) (.br 6 (.br 1 (.br 2 (.br 3 (.br 7 (.br 8 (.br 9 .done .nil) .nil) .nil) .nil) .nil) .nil) .nil)) .nil)) (.br 1 (.br 0 (.br 2 (.br 3 (.br 5 (.br 6 (.br 7 (.br 8 (.br 9 .done .nil) .nil) .nil) .nil) .nil) (.br 5 (.br 3 (.br 6 (.br 7 (.br 8 (.br 9 .done .nil) .nil) .nil) .nil) (.br 6 (.br 3 (.br 7 (.br 8 (.br 9 .done .nil) .nil) .nil) .nil) .nil)) .nil)) (.br 5 (.br 2 (.br 3 (.br 6 (.br 7 (.br 8 (.br 9 .done .nil) .nil) .nil) .nil) (.br 6 (.br 3 (.br 7 (.br 8 (.br 9 .done .nil) .nil) .nil) .nil) .nil)) (.br 6 (.br 2 (.br 3 (.br 7 (.br 8 (.br 9 .done .nil) .nil) .nil) .nil) .nil) .nil)) .nil)) (.br 2 (.br 0 (.br 3 (.br 5 (.br 6 (.br 7 (.br 8 (.br 9 .done .nil) .nil) .nil) .nil) .nil) (.br 5 (.br 3 (.br 6 (.br 7 (.br 8 (.br 9 .done .nil) .nil) .nil) .nil) (.br 6 (.br 3 (.br 7 (.br 8 (.br 9 .done .nil) .nil) .nil) .nil) .nil)) .nil)) (.br 5 (.br 0 (.br 3 (.br 6 (.br 7 (.br 8 (.br 9 .done .nil) .nil) .nil) .nil) (.br 6 (.br 3 (.br 7 (.br 8 (.br 9 .done .nil) .nil) .nil) .nil) .nil)) (.br 6 (.br 0 (.br 3 (.br 7 (.br 8 (.br 9 .done .nil) .nil) .nil) .nil) .nil) .nil)) .nil)) (.br 5 (.br 0 (.br 2 (.br 3 (.br 6 (.br 7 (.br 8 (.br 9 .done .nil) .nil) .nil) .nil) (.br 6 (.br 3 (.br 7 (.br 8 (.br 9 .done .nil) .nil) .nil) .nil) .nil)) (.br 6 (.br 2 (.br 3 (.br 7 (.br 8 (.br 9 .done .nil) .nil) .nil) .nil) .nil) .nil)) (.br 2 (.br 0 (.br 3 (.br 6 (.br 7 (.br 8 (.br 9 .done .nil) .nil) .nil) .nil) (.br 6 (.br 3 (.br 7 (.br 8 (.br 9 .done .nil) .nil) .nil) .nil) .nil)) (.br 6 (.br 0 (.br 3 (.br 7 (.br 8 (.br 9 .done .nil) .nil) .nil) .nil) .nil) .nil)) (.br 6 (.br 0 (.br 2 (.br 3 (.br 7 (.br 8 (.br 9 .done .nil) .nil) .nil) .nil) .nil) (.br 2 (.br 0 (.br 3 (.br 7 (.br 8 (.br 9 .done .nil) .nil) .nil) .nil) .nil) .nil)) .nil))) .nil))) (.br 5 (.br 0 (.br 1 (.br 2 (.br 3 (.br 6 (.br 7 (.br 8 (.br 9 .done .nil) .nil) .nil) .nil) (.br 6 (.br 3 (.br 7 (.br 8 (.br 9 .done .nil) .nil) .nil) .nil) .nil)) (.br 6 (.br 2 (.br 3 (.br 7 (.br 8 (.br 9 .done .nil) .nil) .nil) .nil) .nil) .nil)) (.br 6 (.br 1 (.br 2 (.br 3 (.br 7 (.br 8 (.br 9 .done .nil) .nil) .nil) .nil) .nil) .nil) .nil)) (.br 1 (.br 0 (.br 2 (.br 3 (.br 6 (.br 7 (.br 8 (.br 9 .done .nil) .nil) .nil) .nil) (.br 6 (.br 3 (.br 7 (.br 8 (.br 9 .done .nil) .nil) .nil) .nil) .nil)) (.br 6 (.br 2 (.br 3 (.br 7 (.br 8 (.br 9 .done .nil) .nil) .nil) .nil) .nil) .nil)) (.br 2 (.br 0 (.br 3 (.br 6 (.br 7 (.br 8 (.br 9 .done .nil) .nil) .nil) .nil) (.br 6 (.br 3 (.br 7 (.br 8 (.br 9 .done .nil) .nil) .nil) .nil) .nil)) (.br 6 (.br 0 (.br 3 (.br 7 (.br 8 (.br 9 .done .nil) .nil) .nil) .nil) .nil) .nil)) (.br 6 (.br 0 (.br 2 (.br 3 (.br 7 (.br 8 (.br 9 .done .nil) .nil) .nil) .nil) .nil) (.br 2 (.br 0 (.br 3 (.br 7 (.br 8 (.br 9 .done .nil) .nil) .nil) .nil) .nil) .nil)) .nil))) (.br 6 (.br 0 (.br 1 (.br 2 (.br 3 (.br 7 (.br 8 (.br 9 .done .nil) .nil) .nil) .nil) .nil) .nil) (.br 1 (.br 0 (.br 2 (.br 3 (.br 7 (.br 8 (.br 9 .done .nil) .nil) .nil) .nil) .nil) (.br 2 (.br 0 (.br 3 (.br 7 (.br 8 (.br 9 .done .nil) .nil) .nil) .nil) .nil) .nil)) .nil)) .nil))) .nil))) .nil)))
set_option maxHeartbeats 16000000 in
set_option maxRecDepth 20000 in
theorem Value_ok (l:List Nd) (hl:l.length≤1000):∀ (m p:Nat),l.length - p=m→p≤l.length→ACalls Tryz.prog 64 [.sl (l.flatMap nC) l.length,i64 p] [] (valQ l p):=by
 intro m
 induction m using Nat.strongRecOn with
 | _ m ih =>
  intro p hm hp
  refine ACalls.body T_ok Tryz.func64 (by kernel_rfl) rfl Tryz.ntmps64 (congrArg Array.toList Tryz.results64) ?_
  refine aQ40 ?_
  by_cases hlt:p < l.length
  rotate_left
  ·have hno:vl l p=none:=by
    rw [vl_eq,List.getElem?_eq_none (by omega)]
   rw [decide_eq_false (by omega:¬ (p:Int) < 0)]
   refine aQ40 ?_
   rw [decide_eq_true (by omega:(l.length:Int)≤p)]
   refine aQ40 ?_
   exact zfd hno
  ·rw [decide_eq_false (by omega:¬ (p:Int) < 0)]
   refine aQ40 ?_
   rw [decide_eq_false (by omega:¬ (l.length:Int)≤p)]
   refine aQ40 ?_
   repeat (with_reducible refine zbg ?_)
   refine(plain_ok (l.getD p n0d)).pure (by simp [renL,ziV]) ?_
   rintro _ σ rfl
   refine⟨zay _ _,?_⟩
   cases hal:zb3 (l.getD p n0d) with
   | false =>
    refine aQ40 ?_
    have hno:vl l p=none:=by
     rw [zdy,zbh,List.getElem?_eq_getElem hlt]
     rw [List.getD_eq_getElem?_getD,List.getElem?_eq_getElem hlt] at hal
     simp only [Option.getD_some] at hal
     simp [hal]
    exact zfd hno
   | true =>
    obtain⟨n,hn⟩:∃ n,l.getD p n0d=n:=⟨_,rfl⟩
    rw [hn] at hal
    have hnp:zbh l p=some n:=by
     rw [List.getD_eq_getElem?_getD,List.getElem?_eq_getElem hlt] at hn
     rw [zbh,List.getElem?_eq_getElem hlt]
     simp only [Option.getD_some] at hn
     simp [hn,hal]
    refine aQ40 ?_
    repeat (with_reducible refine zbg ?_)
    obtain⟨mp,hmp⟩:∃ mp,mp=decide (n.kind=5):=⟨_,rfl⟩
    have hvQ:vl l p=(zbn (vl l) l mp n.kids.toNat none (p+1) 0).map fun r=>(r.1,r.2+1):=by rw [zdy,hnp,hmp]
    rw [zaK]
    refine⟨Nat × Option (Int × Int × List Int × List Int),goI l p n mp,fun i=>[.sl (l.flatMap nC) l.length,i64 p,.bot,.bot,.ptr 0 0,.ptr 1 0,i64 i.1,.bot,.bot,.bot,.bot,.bot,.bot,.bot,.bot,.bot,.bot,.bot,.bot,.bot,.bot,.bot,.bot,.bot,.bot,.bot,.bot,.bot,.bot,.bot,.bot,.bot,.bot,.bot,.bot,.bot,.bot,.bot,.bot,.bot,.bot,.bot,.bot,.bot,.bot,.bot,.bot,.bot,.bot,.bot,.bot,.bot,.bot,.bot,.bot,.bot,.bot,.bot,.bot,.bot,.bot,.bot,.bot,.bot,.bot,.bot,.bot,.bot,.bot,.bot,.bot,.bot,.bot,.bot,.bot,.bot,.bot,.bot,.bot,.bot,.bot,.bot,.bot,.bot,.bot,.bot,.bot,.bot,.bot,.bot,.bot,.bot,.bot,.bot,.bot,.bot,.bot,.bot,.bot,.bot,.bot,.bot,.bot,.bot,.bot,.bot,.bot,.bot,.bot,.bot,.bot,.bot,.bot,.bot,.bot,.bot,.bot,.bot,.bot,.bot,.bot,.bot,.bot,.bot,.bot,.bot,.bot,.bot,.bot,.bot,.bot,.bot,.bot,.bot,.bot],goS l p mp,fun i=>match i.2 with | none=>n.kids.toNat+1 - i.1 | some _=>0,(0,none),⟨Nat.zero_le _,by simp [eAt],by simp only [eAt];omega,by simp only [dAt];omega,fun j h=>absurd h (by omega),?_⟩,?_,?_⟩
    ·simp [zc3,eAt,dAt]
    ·refine zf1 1 rfl (frz_sC frz_niI frz_niI) ?_
     refine zab (q:=[0,1]) rfl rfl (by decide) ?_ ?_
     ·refine aQ18 ?_
      exact⟨by simp [zai],.inr rfl⟩
     ·rw [goS_0]
      simp [zaw,zar,zbr,zcY]
    ·rintro⟨k,x⟩ hI
     cases x with
     | some x =>
      obtain⟨e,d,K,S⟩:=x
      obtain⟨g1,g2,g3,g4⟩:=hI
      dsimp only [goS] at g1 g2 g3 g4 ⊢
      refine aQ40 ?_
      refine⟨by omega,by omega,by omega,hlt,?_⟩
      have hbad : ∀ σ : zaa, inI (d + 1) ∧ endQ 0 (.agg (sC e (d + 1) true (slI K) (slI S))) σ (fun r σ' => valQ l p (.ret r) σ') := fun σ => ⟨by unfold inI; omega, valQ_end ⟨rfl, by rw [hvQ, g1]; exact ⟨e, d + 1, K, S, rfl, by omega, by omega⟩⟩⟩
      rw [hn]
      by_cases hk:(k:Int) < n.kids
      ·rw [decide_eq_true hk]
       refine aQ40 ?_
       exact hbad _
      ·rw [decide_eq_false hk]
       refine aQ40 ?_
       exact hbad _
     | none =>
      have hG:Going l p n mp k:=hI
      dsimp only [goS]
      refine aQ40 ?_
      refine⟨by omega,by omega,by omega,hlt,?_⟩
      rw [hn]
      have hc:=zgH hal
      by_cases hk:(k:Int) < n.kids
      rotate_left
      ·have hkc:k=n.kids.toNat:=by have:=hG.le;omega
       rw [decide_eq_false hk]
       refine aQ40 ?_
       have hfin:vl l p=some (eAt l mp p k,dAt l mp p k+1):=by
        rw [hvQ,← hG.q,hkc,Nat.sub_self];rfl
       refine⟨by unfold inI;have:=hG.deep;omega,valQ_end ⟨rfl,?_⟩⟩
       rw [hfin,hn,← hkc]
       dsimp only
       rw [show kidZ l p k=kZ l mp p k by simp only [kidZ,kZ,hn,← hmp],show keyZ l p k=sZ l mp p k by rw [keyZ,sZ,hn,hmp];by_cases h5:n.kind=5 <;> simp [h5]]
       rfl
      ·rw [decide_eq_true hk]
       refine aQ40 ?_
       repeat (with_reducible refine zbg ?_)
       rw [hn]
       refine⟨fun h5=>?_,fun h5=>?_⟩
       ·have hmt:mp=true:=by rw [hmp,decide_eq_true h5]
        subst hmt
        have hgl:=hG.lo
        have hgh:=hG.hi
        have hnone:(∀ m,zbh l (eAt l true p k)=some m→m.kind=3∧aftB (zc3 true k (keyT l true p (k - 1))) m.text=true→vl l (eAt l true p k+1)=none)→vl l p=none:=fun h=>by
         rw [hvQ,zfO hG (by omega) h];rfl
        refine zcw (by kernel_rfl) (by kernel_rfl) ?_
        refine aQ40 ?_
        by_cases hE:l.length≤eAt l true p k
        ·rw [decide_eq_true (by omega:(l.length:Int)≤(eAt l true p k:Nat))]
         refine aQ40 ?_
         exact zfd (hnone fun m hm=>by have:=(za3 hm).1;omega)
        rw [decide_eq_false (by omega:¬ (l.length:Int)≤(eAt l true p k:Nat))]
        refine aQ40 ?_
        repeat (with_reducible refine zbg ?_)
        obtain⟨m,hm⟩:∃ m,l.getD (eAt l true p k) n0d=m:=⟨_,rfl⟩
        have hlm:l[eAt l true p k]?=some m:=by
         rw [List.getD_eq_getElem?_getD,List.getElem?_eq_getElem (by omega)] at hm
         rw [List.getElem?_eq_getElem (by omega)]
         simpa using hm
        rw [hm]
        by_cases h3:m.kind=3
        rotate_left
        ·rw [decide_eq_false h3]
         refine aQ40 ?_
         exact zfd (hnone fun x hx hc=>by
          have:=(za3 hx).2.1
          rw [hlm] at this
          cases this
          exact absurd hc.1 h3)
        rw [decide_eq_true h3]
        refine aQ40 ?_
        repeat (with_reducible refine zbg ?_)
        rw [hm]
        refine zcg (plain_ok m) (by simp [renL,ziV]) (zay _ _) ?_
        cases halm:zb3 m with
        | false =>
         refine aQ40 ?_
         exact zfd (hnone fun x hx hc=>by
          have hx2:=za3 hx
          rw [hlm] at hx2
          obtain⟨_,e,hx3⟩:=hx2
          cases e
          rw [halm] at hx3
          cases hx3)
        | true =>
         have hmn:zbh l (eAt l true p k)=some m:=by rw [zbh,hlm];simp [halm]
         refine aQ40 ?_
         by_cases hk0:0 < k
         ·rw [decide_eq_true (by omega:(0:Int) < (k:Nat))]
          refine aQ40 ?_
          have hsl0:=sZ_len l p k
          have hsg:=sZ_get l p k (k - 1) (by omega)
          have hat:=hG.at' (k - 1) (by omega)
          rw [show ((k:Int) - 1).toNat=k - 1 by omega,hsg,Int.toNat_natCast]
          refine⟨by unfold inI;omega,by omega,by omega,by omega,by omega,by omega,by omega,by omega,by omega,by omega,by omega,by omega,?_⟩
          rw [show (l.getD (eAt l true p (k - 1)) n0d).text=keyT l true p (k - 1) from rfl,hm]
          cases hls:Op.bytesLess (keyT l true p (k - 1)) m.text with
          | false =>
           refine aQ40 ?_
           exact zfd (hnone fun x hx hc=>by
            rw [hmn] at hx
            cases hx
            have hc2:=hc.2
            simp [zc3,hk0,aftB,leB_iff,hls] at hc2)
          | true =>
           have hca:m.kind=3∧aftB (zc3 true k (keyT l true p (k - 1))) m.text=true:=⟨h3,by simp [zc3,hk0,aftB,leB_iff,hls]⟩
           refine aQ40 ?_
           have hsl:=sZ_len l p k
           have hkz:(kZ l true p k).length=k:=by simp [kZ]
           refine⟨by omega,by omega,by omega,by omega,by unfold inI;omega,?_⟩
           rw [show ((eAt l true p k:Nat):Int)+1=((eAt l true p k+1:Nat):Int) by omega]
           refine(ih (l.length - (eAt l true p k+1)) (by omega) (eAt l true p k+1) rfl (by omega)).pure (zfJ _ _ _ _) ?_
           intro y σ hy
           obtain⟨e,d,b,ks,ss,rfl,rfl,d1,d2,hb⟩:=zhk hy
           refine⟨zbw _ _ _ _ _ _,?_⟩
           refine aQ40 ?_
           refine zjk appT ([.sl (l.flatMap nC) l.length,i64 p,.bot,.bot,.ptr 0 0,.ptr 1 0,i64 k,.bot,.ptr 2 0,.bot,.bot,.bot,.bot,.bot,.bot,.bot,.bot,.bot,.bot,.bot,.bot,.bot,.bot,.bot,.bot,.bot,.bot,.bot,.bot,.bot,.bot,.bot,.bot,.bot,.bot,.bot,.bot,.bot,.bot,.bot,.bot,.bot,.bot,.bot,.bot,.bot,.bot,.bot,.bot,.bot,.bot,.bot,.bot,.bot,.bot,.bot,.bot,.bot,.bot,.bot,.bot,.bot,.bot,.bot,.bot,.bot,.bot,.bot,.bot,.bot,.bot,.bot,.bot,.bot,.bot,.bot,.bot,.bot,.bot,.bot,.bot,.bot,.bot,.bot,.bot,.bot,.bot,.bot,.bot,.bot,.bot,.bot,.bot,.bot,.bot,.bot,.bot,.bot,.bot,.bot,.bot,.bot,.bot,.bot,.bot,.bot,.bot,.bot,.bot,.bot,.bot,.bot,.bot,.bot,.bot,.bot,.bot,.bot,.bot,.bot,.bot,.bot,.bot,.bot,.bot,.bot,.bot,.bot,.bot,.bot,.bot,.bot,.bot,.bot,.bot]) [.rw (sC 0 0 false (.lit (.slice none 0 0)) (.lit (.slice none 0 0))),.rw (sC ((eAt l true p k+1:Nat):Int) (dAt l true p k) false (slI (kZ l true p k++[((eAt l true p k+1:Nat):Int)])) (slI (sZ l true p k++[((eAt l true p k:Nat):Int)]))),.rw (sC e d b (slI ks) (slI ss))] (by kernel_rfl) (by kernel_rfl) ?_ ?_
           ·unfold appT
            refine aQ40 ?_
            repeat' (with_reducible refine And.intro ?_ ?_)
            all_goals try omega
            all_goals
             refine zhF 10 rfl ?_
             refine zhF 5 rfl ?_
             refine zf1 1 rfl (frz_sC (zkc (l:=kZ l true p k++[((eAt l true p k+1:Nat):Int)]) rfl (by simp)) (zkc (l:=sZ l true p k++[((eAt l true p k:Nat):Int)]) rfl (by simp))) ?_
             refine zab (q:=[0,1,6]) rfl rfl (by decide) ?_ ?_
            all_goals
             first|exact aQ18 trivial|refine aQ18 ?_
            all_goals simp [zaw,zar,zbr,zcY,zai,AV.ren,renL]
           ·refine aQ40 ?_
            repeat (with_reducible refine zbg ?_)
            rw [zad]
            rcases hb with ⟨rfl,r,hv,rfl,rfl⟩ | ⟨rfl,hv⟩
            ·obtain⟨g1,g2,g3⟩:=go_map hG (by omega) hmn hca hv
             refine⟨(k+1,none),g1,(by show n.kids.toNat+1 - (k+1) < n.kids.toNat+1 - k;omega),?_⟩
             dsimp only [goS]
             rw [kZ_succ,sZ_succ,g2,g3,show bK true=1 from rfl,show ((max (dAt l true p k) r.2:Nat):Int)=max (dAt l true p k:Int) r.2 by omega,show ((k+1:Nat):Int)=(k:Int)+1 by omega]
             refine zab (q:=[0,1]) rfl rfl (by decide) ?_ ?_
             ·refine aQ18 ?_
              simp [zai]
             ·simp [zaw,zar,zbr,zcY]
            ·refine⟨(k+1,some (e,max (dAt l true p k:Int) d,kZ l true p k++[((eAt l true p k+1:Nat):Int)],sZ l true p k++[((eAt l true p k:Nat):Int)])),⟨zfO hG (by omega) (fun _ _ _=>hv),by omega,by dsimp only;omega,by have:=hG.deep;have:=hG.lo;dsimp only;omega⟩,(by show 0 < n.kids.toNat+1 - k;omega),?_⟩
             dsimp only [goS]
             rw [show ((k+1:Nat):Int)=(k:Int)+1 by omega]
             refine zab (q:=[0,1]) rfl rfl (by decide) ?_ ?_
             ·refine aQ18 ?_
              simp [zai]
             ·simp [zaw,zar,zbr,zcY]
         ·rw [decide_eq_false (by omega:¬ (0:Int) < (k:Nat))]
          refine aQ40 ?_
          have hca:m.kind=3∧aftB (zc3 true k (keyT l true p (k - 1))) m.text=true:=⟨h3,by simp [zc3,hk0,aftB]⟩
          have hsl:=sZ_len l p k
          have hkz:(kZ l true p k).length=k:=by simp [kZ]
          refine⟨by omega,by omega,by omega,by omega,by unfold inI;omega,?_⟩
          rw [show ((eAt l true p k:Nat):Int)+1=((eAt l true p k+1:Nat):Int) by omega]
          refine(ih (l.length - (eAt l true p k+1)) (by omega) (eAt l true p k+1) rfl (by omega)).pure (zfJ _ _ _ _) ?_
          intro y σ hy
          obtain⟨e,d,b,ks,ss,rfl,rfl,d1,d2,hb⟩:=zhk hy
          refine⟨zbw _ _ _ _ _ _,?_⟩
          refine aQ40 ?_
          refine zjk appT ([.sl (l.flatMap nC) l.length,i64 p,.bot,.bot,.ptr 0 0,.ptr 1 0,i64 k,.bot,.ptr 2 0,.bot,.bot,.bot,.bot,.bot,.bot,.bot,.bot,.bot,.bot,.bot,.bot,.bot,.bot,.bot,.bot,.bot,.bot,.bot,.bot,.bot,.bot,.bot,.bot,.bot,.bot,.bot,.bot,.bot,.bot,.bot,.bot,.bot,.bot,.bot,.bot,.bot,.bot,.bot,.bot,.bot,.bot,.bot,.bot,.bot,.bot,.bot,.bot,.bot,.bot,.bot,.bot,.bot,.bot,.bot,.bot,.bot,.bot,.bot,.bot,.bot,.bot,.bot,.bot,.bot,.bot,.bot,.bot,.bot,.bot,.bot,.bot,.bot,.bot,.bot,.bot,.bot,.bot,.bot,.bot,.bot,.bot,.bot,.bot,.bot,.bot,.bot,.bot,.bot,.bot,.bot,.bot,.bot,.bot,.bot,.bot,.bot,.bot,.bot,.bot,.bot,.bot,.bot,.bot,.bot,.bot,.bot,.bot,.bot,.bot,.bot,.bot,.bot,.bot,.bot,.bot,.bot,.bot,.bot,.bot,.bot,.bot,.bot,.bot,.bot,.bot]) [.rw (sC 0 0 false (.lit (.slice none 0 0)) (.lit (.slice none 0 0))),.rw (sC ((eAt l true p k+1:Nat):Int) (dAt l true p k) false (slI (kZ l true p k++[((eAt l true p k+1:Nat):Int)])) (slI (sZ l true p k++[((eAt l true p k:Nat):Int)]))),.rw (sC e d b (slI ks) (slI ss))] (by kernel_rfl) (by kernel_rfl) ?_ ?_
          ·unfold appT
           refine aQ40 ?_
           repeat' (with_reducible refine And.intro ?_ ?_)
           all_goals try omega
           all_goals
            refine zhF 10 rfl ?_
            refine zhF 5 rfl ?_
            refine zf1 1 rfl (frz_sC (zkc (l:=kZ l true p k++[((eAt l true p k+1:Nat):Int)]) rfl (by simp)) (zkc (l:=sZ l true p k++[((eAt l true p k:Nat):Int)]) rfl (by simp))) ?_
            refine zab (q:=[0,1,6]) rfl rfl (by decide) ?_ ?_
           all_goals
            first|exact aQ18 trivial|refine aQ18 ?_
           all_goals simp [zaw,zar,zbr,zcY,zai,AV.ren,renL]
          ·refine aQ40 ?_
           repeat (with_reducible refine zbg ?_)
           rw [zad]
           rcases hb with ⟨rfl,r,hv,rfl,rfl⟩ | ⟨rfl,hv⟩
           ·obtain⟨g1,g2,g3⟩:=go_map hG (by omega) hmn hca hv
            refine⟨(k+1,none),g1,(by show n.kids.toNat+1 - (k+1) < n.kids.toNat+1 - k;omega),?_⟩
            dsimp only [goS]
            rw [kZ_succ,sZ_succ,g2,g3,show bK true=1 from rfl,show ((max (dAt l true p k) r.2:Nat):Int)=max (dAt l true p k:Int) r.2 by omega,show ((k+1:Nat):Int)=(k:Int)+1 by omega]
            refine zab (q:=[0,1]) rfl rfl (by decide) ?_ ?_
            ·refine aQ18 ?_
             simp [zai]
            ·simp [zaw,zar,zbr,zcY]
           ·refine⟨(k+1,some (e,max (dAt l true p k:Int) d,kZ l true p k++[((eAt l true p k+1:Nat):Int)],sZ l true p k++[((eAt l true p k:Nat):Int)])),⟨zfO hG (by omega) (fun _ _ _=>hv),by omega,by dsimp only;omega,by have:=hG.deep;have:=hG.lo;dsimp only;omega⟩,(by show 0 < n.kids.toNat+1 - k;omega),?_⟩
            dsimp only [goS]
            rw [show ((k+1:Nat):Int)=(k:Int)+1 by omega]
            refine zab (q:=[0,1]) rfl rfl (by decide) ?_ ?_
            ·refine aQ18 ?_
             simp [zai]
            ·simp [zaw,zar,zbr,zcY]
       ·refine aQ40 ?_
        have hlo:=hG.lo
        refine(ih (l.length - eAt l mp p k) (by omega) (eAt l mp p k) rfl hG.hi).pure (zfJ _ _ _ _) ?_
        intro y σ hy
        obtain⟨e,d,b,ks,ss,rfl,rfl,d1,d2,hb⟩:=zhk hy
        refine⟨zbw _ _ _ _ _ _,?_⟩
        refine aQ40 ?_
        have hgl:=hG.lo
        have hgh:=hG.hi
        refine zjk appT ([.sl (l.flatMap nC) l.length,i64 p,.bot,.bot,.ptr 0 0,.ptr 1 0,i64 k,.bot,.ptr 2 0,.bot,.bot,.bot,.bot,.bot,.bot,.bot,.bot,.bot,.bot,.bot,.bot,.bot,.bot,.bot,.bot,.bot,.bot,.bot,.bot,.bot,.bot,.bot,.bot,.bot,.bot,.bot,.bot,.bot,.bot,.bot,.bot,.bot,.bot,.bot,.bot,.bot,.bot,.bot,.bot,.bot,.bot,.bot,.bot,.bot,.bot,.bot,.bot,.bot,.bot,.bot,.bot,.bot,.bot,.bot,.bot,.bot,.bot,.bot,.bot,.bot,.bot,.bot,.bot,.bot,.bot,.bot,.bot,.bot,.bot,.bot,.bot,.bot,.bot,.bot,.bot,.bot,.bot,.bot,.bot,.bot,.bot,.bot,.bot,.bot,.bot,.bot,.bot,.bot,.bot,.bot,.bot,.bot,.bot,.bot,.bot,.bot,.bot,.bot,.bot,.bot,.bot,.bot,.bot,.bot,.bot,.bot,.bot,.bot,.bot,.bot,.bot,.bot,.bot,.bot,.bot,.bot,.bot,.bot,.bot,.bot,.bot,.bot,.bot,.bot,.bot]) [.rw (sC 0 0 false (.lit (.slice none 0 0)) (.lit (.slice none 0 0))),.rw (sC (eAt l mp p k) (dAt l mp p k) false (slI (kZ l mp p k++[((eAt l mp p k:Nat):Int)])) (slI (sZ l mp p k))),.rw (sC e d b (slI ks) (slI ss))] (by kernel_rfl) (by kernel_rfl) ?_ ?_
        ·have hkz:(kZ l mp p k).length=k:=by simp [kZ]
         have hgl:=hG.lo
         have hgh:=hG.hi
         unfold appT
         refine aQ40 ?_
         repeat' (with_reducible refine And.intro ?_ ?_)
         all_goals try omega
         all_goals
          refine zhF 6 rfl ?_
          refine zf1 1 rfl (frz_sC (zkc (l:=kZ l mp p k++[((eAt l mp p k:Nat):Int)]) rfl (by simp)) frz_slI) ?_
          refine zab (q:=[0,1,2]) rfl rfl (by decide) ?_ ?_
         all_goals
          first|exact aQ18 trivial|refine aQ18 ?_
         all_goals simp [zaw,zar,zbr,zcY,zai,AV.ren,renL]
        ·refine aQ40 ?_
         repeat (with_reducible refine zbg ?_)
         have hbk:bK mp=0:=by rw [hmp,decide_eq_false h5];rfl
         have hmf:mp=false:=by rw [hmp,decide_eq_false h5]
         subst hmf
         rw [zad]
         rcases hb with ⟨rfl,r,hv,rfl,rfl⟩ | ⟨rfl,hv⟩
         ·obtain⟨g1,g2,g3⟩:=go_list hG (by omega) hv
          refine⟨(k+1,none),g1,(by show n.kids.toNat+1 - (k+1) < n.kids.toNat+1 - k;omega),?_⟩
          dsimp only [goS]
          rw [kZ_succ,g2,g3,hbk,Nat.add_zero,show ((max (dAt l false p k) r.2:Nat):Int)=max (dAt l false p k:Int) r.2 by omega,show ((k+1:Nat):Int)=(k:Int)+1 by omega]
          refine zab (q:=[0,1]) rfl rfl (by decide) ?_ ?_
          ·refine aQ18 ?_
           simp [zai]
          ·simp [zaw,zar,zbr,zcY,sZ]
         ·refine⟨(k+1,some (e,max (dAt l false p k:Int) d,kZ l false p k++[((eAt l false p k:Nat):Int)],sZ l false p k)),⟨go_list_stop hG (by omega) hv,by omega,by dsimp only;omega,by have:=hG.deep;have:=hG.lo;dsimp only;omega⟩,(by show 0 < n.kids.toNat+1 - k;omega),?_⟩
          dsimp only [goS]
          rw [show ((k+1:Nat):Int)=(k:Int)+1 by omega]
          refine zab (q:=[0,1]) rfl rfl (by decide) ?_ ?_
          ·refine aQ18 ?_
           simp [zai]
          ·simp [zaw,zar,zbr,zcY]
set_option linter.defProp false in
def LB14:=And.intro (fun {e} {d} {b} {k} {s} {K}=>@fl_s0 e d b k s K _ T113) (@ia_slI)
theorem fl_s1 {e d:Int} {b:Bool} {k s:AV} {K:AV→Prop} {t:TypeId} (ht:T t=some tySn):zc6 T t (.agg (sC e d b k s)) 1 K=K (i64 d):=by
 simp [zc6,ht,tySn,T3,zht,zaC,sC,TD.agg]
theorem fl_s3 {e d:Int} {b:Bool} {k s:AV} {K:AV→Prop} {t:TypeId} (ht:T t=some tySn):zc6 T t (.agg (sC e d b k s)) 3 K=K k:=by
 simp [zc6,ht,tySn,T31,zht,tySl,sC,TD.agg]
theorem Value_0 (l:List Nd) (hl:l.length≤1000):ACalls Tryz.prog 64 [.sl (l.flatMap nC) l.length,i64 0] [] (valQ l 0):=Value_ok l hl _ 0 rfl (Nat.zero_le _)
theorem ze0 (l:List Nd) (hl:l.length≤1000):ACalls Tryz.prog 32 [.sl (l.flatMap nC) l.length] [] (fun y _=>y=.ret (i64 (zau l))):=by
 refine ACalls.body T_ok Tryz.func32 (by kernel_rfl) rfl Tryz.ntmps32 (congrArg Array.toList Tryz.results32) ?_
 refine aQ41 ?_
 refine⟨fun h=>zap (by rw [zau,if_pos (.inl (by omega))]),fun h=>?_⟩
 rw [zaK]
 refine⟨Nat,fun k=>k≤l.length∧∀ j,j < k→(l.getD j n0d).text.length≤120,fun k=>[.sl (l.flatMap nC) l.length,.bot,i64 0,i64 k,.bot,.bot,.bot,.bot,.bot,.bot,.bot,.bot,.bot,.bot,.bot,.bot,.bot,.bot,.bot,.bot,.bot,.bot,.bot,.bot,.bot,.bot,.bot,.bot,.bot,.bot,.bot,.bot,.bot,.bot,.bot],fun _=>[],fun k=>l.length - k,0,⟨Nat.zero_le _,fun j h=>absurd h (by omega)⟩,zbI ?_,?_⟩
 ·refine aQ19 ?_
  try exact .inr rfl
 ·rintro k ⟨hk,hj⟩
  refine aQ41 ?_
  refine⟨fun hlt=>?_,fun hge=>?_⟩
  ·repeat (with_reducible refine zbg ?_)
   refine⟨fun hg=>?_,fun hg=>?_⟩
   ·refine aQ41 ?_
    have hl2:zck l=true:=by
     simp only [zck,List.any_eq_true,decide_eq_true_eq]
     refine⟨l.getD k n0d,?_,by omega⟩
     rw [List.getD_eq_getElem?_getD,List.getElem?_eq_getElem (by omega)]
     exact List.getElem_mem _
    exact zap (by rw [zau,if_pos (.inr hl2)])
   ·refine aQ41 ?_
    repeat (with_reducible refine zbg ?_)
    rw [zad]
    refine⟨k+1,⟨by omega,fun j h=>?_⟩,by (show l.length - (k+1) < l.length - k);omega,zbI ?_⟩
    ·by_cases e:j=k
     ·subst e;omega
     ·exact hj j (by omega)
    ·refine aQ19 ?_
     try exact .inr rfl
  ·obtain rfl:k=l.length:=by omega
   have hnl:zck l=false:=by
    simp only [zck,List.any_eq_false,decide_eq_true_eq]
    intro x hx
    obtain⟨j,hjl,rfl⟩:=List.getElem_of_mem hx
    have:=hj j hjl
    rw [List.getD_eq_getElem?_getD,List.getElem?_eq_getElem hjl] at this
    simpa using this
   have hno:¬ (120 < l.length∨zck l=true):=by rw [hnl];simp;omega
   refine aQ41 ?_
   refine(Value_0 l hl).pure (zfJ _ _ _ _) ?_
   intro y σ hy
   obtain⟨e,d,b,ks,ss,rfl,rfl,d1,d2,hb⟩:=zhk hy
   refine⟨zbw _ _ _ _ _ _,?_⟩
   refine aQ41 ?_
   rcases hb with ⟨rfl,r,hv,rfl,rfl⟩ | ⟨rfl,hv⟩
   ·refine aQ41 ?_
    refine⟨fun hne=>zap ?_,fun heq=>⟨fun hd=>zap ?_,fun hd=>zap ?_⟩⟩
    ·rw [zau,if_neg hno,hv]
     dsimp only
     rw [if_neg (by omega)]
    ·rw [zau,if_neg hno,hv]
     dsimp only
     rw [if_pos (by omega),if_pos (by omega)]
    ·rw [zau,if_neg hno,hv]
     dsimp only
     rw [if_pos (by omega),if_neg (by omega)]
   ·refine aQ41 ?_
    exact zap (by rw [zau,if_neg hno,hv])
theorem len_slI {K:AV→Prop} (e:TypeId) (l:List Int):len2 (some (tySl e)) (slI l) K=K (i64 l.length):=by simp [len2,slI,tySl,slen,i64]
def cmpI (a b:Int):Int:=if a < b then -1 else if b < a then 1 else 0
theorem nanI_ok (a:Int):ACalls Tryz.prog 132 [i64 a] [] (fun y _=>y=.ret (bl false)):=by
 refine ACalls.body T_ok Tryz.func132 (by kernel_rfl) rfl Tryz.ntmps132 (congrArg Array.toList Tryz.results132) ?_
 refine aQ23 ?_
 exact zaq (by simp)
theorem nanK_ok (a:Int):ACalls Tryz.prog 258 [i64 a] [] (fun y _=>y=.ret (bl false)):=by
 refine ACalls.body T_ok Tryz.func258 (by kernel_rfl) rfl Tryz.ntmps258 (congrArg Array.toList Tryz.results258) ?_
 refine aQ23 ?_
 exact zaq (by simp)
theorem nan64_ok (a:Int):ACalls Tryz.prog 259 [i64 a] [] (fun y _=>y=.ret (bl false)):=by
 refine ACalls.body T_ok Tryz.func259 (by kernel_rfl) rfl Tryz.ntmps259 (congrArg Array.toList Tryz.results259) ?_
 refine aQ23 ?_
 exact zaq (by simp)
theorem cmpI_ok (a b:Int):ACalls Tryz.prog 85 [i64 a,i64 b] [] (fun y _=>y=.ret (i64 (cmpI a b))):=by
 refine ACalls.body T_ok Tryz.func85 (by kernel_rfl) rfl Tryz.ntmps85 (congrArg Array.toList Tryz.results85) ?_
 refine aQ23 ?_
 refine(nanI_ok a).pure aQ1 ?_
 rintro _ σ rfl
 refine⟨by first | rfl | simp [AEnd.noid,AV.ren,renL,zcs,zam str zaj,zcO,zbY,zbt,zac,zay,zaj],?_⟩
 refine aQ23 ?_
 refine(nanI_ok b).pure aQ1 ?_
 rintro _ σ rfl
 refine⟨by first | rfl | simp [AEnd.noid,AV.ren,renL,zcs,zam str zaj,zcO,zbY,zbt,zac,zay,zaj],?_⟩
 refine aQ23 ?_
 refine⟨fun h=>zap (by rw [cmpI,if_pos h]),fun h=>⟨fun h2=>zap (by rw [cmpI,if_neg h,if_pos h2]),fun h2=>zap (by rw [cmpI,if_neg h,if_neg h2])⟩⟩
theorem cmpK_ok (a b:Int):ACalls Tryz.prog 238 [i64 a,i64 b] [] (fun y _=>y=.ret (i64 (cmpI a b))):=by
 refine ACalls.body T_ok Tryz.func238 (by kernel_rfl) rfl Tryz.ntmps238 (congrArg Array.toList Tryz.results238) ?_
 refine aQ23 ?_
 refine(nanK_ok a).pure aQ1 ?_
 rintro _ σ rfl
 refine⟨by first | rfl | simp [AEnd.noid,AV.ren,renL,zcs,zam str zaj,zcO,zbY,zbt,zac,zay,zaj],?_⟩
 refine aQ23 ?_
 refine(nanK_ok b).pure aQ1 ?_
 rintro _ σ rfl
 refine⟨by first | rfl | simp [AEnd.noid,AV.ren,renL,zcs,zam str zaj,zcO,zbY,zbt,zac,zay,zaj],?_⟩
 refine aQ23 ?_
 refine⟨fun h=>zap (by rw [cmpI,if_pos h]),fun h=>⟨fun h2=>zap (by rw [cmpI,if_neg h,if_pos h2]),fun h2=>zap (by rw [cmpI,if_neg h,if_neg h2])⟩⟩
theorem cmp64_ok (a b:Int):ACalls Tryz.prog 239 [i64 a,i64 b] [] (fun y _=>y=.ret (i64 (cmpI a b))):=by
 refine ACalls.body T_ok Tryz.func239 (by kernel_rfl) rfl Tryz.ntmps239 (congrArg Array.toList Tryz.results239) ?_
 refine aQ23 ?_
 refine(nan64_ok a).pure aQ1 ?_
 rintro _ σ rfl
 refine⟨by first | rfl | simp [AEnd.noid,AV.ren,renL,zcs,zam str zaj,zcO,zbY,zbt,zac,zay,zaj],?_⟩
 refine aQ23 ?_
 refine(nan64_ok b).pure aQ1 ?_
 rintro _ σ rfl
 refine⟨by first | rfl | simp [AEnd.noid,AV.ren,renL,zcs,zam str zaj,zcO,zbY,zbt,zac,zay,zaj],?_⟩
 refine aQ23 ?_
 refine⟨fun h=>zap (by rw [cmpI,if_pos h]),fun h=>⟨fun h2=>zap (by rw [cmpI,if_neg h,if_pos h2]),fun h2=>zap (by rw [cmpI,if_neg h,if_neg h2])⟩⟩
def zg3 (l:List Int):Int:=(l.find? fun x=>decide (x≠0)).getD 0
theorem orI_ok (l:List Int) (hl:l.length≤1000000):ACalls Tryz.prog 83 [.sl (l.map i64) l.length] [] (fun y _=>y=.ret (i64 (zg3 l))):=by
 refine ACalls.body T_ok Tryz.func83 (by kernel_rfl) rfl Tryz.ntmps83 (congrArg Array.toList Tryz.results83) ?_
 refine aQ23 ?_
 rw [zaK]
 refine⟨Nat,fun k=>k≤l.length∧∀ j,j < k→l.getD j 0=0,fun k=>[.sl (l.map i64) l.length,.bot,i64 0,i64 0,.bot,.bot,.sl (l.map i64) l.length,i64 l.length,i64 k,.bot,.bot,.bot,.bot,.bot,.bot,.bot,.bot,.bot],fun _=>[],fun k=>l.length - k,0,⟨Nat.zero_le _,fun j h=>absurd h (by omega)⟩,zbI ?_,?_⟩
 ·refine aQ19 ?_
  try exact .inr rfl
 ·rintro k ⟨hk,hj⟩
  refine aQ23 ?_
  refine⟨fun hlt=>?_,fun hge=>?_⟩
  ·repeat (with_reducible refine zbg ?_)
   have hz:∀ x∈l.take k,¬ (decide (x≠0)=true):=fun x hx=>by
    obtain⟨j,hjl,rfl⟩:=List.getElem_of_mem hx
    have:=hj j (by simp at hjl;omega)
    rw [List.getD_eq_getElem?_getD,List.getElem?_eq_getElem (by simp at hjl;omega)] at this
    simpa using this
   refine⟨fun hne=>zap ?_,fun heq=>?_⟩
   · have hg : l.getD k 0 = l[k]'(by omega) := by rw [List.getD_eq_getElem?_getD, List.getElem?_eq_getElem (by omega)]; rfl
     have e:zg3 l=l.getD k 0:=by
      have h2:(l.take k++l.drop k).find? (fun x=>decide (x≠0))=some (l.getD k 0):=by
       rw [List.find?_append,List.find?_eq_none.2 hz,List.drop_eq_getElem_cons (by omega),List.find?_cons,hg]
       rw [hg] at hne
       simp [hne]
      rw [List.take_append_drop] at h2
      rw [zg3,h2]
      rfl
     rw [e]
   ·refine aQ23 ?_
    repeat (with_reducible refine zbg ?_)
    rw [zad]
    refine⟨k+1,⟨by omega,fun j h=>?_⟩,by (show l.length - (k+1) < l.length - k);omega,zbI ?_⟩
    ·by_cases e:j=k
     ·subst e;omega
     ·exact hj j (by omega)
    ·refine aQ19 ?_
     try exact .inr rfl
  ·obtain rfl:k=l.length:=by omega
   have e:zg3 l=0:=by
    rw [zg3,List.find?_eq_none.2]
    ·rfl
    ·intro x hx
     obtain⟨j,hjl,rfl⟩:=List.getElem_of_mem hx
     have:=hj j hjl
     rw [List.getD_eq_getElem?_getD,List.getElem?_eq_getElem hjl] at this
     simpa using this
   refine aQ23 ?_
   exact zap (by rw [e])
theorem ofirst_ok (l:List Int) (hl:l.length≤1000000):ACalls Tryz.prog 237 [.sl (l.map i64) l.length] [] (fun y _=>y=.ret (i64 (zg3 l))):=by
 refine ACalls.body T_ok Tryz.func237 (by kernel_rfl) rfl Tryz.ntmps237 (congrArg Array.toList Tryz.results237) ?_
 refine aQ23 ?_
 refine(orI_ok l hl).pure (by simp [renL,AV.ren,zcn]) ?_
 rintro _ σ rfl
 refine⟨zac _ _,?_⟩
 refine aQ23 ?_
 exact zap rfl
def cmpS (a b:List UInt8):Int:=Go.Lib.compareBytes a b
theorem cmpS0_ok (a b:List UInt8):ACalls Tryz.prog 233 [str a,str b] [] (fun y _=>y=.ret (i64 (cmpS a b))):=by
 intro H w m vs hg hs hr
 refine .inl ⟨by kernel_rfl,?_⟩
 have hvs:vs=#[.string ⟨a.toArray⟩,.string ⟨b.toArray⟩]:=by
  apply Array.ext'
  simp only [reps] at hr
  obtain⟨v,r,e1,h1,v2,r2,e2,h2,e3⟩:=hr
  simp only [str,rep] at h1 h2
  rw [e1,e2,e3,h1,h2]
 subst hvs
 refine(Tryz.bytealg_CompareString ⟨a.toArray⟩ ⟨b.toArray⟩ w).mono ?_
 rintro e w' ⟨rfl,rfl⟩
 exact⟨.ret (i64 (cmpS a b)),m,[],hs,Ext.refl _ _ _,by simp only [zb5,i64,rep,cmpS],rfl⟩
theorem cmpS_ok (a b:List UInt8):ACalls Tryz.prog 216 [str a,str b] [] (fun y _=>y=.ret (i64 (cmpS a b))):=by
 refine ACalls.body T_ok Tryz.func216 (by kernel_rfl) rfl Tryz.ntmps216 (congrArg Array.toList Tryz.results216) ?_
 refine aQ23 ?_
 refine(cmpS0_ok a b).pure aQ1 ?_
 rintro _ σ rfl
 refine⟨by first | rfl | simp [AEnd.noid,AV.ren,renL,zcs,zam str zaj,zcO,zbY,zbt,zac,zay,zaj],?_⟩
 refine aQ23 ?_
 exact zap rfl
def plainO (a b:Nd):Int:=zg3 [cmpI a.kind b.kind,cmpI a.num b.num,cmpS a.text b.text]
theorem qb_I3 {K:AV→Prop} (a b c:Int):qb2 (some zaC) 3 [(0,i64 a),(1,i64 b),(2,i64 c)] K=K (.sl ([a,b,c].map i64) [a,b,c].length):=by
 simp [qb2,zaC,zbo,zbz,AV.cells,i64,za0,AV.one,Value.oneCell',List.range_succ]
theorem plainO_ok (a b:Nd):ACalls Tryz.prog 224 [nA a,nA b] [] (fun y _=>y=.ret (i64 (plainO a b))):=by
 refine ACalls.body T_ok Tryz.func224 (by kernel_rfl) rfl Tryz.ntmps224 (congrArg Array.toList Tryz.results224) ?_
 refine aQ23 ?_
 refine zcw (by kernel_rfl) (by kernel_rfl) ?_
 refine aQ23 ?_
 refine zcg (cmpK_ok a.kind b.kind) aQ1 aQ8 ?_
 refine aQ23 ?_
 refine zcg (cmp64_ok a.num b.num) aQ1 aQ8 ?_
 refine aQ23 ?_
 refine zcg (cmpS_ok a.text b.text) aQ1 aQ8 ?_
 refine aQ23 ?_
 rw [qb_I3]
 refine aQ23 ?_
 refine zcg (ofirst_ok [cmpI a.kind b.kind,cmpI a.num b.num,cmpS a.text b.text] (by simp)) (by simp [renL,AV.ren,zac]) (zac _ _) ?_
 refine aQ23 ?_
 exact zap rfl
theorem zig (a b:Bool):ACalls Tryz.prog 189 [bl a,bl b] [] (fun y _=>y=.ret (i64 (if a then -1 else if b then 1 else 0))):=by
 cases a <;> cases b
 all_goals
  refine ACalls.body T_ok Tryz.func189 (by kernel_rfl) rfl Tryz.ntmps189 (congrArg Array.toList Tryz.results189) ?_
  refine aQ23 ?_
  exact zap rfl
end Go.Proofs.YtdigkoejfgmecaaGreatDoor
end

section
namespace Go.Proofs.YtdigkoejfgmecaaGreatDoor
open Go Go.Eng
set_option linter.defProp false in
def LB15:=And.intro (fun {e} {d} {b} {k} {s} {K}=>@fl_s1 e d b k s K _ T113) (And.intro (fun {e} {d} {b} {k} {s} {K}=>@fl_s3 e d b k s K _ T113) (@len_slI))
set_option linter.defProp false in
def LM4:=And.intro LM0 (And.intro LB5 (And.intro LB6 (And.intro LB13 (And.intro LB14 (LB15)))))
def zih (l:List Nd) (mp:Bool) (j:Nat):List (List Nd):=(if mp then [(l.take (eAt l mp 0 j+1)).drop (eAt l mp 0 j)] else [])++[(l.take (eAt l mp 0 (j+1))).drop (eAt l mp 0 j+bK mp)]
def zbZ (l:List Nd) (mp:Bool) (k:Nat):List (List Nd):=(List.range k).flatMap (zih l mp)
theorem rng_get2 {β:Type} (f:Nat→β) (d:β) {c k:Nat} (h:k < c):((List.range c).map f).getD k d=f k:=by simp [h]
theorem qb_sl1 {K:AV→Prop} (e:TypeId) (c:List AV) (n:Nat):qb2 (some (tySl e)) 1 [(0,.sl c n)] K=K (.sl [.sl c n] 1):=by
 simp [qb2,tySl,zbo,zbz,AV.cells,AV.one,za0,List.range_succ]
theorem asrc_n1 (σ:zaa) (X:List Nd):asrc σ 1 (.sl [.sl (X.flatMap nC) X.length] 1)=some ([X].map slNs,1):=rfl
theorem zfe (l:List Nd) (mp:Bool) (k:Nat):zbZ l mp (k+1)=zbZ l mp k++zih l mp k:=by simp [zbZ,List.range_succ,List.flatMap_append]
theorem zhl (l:List Nd) (mp:Bool):∀ k,(zbZ l mp k).length≤2 * k
 | 0=>by simp [zbZ]
 | k+1=>by
  have:=zhl l mp k
  rw [zfe,List.length_append,zih]
  cases mp <;> simp <;> omega
theorem zcf (l:List Nd) (hl:l.length≤1000) (p:Nat) (hp:p≤l.length) {r:Nat × Nat} (hv:vl l p=some r):ACalls Tryz.prog 64 [.sl (l.flatMap nC) l.length,i64 p] [] (fun y _=>y=.ret (.agg (sC r.1 r.2 false (slI (kidZ l p (l.getD p n0d).kids.toNat)) (slI (keyZ l p (l.getD p n0d).kids.toNat))))) :=
 (Value_ok l hl _ p rfl hp).mono fun y σ h=>by
  obtain⟨_,hy⟩:=h
  rw [hv] at hy
  exact hy
theorem valsO_ok (l:List Nd) (hl:l.length≤1000) {n:Nd} {r:Nat × Nat} (hK:Kids l 0 n r):ACalls Tryz.prog 190 [.sl (l.flatMap nC) l.length] [] (fun y σ=>y=.ret (.sl ((zbZ l (decide (n.kind=5)) n.kids.toNat).map slNs) (zbZ l (decide (n.kind=5)) n.kids.toNat).length)∧σ=[]):=by
 have hn:l.getD 0 n0d=n:=zav hK.node
 have hfw:=hK.few
 obtain⟨mp,hmp⟩:∃ mp,mp=decide (n.kind=5):=⟨_,rfl⟩
 rw [← hmp]
 refine ACalls.body T_ok Tryz.func190 (by kernel_rfl) rfl Tryz.ntmps190 (congrArg Array.toList Tryz.results190) ?_
 refine aQ42 ?_
 refine(Value_0 l hl).pure (zfJ _ _ _ _) ?_
 rintro y σ ⟨rfl,hy⟩
 rw [hK.val] at hy
 subst hy
 refine⟨zbw _ _ _ _ _ _,?_⟩
 unfold zkg
 rw [hn]
 refine aQ42 ?_
 rw [zaK]
 refine⟨Nat,fun k=>k≤n.kids.toNat,fun k=>[.sl (l.flatMap nC) l.length,.bot,.bot,.ptr 0 0,.ref 1 0 (zbZ l mp k).length 1,i64 k,.bot,.bot,.bot,.bot,.bot,.bot,.bot,.bot,.bot,.bot,.bot,.bot,.bot,.bot,.bot,.bot,.bot,.bot,.bot,.bot,.bot,.bot,.bot,.bot,.bot,.bot,.bot,.bot,.bot,.bot,.bot,.bot,.bot,.bot,.bot,.bot,.bot,.bot,.bot,.bot,.bot,.bot,.bot,.bot,.bot,.bot,.bot,.bot,.bot],fun k=>[.rw (sC r.1 r.2 false (slI (kidZ l 0 n.kids.toNat)) (slI (keyZ l 0 n.kids.toNat))),.rw ((zbZ l mp k).map slNs)],fun k=>n.kids.toNat - k,0,Nat.zero_le _,zbv 4 1 rfl (zab (q:=[0,1]) rfl rfl (by decide) ?_ ?_),?_⟩
 ·refine aQ18 ?_
  exact⟨by simp [zai],by simp [AV.ren,zbZ]⟩
 ·simp [zaw,zar,zbr,zal,zbZ,renL]
 ·intro k hk
  refine aQ42 ?_
  have hkz:(kidZ l 0 n.kids.toNat).length=n.kids.toNat:=by simp [kidZ]
  refine⟨fun hlt=>?_,fun hge=>?_⟩
  ·have hk2:k < n.kids.toNat:=by omega
   obtain⟨r',q1,q2,_⟩:=hK.kid hk2
   rw [← hmp] at q1 q2
   have hin:=zaR q1
   have hinv:=hK.inv k (by omega)
   have hvl:=zhl l mp k
   rw [← hmp] at hinv
   have hkg:(kidZ l 0 n.kids.toNat).getD k 0=((eAt l mp 0 k+bK mp:Nat):Int):=by
    simp only [kidZ,hn,← hmp]
    rw [rng_get2 _ _ hk2]
   by_cases h5:n.kind=5
   ·have hmt:mp=true:=by rw [hmp,decide_eq_true h5]
    subst hmt
    have hsz:(keyZ l 0 n.kids.toNat).length=n.kids.toNat:=by rw [keyZ,hn,if_pos h5];simp
    have hsg:(keyZ l 0 n.kids.toNat).getD k 0=((eAt l true 0 k:Nat):Int):=by rw [keyZ,hn,if_pos h5,rng_get2 _ _ hk2]
    have hb1:bK true=1:=rfl
    refine⟨fun _=>?_,fun h=>(by omega:False).elim⟩
    refine zeu [15] (by kernel_rfl) (by kernel_rfl) (by kernel_rfl) ?_
    refine aQ42 ?_
    rw [hsg]
    refine⟨by omega,by omega,by omega,by omega,by omega,by omega,by unfold inI;omega,?_⟩
    refine sl_N T23 T66 (by omega) (by omega) (by omega) ?_
    rw [show ((eAt l true 0 k:Nat):Int)+1=((eAt l true 0 k+1:Nat):Int) by omega,Int.toNat_natCast,Int.toNat_natCast,show eAt l true 0 k+1 - eAt l true 0 k=((l.take (eAt l true 0 k+1)).drop (eAt l true 0 k)).length by simp;omega]
    refine aQ42 ?_
    rw [qb_sl1]
    refine aQ42 ?_
    refine zaG slNs zbC rfl rfl T40 T40 (zc5 _) T23 (Go.Eng.one_sl _) (l:=zbZ l true k) (ys:=[(l.take (eAt l true 0 k+1)).drop (eAt l true 0 k)]) (m:=1) rfl rfl (asrc_n1 _ _) (by omega) (by simp only [tySl];omega) ?_
    refine aQ42 ?_
    refine zeu [17] (by kernel_rfl) (by kernel_rfl) (by kernel_rfl) ?_
    refine aQ42 ?_
    refine⟨by omega,by omega,by omega,by omega,by omega,by omega,?_⟩
    rw [hkg]
    refine zcg (zcf l hl (eAt l true 0 k+bK true) (by omega) q1) (zfJ _ _ _ _) (zbw _ _ _ _ _ _) ?_
    refine aQ42 ?_
    refine sl_N T23 T66 (by omega) (by omega) (by omega) ?_
    rw [Int.toNat_natCast,Int.toNat_natCast,show r'.1 - (eAt l true 0 k+bK true)=((l.take r'.1).drop (eAt l true 0 k+bK true)).length by simp;omega]
    refine aQ42 ?_
    rw [qb_sl1]
    refine aQ42 ?_
    refine zaG slNs zbC rfl rfl T40 T40 (zc5 _) T23 (Go.Eng.one_sl _) (l:=(zbZ l true k++[(l.take (eAt l true 0 k+1)).drop (eAt l true 0 k)])) (ys:=[(l.take r'.1).drop (eAt l true 0 k+bK true)]) (m:=1) rfl (by simp) (asrc_n1 _ _) (by omega) (by simp only [tySl];omega) ?_
    refine aQ42 ?_
    repeat (with_reducible refine zbg ?_)
    have hsu:zbZ l true (k+1)=(zbZ l true k++[(l.take (eAt l true 0 k+1)).drop (eAt l true 0 k)])++[(l.take r'.1).drop (eAt l true 0 k+bK true)]:=by rw [zfe,zih,q2];simp
    have hsl:(zbZ l true (k+1)).length=((zbZ l true k).length+1)+1:=by rw [hsu];simp
    rw [zad]
    refine⟨k+1,by omega,by (show n.kids.toNat - (k+1) < n.kids.toNat - k);omega,?_⟩
    rw [hsl,hsu,show ((k+1:Nat):Int)=(k:Int)+1 by omega]
    refine zab (q:=[0,3]) rfl rfl (by decide) ?_ ?_
    ·refine aQ18 ?_
     simp [zai,AV.ren]
    ·rw [zaw,zaw,zaw]
     simp only [zar,zbr,zal]
     simp
   ·have hmt:mp=false:=by rw [hmp,decide_eq_false h5]
    subst hmt
    have hsz:(keyZ l 0 n.kids.toNat).length=0:=by rw [keyZ,hn,if_neg h5];rfl
    have hb0:bK false=0:=rfl
    refine⟨fun h=>(by omega:False).elim,fun _=>?_⟩
    refine zeu [17] (by kernel_rfl) (by kernel_rfl) (by kernel_rfl) ?_
    refine aQ42 ?_
    refine⟨by omega,by omega,by omega,by omega,by omega,by omega,?_⟩
    rw [hkg]
    refine zcg (zcf l hl (eAt l false 0 k+bK false) (by omega) q1) (zfJ _ _ _ _) (zbw _ _ _ _ _ _) ?_
    refine aQ42 ?_
    refine sl_N T23 T66 (by omega) (by omega) (by omega) ?_
    rw [Int.toNat_natCast,Int.toNat_natCast,show r'.1 - (eAt l false 0 k+bK false)=((l.take r'.1).drop (eAt l false 0 k+bK false)).length by simp;omega]
    refine aQ42 ?_
    rw [qb_sl1]
    refine aQ42 ?_
    refine zaG slNs zbC rfl rfl T40 T40 (zc5 _) T23 (Go.Eng.one_sl _) (l:=zbZ l false k) (ys:=[(l.take r'.1).drop (eAt l false 0 k+bK false)]) (m:=1) rfl (by simp) (asrc_n1 _ _) (by omega) (by simp only [tySl];omega) ?_
    refine aQ42 ?_
    repeat (with_reducible refine zbg ?_)
    have hsu:zbZ l false (k+1)=zbZ l false k++[(l.take r'.1).drop (eAt l false 0 k+bK false)]:=by rw [zfe,zih,q2];simp
    have hsl:(zbZ l false (k+1)).length=(zbZ l false k).length+1:=by rw [hsu];simp
    rw [zad]
    refine⟨k+1,by omega,by (show n.kids.toNat - (k+1) < n.kids.toNat - k);omega,?_⟩
    rw [hsl,hsu,show ((k+1:Nat):Int)=(k:Int)+1 by omega]
    refine zab (q:=[0,2]) rfl rfl (by decide) ?_ ?_
    ·refine aQ18 ?_
     simp [zai,AV.ren]
    ·rw [zaw,zaw,zaw]
     simp only [zar,zbr,zal]
     simp
  ·obtain rfl:k=n.kids.toNat:=by omega
   exact zaX [1] (.sl ((zbZ l mp n.kids.toNat).map slNs) (zbZ l mp n.kids.toNat).length) (frz_Ns (L:=zbZ l mp n.kids.toNat) rfl rfl) ⟨[],.sl ((zbZ l mp n.kids.toNat).map slNs) (zbZ l mp n.kids.toNat).length,[],rfl,rfl,by decide,by simp only [AV.ren,zal,Option.map_some],trivial,rfl,rfl⟩
def sgn (a b:Bool):Int:=if a then -1 else if b then 1 else 0
def cmpF:Nat→List Nd→List Nd→Int
 | 0,_,_=>0
 | f+1,a,b =>
  let x:=a.getD 0 n0d
  let y:=b.getD 0 n0d
  if x.kind≠y.kind then sgn (decide (x.kind < y.kind)) true
  else if x.num≠y.num then sgn (decide (x.num < y.num)) true
  else if x.text≠y.text then sgn (Op.bytesLess x.text y.text) true
  else
   let l:=zbZ a (decide (x.kind=5)) x.kids.toNat
   let m:=zbZ b (decide (y.kind=5)) y.kids.toNat
   match ((l.zip m).map fun q=>cmpF f q.1 q.2).find? fun n=>decide (n≠0) with
   | some n=>n
   | none=>sgn (decide (l.length < m.length)) (decide (m.length < l.length))
def Val (l:List Nd):Prop:=l.length≤1000∧∃ d,vl l 0=some (l.length,d)
theorem zhm {l:List Nd} (h:Val l) {n:Nd} {d:Nat} (hK:Kids l 0 n (l.length,d)):∀ m∈zbZ l (decide (n.kind=5)) n.kids.toNat,Val m∧m.length < l.length:=by
 intro m hm
 obtain⟨h1,d',h2⟩:=h
 simp only [zbZ,List.mem_flatMap,List.mem_range] at hm
 obtain⟨j,hj,hm⟩:=hm
 obtain⟨r',q1,q2,q3⟩:=hK.kid hj
 have hin:=zaR q1
 have hlo:=(hK.inv j (by omega)).1
 rw [zih,List.mem_append] at hm
 rcases hm with hm | hm
 ·split at hm
  ·rename_i h5
   have h5':n.kind=5:=by simpa using h5
   obtain⟨k,k1,k2,_⟩:=q3 h5'
   have hb:bK (decide (n.kind=5))=1:=by rw [h5];rfl
   simp only [List.mem_singleton] at hm
   subst hm
   have hk:=za3 k1
   have hP:=zge (l:=l) (p:=eAt l (decide (n.kind=5)) 0 j) (e:=eAt l (decide (n.kind=5)) 0 j+1) (by omega) (by omega)
   have hv:=zeX hP (q:=0) (r:=(eAt l (decide (n.kind=5)) 0 j+1,1)) (zjA hk.2.1 hk.2.2 k2) (by simp;omega)
   have hlen:((l.take (eAt l (decide (n.kind=5)) 0 j+1)).drop (eAt l (decide (n.kind=5)) 0 j)).length=1:=by simp;omega
   refine⟨⟨by omega,1,?_⟩,by omega⟩
   rw [hv,hlen]
   simp
  ·simp at hm
 ·simp only [List.mem_singleton] at hm
  subst hm
  rw [q2]
  have hP:=zge (l:=l) (p:=eAt l (decide (n.kind=5)) 0 j+bK (decide (n.kind=5))) (e:=r'.1) (by omega) hin.2
  have hlen:((l.take r'.1).drop (eAt l (decide (n.kind=5)) 0 j+bK (decide (n.kind=5)))).length=r'.1 - (eAt l (decide (n.kind=5)) 0 j+bK (decide (n.kind=5))):=by simp;omega
  have hv:=zeX hP (q:=0) (r:=r') q1 (by rw [hlen];omega)
  refine⟨⟨by omega,r'.2,by rw [hv,hlen]⟩,by omega⟩
theorem ldw_0 {l:List Nd} {K:AV→Prop}:ld2 (some tyNd) (some (l.flatMap nC)) 0 K=(0 < l.length∧K (nA (l.getD 0 n0d))):=ld_N (l:=l) 0
theorem find_at {Z:List Int} {k:Nat} (hk:k < Z.length) (hj:∀ j,j < k→Z.getD j 0=0) (hn:Z.getD k 0≠0):Z.find? (fun n=>decide (n≠0))=some (Z.getD k 0):=by
 have hz:∀ x∈Z.take k,¬ (decide (x≠0)=true):=fun x hx=>by
  obtain⟨j,hjl,rfl⟩:=List.getElem_of_mem hx
  have:=hj j (by simp at hjl;omega)
  rw [List.getD_eq_getElem?_getD,List.getElem?_eq_getElem (by simp at hjl;omega)] at this
  simpa using this
 have hg:Z.getD k 0=Z[k]:=by rw [List.getD_eq_getElem?_getD,List.getElem?_eq_getElem hk];rfl
 have h2:(Z.take k++Z.drop k).find? (fun x=>decide (x≠0))=some (Z.getD k 0):=by
  rw [List.find?_append,List.find?_eq_none.2 hz,List.drop_eq_getElem_cons hk,List.find?_cons,hg]
  rw [hg] at hn
  simp [hn]
 rwa [List.take_append_drop] at h2
theorem find_no {Z:List Int} (hj:∀ j,j < Z.length→Z.getD j 0=0):Z.find? (fun n=>decide (n≠0))=none:=by
 rw [List.find?_eq_none]
 intro x hx
 obtain⟨j,hjl,rfl⟩:=List.getElem_of_mem hx
 have:=hj j hjl
 rw [List.getD_eq_getElem?_getD,List.getElem?_eq_getElem hjl] at this
 simpa using this
theorem zjJ (g:List Nd→List Nd→Int) (L M:List (List Nd)) {j:Nat} (h1:j < L.length) (h2:j < M.length):((L.zip M).map fun q=>g q.1 q.2).getD j 0=g (L.getD j []) (M.getD j []):=by
 have e:(L.zip M)[j]?=some (L[j],M[j]):=by
  rw [List.getElem?_eq_getElem (by simp;omega)]
  simp
 simp [e,h1,h2]
theorem rcmp_ok:∀ (f:Nat) (a b:List Nd),a.length≤f→Val a→Val b→ACalls Tryz.prog 153 [.sl (a.flatMap nC) a.length,.sl (b.flatMap nC) b.length] [] (fun y _=>y=.ret (i64 (cmpF f a b))):=by
 intro f
 induction f with
 | zero =>
  intro a b h ⟨_,d,hv⟩
  have:=zaR hv
  omega
 | succ f ih =>
  intro a b hf hA hB
  obtain⟨ha,da,va⟩:=hA
  obtain⟨hb,db,vb⟩:=hB
  have la:=(zaR va).1
  have lb:=(zaR vb).1
  dsimp only at la lb
  obtain⟨x,KA⟩:=zbN va
  obtain⟨y,KB⟩:=zbN vb
  have hx:a.getD 0 n0d=x:=zav KA.node
  have hy:b.getD 0 n0d=y:=zav KB.node
  rw [cmpF]
  dsimp only
  rw [hx,hy]
  refine ACalls.body T_ok Tryz.func153 (by kernel_rfl) rfl Tryz.ntmps153 (congrArg Array.toList Tryz.results153) ?_
  refine aQ43 ?_
  refine⟨by omega,by omega,by omega,la,?_⟩
  rw [hx]
  refine aQ43 ?_
  refine⟨by omega,by omega,by omega,lb,?_⟩
  rw [hy]
  refine aQ43 ?_
  refine⟨fun hk=>?_,fun hk=>?_⟩
  ·rw [if_pos hk]
   refine(zig (decide (x.kind < y.kind)) true).pure (by simp [renL,zay]) ?_
   rintro _ σ rfl
   refine⟨zac _ _,?_⟩
   refine aQ43 ?_
   exact zap rfl
  rw [if_neg (by simpa using hk)]
  refine⟨fun hk=>?_,fun hk=>?_⟩
  ·rw [if_pos hk]
   refine(zig (decide (x.num < y.num)) true).pure (by simp [renL,zay]) ?_
   rintro _ σ rfl
   refine⟨zac _ _,?_⟩
   refine aQ43 ?_
   exact zap rfl
  rw [if_neg (by simpa using hk)]
  refine⟨fun hk=>?_,fun hk=>?_⟩
  ·rw [if_pos hk]
   refine(zig (Op.bytesLess x.text y.text) true).pure (by simp [renL,zay]) ?_
   rintro _ σ rfl
   refine⟨zac _ _,?_⟩
   refine aQ43 ?_
   exact zap rfl
  rw [if_neg (by simpa using hk)]
  have vA:=zhm ⟨ha,da,va⟩ KA
  have vB:=zhm ⟨hb,db,vb⟩ KB
  refine(valsO_ok a ha KA).pure (zdz _ _ _) ?_
  rintro _ σ ⟨rfl,rfl⟩
  refine⟨by simp [AEnd.noid,AV.ren,zal],?_⟩
  refine aQ43 ?_
  refine(valsO_ok b hb KB).pure (zdz _ _ _) ?_
  rintro _ σ ⟨rfl,rfl⟩
  refine⟨by simp [AEnd.noid,AV.ren,zal],?_⟩
  have lA:=zhl a (decide (x.kind=5)) x.kids.toNat
  have lB:=zhl b (decide (y.kind=5)) y.kids.toNat
  have fA:=KA.few
  have fB:=KB.few
  obtain⟨L,hL⟩:∃ L,L=zbZ a (decide (x.kind=5)) x.kids.toNat:=⟨_,rfl⟩
  obtain⟨M,hM⟩:∃ M,M=zbZ b (decide (y.kind=5)) y.kids.toNat:=⟨_,rfl⟩
  rw [← hL] at vA lA ⊢
  rw [← hM] at vB lB ⊢
  refine aQ43 ?_
  have hZl:((L.zip M).map fun q=>cmpF f q.1 q.2).length=min L.length M.length:=by simp
  have hend:∀ k,(k=L.length∨k=M.length)→k≤L.length→k≤M.length→(∀ j,j < k→cmpF f (L.getD j []) (M.getD j [])=0)→((L.zip M).map fun q=>cmpF f q.1 q.2).find? (fun n=>decide (n≠0))=none:=fun k h1 h2 h3 h4=>find_no fun j hj=>by
   rw [hZl] at hj
   rw [zjJ _ _ _ (by omega) (by omega)]
   exact h4 j (by omega)
  rw [zaK]
  refine⟨Nat,fun k=>k≤L.length∧k≤M.length∧∀ j,j < k→cmpF f (L.getD j []) (M.getD j [])=0,fun k=>[.bot,.bot,.bot,.bot,.bot,.bot,.bot,.sl (L.map slNs) L.length,.sl (M.map slNs) M.length,i64 k,.bot,.bot,.bot,.bot,.bot,.bot,.bot,.bot,.bot,.bot,.bot,.bot,.bot,.bot,.bot,.bot,.bot,.bot,.bot,.bot,.bot,.bot,.bot,.bot,.bot,.bot,.bot,.bot,.bot,.bot,.bot,.bot,.bot,.bot,.bot,.bot,.bot,.bot,.bot,.bot,.bot,.bot,.bot,.bot,.bot,.bot,.bot,.bot,.bot,.bot,.bot,.bot,.bot,.bot,.bot,.bot,.bot,.bot,.bot,.bot,.bot,.bot,.bot,.bot,.bot,.bot,.bot,.bot,.bot,.bot,.bot,.bot,.bot,.bot,.bot,.bot,.bot,.bot,.bot],fun _=>[],fun k=>L.length - k,0,⟨Nat.zero_le _,Nat.zero_le _,fun j h=>absurd h (by omega)⟩,zab (q:=[]) rfl rfl (by decide) ?_ ?_,?_⟩
  ·refine aQ18 ?_
   exact⟨by simp [zal,AV.ren],by simp [zal,AV.ren],.inr rfl⟩
  ·trivial
  ·rintro k ⟨k1,k2,hj⟩
   refine aQ43 ?_
   by_cases hlt:k < L.length
   rotate_left
   ·rw [decide_eq_false (by omega:¬ (k:Int) < (L.length:Nat))]
    refine aQ43 ?_
    rw [hend k (.inl (by omega)) k1 k2 hj]
    dsimp only
    refine(zig (decide ((L.length:Int) < M.length)) (decide ((M.length:Int) < L.length))).pure (by simp [renL,zay]) ?_
    rintro _ σ rfl
    refine⟨zac _ _,?_⟩
    refine aQ43 ?_
    refine zap ?_
    rw [show decide ((L.length:Int) < M.length)=decide (L.length < M.length) from decide_eq_decide.2 (by omega),show decide ((M.length:Int) < L.length)=decide (M.length < L.length) from decide_eq_decide.2 (by omega)]
    rfl
   rw [decide_eq_true (by omega:(k:Int) < (L.length:Nat))]
   refine aQ43 ?_
   refine⟨fun hlm=>?_,fun hge=>?_⟩
   rotate_left
   ·skip
    rw [hend k (.inr (by omega)) k1 k2 hj]
    dsimp only
    refine(zig (decide ((L.length:Int) < M.length)) (decide ((M.length:Int) < L.length))).pure (by simp [renL,zay]) ?_
    rintro _ σ rfl
    refine⟨zac _ _,?_⟩
    refine aQ43 ?_
    refine zap ?_
    rw [show decide ((L.length:Int) < M.length)=decide (L.length < M.length) from decide_eq_decide.2 (by omega),show decide ((M.length:Int) < L.length)=decide (M.length < L.length) from decide_eq_decide.2 (by omega)]
    rfl
   ·refine zcw (by kernel_rfl) (by kernel_rfl) ?_
    refine aQ43 ?_
    refine⟨by omega,by omega,by omega,by omega,by omega,by omega,by omega,by omega,?_⟩
    have mA:=vA _ (show L.getD k []∈L by rw [List.getD_eq_getElem?_getD,List.getElem?_eq_getElem hlt];exact List.getElem_mem _)
    have mB:=vB _ (show M.getD k []∈M by rw [List.getD_eq_getElem?_getD,List.getElem?_eq_getElem (by omega)];exact List.getElem_mem _)
    refine zcg (ih (L.getD k []) (M.getD k []) (by omega) mA.1 mB.1) (noid_N2 _ _ _ _ _) (zac _ _) ?_
    refine aQ43 ?_
    refine⟨fun hne=>?_,fun heq=>?_⟩
    ·refine aQ43 ?_
     refine zap ?_
     have:=find_at (Z:=(L.zip M).map fun q=>cmpF f q.1 q.2) (k:=k) (by omega) (fun j h=>by rw [zjJ _ _ _ (by omega) (by omega)];exact hj j h) (by rw [zjJ _ _ _ (by omega) (by omega)];exact hne)
     rw [this,zjJ _ _ _ (by omega) (by omega)]
    ·refine aQ43 ?_
     repeat (with_reducible refine zbg ?_)
     rw [zad]
     refine⟨k+1,⟨by omega,by omega,fun j h=>?_⟩,by (show L.length - (k+1) < L.length - k);omega,zab (q:=[]) rfl rfl (by decide) ?_ ?_⟩
     ·by_cases e:j=k
      ·subst e;exact heq
      ·exact hj j (by omega)
     ·refine aQ18 ?_
      exact⟨by simp [zal,AV.ren],by simp [zal,AV.ren],.inr (by omega)⟩
     ·trivial
def cmpR (a b:List Nd):Int:=if zau a=0∧zau b=0 then cmpF a.length a b else 0
theorem val_of {l:List Nd} (h:zau l=0):Val l:=by
 obtain⟨h1,_,d,hv,_⟩:=zcU h
 exact⟨by omega,d,hv⟩
theorem rCompare_ok (a b:List Nd) (ha:a.length≤1000) (hb:b.length≤1000):ACalls Tryz.prog 108 [.sl (a.flatMap nC) a.length,.sl (b.flatMap nC) b.length] [] (fun y _=>y=.ret (i64 (cmpR a b))):=by
 refine ACalls.body T_ok Tryz.func108 (by kernel_rfl) rfl Tryz.ntmps108 (congrArg Array.toList Tryz.results108) ?_
 refine aQ42 ?_
 refine(ze0 a ha).pure (zdz _ _ _) ?_
 rintro _ σ rfl
 refine⟨zac _ _,?_⟩
 by_cases h0:zau a=0
 rotate_left
 ·refine aQ42 ?_
  rw [decide_eq_false h0]
  refine aQ42 ?_
  exact zap (by rw [cmpR,if_neg (by simp [h0])])
 rw [h0]
 refine aQ42 ?_
 refine(ze0 b hb).pure (zdz _ _ _) ?_
 rintro _ σ rfl
 refine⟨zac _ _,?_⟩
 by_cases h1:zau b=0
 rotate_left
 ·refine aQ42 ?_
  refine⟨fun _=>zap (by rw [cmpR,if_neg (by simp [h1])]),fun h=>absurd h h1⟩
 rw [h1]
 refine aQ42 ?_
 refine(rcmp_ok a.length a b (Nat.le_refl _) (val_of h0) (val_of h1)).pure (noid_N2 _ _ _ _ _) ?_
 rintro _ σ rfl
 refine⟨zac _ _,?_⟩
 refine aQ42 ?_
 exact zap (by rw [cmpR,if_pos ⟨h0,h1⟩])
def allV (L:List (List Nd)):Bool:=L.all fun l=>decide (zau l=0)
theorem mk_sl0 {σ:zaa} {KS:AV→zaa→Prop} (e:TypeId) (c:Int):mk2 (some (tySl e)) 0 c σ KS=(0≤(0:Int)∧0≤c∧c≤9223372036854775807∧c * (24:Nat)≤281474976710656∧KS (.ref σ.length 0 0 1) (σ++[.rw []])):=mk2_one (Go.Eng.one_sl e) _ _
theorem bs_Ns1 (e:TypeId) (X:List Nd) (σ:zaa) (K:AV→zaa→Prop):bs2 (some (tySl e)) 1 [(0,slNs X)] σ K=K (.ref σ.length 0 1 1) (σ++[.rw [slNs X]]):=bs_sl_1 e _ _ σ K
theorem ovalues_ok (L:List (List Nd)) (hL:L.length≤1000000) (hl:∀ l∈L,l.length≤1000000):ACalls Tryz.prog 163 [.sl (L.map slNs) L.length] [] (fun y σ=>y=.ret (.tup [.sl ((if allV L then L else []).map slNs) (if allV L then L else []).length,bl (allV L)])∧σ=[]):=by
 have get:∀ k,k < L.length→L.getD k []∈L:=fun k h=>by
  rw [List.getD_eq_getElem?_getD,List.getElem?_eq_getElem h]
  exact List.getElem_mem _
 refine ACalls.body T_ok Tryz.func163 (by kernel_rfl) rfl Tryz.ntmps163 (congrArg Array.toList Tryz.results163) ?_
 refine aQ44 ?_
 refine⟨by omega,by omega,by omega,by omega,?_⟩
 refine aQ44 ?_
 rw [zaK]
 refine⟨Nat,fun k=>k≤L.length∧∀ j,j < k→zau (L.getD j [])=0,fun k=>[.bot,.bot,.bot,.bot,.ref 0 0 k 1,.bot,.bot,.bot,.bot,.bot,.sl (L.map slNs) L.length,i64 L.length,i64 k,.bot,.bot,.bot,.bot,.bot,.bot,.bot,.bot,.bot,.bot,.bot,.bot],fun k=>[.rw ((L.take k).map slNs)],fun k=>L.length - k,0,⟨Nat.zero_le _,fun j h=>absurd h (by omega)⟩,zab (q:=[0]) rfl rfl (by decide) ?_ ?_,?_⟩
 ·refine aQ18 ?_
  exact⟨by simp [zal],.inr rfl⟩
 ·simp [zaw,zar,renL]
 ·rintro k ⟨hk,hj⟩
  refine aQ44 ?_
  refine⟨fun hlt=>?_,fun hge=>?_⟩
  ·have hk2:k < L.length:=by omega
   refine⟨by omega,by omega,by omega,hk2,?_⟩
   refine(zhh (L.getD k []) (hl _ (get k hk2))).pure (zdz _ _ _) ?_
   rintro _ σ ⟨rfl,rfl⟩
   refine⟨zac _ _,?_⟩
   refine aQ44 ?_
   refine⟨fun hne=>?_,fun heq=>?_⟩
   ·have hf:allV L=false:=by
     rw [allV,List.all_eq_false]
     exact⟨_,get k hk2,by simpa using hne⟩
    rw [hf]
    exact zaX [] (.tup [.sl [] 0,bl false]) ⟨_,rfl,_,_,rfl,.inr ⟨rfl,rfl⟩,_,_,rfl,.inl rfl,rfl⟩ ⟨[],.tup [.sl [] 0,bl false],[],rfl,rfl,by decide,by simp [AV.ren,renL,zay],trivial,rfl,rfl⟩
   ·have htk:L.take (k+1)=L.take k++[L.getD k []]:=by
     rw [List.take_succ_eq_append_getElem hk2,List.getD_eq_getElem?_getD,List.getElem?_eq_getElem hk2]
     rfl
    refine zaG slNs zbC rfl rfl T216 T216 (zc5 _) T219 (Go.Eng.one_sl _) (l:=L.take k) (ys:=[L.getD k []]) (m:=1) rfl (by simp;omega) rfl (by omega) (by simp only [tySl];omega) ?_
    refine aQ44 ?_
    repeat (with_reducible refine zbg ?_)
    rw [zad,← htk]
    refine⟨k+1,⟨by omega,fun j h=>?_⟩,by (show L.length - (k+1) < L.length - k);omega,zab (q:=[2]) rfl rfl (by decide) ?_ ?_⟩
    ·by_cases e:j=k
     ·subst e;exact heq
     ·exact hj j (by omega)
    ·refine aQ18 ?_
     exact⟨by simp [zal],.inr (by omega)⟩
    ·rw [zaw,zaw]
     simp only [zar,zal]
     simp
  ·obtain rfl:k=L.length:=by omega
   have hf:allV L=true:=by
    rw [allV,List.all_eq_true]
    intro x hx
    obtain⟨j,hjl,rfl⟩:=List.getElem_of_mem hx
    have:=hj j hjl
    rw [List.getD_eq_getElem?_getD,List.getElem?_eq_getElem hjl] at this
    simpa using this
   rw [hf,List.take_length]
   refine aQ44 ?_
   exact zaX [0] (.tup [.sl (L.map slNs) L.length,bl true]) ⟨_,rfl,_,_,rfl,frz_Ns (L:=L) rfl rfl,_,_,rfl,.inl rfl,rfl⟩ ⟨[],.tup [.sl (L.map slNs) L.length,bl true],[],rfl,rfl,by decide,by simp [AV.ren,renL,zal,zay],trivial,rfl,rfl⟩
theorem cmpS_eq:∀ (a b:List UInt8),cmpS a b=if a=b then 0 else sgn (Op.bytesLess a b) true
 | [],[]=>rfl
 | [],b::bs=>by simp [cmpS,Go.Lib.compareBytes,Op.bytesLess,sgn]
 | a::s,[]=>by simp [cmpS,Go.Lib.compareBytes,Op.bytesLess,sgn]
 | a::s,b::bs=>by
  have ih:=cmpS_eq s bs
  simp only [cmpS] at ih
  simp only [cmpS,Go.Lib.compareBytes,Op.bytesLess,List.cons.injEq]
  by_cases h1:a < b
  ·have hne:a≠b:=fun h=>by subst h;exact absurd h1 (UInt8.lt_irrefl a)
   simp [h1,hne,sgn]
  ·by_cases h2:b < a
   ·have hne:a≠b:=fun h=>by subst h;exact absurd h2 (UInt8.lt_irrefl a)
    simp [h1,h2,hne,sgn]
   ·have he:a=b:=by
     have h1':¬ a.toNat < b.toNat:=h1
     have h2':¬ b.toNat < a.toNat:=h2
     exact UInt8.toNat_inj.1 (by omega)
    subst he
    simp only [h1,if_false,ih,true_and]
    simp
theorem zgi (a:Bool):sgn a true≠0:=by cases a <;> decide
theorem cmpI_sgn {a b:Int} (h:a≠b):cmpI a b=sgn (decide (a < b)) true:=by
 unfold cmpI sgn
 by_cases h1:a < b
 ·simp [h1]
 ·simp [h1,show b < a by omega]
theorem cmpI_self (a:Int):cmpI a a=0:=by simp [cmpI]
theorem cmpI_0 {a b:Int}:cmpI a b=0 ↔ a=b:=by
 unfold cmpI
 split
 ·exact⟨fun h=>absurd h (by decide),fun h=>by omega⟩
 ·split
  ·exact⟨fun h=>absurd h (by decide),fun h=>by omega⟩
  ·exact⟨fun _=>by omega,fun _=>rfl⟩
theorem plainO_eq (x y:Nd):plainO x y=if x.kind≠y.kind then sgn (decide (x.kind < y.kind)) true else if x.num≠y.num then sgn (decide (x.num < y.num)) true else if x.text≠y.text then sgn (Op.bytesLess x.text y.text) true else 0:=by
 simp only [plainO,zg3,cmpS_eq]
 by_cases h1:x.kind=y.kind
 ·rw [h1,cmpI_self]
  by_cases h2:x.num=y.num
  ·rw [h2,cmpI_self]
   by_cases h3:x.text=y.text
   ·simp [h3]
   ·simp [h3,zgi]
  ·rw [cmpI_sgn h2]
   simp [h2,zgi]
 ·rw [cmpI_sgn h1]
  simp [h1,zgi]
theorem plainO_0 {x y:Nd}:plainO x y=0 ↔ x.kind=y.kind∧x.num=y.num∧x.text=y.text:=by
 rw [plainO_eq]
 by_cases h1:x.kind=y.kind
 ·by_cases h2:x.num=y.num
  ·by_cases h3:x.text=y.text
   ·simp [h1,h2,h3]
   ·simp [h1,h2,h3,zgi]
  ·simp [h1,h2,zgi]
 ·simp [h1,zgi]
def za6 (g:List Nd→List Nd→Int):List (List Nd)→List (List Nd)→Int
 | a::l,b::m=>if g a b≠0 then g a b else za6 g l m
 | _,_=>0
theorem zii (g:List Nd→List Nd→Int):∀ (L M:List (List Nd)),(((L.zip M).map fun q=>g q.1 q.2).find? fun n=>decide (n≠0))=if za6 g L M≠0 then some (za6 g L M) else none
 | [],M=>by simp [za6]
 | a::L,[]=>by simp [za6]
 | a::L,b::M=>by
  simp only [List.zip_cons_cons,List.map_cons,List.find?_cons,za6]
  by_cases h:g a b=0
  ·simp only [h,ne_eq,not_true_eq_false,decide_false,Bool.false_eq_true,if_false]
   exact zii g L M
  ·simp [h]
theorem mfind (d s:Int):(match (if d≠0 then some d else none) with | some n=>n | none=>s)=if d≠0 then d else s:=by
 by_cases h:d=0 <;> simp [h]
theorem firstD_nil (g:List Nd→List Nd→Int) (L:List (List Nd)):za6 g L []=0:=by cases L <;> rfl
theorem zff (g:List Nd→List Nd→Int):∀ (L L' M M':List (List Nd)),L.length=M.length→za6 g (L++L') (M++M')=if za6 g L M≠0 then za6 g L M else za6 g L' M'
 | [],L',[],M',_=>by simp [za6]
 | [],_,_::_,_,h=>by cases h
 | _::_,_,[],_,h=>by cases h
 | a::L,L',b::M,M',h=>by
  simp only [List.cons_append,za6]
  by_cases h1:g a b=0
  ·simp only [h1,ne_eq,not_true_eq_false,if_false]
   exact zff g L L' M M' (by simpa using h)
  ·simp [h1]
theorem zgj (f:Nat) (a b:List Nd):cmpF (f+1) a b =
  let x:=a.getD 0 n0d
  let y:=b.getD 0 n0d
  let l:=zbZ a (decide (x.kind=5)) x.kids.toNat
  let m:=zbZ b (decide (y.kind=5)) y.kids.toNat
  if plainO x y≠0 then plainO x y else if za6 (cmpF f) l m≠0 then za6 (cmpF f) l m else sgn (decide (l.length < m.length)) (decide (m.length < l.length)):=by
 rw [cmpF]
 dsimp only
 rw [plainO_eq,zii]
 by_cases h1:(a.getD 0 n0d).kind=(b.getD 0 n0d).kind
 ·by_cases h2:(a.getD 0 n0d).num=(b.getD 0 n0d).num
  ·by_cases h3:(a.getD 0 n0d).text=(b.getD 0 n0d).text
   ·simp only [h1,h2,h3,ne_eq,not_true_eq_false,if_false]
    exact mfind _ _
   ·simp only [h1,h2,h3,ne_eq,not_true_eq_false,not_false_eq_true,if_false,if_true,zgi]
  ·simp only [h1,h2,ne_eq,not_true_eq_false,not_false_eq_true,if_false,if_true,zgi]
 ·simp only [h1,ne_eq,not_false_eq_true,if_true,zgi]
def sb (l:List Nd) (p e:Nat):List Nd:=(l.take e).drop p
theorem sb_sb {l:List Nd} {p e u v:Nat} (h:p+v≤e):((sb l p e).take v).drop u=sb l (p+u) (p+v):=by
 apply List.ext_getElem?
 intro i
 simp only [sb,List.getElem?_drop,List.getElem?_take]
 by_cases h1:u+i < v
 ·rw [if_pos h1,if_pos (by omega),if_pos (by omega),show p+(u+i)=p+u+i by omega]
 ·rw [if_neg h1,if_neg (by omega)]
theorem sb_getD {l:List Nd} {p e:Nat} (h:p < e) (he:e≤l.length):(sb l p e).getD 0 n0d=l.getD p n0d:=by
 simp only [sb,List.getD_eq_getElem?_getD,List.getElem?_drop,List.getElem?_take,Nat.add_zero,if_pos h]
theorem sb_length {l:List Nd} {p e:Nat} (he:e≤l.length):(sb l p e).length=e - p:=by simp [sb];omega
theorem eAt_sb {l:List Nd} {p:Nat} {n:Nd} {r:Nat × Nat} (hK:Kids l p n r):∀ k,k≤n.kids.toNat→eAt (sb l p r.1) (decide (n.kind=5)) 0 k+p=eAt l (decide (n.kind=5)) p k
 | 0,_=>by simp only [eAt];omega
 | k+1,hk=>by
  have ih:=eAt_sb hK k (by omega)
  obtain⟨r',q1,q2,_⟩:=hK.kid (k:=k) (by omega)
  have hin:=(hK.inv (k+1) hk).2.1
  have hle:=(zaR hK.val)
  have hP:=zge (l:=l) (p:=p) (e:=r.1) (by omega) hle.2
  have hlen:((l.take r.1).drop p).length=r.1 - p:=sb_length hle.2
  have hv:=zeX hP (q:=eAt (sb l p r.1) (decide (n.kind=5)) 0 k+bK (decide (n.kind=5))) (r:=r') (by rw [← q1];congr 1;omega) (by rw [hlen];omega)
  have:=zaR q1
  rw [q2]
  simp only [eAt]
  rw [zdD,show vl (sb l p r.1) _=_ from hv]
  simp only [Int.toNat_natCast]
  omega
def zcJ (l:List Nd) (mp:Bool) (p j:Nat):List (List Nd):=(if mp then [sb l (eAt l mp p j) (eAt l mp p j+1)] else [])++[sb l (eAt l mp p j+bK mp) (eAt l mp p (j+1))]
def zcM (l:List Nd) (mp:Bool) (p c:Nat):List (List Nd):=(List.range c).flatMap (zcJ l mp p)
theorem zeh (l:List Nd) (mp:Bool) (p k:Nat):zcM l mp p (k+1)=zcM l mp p k++zcJ l mp p k:=by simp [zcM,List.range_succ,List.flatMap_append]
theorem zcc (l:List Nd) (mp:Bool) (p:Nat):∀ k,(zcM l mp p k).length=k * (1+bK mp)
 | 0=>by simp [zcM]
 | k+1=>by
  rw [zeh,List.length_append,zcc l mp p k,zcJ]
  cases mp <;> simp [bK] <;> omega
theorem zfg (l:List Nd) (mp:Bool) (p:Nat) {k c:Nat} (h:k≤c):∃ R,zcM l mp p c=zcM l mp p k++R:=by
 induction c with
 | zero=>exact⟨[],by simp [show k=0 by omega]⟩
 | succ c ih =>
  by_cases hk:k=c+1
  ·exact⟨[],by simp [hk]⟩
  ·obtain⟨R,hR⟩:=ih (by omega)
   exact⟨R++zcJ l mp p c,by rw [zeh,hR,List.append_assoc]⟩
theorem vals_sb {l:List Nd} {p:Nat} {n:Nd} {r:Nat × Nat} (hK:Kids l p n r):∀ c,c≤n.kids.toNat→zbZ (sb l p r.1) (decide (n.kind=5)) c=zcM l (decide (n.kind=5)) p c
 | 0,_=>rfl
 | c+1,hc=>by
  have h0:=eAt_sb hK c (by omega)
  have h1:=eAt_sb hK (c+1) hc
  have i0:=hK.inv c (by omega)
  have i1:=hK.inv (c+1) hc
  obtain⟨r',q1,q2,q3⟩:=hK.kid (k:=c) (by omega)
  have g:=zaR q1
  rw [zfe,zeh,vals_sb hK c (by omega),zih,zcJ]
  congr 1
  congr 1
  ·by_cases hmp:decide (n.kind=5)=true
   ·have hb:bK (decide (n.kind=5))=1:=by rw [hmp];rfl
    rw [if_pos hmp,if_pos hmp,sb_sb (by omega),show p+eAt (sb l p r.1) (decide (n.kind=5)) 0 c=eAt l (decide (n.kind=5)) p c by omega,show p+(eAt (sb l p r.1) (decide (n.kind=5)) 0 c+1)=eAt l (decide (n.kind=5)) p c+1 by omega]
   ·rw [if_neg hmp,if_neg hmp]
  ·rw [sb_sb (by omega),show p+eAt (sb l p r.1) (decide (n.kind=5)) 0 (c+1)=eAt l (decide (n.kind=5)) p (c+1) by omega,show p+(eAt (sb l p r.1) (decide (n.kind=5)) 0 c+bK (decide (n.kind=5)))=eAt l (decide (n.kind=5)) p c+bK (decide (n.kind=5)) by omega]
theorem cmpF_sb {f:Nat} {a b:List Nd} {p:Nat} {x y:Nd} {ra rb:Nat × Nat} (hA:Kids a p x ra) (hB:Kids b p y rb):cmpF (f+1) (sb a p ra.1) (sb b p rb.1)=if plainO x y≠0 then plainO x y else if za6 (cmpF f) (zcM a (decide (x.kind=5)) p x.kids.toNat) (zcM b (decide (y.kind=5)) p y.kids.toNat)≠0 then za6 (cmpF f) (zcM a (decide (x.kind=5)) p x.kids.toNat) (zcM b (decide (y.kind=5)) p y.kids.toNat) else cmpI x.kids y.kids:=by
 have la:=zaR hA.val
 have lb:=zaR hB.val
 rw [zgj,sb_getD (by omega) la.2,sb_getD (by omega) lb.2,zav hA.node,zav hB.node]
 dsimp only
 rw [vals_sb hA _ (Nat.le_refl _),vals_sb hB _ (Nat.le_refl _)]
 by_cases hp:plainO x y=0
 ·obtain⟨hk,_⟩:=plainO_0.1 hp
  rw [zcc,zcc,hk]
  have fa:=hA.few
  have fb:=hB.few
  have e:sgn (decide (x.kids.toNat * (1+bK (decide (y.kind=5))) < y.kids.toNat * (1+bK (decide (y.kind=5))))) (decide (y.kids.toNat * (1+bK (decide (y.kind=5))) < x.kids.toNat * (1+bK (decide (y.kind=5)))))=cmpI x.kids y.kids:=by
   have hb:0 < 1+bK (decide (y.kind=5)):=by omega
   rw [show decide (x.kids.toNat * (1+bK (decide (y.kind=5))) < y.kids.toNat * (1+bK (decide (y.kind=5))))=decide (x.kids < y.kids) from decide_eq_decide.2 (by rw [Nat.mul_lt_mul_right hb];omega),show decide (y.kids.toNat * (1+bK (decide (y.kind=5))) < x.kids.toNat * (1+bK (decide (y.kind=5))))=decide (y.kids < x.kids) from decide_eq_decide.2 (by rw [Nat.mul_lt_mul_right hb];omega)]
   simp only [sgn,cmpI,decide_eq_true_eq]
  rw [e]
 ·simp [hp]
theorem getD_one (k:Nd):([k]:List Nd).getD 0 n0d=k:=rfl
theorem cmpF_one (f:Nat) {x y:Nd} (hx:x.kids=0) (hy:y.kids=0):cmpF (f+1) [x] [y]=plainO x y:=by
 rw [zgj]
 dsimp only
 rw [getD_one,getD_one,hx,hy]
 by_cases h:plainO x y=0
 ·simp [h,zbZ,za6,sgn]
 ·simp [h]
theorem sb_one {l:List Nd} {p:Nat} (h:p < l.length):sb l p (p+1)=[l.getD p n0d]:=by
 apply List.ext_getElem?
 intro i
 simp only [sb,List.getElem?_drop,List.getElem?_take]
 cases i with
 | zero=>simp [List.getD_eq_getElem?_getD,List.getElem?_eq_getElem h]
 | succ i =>
  simp
  try omega
theorem firstD_round {g:List Nd→List Nd→Int} {a b:List Nd} {mp:Bool} {p k cx cy:Nat} (hx:k < cx) (hy:k < cy) (h0:za6 g (zcM a mp p k) (zcM b mp p k)=0):za6 g (zcM a mp p (k+1)) (zcM b mp p (k+1))=za6 g (zcJ a mp p k) (zcJ b mp p k)∧(za6 g (zcJ a mp p k) (zcJ b mp p k)≠0→za6 g (zcM a mp p cx) (zcM b mp p cy)=za6 g (zcJ a mp p k) (zcJ b mp p k)):=by
 have h1:za6 g (zcM a mp p (k+1)) (zcM b mp p (k+1))=za6 g (zcJ a mp p k) (zcJ b mp p k):=by
  rw [zeh,zeh,zff _ _ _ _ _ aQ9,h0]
  simp
 refine⟨h1,fun hne=>?_⟩
 obtain⟨R,hR⟩:=zfg a mp p (k:=k+1) (c:=cx) (by omega)
 obtain⟨S,hS⟩:=zfg b mp p (k:=k+1) (c:=cy) (by omega)
 rw [hR,hS,zff _ _ _ _ _ aQ9,h1,if_pos hne]
theorem firstD_last {g:List Nd→List Nd→Int} {a b:List Nd} {mp:Bool} {p k cx cy:Nat} (hx:k≤cx) (hy:k≤cy) (h:k=cx∨k=cy) (h0:za6 g (zcM a mp p k) (zcM b mp p k)=0):za6 g (zcM a mp p cx) (zcM b mp p cy)=0:=by
 obtain⟨R,hR⟩:=zfg a mp p hx
 obtain⟨S,hS⟩:=zfg b mp p hy
 rw [hR,hS,zff _ _ _ _ _ aQ9,h0]
 simp only [ne_eq,not_true_eq_false,if_false]
 have hl:=congrArg List.length hR
 have hl2:=congrArg List.length hS
 rw [List.length_append,zcc,zcc] at hl hl2
 rcases h with rfl | rfl
 ·rw [show R=[] from List.eq_nil_of_length_eq_zero (by omega)]
  rfl
 ·rw [show S=[] from List.eq_nil_of_length_eq_zero (by omega)]
  exact firstD_nil g R
theorem piece_l (g:List Nd→List Nd→Int) (a b:List Nd) (p k:Nat):za6 g (zcJ a false p k) (zcJ b false p k)=g (sb a (eAt a false p k+bK false) (eAt a false p (k+1))) (sb b (eAt b false p k+bK false) (eAt b false p (k+1))):=by
 simp only [zcJ,Bool.false_eq_true,if_false,List.nil_append,za6]
 by_cases h:g (sb a (eAt a false p k+bK false) (eAt a false p (k+1))) (sb b (eAt b false p k+bK false) (eAt b false p (k+1)))=0
 ·simp [h]
 ·simp [h]
theorem piece_m (g:List Nd→List Nd→Int) (a b:List Nd) (p k:Nat):za6 g (zcJ a true p k) (zcJ b true p k)=if g (sb a (eAt a true p k) (eAt a true p k+1)) (sb b (eAt b true p k) (eAt b true p k+1))≠0 then g (sb a (eAt a true p k) (eAt a true p k+1)) (sb b (eAt b true p k) (eAt b true p k+1)) else g (sb a (eAt a true p k+bK true) (eAt a true p (k+1))) (sb b (eAt b true p k+bK true) (eAt b true p (k+1))):=by
 simp only [zcJ,if_true,List.cons_append,List.nil_append,za6]
 by_cases h:g (sb a (eAt a true p k+bK true) (eAt a true p (k+1))) (sb b (eAt b true p k+bK true) (eAt b true p (k+1)))=0
 ·simp [h]
 ·simp [h]
theorem zi4 {n:Nd} (h:zb3 n=true) (h3:n.kind=3):n.kids=0:=by
 simp only [zb3,Bool.and_eq_true,decide_eq_true_eq] at h
 have:=congrArg Nd.kids h.2
 simpa [wantN,h3] using this
theorem cells_nA (n:Nd):(nA n).cells=nC n:=rfl
theorem walk_ok:∀ (f:Nat) (a b:List Nd) (p:Nat) (ra rb:Nat × Nat),vl a p=some ra→vl b p=some rb→ra.1 - p≤f→a.length≤1000000→b.length≤1000000→ACalls Tryz.prog 195 [.sl (a.flatMap nC) a.length,.sl (b.flatMap nC) b.length,i64 p] [] (fun y _=>∃ e:Int,y=.ret (.tup [i64 (cmpF f (sb a p ra.1) (sb b p rb.1)),i64 e])∧(cmpF f (sb a p ra.1) (sb b p rb.1)=0→e=ra.1∧rb.1=ra.1)):=by
 intro f
 induction f with
 | zero =>
  intro a b p ra rb va vb hf
  have:=zaR va
  omega
 | succ f ih =>
  intro a b p ra rb va vb hf hal hbl
  have la:=zaR va
  have lb:=zaR vb
  obtain⟨x,KA⟩:=zbN va
  obtain⟨y,KB⟩:=zbN vb
  have hx:a.getD p n0d=x:=zav KA.node
  have hy:b.getD p n0d=y:=zav KB.node
  have fA:=KA.few
  have fB:=KB.few
  rw [cmpF_sb KA KB]
  obtain⟨D,hD⟩:∃ D,D=za6 (cmpF f) (zcM a (decide (x.kind=5)) p x.kids.toNat) (zcM b (decide (y.kind=5)) p y.kids.toNat):=⟨_,rfl⟩
  rw [← hD]
  obtain⟨C,hC⟩:∃ C,C=if plainO x y≠0 then plainO x y else if D≠0 then D else cmpI x.kids y.kids:=⟨_,rfl⟩
  rw [← hC]
  refine ACalls.body T_ok Tryz.func195 (by kernel_rfl) rfl Tryz.ntmps195 (congrArg Array.toList Tryz.results195) ?_
  refine aQ45 ?_
  refine W_drawM [(8,.mk 8 66),(0,.mk 9 66),(0,.st 8 66 17),(0,.st 9 66 21)] (by kernel_rfl) (by kernel_rfl) (by kernel_rfl) ?_
  refine aQ45 ?_
  refine⟨by omega,by omega,by omega,Nat.lt_of_lt_of_le la.1 la.2,by omega,by omega,by omega,Nat.lt_of_lt_of_le lb.1 lb.2,?_⟩
  refine⟨rfl,rfl,rfl,?_⟩
  refine aQ45 ?_
  refine⟨rfl,rfl,rfl,?_⟩
  refine aQ45 ?_
  rw [hx,hy]
  refine(plainO_ok x y).pure (by simp [renL,ziV]) ?_
  rintro _ σ rfl
  refine⟨zac _ _,?_⟩
  refine aQ45 ?_
  refine⟨fun hp0=>zaF (by simp [AV.ren,renL,zac]) ⟨_,by rw [hC,if_pos hp0],fun h0=>absurd h0 (by rw [hC,if_pos hp0];exact hp0)⟩,fun hp0=>?_⟩
  obtain⟨hk,_,_⟩:=plainO_0.1 hp0
  rw [if_neg (by simp [hp0])] at hC
  have hmp:decide (y.kind=5)=decide (x.kind=5):=by rw [hk]
  have kidA:=@Kids.kid a p x ra KA
  have invA:=KA.inv
  have endA:=KA.ends.1
  have kidB:=@Kids.kid b p y rb KB
  have invB:=KB.inv
  have endB:=KB.ends.1
  simp only [hmp] at kidB invB endB hD
  obtain⟨mp,hm⟩:∃ mp,mp=decide (x.kind=5):=⟨_,rfl⟩
  rw [← hm] at kidA invA endA kidB invB endB hD
  repeat (with_reducible refine zbg ?_)
  rw [zaK]
  refine⟨Nat,fun k=>(k:Int)≤x.kids∧(k:Int)≤y.kids∧eAt a mp p k=eAt b mp p k∧za6 (cmpF f) (zcM a mp p k) (zcM b mp p k)=0,fun k=>[.sl (a.flatMap nC) a.length,.sl (b.flatMap nC) b.length,i64 ((eAt a mp p k:Nat):Int),.bot,.bot,.bot,.bot,.bot,.ptr 0 0,.ptr 1 0,.bot,.bot,.bot,.bot,.bot,.bot,.bot,.bot,.bot,.bot,.bot,.bot,.bot,.bot,.bot,.bot,.bot,.bot,.bot,.bot,.bot,.bot,.bot,.bot,.bot,i64 (min x.kids y.kids),i64 k,.bot,.bot,.bot,.bot,.bot,.bot,.bot,.bot,.bot,.bot,.bot,.bot,.bot,.bot,.bot,.bot,.bot,.bot,.bot,.bot,.bot,.bot,.bot,.bot,.bot,.bot,.bot,.bot,.bot,.bot,.bot,.bot,.bot,.bot,.bot,.bot,.bot,.bot],fun _=>[.rw (nC x),.rw (nC y)],fun k=>x.kids.toNat - k,0,⟨by omega,by omega,rfl,rfl⟩,zab (q:=[0,1]) rfl rfl (by decide) ?_ ?_,?_⟩
  ·refine aQ18 ?_
   try exact⟨by simp [zai],by simp [zai],.inr (by simp [eAt]),.inr rfl⟩
  ·simp [zaw,zar,zcF]
  ·rintro k ⟨k1,k2,ke,kd⟩
   refine aQ45 ?_
   refine⟨fun hlt=>?_,fun hge=>?_⟩
   ·have hlx:k < x.kids.toNat:=by omega
    have hly:k < y.kids.toNat:=by omega
    obtain⟨ra',q1,q2,q3⟩:=kidA hlx
    obtain⟨rb',s1,s2,s3⟩:=kidB hly
    have ia:=invA k (by omega)
    have ia1:=invA (k+1) (by omega)
    have ib:=invB k (by omega)
    have ib1:=invB (k+1) (by omega)
    have ga:=zaR q1
    have gb:=zaR s1
    rw [← ke] at s1
    obtain⟨r1,r2⟩:=firstD_round (g:=cmpF f) hlx hly kd
    refine⟨fun h5=>?_,fun h5=>?_⟩
    ·obtain rfl:mp=true:=by rw [hm,decide_eq_true h5]
     obtain⟨na,na1,na2,_⟩:=q3 h5
     obtain⟨nb,nb1,nb2,_⟩:=s3 (by rw [← hk];exact h5)
     clear q3 s3 kidA kidB
     have hga:=zav na1
     have hgb:=zav nb1
     have la1:=za3 na1
     have lb1:=za3 nb1
     have za:na.kids=0:=zi4 la1.2.2 na2
     have zb:nb.kids=0:=zi4 lb1.2.2 nb2
     have hb1:bK true=1:=rfl
     obtain⟨f',rfl⟩:∃ f',f=f'+1:=⟨f - 1,by omega⟩
     have hpk:=piece_m (cmpF (f'+1)) a b p k
     rw [sb_one la1.1,sb_one lb1.1,hga,hgb,cmpF_one f' za zb] at hpk
     rw [← ke] at hgb lb1
     refine zcw (by kernel_rfl) (by kernel_rfl) ?_
     refine aQ45 ?_
     refine⟨by omega,by omega,by omega,la1.1,by omega,by omega,by omega,lb1.1,?_⟩
     rw [hga,hgb]
     refine zcg (plainO_ok na nb) (by simp [renL,ziV]) (zac _ _) ?_
     refine aQ45 ?_
     refine⟨fun hne=>zaF (by simp [AV.ren,renL,zac]) ⟨_,by rw [hC,hD,r2 (by rw [hpk,if_pos hne];exact hne),hpk,if_pos hne,if_pos hne],fun h0=>absurd h0 (by rw [hC,hD,r2 (by rw [hpk,if_pos hne];exact hne),hpk,if_pos hne,if_pos hne];exact hne)⟩,fun heq=>?_⟩
     have hpv:=hpk
     rw [if_neg (by simp [heq]),q2,s2,← ke] at hpv
     repeat (with_reducible refine zbg ?_)
     refine(ih a b (eAt a true p k+bK true) ra' rb' q1 s1 (by omega) hal hbl).pure aQ10 ?_
     rintro _ σ ⟨e',rfl,he'⟩
     refine⟨by simp [AEnd.noid,AV.ren,renL,zac],?_⟩
     obtain⟨v,hv⟩:∃ v,v=cmpF (f'+1) (sb a (eAt a true p k+bK true) ra'.1) (sb b (eAt a true p k+bK true) rb'.1):=⟨_,rfl⟩
     rw [← hv] at he' hpv ⊢
     refine aQ45 ?_
     refine⟨fun hne=>zaF (by simp [AV.ren,renL,zac]) ⟨_,by rw [hC,hD,r2 (by rw [hpv];exact hne),hpv,if_pos hne],fun h0=>absurd h0 (by rw [hC,hD,r2 (by rw [hpv];exact hne),hpv,if_pos hne];exact hne)⟩,fun heq=>?_⟩
     obtain⟨e1,e2⟩:=he' heq
     repeat (with_reducible refine zbg ?_)
     rw [zad]
     refine⟨k+1,⟨by omega,by omega,by rw [q2,s2,e2],by rw [r1,hpv,heq]⟩,by (show x.kids.toNat - (k+1) < x.kids.toNat - k);omega,zab (q:=[0,1]) rfl rfl (by decide) ?_ ?_⟩
     ·refine aQ18 ?_
      exact⟨by simp [zai],by simp [zai],.inr (by rw [e1,q2]),.inr (by omega)⟩
     ·simp [zaw,zar,zcF]
    ·obtain rfl:mp=false:=by rw [hm,decide_eq_false h5]
     clear q3 s3 kidA kidB
     have hpv:=piece_l (cmpF f) a b p k
     have hb1:bK false=0:=rfl
     rw [q2,s2,← ke] at hpv
     refine(ih a b (eAt a false p k+bK false) ra' rb' q1 s1 (by omega) hal hbl).pure aQ10 ?_
     rintro _ σ ⟨e',rfl,he'⟩
     refine⟨by simp [AEnd.noid,AV.ren,renL,zac],?_⟩
     obtain⟨v,hv⟩:∃ v,v=cmpF f (sb a (eAt a false p k+bK false) ra'.1) (sb b (eAt a false p k+bK false) rb'.1):=⟨_,rfl⟩
     rw [← hv] at he' hpv ⊢
     refine aQ45 ?_
     refine⟨fun hne=>zaF (by simp [AV.ren,renL,zac]) ⟨_,by rw [hC,hD,r2 (by rw [hpv];exact hne),hpv,if_pos hne],fun h0=>absurd h0 (by rw [hC,hD,r2 (by rw [hpv];exact hne),hpv,if_pos hne];exact hne)⟩,fun heq=>?_⟩
     obtain⟨e1,e2⟩:=he' heq
     repeat (with_reducible refine zbg ?_)
     rw [zad]
     refine⟨k+1,⟨by omega,by omega,by rw [q2,s2,e2],by rw [r1,hpv,heq]⟩,by (show x.kids.toNat - (k+1) < x.kids.toNat - k);omega,zab (q:=[0,1]) rfl rfl (by decide) ?_ ?_⟩
     ·refine aQ18 ?_
      exact⟨by simp [zai],by simp [zai],.inr (by rw [e1,q2]),.inr (by omega)⟩
     ·simp [zaw,zar,zcF]
   ·refine(cmpI_ok x.kids y.kids).pure (by simp [renL,zac]) ?_
    rintro _ σ rfl
    refine⟨zac _ _,?_⟩
    refine aQ45 ?_
    have hD0:D=0:=by
     rw [hD]
     exact firstD_last (k:=k) (by omega) (by omega) (by omega) kd
    rw [if_neg (by simp [hD0])] at hC
    refine zaF (by simp [AV.ren,renL,zac]) ⟨_,by rw [hC],fun h0=>?_⟩
    rw [hC,cmpI_0] at h0
    obtain rfl:k=x.kids.toNat:=by omega
    have e2:y.kids.toNat=x.kids.toNat:=by omega
    rw [e2] at endB
    exact⟨by rw [endA],by rw [← endA,← endB,ke]⟩
set_option linter.defProp false in
def LB16:=And.intro @mk_sl0 (And.intro @cells_nA (@ldw_0))
theorem zg4 {g h:List Nd→List Nd→Int}:∀ (L M:List (List Nd)),(∀ x∈L,∀ y∈M,g x y=h x y)→za6 g L M=za6 h L M
 | [],_,_=>rfl
 | _::_,[],_=>rfl
 | a::L,b::M,hh=>by
  simp only [za6]
  rw [hh a (List.mem_cons_self ..) b (List.mem_cons_self ..),zg4 L M (fun x hx y hy=>hh x (List.mem_cons_of_mem _ hx) y (List.mem_cons_of_mem _ hy))]
theorem cmpF_fuel:∀ (f g:Nat) (a b:List Nd),Val a→Val b→a.length≤f→a.length≤g→cmpF f a b=cmpF g a b:=by
 intro f
 induction f with
 | zero =>
  intro g a b ⟨_,d,hv⟩ _ hf
  have:=zaR hv
  omega
 | succ f ih =>
  intro g a b hA hB hf hg
  obtain⟨ha,da,va⟩:=hA
  obtain⟨hb,db,vb⟩:=hB
  have la:=(zaR va).1
  obtain⟨g,rfl⟩:∃ g',g=g'+1:=⟨g - 1,by dsimp only at la;omega⟩
  obtain⟨x,KA⟩:=zbN va
  obtain⟨y,KB⟩:=zbN vb
  have hx:a.getD 0 n0d=x:=zav KA.node
  have hy:b.getD 0 n0d=y:=zav KB.node
  rw [zgj,zgj]
  dsimp only
  rw [hx,hy]
  have vA:=zhm ⟨ha,da,va⟩ KA
  have vB:=zhm ⟨hb,db,vb⟩ KB
  rw [zg4 _ _ fun u hu v hv=>ih g u v (vA u hu).1 (vB v hv).1 (by have:=(vA u hu).2;omega) (by have:=(vA u hu).2;omega)]
def cmpV (a b:List Nd):Int:=cmpF a.length a b
theorem cmpV_eq {a b:List Nd} (hA:Val a) (hB:Val b) {f:Nat} (hf:a.length≤f):cmpF f a b=cmpV a b:=cmpF_fuel f a.length a b hA hB hf (Nat.le_refl _)
theorem cmpR_eq {a b:List Nd}:cmpR a b=if zau a=0∧zau b=0 then cmpV a b else 0:=rfl
theorem sb_all (l:List Nd):sb l 0 l.length=l:=by simp [sb]
theorem ocmp_ok (a b:List Nd) (hA:Val a) (hB:Val b):ACalls Tryz.prog 164 [.sl (a.flatMap nC) a.length,.sl (b.flatMap nC) b.length] [] (fun y _=>y=.ret (i64 (cmpV a b))):=by
 obtain⟨ha,da,va⟩:=hA
 obtain⟨hb,db,vb⟩:=hB
 refine ACalls.body T_ok Tryz.func164 (by kernel_rfl) rfl Tryz.ntmps164 (congrArg Array.toList Tryz.results164) ?_
 refine aQ46 ?_
 refine(walk_ok a.length a b 0 _ _ va vb (Nat.le_refl _) (by omega) (by omega)).pure aQ10 ?_
 rintro _ σ ⟨e,rfl,_⟩
 refine⟨by simp [AEnd.noid,AV.ren,renL,zac],?_⟩
 rw [sb_all,sb_all,cmpV_eq ⟨ha,da,va⟩ ⟨hb,db,vb⟩ (Nat.le_refl _)]
 refine aQ46 ?_
 exact zap rfl
theorem bs_ss2 (e:TypeId) (c d:List AV) (n m:Nat) (σ:zaa) (K:AV→zaa→Prop):bs2 (some (tySl e)) 2 [(0,.sl c n),(1,.sl d m)] σ K=K (.ref σ.length 0 2 1) (σ++[.rw [.sl c n,.sl d m]]):=bs_sl_2 e _ _ rfl rfl rfl rfl σ K
theorem ldd_Ns0 {K:AV→Prop} (e:TypeId) (L:List (List Nd)):ld2 (some (tySl e)) (some (L.map slNs)) 0 K=(0 < L.length∧K (slNs (L.getD 0 []))):=ldd_Ns e L 0 K
theorem oCompare_ok (a b:List Nd) (ha:a.length≤1000) (hb:b.length≤1000):ACalls Tryz.prog 130 [.sl (a.flatMap nC) a.length,.sl (b.flatMap nC) b.length] [] (fun y _=>y=.ret (i64 (cmpR a b))):=by
 refine ACalls.body T_ok Tryz.func130 (by kernel_rfl) rfl Tryz.ntmps130 (congrArg Array.toList Tryz.results130) ?_
 refine aQ47 ?_
 refine ACalls.frz [0] (l':=[.sl ([a,b].map slNs) [a,b].length]) ⟨_,_,rfl,frz_Ns (L:=[a,b]) rfl rfl,rfl⟩ ?_
 refine(ovalues_ok [a,b] (by simp) (by simp;omega)).pure (noid_Ns _ _ _) ?_
 rintro _ σ ⟨rfl,rfl⟩
 refine⟨by simp [AEnd.noid,AV.ren,renL,zal,zay],?_⟩
 have hall:allV [a,b]=decide (zau a=0∧zau b=0):=by simp [allV]
 rw [hall,cmpR_eq]
 by_cases h:zau a=0∧zau b=0
 ·rw [decide_eq_true h,if_pos rfl,if_pos h]
  obtain⟨L,hL⟩:∃ L,L=[a,b]:=⟨_,rfl⟩
  rw [← hL]
  have h0:L.getD 0 []=a:=by rw [hL];rfl
  have h1:L.getD 1 []=b:=by rw [hL];rfl
  have hl:L.length=2:=by rw [hL];rfl
  refine aQ47 ?_
  refine zcw (by kernel_rfl) (by kernel_rfl) ?_
  refine aQ47 ?_
  refine⟨by omega,by omega,by omega,by omega,by omega,by omega,by omega,by omega,?_⟩
  rw [h0,h1]
  refine zcg (ocmp_ok a b (val_of h.1) (val_of h.2)) (noid_N2 _ _ _ _ _) (zac _ _) ?_
  refine aQ47 ?_
  exact zap rfl
 ·rw [decide_eq_false h,if_neg h]
  refine aQ47 ?_
  exact zap rfl
end Go.Proofs.YtdigkoejfgmecaaGreatDoor
end

