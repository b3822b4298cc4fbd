/-
  The document's own values, and how it puts them. No condition.
-/
import Derived.Test.YtcahoelfogjljaaGreatDoorTerF
import Derived.Sort.Walk0
set_option linter.unusedSimpArgs false
set_option linter.unusedVariables false
set_option linter.unusedSectionVars false
section
namespace Go.Eng
open Go
theorem aQ39 {P Q:Prop} (h:Q) (e:P=Q:=by first|(simp -implicitDefEqProofs only [LM0,LB21,eq_self,zam,ia_slI,TB,SB,Int.reduceToNat,Nat.reduceAdd,Nat.reduceEqDiff,Nat.reduceLT,Nat.reduceMod,Nat.reducePow,Nat.reduceSub,if_true,reduceIte];first|done|exact rfl)|exact rfl):P:=e ▸ h
theorem aQ40 {P Q:Prop} (h:Q) (e:P=Q:=by first|(simp -implicitDefEqProofs only [LM7,eq_self,zam,TB,SB,Int.reduceToNat,Nat.reduceAdd,Nat.reduceEqDiff,Nat.reduceLT,Nat.reduceMod,Nat.reducePow,Nat.reduceSub,if_true,reduceIte];first|done|exact rfl)|exact rfl):P:=e ▸ h
theorem aQ41 {P Q:Prop} (h:Q) (e:P=Q:=by first|(simp -implicitDefEqProofs only [LM7,eq_self,zam,zau,TB,SB,Int.reduceToNat,Nat.reduceAdd,Nat.reduceEqDiff,Nat.reduceLT,Nat.reduceMod,Nat.reducePow,Nat.reduceSub,if_true,reduceIte];first|done|exact rfl)|exact rfl):P:=e ▸ h
end Go.Eng
end

section
namespace Go.Proofs.YtcahoelfogjljaaGreatDoor
open Go Go.Eng
theorem plain_eq (n:Nd):zbU n=(decide (0≤n.kind) && (decide (n.kind≤5) && ((decide (n.kind=2) || (decide (n.num=0) || (decide (n.kind=1) && decide (n.num=1)))) && ((decide (n.kind=3) || decide (n.text=[])) && (decide (n.kids=0) || (decide (0 < n.kids) && (decide (n.kind=4) || decide (n.kind=5)))))))):=by
 obtain⟨k,m,t,c⟩:=n
 rw [Bool.eq_iff_iff]
 simp only [zbU,wantN,Bool.and_eq_true,Bool.or_eq_true,decide_eq_true_eq]
 constructor
 ·rintro⟨⟨h1,h2⟩,h3⟩
  refine⟨h1,h2,?_⟩
  split at h3
  ·split at h3 <;> (simp only [Nd.mk.injEq] at h3;obtain⟨_,h4,h5,h6⟩:=h3;refine⟨by omega,.inr h5,.inl h6⟩)
  ·split at h3
   ·simp only [Nd.mk.injEq] at h3
    obtain⟨_,h4,h5,h6⟩:=h3
    exact⟨by omega,.inr h5,.inl h6⟩
   ·split at h3
    ·simp only [Nd.mk.injEq] at h3
     obtain⟨_,h4,h5,h6⟩:=h3
     exact⟨by omega,.inl (by assumption),.inl h6⟩
    ·split at h3
     ·simp only [Nd.mk.injEq] at h3
      obtain⟨_,h4,h5,h6⟩:=h3
      exact⟨by omega,.inr h5,by omega⟩
     ·simp only [Nd.mk.injEq] at h3
      obtain⟨_,h4,h5,h6⟩:=h3
      exact⟨by omega,.inr h5,.inl h6⟩
 ·rintro⟨h1,h2,h3,h4,h5⟩
  refine⟨⟨h1,h2⟩,?_⟩
  split
  ·split
   ·simp only [Nd.mk.injEq]
    exact⟨by omega,by omega,by rcases h4 with h | h;exact absurd h (by omega);exact h,by omega⟩
   ·simp only [Nd.mk.injEq]
    exact⟨by omega,by omega,by rcases h4 with h | h;exact absurd h (by omega);exact h,by omega⟩
  ·split
   ·simp only [Nd.mk.injEq]
    exact⟨by omega,trivial,by rcases h4 with h | h;exact absurd h (by omega);exact h,by omega⟩
   ·split
    ·simp only [Nd.mk.injEq]
     exact⟨by omega,by omega,trivial,by omega⟩
    ·split
     ·simp only [Nd.mk.injEq]
      exact⟨trivial,by omega,by rcases h4 with h | h;exact absurd h (by omega);exact h,by omega⟩
     ·simp only [Nd.mk.injEq]
      exact⟨trivial,by omega,by rcases h4 with h | h;exact absurd h (by omega);exact h,by omega⟩
theorem gGo_cases {p:Prop} [Decidable p] {want:Bool} {A:Bool→Prop} (h1:p→gGo (bl true) want A) (h2:¬ p→gGo (bl false) want A):gGo (bl (decide p)) want A:=by
 by_cases h:p
 ·rw [decide_eq_true h];exact h1 h
 ·rw [decide_eq_false h];exact h2 h
set_option maxHeartbeats 4000000 in
theorem plain_ok (n:Nd):ACalls Tryz.prog 83 [nA n] [] (fun y _=>y=.ret (bl (zbU n))):=by
 refine ACalls.body T_ok Tryz.func83 (by kernel_rfl) rfl Tryz.ntmps83 (congrArg Array.toList Tryz.results83) ?_
 rw [plain_eq]
 iterate 13
  all_goals
   first|exact aQ23 trivial|refine aQ23 ?_
  all_goals try (refine gGo_cases (fun h=>?_) (fun h=>?_) <;> first | (exfalso;omega) | (rw [decide_eq_true h]) | (rw [decide_eq_false h]) | skip)
 all_goals (refine zaE ?_;simp_all)
theorem rSame_ok (a b:List Nd) (ha:a.length≤1000000000000):ACalls Tryz.prog 14 [.sl (a.flatMap nC) a.length,.sl (b.flatMap nC) b.length] [] (fun y _=>y=.ret (bl (decide (a=b)))):=by
 refine ACalls.body T_ok Tryz.func14 (by kernel_rfl) rfl Tryz.ntmps14 (congrArg Array.toList Tryz.results14) ?_
 refine aQ23 ?_
 refine⟨fun hne=>?_,fun heq=>?_⟩
 ·refine zaE ?_
  rw [decide_eq_false (fun h=>hne (by rw [h]))]
 have hl:a.length=b.length:=by omega
 rw [zaN]
 refine⟨Nat,fun k=>k≤a.length∧∀ i,i < k→a.getD i n0d=b.getD i n0d,fun k=>[.sl (a.flatMap nC) a.length,.sl (b.flatMap nC) b.length,.bot,.bot,bl false,i64 k,.bot,.bot,.bot,.bot,.bot,.bot,.bot,.bot,.bot,.bot,.bot,.bot,.bot,.bot,.bot,.bot,.bot,.bot,.bot,.bot],fun _=>[],fun k=>a.length - k,0,⟨Nat.zero_le _,fun i hi=>by omega⟩,?_,?_⟩
 ·refine zab (q:=[]) rfl rfl (by decide) ?_ ?_
  ·refine aQ19 ?_
   simp [zat,AV.ren,renL]
  ·first|exact aQ19 trivial|refine aQ19 ?_
 ·rintro k ⟨hk,hsame⟩
  refine aQ23 ?_
  refine⟨fun hlt=>?_,fun hge=>?_⟩
  ·refine zdb (by kernel_rfl) (by kernel_rfl) ?_
   refine aQ23 ?_
   repeat (with_reducible refine zbt ?_)
   refine⟨fun hne=>?_,fun heq=>?_⟩
   ·refine zaE ?_
    rw [decide_eq_false (by rintro rfl;exact hne rfl)]
   ·repeat (with_reducible refine zbt ?_)
    rw [zac]
    refine⟨k+1,⟨by omega,fun i hi=>?_⟩,by omega,zab (q:=[]) rfl rfl (by decide) ?_ ?_⟩
    ·rcases Nat.lt_succ_iff_lt_or_eq.1 hi with h | rfl
     ·exact hsame i h
     ·simpa using heq
    ·refine aQ19 ?_
     simp [zat,AV.ren,renL]
    ·first|exact aQ19 trivial|refine aQ19 ?_
  ·obtain rfl:k=a.length:=by omega
   refine aQ23 ?_
   refine zaE ?_
   rw [decide_eq_true (List.ext_getElem hl fun i h1 h2=>by have:=hsame i h1;simpa [h1,h2] using this)]
theorem rTexts_ok (a b:List (List UInt8)) (ha:a.length≤1000000000000):ACalls Tryz.prog 21 [.sl (a.map str) a.length,.sl (b.map str) b.length] [] (fun y _=>y=.ret (bl (decide (a=b)))):=by
 refine ACalls.body T_ok Tryz.func21 (by kernel_rfl) rfl Tryz.ntmps21 (congrArg Array.toList Tryz.results21) ?_
 refine aQ23 ?_
 refine⟨fun hne=>?_,fun heq=>?_⟩
 ·refine zaE ?_
  rw [decide_eq_false (fun h=>hne (by rw [h]))]
 have hl:a.length=b.length:=by omega
 rw [zaN]
 refine⟨Nat,fun k=>k≤a.length∧∀ i,i < k→a.getD i []=b.getD i [],fun k=>[.sl (a.map str) a.length,.sl (b.map str) b.length,.bot,.bot,bl false,i64 k,.bot,.bot,.bot,.bot,.bot,.bot,.bot,.bot,.bot,.bot,.bot,.bot,.bot,.bot,.bot,.bot,.bot,.bot,.bot,.bot],fun _=>[],fun k=>a.length - k,0,⟨Nat.zero_le _,fun i hi=>by omega⟩,?_,?_⟩
 ·refine zab (q:=[]) rfl rfl (by decide) ?_ ?_
  ·refine aQ19 ?_
   simp [zaX,AV.ren,renL]
  ·first|exact aQ19 trivial|refine aQ19 ?_
 ·rintro k ⟨hk,hsame⟩
  refine aQ23 ?_
  refine⟨fun hlt=>?_,fun hge=>?_⟩
  ·refine zdb (by kernel_rfl) (by kernel_rfl) ?_
   refine aQ23 ?_
   repeat (with_reducible refine zbt ?_)
   refine⟨fun hne=>?_,fun heq=>?_⟩
   ·refine zaE ?_
    rw [decide_eq_false (by rintro rfl;exact hne rfl)]
   ·repeat (with_reducible refine zbt ?_)
    rw [zac]
    refine⟨k+1,⟨by omega,fun i hi=>?_⟩,by omega,zab (q:=[]) rfl rfl (by decide) ?_ ?_⟩
    ·rcases Nat.lt_succ_iff_lt_or_eq.1 hi with h | rfl
     ·exact hsame i h
     ·simpa using heq
    ·refine aQ19 ?_
     simp [zaX,AV.ren,renL]
    ·first|exact aQ19 trivial|refine aQ19 ?_
  ·obtain rfl:k=a.length:=by omega
   refine aQ23 ?_
   refine zaE ?_
   rw [decide_eq_true (List.ext_getElem hl fun i h1 h2=>by have:=hsame i h1;simpa [h1,h2] using this)]
end Go.Proofs.YtcahoelfogjljaaGreatDoor
end

section
namespace Go.Proofs.YtcahoelfogjljaaGreatDoor
open Go Go.Eng
def sC (e d:Int) (b:Bool) (k s:AV):List AV:=[i64 e,i64 d,bl b,k,s]
def slI (l:List Int):AV:=.sl (l.map i64) l.length
def seenV (e d:Int) (b:Bool) (k s:List Int):AV:=.agg (sC e d b (slI k) (slI s))
section
variable {e d : Int} {b : Bool} {k s : AV} {σ : zaa} {K : AV → Prop} {KS : AV → zaa → Prop} {t : TypeId} {id : Nat}
theorem fa_s0 (ht:T t=some tySn):zaf T t (.ptr id 0) 0 K=K (.ptr id 0):=by simp [zaf,ht,tySn,T3,zaD]
theorem fa_s1 (ht:T t=some tySn):zaf T t (.ptr id 0) 1 K=K (.ptr id 1):=by simp [zaf,ht,tySn,T3,zaD]
theorem fa_s2 (ht:T t=some tySn):zaf T t (.ptr id 0) 2 K=K (.ptr id 2):=by simp [zaf,ht,tySn,T4,zeM]
theorem fa_s3 (ht:T t=some tySn):zaf T t (.ptr id 0) 3 K=K (.ptr id 3):=by simp [zaf,ht,tySn,T47,tySl]
theorem fa_s4 (ht:T t=some tySn):zaf T t (.ptr id 0) 4 K=K (.ptr id 4):=by simp [zaf,ht,tySn,T47,tySl]
theorem ld_s0:ld2 (some zaD) (some (sC e d b k s)) 0 K=K (i64 e):=by simp [ld2,wfin,zaD,TD.agg,sC]
theorem ld_s1:ld2 (some zaD) (some (sC e d b k s)) 1 K=K (i64 d):=by simp [ld2,wfin,zaD,TD.agg,sC]
theorem ld_sb:ld2 (some zeM) (some (sC e d b k s)) 2 K=K (bl b):=by simp [ld2,wfin,zeM,TD.agg,sC]
theorem ld_s3 (x:TypeId):ld2 (some (tySl x)) (some (sC e d b k s)) 3 K=K k:=by simp [ld2,wfin,tySl,TD.agg,sC]
theorem ld_s4 (x:TypeId):ld2 (some (tySl x)) (some (sC e d b k s)) 4 K=K s:=by simp [ld2,wfin,tySl,TD.agg,sC]
theorem ld_sw:ld2 (some tySn) (some (sC e d b k s)) 0 K=K (.agg (sC e d b k s)):=by simp [ld2,wfin,tySn,TD.agg,sC]
theorem al_sn (x:TypeId):al1 T x (some tySn) σ KS=KS (.ptr σ.length 0) (σ++[.rw (sC 0 0 false (.lit (.slice none 0 0)) (.lit (.slice none 0 0)))]):=by
 simp [al1,tySn,zaI,sC,i64,bl]
theorem st_s3 (x:TypeId) (j n:Nat):st2 (some (tySl x)) (some (.rw (sC e d b k s))) id 3 (.ref j 0 n 1) σ KS=KS (.lit undef) (σ.set id (.rw (sC e d b (.ref j 0 n 1) s))):=by
 simp [st2,tySl,sC,AV.cells,AV.one,za7]
theorem st_s4 (x:TypeId) (j n:Nat):st2 (some (tySl x)) (some (.rw (sC e d b k s))) id 4 (.ref j 0 n 1) σ KS=KS (.lit undef) (σ.set id (.rw (sC e d b k (.ref j 0 n 1)))):=by
 simp [st2,tySl,sC,AV.cells,AV.one,za7]
theorem st_swn (e' d':Int) (b':Bool):st2 (some tySn) (some (.rw (sC e d b k s))) id 0 (.agg (sC e' d' b' (.lit (.slice none 0 0)) (.lit (.slice none 0 0)))) σ KS=KS (.lit undef) (σ.set id (.rw (sC e' d' b' (.lit (.slice none 0 0)) (.lit (.slice none 0 0))))):=by
 simp [st2,tySn,sC,AV.cells,AV.one,Value.oneCell',za7,i64,bl]
theorem st_sws (e' d':Int) (b':Bool) (k' s':List Int):st2 (some tySn) (some (.rw (sC e d b k s))) id 0 (.agg (sC e' d' b' (slI k') (slI s'))) σ KS=KS (.lit undef) (σ.set id (.rw (sC e' d' b' (slI k') (slI s')))):=by
 simp [st2,tySn,sC,slI,AV.cells,AV.one,Value.oneCell',za7,i64,bl]
theorem bd_s2 (ht:T t=some tySn) (x:Bool):za1 T t [(2,bl x)] K=K (.agg (sC 0 0 x (.lit (.slice none 0 0)) (.lit (.slice none 0 0)))):=by
 simp [za1,ht,tySn,T3,T47,T4,zbF,zaI,cells_bl',one_bl',za7,zaD,tySl,zeM,sC]
 try rfl
theorem bd_s0 (ht:T t=some tySn) (x:Int):za1 T t [(0,i64 x)] K=K (.agg (sC x 0 false (.lit (.slice none 0 0)) (.lit (.slice none 0 0)))):=by
 simp [za1,ht,tySn,T3,T47,T4,zbF,zaI,zb2,zb9,za7,zaD,tySl,zeM,sC]
 try rfl
theorem fl_s0 (ht:T t=some tySn):zeJ T t (.agg (sC e d b k s)) 0 K=K (i64 e):=by
 simp [zeJ,ht,tySn,T3,zjk,zaD,sC,TD.agg]
end
def cI (l:List Int):List AV:=l.map i64
theorem cI_one (l:List Int):(cI l).all AV.one=true:=by simp [cI,i64,AV.one,Value.oneCell']
theorem cI_len (l:List Int):(cI l).length=l.length:=by simp [cI]
def wapA (x:Option (List AV × Nat)) (σ:zaa) (id n:Nat) (KS:AV→zaa→Prop) (b:Option Blk):Prop:=match x,b with
 | some (xs,m),some (.rw cs)=>n≤cs.length∧xs.all AV.one=true∧(cs.take n).all AV.one=true∧n+m≤9223372036854775807∧(n+m) * 8≤140737488355328∧KS (.ref σ.length 0 (n+m) 1) (σ.set id .dead++[.rw (cs.take n++xs)])
 | _,_=>False
theorem app_I {x:AV} {σ:zaa} {id n:Nat} {KS:AV→zaa→Prop}:zbn T #[47,47] (.ref id 0 n 1) x σ KS=wapA (asrc σ 1 x) σ id n KS (σ[id]?):=by
 have e1:(#[47,47]:Array TypeId)[0]?=some 47:=rfl
 have e2:(#[47,47]:Array TypeId)[1]?=some 47:=rfl
 simp only [zbn,e1,e2,Option.bind_some,T47,tySl,T3]
 cases hx:asrc σ 1 x with
 | none=>simp [wapA,zaD,hx]
 | some q =>
  obtain⟨xs,m⟩:=q
  cases hb:σ[id]? with
  | none=>simp [wapA,zaD,hx,adst,adstT,hb]
  | some b =>
   cases b <;> simp [wapA,zaD,hx,adst,adstT,hb]
   rename_i cs
   by_cases hn:n≤cs.length
   ·simp [hn]
   ·simp [hn]
theorem wapA_0 {σ:zaa} {id m:Nat} {KS:AV→zaa→Prop} (ys:List Int):wapA (some (cI ys,m)) σ id 0 KS (some (.rw []))=(m≤9223372036854775807∧m * 8≤140737488355328∧KS (.ref σ.length 0 m 1) (σ.set id .dead++[.rw (cI ys)])):=by
 simp only [wapA,cI_one,List.take_nil,List.nil_append,List.length_nil,Nat.le_refl,List.all_nil,true_and,Nat.zero_add]
theorem wapA_1 {σ:zaa} {id:Nat} {KS:AV→zaa→Prop} (l:List Int) (a:Int):wapA (some ([i64 a],1)) σ id l.length KS (some (.rw (cI l)))=(l.length+1≤9223372036854775807∧(l.length+1) * 8≤140737488355328∧KS (.ref σ.length 0 (l.length+1) 1) (σ.set id .dead++[.rw (cI (l++[a]))])):=by
 have h1:(cI l).take l.length=cI l:=List.take_of_length_le (by rw [cI_len];omega)
 have h2:cI l++[i64 a]=cI (l++[a]):=by simp [cI]
 have h3:[i64 a].all AV.one=true:=rfl
 simp only [wapA,cI_len,Nat.le_refl,h1,h2,h3,cI_one,true_and]
theorem asrc_slI {σ:zaa} (l:List Int):asrc σ 1 (slI l)=some (cI l,l.length):=by
 simp [asrc,asl,slI,cI]
 exact List.take_of_length_le (by simp)
def asrB (n:Nat):Option Blk→Option (List AV × Nat)
 | some (.rw cs)=>if n≤cs.length then some (cs.take n,n) else none
 | some (.ro cs)=>if n≤cs.length then some (cs.take n,n) else none
 | some (.rt _ _ cs)=>if n≤cs.length then some (cs.take n,n) else none
 | some (.fz _ _ cs)=>if n≤cs.length then some (cs.take n,n) else none
 | _=>none
theorem asrc_rI {σ:zaa} (id n:Nat):asrc σ 1 (.ref id 0 n 1)=asrB n (σ[id]?):=by
 simp only [asrc,asl,rd,if_true,Nat.mul_one,Nat.zero_add,List.drop_zero]
 cases σ[id]? with
 | none=>rfl
 | some b=>cases b <;> rfl
theorem asrB_1 (a:Int):asrB 1 (some (.rw [i64 a]))=some ([i64 a],1):=rfl
theorem bs_I0 {σ:zaa} {KS:AV→zaa→Prop}:bs2 (some zaD) 0 [] σ KS=KS (.ref σ.length 0 0 1) (σ++[.rw []]):=by
 simp [bs2,zaD,zbF,zbV]
theorem bs_I1 {σ:zaa} {KS:AV→zaa→Prop} (a:Int):bs2 (some zaD) 1 [(0,i64 a)] σ KS=KS (.ref σ.length 0 1 1) (σ++[.rw [i64 a]]):=by
 rw [bs_i64_1];rfl
theorem len_sC (e d:Int) (b:Bool) (k s:AV):(sC e d b k s).length=5:=rfl
theorem set_s0 (e d:Int) (b:Bool) (k s:AV) (x:Int):(sC e d b k s).set 0 (i64 x)=sC x d b k s:=rfl
theorem set_s1 (e d:Int) (b:Bool) (k s:AV) (x:Int):(sC e d b k s).set 1 (i64 x)=sC e x b k s:=rfl
theorem set_sb (e d:Int) (b:Bool) (k s:AV) (x:Bool):(sC e d b k s).set 2 (bl x)=sC e d x k s:=rfl
end Go.Proofs.YtcahoelfogjljaaGreatDoor
end

section
namespace Go.Proofs.YtcahoelfogjljaaGreatDoor
open Go Go.Eng
set_option linter.defProp false in
def LB21:=And.intro @app_I (And.intro @wapA_0 (And.intro @wapA_1 (And.intro @asrc_slI (And.intro @asrc_rI (And.intro @asrB_1 (And.intro @bs_I0 (And.intro @bs_I1 (And.intro @len_sC (And.intro @set_s0 (And.intro @set_s1 (And.intro @set_sb (And.intro (fun {K} {id}=>@fa_s0 K _ id T68) (And.intro (fun {K} {id}=>@fa_s1 K _ id T68) (And.intro (fun {K} {id}=>@fa_s2 K _ id T68) (And.intro (fun {K} {id}=>@fa_s3 K _ id T68) (And.intro (fun {K} {id}=>@fa_s4 K _ id T68) (And.intro @ld_s0 (And.intro @ld_s1 (And.intro @ld_sb (And.intro @ld_s3 (And.intro @ld_s4 (And.intro @ld_sw (And.intro @al_sn (And.intro @st_s3 (And.intro @st_s4 (And.intro @st_swn (And.intro @st_sws (And.intro (fun {K}=>@bd_s2 K _ T68) ((fun {K}=>@bd_s0 K _ T68))))))))))))))))))))))))))))))
theorem leB_iff (a b:List UInt8):leB a b=!Op.bytesLess b a:=by
 rw [Bool.eq_iff_iff]
 simp only [leB,Bool.or_eq_true,decide_eq_true_eq,Go.Proofs.bytesLess_eq,Bool.not_eq_true',decide_eq_false_iff_not]
 rw [List.not_lt,List.le_iff_lt_or_eq]
theorem zg3 {V:Nat→Option (Nat × Nat)} {l:List Nd} {mp:Bool} (hV:∀ e r,V e=some r→e < r.1∧r.1≤l.length∧r.2+e≤r.1):∀ (c:Nat) (last:Option (List UInt8)) (e d:Nat) (r:Nat × Nat),e≤l.length→zbu V l mp c last e d=some r→e≤r.1∧r.2≤max d (r.1 - e)
 | 0,last,e,d,r,he,h=>by
  simp only [zbu,Option.some.injEq] at h
  subst h
  exact⟨Nat.le_refl _,by omega⟩
 | c+1,last,e,d,r,he,h=>by
  cases mp with
  | true =>
   rw [zcL] at h
   split at h
   ·split at h
    ·split at h
     ·rename_i r' hr'
      have h1:=hV _ _ hr'
      have h2:=zg3 hV c _ _ _ _ h1.2.1 h
      omega
     ·cases h
    ·cases h
   ·cases h
  | false =>
   rw [zci] at h
   split at h
   ·rename_i r' hr'
    have h1:=hV _ _ hr'
    have h2:=zg3 hV c _ _ _ _ h1.2.1 h
    omega
   ·cases h
theorem vl_deep {l:List Nd}:∀ (m p:Nat) (r:Nat × Nat),l.length - p=m→vl l p=some r→r.2+p≤r.1:=by
 intro m
 induction m using Nat.strongRecOn with
 | _ m ih =>
  intro p r hm h
  have hr:=za6 h
  obtain⟨n,q,h1,h2,rfl⟩:=zjN h
  have hlt:=(zbc h1).1
  have:=zg3 (V:=fun e=>if p < e then vl l e else none) (fun e r' hr'=>by
   split at hr'
   ·have:=za6 hr'
    exact⟨this.1,this.2,ih (l.length - e) (by omega) e r' rfl hr'⟩
   ·cases hr') n.kids.toNat none (p+1) 0 q (by omega) (by
    rw [← h2]
    refine(zdC (V:=vl l) (fun e r h=>(za6 h).1) (p+1) (fun e he=>?_) _ _ _ _ (Nat.le_refl _)).symm
    show vl l e=if p < e then vl l e else none
    rw [if_pos (by omega)])
  dsimp only
  omega
def kidZ (l:List Nd) (p c:Nat):List Int:=(List.range c).map fun k=>((eAt l (decide ((l.getD p n0d).kind=5)) p k+bK (decide ((l.getD p n0d).kind=5)):Nat):Int)
def keyZ (l:List Nd) (p c:Nat):List Int:=if (l.getD p n0d).kind=5 then (List.range c).map fun k=>((eAt l true p k:Nat):Int) else []
def valQ (l:List Nd) (p:Nat):AEnd→zaa→Prop:=fun y σ=>σ=[]∧match vl l p with
 | some r=>y=.ret (seenV r.1 r.2 false (kidZ l p (l.getD p n0d).kids.toNat) (keyZ l p (l.getD p n0d).kids.toNat))
 | none=>∃ e d ks ss,y=.ret (seenV e d true ks ss)∧0≤d∧d≤131+((l.length - p:Nat):Int)
theorem zfq {l : List Nd} {p : Nat} (h : vl l p = none) {σ : zaa} : endQ 0 (.agg (sC 0 0 true (.lit (.slice none 0 0)) (.lit (.slice none 0 0)))) σ (fun r σ' => valQ l p (.ret r) σ') := by
 refine zbE [] (seenV 0 0 true [] []) ⟨_,rfl,_,_,rfl,.inl rfl,_,_,rfl,.inl rfl,_,_,rfl,.inl rfl,_,_,rfl,.inr ⟨rfl,rfl⟩,_,_,rfl,.inr ⟨rfl,rfl⟩,rfl⟩ ⟨[],seenV 0 0 true [] [],[],rfl,rfl,by decide,by simp [seenV,sC,slI,AV.ren,renL,zae,zak],trivial,rfl,?_⟩
 rw [h]
 exact⟨0,0,[],[],rfl,by omega,by omega⟩
structure Going (l:List Nd) (p:Nat) (n:Nd) (mp:Bool) (k:Nat):Prop where
 le:k≤n.kids.toNat
 lo:p+1+k≤eAt l mp p k
 hi:eAt l mp p k≤l.length
 deep:dAt l mp p k+p≤l.length
 at':∀ j,j < k→eAt l mp p j < l.length
 q:zbu (vl l) l mp (n.kids.toNat - k) (zc7 mp k (keyT l mp p (k - 1))) (eAt l mp p k) (dAt l mp p k)=zbu (vl l) l mp n.kids.toNat none (p+1) 0
def kZ (l:List Nd) (mp:Bool) (p k:Nat):List Int:=(List.range k).map fun j=>((eAt l mp p j+bK mp:Nat):Int)
def sZ (l:List Nd) (mp:Bool) (p k:Nat):List Int:=if mp then (List.range k).map fun j=>((eAt l mp p j:Nat):Int) else []
theorem sZ_len (l:List Nd) (p k:Nat):(sZ l true p k).length=k:=by simp [sZ]
theorem sZ_get (l:List Nd) (p k j:Nat) (h:j < k):(sZ l true p k).getD j 0=((eAt l true p j:Nat):Int):=by simp [sZ,h]
theorem ia_slI {K:AV→Prop} (l:List Int) (n:Int):ia3 (some zaD) (slI l) n K=(0≤n∧n < l.length∧K (.rp ((l.map i64).drop n.toNat))):=ia_sl_i64 l n
theorem go_list {l:List Nd} {p:Nat} {n:Nd} {k:Nat} (hG:Going l p n false k) (hk:k < n.kids.toNat) {r:Nat × Nat} (hv:vl l (eAt l false p k)=some r):Going l p n false (k+1)∧eAt l false p (k+1)=r.1∧dAt l false p (k+1)=max (dAt l false p k) r.2:=by
 have he:eAt l false p (k+1)=r.1:=by simp [eAt,bK,zdV,hv]
 have hd:dAt l false p (k+1)=max (dAt l false p k) r.2:=by simp [dAt,bK,depAt,hv]
 have hr:=za6 hv
 have hdp:=vl_deep _ _ _ rfl hv
 have hq:=hG.q
 have hlo:=hG.lo
 have hdd:=hG.deep
 rw [show n.kids.toNat - k=(n.kids.toNat - (k+1))+1 by omega,zci,hv] at hq
 refine⟨⟨by omega,by omega,by omega,by omega,fun j hj=>?_,?_⟩,he,hd⟩
 ·by_cases e:j=k
  ·subst e;omega
  ·exact hG.at' j (by omega)
 ·rw [← hq,he,hd]
  simp [zc7]
theorem go_list_stop {l:List Nd} {p:Nat} {n:Nd} {k:Nat} (hG:Going l p n false k) (hk:k < n.kids.toNat) (hv:vl l (eAt l false p k)=none):zbu (vl l) l false n.kids.toNat none (p+1) 0=none:=by
 rw [← hG.q,show n.kids.toNat - k=(n.kids.toNat - (k+1))+1 by omega,zci,hv]
theorem go_map {l:List Nd} {p:Nat} {n:Nd} {k:Nat} (hG:Going l p n true k) (hk:k < n.kids.toNat) {m:Nd} (hm:zbm l (eAt l true p k)=some m) (hc:m.kind=3∧aftB (zc7 true k (keyT l true p (k - 1))) m.text=true) {r:Nat × Nat} (hv:vl l (eAt l true p k+1)=some r):Going l p n true (k+1)∧eAt l true p (k+1)=r.1∧dAt l true p (k+1)=max (dAt l true p k) r.2:=by
 have he:eAt l true p (k+1)=r.1:=by simp [eAt,bK,zdV,hv]
 have hd:dAt l true p (k+1)=max (dAt l true p k) r.2:=by simp [dAt,bK,depAt,hv]
 have hr:=za6 hv
 have hdp:=vl_deep _ _ _ rfl hv
 have hq:=hG.q
 have hlo:=hG.lo
 have hdd:=hG.deep
 have hkt:m.text=keyT l true p k:=by rw [keyT,zaJ hm]
 rw [show n.kids.toNat - k=(n.kids.toNat - (k+1))+1 by omega,zcL,hm] at hq
 dsimp only at hq
 rw [if_pos hc,hv] at hq
 refine⟨⟨by omega,by omega,by omega,by omega,fun j hj=>?_,?_⟩,he,hd⟩
 ·by_cases e:j=k
  ·subst e;omega
  ·exact hG.at' j (by omega)
 ·rw [← hq,he,hd]
  simp [zc7,hkt]
theorem zfV {l:List Nd} {p:Nat} {n:Nd} {k:Nat} (hG:Going l p n true k) (hk:k < n.kids.toNat) (h:∀ m,zbm l (eAt l true p k)=some m→m.kind=3∧aftB (zc7 true k (keyT l true p (k - 1))) m.text=true→vl l (eAt l true p k+1)=none):zbu (vl l) l true n.kids.toNat none (p+1) 0=none:=by
 rw [← hG.q,show n.kids.toNat - k=(n.kids.toNat - (k+1))+1 by omega,zcL]
 split
 ·rename_i m hm
  split
  ·rename_i hc
   rw [h m hm hc]
  ·rfl
 ·rfl
def goI (l:List Nd) (p:Nat) (n:Nd) (mp:Bool) (i:Nat × Option (Int × Int × List Int × List Int)):Prop:=match i.2 with
 | none=>Going l p n mp i.1
 | some x=>zbu (vl l) l mp n.kids.toNat none (p+1) 0=none∧i.1≤1100∧0≤x.2.1∧x.2.1≤130+((l.length - p:Nat):Int)
def goS (l:List Nd) (p:Nat) (mp:Bool) (i:Nat × Option (Int × Int × List Int × List Int)):zaa:=match i.2 with
 | none=>[.rw (sC 0 0 false (.lit (.slice none 0 0)) (.lit (.slice none 0 0))),.rw (sC (eAt l mp p i.1) (dAt l mp p i.1) false (slI (kZ l mp p i.1)) (slI (sZ l mp p i.1)))]
 | some x=>[.rw (sC 0 0 false (.lit (.slice none 0 0)) (.lit (.slice none 0 0))),.rw (sC x.1 x.2.1 true (slI x.2.2.1) (slI x.2.2.2))]
theorem kZ_succ (l:List Nd) (mp:Bool) (p k:Nat):kZ l mp p (k+1)=kZ l mp p k++[((eAt l mp p k+bK mp:Nat):Int)]:=by simp [kZ,List.range_succ]
theorem sZ_succ (l:List Nd) (p k:Nat):sZ l true p (k+1)=sZ l true p k++[((eAt l true p k:Nat):Int)]:=by simp [sZ,List.range_succ]
theorem frz_sC {σ:zaa} {e d:Int} {b:Bool} {k s k' s':AV} (h1:frzA σ k k') (h2:frzA σ s s'):frzL σ (sC e d b k s) (sC e d b k' s') :=
 ⟨_,_,rfl,.inl rfl,_,_,rfl,.inl rfl,_,_,rfl,.inl rfl,_,_,rfl,h1,_,_,rfl,h2,rfl⟩
theorem frz_niI {σ:zaa}:frzA σ (.lit (.slice none 0 0)) (slI []):=.inr ⟨rfl,rfl⟩
theorem frz_slI {σ:zaa} {l:List Int}:frzA σ (slI l) (slI l):=rfl
theorem zkk {σ:zaa} {id n:Nat} {l:List Int} (h:σ[id]?=some (.ro (l.map i64))) (hn:n=l.length):frzA σ (.ref id 0 n 1) (slI l):=by
 subst hn
 refine .inr ⟨_,h,by simp,?_⟩
 rw [List.drop_zero,List.take_of_length_le (by simp)]
 rfl
theorem zbL (q:List Nat) (e d:Int) (b:Bool) (k s:List Int):renL q (sC e d b (slI k) (slI s))=some (sC e d b (slI k) (slI s)):=by simp [sC,slI,renL,AV.ren,zcN,zae,zak]
theorem zc0 (q:List Nat) (e d:Int) (b:Bool):renL q (sC e d b (.lit (.slice none 0 0)) (.lit (.slice none 0 0)))=some (sC e d b (.lit (.slice none 0 0)) (.lit (.slice none 0 0))):=by simp [sC,renL,AV.ren,zae,zak]
theorem goS_0 (l:List Nd) (p:Nat) (mp:Bool):goS l p mp (0,none)=[.rw (sC 0 0 false (.lit (.slice none 0 0)) (.lit (.slice none 0 0))),.rw (sC ((p:Int)+1) 0 false (slI []) (slI []))]:=by cases mp <;> rfl
theorem valQ_end {l : List Nd} {p : Nat} {e d : Int} {b : Bool} {k s : List Int} (h : valQ l p (.ret (seenV e d b k s)) []) {σ : zaa} : endQ 0 (.agg (sC e d b (slI k) (slI s))) σ (fun r σ' => valQ l p (.ret r) σ') :=
 zaP (by simp [sC,slI,AV.ren,renL,zcN,zae,zak]) h
theorem zhA {l:List Nd} {q:Nat} {y:AEnd} {σ:zaa} (h:valQ l q y σ):∃ e d b ks ss,y=.ret (.agg (sC e d b (slI ks) (slI ss)))∧σ=[]∧0≤d∧d≤131+((l.length - q:Nat):Int)∧((b=false∧∃ r,vl l q=some r∧e=(r.1:Int)∧d=(r.2:Int))∨(b=true∧vl l q=none)):=by
 obtain⟨rfl,h⟩:=h
 cases hv:vl l q with
 | some r =>
  rw [hv] at h
  have h1:=vl_deep _ _ _ rfl hv
  have h2:=za6 hv
  exact⟨_,_,_,_,_,h,rfl,by omega,by omega,.inl ⟨rfl,r,rfl,rfl,rfl⟩⟩
 | none =>
  rw [hv] at h
  obtain⟨e,d,ks,ss,rfl,h1,h2⟩:=h
  exact⟨_,_,_,_,_,rfl,rfl,h1,h2,.inr ⟨rfl,rfl⟩⟩
theorem zcq (e d:Int) (b:Bool) (k s:List Int) (q:List Nat):(AV.agg (sC e d b (slI k) (slI s))).ren q=some (.agg (sC e d b (slI k) (slI s))):=by simp [sC,slI,AV.ren,renL,zcN,zae,zak]
def appT:Tr:=(.br 0 (.br 1 (.br 2 (.br 3 (.br 4 (.br 5 (.br 6 (.br 7 (.br 8 (.br 9 .done .nil) .nil) .nil) .nil) .nil) .nil) (.br 4 (.br 3 (.br 5 (.br 6 (.br 7 (.br 8 (.br 9 .done .nil) .nil) .nil) .nil) .nil) (.br 5 (.br 3 (.br 6 (.br 7 (.br 8 (.br 9 .done .nil) .nil) .nil) .nil) (.br 6 (.br 3 (.br 7 (.br 8 (.br 9 .done .nil) .nil) .nil) .nil) .nil)) .nil)) .nil)) (.br 4 (.br 2 (.br 3 (.br 5 (.br 6 (.br 7 (.br 8 (.br 9 .done .nil) .nil) .nil) .nil) .nil) (.br 5 (.br 3 (.br 6 (.br 7 (.br 8 (.br 9 .done .nil) .nil) .nil) .nil) (.br 6 (.br 3 (.br 7 (.br 8 (.br 9 .done .nil) .nil) .nil) .nil) .nil)) .nil)) (.br 5 (.br 2 (.br 3 (.br 6 (.br 7 (.br 8 (.br 9 .done .nil) .nil) .nil) .nil) (.br 6 (.br 3 (.br 7 (.br 8 (.br 9 .done .nil) .nil) .nil) .nil) .nil)) (.br 6 (.br 2 (.br 3 (.br 7 (.br 8 (.br 9 .done .nil) .nil) .nil) .nil) .nil) .nil)) .nil)) .nil)) (.br 4 (.br 1 (.br 2 (.br 3 (.br 5 (.br 6 (.br 7 (.br 8 (.br 9 .done .nil) .nil) .nil) .nil) .nil) (.br 5 (.br 3 (.br 6 (.br 7 (.br 8 (.br 9 .done .nil) .nil) .nil) .nil) (.br 6 (.br 3 (.br 7 (.br 8 (.br 9 .done .nil) .nil) .nil) .nil) .nil)) .nil)) (.br 5 (.br 2 (.br 3 (.br 6 (.br 7 (.br 8 (.br 9 .done .nil) .nil) .nil) .nil) (.br 6 (.br 3 (.br 7 (.br 8 (.br 9 .done .nil) .nil) .nil) .nil) .nil)) (.br 6 (.br 2 (.br 3 (.br 7 (.br 8 (.br 9 .done .nil) .nil) .nil) .nil) .nil) .nil)) .nil)) (.br 5 (.br 1 (.br 2 (.br 3 (.br 6 (.br 7 (.br 8 (.br 9 .done .nil) .nil) .nil) .nil) (.br 6 (.br 3 (.br 7 (.br 8 (.br 9 .done .nil) .nil) .nil) .nil) .nil)) (.br 6 (.br 2 (.br 3 (.br 7 (.br 8 (.br 9 .done .nil) .nil) .nil) .nil) .nil) .nil)) (.br 6 (.br 1 (.br 2 (.br 3 (.br 7 (.br 8 (.br 9 .done .nil) .nil) .nil) .nil) .nil) .nil) .nil)) .nil)) .nil)) (.br 1 (.br 0 (.br 2 (.br 3 (.br 4 (.br 5 (.br 6 (.br 7 (.br 8 (.br 9 .done .nil) .nil) .nil) .nil) .nil) .nil) (.br 4 (.br 3 (.br 5 (.br 6 (.br 7 (.br 8 (.br 9 .done .nil) .nil) .nil) .nil) .nil) (.br 5 (.br 3 (.br 6 (.br 7 (.br 8 (.br 9 .done .nil) .nil) .nil) .nil) (.br 6 (.br 3 (.br 7 (.br 8 (.br 9 .done .nil) .nil) .nil) .nil) .nil)) .nil)) .nil)) (.br 4 (.br 2 (.br 3 (.br 5 (.br 6 (.br 7 (.br 8 (.br 9 .done .nil) .nil) .nil) .nil) .nil) (.br 5 (.br 3 (.br 6 (.br 7 (.br 8 (.br 9 .done .nil) .nil) .nil) .nil) (.br 6 (.br 3 (.br 7 (.br 8 (.br 9 .done .nil) .nil) .nil) .nil) .nil)) .nil)) (.br 5 (.br 2 (.br 3 (.br 6 (.br 7 (.br 8 (.br 9 .done .nil) .nil) .nil) .nil) (.br 6 (.br 3 (.br 7 (.br 8 (.br 9 .done .nil) .nil) .nil) .nil) .nil)) (.br 6 (.br 2 (.br 3 (.br 7 (.br 8 (.br 9 .done .nil) .nil) .nil) .nil) .nil) .nil)) .nil)) .nil)) (.br 2 (.br 0 (.br 3 (.br 4 (.br 5 (.br 6 (.br 7 (.br 8 (.br 9 .done .nil) .nil) .nil) .nil) .nil) .nil) (.br 4 (.br 3 (.br 5 (.br 6 (.br 7 (.br 8 (.br 9 .done .nil) .nil) .nil) .nil) .nil) (.br 5 (.br 3 (.br 6 (.br 7 (.br 8 (.br 9 .done .nil) .nil) .nil) .nil) (.br 6 (.br 3 (.br 7 (.br 8 (.br 9 .done .nil) .nil) .nil) .nil) .nil)) .nil)) .nil)) (.br 4 (.br 0 (.br 3 (.br 5 (.br 6 (.br 7 (.br 8 (.br 9 .done .nil) .nil) .nil) .nil) .nil) (.br 5 (.br 3 (.br 6 (.br 7 (.br 8 (.br 9 .done .nil) .nil) .nil) .nil) (.br 6 (.br 3 (.br 7 (.br 8 (.br 9 .done .nil) .nil) .nil) .nil) .nil)) .nil)) (.br 5 (.br 0 (.br 3 (.br 6 (.br 7 (.br 8 (.br 9 .done .nil) .nil) .nil) .nil) (.br 6 (.br 3 (.br 7 (.br 8 (.br 9 .done .nil) .nil) .nil) .nil) .nil)) (.br 6 (.br 0 (.br 3 (.br 7 (.br 8 (.br 9 .done .nil) .nil) .nil) .nil) .nil) .nil)) .nil)) .nil)) (.br 4 (.br 0 (.br 2 (.br 3 (.br 5 (.br 6 (.br 7 (.br 8 (.br 9 .done .nil) .nil) .nil) .nil) .nil) (.br 5 (.br 3 (.br 6 (.br 7 (.br 8 (.br 9 .done .nil) .nil) .nil) .nil) (.br 6 (.br 3 (.br 7 (.br 8 (.br 9 .done .nil) .nil) .nil) .nil) .nil)) .nil)) (.br 5 (.br 2 (.br 3 (.br 6 (.br 7 (.br 8 (.br 9 .done .nil) .nil) .nil) .nil) (.br 6 (.br 3 (.br 7 (.br 8 (.br 9 .done .nil) .nil) .nil) .nil) .nil)) (.br 6 (.br 2 (.br 3 (.br 7 (.br 8 (.br 9 .done .nil) .nil) .nil) .nil) .nil) .nil)) .nil)) (.br 2 (.br 0 (.br 3 (.br 5 (.br 6 (.br 7 (.br 8 (.br 9 .done .nil) .nil) .nil) .nil) .nil) (.br 5 (.br 3 (.br 6 (.br 7 (.br 8 (.br 9 .done .nil) .nil) .nil) .nil) (.br 6 (.br 3 (.br 7 (.br 8 (.br 9 .done .nil) .nil) .nil) .nil) .nil)) .nil)) (.br 5 (.br 0 (.br 3 (.br 6 (.br 7 (.br 8 (.br 9 .done .nil) .nil) .nil) .nil) (.br 6 (.br 3 (.br 7 (.br 8 (.br 9 .done .nil) .nil) .nil) .nil) .nil)) (.br 6 (.br 0 (.br 3 (.br 7 (.br 8 (.br 9 .done .nil) .nil) .nil) .nil) .nil) .nil)) .nil)) (.br 5 (.br 0 (.br 2 (.br 3 (.br 6 (.br 7 (.br 8 (.br 9 .done .nil) .nil) .nil) .nil) (.br 6 (.br 3 (.br 7 (.br 8 (.br 9 .done .nil) .nil) .nil) .nil) .nil)) (.br 6 (.br 2 (.br 3 (.br 7 (.br 8 (.br 9 .done .nil) .nil) .nil) .nil) .nil) .nil)) (.br 2 (.br 0 (.br 3 (.br 6 (.br 7 (.br 8 (.br 9 .done .nil) .nil) .nil) .nil) (.br 6 (.br 3 (.br 7 (.br 8 (.br 9 .done .nil) .nil) .nil) .nil) .nil)) (.br 6 (.br 0 (.br 3 (.br 7 (.br 8 (.br 9 .done .nil) .nil) .nil) .nil) .nil) .nil)) (.br 6 (.br 0 (.br 2 (.br 3 (.br 7 (.br 8 (.br 9 .done .nil) .nil) .nil) .nil) .nil) (.br 2 (.br 0 (.br 3 (.br 7 (.br 8 (.br 9 .done .nil) .nil) .nil) .nil) .nil) .nil)) .nil))) .nil))) .nil))) (.br 4 (.br 0 (.br 1 (.br 2 (.br 3 (.br 5 (.br 6 (.br 7 (.br 8 (.br 9 .done .nil) .nil) .nil) .nil) .nil) (.br 5 (.br 3 (.br 6 (.br 7 (.br 8 (.br 9 .done .nil) .nil) .nil) .nil) (.br 6 (.br 3 (.br 7 (.br 8 (.br 9 .done .nil) .nil) .nil) .nil) .nil)) .nil)) (.br 5 (.br 2 (.br 3 (.br 6 (.br 7 (.br 8 (.br 9 .done .nil) .nil) .nil) .nil) (.br 6 (.br 3 (.br 7 (.br 8 (.br 9 .done .nil) .nil) .nil) .nil) .nil)) (.br 6 (.br 2 (.br 3 (.br 7 (.br 8 (.br 9 .done .nil) .nil) .nil) .nil) .nil) .nil)) .nil)) (.br 5 (.br 1 (.br 2 (.br 3 (.br 6 (.br 7 (.br 8 (.br 9 .done .nil) .nil) .nil) .nil) (.br 6 (.br 3 (.br 7 (.br 8 (.br 9 .done .nil) .nil) .nil) .nil) .nil)) (.br 6 (.br 2 (.br 3 (.br 7 (.br 8 (.br 9 .done .nil) .nil) .nil) .nil) .nil) .nil)) (.br 6 (.br 1 (.br 2 (.br 3 (.br 7 (.br 8 (.br 9 .done .nil) .nil) .nil) .nil) .nil) .nil) .nil)) .nil)) (.br 1 (.br 0 (.br 2 (.br 3 (.br 5 (.br 6 (.br 7 (.br 8 (.br 9 .done .nil) .nil) .nil) .nil) .nil) (.br 5 (.br 3 (.br 6 (.br 7 (.br 8 (.br 9 .done .nil) .nil) .nil) .nil) (.br 6 (.br 3 (.br 7 (.br 8 (.br 9 .done .nil) .nil) .nil) .nil) .nil)) .nil)) (.br 5 (.br 2 (.br 3 (.br 6 (.br 7 (.br 8 (.br 9 .done .nil) .nil) .nil) .nil) (.br 6 (.br 3 (.br 7 (.br 8 (.br 9 .done .nil) .nil) .nil) .nil) .nil)) (.br 6 (.br 2 (.br 3 (.br 7 (.br 8 (.br 9 .done .nil) .nil) .nil) .nil) .nil) .nil)) .nil)) (.br 2 (.br 0 (.br 3 (.br 5 (.br 6 (.br 7 (.br 8 (.br 9 .done .nil) .nil) .nil) .nil) .nil) (.br 5 (.br 3 (.br 6 (.br 7 (.br 8 (.br 9 .done .nil) .nil) .nil) .nil) (.br 6 (.br 3 (.br 7 (.br 8 (.br 9 .done .nil) .nil) .nil) .nil) .nil)) .nil)) (.br 5 (.br 0 (.br 3 (.br 6 (.br 7 (.br 8 (.br 9 .done .nil) .nil) .nil) .nil) (.br 6 (.br 3 (.br 7 (.br 8 (.br 9 .done .nil) .nil) .nil) .nil) .nil)) (.br 6 (.br 0 (.br 3 (.br 7 (.br 8 (.br 9 .done .nil) .nil) .nil) .nil) .nil) .nil)) .nil)) (.br 5 (.br 0 (.br 2 (.br 3 (.br 6 (.br 7 (.br 8 (.br 9 .done .nil) .nil) .nil) .nil) (.br 6 (.br 3 (.br 7 (.br 8 (.br 9 .done .nil) .nil) .nil) .nil) .nil)) (.br 6 (.br 2 (.br 3 (.br 7 (.br 8 (.br 9 .done .nil) .nil) .nil) .nil) .nil) .nil)) (.br 2 (.br 0 (.br 3 (.br 6 (.br 7 (.br 8 (.br 9 .done .nil) .nil) .nil) .nil) (.br 6 (.br 3 (.br 7 (.br 8 (.br 9 .done .nil) .nil) .nil) .nil) .nil)) (.br 6 (.br 0 (.br 3 (.br 7 (.br 8 (.br 9 .done .nil) .nil) .nil) .nil) .nil) .nil)) (.br 6 (.br 0 (.br 2 (.br 3 (.br 7 (.br 8 (.br 9 .done .nil) .nil) .nil) .nil) .nil) (.br 2 (.br 0 (.br 3 (.br 7 (.br 8 (.br 9 .done .nil) .nil) .nil) .nil) .nil) .nil)) .nil))) .nil))) (.br 5 (.br 0 (.br 1 (.br 2 (.br 3 (.br 6 (.br 7 (.br 8 (.br 9 .done .nil) .nil) .nil) .nil) (.br 6 (.br 3 (.br 7 (.br 8 (.br 9 .done .nil) .nil) .nil) .nil) .nil)) (.br 6 (.br 2 (.br 3 (.br 7 (.br 8 (.br 9 .done .nil) .nil) .nil) .nil) .nil) .nil)) (.br 6 (.br 1 (.br 2 (.br 3 (.br 7 (.br 8 (.br 9 .done .nil) .nil) .nil) .nil) .nil) .nil) .nil)) (.br 1 (.br 0 (.br 2 (.br 3 (.br 6 (.br 7 (.br 8 (.br 9 .done .nil) .nil) .nil) .nil) (.br 6 (.br 3 (.br 7 (.br 8 (.br 9 .done .nil) .nil) .nil) .nil) .nil)) (.br 6 (.br 2 (.br 3 (.br 7 (.br 8 (.br 9 .done .nil) .nil) .nil) .nil) .nil) .nil)) (.br 2 (.br 0 (.br 3 (.br 6 (.br 7 (.br 8 (.br 9 .done .nil) .nil) .nil) .nil) (.br 6 (.br 3 (.br 7 (.br 8 (.br 9 .done .nil) .nil) .nil) .nil) .nil)) (.br 6 (.br 0 (.br 3 (.br 7 (.br 8 (.br 9 .done .nil) .nil) .nil) .nil) .nil) .nil)) (.br 6 (.br 0 (.br 2 (.br 3 (.br 7 (.br 8 (.br 9 .done .nil) .nil) .nil) .nil) .nil) (.br 2 (.br 0 (.br 3 (.br 7 (.br 8 (.br 9 .done .nil) .nil) .nil) .nil) .nil) .nil)) .nil))) (.br 6 (.br 0 (.br 1 (.br 2 (.br 3 (.br 7 (.br 8 (.br 9 .done .nil) .nil) .nil) .nil) .nil) .nil) (.br 1 (.br 0 (.br 2 (.br 3 (.br 7 (.br 8 (.br 9 .done .nil) .nil) .nil) .nil) .nil) (.br 2 (.br 0 (.br 3 (.br 7 (.br 8 (.br 9 .done .nil) .nil) .nil) .nil) .nil) .nil)) .nil)) .nil))) .nil))) .nil)))
set_option maxHeartbeats 16000000 in
set_option maxRecDepth 20000 in
theorem Value_ok (l:List Nd) (hl:l.length≤1000):∀ (m p:Nat),l.length - p=m→p≤l.length→ACalls Tryz.prog 46 [.sl (l.flatMap nC) l.length,i64 p] [] (valQ l p):=by
 intro m
 induction m using Nat.strongRecOn with
 | _ m ih =>
  intro p hm hp
  refine ACalls.body T_ok Tryz.func46 (by kernel_rfl) rfl Tryz.ntmps46 (congrArg Array.toList Tryz.results46) ?_
  refine aQ39 ?_
  by_cases hlt:p < l.length
  rotate_left
  ·have hno:vl l p=none:=by
    rw [vl_eq,List.getElem?_eq_none (by omega)]
   rw [decide_eq_false (by omega:¬ (p:Int) < 0)]
   refine aQ39 ?_
   rw [decide_eq_true (by omega:(l.length:Int)≤p)]
   refine aQ39 ?_
   exact zfq hno
  ·rw [decide_eq_false (by omega:¬ (p:Int) < 0)]
   refine aQ39 ?_
   rw [decide_eq_false (by omega:¬ (l.length:Int)≤p)]
   refine aQ39 ?_
   repeat (with_reducible refine zbt ?_)
   refine(plain_ok (l.getD p n0d)).pure (by simp [renL,ze5]) ?_
   rintro _ σ rfl
   refine⟨zak _ _,?_⟩
   cases hal:zbU (l.getD p n0d) with
   | false =>
    refine aQ39 ?_
    have hno:vl l p=none:=by
     rw [zdD,zbm,List.getElem?_eq_getElem hlt]
     rw [List.getD_eq_getElem?_getD,List.getElem?_eq_getElem hlt] at hal
     simp only [Option.getD_some] at hal
     simp [hal]
    exact zfq hno
   | true =>
    obtain⟨n,hn⟩:∃ n,l.getD p n0d=n:=⟨_,rfl⟩
    rw [hn] at hal
    have hnp:zbm l p=some n:=by
     rw [List.getD_eq_getElem?_getD,List.getElem?_eq_getElem hlt] at hn
     rw [zbm,List.getElem?_eq_getElem hlt]
     simp only [Option.getD_some] at hn
     simp [hn,hal]
    refine aQ39 ?_
    repeat (with_reducible refine zbt ?_)
    obtain⟨mp,hmp⟩:∃ mp,mp=decide (n.kind=5):=⟨_,rfl⟩
    have hvQ:vl l p=(zbu (vl l) l mp n.kids.toNat none (p+1) 0).map fun r=>(r.1,r.2+1):=by rw [zdD,hnp,hmp]
    rw [zaN]
    refine⟨Nat × Option (Int × Int × List Int × List Int),goI l p n mp,fun i=>[.sl (l.flatMap nC) l.length,i64 p,.bot,.bot,.ptr 0 0,.ptr 1 0,i64 i.1,.bot,.bot,.bot,.bot,.bot,.bot,.bot,.bot,.bot,.bot,.bot,.bot,.bot,.bot,.bot,.bot,.bot,.bot,.bot,.bot,.bot,.bot,.bot,.bot,.bot,.bot,.bot,.bot,.bot,.bot,.bot,.bot,.bot,.bot,.bot,.bot,.bot,.bot,.bot,.bot,.bot,.bot,.bot,.bot,.bot,.bot,.bot,.bot,.bot,.bot,.bot,.bot,.bot,.bot,.bot,.bot,.bot,.bot,.bot,.bot,.bot,.bot,.bot,.bot,.bot,.bot,.bot,.bot,.bot,.bot,.bot,.bot,.bot,.bot,.bot,.bot,.bot,.bot,.bot,.bot,.bot,.bot,.bot,.bot,.bot,.bot,.bot,.bot,.bot,.bot,.bot,.bot,.bot,.bot,.bot,.bot,.bot,.bot,.bot,.bot,.bot,.bot,.bot,.bot,.bot,.bot,.bot,.bot,.bot,.bot,.bot,.bot,.bot,.bot,.bot,.bot,.bot,.bot,.bot,.bot,.bot,.bot,.bot,.bot,.bot,.bot,.bot,.bot],goS l p mp,fun i=>match i.2 with | none=>n.kids.toNat+1 - i.1 | some _=>0,(0,none),⟨Nat.zero_le _,by simp [eAt],by simp only [eAt];omega,by simp only [dAt];omega,fun j h=>absurd h (by omega),?_⟩,?_,?_⟩
    ·simp [zc7,eAt,dAt]
    ·refine zga 1 rfl (frz_sC frz_niI frz_niI) ?_
     refine zab (q:=[0,1]) rfl rfl (by decide) ?_ ?_
     ·refine aQ19 ?_
      exact⟨by simp [zat],.inr rfl⟩
     ·rw [goS_0]
      simp [zao,zar,zbL,zc0]
    ·rintro⟨k,x⟩ hI
     cases x with
     | some x =>
      obtain⟨e,d,K,S⟩:=x
      obtain⟨g1,g2,g3,g4⟩:=hI
      dsimp only [goS] at g1 g2 g3 g4 ⊢
      refine aQ39 ?_
      refine⟨by omega,by omega,by omega,hlt,?_⟩
      have hbad : ∀ σ : zaa, inI (d + 1) ∧ endQ 0 (.agg (sC e (d + 1) true (slI K) (slI S))) σ (fun r σ' => valQ l p (.ret r) σ') := fun σ => ⟨by unfold inI; omega, valQ_end ⟨rfl, by rw [hvQ, g1]; exact ⟨e, d + 1, K, S, rfl, by omega, by omega⟩⟩⟩
      rw [hn]
      by_cases hk:(k:Int) < n.kids
      ·rw [decide_eq_true hk]
       refine aQ39 ?_
       exact hbad _
      ·rw [decide_eq_false hk]
       refine aQ39 ?_
       exact hbad _
     | none =>
      have hG:Going l p n mp k:=hI
      dsimp only [goS]
      refine aQ39 ?_
      refine⟨by omega,by omega,by omega,hlt,?_⟩
      rw [hn]
      have hc:=zgR hal
      by_cases hk:(k:Int) < n.kids
      rotate_left
      ·have hkc:k=n.kids.toNat:=by have:=hG.le;omega
       rw [decide_eq_false hk]
       refine aQ39 ?_
       have hfin:vl l p=some (eAt l mp p k,dAt l mp p k+1):=by
        rw [hvQ,← hG.q,hkc,Nat.sub_self];rfl
       refine⟨by unfold inI;have:=hG.deep;omega,valQ_end ⟨rfl,?_⟩⟩
       rw [hfin,hn,← hkc]
       dsimp only
       rw [show kidZ l p k=kZ l mp p k by simp only [kidZ,kZ,hn,← hmp],show keyZ l p k=sZ l mp p k by rw [keyZ,sZ,hn,hmp];by_cases h5:n.kind=5 <;> simp [h5]]
       rfl
      ·rw [decide_eq_true hk]
       refine aQ39 ?_
       repeat (with_reducible refine zbt ?_)
       rw [hn]
       refine⟨fun h5=>?_,fun h5=>?_⟩
       ·have hmt:mp=true:=by rw [hmp,decide_eq_true h5]
        subst hmt
        have hgl:=hG.lo
        have hgh:=hG.hi
        have hnone:(∀ m,zbm l (eAt l true p k)=some m→m.kind=3∧aftB (zc7 true k (keyT l true p (k - 1))) m.text=true→vl l (eAt l true p k+1)=none)→vl l p=none:=fun h=>by
         rw [hvQ,zfV hG (by omega) h];rfl
        refine zdb (by kernel_rfl) (by kernel_rfl) ?_
        refine aQ39 ?_
        by_cases hE:l.length≤eAt l true p k
        ·rw [decide_eq_true (by omega:(l.length:Int)≤(eAt l true p k:Nat))]
         refine aQ39 ?_
         exact zfq (hnone fun m hm=>by have:=(zbc hm).1;omega)
        rw [decide_eq_false (by omega:¬ (l.length:Int)≤(eAt l true p k:Nat))]
        refine aQ39 ?_
        repeat (with_reducible refine zbt ?_)
        obtain⟨m,hm⟩:∃ m,l.getD (eAt l true p k) n0d=m:=⟨_,rfl⟩
        have hlm:l[eAt l true p k]?=some m:=by
         rw [List.getD_eq_getElem?_getD,List.getElem?_eq_getElem (by omega)] at hm
         rw [List.getElem?_eq_getElem (by omega)]
         simpa using hm
        rw [hm]
        by_cases h3:m.kind=3
        rotate_left
        ·rw [decide_eq_false h3]
         refine aQ39 ?_
         exact zfq (hnone fun x hx hc=>by
          have:=(zbc hx).2.1
          rw [hlm] at this
          cases this
          exact absurd hc.1 h3)
        rw [decide_eq_true h3]
        refine aQ39 ?_
        repeat (with_reducible refine zbt ?_)
        rw [hm]
        refine zcI (plain_ok m) (by simp [renL,ze5]) (zak _ _) ?_
        cases halm:zbU m with
        | false =>
         refine aQ39 ?_
         exact zfq (hnone fun x hx hc=>by
          have hx2:=zbc hx
          rw [hlm] at hx2
          obtain⟨_,e,hx3⟩:=hx2
          cases e
          rw [halm] at hx3
          cases hx3)
        | true =>
         have hmn:zbm l (eAt l true p k)=some m:=by rw [zbm,hlm];simp [halm]
         refine aQ39 ?_
         by_cases hk0:0 < k
         ·rw [decide_eq_true (by omega:(0:Int) < (k:Nat))]
          refine aQ39 ?_
          have hsl0:=sZ_len l p k
          have hsg:=sZ_get l p k (k - 1) (by omega)
          have hat:=hG.at' (k - 1) (by omega)
          rw [show ((k:Int) - 1).toNat=k - 1 by omega,hsg,Int.toNat_natCast]
          refine⟨by unfold inI;omega,by omega,by omega,by omega,by omega,by omega,by omega,by omega,by omega,by omega,by omega,by omega,?_⟩
          rw [show (l.getD (eAt l true p (k - 1)) n0d).text=keyT l true p (k - 1) from rfl,hm]
          cases hls:Op.bytesLess (keyT l true p (k - 1)) m.text with
          | false =>
           refine aQ39 ?_
           exact zfq (hnone fun x hx hc=>by
            rw [hmn] at hx
            cases hx
            have hc2:=hc.2
            simp [zc7,hk0,aftB,leB_iff,hls] at hc2)
          | true =>
           have hca:m.kind=3∧aftB (zc7 true k (keyT l true p (k - 1))) m.text=true:=⟨h3,by simp [zc7,hk0,aftB,leB_iff,hls]⟩
           refine aQ39 ?_
           have hsl:=sZ_len l p k
           have hkz:(kZ l true p k).length=k:=by simp [kZ]
           refine⟨by omega,by omega,by omega,by omega,by unfold inI;omega,?_⟩
           rw [show ((eAt l true p k:Nat):Int)+1=((eAt l true p k+1:Nat):Int) by omega]
           refine(ih (l.length - (eAt l true p k+1)) (by omega) (eAt l true p k+1) rfl (by omega)).pure (ze7 _ _ _ _) ?_
           intro y σ hy
           obtain⟨e,d,b,ks,ss,rfl,rfl,d1,d2,hb⟩:=zhA hy
           refine⟨zcq _ _ _ _ _ _,?_⟩
           refine aQ39 ?_
           refine zjv appT ([.sl (l.flatMap nC) l.length,i64 p,.bot,.bot,.ptr 0 0,.ptr 1 0,i64 k,.bot,.ptr 2 0,.bot,.bot,.bot,.bot,.bot,.bot,.bot,.bot,.bot,.bot,.bot,.bot,.bot,.bot,.bot,.bot,.bot,.bot,.bot,.bot,.bot,.bot,.bot,.bot,.bot,.bot,.bot,.bot,.bot,.bot,.bot,.bot,.bot,.bot,.bot,.bot,.bot,.bot,.bot,.bot,.bot,.bot,.bot,.bot,.bot,.bot,.bot,.bot,.bot,.bot,.bot,.bot,.bot,.bot,.bot,.bot,.bot,.bot,.bot,.bot,.bot,.bot,.bot,.bot,.bot,.bot,.bot,.bot,.bot,.bot,.bot,.bot,.bot,.bot,.bot,.bot,.bot,.bot,.bot,.bot,.bot,.bot,.bot,.bot,.bot,.bot,.bot,.bot,.bot,.bot,.bot,.bot,.bot,.bot,.bot,.bot,.bot,.bot,.bot,.bot,.bot,.bot,.bot,.bot,.bot,.bot,.bot,.bot,.bot,.bot,.bot,.bot,.bot,.bot,.bot,.bot,.bot,.bot,.bot,.bot,.bot,.bot,.bot,.bot,.bot,.bot]) [.rw (sC 0 0 false (.lit (.slice none 0 0)) (.lit (.slice none 0 0))),.rw (sC ((eAt l true p k+1:Nat):Int) (dAt l true p k) false (slI (kZ l true p k++[((eAt l true p k+1:Nat):Int)])) (slI (sZ l true p k++[((eAt l true p k:Nat):Int)]))),.rw (sC e d b (slI ks) (slI ss))] (by kernel_rfl) (by kernel_rfl) ?_ ?_
           ·unfold appT
            refine aQ39 ?_
            repeat' (with_reducible refine And.intro ?_ ?_)
            all_goals try omega
            all_goals
             refine zhR 10 rfl ?_
             refine zhR 5 rfl ?_
             refine zga 1 rfl (frz_sC (zkk (l:=kZ l true p k++[((eAt l true p k+1:Nat):Int)]) rfl (by simp)) (zkk (l:=sZ l true p k++[((eAt l true p k:Nat):Int)]) rfl (by simp))) ?_
             refine zab (q:=[0,1,6]) rfl rfl (by decide) ?_ ?_
            all_goals
             first|exact aQ19 trivial|refine aQ19 ?_
            all_goals simp [zao,zar,zbL,zc0,zat,AV.ren,renL]
           ·refine aQ39 ?_
            repeat (with_reducible refine zbt ?_)
            rw [zac]
            rcases hb with ⟨rfl,r,hv,rfl,rfl⟩ | ⟨rfl,hv⟩
            ·obtain⟨g1,g2,g3⟩:=go_map hG (by omega) hmn hca hv
             refine⟨(k+1,none),g1,(by show n.kids.toNat+1 - (k+1) < n.kids.toNat+1 - k;omega),?_⟩
             dsimp only [goS]
             rw [kZ_succ,sZ_succ,g2,g3,show bK true=1 from rfl,show ((max (dAt l true p k) r.2:Nat):Int)=max (dAt l true p k:Int) r.2 by omega,show ((k+1:Nat):Int)=(k:Int)+1 by omega]
             refine zab (q:=[0,1]) rfl rfl (by decide) ?_ ?_
             ·refine aQ19 ?_
              simp [zat]
             ·simp [zao,zar,zbL,zc0]
            ·refine⟨(k+1,some (e,max (dAt l true p k:Int) d,kZ l true p k++[((eAt l true p k+1:Nat):Int)],sZ l true p k++[((eAt l true p k:Nat):Int)])),⟨zfV hG (by omega) (fun _ _ _=>hv),by omega,by dsimp only;omega,by have:=hG.deep;have:=hG.lo;dsimp only;omega⟩,(by show 0 < n.kids.toNat+1 - k;omega),?_⟩
             dsimp only [goS]
             rw [show ((k+1:Nat):Int)=(k:Int)+1 by omega]
             refine zab (q:=[0,1]) rfl rfl (by decide) ?_ ?_
             ·refine aQ19 ?_
              simp [zat]
             ·simp [zao,zar,zbL,zc0]
         ·rw [decide_eq_false (by omega:¬ (0:Int) < (k:Nat))]
          refine aQ39 ?_
          have hca:m.kind=3∧aftB (zc7 true k (keyT l true p (k - 1))) m.text=true:=⟨h3,by simp [zc7,hk0,aftB]⟩
          have hsl:=sZ_len l p k
          have hkz:(kZ l true p k).length=k:=by simp [kZ]
          refine⟨by omega,by omega,by omega,by omega,by unfold inI;omega,?_⟩
          rw [show ((eAt l true p k:Nat):Int)+1=((eAt l true p k+1:Nat):Int) by omega]
          refine(ih (l.length - (eAt l true p k+1)) (by omega) (eAt l true p k+1) rfl (by omega)).pure (ze7 _ _ _ _) ?_
          intro y σ hy
          obtain⟨e,d,b,ks,ss,rfl,rfl,d1,d2,hb⟩:=zhA hy
          refine⟨zcq _ _ _ _ _ _,?_⟩
          refine aQ39 ?_
          refine zjv appT ([.sl (l.flatMap nC) l.length,i64 p,.bot,.bot,.ptr 0 0,.ptr 1 0,i64 k,.bot,.ptr 2 0,.bot,.bot,.bot,.bot,.bot,.bot,.bot,.bot,.bot,.bot,.bot,.bot,.bot,.bot,.bot,.bot,.bot,.bot,.bot,.bot,.bot,.bot,.bot,.bot,.bot,.bot,.bot,.bot,.bot,.bot,.bot,.bot,.bot,.bot,.bot,.bot,.bot,.bot,.bot,.bot,.bot,.bot,.bot,.bot,.bot,.bot,.bot,.bot,.bot,.bot,.bot,.bot,.bot,.bot,.bot,.bot,.bot,.bot,.bot,.bot,.bot,.bot,.bot,.bot,.bot,.bot,.bot,.bot,.bot,.bot,.bot,.bot,.bot,.bot,.bot,.bot,.bot,.bot,.bot,.bot,.bot,.bot,.bot,.bot,.bot,.bot,.bot,.bot,.bot,.bot,.bot,.bot,.bot,.bot,.bot,.bot,.bot,.bot,.bot,.bot,.bot,.bot,.bot,.bot,.bot,.bot,.bot,.bot,.bot,.bot,.bot,.bot,.bot,.bot,.bot,.bot,.bot,.bot,.bot,.bot,.bot,.bot,.bot,.bot,.bot,.bot]) [.rw (sC 0 0 false (.lit (.slice none 0 0)) (.lit (.slice none 0 0))),.rw (sC ((eAt l true p k+1:Nat):Int) (dAt l true p k) false (slI (kZ l true p k++[((eAt l true p k+1:Nat):Int)])) (slI (sZ l true p k++[((eAt l true p k:Nat):Int)]))),.rw (sC e d b (slI ks) (slI ss))] (by kernel_rfl) (by kernel_rfl) ?_ ?_
          ·unfold appT
           refine aQ39 ?_
           repeat' (with_reducible refine And.intro ?_ ?_)
           all_goals try omega
           all_goals
            refine zhR 10 rfl ?_
            refine zhR 5 rfl ?_
            refine zga 1 rfl (frz_sC (zkk (l:=kZ l true p k++[((eAt l true p k+1:Nat):Int)]) rfl (by simp)) (zkk (l:=sZ l true p k++[((eAt l true p k:Nat):Int)]) rfl (by simp))) ?_
            refine zab (q:=[0,1,6]) rfl rfl (by decide) ?_ ?_
           all_goals
            first|exact aQ19 trivial|refine aQ19 ?_
           all_goals simp [zao,zar,zbL,zc0,zat,AV.ren,renL]
          ·refine aQ39 ?_
           repeat (with_reducible refine zbt ?_)
           rw [zac]
           rcases hb with ⟨rfl,r,hv,rfl,rfl⟩ | ⟨rfl,hv⟩
           ·obtain⟨g1,g2,g3⟩:=go_map hG (by omega) hmn hca hv
            refine⟨(k+1,none),g1,(by show n.kids.toNat+1 - (k+1) < n.kids.toNat+1 - k;omega),?_⟩
            dsimp only [goS]
            rw [kZ_succ,sZ_succ,g2,g3,show bK true=1 from rfl,show ((max (dAt l true p k) r.2:Nat):Int)=max (dAt l true p k:Int) r.2 by omega,show ((k+1:Nat):Int)=(k:Int)+1 by omega]
            refine zab (q:=[0,1]) rfl rfl (by decide) ?_ ?_
            ·refine aQ19 ?_
             simp [zat]
            ·simp [zao,zar,zbL,zc0]
           ·refine⟨(k+1,some (e,max (dAt l true p k:Int) d,kZ l true p k++[((eAt l true p k+1:Nat):Int)],sZ l true p k++[((eAt l true p k:Nat):Int)])),⟨zfV hG (by omega) (fun _ _ _=>hv),by omega,by dsimp only;omega,by have:=hG.deep;have:=hG.lo;dsimp only;omega⟩,(by show 0 < n.kids.toNat+1 - k;omega),?_⟩
            dsimp only [goS]
            rw [show ((k+1:Nat):Int)=(k:Int)+1 by omega]
            refine zab (q:=[0,1]) rfl rfl (by decide) ?_ ?_
            ·refine aQ19 ?_
             simp [zat]
            ·simp [zao,zar,zbL,zc0]
       ·refine aQ39 ?_
        have hlo:=hG.lo
        refine(ih (l.length - eAt l mp p k) (by omega) (eAt l mp p k) rfl hG.hi).pure (ze7 _ _ _ _) ?_
        intro y σ hy
        obtain⟨e,d,b,ks,ss,rfl,rfl,d1,d2,hb⟩:=zhA hy
        refine⟨zcq _ _ _ _ _ _,?_⟩
        refine aQ39 ?_
        have hgl:=hG.lo
        have hgh:=hG.hi
        refine zjv appT ([.sl (l.flatMap nC) l.length,i64 p,.bot,.bot,.ptr 0 0,.ptr 1 0,i64 k,.bot,.ptr 2 0,.bot,.bot,.bot,.bot,.bot,.bot,.bot,.bot,.bot,.bot,.bot,.bot,.bot,.bot,.bot,.bot,.bot,.bot,.bot,.bot,.bot,.bot,.bot,.bot,.bot,.bot,.bot,.bot,.bot,.bot,.bot,.bot,.bot,.bot,.bot,.bot,.bot,.bot,.bot,.bot,.bot,.bot,.bot,.bot,.bot,.bot,.bot,.bot,.bot,.bot,.bot,.bot,.bot,.bot,.bot,.bot,.bot,.bot,.bot,.bot,.bot,.bot,.bot,.bot,.bot,.bot,.bot,.bot,.bot,.bot,.bot,.bot,.bot,.bot,.bot,.bot,.bot,.bot,.bot,.bot,.bot,.bot,.bot,.bot,.bot,.bot,.bot,.bot,.bot,.bot,.bot,.bot,.bot,.bot,.bot,.bot,.bot,.bot,.bot,.bot,.bot,.bot,.bot,.bot,.bot,.bot,.bot,.bot,.bot,.bot,.bot,.bot,.bot,.bot,.bot,.bot,.bot,.bot,.bot,.bot,.bot,.bot,.bot,.bot,.bot,.bot]) [.rw (sC 0 0 false (.lit (.slice none 0 0)) (.lit (.slice none 0 0))),.rw (sC (eAt l mp p k) (dAt l mp p k) false (slI (kZ l mp p k++[((eAt l mp p k:Nat):Int)])) (slI (sZ l mp p k))),.rw (sC e d b (slI ks) (slI ss))] (by kernel_rfl) (by kernel_rfl) ?_ ?_
        ·have hkz:(kZ l mp p k).length=k:=by simp [kZ]
         have hgl:=hG.lo
         have hgh:=hG.hi
         unfold appT
         refine aQ39 ?_
         repeat' (with_reducible refine And.intro ?_ ?_)
         all_goals try omega
         all_goals
          refine zhR 6 rfl ?_
          refine zga 1 rfl (frz_sC (zkk (l:=kZ l mp p k++[((eAt l mp p k:Nat):Int)]) rfl (by simp)) frz_slI) ?_
          refine zab (q:=[0,1,2]) rfl rfl (by decide) ?_ ?_
         all_goals
          first|exact aQ19 trivial|refine aQ19 ?_
         all_goals simp [zao,zar,zbL,zc0,zat,AV.ren,renL]
        ·refine aQ39 ?_
         repeat (with_reducible refine zbt ?_)
         have hbk:bK mp=0:=by rw [hmp,decide_eq_false h5];rfl
         have hmf:mp=false:=by rw [hmp,decide_eq_false h5]
         subst hmf
         rw [zac]
         rcases hb with ⟨rfl,r,hv,rfl,rfl⟩ | ⟨rfl,hv⟩
         ·obtain⟨g1,g2,g3⟩:=go_list hG (by omega) hv
          refine⟨(k+1,none),g1,(by show n.kids.toNat+1 - (k+1) < n.kids.toNat+1 - k;omega),?_⟩
          dsimp only [goS]
          rw [kZ_succ,g2,g3,hbk,Nat.add_zero,show ((max (dAt l false p k) r.2:Nat):Int)=max (dAt l false p k:Int) r.2 by omega,show ((k+1:Nat):Int)=(k:Int)+1 by omega]
          refine zab (q:=[0,1]) rfl rfl (by decide) ?_ ?_
          ·refine aQ19 ?_
           simp [zat]
          ·simp [zao,zar,zbL,zc0,sZ]
         ·refine⟨(k+1,some (e,max (dAt l false p k:Int) d,kZ l false p k++[((eAt l false p k:Nat):Int)],sZ l false p k)),⟨go_list_stop hG (by omega) hv,by omega,by dsimp only;omega,by have:=hG.deep;have:=hG.lo;dsimp only;omega⟩,(by show 0 < n.kids.toNat+1 - k;omega),?_⟩
          dsimp only [goS]
          rw [show ((k+1:Nat):Int)=(k:Int)+1 by omega]
          refine zab (q:=[0,1]) rfl rfl (by decide) ?_ ?_
          ·refine aQ19 ?_
           simp [zat]
          ·simp [zao,zar,zbL,zc0]
end Go.Proofs.YtcahoelfogjljaaGreatDoor
end

section
namespace Go.Proofs.YtcahoelfogjljaaGreatDoor
open Go Go.Eng
set_option linter.defProp false in
def LB22:=And.intro (fun {e} {d} {b} {k} {s} {K}=>@fl_s0 e d b k s K _ T68) (@ia_slI)
set_option linter.defProp false in
def LM7:=And.intro LM0 (And.intro LB21 (LB22))
theorem Value_0 (l:List Nd) (hl:l.length≤1000):ACalls Tryz.prog 46 [.sl (l.flatMap nC) l.length,i64 0] [] (valQ l 0):=Value_ok l hl _ 0 rfl (Nat.zero_le _)
theorem zir (l:List Nd) (hl:l.length≤1000):ACalls Tryz.prog 52 [.sl (l.flatMap nC) l.length] [] (fun y _=>y=.ret (i64 (zaz l))):=by
 refine ACalls.body T_ok Tryz.func52 (by kernel_rfl) rfl Tryz.ntmps52 (congrArg Array.toList Tryz.results52) ?_
 refine aQ40 ?_
 refine⟨fun h=>za5 (by rw [zaz,if_pos (.inl (by omega))]),fun h=>?_⟩
 rw [zaN]
 refine⟨Nat,fun k=>k≤l.length∧∀ j,j < k→(l.getD j n0d).text.length≤120,fun k=>[.sl (l.flatMap nC) l.length,.bot,i64 0,i64 k,.bot,.bot,.bot,.bot,.bot,.bot,.bot,.bot,.bot,.bot,.bot,.bot,.bot,.bot,.bot,.bot,.bot,.bot,.bot,.bot,.bot,.bot,.bot,.bot,.bot,.bot,.bot,.bot,.bot,.bot,.bot],fun _=>[],fun k=>l.length - k,0,⟨Nat.zero_le _,fun j h=>absurd h (by omega)⟩,zbb ?_,?_⟩
 ·refine aQ20 ?_
  try exact .inr rfl
 ·rintro k ⟨hk,hj⟩
  refine aQ40 ?_
  refine⟨fun hlt=>?_,fun hge=>?_⟩
  ·repeat (with_reducible refine zbt ?_)
   refine⟨fun hg=>?_,fun hg=>?_⟩
   ·refine aQ40 ?_
    have hl2:zbY l=true:=by
     simp only [zbY,List.any_eq_true,decide_eq_true_eq]
     refine⟨l.getD k n0d,?_,by omega⟩
     rw [List.getD_eq_getElem?_getD,List.getElem?_eq_getElem (by omega)]
     exact List.getElem_mem _
    exact za5 (by rw [zaz,if_pos (.inr hl2)])
   ·refine aQ40 ?_
    repeat (with_reducible refine zbt ?_)
    rw [zac]
    refine⟨k+1,⟨by omega,fun j h=>?_⟩,by (show l.length - (k+1) < l.length - k);omega,zbb ?_⟩
    ·by_cases e:j=k
     ·subst e;omega
     ·exact hj j (by omega)
    ·refine aQ20 ?_
     try exact .inr rfl
  ·obtain rfl:k=l.length:=by omega
   have hnl:zbY l=false:=by
    simp only [zbY,List.any_eq_false,decide_eq_true_eq]
    intro x hx
    obtain⟨j,hjl,rfl⟩:=List.getElem_of_mem hx
    have:=hj j hjl
    rw [List.getD_eq_getElem?_getD,List.getElem?_eq_getElem hjl] at this
    simpa using this
   have hno:¬ (120 < l.length∨zbY l=true):=by rw [hnl];simp;omega
   refine aQ40 ?_
   refine(Value_0 l hl).pure (ze7 _ _ _ _) ?_
   intro y σ hy
   obtain⟨e,d,b,ks,ss,rfl,rfl,d1,d2,hb⟩:=zhA hy
   refine⟨zcq _ _ _ _ _ _,?_⟩
   refine aQ40 ?_
   rcases hb with ⟨rfl,r,hv,rfl,rfl⟩ | ⟨rfl,hv⟩
   ·refine aQ40 ?_
    refine⟨fun hne=>za5 ?_,fun heq=>⟨fun hd=>za5 ?_,fun hd=>za5 ?_⟩⟩
    ·rw [zaz,if_neg hno,hv]
     dsimp only
     rw [if_neg (by omega)]
    ·rw [zaz,if_neg hno,hv]
     dsimp only
     rw [if_pos (by omega),if_pos (by omega)]
    ·rw [zaz,if_neg hno,hv]
     dsimp only
     rw [if_pos (by omega),if_neg (by omega)]
   ·refine aQ40 ?_
    exact za5 (by rw [zaz,if_neg hno,hv])
end Go.Proofs.YtcahoelfogjljaaGreatDoor
end

section
namespace Go.Proofs.YtcahoelfogjljaaGreatDoor
open Go Go.Eng
theorem zau {K:AV→Prop} (e:TypeId) (l:List Int):len2 (some (tySl e)) (slI l) K=K (i64 l.length):=by simp [len2,slI,tySl,slen,i64]
end Go.Proofs.YtcahoelfogjljaaGreatDoor
end

section
namespace Go.Proofs.YtcahoelfogjljaaGreatDoor
open Go Go.Eng
theorem add_top (x:BitVec 64):x+9223372036854775808#64=x ^^^ 9223372036854775808#64:=by
 apply BitVec.eq_of_getLsbD_eq
 intro i hi
 have e:(9223372036854775808#64).toNat=2 ^ 63:=rfl
 rw [BitVec.getLsbD_xor,BitVec.getLsbD,BitVec.toNat_add,e,Nat.testBit_mod_two_pow,decide_eq_true hi,Bool.true_and,Nat.add_comm]
 rw [show (9223372036854775808#64).getLsbD i=(2 ^ 63).testBit i from rfl,Nat.testBit_two_pow]
 by_cases h:i=63
 ·subst h
  rw [Nat.testBit_two_pow_add_eq]
  simp [BitVec.getLsbD]
 ·rw [Nat.testBit_two_pow_add_gt (by omega)]
  rw [decide_eq_false (by omega)]
  simp [BitVec.getLsbD]
theorem bigL_succ (x:BitVec 64) (k:Nat):bigL x (k+1)=byteAt x k::bigL x k:=by simp [bigL,lowL,List.range_succ]
theorem byte_mod (x:BitVec 64):BitVec.setWidth 8 (x % 256#64)=BitVec.setWidth 8 x:=by
 apply BitVec.eq_of_toNat_eq
 rw [BitVec.toNat_setWidth,BitVec.toNat_umod,BitVec.toNat_setWidth,show (256#64).toNat=256 from rfl]
 omega
theorem shift_div (x:BitVec 64) (k:Nat):x >>> (8 * k) / 256#64=x >>> (8 * (k+1)):=by
 apply BitVec.eq_of_toNat_eq
 simp only [BitVec.toNat_udiv,BitVec.toNat_ushiftRight,Nat.shiftRight_eq_div_pow,BitVec.toNat_ofNat]
 rw [Nat.div_div_eq_div_mul,show 8 * (k+1)=8 * k+8 by omega,Nat.pow_add]
theorem rbig_ok (x:BitVec 64) (n:Int):ACalls Tryz.prog 136 [u64 x,i64 n] [] (fun y _=>y=.ret (str (bigL x (zee n)))):=by
 refine ACalls.body T_ok Tryz.func136 (by kernel_rfl) rfl Tryz.ntmps136 (congrArg Array.toList Tryz.results136) ?_
 refine aQ41 ?_
 rw [zaN]
 have hc:=clamp8_le n
 refine⟨Nat,fun k=>k≤zee n,fun k=>[u64 (x >>> (8 * k)),i64 n,.bot,.bot,.bot,str (bigL x k),i64 k,.bot,.bot,.bot,.bot,.bot,.bot,.bot,.bot,.bot,.bot,.bot,.bot,.bot,.bot,.bot,.bot,.bot,.bot,.bot],fun _=>[],fun k=>zee n - k,0,Nat.zero_le _,?_,?_⟩
 ·refine zab (q:=[]) rfl rfl (by decide) ?_ ?_
  ·refine aQ19 ?_
   try simp [bigL,lowL]
  ·first|exact aQ19 trivial|refine aQ19 ?_
 ·intro k hk
  refine aQ41 ?_
  have hcn:zee n=(min (max n 0) 8).toNat:=rfl
  by_cases h1:(k:Int) < n
  ·rw [decide_eq_true h1]
   refine aQ41 ?_
   refine⟨fun hlt=>?_,fun hge=>?_⟩
   ·have hbl:(bigL x k).length=k:=by simp [bigL,lowL]
    repeat (with_reducible refine zbt ?_)
    rw [zac]
    refine⟨k+1,by omega,by omega,zab (q:=[]) rfl rfl (by decide) ?_ ?_⟩
    ·refine aQ19 ?_
     simp [bigL_succ,byte_mod,shift_div]
     exact .inr rfl
    ·first|exact aQ19 trivial|refine aQ19 ?_
   ·obtain rfl:k=zee n:=by omega
    refine aQ41 ?_
    exact zbN rfl
  ·rw [decide_eq_false h1]
   refine aQ41 ?_
   obtain rfl:k=zee n:=by omega
   exact zbN rfl
def byteI (n:Int):UInt8:=UInt8.ofBitVec (BitVec.ofInt 8 n)
theorem zdO (n:Int):ACalls Tryz.prog 75 [i64 n] [] (fun y _=>y=.ret (str [byteI n])):=by
 refine ACalls.body T_ok Tryz.func75 (by kernel_rfl) rfl Tryz.ntmps75 (congrArg Array.toList Tryz.results75) ?_
 refine aQ41 ?_
 exact zbN rfl
theorem take_drop1 {s:List UInt8} {k:Nat} (h:k < s.length):(s.take (k+1)).drop k=[s.getD k 0]:=by
 rw [List.take_succ_eq_append_getElem h,List.drop_append,List.length_take,show k - min k s.length=0 by omega,List.drop_of_length_le (by rw [List.length_take];omega)]
 simp [h]
theorem esc_take {s:List UInt8} {k:Nat} (h:k < s.length):esc (s.take (k+1))=esc (s.take k)++(if s.getD k 0=0 then [0,255] else [s.getD k 0]):=by
 rw [List.take_succ_eq_append_getElem h,esc_append]
 simp [esc,h]
theorem zjU (s:List UInt8) (hs:s.length≤1000000000):ACalls Tryz.prog 76 [str s] [] (fun y _=>y=.ret (str (escT s))):=by
 refine ACalls.body T_ok Tryz.func76 (by kernel_rfl) rfl Tryz.ntmps76 (congrArg Array.toList Tryz.results76) ?_
 refine aQ41 ?_
 rw [zaN]
 refine⟨Nat,fun k=>k≤s.length,fun k=>[str s,.bot,.bot,str (esc (s.take k)),i64 k,.bot,.bot,.bot,.bot,.bot,.bot,.bot,.bot,.bot,.bot,.bot,.bot,.bot,.bot,.bot,.bot,.bot,.bot,.bot,.bot,.bot,.bot,.bot,.bot,.bot],fun _=>[],fun k=>s.length - k,0,Nat.zero_le _,zab (q:=[]) rfl rfl (by decide) ?_ ?_,?_⟩
 ·refine aQ19 ?_
  simp [esc]
 ·first|exact aQ19 trivial|refine aQ19 ?_
 ·intro k hk
  have hl:=zkj (s.take k)
  rw [List.length_take] at hl
  refine aQ41 ?_
  refine⟨fun hlt=>?_,fun hge=>?_⟩
  ·have hk2:k < s.length:=by omega
   have e:=esc_take hk2
   have e2:(s.take ((k:Int)+1).toNat).drop k=[s.getD k 0]:=by
    rw [show ((k:Int)+1).toNat=k+1 by omega,take_drop1 hk2]
   repeat (with_reducible refine zbt ?_)
   rw [e2]
   refine⟨fun h0=>?_,fun h0=>?_⟩
   ·rw [if_pos (show s.getD k 0=0 from h0)] at e
    refine(zdO 255).pure aQ3 ?_
    rintro _ σ rfl
    refine⟨by first | rfl | simp [AEnd.noid,AV.ren,renL,zb8,zas str zah,zb7,zbX,zbx,zae,zak,zah],?_⟩
    refine aQ41 ?_
    repeat (with_reducible refine zbt ?_)
    rw [zac]
    refine⟨k+1,by omega,by omega,zab (q:=[]) rfl rfl (by decide) ?_ ?_⟩
    ·refine aQ19 ?_
     exact⟨.inr (by rw [e,show s.getD k 0=0 from h0,List.append_assoc];rfl),.inr (by omega)⟩
    ·first|exact aQ19 trivial|refine aQ19 ?_
   ·rw [if_neg (show ¬ s.getD k 0=0 from h0)] at e
    repeat (with_reducible refine zbt ?_)
    rw [zac]
    refine⟨k+1,by omega,by omega,zab (q:=[]) rfl rfl (by decide) ?_ ?_⟩
    ·refine aQ19 ?_
     exact⟨.inr e,.inr (by omega)⟩
    ·first|exact aQ19 trivial|refine aQ19 ?_
  ·obtain rfl:k=s.length:=by omega
   refine aQ41 ?_
   refine(zdO 0).pure aQ3 ?_
   rintro _ σ rfl
   refine⟨by first | rfl | simp [AEnd.noid,AV.ren,renL,zb8,zas str zah,zb7,zbX,zbx,zae,zak,zah],?_⟩
   refine aQ41 ?_
   repeat (with_reducible refine zbt ?_)
   refine(zdO 0).pure aQ3 ?_
   rintro _ σ rfl
   refine⟨by first | rfl | simp [AEnd.noid,AV.ren,renL,zb8,zas str zah,zb7,zbX,zbx,zae,zak,zah],?_⟩
   refine aQ41 ?_
   repeat (with_reducible refine zbt ?_)
   rw [List.take_length]
   exact zbN (by simp [escT];rfl)
theorem rnumber_ok (n:Int):ACalls Tryz.prog 105 [i64 n] [] (fun y _=>y=.ret (str (numL n))):=by
 refine ACalls.body T_ok Tryz.func105 (by kernel_rfl) rfl Tryz.ntmps105 (congrArg Array.toList Tryz.results105) ?_
 refine aQ41 ?_
 refine(rbig_ok _ _).pure aQ3 ?_
 rintro _ σ rfl
 refine⟨by first | rfl | simp [AEnd.noid,AV.ren,renL,zb8,zas str zah,zb7,zbX,zbx,zae,zak,zah],?_⟩
 refine aQ41 ?_
 exact zbN (by rw [add_top];rfl)
theorem rJoin_ok (l:List (List UInt8)) (hl:l.length≤1000000) (hs:∀ s∈l,s.length≤1000000000) (hb:(zbJ l).length≤140737488355328):ACalls Tryz.prog 38 [.sl (l.map str) l.length] [] (fun y _=>y=.ret (str (zbJ l))):=by
 refine ACalls.body T_ok Tryz.func38 (by kernel_rfl) rfl Tryz.ntmps38 (congrArg Array.toList Tryz.results38) ?_
 refine aQ41 ?_
 rw [zaN]
 refine⟨Nat,fun k=>k≤l.length,fun k=>[.sl (l.map str) l.length,.bot,.bot,str (zbJ (l.take k)),i64 k,.bot,.bot,.bot,.bot,.bot,.bot,.bot,.bot,.bot,.bot,.bot,.bot,.bot,.bot,.bot,.bot],fun _=>[],fun k=>l.length - k,0,Nat.zero_le _,zab (q:=[]) rfl rfl (by decide) ?_ ?_,?_⟩
 ·refine aQ19 ?_
  simp [zas str zah,zbJ]
 ·first|exact aQ19 trivial|refine aQ19 ?_
 ·intro k hk
  refine aQ41 ?_
  refine⟨fun hlt=>?_,fun hge=>?_⟩
  ·have hk2:k < l.length:=by omega
   have e:=zgU l k hk2
   have h1:=zjP l (k+1)
   rw [e] at h1
   simp only [List.length_append,List.length_cons,List.length_nil] at h1
   have h2:(l.getD k []).length≤1000000000:=hs _ (by
    rw [List.getD_eq_getElem?_getD,List.getElem?_eq_getElem hk2]
    exact List.getElem_mem _)
   refine zdb (by kernel_rfl) (by kernel_rfl) ?_
   refine zcI (zdO 4) aQ3 aQ5 ?_
   refine aQ41 ?_
   refine⟨by simp;omega,by omega,by omega,by omega,?_⟩
   refine zcI (zjU _ h2) aQ3 aQ5 ?_
   refine aQ41 ?_
   refine⟨by simp only [List.length_append,List.length_cons,List.length_nil];omega,by unfold inI;omega,?_⟩
   rw [zac]
   refine⟨k+1,by omega,by omega,zab (q:=[]) rfl rfl (by decide) ?_ ?_⟩
   ·refine aQ19 ?_
    exact⟨by simp [zas str zah],.inr e,.inr (by omega)⟩
   ·first|exact aQ19 trivial|refine aQ19 ?_
  ·obtain rfl:k=l.length:=by omega
   refine aQ41 ?_
   rw [List.take_length]
   exact zbN rfl
end Go.Proofs.YtcahoelfogjljaaGreatDoor
end

section
namespace Go.Proofs.YtcahoelfogjljaaGreatDoor
open Go Go.Eng
theorem rng_get2 {β:Type} (f:Nat→β) (d:β) {c k:Nat} (h:k < c):((List.range c).map f).getD k d=f k:=by simp [h]
theorem zdo (l:List Nd) (hl:l.length≤1000) (p:Nat) (hp:p≤l.length) {r:Nat × Nat} (hv:vl l p=some r):ACalls Tryz.prog 46 [.sl (l.flatMap nC) l.length,i64 p] [] (fun y _=>y=.ret (.agg (sC r.1 r.2 false (slI (kidZ l p (l.getD p n0d).kids.toNat)) (slI (keyZ l p (l.getD p n0d).kids.toNat))))) :=
 (Value_ok l hl _ p rfl hp).mono fun y σ h=>by
  obtain⟨_,hy⟩:=h
  rw [hv] at hy
  exact hy
theorem sub_le5 {a b p k e m f:Nat} (h1:p+1+k≤e) (h2:a≤b) (h3:b - p≤f+1):a - (e+m)≤f:=by omega
theorem rVal12_ok (l:List Nd) (hl:l.length≤1000) (hT:∀ m,m∈l→m.text.length≤120):∀ (f p:Nat) (r:Nat × Nat),vl l p=some r→r.1 - p≤f→ACalls Tryz.prog 74 [.sl (l.flatMap nC) l.length,i64 p] [] (fun y _=>y=.ret (str (encF f l p))):=by
 intro f
 induction f with
 | zero =>
  intro p r hv hf
  have:=za6 hv
  omega
 | succ f ih =>
  intro p r hv hf
  have hr:=za6 hv
  obtain⟨n,hK⟩:=zcm hv
  have hn:l.getD p n0d=n:=zaJ hK.node
  have hpl:p < l.length:=by omega
  have hle:=encF_le l hT (f+1) p r hv hf
  have hal:=hK.node
  have hnl:n.text.length≤120:=hT n (by rw [← hn,List.getD_eq_getElem?_getD,List.getElem?_eq_getElem hpl];exact List.getElem_mem _)
  rw [encF,hn] at hle ⊢
  refine ACalls.body T_ok Tryz.func74 (by kernel_rfl) rfl Tryz.ntmps74 (congrArg Array.toList Tryz.results74) ?_
  refine aQ41 ?_
  refine⟨by omega,by omega,by omega,by omega,?_⟩
  rw [hn]
  refine aQ41 ?_
  refine(zdo l hl p (by omega) hv).pure (ze7 _ _ _ _) ?_
  rintro _ σ rfl
  refine⟨zcq _ _ _ _ _ _,?_⟩
  rw [hn]
  refine aQ41 ?_
  obtain⟨kk,hkk,hk6⟩:=zi7 (zbc hK.node).2.2
  have hkb:byteI (n.kind+1)=zbh n.kind:=by
   rw [hkk]
   rcases (show kk=0∨kk=1∨kk=2∨kk=3∨kk=4∨kk=5 by omega) with rfl | rfl | rfl | rfl | rfl | rfl <;> rfl
  refine⟨by unfold inI;omega,?_⟩
  refine(zdO (n.kind+1)).pure aQ3 ?_
  rintro _ σ rfl
  refine⟨by first | rfl | simp [AEnd.noid,AV.ren,renL,zb8,zas str zah,zb7,zbX,zbx,zae,zak,zah],?_⟩
  refine aQ41 ?_
  rw [hkb]
  have hesc:=zkj n.text
  have hesl:(escT n.text).length≤250:=by rw [escT,List.length_append];simp only [List.length_cons,List.length_nil];omega
  refine⟨fun h1=>?_,fun h1=>?_⟩
  ·skip
   refine(zdO n.num).pure aQ3 ?_
   rintro _ σ rfl
   refine⟨by first | rfl | simp [AEnd.noid,AV.ren,renL,zb8,zas str zah,zb7,zbX,zbx,zae,zak,zah],?_⟩
   refine aQ41 ?_
   repeat (with_reducible refine zbt ?_)
   refine zbN ?_
   rw [if_neg (by omega),zfr,if_pos h1,List.append_nil]
   rfl
  refine⟨fun h2=>?_,fun h2=>?_⟩
  ·skip
   refine(rnumber_ok n.num).pure aQ3 ?_
   rintro _ σ rfl
   refine⟨by first | rfl | simp [AEnd.noid,AV.ren,renL,zb8,zas str zah,zb7,zbX,zbx,zae,zak,zah],?_⟩
   refine aQ41 ?_
   refine⟨by simp [numL,bigL,lowL],?_⟩
   refine zbN ?_
   rw [if_neg (by omega),zfr,if_neg (by omega),if_pos h2,List.append_nil]
   try rfl
  refine⟨fun h3=>?_,fun h3=>?_⟩
  ·skip
   refine(zjU n.text (by omega)).pure aQ3 ?_
   rintro _ σ rfl
   refine⟨by first | rfl | simp [AEnd.noid,AV.ren,renL,zb8,zas str zah,zb7,zbX,zbx,zae,zak,zah],?_⟩
   refine aQ41 ?_
   refine⟨by omega,?_⟩
   refine zbN ?_
   rw [if_neg (by omega),zfr,if_neg (by omega),if_neg (by omega),if_pos h3,List.append_nil]
   try rfl
  refine⟨fun h0=>?_,fun h0=>?_⟩
  ·refine zbN ?_
   rw [if_neg (by omega),zfr,if_neg (by omega),if_neg (by omega),if_neg (by omega),List.append_nil]
  rw [if_pos (by omega)] at hle ⊢
  have hhd:zfr n=[zbh n.kind]:=by rw [zfr,if_neg (by omega),if_neg (by omega),if_neg (by omega)]
  rw [hhd] at hle ⊢
  have hfw:=hK.few
  obtain⟨mp,hmp⟩:∃ mp,mp=decide (n.kind=5):=⟨_,rfl⟩
  have hkl:∀ k,k≤n.kids.toNat→(zaT (encF f l) l mp p k).length≤500000:=fun k hk=>by
   have h7:=zgo (encF f l) l mp p hk
   rw [hmp] at h7 ⊢
   simp only [List.length_append,List.length_cons,List.length_nil] at hle
   omega
  have hkz:(kidZ l p n.kids.toNat).length=n.kids.toNat:=by simp [kidZ]
  rw [zaN]
  refine⟨Nat,fun k=>k≤n.kids.toNat,fun k=>[.sl (l.flatMap nC) l.length,.bot,.bot,.bot,.bot,.ptr 0 0,.ptr 1 0,str ([zbh n.kind]++zaT (encF f l) l mp p k),i64 k,.bot,.bot,.bot,.bot,.bot,.bot,.bot,.bot,.bot,.bot,.bot,.bot,.bot,.bot,.bot,.bot,.bot,.bot,.bot,.bot,.bot,.bot,.bot,.bot,.bot,.bot,.bot,.bot,.bot,.bot,.bot,.bot,.bot,.bot,.bot,.bot,.bot,.bot,.bot,.bot,.bot,.bot,.bot,.bot,.bot,.bot,.bot,.bot,.bot,.bot,.bot,.bot,.bot,.bot,.bot,.bot,.bot,.bot,.bot,.bot,.bot,.bot,.bot,.bot,.bot,.bot,.bot,.bot,.bot,.bot,.bot,.bot,.bot,.bot,.bot],fun _=>[.rw (nC n),.rw (sC r.1 r.2 false (slI (kidZ l p n.kids.toNat)) (slI (keyZ l p n.kids.toNat)))],fun k=>n.kids.toNat - k,0,Nat.zero_le _,zab (q:=[0,1]) rfl rfl (by decide) ?_ ?_,?_⟩
  ·skip
   refine aQ19 ?_
   exact⟨by simp [zat],.inr rfl,.inr rfl⟩
  ·simp [zao,zar,zbL,zan]
  ·intro k hk
   have hkl0:=hkl k hk
   refine aQ41 ?_
   refine⟨fun hlt=>?_,fun hge=>?_⟩
   ·have hk2:k < n.kids.toNat:=by omega
    have hkl1:=hkl (k+1) hk2
    obtain⟨r',q1,q2,_⟩:=hK.kid hk2
    rw [← hmp] at q1 q2
    have hin:=za6 q1
    have hinv:=hK.inv k (by omega)
    have hinv1:=hK.inv (k+1) (by omega)
    rw [← hmp] at hinv hinv1
    rw [q2] at hinv1
    have hkg:(kidZ l p n.kids.toNat).getD k 0=((eAt l mp p k+bK mp:Nat):Int):=by
     simp only [kidZ,hn,← hmp]
     rw [rng_get2 _ _ hk2]
    have hbk:bK mp=0∨bK mp=1:=by cases mp <;> simp [bK]
    have hcall:=ih (eAt l mp p k+bK mp) r' q1 (sub_le5 hinv.1 hinv1.2.1 hf)
    have hsu:=zcY (encF f l) l mp p k
    rw [hsu,List.length_append] at hkl1
    by_cases h5:n.kind=5
    ·have hmt:mp=true:=by rw [hmp,decide_eq_true h5]
     subst hmt
     have hsz:(keyZ l p n.kids.toNat).length=n.kids.toNat:=by rw [keyZ,hn,if_pos h5];simp
     have hsg:(keyZ l p n.kids.toNat).getD k 0=((eAt l true p k:Nat):Int):=by rw [keyZ,hn,if_pos h5,rng_get2 _ _ hk2]
     have hb1:bK true=1:=rfl
     refine⟨fun _=>?_,fun h=>(by omega:False).elim⟩
     refine zdb (by kernel_rfl) (by kernel_rfl) ?_
     refine aQ41 ?_
     refine zcI (zdO 1) aQ3 aQ5 ?_
     refine aQ41 ?_
     have hpc:zco (encF f l) l true p k=1::escT (l.getD (eAt l true p k) n0d).text++encF f l (eAt l true p k+bK true):=by simp [zco,keyT]
     rw [hpc] at hsu hkl1
     simp only [List.length_append,List.length_cons] at hkl1
     have htx:(l.getD (eAt l true p k) n0d).text.length≤120:=hT _ (by rw [List.getD_eq_getElem?_getD,List.getElem?_eq_getElem (by omega)];exact List.getElem_mem _)
     rw [hsg,Int.toNat_natCast]
     refine⟨by omega,by omega,by omega,by omega,by omega,by omega,by omega,by omega,?_⟩
     refine zcI (zjU (l.getD (eAt l true p k) n0d).text (by omega)) aQ3 aQ5 ?_
     refine aQ41 ?_
     refine⟨by simp only [List.length_append,List.length_cons,List.length_nil];omega,by omega,by omega,by omega,?_⟩
     rw [hkg]
     refine hcall.pure (ze7 _ _ _ _) ?_
     rintro _ σ rfl
     refine⟨zah _ _,?_⟩
     refine aQ41 ?_
     refine⟨by simp only [List.length_append,List.length_cons,List.length_nil];omega,by unfold inI;omega,?_⟩
     rw [zac]
     refine⟨k+1,by omega,by (show n.kids.toNat - (k+1) < n.kids.toNat - k);omega,zab (q:=[0,1]) rfl rfl (by decide) ?_ ?_⟩
     ·skip
      refine aQ19 ?_
      exact⟨by simp [zat],.inr (by rw [hsu];simp;rfl),.inr (by omega)⟩
     ·simp [zao,zar,zbL,zan]
    ·have hmt:mp=false:=by rw [hmp,decide_eq_false h5]
     subst hmt
     have hb0:bK false=0:=rfl
     refine⟨fun h=>(by omega:False).elim,fun _=>?_⟩
     rw [hkg]
     have hpc:zco (encF f l) l false p k=encF f l (eAt l false p k+bK false):=by simp [zco]
     rw [hpc] at hsu hkl1
     refine⟨by omega,by omega,by omega,?_⟩
     refine hcall.pure (ze7 _ _ _ _) ?_
     rintro _ σ rfl
     refine⟨zah _ _,?_⟩
     refine aQ41 ?_
     refine⟨by omega,by unfold inI;omega,?_⟩
     rw [zac]
     refine⟨k+1,by omega,by (show n.kids.toNat - (k+1) < n.kids.toNat - k);omega,zab (q:=[0,1]) rfl rfl (by decide) ?_ ?_⟩
     ·skip
      refine aQ19 ?_
      exact⟨by simp [zat],.inr (by rw [hsu]),.inr (by omega)⟩
     ·simp [zao,zar,zbL,zan]
   ·obtain rfl:k=n.kids.toNat:=by omega
    refine aQ41 ?_
    refine(zdO 0).pure aQ3 ?_
    rintro _ σ rfl
    refine⟨by first | rfl | simp [AEnd.noid,AV.ren,renL,zb8,zas str zah,zb7,zbX,zbx,zae,zak,zah],?_⟩
    refine aQ41 ?_
    refine⟨by omega,?_⟩
    refine zbN ?_
    rw [hmp]
    rfl
theorem rPut_ok (l:List Nd) (hl:l.length≤1000):ACalls Tryz.prog 36 [.sl (l.flatMap nC) l.length] [] (fun y _=>y=.ret (.tup [str (putR l).1,i64 (putR l).2])):=by
 refine ACalls.body T_ok Tryz.func36 (by kernel_rfl) rfl Tryz.ntmps36 (congrArg Array.toList Tryz.results36) ?_
 refine aQ41 ?_
 refine(zir l hl).pure (zdX _ _ _) ?_
 rintro _ σ rfl
 refine⟨zae _ _,?_⟩
 refine aQ41 ?_
 refine⟨fun hne=>?_,fun h0=>?_⟩
 ·exact zaP aQ6 (by rw [putR,if_neg hne])
 ·obtain⟨d,hv,_,hal⟩:=errOf_val h0
  refine(rVal12_ok l hl (long_of hal) l.length 0 _ hv (by dsimp only;omega)).pure (ze7 _ _ _ _) ?_
  rintro _ σ rfl
  refine⟨zah _ _,?_⟩
  refine aQ41 ?_
  exact zaP aQ6 (by rw [putR,if_pos h0])
end Go.Proofs.YtcahoelfogjljaaGreatDoor
end

