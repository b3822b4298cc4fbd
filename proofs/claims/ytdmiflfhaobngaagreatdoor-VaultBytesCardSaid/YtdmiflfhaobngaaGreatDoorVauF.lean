/-
  A batch that is read; rows of items. No condition.
-/
import Derived.Test.YtdmiflfhaobngaaGreatDoorVauE
import Derived.Shelf.Sort.Plain
set_option linter.unusedSimpArgs false
set_option linter.unusedVariables false
set_option linter.unusedSectionVars false
section
namespace Go.Proofs.YtdmiflfhaobngaaGreatDoor
open Go Go.Eng
def chk (l:List (List UInt8)) (n i:Nat):List (List UInt8):=(l.take ((i+1) * n)).drop (i * n)
def chks (l:List (List UInt8)) (n:Nat):Nat:=(l.length+n - 1) / n
theorem zgD (l:List (List UInt8)):slS l=.sl (l.map str) l.length:=rfl
theorem zeD {K:AV→Prop} {σ:zag} (l:List (List UInt8)) (a:Int):zbA T 68 (.sl (l.map str) l.length) (some (i64 a)) none σ K=(0≤a∧a≤l.length∧K (.sl ((l.drop a.toNat).map str) (l.length - a.toNat))):=by
 simp only [zbA,T68,tySl,bnd,i64]
 apply propext
 constructor
 ·rintro⟨te,h1,h2,h3,h4,h5,h6⟩
  obtain rfl:tyStr=te:=by rw [T9] at h1;exact Option.some.inj h1
  refine⟨h2,h3,?_⟩
  simp only [show tyStr.size=1 from rfl,Nat.mul_one,← List.map_drop,Int.toNat_natCast] at h6
  rwa [List.take_of_length_le (by simp)] at h6
 ·rintro⟨h2,h3,h6⟩
  refine⟨tyStr,T9,h2,h3,Int.le_refl _,by simp [tyStr],?_⟩
  simp only [show tyStr.size=1 from rfl,Nat.mul_one,← List.map_drop,Int.toNat_natCast]
  rwa [List.take_of_length_le (by simp)]
theorem sl3S {K:AV→Prop} (l:List (List UInt8)) (a b c:Int):sl3 T (some (tySl 9)) (.sl (l.map str) l.length) (some (i64 a)) (some (i64 b)) (i64 c) K=(0≤a∧a≤b∧b≤c∧c≤l.length∧K (.sl (((l.take b.toNat).drop a.toNat).map str) (b.toNat - a.toNat))):=by
 simp only [sl3,tySl,bnd,i64,Option.bind_some]
 apply propext
 constructor
 ·rintro⟨te,h1,h2,h3,h4,h5,_,h6⟩
  obtain rfl:tyStr=te:=by rw [T9] at h1;exact Option.some.inj h1
  refine⟨h2,h3,h4,h5,?_⟩
  simp only [show tyStr.size=1 from rfl,Nat.mul_one] at h6
  rw [List.map_drop,List.map_take,List.drop_take]
  exact h6
 ·rintro⟨h2,h3,h4,h5,h6⟩
  refine⟨tyStr,T9,h2,h3,h4,h5,by simp [tyStr],?_⟩
  simp only [show tyStr.size=1 from rfl,Nat.mul_one]
  rw [List.map_drop,List.map_take,List.drop_take] at h6
  exact h6
theorem zi8 {σ:zag} {KS:AV→zag→Prop} (e:TypeId) (cs:List AV) (n:Nat):wbox e (.sl cs n) σ KS=KS (.ptr σ.length 0) (σ++[.rw [.sl cs n]]):=by
 simp [wbox,AV.cells,AV.one,zdb]
theorem zi9 {σ:zag} {KS:AV→zag→Prop} (x e:TypeId):al1 T x (some (tySl e)) σ KS=KS (.ptr σ.length 0) (σ++[.rw [.lit (.slice none 0 0)]]):=rfl
theorem zja {σ:zag} {KS:AV→zag→Prop} (x:TypeId):al1 T x (some zbB) σ KS=KS (.ptr σ.length 0) (σ++[.rw [i64 0]]):=rfl
theorem chks_iff {l:List (List UInt8)} {n k:Nat} (hn:1≤n):k * n < l.length ↔ k < chks l n:=by
 have h:=@Nat.le_div_iff_mul_le n (k+1) (l.length+n - 1) hn
 rw [Nat.succ_mul] at h
 rw [chks]
 omega
theorem chk_sl {l:List (List UInt8)} {n k:Nat}:l.take (k * n+min n (l.length - k * n))=l.take ((k+1) * n):=by
 rw [Nat.succ_mul]
 rcases Nat.le_total n (l.length - k * n) with h | h
 ·rw [Nat.min_eq_left h]
 ·rw [Nat.min_eq_right h,List.take_of_length_le (i:=k * n+(l.length - k * n)) (by omega),List.take_of_length_le (by omega)]
theorem ziy (l:List (List UInt8)) (n k:Nat):(chk l n k).length=min n (l.length - k * n):=by
 rw [chk,List.length_drop,List.length_take,Nat.succ_mul]
 omega
theorem chunk_ok (l:List (List UInt8)) (n:Int) (hn:1≤n):ACalls Tryz.prog 51 [.sl (l.map str) l.length,i64 n] [] (fun x σ=>x=.ret (.fn (.func 86) [] [.ptr 0 0,.ptr 1 0])∧σ=[.rw [.sl (l.map str) l.length],.rw [i64 n]]):=by
 refine ACalls.body T_ok Tryz.func51 (by kernel_rfl) rfl Tryz.ntmps51 (congrArg Array.toList Tryz.results51) ?_
 try simp -implicitDefEqProofs only [LM6,LB21,eq_self,zab (h:=T68),zad,zeD,sl3S,zi8,zi9,zja,zac,TB,SB,Int.reduceToNat,Nat.reduceAdd,Nat.reduceEqDiff,Nat.reduceLT,Nat.reduceMod,Nat.reducePow,Nat.reduceSub,if_true,reduceIte]
 refine⟨fun h=>absurd h (by omega),fun _=>?_⟩
 exact zbi ⟨rfl,rfl⟩
theorem chunk1_ok (l:List (List UInt8)) (hl:l.length≤1000000000) (n j:Nat) (hn:1≤n) (hn3:n≤3) (hj:j≤chks l n) (id p q:Nat) (S:Nat→zag) (E:zag) (hS:∀ i,rd (S i) p=some [.sl (l.map str) l.length]) (hQ:∀ i,rd (S i) q=some [i64 n])
  (hY : ∀ i, i < j → AYield Tryz.prog id [slS (chk l n i)] (S i) (fun x σ' => x = .ret (bl true) ∧ σ' = S (i + 1)))
  (hE : j < chks l n → AYield Tryz.prog id [slS (chk l n j)] (S j) (fun x σ' => x = .ret (bl false) ∧ σ' = E)) :
  ACalls Tryz.prog 86 [.yl id, .ptr p 0, .ptr q 0] (S 0) (fun x σ' => x = .ret (.tup []) ∧ σ' = if j < chks l n then E else S j) := by
 refine ACalls.body T_ok Tryz.func86 (by kernel_rfl) rfl Tryz.ntmps86 (congrArg Array.toList Tryz.results86) ?_
 try simp -implicitDefEqProofs only [LM6,LB21,eq_self,zab (h:=T68),zad,zeD,sl3S,zi8,zi9,zja,zac,TB,SB,Int.reduceToNat,Nat.reduceAdd,Nat.reduceEqDiff,Nat.reduceLT,Nat.reduceMod,Nat.reducePow,Nat.reduceSub,if_true,reduceIte]
 rw [za9]
 refine⟨Nat,fun k=>k≤j,fun k=>[.yl id,.ptr p 0,.ptr q 0,.bot,i64 (k * n:Nat),.bot,.bot,.bot,.bot,.bot,.bot,.bot,.bot,.bot,.bot,.bot,.bot,.bot,.bot,.bot,.bot,.bot,.bot,.bot,.bot,.bot,.bot,.bot,.bot,.bot,.bot],S,fun k=>j - k,0,Nat.zero_le _,zdA ?_,?_⟩
 ·skip
  try simp only [LB1,List.getElem?_cons_zero,true_and,and_true,or_true,true_or,reduceCtorEq,false_or]
  exact .inr (by rw [Nat.zero_mul];rfl)
 ·intro k hk
  have hsu:=Nat.succ_mul k n
  try simp -implicitDefEqProofs only [LM6,LB21,eq_self,zab (h:=T68),zad,zeD,sl3S,zi8,zi9,zja,zac,hS k,hQ k,TB,SB,Int.reduceToNat,Nat.reduceAdd,Nat.reduceEqDiff,Nat.reduceLT,Nat.reduceMod,Nat.reducePow,Nat.reduceSub,if_true,reduceIte]
  have hsl:=@chk_sl l n k
  have hcl:=ziy l n k
  refine⟨fun hlt=>?_,fun hge=>?_⟩
  ·have hk2:k < chks l n:=(chks_iff hn).1 (by omega)
   have e1:((k * n:Nat):Int)+min (n:Int) ((l.length - k * n:Nat):Int)=((k * n+min n (l.length - k * n):Nat):Int):=by omega
   refine zcb (by kernel_rfl) (by kernel_rfl) ?_
   try simp -implicitDefEqProofs only [LM6,LB21,eq_self,zab (h:=T68),zad,zeD,sl3S,zi8,zi9,zja,zac,hS k,hQ k,TB,SB,Int.reduceToNat,Nat.reduceAdd,Nat.reduceEqDiff,Nat.reduceLT,Nat.reduceMod,Nat.reducePow,Nat.reduceSub,if_true,reduceIte]
   rw [e1,Int.toNat_natCast,hsl]
   have e2:AV.sl (((l.take ((k+1) * n)).drop (k * n)).map str) (k * n+min n (l.length - k * n) - k * n)=slS (chk l n k):=by
    rw [slS,hcl,Nat.add_sub_cancel_left]
    rfl
   rw [e2]
   refine⟨by omega,by omega,by unfold inI;omega,by unfold inI;omega,by omega,by omega,by omega,by omega,?_⟩
   by_cases hkj:k < j
   ·refine(hY k hkj).mono ?_
    rintro _ σ' ⟨rfl, rfl⟩
    try simp -implicitDefEqProofs only [LM6,LB21,eq_self,zab (h:=T68),zad,zeD,sl3S,zi8,zi9,zja,zac,hQ (k+1),TB,SB,Int.reduceToNat,Nat.reduceAdd,Nat.reduceEqDiff,Nat.reduceLT,Nat.reduceMod,Nat.reducePow,Nat.reduceSub,if_true,reduceIte]
    refine⟨by unfold inI;omega,?_⟩
    rw [zan]
    refine⟨k+1,by omega,(by show j - (k+1) < j - k;omega),zdA ?_⟩
    try simp only [LB1,List.getElem?_cons_zero,true_and,and_true,or_true,true_or,reduceCtorEq,false_or]
    exact .inr (by rw [hsu];rfl)
   ·obtain rfl:k=j:=by omega
    refine(hE hk2).mono ?_
    rintro _ σ' ⟨rfl, rfl⟩
    try simp -implicitDefEqProofs only [LM6,LB21,eq_self,zab (h:=T68),zad,zeD,sl3S,zi8,zi9,zja,zac,TB,SB,Int.reduceToNat,Nat.reduceAdd,Nat.reduceEqDiff,Nat.reduceLT,Nat.reduceMod,Nat.reducePow,Nat.reduceSub,if_true,reduceIte]
    rw [if_pos hk2]
    exact zbi ⟨rfl,rfl⟩
  ·have hk2:¬ k < chks l n:=fun h=>by
    have:=(chks_iff (l:=l) hn).2 h
    omega
   obtain rfl:k=j:=by omega
   try simp -implicitDefEqProofs only [LM6,LB21,eq_self,zab (h:=T68),zad,zeD,sl3S,zi8,zi9,zja,zac,hS k,hQ k,TB,SB,Int.reduceToNat,Nat.reduceAdd,Nat.reduceEqDiff,Nat.reduceLT,Nat.reduceMod,Nat.reducePow,Nat.reduceSub,if_true,reduceIte]
   rw [if_neg hk2]
   exact zbi ⟨rfl,rfl⟩
end Go.Proofs.YtdmiflfhaobngaaGreatDoor
end

section
namespace Go.Proofs.YtdmiflfhaobngaaGreatDoor
open Go Go.Eng
def rdI (s:List UInt8):Int:=IntKind.i64.wrap ((zaG s).toNat:Int)
theorem zgs {l:List (List UInt8)} {n i j:Nat} (hj:j < n):(chk l n i).getD j []=l.getD (i * n+j) []:=by
 have h2:i * n+j < (i+1) * n:=by rw [Nat.succ_mul];omega
 simp only [chk,List.getD_eq_getElem?_getD,List.getElem?_drop,List.getElem?_take,if_pos h2]
theorem half_chks (l:List (List UInt8)):chks l 2=(l.length+1) / 2:=rfl
theorem deadS (a:Nat) (r:Blk):(List.replicate a Blk.dead++[r]).set a .dead=.dead::List.replicate a .dead:=by
 rw [← List.replicate_succ,List.replicate_succ',List.set_append_right _ _ (by simp)]
 simp
theorem deadG (a:Nat) (r:Blk):(List.replicate a Blk.dead++[r])[a]?=some r:=by simp
end Go.Proofs.YtdmiflfhaobngaaGreatDoor
end

section
namespace Go.Proofs.YtdmiflfhaobngaaGreatDoor
open Go Go.Eng
theorem ziz:∀ (n:Nat) (s:List UInt8),s.length≤n→∀ t m,rdT s=some (t,m)→escT t=s.take m
 | 0,s,h,t,m,hx=>by
  have:s=[]:=List.eq_nil_of_length_eq_zero (by omega)
  subst this
  cases hx
 | n+1,s,h,t,m,hx=>by
  match s,h,hx with
  | [],_,hx=>cases hx
  | [_],_,hx=>cases hx
  | c::b::r,h,hx =>
   simp only [List.length_cons] at h
   rw [rdT] at hx
   split at hx
   ·rename_i hc
    subst hc
    split at hx
    ·rename_i hb
     subst hb
     cases hx
     rfl
    ·split at hx
     ·rename_i hb
      subst hb
      cases hr:rdT r with
      | none=>rw [hr] at hx;cases hx
      | some y =>
       obtain⟨t',m'⟩:=y
       rw [hr] at hx
       cases hx
       have:=ziz n r (by omega) _ _ hr
       show 0::255::escT t'=_
       rw [this]
       rfl
     ·cases hx
   ·rename_i hc
    cases hr:rdT (b::r) with
    | none=>rw [hr] at hx;cases hx
    | some y =>
     obtain⟨t',m'⟩:=y
     rw [hr] at hx
     cases hx
     have:=ziz n (b::r) (by simp only [List.length_cons];omega) _ _ hr
     have e0:escT (c::t')=c::escT t':=by rw [escT,esc_1 hc];rfl
     dsimp only
     rw [e0,this]
     rfl
theorem toNat_is {c:UInt8} {n:Nat} (h:c.toNat=n):c=UInt8.ofNat n:=by rw [← h];simp
theorem nodR_is3 {s:List UInt8} {n:Nd} {e:Nat} (h:nodR s 0=some (n,e)) (h3:n.kind=3):zdY 3::escT n.text=s.take e:=by
 rw [nodR,List.drop_zero] at h
 match s,h with
 | [],h=>cases h
 | c::r,h =>
  dsimp only at h
  split at h
  ·rename_i hc
   cases h
   dsimp only at h3
   omega
  ·split at h
   ·match r,h with
    | [],h=>cases h
    | b::r,h =>
     dsimp only at h
     split at h
     ·cases h
      cases h3
     ·cases h
   ·split at h
    ·split at h
     ·cases h
     ·cases h
      cases h3
    ·split at h
     ·rename_i hc
      have hc4:=toNat_is hc
      cases hr:rdT r with
      | none=>rw [hr] at h;cases h
      | some y =>
       obtain⟨t,m⟩:=y
       rw [hr] at h
       cases h
       have:=ziz _ r (Nat.le_refl _) _ _ hr
       dsimp only
       rw [this,hc4,show 0+1+m=m+1 by omega]
       rfl
     ·cases h
theorem zhq:∀ (f:Nat) (s:List UInt8) (l:List (List UInt8)),zbx f s=some l→zbk l=s
 | 0,s,l,h=>by
  rw [zbx] at h
  split at h
  ·rename_i h0
   cases h
   exact h0.symm
  ·cases h
 | f+1,s,l,h=>by
  rw [zbx] at h
  split at h
  ·rename_i h0
   cases h
   exact h0.symm
  ·cases hn:nodR s 0 with
   | none=>rw [hn] at h;cases h
   | some z =>
    obtain⟨n,e⟩:=z
    rw [hn] at h
    dsimp only at h
    split at h
    ·rename_i h3
     have b2:=nodR_is3 hn h3
     cases hs:zbx f (s.drop e) with
     | none=>rw [hs] at h;cases h
     | some l' =>
      rw [hs] at h
      cases h
      rw [zfj,zhq f _ _ hs]
      rw [← List.cons_append,b2,List.take_append_drop]
    ·cases h
theorem zfM {s:List UInt8} (h:(zaN s).2=0):zbk (zaN s).1=s:=by
 rw [zaN] at h ⊢
 cases hs:zbx s.length s with
 | none=>rw [hs] at h;cases h
 | some l=>exact zhq _ _ _ hs
theorem splitR_bad {s:List UInt8} (h:(zaN s).2≠0):zaN s=([],5):=by
 rw [zaN] at h ⊢
 cases hs:zbx s.length s with
 | none=>rfl
 | some l=>rw [hs] at h;exact absurd rfl h
theorem esc_ge:∀ b:List UInt8,b.length≤(esc b).length
 | []=>Nat.le_refl _
 | c::b=>by
  have ih:=esc_ge b
  by_cases hc:c=0
  ·subst hc;rw [esc_0];simp only [List.length_cons];omega
  ·rw [esc_1 hc];simp only [List.length_cons];omega
theorem zh6:∀ (l:List (List UInt8)),l.length≤(zbk l).length∧∀ s∈l,s.length≤(zbk l).length
 | []=>⟨Nat.zero_le _,fun s h=>(by cases h)⟩
 | a::l=>by
  obtain⟨h1,h2⟩:=zh6 l
  rw [zfj]
  have h3:a.length≤(escT a).length:=by
   have:=esc_ge a
   rw [escT,List.length_append]
   omega
  simp only [List.length_cons,List.length_append]
  refine⟨by omega,fun s hs=>?_⟩
  rcases List.mem_cons.1 hs with rfl | hs
  ·omega
  ·have:=h2 s hs
   omega
theorem zf8 (s:List UInt8):(zaN s).1.length≤s.length∧∀ x∈(zaN s).1,x.length≤s.length:=by
 by_cases h:(zaN s).2=0
 ·have:=zh6 (zaN s).1
  rwa [zfM h] at this
 ·rw [splitR_bad h]
  exact⟨Nat.zero_le _,fun x hx=>by cases hx⟩
end Go.Proofs.YtdmiflfhaobngaaGreatDoor
end

section
namespace Go.Proofs.YtdmiflfhaobngaaGreatDoor
open Go Go.Eng
set_option linter.defProp false in
def LB22:=And.intro @zeD (And.intro @sl3S (And.intro @zi8 (And.intro @zi9 (@zja))))
set_option linter.defProp false in
def LB23:=And.intro @zey (And.intro @zd0 (And.intro @ren_slK (And.intro @ren_slW (And.intro @zci (And.intro @renL_K (And.intro @zix (And.intro @zaH (@zcn))))))))
set_option linter.defProp false in
def LM2:=And.intro LB8 (And.intro LB12 (And.intro LB13 (And.intro LB17 (And.intro LB19 (And.intro LB20 (And.intro LB21 (LB22)))))))
set_option linter.defProp false in
def LM13:=And.intro LM5 (LB23)
def voAt (L:List (List UInt8)) (k:Nat):Vo:=⟨rdI (L.getD (3 * k) []),L.getD (3 * k+1) [],L.getD (3 * k+2) []⟩
def voL (L:List (List UInt8)) (a:Nat):List Vo:=(List.range a).map (voAt L)
def vS (L:List (List UInt8)) (x:Int) (lp:Blk):Nat→zag
 | 0=>[.rw [.lit (.slice none 0 0)],.rw [i64 x],.rw [.lit (.slice none 0 0)],.rw [slS L],.rw [i64 3],lp]
 | a+1=>.rw [.lit (.slice none 0 0)]::.rw [i64 x]::.rw [.ref (a+6) 0 (a+1) 3]::.rw [slS L]::.rw [i64 3]::lp::(List.replicate a .dead++[.rw ((voL L (a+1)).flatMap voC)])
theorem voL_succ (L:List (List UInt8)) (a:Nat):voL L (a+1)=voL L a++[voAt L a]:=by simp [voL,List.range_succ]
theorem ziA (L:List (List UInt8)) (a:Nat):(voL L a).length=a:=by simp [voL]
def oneB (L:List (List UInt8)):Bool:=(List.range (L.length / 3)).all fun k=>decide ((L.getD (3 * k) []).length=1)
def getV (b:List UInt8):List Vo × Int :=
 if (zaN b).2≠0 then ([],5) else if (zaN b).1.length % 3≠0 then ([],5)
 else if oneB (zaN b).1=false then ([],5)
 else if zbf (voL (zaN b).1 ((zaN b).1.length / 3))=false then ([],5)
 else (voL (zaN b).1 ((zaN b).1.length / 3),0)
theorem first_not (P:Nat→Bool):∀ n,(∀ k,k < n→P k=true)∨∃ j,j < n∧P j=false∧∀ k,k < j→P k=true
 | 0=>.inl fun k h=>absurd h (by omega)
 | n+1=>by
  rcases first_not P n with h | ⟨j,h1,h2,h3⟩
  ·cases hp:P n with
   | true =>
    refine .inl fun k hk=>?_
    rcases Nat.lt_succ_iff_lt_or_eq.1 hk with h' | rfl
    ·exact h k h'
    ·exact hp
   | false=>exact .inr ⟨n,by omega,hp,h⟩
  ·exact .inr ⟨j,by omega,h2,h3⟩
theorem vo_app {σ:zag} {KS:AV→zag→Prop} {id n:Nat} {l:List Vo} {y:Vo} {x:AV} (hc:σ[id]?=some (.rw (l.flatMap voC))) (hn:n=l.length) (hx:asrc σ 3 x=some ([y].flatMap voC,1)) (g:l.length≤1000000) (hk:KS (.ref σ.length 0 (n+1) 3) (σ.set id .dead++[.rw ((l++[y]).flatMap voC)])):zbD T #[25,25] (.ref id 0 n 3) x σ KS:=by
 subst hn
 exact voF.app rfl rfl T25 T25 (zdz _) T66 rfl rfl hc hx rfl (by omega) (by simp only [tyVo];omega) hk
theorem qb_V {K:AV→Prop} (k:Int) (l b:List UInt8):qb2 (some tyVo) 1 [(0,.agg [i64 k,str l,str b])] K=K (.sl ([⟨k,l,b⟩].flatMap voC) 1):=by
 simp [qb2,tyVo,zbs,zb4,AV.cells,zbc,List.range_succ,List.replicate,zad,zb1,voC]
theorem zgt (l:List Vo) (e:Int) (q:List Nat):(AV.tup [slV l,i64 e]).ren q=some (.tup [slV l,i64 e]):=by simp [AV.ren,renL,zd0,zaj]
theorem zdT {σ:zag} {e:Int} {K:AV→zag→Prop} (h:K (.tup [slV [],i64 e]) []):endQ 0 (.tup [.lit (.slice none 0 0),i64 e]) σ K :=
 zce [] (.tup [slV [],i64 e]) ⟨_,rfl,_,_,rfl,.inr ⟨rfl,rfl⟩,_,_,rfl,.inl rfl,rfl⟩ ⟨[],.tup [slV [],i64 e],[],rfl,rfl,by decide,zgt _ _ _,trivial,h⟩
theorem end_refV {σ:zag} {id n:Nat} {e:Int} {l:List Vo} {K:AV→zag→Prop} (hc:(zch σ [id])[id]?=some (.ro (l.flatMap voC))) (hn:n=l.length) (h:K (.tup [slV l,i64 e]) []):endQ 0 (.tup [.ref id 0 n 3,i64 e]) σ K :=
 zce [id] (.tup [slV l,i64 e]) ⟨_,rfl,_,_,rfl,voF.frz hc hn,_,_,rfl,.inl rfl,rfl⟩ ⟨[],.tup [slV l,i64 e],[],rfl,rfl,by decide,zgt _ _ _,trivial,h⟩
theorem rd_of {σ:zag} {id:Nat} {cs:List AV} (h:σ[id]?=some (.rw cs)):rd σ id=some cs:=by simp only [rd,h]
theorem zf9 {σ:zag} {id:Nat} {cs:List AV} (h:σ[id]?=some (.rw cs)):(zch σ [id])[id]?=some (.ro cs):=by
 have hl:=(List.getElem?_eq_some_iff.1 h).1
 simp only [zch,h]
 rw [List.getElem?_set_self hl]
theorem see_V {l:List Vo} {n id:Nat} {σ:zag} (hn:n=l.length) (hr:σ[id]?=some (.rw (l.flatMap voC))):see σ (.ref id 0 n 3) (slV l):=by
 subst hn
 exact .inr (.inl ⟨id,0,l.length,3,l.flatMap voC,rfl,rd_of hr,by rw [voF.flen];omega,voF.fren _ _,by rw [List.drop_zero,voF.full];rfl⟩)
theorem isB_ref {l:List Vo} {n id:Nat} {σ:zag} {K:AEnd→zag→Prop} (hn:n=l.length) (hr:σ[id]?=some (.rw (l.flatMap voC))) (hk:K (.ret (bl (zbf l))) σ):ACalls Tryz.prog 35 [.ref id 0 n 3] σ K :=
 (zh5 l).lend ⟨see_V hn hr,trivial⟩ (by
  rintro _ _ rfl
  exact⟨trivial,hk⟩)
theorem vget_range {L:List (List UInt8)} (hl:L.length≤1000000) (h3:L.length % 3=0) {env:List AV} {ps:Array Tmp} {A B:Code} {K:AEnd→zag→Prop} (j:Nat) (hj:j≤L.length / 3)
  (hY : ∀ a, a < j → AYield Tryz.prog 5 [slS (chk L 3 a)] (vS L 0 (.lp .ready none env ps A B) a) (fun x σ' => x = .ret (bl true) ∧ σ' = vS L 0 (.lp .ready none env ps A B) (a + 1)))
  (hE : j < L.length / 3 → AYield Tryz.prog 5 [slS (chk L 3 j)] (vS L 0 (.lp .ready none env ps A B) j) (fun x σ' => x = .ret (bl false) ∧ σ' = vS L 5 (.lp .done (some .ret) env ps A B) j))
  (hK1:j < L.length / 3→K (.ret (.tup [])) (vS L 5 (.lp .done (some .ret) env ps A B) j))
  (hK2:j=L.length / 3→K (.ret (.tup [])) (vS L 0 (.lp .ready none env ps A B) j)) :
  ACalls Tryz.prog 86 [.yl 5,.ptr 3 0,.ptr 4 0] [.rw [.lit (.slice none 0 0)],.rw [i64 0],.rw [.lit (.slice none 0 0)],.rw [.sl (L.map str) L.length],.rw [i64 3],.lp .ready none env ps A B] K:=by
 have hc:chks L 3=L.length / 3:=by rw [chks];omega
 refine(chunk1_ok L (by omega) 3 j (by decide) (by decide) (by omega) 5 3 4 (fun i=>vS L 0 (.lp .ready none env ps A B) i) (vS L 5 (.lp .done (some .ret) env ps A B) j) (fun i=>?_) (fun i=>?_) (fun i hi=>hY i hi) (fun h=>hE (by omega))).mono ?_
 ·cases i <;> rfl
 ·cases i <;> rfl
 · rintro _ σ' ⟨rfl, rfl⟩
   by_cases h:j < L.length / 3
   ·rw [if_pos (by omega)]
    exact hK1 h
   ·rw [if_neg (by omega)]
    exact hK2 (by omega)
theorem vget_ok (b:List UInt8) (hb:b.length≤1000000):ACalls Tryz.prog 25 [str b] [] (fun y _=>y=.ret (.tup [slV (getV b).1,i64 (getV b).2])):=by
 have hle:=zf8 b
 refine ACalls.body T_ok Tryz.func25 (by kernel_rfl) rfl Tryz.ntmps25 (congrArg Array.toList Tryz.results25) ?_
 try simp -implicitDefEqProofs only [LM2,eq_self,zab (h:=T68),zad,zac,zaa,TB,SB,Int.reduceToNat,Nat.reduceAdd,Nat.reduceEqDiff,Nat.reduceLT,Nat.reduceMod,Nat.reducePow,Nat.reduceSub,if_true,reduceIte]
 refine(split_ok b (by omega)).pure (by simp [renL,zae]) ?_
 rintro _ σ rfl
 refine⟨zhm _ _ _,?_⟩
 obtain⟨X,hX⟩:∃ X,X=getV b:=⟨_,rfl⟩
 rw [← hX]
 unfold getV at hX
 generalize zaN b=sp at hX hle ⊢
 obtain⟨L,e⟩:=sp
 dsimp only at hX hle ⊢
 simp only [zgD]
 try simp -implicitDefEqProofs only [LM2,eq_self,zab (h:=T68),zad,zac,zaa,TB,SB,Int.reduceToNat,Nat.reduceAdd,Nat.reduceEqDiff,Nat.reduceLT,Nat.reduceMod,Nat.reducePow,Nat.reduceSub,if_true,reduceIte]
 by_cases he:e=0
 rotate_left
 ·rw [if_pos he] at hX
  have he2:decide (e=0)=false:=decide_eq_false he
  rw [he2]
  try simp -implicitDefEqProofs only [LM2,eq_self,zab (h:=T68),zad,zac,zaa,TB,SB,Int.reduceToNat,Nat.reduceAdd,Nat.reduceEqDiff,Nat.reduceLT,Nat.reduceMod,Nat.reducePow,Nat.reduceSub,if_true,reduceIte]
  exact zdT (by rw [hX])
 subst he
 rw [if_neg (by decide)] at hX
 try simp -implicitDefEqProofs only [LM2,eq_self,zab (h:=T68),zad,zac,zaa,TB,SB,Int.reduceToNat,Nat.reduceAdd,Nat.reduceEqDiff,Nat.reduceLT,Nat.reduceMod,Nat.reducePow,Nat.reduceSub,if_true,reduceIte]
 rw [show ((L.length:Int).tmod 3)=((L.length % 3:Nat):Int) from rfl]
 refine⟨by decide,fun h3=>?_,fun h3=>?_⟩
 ·rw [if_pos (by omega)] at hX
  exact zdT (by rw [hX])
 rw [if_neg (by omega)] at hX
 refine ACalls.frame ([]) (chunk_ok L 3 (by decide)) rfl (by decide) (by simp [LM13,zao,zas,renL,AV.ren,AEnd.ren,zaf str zae,zaq,List.getElem?_cons_zero,List.getElem?_cons_succ]) (by first | rfl | simp [LM13,zao,zas,renL,AV.ren,AEnd.ren,zaf str zae,zaq,List.getElem?_cons_zero,List.getElem?_cons_succ]) ?_
 rintro _ _ ⟨rfl,rfl⟩
 refine⟨.ret (.fn (.func 86) [] [.ptr 3 0,.ptr 4 0]),[.rw [.lit (.slice none 0 0)],.rw [i64 0],.rw [.lit (.slice none 0 0)],.rw [.sl (L.map str) L.length],.rw [i64 3]],(by show zas _ _ ([2,2,2,0,1]) ([2,2,2,0,1]) 0 _;simp [LM13,zao,zas,renL,AV.ren,AEnd.ren,zaf str zae,zaq,List.getElem?_cons_zero,List.getElem?_cons_succ]),(by show AEnd.ren ([2,2,2,0,1]) _ _;first | rfl | simp [LM13,zao,zas,renL,AV.ren,AEnd.ren,zaf str zae,zaq,List.getElem?_cons_zero,List.getElem?_cons_succ]),?_⟩
 try simp -implicitDefEqProofs only [LM2,eq_self,zab (h:=T68),zad,zac,zaa,TB,SB,Int.reduceToNat,Nat.reduceAdd,Nat.reduceEqDiff,Nat.reduceLT,Nat.reduceMod,Nat.reducePow,Nat.reduceSub,if_true,reduceIte]
 refine⟨by kernel_rfl,?_⟩
 have hgl:∀ j,(L.getD j []).length≤1000000000:=fun j=>by
  by_cases hj:j < L.length
  ·rw [List.getD_eq_getElem?_getD,List.getElem?_eq_getElem hj]
   have:=hle.2 _ (List.getElem_mem hj)
   show (L[j]).length≤_
   omega
  ·rw [List.getD_eq_getElem?_getD,List.getElem?_eq_none (by omega)]
   simp
 obtain⟨j,hj,hgood,hbad⟩:∃ j,j≤L.length / 3∧(∀ k,k < j→(L.getD (3 * k) []).length=1)∧(j < L.length / 3→(L.getD (3 * j) []).length≠1):=by
  rcases first_not (fun k=>decide ((L.getD (3 * k) []).length=1)) (L.length / 3) with h | ⟨j,h1,h2,h4⟩
  ·exact⟨_,Nat.le_refl _,fun k hk=>of_decide_eq_true (h k hk),fun h=>absurd h (by omega)⟩
  ·exact⟨j,by omega,fun k hk=>of_decide_eq_true (h4 k hk),fun _=>of_decide_eq_false h2⟩
 refine vget_range (by omega) (by omega) j hj (fun a ha=>?_) (fun hlt=>?_) (fun hlt=>?_) (fun heq=>?_)
 ·have hcl:(chk L 3 a).length=3:=by rw [ziy];omega
  have g0:=zgs (l:=L) (n:=3) (i:=a) (j:=0) (by omega)
  have g1:=zgs (l:=L) (n:=3) (i:=a) (j:=1) (by omega)
  have g2:=zgs (l:=L) (n:=3) (i:=a) (j:=2) (by omega)
  rw [show a * 3+0=3 * a by omega] at g0
  rw [show a * 3+1=3 * a+1 by omega] at g1
  rw [show a * 3+2=3 * a+2 by omega] at g2
  have hr:=hgl (3 * a)
  have hone:=hgood a ha
  rw [zgD]
  match a,ha with
  | 0,ha =>
   simp only [vS]
   refine AYield.of T_ok rfl rfl rfl rfl ?_
   try simp -implicitDefEqProofs only [LM2,eq_self,zab (h:=T68),zad,zac,zaa,TB,SB,Int.reduceToNat,Nat.reduceAdd,Nat.reduceEqDiff,Nat.reduceLT,Nat.reduceMod,Nat.reducePow,Nat.reduceSub,if_true,reduceIte]
   refine⟨_,_,_,rfl,?_⟩
   try simp -implicitDefEqProofs only [LM2,eq_self,zab (h:=T68),zad,zac,zaa,TB,SB,Int.reduceToNat,Nat.reduceAdd,Nat.reduceEqDiff,Nat.reduceLT,Nat.reduceMod,Nat.reducePow,Nat.reduceSub,if_true,reduceIte]
   repeat (with_reducible refine zaW ?_)
   rw [g0]
   refine⟨fun h=>absurd (by omega) h,fun _=>?_⟩
   refine zbg [14,0] (by kernel_rfl) (by kernel_rfl) (by kernel_rfl) ?_
   try simp -implicitDefEqProofs only [LM2,eq_self,zab (h:=T68),zad,zac,zaa,TB,SB,Int.reduceToNat,Nat.reduceAdd,Nat.reduceEqDiff,Nat.reduceLT,Nat.reduceMod,Nat.reducePow,Nat.reduceSub,if_true,reduceIte]
   repeat (with_reducible refine zaW ?_)
   rw [g0]
   refine zbt (zdn _ (by omega)) (by first | rfl | simp [renL,AV.ren,zaw,zaf str zae,zaL,zaB,zaA,zaj,zax,zae]) (by first | rfl | simp [AEnd.noid,AV.ren,renL,zaw,zaL,zaB,zaA,zaj,zax,zae]) ?_
   try simp -implicitDefEqProofs only [LM2,eq_self,zab (h:=T68),zad,zac,zaa,TB,SB,Int.reduceToNat,Nat.reduceAdd,Nat.reduceEqDiff,Nat.reduceLT,Nat.reduceMod,Nat.reducePow,Nat.reduceSub,if_true,reduceIte]
   repeat (with_reducible refine zaW ?_)
   rw [g1]
   repeat (with_reducible refine zaW ?_)
   rw [g2]
   try simp -implicitDefEqProofs only [LM2,eq_self,zab (h:=T68),zad,zac,zaa,qb_V,TB,SB,Int.reduceToNat,Nat.reduceAdd,Nat.reduceEqDiff,Nat.reduceLT,Nat.reduceMod,Nat.reducePow,Nat.reduceSub,if_true,reduceIte]
   refine voF.appN rfl rfl T25 T25 (zdz _) T66 rfl rfl (ys:=[voAt L 0]) (m:=1) (voF.asrc _) rfl (by omega) (by simp only [tyVo];omega) ?_
   try simp -implicitDefEqProofs only [LM2,eq_self,zab (h:=T68),zad,zac,zaa,TB,SB,Int.reduceToNat,Nat.reduceAdd,Nat.reduceEqDiff,Nat.reduceLT,Nat.reduceMod,Nat.reducePow,Nat.reduceSub,if_true,reduceIte]
   refine⟨_,_,_,_,rfl,rfl,?_⟩
   rfl
  | a+1,ha =>
   simp only [vS]
   refine AYield.of T_ok rfl rfl rfl rfl ?_
   try simp -implicitDefEqProofs only [LM2,eq_self,zab (h:=T68),zad,zac,zaa,TB,SB,Int.reduceToNat,Nat.reduceAdd,Nat.reduceEqDiff,Nat.reduceLT,Nat.reduceMod,Nat.reducePow,Nat.reduceSub,if_true,reduceIte]
   refine⟨_,_,_,rfl,?_⟩
   try simp -implicitDefEqProofs only [LM2,eq_self,zab (h:=T68),zad,zac,zaa,TB,SB,Int.reduceToNat,Nat.reduceAdd,Nat.reduceEqDiff,Nat.reduceLT,Nat.reduceMod,Nat.reducePow,Nat.reduceSub,if_true,reduceIte]
   repeat (with_reducible refine zaW ?_)
   rw [g0]
   refine⟨fun h=>absurd (by omega) h,fun _=>?_⟩
   refine zbg [14,0] (by kernel_rfl) (by kernel_rfl) (by kernel_rfl) ?_
   try simp -implicitDefEqProofs only [LM2,eq_self,zab (h:=T68),zad,zac,zaa,TB,SB,Int.reduceToNat,Nat.reduceAdd,Nat.reduceEqDiff,Nat.reduceLT,Nat.reduceMod,Nat.reducePow,Nat.reduceSub,if_true,reduceIte]
   repeat (with_reducible refine zaW ?_)
   rw [g0]
   refine zbt (zdn _ (by omega)) (by first | rfl | simp [renL,AV.ren,zaw,zaf str zae,zaL,zaB,zaA,zaj,zax,zae]) (by first | rfl | simp [AEnd.noid,AV.ren,renL,zaw,zaL,zaB,zaA,zaj,zax,zae]) ?_
   try simp -implicitDefEqProofs only [LM2,eq_self,zab (h:=T68),zad,zac,zaa,TB,SB,Int.reduceToNat,Nat.reduceAdd,Nat.reduceEqDiff,Nat.reduceLT,Nat.reduceMod,Nat.reducePow,Nat.reduceSub,if_true,reduceIte]
   repeat (with_reducible refine zaW ?_)
   rw [g1]
   repeat (with_reducible refine zaW ?_)
   rw [g2]
   try simp -implicitDefEqProofs only [LM2,eq_self,zab (h:=T68),zad,zac,zaa,qb_V,TB,SB,Int.reduceToNat,Nat.reduceAdd,Nat.reduceEqDiff,Nat.reduceLT,Nat.reduceMod,Nat.reducePow,Nat.reduceSub,if_true,reduceIte]
   refine vo_app (l:=voL L (a+1)) (y:=voAt L (a+1)) (deadG _ _) (ziA _ _).symm (voF.asrc [voAt L (a+1)]) (by rw [ziA];omega) ?_
   simp only [List.length_cons,List.length_append,List.length_replicate,List.length_nil,List.set_cons_succ,deadS,List.cons_append]
   try simp -implicitDefEqProofs only [LM2,eq_self,zab (h:=T68),zad,zac,zaa,TB,SB,Int.reduceToNat,Nat.reduceAdd,Nat.reduceEqDiff,Nat.reduceLT,Nat.reduceMod,Nat.reducePow,Nat.reduceSub,if_true,reduceIte]
   refine⟨_,_,_,_,rfl,rfl,?_⟩
   rw [voL_succ L (a+1)]
   rfl
 ·have hcl:(chk L 3 j).length=3:=by rw [ziy];omega
  have g0:=zgs (l:=L) (n:=3) (i:=j) (j:=0) (by omega)
  rw [show j * 3+0=3 * j by omega] at g0
  have hone:=hbad hlt
  rw [zgD]
  cases j with
  | zero =>
   simp only [vS]
   refine AYield.of T_ok rfl rfl rfl rfl ?_
   try simp -implicitDefEqProofs only [LM2,eq_self,zab (h:=T68),zad,zac,zaa,TB,SB,Int.reduceToNat,Nat.reduceAdd,Nat.reduceEqDiff,Nat.reduceLT,Nat.reduceMod,Nat.reducePow,Nat.reduceSub,if_true,reduceIte]
   refine⟨_,_,_,rfl,?_⟩
   try simp -implicitDefEqProofs only [LM2,eq_self,zab (h:=T68),zad,zac,zaa,TB,SB,Int.reduceToNat,Nat.reduceAdd,Nat.reduceEqDiff,Nat.reduceLT,Nat.reduceMod,Nat.reducePow,Nat.reduceSub,if_true,reduceIte]
   repeat (with_reducible refine zaW ?_)
   rw [g0]
   refine⟨fun _=>?_,fun h=>absurd (by omega) hone⟩
   refine⟨_,_,_,_,rfl,rfl,?_⟩
   rfl
  | succ a =>
   simp only [vS]
   refine AYield.of T_ok rfl rfl rfl rfl ?_
   try simp -implicitDefEqProofs only [LM2,eq_self,zab (h:=T68),zad,zac,zaa,TB,SB,Int.reduceToNat,Nat.reduceAdd,Nat.reduceEqDiff,Nat.reduceLT,Nat.reduceMod,Nat.reducePow,Nat.reduceSub,if_true,reduceIte]
   refine⟨_,_,_,rfl,?_⟩
   try simp -implicitDefEqProofs only [LM2,eq_self,zab (h:=T68),zad,zac,zaa,TB,SB,Int.reduceToNat,Nat.reduceAdd,Nat.reduceEqDiff,Nat.reduceLT,Nat.reduceMod,Nat.reducePow,Nat.reduceSub,if_true,reduceIte]
   repeat (with_reducible refine zaW ?_)
   rw [g0]
   refine⟨fun _=>?_,fun h=>absurd (by omega) hone⟩
   refine⟨_,_,_,_,rfl,rfl,?_⟩
   rfl
 ·have hone:=hbad hlt
  have hoB:oneB L=false:=by
   rw [oneB,List.all_eq_false]
   exact⟨j,List.mem_range.2 hlt,by rw [decide_eq_false hone];decide⟩
  rw [if_pos hoB] at hX
  cases j with
  | zero =>
   simp only [vS]
   refine⟨_,_,_,_,_,_,rfl,by simp,?_⟩
   try simp -implicitDefEqProofs only [LM2,eq_self,zab (h:=T68),zad,zac,zaa,TB,SB,Int.reduceToNat,Nat.reduceAdd,Nat.reduceEqDiff,Nat.reduceLT,Nat.reduceMod,Nat.reducePow,Nat.reduceSub,if_true,reduceIte]
   exact zdT (by rw [hX])
  | succ a =>
   simp only [vS]
   refine⟨_,_,_,_,_,_,rfl,by simp,?_⟩
   try simp -implicitDefEqProofs only [LM2,eq_self,zab (h:=T68),zad,zac,zaa,TB,SB,Int.reduceToNat,Nat.reduceAdd,Nat.reduceEqDiff,Nat.reduceLT,Nat.reduceMod,Nat.reducePow,Nat.reduceSub,if_true,reduceIte]
   exact zdT (by rw [hX])
 ·have hoB:oneB L=true:=by
   rw [oneB,List.all_eq_true]
   exact fun k hk=>decide_eq_true (hgood k (by rw [heq];exact List.mem_range.1 hk))
  rw [if_neg (by rw [hoB];decide),← heq] at hX
  cases j with
  | zero =>
   simp only [vS]
   refine⟨_,_,_,_,_,_,rfl,by simp,?_⟩
   try simp -implicitDefEqProofs only [LM2,eq_self,zab (h:=T68),zad,zac,zaa,TB,SB,Int.reduceToNat,Nat.reduceAdd,Nat.reduceEqDiff,Nat.reduceLT,Nat.reduceMod,Nat.reducePow,Nat.reduceSub,if_true,reduceIte]
   refine ACalls.frz [] (l':=[slV []]) ⟨_,_,rfl,.inr ⟨rfl,rfl⟩,rfl⟩ ?_
   refine(zh5 []).pure (by simp [renL,zd0,slV,AV.ren]) ?_
   rintro _ σ rfl
   refine⟨zax _ _,?_⟩
   rw [if_pos (show zbf (voL L 0)=false from rfl)] at hX
   rw [show zbf []=false from rfl]
   simp only [zch]
   try simp -implicitDefEqProofs only [LM2,eq_self,zab (h:=T68),zad,zac,zaa,TB,SB,Int.reduceToNat,Nat.reduceAdd,Nat.reduceEqDiff,Nat.reduceLT,Nat.reduceMod,Nat.reducePow,Nat.reduceSub,if_true,reduceIte]
   exact zdT (by rw [hX])
  | succ a =>
   simp only [vS]
   refine⟨_,_,_,_,_,_,rfl,by simp,?_⟩
   try simp -implicitDefEqProofs only [LM2,eq_self,zab (h:=T68),zad,zac,zaa,TB,SB,Int.reduceToNat,Nat.reduceAdd,Nat.reduceEqDiff,Nat.reduceLT,Nat.reduceMod,Nat.reducePow,Nat.reduceSub,if_true,reduceIte]
   refine isB_ref (l:=voL L (a+1)) (ziA _ _).symm (deadG _ _) ?_
   cases hB:zbf (voL L (a+1)) with
   | false =>
    rw [if_pos hB] at hX
    try simp -implicitDefEqProofs only [LM2,eq_self,zab (h:=T68),zad,zac,zaa,TB,SB,Int.reduceToNat,Nat.reduceAdd,Nat.reduceEqDiff,Nat.reduceLT,Nat.reduceMod,Nat.reducePow,Nat.reduceSub,if_true,reduceIte]
    exact zdT (by rw [hX])
   | true =>
    rw [if_neg (by rw [hB];decide)] at hX
    try simp -implicitDefEqProofs only [LM2,eq_self,zab (h:=T68),zad,zac,zaa,TB,SB,Int.reduceToNat,Nat.reduceAdd,Nat.reduceEqDiff,Nat.reduceLT,Nat.reduceMod,Nat.reducePow,Nat.reduceSub,if_true,reduceIte]
    exact end_refV (zf9 (deadG _ _)) (ziA _ _).symm (by rw [hX])
end Go.Proofs.YtdmiflfhaobngaaGreatDoor
end

section
namespace Go.Proofs.YtdmiflfhaobngaaGreatDoor
open Go Go.Eng
theorem zfl (n:BitVec 64) (b:UInt8) (h:n.toNat < 281474976710656):(zcQ n b).toNat=n.toNat * 256+b.toNat:=by
 have hb:b.toBitVec.toNat < 256:=b.toBitVec.isLt
 rw [zh2,BitVec.toNat_add,BitVec.toNat_mul,BitVec.toNat_setWidth]
 simp only [BitVec.toNat_ofNat]
 show _=n.toNat * 256+b.toBitVec.toNat
 omega
theorem zc8 (x:BitVec 64) (k:Nat):(zb9 x k).toNat=x.toNat / 2 ^ (8 * k) % 256:=by
 simp [zb9,Nat.shiftRight_eq_div_pow]
theorem bigL_1 (x:BitVec 64):bigL x 1=[zb9 x 0]:=rfl
theorem bigL_4 (x:BitVec 64):bigL x 4=[zb9 x 3,zb9 x 2,zb9 x 1,zb9 x 0]:=rfl
theorem rd_big1 {x:BitVec 64} (h:x.toNat < 256):(zaG (bigL x 1)).toNat=x.toNat:=by
 rw [bigL_1,zaG,List.foldl_cons,List.foldl_nil,zfl _ _ (by decide),zc8]
 simp
 omega
theorem rd_big4 {x:BitVec 64} (h:x.toNat < 4294967296):(zaG (bigL x 4)).toNat=x.toNat:=by
 have e3:=zc8 x 3
 have e2:=zc8 x 2
 have e1:=zc8 x 1
 have e0:=zc8 x 0
 simp only [show 2 ^ (8 * 3)=16777216 by decide,show 2 ^ (8 * 2)=65536 by decide,show 2 ^ (8 * 1)=256 by decide,show 2 ^ (8 * 0)=1 by decide] at e3 e2 e1 e0
 have f0:(0#64).toNat=0:=rfl
 have f1:=zfl 0#64 (zb9 x 3) (by decide)
 have f2:=zfl (zcQ 0#64 (zb9 x 3)) (zb9 x 2) (by omega)
 have f3:=zfl (zcQ (zcQ 0#64 (zb9 x 3)) (zb9 x 2)) (zb9 x 1) (by omega)
 have f4:=zfl (zcQ (zcQ (zcQ 0#64 (zb9 x 3)) (zb9 x 2)) (zb9 x 1)) (zb9 x 0) (by omega)
 rw [bigL_4,zaG]
 simp only [List.foldl_cons,List.foldl_nil]
 omega
theorem zef {n:Int} (h0:0≤n) (h1:n < 9223372036854775808):IntKind.i64.wrap n=n:=by
 simp only [IntKind.wrap,show IntKind.i64.bits=64 from rfl,show IntKind.i64.signed=true from rfl]
 simp
 omega
theorem zeg {k:Int} (h0:0≤k) (h1:k < 4294967296):(BitVec.ofInt 64 k).toNat=k.toNat:=by
 rw [BitVec.toNat_ofInt]
 omega
theorem rdI_1 {k:Int} (h0:0≤k) (h1:k < 256):rdI (bigL (BitVec.ofInt 64 k) 1)=k:=by
 have e:=zeg h0 (by omega)
 rw [rdI,rd_big1 (by omega),e,zef (by omega) (by omega)]
 omega
end Go.Proofs.YtdmiflfhaobngaaGreatDoor
end

section
namespace Go.Proofs.YtdmiflfhaobngaaGreatDoor
open Go Go.Eng
theorem zcJ {l r:List Value} (h:zaK l=zaK r):l=r:=by
 induction l generalizing r with
 | nil=>cases r with | nil=>rfl | cons _ _=>cases h
 | cons x l ih =>
  cases r with
  | nil=>cases h
  | cons y r =>
   simp only [zaK,List.map_cons,List.cons.injEq,AV.lit.injEq] at h
   rw [h.1,ih h.2]
def voQ (x:Vo):List Value:=[.int .i64 x.kind,.string ⟨x.label.toArray⟩,.string ⟨x.box.toArray⟩]
theorem fit_vo (n:Vo):fitE T 2 66 (voQ n):=by
 rw [fitE]
 simp only [T66,tyVo]
 refine⟨trivial,rfl,rfl,?_⟩
 intro f hf
 simp only [List.mem_cons,List.not_mem_nil,or_false] at hf
 rcases hf with rfl | rfl | rfl
 ·exact⟨⟨_,T3⟩,zhF T3 rfl⟩
 ·exact⟨⟨_,T9⟩,zhF T9 rfl⟩
 ·exact⟨⟨_,T9⟩,zhF T9 rfl⟩
theorem ziB {a b:Vo} (h:voQ a=voQ b):a=b:=by
 obtain⟨a0,a1,a2⟩:=a
 obtain⟨b0,b1,b2⟩:=b
 simp only [voQ,List.cons.injEq,Value.int.injEq,true_and,Value.string.injEq,ByteArray.mk.injEq,and_true] at h
 obtain⟨rfl,h1,h2⟩:=h
 have e1:a1=b1:=by simpa using h1
 subst e1
 have e2:a2=b2:=by simpa using h2
 subst e2
 rfl
theorem eqP_vo (a b:Vo):eqP T 66 (voC a) (voC b) (2,voQ a,voQ b,decide (a=b)) :=
 ⟨rfl,rfl,(by show 2≤100;omega),⟨tyVo,T66,rfl⟩,fit_vo a,fit_vo b,by simp only [decide_eq_true_eq];exact⟨fun h=>by rw [h],fun h=>ziB h⟩⟩
theorem eqPv_vo {a b:Vo} {q:Nat × List Value × List Value × Bool} (h:eqP T 66 (voC a) (voC b) q):q.2.2.2=decide (a=b):=by
 obtain⟨h1,h2,_,_,_,_,h3⟩:=h
 have e1:=zcJ (l:=voQ a) h1
 have e2:=zcJ (l:=voQ b) h2
 rw [Bool.eq_iff_iff,h3,← e1,← e2,decide_eq_true_eq]
 exact⟨ziB,fun h=>by rw [h]⟩
end Go.Proofs.YtdmiflfhaobngaaGreatDoor
end

section
namespace Go.Proofs.YtdmiflfhaobngaaGreatDoor
open Go Go.Eng
set_option linter.defProp false in
def LB24:=And.intro @ldf_V1 (@ldf_V2)
set_option linter.defProp false in
def LM10:=And.intro LM2 (LB24)
theorem zbu (l:List AV):(AV.agg l).cells=l:=rfl
theorem zbU {t:TypeId} {K:AV→Prop} (a b:List UInt8):wbin T .lss t (str a) (str b) K=K (bl (decide (a < b))):=by
 have:wbin T .lss t (str a) (str b) K=K (bl (Op.bytesLess a b)):=by simp [wbin,str,strV,bl]
 rw [this,Go.Proofs.bytesLess_eq]
theorem zbV {t:TypeId} {K:AV→Prop} (a b:List UInt8):wbin T .gtr t (str a) (str b) K=K (bl (decide (b < a))):=by
 have:wbin T .gtr t (str a) (str b) K=K (bl (!Op.bytesLess a b && !decide (a=b))):=by simp [wbin,str,strV,bl]
 rw [this,Go.Proofs.bytesLess_eq]
 congr 2
 by_cases h:b < a
 ·rw [decide_eq_true h,decide_eq_false (fun h'=>List.lt_irrefl _ (List.lt_trans h h')),decide_eq_false (fun e=>by rw [e] at h;exact List.lt_irrefl _ h)]
  rfl
 ·rw [decide_eq_false h]
  by_cases h':a < b
  ·rw [decide_eq_true h'];rfl
  ·have:a=b:=List.le_antisymm (List.not_lt.1 h) (List.not_lt.1 h')
   rw [decide_eq_false h',decide_eq_true this];rfl
def mayI (x:It):Bool:=ze1 x.label && decide ((x.box.length:Int)≤8192)
theorem imay_ok (x:It):ACalls Tryz.prog 74 [.agg (itC x)] [] (fun y _=>y=.ret (bl (mayI x))):=by
 rw [zbn]
 refine ACalls.body T_ok Tryz.func74 (by kernel_rfl) rfl Tryz.ntmps74 (congrArg Array.toList Tryz.results74) ?_
 try simp -implicitDefEqProofs only [LM10,eq_self,zab (h:=T68),zad,zac,zaa,zbu,zbU,zbV,TB,SB,Int.reduceToNat,Nat.reduceAdd,Nat.reduceEqDiff,Nat.reduceLT,Nat.reduceMod,Nat.reducePow,Nat.reduceSub,if_true,reduceIte]
 refine(vlab_ok x.label).pure rfl ?_
 rintro _ σ rfl
 refine⟨zax _ _,?_⟩
 cases h3:ze1 x.label with
 | false =>
  try simp -implicitDefEqProofs only [LM10,eq_self,zab (h:=T68),zad,zac,zaa,zbu,zbU,zbV,TB,SB,Int.reduceToNat,Nat.reduceAdd,Nat.reduceEqDiff,Nat.reduceLT,Nat.reduceMod,Nat.reducePow,Nat.reduceSub,if_true,reduceIte]
  exact zaI (by rw [mayI,h3];rfl)
 | true =>
  try simp -implicitDefEqProofs only [LM10,eq_self,zab (h:=T68),zad,zac,zaa,zbu,zbU,zbV,TB,SB,Int.reduceToNat,Nat.reduceAdd,Nat.reduceEqDiff,Nat.reduceLT,Nat.reduceMod,Nat.reducePow,Nat.reduceSub,if_true,reduceIte]
  exact zaI (by rw [mayI,h3];rfl)
def agn (a b:List UInt8):Int:=if a < b then -1 else if b < a then 1 else 0
theorem agn_ok (x:It) (l:List UInt8):ACalls Tryz.prog 75 [.agg (itC x),str l] [] (fun y _=>y=.ret (i64 (agn x.label l))):=by
 rw [zbn]
 refine ACalls.body T_ok Tryz.func75 (by kernel_rfl) rfl Tryz.ntmps75 (congrArg Array.toList Tryz.results75) ?_
 try simp -implicitDefEqProofs only [LM10,eq_self,zab (h:=T68),zad,zac,zaa,zbu,zbU,zbV,TB,SB,Int.reduceToNat,Nat.reduceAdd,Nat.reduceEqDiff,Nat.reduceLT,Nat.reduceMod,Nat.reducePow,Nat.reduceSub,if_true,reduceIte]
 refine⟨fun h1=>?_,fun h1=>?_⟩
 ·exact zc1 (by rw [agn,if_pos h1];rfl)
 ·refine⟨fun h2=>?_,fun h2=>?_⟩
  ·exact zc1 (by rw [agn,if_neg h1,if_pos h2];rfl)
  ·exact zc1 (by rw [agn,if_neg h1,if_neg h2];rfl)
def zjg (l:List It) (k:Nat):Prop:=∀ j,j < k→mayI (l.getD j i0)=true∧(0 < j→(l.getD (j - 1) i0).label < (l.getD j i0).label)
instance (l:List It) (k:Nat):Decidable (zjg l k):=by unfold zjg;infer_instance
def allI (l:List It):Bool:=decide (zjg l l.length) && decide ((l.length:Int)≤1000)
theorem agn_neg {a b:List UInt8}:0≤agn a b ↔ ¬ a < b:=by
 unfold agn
 split
 ·rename_i h;constructor
  ·intro h';omega
  ·intro h';exact absurd h h'
 ·rename_i h
  split <;> (constructor;intro _;exact h;intro _;omega)
theorem riseS {l:List It} {k:Nat} (h:zjg l k) (hm:mayI (l.getD k i0)=true) (hr:0 < k→(l.getD (k - 1) i0).label < (l.getD k i0).label):zjg l (k+1):=fun j hj=>by
 rcases Nat.lt_succ_iff_lt_or_eq.1 hj with hj | rfl
 ·exact h j hj
 ·exact⟨hm,hr⟩
theorem allI_ok (l:List It) (hl:l.length≤9223372036854775807):ACalls Tryz.prog 44 [.sl (l.flatMap itC) l.length] [] (fun y _=>y=.ret (bl (allI l))):=by
 refine ACalls.body T_ok Tryz.func44 (by kernel_rfl) rfl Tryz.ntmps44 (congrArg Array.toList Tryz.results44) ?_
 try simp -implicitDefEqProofs only [LM10,eq_self,zab (h:=T68),zad,zac,zaa,zbu,zbU,zbV,TB,SB,Int.reduceToNat,Nat.reduceAdd,Nat.reduceEqDiff,Nat.reduceLT,Nat.reduceMod,Nat.reducePow,Nat.reduceSub,if_true,reduceIte]
 rw [za9]
 refine⟨Nat,fun k=>k≤l.length∧zjg l k,fun k=>[.sl (l.flatMap itC) l.length,.bot,bl false,.bot,.bot,.sl (l.flatMap itC) l.length,i64 l.length,i64 k,.bot,.bot,.bot,.bot,.bot,.bot,.bot,.bot,.bot,.bot,.bot,.bot,.bot,.bot,.bot,.bot,.bot,.bot,.bot,.bot,.bot,.bot,.bot,.bot,.bot,.bot],fun _=>[],fun k=>l.length - k,0,⟨Nat.zero_le _,fun j h=>absurd h (by omega)⟩,zal (q:=[]) rfl rfl (by decide) ?_ ?_,?_⟩
 ·skip
  try simp only [FB,AV.ren,Nat.reduceAdd,reduceCtorEq]
  simp [zaH,AV.ren,renL]
 ·skip
  try simp only [FB,AV.ren,Nat.reduceAdd,reduceCtorEq]
 ·rintro k ⟨hk,hj⟩
  try simp -implicitDefEqProofs only [LM10,eq_self,zab (h:=T68),zad,zac,zaa,zbu,zbU,zbV,TB,SB,Int.reduceToNat,Nat.reduceAdd,Nat.reduceEqDiff,Nat.reduceLT,Nat.reduceMod,Nat.reducePow,Nat.reduceSub,if_true,reduceIte]
  refine⟨fun hlt=>?_,fun hge=>?_⟩
  ·have hk2:k < l.length:=by omega
   repeat (with_reducible refine zaW ?_)
   have h1:=imay_ok (l.getD k i0)
   have h2:=agn_ok (l.getD (k - 1) i0) (l.getD k i0).label
   rw [zbn] at h1 h2
   cases hm:mayI (l.getD k i0) with
   | false =>
    rw [hm] at h1
    refine zcb (by kernel_rfl) (by kernel_rfl) ?_
    try simp -implicitDefEqProofs only [LM10,eq_self,zab (h:=T68),zad,zac,zaa,zbu,zbU,zbV,TB,SB,Int.reduceToNat,Nat.reduceAdd,Nat.reduceEqDiff,Nat.reduceLT,Nat.reduceMod,Nat.reducePow,Nat.reduceSub,if_true,reduceIte]
    refine zbt (h1) (by first | rfl | simp [renL,AV.ren,zaw,zaf str zae,zaL,zaB,zaA,zaj,zax,zae]) (by first | rfl | simp [AEnd.noid,AV.ren,renL,zaw,zaL,zaB,zaA,zaj,zax,zae]) ?_
    try simp -implicitDefEqProofs only [LM10,eq_self,zab (h:=T68),zad,zac,zaa,zbu,zbU,zbV,TB,SB,Int.reduceToNat,Nat.reduceAdd,Nat.reduceEqDiff,Nat.reduceLT,Nat.reduceMod,Nat.reducePow,Nat.reduceSub,if_true,reduceIte]
    refine zaI ?_
    rw [allI,decide_eq_false (fun h=>by have:=(h k hk2).1;rw [hm] at this;cases this)]
    rfl
   | true =>
    rw [hm] at h1
    by_cases h0:0 < (k:Int)
    ·refine zcb (by kernel_rfl) (by kernel_rfl) ?_
     try simp -implicitDefEqProofs only [LM10,eq_self,zab (h:=T68),zad,zac,zaa,zbu,zbU,zbV,TB,SB,Int.reduceToNat,Nat.reduceAdd,Nat.reduceEqDiff,Nat.reduceLT,Nat.reduceMod,Nat.reducePow,Nat.reduceSub,if_true,reduceIte]
     refine zbt (h1) (by first | rfl | simp [renL,AV.ren,zaw,zaf str zae,zaL,zaB,zaA,zaj,zax,zae]) (by first | rfl | simp [AEnd.noid,AV.ren,renL,zaw,zaL,zaB,zaA,zaj,zax,zae]) ?_
     try simp -implicitDefEqProofs only [LM10,eq_self,zab (h:=T68),zad,zac,zaa,zbu,zbU,zbV,TB,SB,Int.reduceToNat,Nat.reduceAdd,Nat.reduceEqDiff,Nat.reduceLT,Nat.reduceMod,Nat.reducePow,Nat.reduceSub,if_true,reduceIte]
     rw [decide_eq_true h0]
     try simp -implicitDefEqProofs only [LM10,eq_self,zab (h:=T68),zad,zac,zaa,zbu,zbU,zbV,TB,SB,Int.reduceToNat,Nat.reduceAdd,Nat.reduceEqDiff,Nat.reduceLT,Nat.reduceMod,Nat.reducePow,Nat.reduceSub,if_true,reduceIte]
     have e1:((k:Int) - 1).toNat=k - 1:=by omega
     rw [e1]
     refine⟨by unfold inI;omega,by omega,by omega,Nat.le_refl _,by omega,?_⟩
     refine zbt (h2) (by first | rfl | simp [renL,AV.ren,zaw,zaf str zae,zaL,zaB,zaA,zaj,zax,zae]) (by first | rfl | simp [AEnd.noid,AV.ren,renL,zaw,zaL,zaB,zaA,zaj,zax,zae]) ?_
     try simp -implicitDefEqProofs only [LM10,eq_self,zab (h:=T68),zad,zac,zaa,zbu,zbU,zbV,TB,SB,Int.reduceToNat,Nat.reduceAdd,Nat.reduceEqDiff,Nat.reduceLT,Nat.reduceMod,Nat.reducePow,Nat.reduceSub,if_true,reduceIte]
     refine⟨fun h3=>?_,fun h3=>?_⟩
     ·refine zaI ?_
      rw [allI,decide_eq_false (fun h=>agn_neg.1 h3 ((h k hk2).2 (by omega)))]
      rfl
     refine⟨by unfold inI;omega,?_⟩
     rw [zan]
     refine⟨k+1,⟨by omega,riseS hj hm (fun _=>Classical.not_not.1 (fun h=>h3 (agn_neg.2 h)))⟩,by (show l.length - (k+1) < l.length - k);omega,zal (q:=[]) rfl rfl (by decide) ?_ ?_⟩
     ·skip
      try simp only [FB,AV.ren,Nat.reduceAdd,reduceCtorEq]
      simp [zaH,AV.ren,renL]
     ·skip
      try simp only [FB,AV.ren,Nat.reduceAdd,reduceCtorEq]
    ·refine zcb (by kernel_rfl) (by kernel_rfl) ?_
     try simp -implicitDefEqProofs only [LM10,eq_self,zab (h:=T68),zad,zac,zaa,zbu,zbU,zbV,TB,SB,Int.reduceToNat,Nat.reduceAdd,Nat.reduceEqDiff,Nat.reduceLT,Nat.reduceMod,Nat.reducePow,Nat.reduceSub,if_true,reduceIte]
     refine zbt (h1) (by first | rfl | simp [renL,AV.ren,zaw,zaf str zae,zaL,zaB,zaA,zaj,zax,zae]) (by first | rfl | simp [AEnd.noid,AV.ren,renL,zaw,zaL,zaB,zaA,zaj,zax,zae]) ?_
     try simp -implicitDefEqProofs only [LM10,eq_self,zab (h:=T68),zad,zac,zaa,zbu,zbU,zbV,TB,SB,Int.reduceToNat,Nat.reduceAdd,Nat.reduceEqDiff,Nat.reduceLT,Nat.reduceMod,Nat.reducePow,Nat.reduceSub,if_true,reduceIte]
     rw [decide_eq_false h0]
     try simp -implicitDefEqProofs only [LM10,eq_self,zab (h:=T68),zad,zac,zaa,zbu,zbU,zbV,TB,SB,Int.reduceToNat,Nat.reduceAdd,Nat.reduceEqDiff,Nat.reduceLT,Nat.reduceMod,Nat.reducePow,Nat.reduceSub,if_true,reduceIte]
     refine⟨by unfold inI;omega,?_⟩
     rw [zan]
     refine⟨k+1,⟨by omega,riseS hj hm (fun h=>absurd h (by omega))⟩,by (show l.length - (k+1) < l.length - k);omega,zal (q:=[]) rfl rfl (by decide) ?_ ?_⟩
     ·skip
      try simp only [FB,AV.ren,Nat.reduceAdd,reduceCtorEq]
      simp [zaH,AV.ren,renL]
     ·skip
      try simp only [FB,AV.ren,Nat.reduceAdd,reduceCtorEq]
  ·skip
   try simp -implicitDefEqProofs only [LM10,eq_self,zab (h:=T68),zad,zac,zaa,zbu,zbU,zbV,TB,SB,Int.reduceToNat,Nat.reduceAdd,Nat.reduceEqDiff,Nat.reduceLT,Nat.reduceMod,Nat.reducePow,Nat.reduceSub,if_true,reduceIte]
   refine zaI ?_
   obtain rfl:k=l.length:=by omega
   rw [allI,decide_eq_true hj,Bool.true_and]
end Go.Proofs.YtdmiflfhaobngaaGreatDoor
end

