/-
  How the document reads texts and values. No condition.
-/
import Derived.Test.YtcahoelfogjljaaGreatDoorTerI
set_option linter.unusedSimpArgs false
set_option linter.unusedVariables false
set_option linter.unusedSectionVars false
section
namespace Go.Eng
open Go
theorem aQ50 {P Q:Prop} (h:Q) (e:P=Q:=by first|(simp -implicitDefEqProofs only [LM5,LB23,eq_self,zan,zat,lzS,al_Se,zjR,zjS,zjT,zjU,zjV,lw_Se,zjW,zjX,zjY,lz_b,zjZ,TB,SB,Int.reduceToNat,Nat.reduceAdd,Nat.reduceEqDiff,Nat.reduceLT,Nat.reduceMod,Nat.reducePow,Nat.reduceSub,if_true,reduceIte];first|done|exact rfl)|exact rfl):P:=e ▸ h
theorem aQ51 {P Q:Prop} (h:Q) (e:P=Q:=by first|(simp -implicitDefEqProofs only [LM3,eq_self,zan,zat,lzS,ld_t1,TB,SB,Int.reduceToNat,Nat.reduceAdd,Nat.reduceEqDiff,Nat.reduceLT,Nat.reduceMod,Nat.reducePow,Nat.reduceSub,if_true,reduceIte];first|done|exact rfl)|exact rfl):P:=e ▸ h
theorem aQ52 {P Q:Prop} (h:Q) (e:P=Q:=by first|(simp -implicitDefEqProofs only [LM3,eq_self,zan,zat,lzS,TB,SB,Int.reduceToNat,Nat.reduceAdd,Nat.reduceEqDiff,Nat.reduceLT,Nat.reduceMod,Nat.reducePow,Nat.reduceSub,if_true,reduceIte];first|done|exact rfl)|exact rfl):P:=e ▸ h
theorem aQ53 {P Q:Prop} (h:Q) (e:P=Q:=by first|(simp -implicitDefEqProofs only [LM3,eq_self,zan,zat,lzS,zaB,zaC,zbQ,zah,TB,SB,Int.reduceToNat,Nat.reduceAdd,Nat.reduceEqDiff,Nat.reduceLT,Nat.reduceMod,Nat.reducePow,Nat.reduceSub,if_true,reduceIte];first|done|exact rfl)|exact rfl):P:=e ▸ h
theorem aQ54 {P Q:Prop} (h:Q) (e:P=Q:=by first|(simp -implicitDefEqProofs only [LM3,LB25,eq_self,zan,zat,lzS,zah,zjs,zjt,zas,TB,SB,Int.reduceToNat,Nat.reduceAdd,Nat.reduceEqDiff,Nat.reduceLT,Nat.reduceMod,Nat.reducePow,Nat.reduceSub,if_true,reduceIte];first|done|exact rfl)|exact rfl):P:=e ▸ h
theorem aQ55 {P Q:Prop} (h:Q) (e:P=Q:=by first|(simp [-List.flatMap_append,zal,zaD,renL,zam,zad,AV.ren,zao,zag];first|done|exact rfl)|exact rfl):P:=e ▸ h
theorem aQ56 {P Q:Prop} (h:Q) (e:P=Q:=by first|(simp -implicitDefEqProofs only [LM8,eq_self,zan,zat,lzS,zah,zas,TB,SB,Int.reduceToNat,Nat.reduceAdd,Nat.reduceEqDiff,Nat.reduceLT,Nat.reduceMod,Nat.reducePow,Nat.reduceSub,if_true,reduceIte];first|done|exact rfl)|exact rfl):P:=e ▸ h
theorem aQ57 {P Q:Prop} (h:Q) (e:P=Q:=by first|(simp only [Option.map_some,Function.comp_apply,List.append_assoc,List.cons_append,List.nil_append,Option.some.injEq,Prod.mk.injEq,true_and];first|done|exact rfl)|exact rfl):P:=e ▸ h
end Go.Eng
end

section
namespace Go.Proofs.YtcahoelfogjljaaGreatDoor
open Go Go.Eng
section
variable {σ : zaa} {K : AV → Prop} {KS : AV → zaa → Prop} {id : Nat}
theorem lz_i (a:AV) (r:List AV):ld2 (some zaF) (some (a::r)) 0 K=K a:=lz0 rfl rfl a r
theorem lz_s (a:AV) (r:List AV):ld2 (some tyStr) (some (a::r)) 0 K=K a:=lz0 rfl rfl a r
theorem lz_l (e:TypeId) (a:AV) (r:List AV):ld2 (some (tySl e)) (some (a::r)) 0 K=K a:=lz0 rfl rfl a r
theorem sz_i (a:AV) (r:List AV) (off:Nat) (x:Int):st2 (some zaF) (some (.rw (a::r))) id off (i64 x) σ KS=(off < (a::r).length∧KS (.lit undef) (σ.set id (.rw ((a::r).set off (i64 x))))):=sz1 rfl a r id off _ rfl
theorem sz_s (a:AV) (r:List AV) (off:Nat) (x:List UInt8):st2 (some tyStr) (some (.rw (a::r))) id off (str x) σ KS=(off < (a::r).length∧KS (.lit undef) (σ.set id (.rw ((a::r).set off (str x))))):=sz1 rfl a r id off _ rfl
theorem sz_l (e:TypeId) (a:AV) (r:List AV) (off:Nat) (cs:List AV) (n:Nat):st2 (some (tySl e)) (some (.rw (a::r))) id off (.sl cs n) σ KS=(off < (a::r).length∧KS (.lit undef) (σ.set id (.rw ((a::r).set off (.sl cs n))))):=sz1 rfl a r id off _ rfl
theorem sz_r (e:TypeId) (a:AV) (r:List AV) (off i j n s:Nat):st2 (some (tySl e)) (some (.rw (a::r))) id off (.ref i j n s) σ KS=(off < (a::r).length∧KS (.lit undef) (σ.set id (.rw ((a::r).set off (.ref i j n s))))):=sz1 rfl a r id off _ rfl
theorem sz_n (e:TypeId) (a:AV) (r:List AV) (off:Nat):st2 (some (tySl e)) (some (.rw (a::r))) id off (.lit (.slice none 0 0)) σ KS=(off < (a::r).length∧KS (.lit undef) (σ.set id (.rw ((a::r).set off (.lit (.slice none 0 0)))))):=sz1 rfl a r id off _ rfl
end
end Go.Proofs.YtcahoelfogjljaaGreatDoor
end

section
namespace Go.Proofs.YtcahoelfogjljaaGreatDoor
open Go Go.Eng
set_option linter.defProp false in
def LB23:=And.intro @lz_i (And.intro @lz_s (And.intro @lz_l (And.intro @sz_i (And.intro @sz_s (And.intro @sz_l (And.intro @sz_r (@sz_n)))))))
def seA (l:List Nd) (n:Int) (b:Bool):AV:=.agg [slN l,i64 n,bl b]
theorem ndF:RowF nC 4:=⟨fun _=>rfl,fun _=>all_n,fun q n=>by simp [nC,renL,zam,zag]⟩
section
variable {σ : zaa} {K : AV → Prop} {KS : AV → zaa → Prop} {id : Nat}
theorem al_Se (e:TypeId):al1 T e (some tySe) σ KS=KS (.ptr σ.length 0) (σ++[.rw [.lit (.slice none 0 0),i64 0,bl false]]):=rfl
theorem zjR (i j n m:Nat) (k:Int):zaM T 124 [(0,.ref i j n m),(1,i64 k)] K=K (.agg [.ref i j n m,i64 k,bl false]):=by
 simp [zaM,T124,T3,T4,T22,tySe,zbg,zaI,zbN,zbx,cells_ref,one_ref,zaW,zaF,tySl,zdn]
 rfl
theorem zjS (b:Bool):zaM T 124 [(2,bl b)] K=K (.agg [.lit (.slice none 0 0),i64 0,bl b]):=by
 simp [zaM,T124,T3,T4,T22,tySe,zbg,zaI,cells_bl',one_bl',zaW,zaF,tySl,zdn]
 rfl
theorem zjT (p q r:AV) (i j n m:Nat) (a:Int) (b:Bool):st2 (some tySe) (some (.rw [p,q,r])) id 0 (.agg [.ref i j n m,i64 a,bl b]) σ KS=KS (.lit undef) (σ.set id (.rw [.ref i j n m,i64 a,bl b])):=szW rfl rfl rfl id
theorem zjU (p q r:AV) (a:Int) (b:Bool):st2 (some tySe) (some (.rw [p,q,r])) id 0 (.agg [.lit (.slice none 0 0),i64 a,bl b]) σ KS=KS (.lit undef) (σ.set id (.rw [.lit (.slice none 0 0),i64 a,bl b])):=szW rfl rfl rfl id
theorem zjV (p q r:AV) (c:List AV) (n:Nat) (a:Int) (b:Bool):st2 (some tySe) (some (.rw [p,q,r])) id 0 (.agg [.sl c n,i64 a,bl b]) σ KS=KS (.lit undef) (σ.set id (.rw [.sl c n,i64 a,bl b])):=szW rfl rfl rfl id
theorem lw_Se (a b c:AV):ld2 (some tySe) (some [a,b,c]) 0 K=K (.agg [a,b,c]):=lzW rfl rfl
theorem zjW (o:Nat):zai T 124 (.ptr id o) 0 K=K (.ptr id (o+0)):=fzP T124 rfl rfl T22 (by decide) id o
theorem zjX (o:Nat):zai T 124 (.ptr id o) 1 K=K (.ptr id (o+1)):=fzP T124 rfl rfl T3 (by decide) id o
theorem zjY (o:Nat):zai T 124 (.ptr id o) 2 K=K (.ptr id (o+2)):=fzP T124 rfl rfl T4 (by decide) id o
theorem lz_b (a:AV) (r:List AV):ld2 (some zdn) (some (a::r)) 0 K=K a:=lz0 rfl rfl a r
theorem zjZ (n:Nd):bs2 (some tyNd) 1 [(0,nA n)] σ KS=KS (.ref σ.length 0 1 4) (σ++[.rw (nC n)]):=by
 simp [bs2,tyNd,zbg,zbH,AV.cells,zaW,List.range_succ,List.replicate,zbV,zbx,nC,nA]
end
theorem zb3 (l:List Nd) (n:Int) (b:Bool) (q:List Nat):(seA l n b).ren q=some (seA l n b):=by
 simp [seA,slN,AV.ren,renL,zam,zad,zao]
theorem zcn {σ:zaa} {x:AV} {k:Int} {b:Bool} {l:List Nd} {K:AV→zaa→Prop} (ids:List Nat) (h1:frzA (zdv σ ids) x (slN l)) (h:K (seA l k b) []):endQ 0 (.agg [x,i64 k,bl b]) σ K :=
 zc2 ids (seA l k b) ⟨_,rfl,_,_,rfl,h1,_,_,rfl,.inl rfl,_,_,rfl,.inl rfl,rfl⟩ ⟨[],_,[],rfl,rfl,by decide,zb3 _ _ _ _,trivial,h⟩
theorem take_drop1' {s:List UInt8} {k:Nat} (h:k < s.length):(s.take (k+1)).drop k=[s.getD k 0]:=by
 rw [List.take_succ_eq_append_getElem h,List.drop_append,List.length_take,show k - min k s.length=0 by omega,List.drop_of_length_le (by rw [List.length_take];omega)]
 simp [h]
theorem zd4 {σ:zaa} {id:Nat} {cs:List AV} (h:σ[id]?=some (.rw cs)):(zdv σ [id])[id]?=some (.ro cs):=by
 have hl:=(List.getElem?_eq_some_iff.1 h).1
 simp only [zdv,h]
 rw [List.getElem?_set_self hl]
def seR:Option (List UInt8 × Nat)→Int→AV
 | none,_=>seA [] 0 true
 | some x,at'=>seA [⟨3,0,x.1,0⟩] (at'+x.2) false
theorem zbd {s:List UInt8} {k:Nat} (h:k < s.length):s.drop k=s.getD k 0::s.drop (k+1):=by
 rw [List.drop_eq_getElem_cons h]
 simp [h]
set_option maxHeartbeats 1000000 in
theorem zju (s:List UInt8) (at':Nat) (hs:s.length≤1000000000) (ha:at'≤s.length):ACalls Tryz.prog 79 [str s,i64 at'] [] (fun y _=>y=.ret (seR (rdT (s.drop at')) at')):=by
 refine ACalls.body T_ok Tryz.func79 (by kernel_rfl) rfl Tryz.ntmps79 (congrArg Array.toList Tryz.results79) ?_
 refine aQ50 ?_
 rw [zbj]
 refine⟨Nat × List UInt8,fun x=>at'≤x.1∧x.1≤s.length∧x.2.length≤x.1∧rdT (s.drop at')=(rdT (s.drop x.1)).map fun y=>(x.2++y.1,(x.1 - at')+y.2),fun x=>[str s,i64 x.1,.bot,.bot,.ptr 0 0,str x.2,.bot,.bot,.bot,.bot,.bot,.bot,.bot,.bot,.bot,.bot,.bot,.bot,.bot,.bot,.bot,.bot,.bot,.bot,.bot,.bot,.bot,.bot,.bot,.bot,.bot,.bot,.bot,.bot,.bot,.bot,.bot,.bot,.bot,.bot,.bot,.bot,.bot,.bot,.bot,.bot,.bot,.bot,.bot,.bot,.bot,.bot,.bot,.bot,.bot,.bot],fun x=>[.rw [.lit (.slice none 0 0),i64 0,bl false]],fun x=>s.length - x.1,(at',[]),⟨Nat.le_refl _,ha,by simp,by simp⟩,zak (q:=[0]) rfl rfl (by decide) ?_ ?_,?_⟩
 ·first|exact aQ24 trivial|refine aQ24 ?_
 ·refine aQ24 ?_
  simp [zal,zaD,renL,zam,zad,AV.ren]
 ·rintro⟨k,o⟩ ⟨h1,h2,h3,h4⟩
  dsimp only at h1 h2 h3 h4 ⊢
  refine aQ50 ?_
  refine⟨by unfold inI;omega,fun hlt=>?_,fun hge=>?_⟩
  ·have e1:=zbd (s:=s) (k:=k) (by omega)
   have e2:=zbd (s:=s) (k:=k+1) (by omega)
   rw [e1,e2] at h4
   refine⟨by omega,by omega,?_⟩
   have ek:((k:Int)+1).toNat=k+1:=by omega
   have tk:(s.take (k+1)).drop k=[s.getD k 0]:=take_drop1' (by omega)
   by_cases h0:s.getD k 0=0
   ·have d0:decide (s.getD k 0=UInt8.ofNat 0)=true:=decide_eq_true h0
    try simp -implicitDefEqProofs only [LM5,LB23,eq_self,zan,zat,lzS,al_Se,zjR,zjS,zjT,zjU,zjV,lw_Se,zjW,zjX,zjY,lz_b,zjZ,d0,TB,SB,Int.reduceToNat,Nat.reduceAdd,Nat.reduceEqDiff,Nat.reduceLT,Nat.reduceMod,Nat.reducePow,Nat.reduceSub,if_true,reduceIte]
    rw [ek]
    refine⟨by unfold inI;omega,by omega,by omega,fun h5=>?_,fun h5=>?_⟩
    ·refine aQ50 ?_
     refine⟨by unfold inI;omega,?_⟩
     rw [h0,show s.getD (k+1) 0=0 from h5,ziM] at h4
     rw [h4]
     refine zcn (l:=[⟨3,0,o,0⟩]) [1] (ndF.frz (zd4 rfl) rfl) ?_
     simp only [seR,Option.map_some,List.append_nil]
     rw [show ((at':Int)+((k - at'+2:Nat):Int))=(k:Int)+2 by omega]
    ·try simp -implicitDefEqProofs only [LM5,LB23,eq_self,zan,zat,lzS,al_Se,zjR,zjS,zjT,zjU,zjV,lw_Se,zjW,zjX,zjY,lz_b,zjZ,d0,TB,SB,Int.reduceToNat,Nat.reduceAdd,Nat.reduceEqDiff,Nat.reduceLT,Nat.reduceMod,Nat.reducePow,Nat.reduceSub,if_true,reduceIte]
     rw [tk]
     rw [h0] at h4
     refine⟨by omega,by omega,by unfold inI;omega,by omega,by omega,fun h6=>?_,fun h6=>?_⟩
     ·rw [ziO h5 h6] at h4
      rw [h4]
      exact zcn (l:=[]) [] (.inr ⟨rfl,rfl⟩) rfl
     ·rw [show s.getD (k+1) 0=255 from h6,ziN,Option.map_map] at h4
      refine⟨by unfold inI;omega,by omega,by omega,by omega,by simp;omega,by omega,by omega,by unfold inI;omega,by unfold inI;omega,?_⟩
      rw [zap]
      refine⟨(k+2,o++[s.getD k 0]),⟨by omega,by omega,by simp;omega,?_⟩,(by show s.length - (k+2) < s.length - k;omega),zak (q:=[0]) rfl rfl (by decide) ?_ ?_⟩
      ·rw [h4,h0]
       cases rdT (s.drop (k+1+1)) with
       | none=>rfl
       | some y=>simp;omega
      ·refine aQ24 ?_
       exact .inr (by omega)
      ·refine aQ24 ?_
       simp [zal,zaD,renL,zam,zad,AV.ren]
   ·have d0:decide (s.getD k 0=UInt8.ofNat 0)=false:=decide_eq_false h0
    try simp -implicitDefEqProofs only [LM5,LB23,eq_self,zan,zat,lzS,al_Se,zjR,zjS,zjT,zjU,zjV,lw_Se,zjW,zjX,zjY,lz_b,zjZ,d0,TB,SB,Int.reduceToNat,Nat.reduceAdd,Nat.reduceEqDiff,Nat.reduceLT,Nat.reduceMod,Nat.reducePow,Nat.reduceSub,if_true,reduceIte]
    rw [ek,tk]
    refine⟨by omega,by omega,by unfold inI;omega,by omega,by omega,by omega,by simp;omega,by omega,by omega,by unfold inI;omega,?_⟩
    rw [zap]
    rw [rdT_1 h0,← e2,Option.map_map] at h4
    refine⟨(k+1,o++[s.getD k 0]),⟨by omega,by omega,by simp;omega,?_⟩,(by show s.length - (k+1) < s.length - k;omega),zak (q:=[0]) rfl rfl (by decide) ?_ ?_⟩
    ·rw [h4]
     cases rdT (s.drop (k+1)) with
     | none=>rfl
     | some y=>simp;omega
    ·refine aQ24 ?_
     exact .inr (by omega)
    ·refine aQ24 ?_
     simp [zal,zaD,renL,zam,zad,AV.ren]
  ·have e:rdT (s.drop k)=none:=by
    rcases Nat.lt_or_ge k s.length with h | h
    ·rw [zbd h,List.drop_of_length_le (by omega)]
     rfl
    ·rw [List.drop_of_length_le h]
     rfl
   rw [e] at h4
   rw [h4]
   exact zcn (l:=[]) [] (.inr ⟨rfl,rfl⟩) rfl
end Go.Proofs.YtcahoelfogjljaaGreatDoor
end

section
namespace Go.Proofs.YtcahoelfogjljaaGreatDoor
open Go Go.Eng
set_option linter.defProp false in
def LB24:=And.intro @al_Se (And.intro @zjR (And.intro @zjS (And.intro @zjT (And.intro @zjU (And.intro @zjV (And.intro @lw_Se (And.intro @zjW (And.intro @zjX (And.intro @zjY (And.intro @lz_b (@zjZ)))))))))))
set_option linter.defProp false in
def LM3:=And.intro LM0 (And.intro LB6 (And.intro LB7 (And.intro LB22 (And.intro LB23 (LB24)))))
theorem zh3:∀ (n:Nat) (s:List UInt8),s.length≤n→∀ x,rdT s=some x→1≤x.2∧x.2≤s.length∧x.1.length≤s.length
 | 0,s,h,x,hx=>by
  obtain rfl:s=[]:=List.eq_nil_of_length_eq_zero (by omega)
  cases hx
 | n+1,s,h,x,hx=>by
  match s,h,hx with
  | [],_,hx=>cases hx
  | c::r,h,hx =>
   simp only [List.length_cons] at h
   by_cases hc:c=0
   ·subst hc
    match r,h,hx with
    | [],_,hx=>cases hx
    | b::r,h,hx =>
     simp only [List.length_cons] at h
     by_cases h0:b=0
     ·subst h0
      rw [ziM] at hx
      cases hx
      simp
     ·by_cases h1:b=255
      ·subst h1
       rw [ziN] at hx
       cases hr:rdT r with
       | none=>rw [hr] at hx;cases hx
       | some y =>
        rw [hr] at hx
        cases hx
        obtain⟨h1,h2,h3⟩:=zh3 n r (by omega) y hr
        simp only [List.length_cons]
        omega
      ·rw [ziO h0 h1] at hx
       cases hx
   ·rw [rdT_1 hc] at hx
    cases hr:rdT r with
    | none=>rw [hr] at hx;cases hx
    | some y =>
     rw [hr] at hx
     cases hx
     obtain⟨h1,h2,h3⟩:=zh3 n r (by omega) y hr
     simp only [List.length_cons]
     omega
theorem splitF_step {c:UInt8} {r:List UInt8}:zbw (c::r).length (c::r)=if c=4 then (match rdT r with
  | none=>none
  | some x=>(zbw (r.drop x.2).length (r.drop x.2)).map (x.1::·)) else none:=by
 rw [List.length_cons,zbw,if_neg (by simp)]
 have c4:c=4 ↔ c.toNat=4:=by rw [← UInt8.toNat_inj];rfl
 by_cases h4:c.toNat=4
 ·rw [if_pos (c4.2 h4)]
  have hn:nodR (c::r) 0=(rdT r).map fun x=>(⟨3,0,x.1,0⟩,0+1+x.2):=by
   rw [nodR,List.drop_zero]
   simp only [h4]
   simp
  rw [hn]
  cases hr:rdT r with
  | none=>rfl
  | some x =>
   have hle:=zh3 r.length r (Nat.le_refl _) x hr
   simp only [Option.map_some,if_true]
   rw [show 0+1+x.2=x.2+1 by omega,List.drop_succ_cons]
   rw [zfs r.length (r.drop x.2).length (r.drop x.2) (by rw [List.length_drop];omega) (Nat.le_refl _)]
 ·rw [if_neg (fun h=>h4 (c4.1 h))]
  cases hn:nodR (c::r) 0 with
  | none=>rfl
  | some z =>
   obtain⟨n,e⟩:=z
   have h3:n.kind≠3:=by
    rw [nodR,List.drop_zero] at hn
    simp only [if_neg h4] at hn
    split at hn
    ·rename_i h1
     cases hn
     rcases h1 with h1 | h1 | h1 <;> rw [h1] <;> decide
    ·split at hn
     ·split at hn
      ·cases hn
      ·split at hn
       ·cases hn;show (1:Int)≠3;decide
       ·cases hn
     ·split at hn
      ·split at hn
       ·cases hn
       ·cases hn;show (2:Int)≠3;decide
      ·cases hn
   dsimp only
   rw [if_neg h3]
theorem ld_t1 {K:AV→Prop} (n:Nd):ld2 (some tyStr) (some (List.drop 2 (List.flatMap nC [n]))) 0 K=K (str n.text):=by simp [ld2,wfin,tyStr,TD.agg,nC]
set_option maxHeartbeats 1000000 in
theorem rSplit_ok (s:List UInt8) (hs:s.length≤1000000000):ACalls Tryz.prog 41 [str s] [] (fun y _=>y=.ret (.tup [slS (zbf s).1,i64 (zbf s).2])):=by
 refine ACalls.body T_ok Tryz.func41 (by kernel_rfl) rfl Tryz.ntmps41 (congrArg Array.toList Tryz.results41) ?_
 refine aQ51 ?_
 rw [zbj]
 refine⟨List (List UInt8) × Nat,fun x=>x.2≤s.length∧x.1.length≤x.2∧zbw s.length s=(zbw (s.drop x.2).length (s.drop x.2)).map (x.1++·),fun x=>[str s,.bot,.lit (.slice none 0 0),i64 0,accA x.1,i64 x.2,.bot,.bot,.bot,.bot,.bot,.bot,.bot,.bot,.bot,.bot,.bot,.bot,.bot,.bot,.bot,.bot,.bot,.bot,.bot,.bot,.bot,.bot,.bot,.bot,.bot,.bot,.bot,.bot],fun x=>accS x.1,fun x=>s.length - x.2,([],0),⟨by simp,by simp,by rw [List.drop_zero];cases zbw s.length s <;> simp⟩,?_,?_⟩
 ·refine zak (q:=[]) rfl rfl (by decide) ?_ ?_
  ·refine aQ24 ?_
   simp [accA,nilS,AV.ren]
  ·refine aQ24 ?_
   simp [accS,zal]
 ·rintro⟨acc,p⟩ ⟨hp,hlen,heq⟩
  dsimp only at hp hlen heq ⊢
  refine aQ51 ?_
  refine⟨fun hlt=>?_,fun hge=>?_⟩
  ·have e1:=zbd (s:=s) (k:=p) (by omega)
   rw [e1,splitF_step] at heq
   have ht:=zju s (p+1) hs (by omega)
   cases hr:rdT (s.drop (p+1)) with
   | none =>
    rw [hr] at ht heq
    have hx:zbw s.length s=none:=by rw [heq];split <;> rfl
    have e2:zbf s=([],5):=by rw [zbf,hx]
    rw [show (((p+1:Nat)):Int)=(p:Int)+1 from rfl] at ht
    simp only [seR,seA,slN,List.flatMap_nil,List.length_nil] at ht
    cases acc
    all_goals simp only [zeo,zds,zep,zdt]
    all_goals
     refine⟨by unfold inI;omega,?_⟩
     refine(ht).pure (by simp [LB10,LB11,renL,AV.ren,zax u32 za4,zax u64 zaU,zad]) ?_
     rintro _ σ rfl
     refine⟨by simp [LB10,LB11,AEnd.noid,renL,AV.ren,zax u32 za4,zax u64 zaU,zad],?_⟩
     refine aQ51 ?_
     refine⟨by omega,by omega,?_⟩
     by_cases h4:s.getD p 0=4
     ·have d4:decide (s.getD p 0=UInt8.ofNat 4)=true:=decide_eq_true h4
      try simp -implicitDefEqProofs only [LM3,eq_self,zan,zat,lzS,ld_t1,d4,TB,SB,Int.reduceToNat,Nat.reduceAdd,Nat.reduceEqDiff,Nat.reduceLT,Nat.reduceMod,Nat.reducePow,Nat.reduceSub,if_true,reduceIte]
      exact zc6 (by rw [e2])
     ·have d4:decide (s.getD p 0=UInt8.ofNat 4)=false:=decide_eq_false h4
      try simp -implicitDefEqProofs only [LM3,eq_self,zan,zat,lzS,ld_t1,d4,TB,SB,Int.reduceToNat,Nat.reduceAdd,Nat.reduceEqDiff,Nat.reduceLT,Nat.reduceMod,Nat.reducePow,Nat.reduceSub,if_true,reduceIte]
      exact zc6 (by rw [e2])
   | some x =>
    rw [hr] at ht heq
    rw [show (((p+1:Nat)):Int)=(p:Int)+1 from rfl] at ht
    simp only [seR,seA,slN] at ht
    obtain⟨x1,x2,_⟩:=zh3 _ (s.drop (p+1)) (Nat.le_refl _) x hr
    rw [List.length_drop] at x2
    cases acc
    all_goals simp only [zeo,zds,zep,zdt]
    all_goals
     refine⟨by unfold inI;omega,?_⟩
     refine ht.pure (by simp [renL,zag,zam]) ?_
     rintro _ σ rfl
     refine⟨by simp [AEnd.noid,AV.ren,renL,zao,zac,zam,zad],?_⟩
     refine aQ51 ?_
     refine⟨by omega,by omega,?_⟩
     by_cases h4:s.getD p 0=4
     rotate_left
     ·have d4:decide (s.getD p 0=UInt8.ofNat 4)=false:=decide_eq_false h4
      rw [if_neg h4] at heq
      have e2:zbf s=([],5):=by rw [zbf,heq];rfl
      try simp -implicitDefEqProofs only [LM3,eq_self,zan,zat,lzS,ld_t1,d4,TB,SB,Int.reduceToNat,Nat.reduceAdd,Nat.reduceEqDiff,Nat.reduceLT,Nat.reduceMod,Nat.reducePow,Nat.reduceSub,if_true,reduceIte]
      exact zc6 (by rw [e2])
     have d4:decide (s.getD p 0=UInt8.ofNat 4)=true:=decide_eq_true h4
     rw [if_pos h4] at heq
     try simp -implicitDefEqProofs only [LM3,eq_self,zan,zat,lzS,ld_t1,d4,TB,SB,Int.reduceToNat,Nat.reduceAdd,Nat.reduceEqDiff,Nat.reduceLT,Nat.reduceMod,Nat.reducePow,Nat.reduceSub,if_true,reduceIte]
     refine⟨by omega,by omega,by omega,?_⟩
     have hdd:(s.drop (p+1)).drop x.2=s.drop (p+1+x.2):=by rw [List.drop_drop]
     dsimp only at heq
     rw [hdd] at heq
    ·refine zfq str zbV rfl rfl T32 T32 (zhJ _) T9 zdL (ys:=[x.1]) (m:=1) (ze2 (l:=[x.1]) rfl rfl) (by omega) (by simp only [tyStr];omega) ?_
     refine aQ51 ?_
     rw [zap]
     refine⟨([x.1],p+1+x.2),⟨by omega,by simp;omega,?_⟩,(by show s.length - (p+1+x.2) < s.length - p;omega),zak (q:=[2]) rfl rfl (by decide) ?_ ?_⟩
     ·rw [heq]
      cases zbw (s.drop (p+1+x.2)).length (s.drop (p+1+x.2)) <;> rfl
     ·refine aQ24 ?_
      simp [accA,AV.ren]
     ·refine aQ24 ?_
      simp [accS,zal,Blk.ren,renL,zag]
    ·rename_i a acc
     refine zcc str zbV rfl rfl T32 T32 (zhJ _) T9 zdL (l:=a::acc) (ys:=[x.1]) (m:=1) rfl rfl (ze2 (l:=[x.1]) rfl rfl) (by simp only [List.length_cons] at hlen ⊢;omega) (by simp only [tyStr];simp only [List.length_cons] at hlen ⊢;omega) ?_
     refine aQ51 ?_
     rw [zap]
     refine⟨(a::acc++[x.1],p+1+x.2),⟨by omega,by simp at hlen ⊢;omega,?_⟩,(by show s.length - (p+1+x.2) < s.length - p;omega),zak (q:=[3]) rfl rfl (by decide) ?_ ?_⟩
     ·rw [heq]
      cases zbw (s.drop (p+1+x.2)).length (s.drop (p+1+x.2)) <;> simp
     ·refine aQ24 ?_
      simp [accA,AV.ren]
     ·refine aQ24 ?_
      refine⟨.inr ⟨.rw ((a::acc++[x.1]).map str),?_,rfl⟩,trivial⟩
      show (Blk.rw ((a::acc++[x.1]).map str)).ren [3]=_
      rw [zaD,zax str zag]
      rfl
  ·have hk:s.drop p=[]:=List.drop_of_length_le (by omega)
   have e2:zbf s=(acc,0):=by rw [zbf,heq,hk,List.length_nil,zdb];simp
   cases acc with
   | nil =>
    simp only [zeo,zep]
    refine aQ51 ?_
    exact zc6 (by rw [e2])
   | cons a acc =>
    simp only [zds,zdt]
    refine aQ51 ?_
    exact end_refE (l:=a::acc) rfl (by rw [e2])
end Go.Proofs.YtcahoelfogjljaaGreatDoor
end

section
namespace Go.Proofs.YtcahoelfogjljaaGreatDoor
open Go Go.Eng
theorem rbStep_mul (n:BitVec 64) (b:UInt8):zeL n b=n * 256#64+b.toBitVec.setWidth 64:=by
 apply BitVec.eq_of_toNat_eq
 have hb:b.toBitVec.toNat < 256:=b.toBitVec.isLt
 have h1:(n <<< 8).toNat=(n.toNat * 256) % 2 ^ 64:=by rw [BitVec.toNat_shiftLeft,Nat.shiftLeft_eq]
 have h2:(b.toBitVec.setWidth 64).toNat=b.toBitVec.toNat:=by rw [BitVec.toNat_setWidth];omega
 have h3:((n.toNat * 256) % 2 ^ 64)=2 ^ 8 * (n.toNat % 2 ^ 56):=by omega
 rw [zeL,BitVec.toNat_or,h1,h2,BitVec.toNat_add,BitVec.toNat_mul,h2,h3,← Nat.two_pow_add_eq_or_of_lt (by omega)]
 simp only [BitVec.toNat_ofNat]
 omega
theorem rreadBig_ok (l:List UInt8) (hl:l.length≤9223372036854775807):ACalls Tryz.prog 111 [str l] [] (fun y _=>y=.ret (u64 (zbD l))):=by
 refine ACalls.body T_ok Tryz.func111 (by kernel_rfl) rfl Tryz.ntmps111 (congrArg Array.toList Tryz.results111) ?_
 refine aQ52 ?_
 rw [zbj]
 refine⟨Nat,fun k=>k≤l.length,fun k=>[str l,.bot,.bot,u64 (zbD (l.take k)),i64 k,.bot,.bot,.bot,.bot,.bot,.bot,.bot,.bot,.bot,.bot,.bot,.bot,.bot,.bot],fun _=>[],fun k=>l.length - k,0,Nat.zero_le _,?_,?_⟩
 ·refine zak (q:=[]) rfl rfl (by decide) ?_ ?_
  ·refine aQ24 ?_
   try simp [zbD]
  ·first|exact aQ24 trivial|refine aQ24 ?_
 ·intro k hk
  refine aQ52 ?_
  refine⟨fun hlt=>?_,fun hge=>?_⟩
  ·repeat (with_reducible refine zbW ?_)
   rw [zap]
   refine⟨k+1,by omega,by omega,zak (q:=[]) rfl rfl (by decide) ?_ ?_⟩
   ·refine aQ24 ?_
    rw [zgI l k (by omega)]
    simp [rbStep_mul]
   ·first|exact aQ24 trivial|refine aQ24 ?_
  ·obtain rfl:k=l.length:=by omega
   refine aQ52 ?_
   refine endQ_u64 ?_
   rw [List.take_length]
end Go.Proofs.YtcahoelfogjljaaGreatDoor
end

section
namespace Go.Proofs.YtcahoelfogjljaaGreatDoor
open Go Go.Eng
theorem zaB {T:Tab} {t:TypeId} {K:AV→Prop} (x y:UInt8):wbin T .lss t (u8 x) (u8 y) K=K (bl (decide (x.toNat < y.toNat))):=by
 simp [wbin,u8,bl,zcZ,cmpV]
theorem zaC {T:Tab} {t:TypeId} {K:AV→Prop} (x y:UInt8):wbin T .gtr t (u8 x) (u8 y) K=K (bl (decide (y.toNat < x.toNat))):=by
 simp [wbin,u8,bl,zcZ,cmpV]
theorem zbQ (K:AV→Prop):zaM T 51 [] K=K (nA ⟨0,0,[],0⟩):=by
 simp [zaM,T51,T49,T2,T9,T3,tyNd,zbg,zaI,zaF,tyStr,nA,nC,i64,str]
theorem sub_top (x:BitVec 64):x - 9223372036854775808#64=x ^^^ 9223372036854775808#64:=by
 rw [BitVec.sub_eq_add_neg,show -(9223372036854775808#64)=9223372036854775808#64 by decide,add_top]
def seO:Option (List Nd × Nat)→Int→AV
 | none,_=>seA [] 0 true
 | some x,p=>seA x.1 (p+x.2) false
theorem zjv (p:Int):seO none p=seA [] 0 true:=rfl
theorem ze7 (x:List Nd × Nat) (p:Int):seO (some x) p=seA x.1 (p+x.2) false:=rfl
theorem zcT {f:Nat} {c:UInt8} {r:List UInt8}:valP (f+1) (c::r)=match nodR (c::r) 0 with
  | none=>none
  | some (n,e)=>if n.kind=4∨n.kind=5 then (zbY (valP f) (decide (n.kind=5)) f 0 [] ((c::r).drop e)).map fun x=>(⟨n.kind,n.num,n.text,(x.2.1:Int)⟩::x.1,e+x.2.2) else some ([n],e):=rfl
theorem zcU {c:UInt8} {r:List UInt8}:nodR (c::r) 0=if c.toNat=1∨c.toNat=5∨c.toNat=6 then some (⟨(c.toNat:Int) - 1,0,[],0⟩,0+1)
  else if c.toNat=2 then (match r with
   | []=>none
   | b::_=>if b.toNat≤1 then some (⟨1,b.toNat,[],0⟩,0+2) else none)
  else if c.toNat=3 then (if r.length < 8 then none else some (⟨2,IntKind.i64.wrap (zbD (r.take 8) ^^^ 9223372036854775808#64).toNat,[],0⟩,0+9))
  else if c.toNat=4 then (rdT r).map fun x=>(⟨3,0,x.1,0⟩,0+1+x.2)
  else none:=rfl
set_option maxRecDepth 20000 in
set_option maxHeartbeats 4000000 in
theorem rv_low (s:List UInt8) (hs:s.length≤1000) (f p d:Nat) (hlt:p < s.length) (hf:s.length - p≤f+1) (hd:d+(s.length - p)≤3000) (hm:(s.getD p 0).toNat=0):ACalls Tryz.prog 80 [str s,i64 p,i64 d] [] (fun y _=>y=.ret (seO (valP (f+1) (s.drop p)) p)):=by
  have e1:(UInt8.ofNat 1).toNat=1:=rfl
  have e6:(UInt8.ofNat 6).toNat=6:=rfl
  have hc:=zbd hlt
  have c:decide ((s.length:Int)≤(p:Int))=false:=decide_eq_false (by omega)
  have c3:decide (3000 < (d:Int))=false:=decide_eq_false (by omega)
  have d1:decide ((s.getD p 0).toNat < (UInt8.ofNat 1).toNat)=true:=decide_eq_true (by omega)
  have d6:decide ((UInt8.ofNat 6).toNat < (s.getD p 0).toNat)=false:=decide_eq_false (by omega)
  have hv:valP (f+1) (s.drop p)=none:=by
   rw [hc,zcT,zcU,if_neg (by omega),if_neg (by omega),if_neg (by omega),if_neg (by omega)]
  rw [hv,zjv]
  refine ACalls.body T_ok Tryz.func80 (by kernel_rfl) rfl Tryz.ntmps80 (congrArg Array.toList Tryz.results80) ?_
  try simp -implicitDefEqProofs only [LM3,eq_self,zan,zat,lzS,zaB,zaC,zbQ,zah,c,c3,d1,d6,TB,SB,Int.reduceToNat,Nat.reduceAdd,Nat.reduceEqDiff,Nat.reduceLT,Nat.reduceMod,Nat.reducePow,Nat.reduceSub,if_true,reduceIte]
  refine⟨by omega,by omega,?_⟩
  try simp -implicitDefEqProofs only [LM3,eq_self,zan,zat,lzS,zaB,zaC,zbQ,zah,c,c3,d1,d6,TB,SB,Int.reduceToNat,Nat.reduceAdd,Nat.reduceEqDiff,Nat.reduceLT,Nat.reduceMod,Nat.reducePow,Nat.reduceSub,if_true,reduceIte]
  exact zcn (l:=[]) [] (.inr ⟨rfl,rfl⟩) rfl
set_option maxRecDepth 20000 in
set_option maxHeartbeats 4000000 in
theorem rv_high (s:List UInt8) (hs:s.length≤1000) (f p d:Nat) (hlt:p < s.length) (hf:s.length - p≤f+1) (hd:d+(s.length - p)≤3000) (hm:6 < (s.getD p 0).toNat):ACalls Tryz.prog 80 [str s,i64 p,i64 d] [] (fun y _=>y=.ret (seO (valP (f+1) (s.drop p)) p)):=by
  have e1:(UInt8.ofNat 1).toNat=1:=rfl
  have e6:(UInt8.ofNat 6).toNat=6:=rfl
  have hc:=zbd hlt
  have c:decide ((s.length:Int)≤(p:Int))=false:=decide_eq_false (by omega)
  have c3:decide (3000 < (d:Int))=false:=decide_eq_false (by omega)
  have d1:decide ((s.getD p 0).toNat < (UInt8.ofNat 1).toNat)=false:=decide_eq_false (by omega)
  have d6:decide ((UInt8.ofNat 6).toNat < (s.getD p 0).toNat)=true:=decide_eq_true (by omega)
  have hv:valP (f+1) (s.drop p)=none:=by
   rw [hc,zcT,zcU,if_neg (by omega),if_neg (by omega),if_neg (by omega),if_neg (by omega)]
  rw [hv,zjv]
  refine ACalls.body T_ok Tryz.func80 (by kernel_rfl) rfl Tryz.ntmps80 (congrArg Array.toList Tryz.results80) ?_
  try simp -implicitDefEqProofs only [LM3,eq_self,zan,zat,lzS,zaB,zaC,zbQ,zah,c,c3,d1,d6,TB,SB,Int.reduceToNat,Nat.reduceAdd,Nat.reduceEqDiff,Nat.reduceLT,Nat.reduceMod,Nat.reducePow,Nat.reduceSub,if_true,reduceIte]
  refine⟨by omega,by omega,?_⟩
  try simp -implicitDefEqProofs only [LM3,eq_self,zan,zat,lzS,zaB,zaC,zbQ,zah,c,c3,d1,d6,TB,SB,Int.reduceToNat,Nat.reduceAdd,Nat.reduceEqDiff,Nat.reduceLT,Nat.reduceMod,Nat.reducePow,Nat.reduceSub,if_true,reduceIte]
  refine⟨by omega,by omega,?_⟩
  try simp -implicitDefEqProofs only [LM3,eq_self,zan,zat,lzS,zaB,zaC,zbQ,zah,c,c3,d1,d6,TB,SB,Int.reduceToNat,Nat.reduceAdd,Nat.reduceEqDiff,Nat.reduceLT,Nat.reduceMod,Nat.reducePow,Nat.reduceSub,if_true,reduceIte]
  exact zcn (l:=[]) [] (.inr ⟨rfl,rfl⟩) rfl
set_option maxRecDepth 20000 in
set_option maxHeartbeats 4000000 in
theorem rv_null (s:List UInt8) (hs:s.length≤1000) (f p d:Nat) (hlt:p < s.length) (hf:s.length - p≤f+1) (hd:d+(s.length - p)≤3000) (hm:(s.getD p 0).toNat=1):ACalls Tryz.prog 80 [str s,i64 p,i64 d] [] (fun y _=>y=.ret (seO (valP (f+1) (s.drop p)) p)):=by
  have e1:(UInt8.ofNat 1).toNat=1:=rfl
  have e6:(UInt8.ofNat 6).toNat=6:=rfl
  have hc:=zbd hlt
  have c:decide ((s.length:Int)≤(p:Int))=false:=decide_eq_false (by omega)
  have c3:decide (3000 < (d:Int))=false:=decide_eq_false (by omega)
  have d1:decide ((s.getD p 0).toNat < (UInt8.ofNat 1).toNat)=false:=decide_eq_false (by omega)
  have d6:decide ((UInt8.ofNat 6).toNat < (s.getD p 0).toNat)=false:=decide_eq_false (by omega)
  have q0:decide (((s.getD p 0).toNat:Int) - 1=0)=true:=decide_eq_true (by omega)
  have q3:decide (((s.getD p 0).toNat:Int) - 1=3)=false:=decide_eq_false (by omega)
  have q1:decide (((s.getD p 0).toNat:Int) - 1=1)=false:=decide_eq_false (by omega)
  have q2:decide (((s.getD p 0).toNat:Int) - 1=2)=false:=decide_eq_false (by omega)
  have q5:decide (((s.getD p 0).toNat:Int) - 1=5)=false:=decide_eq_false (by omega)
  have hv:valP (f+1) (s.drop p)=some ([⟨0,0,[],0⟩],1):=by
   rw [hc,zcT,zcU,if_pos (by omega),hm]
   rfl
  rw [hv,ze7]
  refine ACalls.body T_ok Tryz.func80 (by kernel_rfl) rfl Tryz.ntmps80 (congrArg Array.toList Tryz.results80) ?_
  try simp -implicitDefEqProofs only [LM3,eq_self,zan,zat,lzS,zaB,zaC,zbQ,zah,c,c3,d1,d6,TB,SB,Int.reduceToNat,Nat.reduceAdd,Nat.reduceEqDiff,Nat.reduceLT,Nat.reduceMod,Nat.reducePow,Nat.reduceSub,if_true,reduceIte]
  refine⟨by omega,by omega,?_⟩
  try simp -implicitDefEqProofs only [LM3,eq_self,zan,zat,lzS,zaB,zaC,zbQ,zah,c,c3,d1,d6,TB,SB,Int.reduceToNat,Nat.reduceAdd,Nat.reduceEqDiff,Nat.reduceLT,Nat.reduceMod,Nat.reducePow,Nat.reduceSub,if_true,reduceIte]
  refine⟨by omega,by omega,?_⟩
  try simp -implicitDefEqProofs only [LM3,eq_self,zan,zat,lzS,zaB,zaC,zbQ,zah,c,c3,d1,d6,q0,q3,q1,q2,q5,TB,SB,Int.reduceToNat,Nat.reduceAdd,Nat.reduceEqDiff,Nat.reduceLT,Nat.reduceMod,Nat.reducePow,Nat.reduceSub,if_true,reduceIte]
  refine⟨by omega,by omega,?_⟩
  try simp -implicitDefEqProofs only [LM3,eq_self,zan,zat,lzS,zaB,zaC,zbQ,zah,c,c3,d1,d6,q0,q3,q1,q2,q5,TB,SB,Int.reduceToNat,Nat.reduceAdd,Nat.reduceEqDiff,Nat.reduceLT,Nat.reduceMod,Nat.reducePow,Nat.reduceSub,if_true,reduceIte]
  refine⟨by unfold inI;omega,by unfold inI;omega,fun _=>?_,fun h=>absurd (show ((s.getD p 0).toNat:Int) - 1=0 by omega) h⟩
  refine aQ53 ?_
  refine zcn (l:=[⟨0,0,[],0⟩]) [1] (ndF.frz (zd4 rfl) rfl) ?_
  rfl
set_option maxRecDepth 20000 in
set_option maxHeartbeats 4000000 in
theorem rv_text (s:List UInt8) (hs:s.length≤1000) (f p d:Nat) (hlt:p < s.length) (hf:s.length - p≤f+1) (hd:d+(s.length - p)≤3000) (hm:(s.getD p 0).toNat=4):ACalls Tryz.prog 80 [str s,i64 p,i64 d] [] (fun y _=>y=.ret (seO (valP (f+1) (s.drop p)) p)):=by
  have e1:(UInt8.ofNat 1).toNat=1:=rfl
  have e6:(UInt8.ofNat 6).toNat=6:=rfl
  have hc:=zbd hlt
  have c:decide ((s.length:Int)≤(p:Int))=false:=decide_eq_false (by omega)
  have c3:decide (3000 < (d:Int))=false:=decide_eq_false (by omega)
  have d1:decide ((s.getD p 0).toNat < (UInt8.ofNat 1).toNat)=false:=decide_eq_false (by omega)
  have d6:decide ((UInt8.ofNat 6).toNat < (s.getD p 0).toNat)=false:=decide_eq_false (by omega)
  have q0:decide (((s.getD p 0).toNat:Int) - 1=0)=false:=decide_eq_false (by omega)
  have q3:decide (((s.getD p 0).toNat:Int) - 1=3)=true:=decide_eq_true (by omega)
  have q1:decide (((s.getD p 0).toNat:Int) - 1=1)=false:=decide_eq_false (by omega)
  have q2:decide (((s.getD p 0).toNat:Int) - 1=2)=false:=decide_eq_false (by omega)
  have q5:decide (((s.getD p 0).toNat:Int) - 1=5)=false:=decide_eq_false (by omega)
  have hv:valP (f+1) (s.drop p)=(rdT (s.drop (p+1))).map fun x=>([⟨3,0,x.1,0⟩],1+x.2):=by
   rw [hc,zcT,zcU,if_neg (by omega),if_neg (by omega),if_neg (by omega),if_pos hm]
   cases rdT (s.drop (p+1)) with
   | none=>rfl
   | some x=>simp
  rw [hv]
  refine ACalls.body T_ok Tryz.func80 (by kernel_rfl) rfl Tryz.ntmps80 (congrArg Array.toList Tryz.results80) ?_
  try simp -implicitDefEqProofs only [LM3,eq_self,zan,zat,lzS,zaB,zaC,zbQ,zah,c,c3,d1,d6,TB,SB,Int.reduceToNat,Nat.reduceAdd,Nat.reduceEqDiff,Nat.reduceLT,Nat.reduceMod,Nat.reducePow,Nat.reduceSub,if_true,reduceIte]
  refine⟨by omega,by omega,?_⟩
  try simp -implicitDefEqProofs only [LM3,eq_self,zan,zat,lzS,zaB,zaC,zbQ,zah,c,c3,d1,d6,TB,SB,Int.reduceToNat,Nat.reduceAdd,Nat.reduceEqDiff,Nat.reduceLT,Nat.reduceMod,Nat.reducePow,Nat.reduceSub,if_true,reduceIte]
  refine⟨by omega,by omega,?_⟩
  try simp -implicitDefEqProofs only [LM3,eq_self,zan,zat,lzS,zaB,zaC,zbQ,zah,c,c3,d1,d6,q0,q3,q1,q2,q5,TB,SB,Int.reduceToNat,Nat.reduceAdd,Nat.reduceEqDiff,Nat.reduceLT,Nat.reduceMod,Nat.reducePow,Nat.reduceSub,if_true,reduceIte]
  refine⟨by omega,by omega,?_⟩
  try simp -implicitDefEqProofs only [LM3,eq_self,zan,zat,lzS,zaB,zaC,zbQ,zah,c,c3,d1,d6,q0,q3,q1,q2,q5,TB,SB,Int.reduceToNat,Nat.reduceAdd,Nat.reduceEqDiff,Nat.reduceLT,Nat.reduceMod,Nat.reducePow,Nat.reduceSub,if_true,reduceIte]
  refine⟨by unfold inI;omega,by unfold inI;omega,fun h=>absurd h (by omega),fun _=>?_⟩
  try simp -implicitDefEqProofs only [LM3,eq_self,zan,zat,lzS,zaB,zaC,zbQ,zah,q3,TB,SB,Int.reduceToNat,Nat.reduceAdd,Nat.reduceEqDiff,Nat.reduceLT,Nat.reduceMod,Nat.reducePow,Nat.reduceSub,if_true,reduceIte]
  refine⟨fun _=>?_,fun h=>absurd (show ((s.getD p 0).toNat:Int) - 1=3 by omega) h⟩
  rw [show ((p:Int)+1)=((p+1:Nat):Int) by omega]
  have hT:=zju s (p+1) (by omega) (by omega)
  cases hr:rdT (s.drop (p+1)) with
  | none =>
   rw [hr] at hT
   refine hT.pure (by simp [renL,zag,zam]) ?_
   rintro _ σ rfl
   refine⟨by simp [AEnd.noid,seR,zb3],?_⟩
   simp only [seR,seA,slN]
   refine aQ53 ?_
   exact zaO (zb3 [] 0 true []) rfl
  | some x =>
   rw [hr] at hT
   refine hT.pure (by simp [renL,zag,zam]) ?_
   rintro _ σ rfl
   refine⟨by simp [AEnd.noid,seR,zb3],?_⟩
   simp only [seR,seA,slN]
   refine aQ53 ?_
   rw [ze7,show (((p+1:Nat):Int)+(x.2:Int))=(p:Int)+((1+x.2:Nat):Int) by omega]
   exact zaO (zb3 [⟨3,0,x.1,0⟩] _ false []) rfl
set_option maxRecDepth 20000 in
set_option maxHeartbeats 4000000 in
theorem rv_bool (s:List UInt8) (hs:s.length≤1000) (f p d:Nat) (hlt:p < s.length) (hf:s.length - p≤f+1) (hd:d+(s.length - p)≤3000) (hm:(s.getD p 0).toNat=2):ACalls Tryz.prog 80 [str s,i64 p,i64 d] [] (fun y _=>y=.ret (seO (valP (f+1) (s.drop p)) p)):=by
  have e1:(UInt8.ofNat 1).toNat=1:=rfl
  have e6:(UInt8.ofNat 6).toNat=6:=rfl
  have hc:=zbd hlt
  have c:decide ((s.length:Int)≤(p:Int))=false:=decide_eq_false (by omega)
  have c3:decide (3000 < (d:Int))=false:=decide_eq_false (by omega)
  have d1:decide ((s.getD p 0).toNat < (UInt8.ofNat 1).toNat)=false:=decide_eq_false (by omega)
  have d6:decide ((UInt8.ofNat 6).toNat < (s.getD p 0).toNat)=false:=decide_eq_false (by omega)
  have q0:decide (((s.getD p 0).toNat:Int) - 1=0)=false:=decide_eq_false (by omega)
  have q3:decide (((s.getD p 0).toNat:Int) - 1=3)=false:=decide_eq_false (by omega)
  have q1:decide (((s.getD p 0).toNat:Int) - 1=1)=true:=decide_eq_true (by omega)
  have q2:decide (((s.getD p 0).toNat:Int) - 1=2)=false:=decide_eq_false (by omega)
  have q5:decide (((s.getD p 0).toNat:Int) - 1=5)=false:=decide_eq_false (by omega)
  have hv:valP (f+1) (s.drop p)=(if p+1 < s.length∧(s.getD (p+1) 0).toNat≤1 then some ([⟨1,(s.getD (p+1) 0).toNat,[],0⟩],2) else none):=by
   rw [hc,zcT,zcU,if_neg (by omega),if_pos hm]
   by_cases h2:p+1 < s.length
   ·rw [zbd h2]
    dsimp only
    by_cases h3:(s.getD (p+1) 0).toNat≤1
    ·rw [if_pos h3,if_pos ⟨h2,h3⟩]
     rfl
    ·rw [if_neg h3,if_neg (fun h=>h3 h.2)]
   ·rw [List.drop_of_length_le (by omega),if_neg (fun h=>h2 h.1)]
  rw [hv]
  have ep:((p:Int)+1)=((p+1:Nat):Int):=by omega
  refine ACalls.body T_ok Tryz.func80 (by kernel_rfl) rfl Tryz.ntmps80 (congrArg Array.toList Tryz.results80) ?_
  try simp -implicitDefEqProofs only [LM3,eq_self,zan,zat,lzS,zaB,zaC,zbQ,zah,c,c3,d1,d6,TB,SB,Int.reduceToNat,Nat.reduceAdd,Nat.reduceEqDiff,Nat.reduceLT,Nat.reduceMod,Nat.reducePow,Nat.reduceSub,if_true,reduceIte]
  refine⟨by omega,by omega,?_⟩
  try simp -implicitDefEqProofs only [LM3,eq_self,zan,zat,lzS,zaB,zaC,zbQ,zah,c,c3,d1,d6,TB,SB,Int.reduceToNat,Nat.reduceAdd,Nat.reduceEqDiff,Nat.reduceLT,Nat.reduceMod,Nat.reducePow,Nat.reduceSub,if_true,reduceIte]
  refine⟨by omega,by omega,?_⟩
  try simp -implicitDefEqProofs only [LM3,eq_self,zan,zat,lzS,zaB,zaC,zbQ,zah,c,c3,d1,d6,q0,q3,q1,q2,q5,TB,SB,Int.reduceToNat,Nat.reduceAdd,Nat.reduceEqDiff,Nat.reduceLT,Nat.reduceMod,Nat.reducePow,Nat.reduceSub,if_true,reduceIte]
  refine⟨by omega,by omega,?_⟩
  try simp -implicitDefEqProofs only [LM3,eq_self,zan,zat,lzS,zaB,zaC,zbQ,zah,c,c3,d1,d6,q0,q3,q1,q2,q5,TB,SB,Int.reduceToNat,Nat.reduceAdd,Nat.reduceEqDiff,Nat.reduceLT,Nat.reduceMod,Nat.reducePow,Nat.reduceSub,if_true,reduceIte]
  refine⟨by unfold inI;omega,by unfold inI;omega,fun h=>absurd h (by omega),fun _=>?_⟩
  refine aQ53 ?_
  refine⟨fun h=>absurd h (by omega),fun _=>?_⟩
  by_cases h2:p+1 < s.length
  ·have c2:decide ((s.length:Int)≤((p+1:Nat):Int))=false:=decide_eq_false (by omega)
   rw [ep]
   by_cases h3:(s.getD (p+1) 0).toNat≤1
   ·have c4:decide ((UInt8.ofNat 1).toNat < (s.getD (p+1) 0).toNat)=false:=decide_eq_false (by omega)
    rw [if_pos ⟨h2,h3⟩]
    try simp -implicitDefEqProofs only [LM3,eq_self,zan,zat,lzS,zaB,zaC,zbQ,zah,c2,c4,TB,SB,Int.reduceToNat,Nat.reduceAdd,Nat.reduceEqDiff,Nat.reduceLT,Nat.reduceMod,Nat.reducePow,Nat.reduceSub,if_true,reduceIte]
    refine⟨fun _=>⟨by omega,by omega,by omega,by omega,by unfold inI;omega,?_⟩,fun h=>absurd (show ((s.getD p 0).toNat:Int) - 1=1 by omega) h⟩
    rw [ze7,show (((p+1:Nat):Int)+1)=(p:Int)+((2:Nat):Int) by omega,show ((s.getD p 0).toNat:Int) - 1=1 by omega]
    exact zcn (l:=[⟨1,(s.getD (p+1) 0).toNat,[],0⟩]) [1] (ndF.frz (zd4 rfl) rfl) rfl
   ·have c4:decide ((UInt8.ofNat 1).toNat < (s.getD (p+1) 0).toNat)=true:=decide_eq_true (by omega)
    rw [if_neg (fun h=>h3 h.2)]
    try simp -implicitDefEqProofs only [LM3,eq_self,zan,zat,lzS,zaB,zaC,zbQ,zah,c2,c4,TB,SB,Int.reduceToNat,Nat.reduceAdd,Nat.reduceEqDiff,Nat.reduceLT,Nat.reduceMod,Nat.reducePow,Nat.reduceSub,if_true,reduceIte]
    refine⟨fun _=>⟨by omega,by omega,?_⟩,fun h=>absurd (show ((s.getD p 0).toNat:Int) - 1=1 by omega) h⟩
    exact zcn (l:=[]) [] (.inr ⟨rfl,rfl⟩) rfl
  ·have c2:decide ((s.length:Int)≤((p+1:Nat):Int))=true:=decide_eq_true (by omega)
   rw [ep,if_neg (fun h=>h2 h.1)]
   try simp -implicitDefEqProofs only [LM3,eq_self,zan,zat,lzS,zaB,zaC,zbQ,zah,c2,TB,SB,Int.reduceToNat,Nat.reduceAdd,Nat.reduceEqDiff,Nat.reduceLT,Nat.reduceMod,Nat.reducePow,Nat.reduceSub,if_true,reduceIte]
   refine⟨fun _=>?_,fun h=>absurd (show ((s.getD p 0).toNat:Int) - 1=1 by omega) h⟩
   exact zcn (l:=[]) [] (.inr ⟨rfl,rfl⟩) rfl
set_option maxRecDepth 20000 in
set_option maxHeartbeats 4000000 in
theorem rv_num (s:List UInt8) (hs:s.length≤1000) (f p d:Nat) (hlt:p < s.length) (hf:s.length - p≤f+1) (hd:d+(s.length - p)≤3000) (hm:(s.getD p 0).toNat=3):ACalls Tryz.prog 80 [str s,i64 p,i64 d] [] (fun y _=>y=.ret (seO (valP (f+1) (s.drop p)) p)):=by
  have e1:(UInt8.ofNat 1).toNat=1:=rfl
  have e6:(UInt8.ofNat 6).toNat=6:=rfl
  have hc:=zbd hlt
  have c:decide ((s.length:Int)≤(p:Int))=false:=decide_eq_false (by omega)
  have c3:decide (3000 < (d:Int))=false:=decide_eq_false (by omega)
  have d1:decide ((s.getD p 0).toNat < (UInt8.ofNat 1).toNat)=false:=decide_eq_false (by omega)
  have d6:decide ((UInt8.ofNat 6).toNat < (s.getD p 0).toNat)=false:=decide_eq_false (by omega)
  have q0:decide (((s.getD p 0).toNat:Int) - 1=0)=false:=decide_eq_false (by omega)
  have q3:decide (((s.getD p 0).toNat:Int) - 1=3)=false:=decide_eq_false (by omega)
  have q1:decide (((s.getD p 0).toNat:Int) - 1=1)=false:=decide_eq_false (by omega)
  have q2:decide (((s.getD p 0).toNat:Int) - 1=2)=true:=decide_eq_true (by omega)
  have q5:decide (((s.getD p 0).toNat:Int) - 1=5)=false:=decide_eq_false (by omega)
  have hv:valP (f+1) (s.drop p)=(if s.length < p+9 then none else some ([⟨2,IntKind.i64.wrap (zbD ((s.drop (p+1)).take 8) ^^^ 9223372036854775808#64).toNat,[],0⟩],9)):=by
   rw [hc,zcT,zcU,if_neg (by omega),if_neg (by omega),if_pos hm,List.length_drop]
   by_cases h2:s.length < p+9
   ·rw [if_pos (by omega),if_pos h2]
   ·rw [if_neg (by omega),if_neg h2]
    rfl
  rw [hv]
  have ep:((p:Int)+1)=((p+1:Nat):Int):=by omega
  refine ACalls.body T_ok Tryz.func80 (by kernel_rfl) rfl Tryz.ntmps80 (congrArg Array.toList Tryz.results80) ?_
  try simp -implicitDefEqProofs only [LM3,eq_self,zan,zat,lzS,zaB,zaC,zbQ,zah,c,c3,d1,d6,TB,SB,Int.reduceToNat,Nat.reduceAdd,Nat.reduceEqDiff,Nat.reduceLT,Nat.reduceMod,Nat.reducePow,Nat.reduceSub,if_true,reduceIte]
  refine⟨by omega,by omega,?_⟩
  try simp -implicitDefEqProofs only [LM3,eq_self,zan,zat,lzS,zaB,zaC,zbQ,zah,c,c3,d1,d6,TB,SB,Int.reduceToNat,Nat.reduceAdd,Nat.reduceEqDiff,Nat.reduceLT,Nat.reduceMod,Nat.reducePow,Nat.reduceSub,if_true,reduceIte]
  refine⟨by omega,by omega,?_⟩
  try simp -implicitDefEqProofs only [LM3,eq_self,zan,zat,lzS,zaB,zaC,zbQ,zah,c,c3,d1,d6,q0,q3,q1,q2,q5,TB,SB,Int.reduceToNat,Nat.reduceAdd,Nat.reduceEqDiff,Nat.reduceLT,Nat.reduceMod,Nat.reducePow,Nat.reduceSub,if_true,reduceIte]
  refine⟨by omega,by omega,?_⟩
  try simp -implicitDefEqProofs only [LM3,eq_self,zan,zat,lzS,zaB,zaC,zbQ,zah,c,c3,d1,d6,q0,q3,q1,q2,q5,TB,SB,Int.reduceToNat,Nat.reduceAdd,Nat.reduceEqDiff,Nat.reduceLT,Nat.reduceMod,Nat.reducePow,Nat.reduceSub,if_true,reduceIte]
  refine⟨by unfold inI;omega,by unfold inI;omega,fun h=>absurd h (by omega),fun _=>?_⟩
  refine aQ53 ?_
  refine⟨fun h=>absurd h (by omega),fun _=>?_⟩
  refine aQ53 ?_
  refine⟨fun h=>absurd h (by omega),fun _=>?_⟩
  refine aQ53 ?_
  refine⟨fun _=>⟨by unfold inI;omega,fun h2=>?_,fun h2=>⟨by unfold inI;omega,by omega,by omega,by omega,?_⟩⟩,fun h=>absurd (show ((s.getD p 0).toNat:Int) - 1=2 by omega) h⟩
  ·rw [if_pos (by omega)]
   exact zcn (l:=[]) [] (.inr ⟨rfl,rfl⟩) rfl
  ·rw [if_neg (by omega),show ((p:Int)+1).toNat=p+1 by omega,show ((p:Int)+1+8).toNat=p+9 by omega]
   refine(rreadBig_ok ((s.take (p+9)).drop (p+1)) (by rw [List.length_drop,List.length_take];omega)).pure (by simp [renL,zag]) ?_
   rintro _ σ rfl
   refine⟨zaU _ _,?_⟩
   refine aQ53 ?_
   refine⟨by unfold inI;omega,?_⟩
   rw [ze7,sub_top,List.drop_take,show p+9 - (p+1)=8 by omega,show ((s.getD p 0).toNat:Int) - 1=2 by omega,show ((p:Int)+1+8)=(p:Int)+((9:Nat):Int) by omega]
   exact zcn (l:=[⟨2,IntKind.i64.wrap (zbD ((s.drop (p+1)).take 8) ^^^ 9223372036854775808#64).toNat,[],0⟩]) [1] (ndF.frz (zd4 rfl) rfl) rfl
end Go.Proofs.YtcahoelfogjljaaGreatDoor
end

section
namespace Go.Proofs.YtcahoelfogjljaaGreatDoor
open Go Go.Eng
set_option linter.defProp false in
def LB25:=And.intro @zaB (And.intro @zaC (@zbQ))
section
variable {K : AV → Prop} {KS : AV → zaa → Prop} {σ : zaa} {id : Nat}
theorem zjs (k c:Int) (t:List UInt8) (n:Int) (r:List AV):ld2 (some zaF) (some (i64 k::i64 n::str t::i64 c::r)) 3 K=K (i64 c):=by simp [ld2,wfin,zaF,TD.agg]
theorem zjt (k c x:Int) (t:List UInt8) (n:Int) (r:List AV):st2 (some zaF) (some (.rw (i64 k::i64 n::str t::i64 c::r))) id 3 (i64 x) σ KS=KS (.lit undef) (σ.set id (.rw (i64 k::i64 n::str t::i64 x::r))):=by simp [st2,zaF,zbN,zbx,zaW]
end
def kRow (k c:Int) (acc:List Nd):List AV:=i64 k::i64 0::str []::i64 c::acc.flatMap nC
theorem kidsP_end {V:List UInt8→Option (List Nd × Nat)} {mp:Bool} {g c:Nat} {last r:List UInt8}:zbY V mp (g+1) c last (0::r)=some ([],0,1):=by rw [zbY,if_pos rfl]
theorem kidsP_out {V:List UInt8→Option (List Nd × Nat)} {mp:Bool} {g c:Nat} {last:List UInt8}:zbY V mp g c last []=none:=by cases g <;> rfl
theorem kidsP_L {V:List UInt8→Option (List Nd × Nat)} {g c:Nat} {last r:List UInt8} {b:UInt8} (h:b≠0):zbY V false (g+1) c last (b::r)=match V (b::r) with
  | none=>none
  | some (l,e)=>(zbY V false g (c+1) last ((b::r).drop e)).map fun x=>(l++x.1,x.2.1+1,e+x.2.2):=by
 rw [zbY,if_neg h,if_neg (by decide)]
 cases V (b::r) <;> rfl
def totP (f:Nat) (mp:Bool) (s:List UInt8) (p:Nat) (x:Nat × Nat × Nat × List UInt8 × List Nd):Prop :=
 p+1≤x.2.1∧x.2.1≤s.length∧s.length - x.2.1≤x.1∧x.2.2.2.2.length+(p+1)≤x.2.1∧x.2.2.1≤x.2.2.2.2.length∧zbY (valP f) mp f 0 [] (s.drop (p+1))=(zbY (valP f) mp x.1 x.2.2.1 x.2.2.2.1 (s.drop x.2.1)).map fun y=>(x.2.2.2.2++y.1,x.2.2.1+y.2.1,(x.2.1 - (p+1))+y.2.2)
set_option maxRecDepth 20000 in
set_option maxHeartbeats 8000000 in
theorem rv_list (s:List UInt8) (hs:s.length≤1000) (f p d:Nat) (hlt:p < s.length) (hf:s.length - p≤f+1) (hd:d+(s.length - p)≤3000) (hm:(s.getD p 0).toNat=5)
  (ih:∀ p d:Nat,p≤s.length→s.length - p≤f→d+(s.length - p)≤3000→ACalls Tryz.prog 80 [str s,i64 p,i64 d] [] (fun y _=>y=.ret (seO (valP f (s.drop p)) p))) :
  ACalls Tryz.prog 80 [str s,i64 p,i64 d] [] (fun y _=>y=.ret (seO (valP (f+1) (s.drop p)) p)):=by
 have e1:(UInt8.ofNat 1).toNat=1:=rfl
 have e6:(UInt8.ofNat 6).toNat=6:=rfl
 have hc:=zbd hlt
 have c:decide ((s.length:Int)≤(p:Int))=false:=decide_eq_false (by omega)
 have c3:decide (3000 < (d:Int))=false:=decide_eq_false (by omega)
 have d1:decide ((s.getD p 0).toNat < (UInt8.ofNat 1).toNat)=false:=decide_eq_false (by omega)
 have d6:decide ((UInt8.ofNat 6).toNat < (s.getD p 0).toNat)=false:=decide_eq_false (by omega)
 have hk:((s.getD p 0).toNat:Int) - 1=4:=by omega
 have hv:valP (f+1) (s.drop p)=(zbY (valP f) false f 0 [] (s.drop (p+1))).map fun x=>(⟨4,0,[],(x.2.1:Int)⟩::x.1,1+x.2.2):=by
  rw [hc,zcT,zcU,if_pos (by omega),hk]
  rfl
 rw [hv]
 refine ACalls.body T_ok Tryz.func80 (by kernel_rfl) rfl Tryz.ntmps80 (congrArg Array.toList Tryz.results80) ?_
 try simp -implicitDefEqProofs only [LM3,LB25,eq_self,zan,zat,lzS,zah,zjs,zjt,zas,c,c3,d1,d6,TB,SB,Int.reduceToNat,Nat.reduceAdd,Nat.reduceEqDiff,Nat.reduceLT,Nat.reduceMod,Nat.reducePow,Nat.reduceSub,if_true,reduceIte]
 refine⟨by omega,by omega,?_⟩
 try simp -implicitDefEqProofs only [LM3,LB25,eq_self,zan,zat,lzS,zah,zjs,zjt,zas,c,c3,d1,d6,TB,SB,Int.reduceToNat,Nat.reduceAdd,Nat.reduceEqDiff,Nat.reduceLT,Nat.reduceMod,Nat.reducePow,Nat.reduceSub,if_true,reduceIte]
 refine⟨by omega,by omega,?_⟩
 try simp -implicitDefEqProofs only [LM3,LB25,eq_self,zan,zat,lzS,zah,zjs,zjt,zas,c,c3,d1,d6,TB,SB,Int.reduceToNat,Nat.reduceAdd,Nat.reduceEqDiff,Nat.reduceLT,Nat.reduceMod,Nat.reducePow,Nat.reduceSub,if_true,reduceIte]
 refine⟨by omega,by omega,?_⟩
 rw [hk]
 try simp -implicitDefEqProofs only [LM3,LB25,eq_self,zan,zat,lzS,zah,zjs,zjt,zas,c,c3,d1,d6,TB,SB,Int.reduceToNat,Nat.reduceAdd,Nat.reduceEqDiff,Nat.reduceLT,Nat.reduceMod,Nat.reducePow,Nat.reduceSub,if_true,reduceIte]
 refine⟨by unfold inI;omega,by unfold inI;omega,fun h=>absurd h (by decide),fun _=>?_⟩
 refine aQ54 ?_
 refine⟨fun h=>absurd h (by decide),fun _=>?_⟩
 refine aQ54 ?_
 refine⟨fun h=>absurd h (by decide),fun _=>?_⟩
 refine aQ54 ?_
 refine⟨fun h=>absurd h (by decide),fun _=>?_⟩
 refine aQ54 ?_
 rw [zbj]
 refine⟨Nat × Nat × Nat × List UInt8 × List Nd,totP f false s p,fun x=>[str s,i64 x.2.1,i64 d,.bot,.bot,.bot,.ptr 0 0,i64 4,.ref 1 0 (x.2.2.2.2.length+1) 4,str x.2.2.2.1,.bot,.bot,.bot,.bot,.bot,.bot,.bot,.bot,.bot,.bot,.bot,.bot,.bot,.bot,.bot,.bot,.bot,.bot,.bot,.bot,.bot,.bot,.bot,.bot,.bot,.bot,.bot,.bot,.bot,.bot,.bot,.bot,.bot,.bot,.bot,.bot,.bot,.bot,.bot,.bot,.bot,.bot,.bot,.bot,.bot,.bot,.bot,.bot,.bot,.bot,.bot,.bot,.bot,.bot,.bot,.bot,.bot,.bot,.bot,.bot,.bot,.bot,.bot,.bot,.bot,.bot,.bot,.bot,.bot,.bot,.bot,.bot,.bot,.bot,.bot,.bot,.bot,.bot,.bot,.bot,.bot,.bot,.bot,.bot,.bot,.bot,.bot,.bot,.bot,.bot,.bot,.bot,.bot,.bot,.bot,.bot,.bot,.bot,.bot,.bot,.bot,.bot,.bot,.bot,.bot,.bot,.bot,.bot,.bot,.bot,.bot,.bot,.bot,.bot,.bot,.bot,.bot,.bot,.bot,.bot,.bot,.bot,.bot,.bot,.bot,.bot,.bot,.bot,.bot,.bot,.bot,.bot,.bot,.bot,.bot,.bot,.bot,.bot,.bot,.bot,.bot,.bot,.bot,.bot,.bot,.bot,.bot,.bot,.bot,.bot,.bot,.bot,.bot,.bot,.bot,.bot,.bot,.bot,.bot,.bot,.bot,.bot,.bot,.bot,.bot,.bot,.bot,.bot,.bot,.bot,.bot],fun x=>[.rw [.lit (.slice none 0 0),i64 0,bl false],.rw (kRow 4 x.2.2.1 x.2.2.2.2)],fun x=>s.length - x.2.1,(f,p+1,0,[],[]),⟨by dsimp only;omega,by dsimp only;omega,by dsimp only;omega,by simp,by simp,?_⟩,zak (q:=[0,1]) rfl rfl (by decide) ?_ ?_,?_⟩
 ·dsimp only
  cases zbY (valP f) false f 0 [] (s.drop (p+1)) with
  | none=>rfl
  | some y=>simp
 ·refine aQ24 ?_
  exact .inr (by omega)
 ·refine aQ24 ?_
  have hb:Blk.rw (kRow 4 ((0:Nat):Int) [])=Blk.rw (List.flatMap nC [⟨4,0,[],0⟩]):=rfl
  rw [hb]
  simp [zal,zaD,renL,zam,zad,AV.ren,zac,zao,zag]
 ·rintro⟨g,q,k,last,acc⟩ ⟨h1,h2,h3,h4,h5,h6⟩
  dsimp only at h1 h2 h3 h4 h5 h6 ⊢
  by_cases hql:q < s.length
  ·have cq:decide ((q:Int) < (s.length:Int))=true:=decide_eq_true (by omega)
   by_cases h0:s.getD q 0=0
   ·have cz:decide (s.getD q 0=UInt8.ofNat 0)=true:=decide_eq_true h0
    try simp -implicitDefEqProofs only [LM3,LB25,eq_self,zan,zat,lzS,zah,zjs,zjt,zas,cq,cz,TB,SB,Int.reduceToNat,Nat.reduceAdd,Nat.reduceEqDiff,Nat.reduceLT,Nat.reduceMod,Nat.reducePow,Nat.reduceSub,if_true,reduceIte]
    refine⟨by omega,by omega,fun h=>absurd h (by omega),fun _=>⟨by unfold inI;omega,?_⟩⟩
    obtain⟨g,rfl⟩:∃ g',g=g'+1:=⟨g - 1,by omega⟩
    rw [zbd hql,h0,kidsP_end] at h6
    rw [h6,Option.map_some,Option.map_some,ze7]
    dsimp only
    rw [Nat.add_zero,List.append_nil,show (q:Int)+1=(p:Int)+((1+(q - (p+1)+1):Nat):Int) by omega]
    exact zcn (l:=⟨4,0,[],k⟩::acc) [1] (ndF.frz (zd4 rfl) rfl) rfl
   ·have cz:decide (s.getD q 0=UInt8.ofNat 0)=false:=decide_eq_false h0
    try simp -implicitDefEqProofs only [LM3,LB25,eq_self,zan,zat,lzS,zah,zjs,zjt,zas,cq,cz,TB,SB,Int.reduceToNat,Nat.reduceAdd,Nat.reduceEqDiff,Nat.reduceLT,Nat.reduceMod,Nat.reducePow,Nat.reduceSub,if_true,reduceIte]
    refine⟨by omega,by omega,fun h=>absurd h (by decide),fun _=>?_⟩
    refine aQ54 ?_
    refine⟨by unfold inI;omega,?_⟩
    rw [show ((d:Int)+1)=((d+1:Nat):Int) by omega]
    obtain⟨g,rfl⟩:∃ g',g=g'+1:=⟨g - 1,by omega⟩
    have hV:=ih q (d+1) (by omega) (by omega) (by omega)
    have hdq:=zbd hql
    have hbd:=zeN f (s.drop q)
    have hkl:=kidsP_L (V:=valP f) (g:=g) (c:=k) (last:=last) (r:=s.drop (q+1)) h0
    rw [← hdq] at hkl
    cases hvq:valP f (s.drop q) with
    | none =>
     rw [hvq] at hV hkl
     rw [hkl] at h6
     rw [h6]
     refine hV.pure (by simp [renL,zag,zam]) ?_
     rintro _ σ rfl
     refine⟨by simp [AEnd.noid,seO,zb3],?_⟩
     rw [show seO none (q:Int)=.agg [.sl (([]:List Nd).flatMap nC) 0,i64 0,bl true] from rfl]
     refine aQ54 ?_
     exact zaO (zb3 [] 0 true []) rfl
    | some x =>
     obtain⟨l,e⟩:=x
     have hb:=hbd l e hvq
     rw [List.length_drop] at hb
     rw [hvq] at hV hkl
     dsimp only at hkl
     rw [hkl,Option.map_map] at h6
     refine hV.pure (by simp [renL,zag,zam]) ?_
     rintro _ σ rfl
     refine⟨by simp [AEnd.noid,seO,zb3],?_⟩
     rw [show seO (some (l,e)) (q:Int)=.agg [.sl (l.flatMap nC) l.length,i64 ((q:Int)+(e:Int)),bl false] from rfl]
     refine aQ54 ?_
     refine zcJ rfl rfl T22 T22 T51 (l:=⟨4,0,[],(k:Int)⟩::acc) (ys:=l) (m:=l.length) rfl (by simp) (zfR _ _) rfl (by omega) ?_
     rw [show ((⟨4,0,[],(k:Int)⟩::acc:List Nd)++l).flatMap nC=i64 4::i64 0::str []::i64 k::(acc++l).flatMap nC from rfl]
     simp -implicitDefEqProofs only [LM3,LB25,eq_self,zan,zat,lzS,zah,zjs,zjt,zas,TB,SB,Nat.reduceMul,Int.reduceToNat,Nat.reduceAdd,Nat.reduceEqDiff,Nat.reduceLT,Nat.reduceMod,Nat.reducePow,Nat.reduceSub,if_true,reduceIte]
     refine⟨by omega,by omega,?_⟩
     skip
     refine⟨by unfold inI;omega,by omega,by omega,?_⟩
     refine aQ54 ?_
     refine⟨by simp,?_⟩
     rw [zap]
     refine⟨(g,q+e,k+1,last,acc++l),⟨by dsimp only;omega,by dsimp only;omega,by dsimp only;omega,by dsimp only;rw [List.length_append];omega,by dsimp only;rw [List.length_append];omega,?_⟩,(by show s.length - (q+e) < s.length - q;omega),?_⟩
     ·dsimp only
      rw [h6,List.drop_drop]
      cases zbY (valP f) false g (k+1) last (s.drop (q+e)) with
      | none=>rfl
      | some y =>
       simp only [Option.map_some,Function.comp_apply,List.append_assoc,Option.some.injEq,Prod.mk.injEq,true_and]
       omega
     ·refine zak (q:=[0,3]) rfl rfl (by decide) ?_ ?_
      ·refine aQ24 ?_
       exact⟨.inr (by omega),by rw [List.length_append];omega⟩
      ·refine aQ24 ?_
       unfold kRow
       exact aQ55 trivial
  ·have cq:decide ((q:Int) < (s.length:Int))=false:=decide_eq_false (by omega)
   try simp -implicitDefEqProofs only [LM3,LB25,eq_self,zan,zat,lzS,zah,zjs,zjt,zas,cq,TB,SB,Int.reduceToNat,Nat.reduceAdd,Nat.reduceEqDiff,Nat.reduceLT,Nat.reduceMod,Nat.reducePow,Nat.reduceSub,if_true,reduceIte]
   refine⟨fun _=>?_,fun h=>absurd (show (s.length:Int)≤q by omega) h⟩
   rw [List.drop_of_length_le (show s.length≤q by omega),kidsP_out] at h6
   rw [h6]
   exact zcn (l:=[]) [] (.inr ⟨rfl,rfl⟩) rfl
end Go.Proofs.YtcahoelfogjljaaGreatDoor
end

section
namespace Go.Proofs.YtcahoelfogjljaaGreatDoor
open Go Go.Eng
set_option linter.defProp false in
def LB26:=And.intro @zjs (And.intro @zjt (@ld_t1))
set_option linter.defProp false in
def LM8:=And.intro LM3 (And.intro LB25 (LB26))
theorem leB_geq (t last:List UInt8):leB t last=!Op.bytesLess last t:=by
 rw [leB,Go.Proofs.bytesLess_eq,Go.Proofs.bytesLess_eq]
 rcases Std.lt_trichotomy t last with h | h | h
 ·rw [decide_eq_true h,decide_eq_false (fun h2=>List.lt_irrefl _ (List.lt_trans h h2))]
  rfl
 ·subst h
  rw [decide_eq_true rfl,decide_eq_false (List.lt_irrefl _)]
  rfl
 ·rw [decide_eq_false (fun h2=>List.lt_irrefl _ (List.lt_trans h h2)),decide_eq_true h,decide_eq_false (fun h2=>by subst h2;exact List.lt_irrefl _ h)]
  rfl
theorem kidsP_M {V:List UInt8→Option (List Nd × Nat)} {g c:Nat} {last r:List UInt8} {b:UInt8} (h:b≠0):zbY V true (g+1) c last (b::r)=if b=1 then match rdT r with
    | none=>none
    | some x=>if 0 < c∧leB x.1 last=true then none else match V (r.drop x.2) with
     | none=>none
     | some y=>(zbY V true g (c+1) x.1 (r.drop (x.2+y.2))).map fun z=>(⟨3,0,x.1,0⟩::(y.1++z.1),z.2.1+1,1+x.2+y.2+z.2.2)
   else none:=by
 rw [zbY,if_neg h,if_pos rfl]
 by_cases h1:b=1
 ·rw [if_pos h1,if_pos h1]
  cases rdT r with
  | none=>rfl
  | some x =>
   dsimp only
   split
   ·rfl
   ·cases V (r.drop x.2) <;> rfl
 ·rw [if_neg h1,if_neg h1]
set_option maxRecDepth 20000 in
set_option maxHeartbeats 8000000 in
theorem rv_map (s:List UInt8) (hs:s.length≤1000) (f p d:Nat) (hlt:p < s.length) (hf:s.length - p≤f+1) (hd:d+(s.length - p)≤3000) (hm:(s.getD p 0).toNat=6)
  (ih:∀ p d:Nat,p≤s.length→s.length - p≤f→d+(s.length - p)≤3000→ACalls Tryz.prog 80 [str s,i64 p,i64 d] [] (fun y _=>y=.ret (seO (valP f (s.drop p)) p))) :
  ACalls Tryz.prog 80 [str s,i64 p,i64 d] [] (fun y _=>y=.ret (seO (valP (f+1) (s.drop p)) p)):=by
 have e1:(UInt8.ofNat 1).toNat=1:=rfl
 have e6:(UInt8.ofNat 6).toNat=6:=rfl
 have hc:=zbd hlt
 have c:decide ((s.length:Int)≤(p:Int))=false:=decide_eq_false (by omega)
 have c3:decide (3000 < (d:Int))=false:=decide_eq_false (by omega)
 have d1:decide ((s.getD p 0).toNat < (UInt8.ofNat 1).toNat)=false:=decide_eq_false (by omega)
 have d6:decide ((UInt8.ofNat 6).toNat < (s.getD p 0).toNat)=false:=decide_eq_false (by omega)
 have hk:((s.getD p 0).toNat:Int) - 1=5:=by omega
 have hv:valP (f+1) (s.drop p)=(zbY (valP f) true f 0 [] (s.drop (p+1))).map fun x=>(⟨5,0,[],(x.2.1:Int)⟩::x.1,1+x.2.2):=by
  rw [hc,zcT,zcU,if_pos (by omega),hk]
  rfl
 rw [hv]
 refine ACalls.body T_ok Tryz.func80 (by kernel_rfl) rfl Tryz.ntmps80 (congrArg Array.toList Tryz.results80) ?_
 try simp -implicitDefEqProofs only [LM8,eq_self,zan,zat,lzS,zah,zas,c,c3,d1,d6,TB,SB,Int.reduceToNat,Nat.reduceAdd,Nat.reduceEqDiff,Nat.reduceLT,Nat.reduceMod,Nat.reducePow,Nat.reduceSub,if_true,reduceIte]
 refine⟨by omega,by omega,?_⟩
 try simp -implicitDefEqProofs only [LM8,eq_self,zan,zat,lzS,zah,zas,c,c3,d1,d6,TB,SB,Int.reduceToNat,Nat.reduceAdd,Nat.reduceEqDiff,Nat.reduceLT,Nat.reduceMod,Nat.reducePow,Nat.reduceSub,if_true,reduceIte]
 refine⟨by omega,by omega,?_⟩
 try simp -implicitDefEqProofs only [LM8,eq_self,zan,zat,lzS,zah,zas,c,c3,d1,d6,TB,SB,Int.reduceToNat,Nat.reduceAdd,Nat.reduceEqDiff,Nat.reduceLT,Nat.reduceMod,Nat.reducePow,Nat.reduceSub,if_true,reduceIte]
 refine⟨by omega,by omega,?_⟩
 rw [hk]
 try simp -implicitDefEqProofs only [LM8,eq_self,zan,zat,lzS,zah,zas,c,c3,d1,d6,TB,SB,Int.reduceToNat,Nat.reduceAdd,Nat.reduceEqDiff,Nat.reduceLT,Nat.reduceMod,Nat.reducePow,Nat.reduceSub,if_true,reduceIte]
 refine⟨by unfold inI;omega,by unfold inI;omega,fun h=>absurd h (by decide),fun _=>?_⟩
 refine aQ56 ?_
 refine⟨fun h=>absurd h (by decide),fun _=>?_⟩
 refine aQ56 ?_
 refine⟨fun h=>absurd h (by decide),fun _=>?_⟩
 refine aQ56 ?_
 refine⟨fun h=>absurd h (by decide),fun _=>?_⟩
 refine aQ56 ?_
 rw [zbj]
 refine⟨Nat × Nat × Nat × List UInt8 × List Nd,totP f true s p,fun x=>[str s,i64 x.2.1,i64 d,.bot,.bot,.bot,.ptr 0 0,i64 5,.ref 1 0 (x.2.2.2.2.length+1) 4,str x.2.2.2.1,.bot,.bot,.bot,.bot,.bot,.bot,.bot,.bot,.bot,.bot,.bot,.bot,.bot,.bot,.bot,.bot,.bot,.bot,.bot,.bot,.bot,.bot,.bot,.bot,.bot,.bot,.bot,.bot,.bot,.bot,.bot,.bot,.bot,.bot,.bot,.bot,.bot,.bot,.bot,.bot,.bot,.bot,.bot,.bot,.bot,.bot,.bot,.bot,.bot,.bot,.bot,.bot,.bot,.bot,.bot,.bot,.bot,.bot,.bot,.bot,.bot,.bot,.bot,.bot,.bot,.bot,.bot,.bot,.bot,.bot,.bot,.bot,.bot,.bot,.bot,.bot,.bot,.bot,.bot,.bot,.bot,.bot,.bot,.bot,.bot,.bot,.bot,.bot,.bot,.bot,.bot,.bot,.bot,.bot,.bot,.bot,.bot,.bot,.bot,.bot,.bot,.bot,.bot,.bot,.bot,.bot,.bot,.bot,.bot,.bot,.bot,.bot,.bot,.bot,.bot,.bot,.bot,.bot,.bot,.bot,.bot,.bot,.bot,.bot,.bot,.bot,.bot,.bot,.bot,.bot,.bot,.bot,.bot,.bot,.bot,.bot,.bot,.bot,.bot,.bot,.bot,.bot,.bot,.bot,.bot,.bot,.bot,.bot,.bot,.bot,.bot,.bot,.bot,.bot,.bot,.bot,.bot,.bot,.bot,.bot,.bot,.bot,.bot,.bot,.bot,.bot,.bot,.bot,.bot,.bot,.bot],fun x=>[.rw [.lit (.slice none 0 0),i64 0,bl false],.rw (kRow 5 x.2.2.1 x.2.2.2.2)],fun x=>s.length - x.2.1,(f,p+1,0,[],[]),⟨by dsimp only;omega,by dsimp only;omega,by dsimp only;omega,by simp,by simp,?_⟩,zak (q:=[0,1]) rfl rfl (by decide) ?_ ?_,?_⟩
 ·dsimp only
  cases zbY (valP f) true f 0 [] (s.drop (p+1)) with
  | none=>rfl
  | some y=>simp
 ·refine aQ24 ?_
  exact .inr (by omega)
 ·refine aQ24 ?_
  have hb:Blk.rw (kRow 5 ((0:Nat):Int) [])=Blk.rw (List.flatMap nC [⟨5,0,[],0⟩]):=rfl
  rw [hb]
  simp [zal,zaD,renL,zam,zad,AV.ren,zac,zao,zag]
 ·rintro⟨g,q,k,last,acc⟩ ⟨h1,h2,h3,h4,h5,h6⟩
  dsimp only at h1 h2 h3 h4 h5 h6 ⊢
  by_cases hql:q < s.length
  ·have cq:decide ((q:Int) < (s.length:Int))=true:=decide_eq_true (by omega)
   by_cases h0:s.getD q 0=0
   ·have cz:decide (s.getD q 0=UInt8.ofNat 0)=true:=decide_eq_true h0
    try simp -implicitDefEqProofs only [LM8,eq_self,zan,zat,lzS,zah,zas,cq,cz,TB,SB,Int.reduceToNat,Nat.reduceAdd,Nat.reduceEqDiff,Nat.reduceLT,Nat.reduceMod,Nat.reducePow,Nat.reduceSub,if_true,reduceIte]
    refine⟨by omega,by omega,fun h=>absurd h (by omega),fun _=>⟨by unfold inI;omega,?_⟩⟩
    obtain⟨g,rfl⟩:∃ g',g=g'+1:=⟨g - 1,by omega⟩
    rw [zbd hql,h0,kidsP_end] at h6
    rw [h6,Option.map_some,Option.map_some,ze7]
    dsimp only
    rw [Nat.add_zero,List.append_nil,show (q:Int)+1=(p:Int)+((1+(q - (p+1)+1):Nat):Int) by omega]
    exact zcn (l:=⟨5,0,[],k⟩::acc) [1] (ndF.frz (zd4 rfl) rfl) rfl
   ·have cz:decide (s.getD q 0=UInt8.ofNat 0)=false:=decide_eq_false h0
    try simp -implicitDefEqProofs only [LM8,eq_self,zan,zat,lzS,zah,zas,cq,cz,TB,SB,Int.reduceToNat,Nat.reduceAdd,Nat.reduceEqDiff,Nat.reduceLT,Nat.reduceMod,Nat.reducePow,Nat.reduceSub,if_true,reduceIte]
    refine⟨by omega,by omega,by unfold inI;omega,?_⟩
    rw [show ((q:Int)+1)=((q+1:Nat):Int) by omega]
    obtain⟨g,rfl⟩:∃ g',g=g'+1:=⟨g - 1,by omega⟩
    have hdq:=zbd hql
    have hkl:=kidsP_M (V:=valP f) (g:=g) (c:=k) (last:=last) (r:=s.drop (q+1)) h0
    rw [← hdq] at hkl
    have hT:=zju s (q+1) (by omega) (by omega)
    have hle:=zh3 (s.drop (q+1)).length (s.drop (q+1)) (Nat.le_refl _)
    cases hr:rdT (s.drop (q+1)) with
    | none =>
     rw [hr] at hT hkl
     dsimp only at hkl
     rw [ite_self] at hkl
     rw [hkl] at h6
     rw [h6]
     refine hT.pure (by simp [renL,zag,zam]) ?_
     rintro _ σ rfl
     refine⟨by simp [AEnd.noid,seR,zb3],?_⟩
     rw [show seR none ((q+1:Nat):Int)=.agg [.sl (([]:List Nd).flatMap nC) 0,i64 0,bl true] from rfl]
     by_cases hb1:s.getD q 0=1
     ·have cb:decide (s.getD q 0=UInt8.ofNat 1)=true:=decide_eq_true hb1
      try simp -implicitDefEqProofs only [LM8,eq_self,zan,zat,lzS,zah,zas,cb,TB,SB,Int.reduceToNat,Nat.reduceAdd,Nat.reduceEqDiff,Nat.reduceLT,Nat.reduceMod,Nat.reducePow,Nat.reduceSub,if_true,reduceIte]
      refine⟨by omega,by omega,?_⟩
      exact zcn (l:=[]) [] (.inr ⟨rfl,rfl⟩) rfl
     ·have cb:decide (s.getD q 0=UInt8.ofNat 1)=false:=decide_eq_false hb1
      try simp -implicitDefEqProofs only [LM8,eq_self,zan,zat,lzS,zah,zas,cb,TB,SB,Int.reduceToNat,Nat.reduceAdd,Nat.reduceEqDiff,Nat.reduceLT,Nat.reduceMod,Nat.reducePow,Nat.reduceSub,if_true,reduceIte]
      refine⟨by omega,by omega,?_⟩
      exact zcn (l:=[]) [] (.inr ⟨rfl,rfl⟩) rfl
    | some x =>
     obtain⟨t,m⟩:=x
     have hx:=hle (t,m) hr
     rw [List.length_drop] at hx
     dsimp only at hx
     rw [hr] at hT hkl
     dsimp only at hkl
     refine hT.pure (by simp [renL,zag,zam]) ?_
     rintro _ σ rfl
     refine⟨by simp [AEnd.noid,seR,zb3],?_⟩
     rw [show seR (some (t,m)) ((q+1:Nat):Int)=.agg [.sl (([⟨3,0,t,0⟩]:List Nd).flatMap nC) 1,i64 (((q+1:Nat):Int)+(m:Int)),bl false] from rfl]
     by_cases hb1:s.getD q 0=1
     rotate_left
     ·have cb:decide (s.getD q 0=UInt8.ofNat 1)=false:=decide_eq_false hb1
      rw [if_neg hb1] at hkl
      rw [hkl] at h6
      rw [h6]
      try simp -implicitDefEqProofs only [LM8,eq_self,zan,zat,lzS,zah,zas,cb,TB,SB,Int.reduceToNat,Nat.reduceAdd,Nat.reduceEqDiff,Nat.reduceLT,Nat.reduceMod,Nat.reducePow,Nat.reduceSub,if_true,reduceIte]
      refine⟨by omega,by omega,?_⟩
      exact zcn (l:=[]) [] (.inr ⟨rfl,rfl⟩) rfl
     have cb:decide (s.getD q 0=UInt8.ofNat 1)=true:=decide_eq_true hb1
     rw [if_pos hb1,leB_geq] at hkl
     by_cases hk0:0 < k
     ·have ck:decide (0 < (k:Int))=true:=decide_eq_true (by omega)
      rw [show kRow 5 (k:Int) acc=i64 5::i64 0::str []::i64 k::acc.flatMap nC from rfl]
      try simp -implicitDefEqProofs only [LM8,eq_self,zan,zat,lzS,zah,zas,cb,ck,TB,SB,Nat.reduceMul,Int.reduceToNat,Nat.reduceAdd,Nat.reduceEqDiff,Nat.reduceLT,Nat.reduceMod,Nat.reducePow,Nat.reduceSub,if_true,reduceIte]
      cases hB:Op.bytesLess last t with
      | false =>
       rw [hB,if_pos ⟨hk0,rfl⟩] at hkl
       rw [hkl] at h6
       rw [h6]
       refine aQ56 ?_
       refine⟨by omega,by omega,by omega,by omega,by omega,by omega,by omega,?_⟩
       exact zcn (l:=[]) [] (.inr ⟨rfl,rfl⟩) rfl
      | true =>
      rw [hB,if_neg (fun h=>by cases h.2)] at hkl
      refine aQ56 ?_
      refine⟨by omega,by omega,by omega,by omega,by omega,by omega,by omega,by omega,by omega,by omega,?_⟩
      refine zcJ rfl rfl T22 T22 T51 (l:=⟨5,0,[],(k:Int)⟩::acc) (ys:=[⟨3,0,t,0⟩]) (m:=1) rfl (by simp) (zfR _ [⟨3,0,t,0⟩]) rfl (by omega) ?_
      rw [show ((⟨5,0,[],(k:Int)⟩::acc:List Nd)++([⟨3,0,t,0⟩]:List Nd)).flatMap nC=i64 5::i64 0::str []::i64 k::(acc++([⟨3,0,t,0⟩]:List Nd)).flatMap nC from rfl]
      refine aQ56 ?_
      refine⟨by unfold inI;omega,?_⟩
      rw [show ((d:Int)+1)=((d+1:Nat):Int) by omega,show (((q+1:Nat):Int)+(m:Int))=((q+1+m:Nat):Int) by omega]
      have hV:=ih (q+1+m) (d+1) (by omega) (by omega) (by omega)
      have hbd:=zeN f (s.drop (q+1+m))
      rw [List.drop_drop] at hkl
      cases hvq:valP f (s.drop (q+1+m)) with
      | none =>
       rw [hvq] at hV hkl
       dsimp only at hkl
       rw [hkl] at h6
       rw [h6]
       refine hV.pure (by simp [renL,zag,zam]) ?_
       rintro _ σ rfl
       refine⟨by simp [AEnd.noid,seO,zb3],?_⟩
       rw [show seO none ((q+1+m:Nat):Int)=.agg [.sl (([]:List Nd).flatMap nC) 0,i64 0,bl true] from rfl]
       refine aQ56 ?_
       exact zaO (zb3 [] 0 true []) rfl
      | some z =>
       obtain⟨l,e⟩:=z
       have hb:=hbd l e hvq
       rw [List.length_drop] at hb
       rw [hvq] at hV hkl
       dsimp only at hkl
       rw [hkl,Option.map_map] at h6
       refine hV.pure (by simp [renL,zag,zam]) ?_
       rintro _ σ rfl
       refine⟨by simp [AEnd.noid,seO,zb3],?_⟩
       rw [show seO (some (l,e)) ((q+1+m:Nat):Int)=.agg [.sl (l.flatMap nC) l.length,i64 (((q+1+m:Nat):Int)+(e:Int)),bl false] from rfl]
       refine aQ56 ?_
       refine zcJ rfl rfl T22 T22 T51 (l:=⟨5,0,[],(k:Int)⟩::(acc++[⟨3,0,t,0⟩])) (ys:=l) (m:=l.length) rfl (by simp) (zfR _ _) rfl (by omega) ?_
       rw [show ((⟨5,0,[],(k:Int)⟩::(acc++[⟨3,0,t,0⟩]):List Nd)++l).flatMap nC=i64 5::i64 0::str []::i64 k::(acc++([⟨3,0,t,0⟩]:List Nd)++l).flatMap nC from rfl]
       simp -implicitDefEqProofs only [LM8,eq_self,zan,zat,lzS,zah,zas,TB,SB,Nat.reduceMul,Int.reduceToNat,Nat.reduceAdd,Nat.reduceEqDiff,Nat.reduceLT,Nat.reduceMod,Nat.reducePow,Nat.reduceSub,if_true,reduceIte]
       refine⟨by omega,by omega,?_⟩
       skip
       refine⟨by unfold inI;omega,by omega,by omega,?_⟩
       refine aQ56 ?_
       refine⟨by simp,?_⟩
       rw [zap]
       refine⟨(g,q+1+m+e,k+1,t,acc++[⟨3,0,t,0⟩]++l),⟨by dsimp only;omega,by dsimp only;omega,by dsimp only;omega,by dsimp only;simp only [List.length_append,List.length_cons,List.length_nil];omega,by dsimp only;simp only [List.length_append,List.length_cons,List.length_nil];omega,?_⟩,(by show s.length - (q+1+m+e) < s.length - q;omega),?_⟩
       ·dsimp only
        rw [h6,List.drop_drop,show q+1+(m+e)=q+1+m+e by omega]
        cases zbY (valP f) true g (k+1) t (s.drop (q+1+m+e)) with
        | none=>rfl
        | some y =>
         refine aQ57 ?_
         omega
       ·refine zak (q:=[0,5]) rfl rfl (by decide) ?_ ?_
        ·refine aQ24 ?_
         exact⟨.inr (by omega),by simp only [List.length_append,List.length_cons,List.length_nil];omega⟩
        ·refine aQ24 ?_
         unfold kRow
         exact aQ55 trivial
     ·have ck:decide (0 < (k:Int))=false:=decide_eq_false (by omega)
      rw [show kRow 5 (k:Int) acc=i64 5::i64 0::str []::i64 k::acc.flatMap nC from rfl]
      rw [if_neg (fun h=>hk0 h.1)] at hkl
      try simp -implicitDefEqProofs only [LM8,eq_self,zan,zat,lzS,zah,zas,cb,ck,TB,SB,Nat.reduceMul,Int.reduceToNat,Nat.reduceAdd,Nat.reduceEqDiff,Nat.reduceLT,Nat.reduceMod,Nat.reducePow,Nat.reduceSub,if_true,reduceIte]
      refine⟨by omega,by omega,by omega,by omega,by omega,by omega,by omega,?_⟩
      refine zcJ rfl rfl T22 T22 T51 (l:=⟨5,0,[],(k:Int)⟩::acc) (ys:=[⟨3,0,t,0⟩]) (m:=1) rfl (by simp) (zfR _ [⟨3,0,t,0⟩]) rfl (by omega) ?_
      rw [show ((⟨5,0,[],(k:Int)⟩::acc:List Nd)++([⟨3,0,t,0⟩]:List Nd)).flatMap nC=i64 5::i64 0::str []::i64 k::(acc++([⟨3,0,t,0⟩]:List Nd)).flatMap nC from rfl]
      refine aQ56 ?_
      refine⟨by unfold inI;omega,?_⟩
      rw [show ((d:Int)+1)=((d+1:Nat):Int) by omega,show (((q+1:Nat):Int)+(m:Int))=((q+1+m:Nat):Int) by omega]
      have hV:=ih (q+1+m) (d+1) (by omega) (by omega) (by omega)
      have hbd:=zeN f (s.drop (q+1+m))
      rw [List.drop_drop] at hkl
      cases hvq:valP f (s.drop (q+1+m)) with
      | none =>
       rw [hvq] at hV hkl
       dsimp only at hkl
       rw [hkl] at h6
       rw [h6]
       refine hV.pure (by simp [renL,zag,zam]) ?_
       rintro _ σ rfl
       refine⟨by simp [AEnd.noid,seO,zb3],?_⟩
       rw [show seO none ((q+1+m:Nat):Int)=.agg [.sl (([]:List Nd).flatMap nC) 0,i64 0,bl true] from rfl]
       refine aQ56 ?_
       exact zaO (zb3 [] 0 true []) rfl
      | some z =>
       obtain⟨l,e⟩:=z
       have hb:=hbd l e hvq
       rw [List.length_drop] at hb
       rw [hvq] at hV hkl
       dsimp only at hkl
       rw [hkl,Option.map_map] at h6
       refine hV.pure (by simp [renL,zag,zam]) ?_
       rintro _ σ rfl
       refine⟨by simp [AEnd.noid,seO,zb3],?_⟩
       rw [show seO (some (l,e)) ((q+1+m:Nat):Int)=.agg [.sl (l.flatMap nC) l.length,i64 (((q+1+m:Nat):Int)+(e:Int)),bl false] from rfl]
       refine aQ56 ?_
       refine zcJ rfl rfl T22 T22 T51 (l:=⟨5,0,[],(k:Int)⟩::(acc++[⟨3,0,t,0⟩])) (ys:=l) (m:=l.length) rfl (by simp) (zfR _ _) rfl (by omega) ?_
       rw [show ((⟨5,0,[],(k:Int)⟩::(acc++[⟨3,0,t,0⟩]):List Nd)++l).flatMap nC=i64 5::i64 0::str []::i64 k::(acc++([⟨3,0,t,0⟩]:List Nd)++l).flatMap nC from rfl]
       simp -implicitDefEqProofs only [LM8,eq_self,zan,zat,lzS,zah,zas,TB,SB,Nat.reduceMul,Int.reduceToNat,Nat.reduceAdd,Nat.reduceEqDiff,Nat.reduceLT,Nat.reduceMod,Nat.reducePow,Nat.reduceSub,if_true,reduceIte]
       refine⟨by omega,by omega,?_⟩
       skip
       refine⟨by unfold inI;omega,by omega,by omega,?_⟩
       refine aQ56 ?_
       refine⟨by simp,?_⟩
       rw [zap]
       refine⟨(g,q+1+m+e,k+1,t,acc++[⟨3,0,t,0⟩]++l),⟨by dsimp only;omega,by dsimp only;omega,by dsimp only;omega,by dsimp only;simp only [List.length_append,List.length_cons,List.length_nil];omega,by dsimp only;simp only [List.length_append,List.length_cons,List.length_nil];omega,?_⟩,(by show s.length - (q+1+m+e) < s.length - q;omega),?_⟩
       ·dsimp only
        rw [h6,List.drop_drop,show q+1+(m+e)=q+1+m+e by omega]
        cases zbY (valP f) true g (k+1) t (s.drop (q+1+m+e)) with
        | none=>rfl
        | some y =>
         refine aQ57 ?_
         omega
       ·refine zak (q:=[0,5]) rfl rfl (by decide) ?_ ?_
        ·refine aQ24 ?_
         exact⟨.inr (by omega),by simp only [List.length_append,List.length_cons,List.length_nil];omega⟩
        ·refine aQ24 ?_
         unfold kRow
         exact aQ55 trivial
  ·have cq:decide ((q:Int) < (s.length:Int))=false:=decide_eq_false (by omega)
   try simp -implicitDefEqProofs only [LM8,eq_self,zan,zat,lzS,zah,zas,cq,TB,SB,Int.reduceToNat,Nat.reduceAdd,Nat.reduceEqDiff,Nat.reduceLT,Nat.reduceMod,Nat.reducePow,Nat.reduceSub,if_true,reduceIte]
   refine⟨fun _=>?_,fun h=>absurd (show (s.length:Int)≤q by omega) h⟩
   rw [List.drop_of_length_le (show s.length≤q by omega),kidsP_out] at h6
   rw [h6]
   exact zcn (l:=[]) [] (.inr ⟨rfl,rfl⟩) rfl
end Go.Proofs.YtcahoelfogjljaaGreatDoor
end

