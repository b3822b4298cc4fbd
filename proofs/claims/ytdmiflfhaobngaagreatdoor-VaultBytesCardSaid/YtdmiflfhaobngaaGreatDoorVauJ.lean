/-
  The document's own bytes of batches. No condition.
-/
import Derived.Test.YtdmiflfhaobngaaGreatDoorVauI
set_option linter.unusedSimpArgs false
set_option linter.unusedVariables false
set_option linter.unusedSectionVars false
section
namespace Go.Proofs.YtdmiflfhaobngaaGreatDoor
open Go Go.Eng
def seA (l:List Nd) (n:Int) (b:Bool):AV:=.agg [slN l,i64 n,bl b]
theorem ndF:RowF nC 4:=⟨fun _=>rfl,fun _=>all_n,fun q n=>by simp [nC,renL,zaj,zae]⟩
section
variable {σ : zag} {K : AV → Prop} {KS : AV → zag → Prop} {id : Nat}
theorem zjh (e:TypeId):al1 T e (some tySe) σ KS=KS (.ptr σ.length 0) (σ++[.rw [.lit (.slice none 0 0),i64 0,bl false]]):=rfl
theorem zhs (i j n m:Nat) (k:Int):zaQ T 141 [(0,.ref i j n m),(1,i64 k)] K=K (.agg [.ref i j n m,i64 k,bl false]):=by
 simp [zaQ,T141,T3,T4,T126,tySe,zbs,zaK,zb8,zb1,cells_ref,one_ref,zbc,zbB,tySl,zfs]
 rfl
theorem zht (b:Bool):zaQ T 141 [(2,bl b)] K=K (.agg [.lit (.slice none 0 0),i64 0,bl b]):=by
 simp [zaQ,T141,T3,T4,T126,tySe,zbs,zaK,cells_bl',one_bl',zbc,zbB,tySl,zfs]
 rfl
theorem zhu (p q r:AV) (i j n m:Nat) (a:Int) (b:Bool):st2 (some tySe) (some (.rw [p,q,r])) id 0 (.agg [.ref i j n m,i64 a,bl b]) σ KS=KS (.lit undef) (σ.set id (.rw [.ref i j n m,i64 a,bl b])):=szW rfl rfl rfl id
theorem zhv (p q r:AV) (a:Int) (b:Bool):st2 (some tySe) (some (.rw [p,q,r])) id 0 (.agg [.lit (.slice none 0 0),i64 a,bl b]) σ KS=KS (.lit undef) (σ.set id (.rw [.lit (.slice none 0 0),i64 a,bl b])):=szW rfl rfl rfl id
theorem zhw (p q r:AV) (c:List AV) (n:Nat) (a:Int) (b:Bool):st2 (some tySe) (some (.rw [p,q,r])) id 0 (.agg [.sl c n,i64 a,bl b]) σ KS=KS (.lit undef) (σ.set id (.rw [.sl c n,i64 a,bl b])):=szW rfl rfl rfl id
theorem zji (a b c:AV):ld2 (some tySe) (some [a,b,c]) 0 K=K (.agg [a,b,c]):=lzW rfl rfl
theorem zhx (o:Nat):zap T 141 (.ptr id o) 0 K=K (.ptr id (o+0)):=fzP T141 rfl rfl T126 (by decide) id o
theorem zhy (o:Nat):zap T 141 (.ptr id o) 1 K=K (.ptr id (o+1)):=fzP T141 rfl rfl T3 (by decide) id o
theorem zhz (o:Nat):zap T 141 (.ptr id o) 2 K=K (.ptr id (o+2)):=fzP T141 rfl rfl T4 (by decide) id o
theorem lz_b (a:AV) (r:List AV):ld2 (some zfs) (some (a::r)) 0 K=K a:=lz0 rfl rfl a r
theorem zhA (n:Nd):bs2 (some tyNd) 1 [(0,nA n)] σ KS=KS (.ref σ.length 0 1 4) (σ++[.rw (nC n)]):=by
 simp [bs2,tyNd,zbs,zb4,AV.cells,zbc,List.range_succ,List.replicate,zad,zb1,nC,nA]
end
theorem seA_ren (l:List Nd) (n:Int) (b:Bool) (q:List Nat):(seA l n b).ren q=some (seA l n b):=by
 simp [seA,slN,AV.ren,renL,zaj,zax,za6]
theorem end_Se {σ:zag} {x:AV} {k:Int} {b:Bool} {l:List Nd} {K:AV→zag→Prop} (ids:List Nat) (h1:frzA (zch σ ids) x (slN l)) (h:K (seA l k b) []):endQ 0 (.agg [x,i64 k,bl b]) σ K :=
 zce ids (seA l k b) ⟨_,rfl,_,_,rfl,h1,_,_,rfl,.inl rfl,_,_,rfl,.inl rfl,rfl⟩ ⟨[],_,[],rfl,rfl,by decide,seA_ren _ _ _ _,trivial,h⟩
theorem take_drop1' {s:List UInt8} {k:Nat} (h:k < s.length):(s.take (k+1)).drop k=[s.getD k 0]:=by
 rw [List.take_succ_eq_append_getElem h,List.drop_append,List.length_take,show k - min k s.length=0 by omega,List.drop_of_length_le (by rw [List.length_take];omega)]
 simp [h]
def seR:Option (List UInt8 × Nat)→Int→AV
 | none,_=>seA [] 0 true
 | some x,at'=>seA [⟨3,0,x.1,0⟩] (at'+x.2) false
theorem zgc {s:List UInt8} {k:Nat} (h:k < s.length):s.drop k=s.getD k 0::s.drop (k+1):=by
 rw [List.drop_eq_getElem_cons h]
 simp [h]
set_option maxHeartbeats 1000000 in
theorem rtext_ok (s:List UInt8) (at':Nat) (hs:s.length≤1000000000) (ha:at'≤s.length):ACalls Tryz.prog 87 [str s,i64 at'] [] (fun y _=>y=.ret (seR (rdT (s.drop at')) at')):=by
 refine ACalls.body T_ok Tryz.func87 (by kernel_rfl) rfl Tryz.ntmps87 (congrArg Array.toList Tryz.results87) ?_
 try simp -implicitDefEqProofs only [LM7,LB29,LB30,eq_self,zab (h:=T68),zad,zac,zaa,zah,zjh,zhs,zht,zhu,zhv,zhw,zji,zhx,zhy,zhz,lz_b,zhA,zai T135,TB,SB,Int.reduceToNat,Nat.reduceAdd,Nat.reduceEqDiff,Nat.reduceLT,Nat.reduceMod,Nat.reducePow,Nat.reduceSub,if_true,reduceIte]
 rw [za9]
 refine⟨Nat × List UInt8,fun x=>at'≤x.1∧x.1≤s.length∧x.2.length≤x.1∧rdT (s.drop at')=(rdT (s.drop x.1)).map fun y=>(x.2++y.1,(x.1 - at')+y.2),fun x=>[str s,i64 x.1,.bot,.bot,.ptr 0 0,str x.2,.bot,.bot,.bot,.bot,.bot,.bot,.bot,.bot,.bot,.bot,.bot,.bot,.bot,.bot,.bot,.bot,.bot,.bot,.bot,.bot,.bot,.bot,.bot,.bot,.bot,.bot,.bot,.bot,.bot,.bot,.bot,.bot,.bot,.bot,.bot,.bot,.bot,.bot,.bot,.bot,.bot,.bot,.bot,.bot,.bot,.bot,.bot,.bot,.bot,.bot],fun x=>[.rw [.lit (.slice none 0 0),i64 0,bl false]],fun x=>s.length - x.1,(at',[]),⟨Nat.le_refl _,ha,by simp,by simp⟩,zal (q:=[0]) rfl rfl (by decide) ?_ ?_,?_⟩
 ·try simp only [FB,AV.ren,Nat.reduceAdd,reduceCtorEq]
 ·try simp only [FB,AV.ren,Nat.reduceAdd,reduceCtorEq]
  simp [zao,zbm,renL,zaj,zax,AV.ren]
 ·rintro⟨k,o⟩ ⟨h1,h2,h3,h4⟩
  dsimp only at h1 h2 h3 h4 ⊢
  try simp -implicitDefEqProofs only [LM7,LB29,LB30,eq_self,zab (h:=T68),zad,zac,zaa,zah,zjh,zhs,zht,zhu,zhv,zhw,zji,zhx,zhy,zhz,lz_b,zhA,zai T135,TB,SB,Int.reduceToNat,Nat.reduceAdd,Nat.reduceEqDiff,Nat.reduceLT,Nat.reduceMod,Nat.reducePow,Nat.reduceSub,if_true,reduceIte]
  refine⟨by unfold inI;omega,fun hlt=>?_,fun hge=>?_⟩
  ·have e1:=zgc (s:=s) (k:=k) (by omega)
   have e2:=zgc (s:=s) (k:=k+1) (by omega)
   rw [e1,e2] at h4
   refine⟨by omega,by omega,?_⟩
   have ek:((k:Int)+1).toNat=k+1:=by omega
   have tk:(s.take (k+1)).drop k=[s.getD k 0]:=take_drop1' (by omega)
   by_cases h0:s.getD k 0=0
   ·have d0:decide (s.getD k 0=UInt8.ofNat 0)=true:=decide_eq_true h0
    try simp -implicitDefEqProofs only [LM7,LB29,LB30,eq_self,zab (h:=T68),zad,zac,zaa,zah,zjh,zhs,zht,zhu,zhv,zhw,zji,zhx,zhy,zhz,lz_b,zhA,zai T135,d0,TB,SB,Int.reduceToNat,Nat.reduceAdd,Nat.reduceEqDiff,Nat.reduceLT,Nat.reduceMod,Nat.reducePow,Nat.reduceSub,if_true,reduceIte]
    rw [ek]
    refine⟨by unfold inI;omega,by omega,by omega,fun h5=>?_,fun h5=>?_⟩
    ·try simp -implicitDefEqProofs only [LM7,LB29,LB30,eq_self,zab (h:=T68),zad,zac,zaa,zah,zjh,zhs,zht,zhu,zhv,zhw,zji,zhx,zhy,zhz,lz_b,zhA,zai T135,TB,SB,Int.reduceToNat,Nat.reduceAdd,Nat.reduceEqDiff,Nat.reduceLT,Nat.reduceMod,Nat.reducePow,Nat.reduceSub,if_true,reduceIte]
     refine⟨by unfold inI;omega,?_⟩
     rw [h0,show s.getD (k+1) 0=0 from h5,rdT_00] at h4
     rw [h4]
     refine end_Se (l:=[⟨3,0,o,0⟩]) [1] (ndF.frz (zf9 rfl) rfl) ?_
     simp only [seR,Option.map_some,List.append_nil]
     rw [show ((at':Int)+((k - at'+2:Nat):Int))=(k:Int)+2 by omega]
    ·try simp -implicitDefEqProofs only [LM7,LB29,LB30,eq_self,zab (h:=T68),zad,zac,zaa,zah,zjh,zhs,zht,zhu,zhv,zhw,zji,zhx,zhy,zhz,lz_b,zhA,zai T135,d0,TB,SB,Int.reduceToNat,Nat.reduceAdd,Nat.reduceEqDiff,Nat.reduceLT,Nat.reduceMod,Nat.reducePow,Nat.reduceSub,if_true,reduceIte]
     rw [tk]
     rw [h0] at h4
     refine⟨by omega,by omega,by unfold inI;omega,by omega,by omega,fun h6=>?_,fun h6=>?_⟩
     ·rw [rdT_0x h5 h6] at h4
      rw [h4]
      exact end_Se (l:=[]) [] (.inr ⟨rfl,rfl⟩) rfl
     ·rw [show s.getD (k+1) 0=255 from h6,zi5,Option.map_map] at h4
      refine⟨by unfold inI;omega,by omega,by omega,by omega,by simp;omega,by omega,by omega,by unfold inI;omega,by unfold inI;omega,?_⟩
      rw [zan]
      refine⟨(k+2,o++[s.getD k 0]),⟨by omega,by omega,by simp;omega,?_⟩,(by show s.length - (k+2) < s.length - k;omega),zal (q:=[0]) rfl rfl (by decide) ?_ ?_⟩
      ·rw [h4,h0]
       cases rdT (s.drop (k+1+1)) with
       | none=>rfl
       | some y=>simp;omega
      ·try simp only [FB,AV.ren,Nat.reduceAdd,reduceCtorEq]
       exact .inr (by omega)
      ·try simp only [FB,AV.ren,Nat.reduceAdd,reduceCtorEq]
       simp [zao,zbm,renL,zaj,zax,AV.ren]
   ·have d0:decide (s.getD k 0=UInt8.ofNat 0)=false:=decide_eq_false h0
    try simp -implicitDefEqProofs only [LM7,LB29,LB30,eq_self,zab (h:=T68),zad,zac,zaa,zah,zjh,zhs,zht,zhu,zhv,zhw,zji,zhx,zhy,zhz,lz_b,zhA,zai T135,d0,TB,SB,Int.reduceToNat,Nat.reduceAdd,Nat.reduceEqDiff,Nat.reduceLT,Nat.reduceMod,Nat.reducePow,Nat.reduceSub,if_true,reduceIte]
    rw [ek,tk]
    refine⟨by omega,by omega,by unfold inI;omega,by omega,by omega,by omega,by simp;omega,by omega,by omega,by unfold inI;omega,?_⟩
    rw [zan]
    rw [rdT_1 h0,← e2,Option.map_map] at h4
    refine⟨(k+1,o++[s.getD k 0]),⟨by omega,by omega,by simp;omega,?_⟩,(by show s.length - (k+1) < s.length - k;omega),zal (q:=[0]) rfl rfl (by decide) ?_ ?_⟩
    ·rw [h4]
     cases rdT (s.drop (k+1)) with
     | none=>rfl
     | some y=>simp;omega
    ·try simp only [FB,AV.ren,Nat.reduceAdd,reduceCtorEq]
     exact .inr (by omega)
    ·try simp only [FB,AV.ren,Nat.reduceAdd,reduceCtorEq]
     simp [zao,zbm,renL,zaj,zax,AV.ren]
  ·have e:rdT (s.drop k)=none:=by
    rcases Nat.lt_or_ge k s.length with h | h
    ·rw [zgc h,List.drop_of_length_le (by omega)]
     rfl
    ·rw [List.drop_of_length_le h]
     rfl
   rw [e] at h4
   rw [h4]
   exact end_Se (l:=[]) [] (.inr ⟨rfl,rfl⟩) rfl
end Go.Proofs.YtdmiflfhaobngaaGreatDoor
end

section
namespace Go.Proofs.YtdmiflfhaobngaaGreatDoor
open Go Go.Eng
set_option linter.defProp false in
def LB31:=And.intro @zjh (And.intro @zhs (And.intro @zht (And.intro @zhu (And.intro @zhv (And.intro @zhw (And.intro @zji (And.intro @zhx (And.intro @zhy (And.intro @zhz (And.intro @lz_b (@zhA)))))))))))
set_option linter.defProp false in
def LM0:=And.intro LB8 (And.intro LB9 (And.intro LB10 (And.intro LB11 (And.intro LB12 (And.intro LB13 (And.intro LB17 (And.intro LB19 (And.intro LB20 (And.intro LB21 (And.intro LB22 (And.intro LB24 (And.intro LB25 (And.intro LB26 (And.intro LB27 (And.intro LB28 (And.intro LB29 (And.intro LB30 (LB31))))))))))))))))))
theorem ziH:∀ (n:Nat) (s:List UInt8),s.length≤n→∀ x,rdT s=some x→1≤x.2∧x.2≤s.length∧x.1.length≤s.length
 | 0,s,h,x,hx=>by
  obtain rfl:s=[]:=List.eq_nil_of_length_eq_zero (by omega)
  cases hx
 | n+1,s,h,x,hx=>by
  match s,h,hx with
  | [],_,hx=>cases hx
  | c::r,h,hx =>
   simp only [List.length_cons] at h
   by_cases hc:c=0
   ·subst hc
    match r,h,hx with
    | [],_,hx=>cases hx
    | b::r,h,hx =>
     simp only [List.length_cons] at h
     by_cases h0:b=0
     ·subst h0
      rw [rdT_00] at hx
      cases hx
      simp
     ·by_cases h1:b=255
      ·subst h1
       rw [zi5] at hx
       cases hr:rdT r with
       | none=>rw [hr] at hx;cases hx
       | some y =>
        rw [hr] at hx
        cases hx
        obtain⟨h1,h2,h3⟩:=ziH n r (by omega) y hr
        simp only [List.length_cons]
        omega
      ·rw [rdT_0x h0 h1] at hx
       cases hx
   ·rw [rdT_1 hc] at hx
    cases hr:rdT r with
    | none=>rw [hr] at hx;cases hx
    | some y =>
     rw [hr] at hx
     cases hx
     obtain⟨h1,h2,h3⟩:=ziH n r (by omega) y hr
     simp only [List.length_cons]
     omega
theorem splitF_step {c:UInt8} {r:List UInt8}:zbx (c::r).length (c::r)=if c=4 then (match rdT r with
  | none=>none
  | some x=>(zbx (r.drop x.2).length (r.drop x.2)).map (x.1::·)) else none:=by
 rw [List.length_cons,zbx,if_neg (by simp)]
 have c4:c=4 ↔ c.toNat=4:=by rw [← UInt8.toNat_inj];rfl
 by_cases h4:c.toNat=4
 ·rw [if_pos (c4.2 h4)]
  have hn:nodR (c::r) 0=(rdT r).map fun x=>(⟨3,0,x.1,0⟩,0+1+x.2):=by
   rw [nodR,List.drop_zero]
   simp only [h4]
   simp
  rw [hn]
  cases hr:rdT r with
  | none=>rfl
  | some x =>
   have hle:=ziH r.length r (Nat.le_refl _) x hr
   simp only [Option.map_some,if_true]
   rw [show 0+1+x.2=x.2+1 by omega,List.drop_succ_cons]
   rw [zfL r.length (r.drop x.2).length (r.drop x.2) (by rw [List.length_drop];omega) (Nat.le_refl _)]
 ·rw [if_neg (fun h=>h4 (c4.1 h))]
  cases hn:nodR (c::r) 0 with
  | none=>rfl
  | some z =>
   obtain⟨n,e⟩:=z
   have h3:n.kind≠3:=by
    rw [nodR,List.drop_zero] at hn
    simp only [if_neg h4] at hn
    split at hn
    ·rename_i h1
     cases hn
     rcases h1 with h1 | h1 | h1 <;> rw [h1] <;> decide
    ·split at hn
     ·split at hn
      ·cases hn
      ·split at hn
       ·cases hn;show (1:Int)≠3;decide
       ·cases hn
     ·split at hn
      ·split at hn
       ·cases hn
       ·cases hn;show (2:Int)≠3;decide
      ·cases hn
   dsimp only
   rw [if_neg h3]
theorem zgH {K:AV→Prop} (n:Nd):ld2 (some tyStr) (some (List.drop 2 (List.flatMap nC [n]))) 0 K=K (str n.text):=by simp [ld2,wfin,tyStr,TD.agg,nC]
set_option maxHeartbeats 1000000 in
theorem rSplit_ok (s:List UInt8) (hs:s.length≤1000000000):ACalls Tryz.prog 53 [str s] [] (fun y _=>y=.ret (.tup [slS (zaN s).1,i64 (zaN s).2])):=by
 refine ACalls.body T_ok Tryz.func53 (by kernel_rfl) rfl Tryz.ntmps53 (congrArg Array.toList Tryz.results53) ?_
 try simp -implicitDefEqProofs only [LM0,eq_self,zab (h:=T68),zad,zac,zaa,zah,zai T135,zgH,TB,SB,Int.reduceToNat,Nat.reduceAdd,Nat.reduceEqDiff,Nat.reduceLT,Nat.reduceMod,Nat.reducePow,Nat.reduceSub,if_true,reduceIte]
 rw [za9]
 refine⟨List (List UInt8) × Nat,fun x=>x.2≤s.length∧x.1.length≤x.2∧zbx s.length s=(zbx (s.drop x.2).length (s.drop x.2)).map (x.1++·),fun x=>[str s,.bot,.lit (.slice none 0 0),i64 0,accA x.1,i64 x.2,.bot,.bot,.bot,.bot,.bot,.bot,.bot,.bot,.bot,.bot,.bot,.bot,.bot,.bot,.bot,.bot,.bot,.bot,.bot,.bot,.bot,.bot,.bot,.bot,.bot,.bot,.bot,.bot],fun x=>accS x.1,fun x=>s.length - x.2,([],0),⟨by simp,by simp,by rw [List.drop_zero];cases zbx s.length s <;> simp⟩,?_,?_⟩
 ·refine zal (q:=[]) rfl rfl (by decide) ?_ ?_
  ·try simp only [FB,AV.ren,Nat.reduceAdd,reduceCtorEq]
   simp [accA,nilS,AV.ren]
  ·try simp only [FB,AV.ren,Nat.reduceAdd,reduceCtorEq]
   simp [accS,zao]
 ·rintro⟨acc,p⟩ ⟨hp,hlen,heq⟩
  dsimp only at hp hlen heq ⊢
  try simp -implicitDefEqProofs only [LM0,eq_self,zab (h:=T68),zad,zac,zaa,zah,zai T135,zgH,TB,SB,Int.reduceToNat,Nat.reduceAdd,Nat.reduceEqDiff,Nat.reduceLT,Nat.reduceMod,Nat.reducePow,Nat.reduceSub,if_true,reduceIte]
  refine⟨fun hlt=>?_,fun hge=>?_⟩
  ·have e1:=zgc (s:=s) (k:=p) (by omega)
   rw [e1,splitF_step] at heq
   have ht:=rtext_ok s (p+1) hs (by omega)
   cases hr:rdT (s.drop (p+1)) with
   | none =>
    rw [hr] at ht heq
    have hx:zbx s.length s=none:=by rw [heq];split <;> rfl
    have e2:zaN s=([],5):=by rw [zaN,hx]
    rw [show (((p+1:Nat)):Int)=(p:Int)+1 from rfl] at ht
    simp only [seR,seA,slN,List.flatMap_nil,List.length_nil] at ht
    cases acc
    all_goals simp only [zez,zdD,zeA,zdE]
    all_goals
     refine⟨by unfold inI;omega,?_⟩
     refine(ht).pure (by simp [LB4,LB5,renL,AV.ren,zaf u32 zaB,zaf u64 zaA,zaf i64 zaj,zaf str zae]) ?_
     rintro _ σ rfl
     refine⟨by simp [LB4,LB5,AEnd.noid,renL,AV.ren,zaf u32 zaB,zaf u64 zaA,zaf i64 zaj,zaf str zae],?_⟩
     try simp -implicitDefEqProofs only [LM0,eq_self,zab (h:=T68),zad,zac,zaa,zah,zai T135,zgH,TB,SB,Int.reduceToNat,Nat.reduceAdd,Nat.reduceEqDiff,Nat.reduceLT,Nat.reduceMod,Nat.reducePow,Nat.reduceSub,if_true,reduceIte]
     refine⟨by omega,by omega,?_⟩
     by_cases h4:s.getD p 0=4
     ·have d4:decide (s.getD p 0=UInt8.ofNat 4)=true:=decide_eq_true h4
      try simp -implicitDefEqProofs only [LM0,eq_self,zab (h:=T68),zad,zac,zaa,zah,zai T135,zgH,d4,TB,SB,Int.reduceToNat,Nat.reduceAdd,Nat.reduceEqDiff,Nat.reduceLT,Nat.reduceMod,Nat.reducePow,Nat.reduceSub,if_true,reduceIte]
      exact zdl (by rw [e2])
     ·have d4:decide (s.getD p 0=UInt8.ofNat 4)=false:=decide_eq_false h4
      try simp -implicitDefEqProofs only [LM0,eq_self,zab (h:=T68),zad,zac,zaa,zah,zai T135,zgH,d4,TB,SB,Int.reduceToNat,Nat.reduceAdd,Nat.reduceEqDiff,Nat.reduceLT,Nat.reduceMod,Nat.reducePow,Nat.reduceSub,if_true,reduceIte]
      exact zdl (by rw [e2])
   | some x =>
    rw [hr] at ht heq
    rw [show (((p+1:Nat)):Int)=(p:Int)+1 from rfl] at ht
    simp only [seR,seA,slN] at ht
    obtain⟨x1,x2,_⟩:=ziH _ (s.drop (p+1)) (Nat.le_refl _) x hr
    rw [List.length_drop] at x2
    cases acc
    all_goals simp only [zez,zdD,zeA,zdE]
    all_goals
     refine⟨by unfold inI;omega,?_⟩
     refine ht.pure (by simp [renL,zae,zaj]) ?_
     rintro _ σ rfl
     refine⟨by simp [AEnd.noid,AV.ren,renL,za6,zis,zaj,zax],?_⟩
     try simp -implicitDefEqProofs only [LM0,eq_self,zab (h:=T68),zad,zac,zaa,zah,zai T135,zgH,TB,SB,Int.reduceToNat,Nat.reduceAdd,Nat.reduceEqDiff,Nat.reduceLT,Nat.reduceMod,Nat.reducePow,Nat.reduceSub,if_true,reduceIte]
     refine⟨by omega,by omega,?_⟩
     by_cases h4:s.getD p 0=4
     rotate_left
     ·have d4:decide (s.getD p 0=UInt8.ofNat 4)=false:=decide_eq_false h4
      rw [if_neg h4] at heq
      have e2:zaN s=([],5):=by rw [zaN,heq];rfl
      try simp -implicitDefEqProofs only [LM0,eq_self,zab (h:=T68),zad,zac,zaa,zah,zai T135,zgH,d4,TB,SB,Int.reduceToNat,Nat.reduceAdd,Nat.reduceEqDiff,Nat.reduceLT,Nat.reduceMod,Nat.reducePow,Nat.reduceSub,if_true,reduceIte]
      exact zdl (by rw [e2])
     have d4:decide (s.getD p 0=UInt8.ofNat 4)=true:=decide_eq_true h4
     rw [if_pos h4] at heq
     try simp -implicitDefEqProofs only [LM0,eq_self,zab (h:=T68),zad,zac,zaa,zah,zai T135,zgH,d4,TB,SB,Int.reduceToNat,Nat.reduceAdd,Nat.reduceEqDiff,Nat.reduceLT,Nat.reduceMod,Nat.reducePow,Nat.reduceSub,if_true,reduceIte]
     refine⟨by omega,by omega,by omega,?_⟩
     have hdd:(s.drop (p+1)).drop x.2=s.drop (p+1+x.2):=by rw [List.drop_drop]
     dsimp only at heq
     rw [hdd] at heq
    ·refine zfK str zad rfl rfl T68 T68 (zdz _) T9 zcN (ys:=[x.1]) (m:=1) (zfi (l:=[x.1]) rfl rfl) (by omega) (by simp only [tyStr];omega) ?_
     try simp -implicitDefEqProofs only [LM0,eq_self,zab (h:=T68),zad,zac,zaa,zah,zai T135,zgH,TB,SB,Int.reduceToNat,Nat.reduceAdd,Nat.reduceEqDiff,Nat.reduceLT,Nat.reduceMod,Nat.reducePow,Nat.reduceSub,if_true,reduceIte]
     rw [zan]
     refine⟨([x.1],p+1+x.2),⟨by omega,by simp;omega,?_⟩,(by show s.length - (p+1+x.2) < s.length - p;omega),zal (q:=[2]) rfl rfl (by decide) ?_ ?_⟩
     ·rw [heq]
      cases zbx (s.drop (p+1+x.2)).length (s.drop (p+1+x.2)) <;> rfl
     ·try simp only [FB,AV.ren,Nat.reduceAdd,reduceCtorEq]
      simp [accA,AV.ren]
     ·try simp only [FB,AV.ren,Nat.reduceAdd,reduceCtorEq]
      simp [accS,zao,Blk.ren,renL,zae]
    ·rename_i a acc
     refine zb7 str zad rfl rfl T68 T68 (zdz _) T9 zcN (l:=a::acc) (ys:=[x.1]) (m:=1) rfl rfl (zfi (l:=[x.1]) rfl rfl) (by simp only [List.length_cons] at hlen ⊢;omega) (by simp only [tyStr];simp only [List.length_cons] at hlen ⊢;omega) ?_
     try simp -implicitDefEqProofs only [LM0,eq_self,zab (h:=T68),zad,zac,zaa,zah,zai T135,zgH,TB,SB,Int.reduceToNat,Nat.reduceAdd,Nat.reduceEqDiff,Nat.reduceLT,Nat.reduceMod,Nat.reducePow,Nat.reduceSub,if_true,reduceIte]
     rw [zan]
     refine⟨(a::acc++[x.1],p+1+x.2),⟨by omega,by simp at hlen ⊢;omega,?_⟩,(by show s.length - (p+1+x.2) < s.length - p;omega),zal (q:=[3]) rfl rfl (by decide) ?_ ?_⟩
     ·rw [heq]
      cases zbx (s.drop (p+1+x.2)).length (s.drop (p+1+x.2)) <;> simp
     ·try simp only [FB,AV.ren,Nat.reduceAdd,reduceCtorEq]
      simp [accA,AV.ren]
     ·try simp only [FB,AV.ren,Nat.reduceAdd,reduceCtorEq]
      refine⟨.inr ⟨.rw ((a::acc++[x.1]).map str),?_,rfl⟩,trivial⟩
      show (Blk.rw ((a::acc++[x.1]).map str)).ren [3]=_
      rw [zbm,zaf str zae]
      rfl
  ·have hk:s.drop p=[]:=List.drop_of_length_le (by omega)
   have e2:zaN s=(acc,0):=by rw [zaN,heq,hk,List.length_nil,zcX];simp
   cases acc with
   | nil =>
    simp only [zez,zeA]
    try simp -implicitDefEqProofs only [LM0,eq_self,zab (h:=T68),zad,zac,zaa,zah,zai T135,zgH,TB,SB,Int.reduceToNat,Nat.reduceAdd,Nat.reduceEqDiff,Nat.reduceLT,Nat.reduceMod,Nat.reducePow,Nat.reduceSub,if_true,reduceIte]
    exact zdl (by rw [e2])
   | cons a acc =>
    simp only [zdD,zdE]
    try simp -implicitDefEqProofs only [LM0,eq_self,zab (h:=T68),zad,zac,zaa,zah,zai T135,zgH,TB,SB,Int.reduceToNat,Nat.reduceAdd,Nat.reduceEqDiff,Nat.reduceLT,Nat.reduceMod,Nat.reducePow,Nat.reduceSub,if_true,reduceIte]
    exact end_refE (l:=a::acc) rfl (by rw [e2])
end Go.Proofs.YtdmiflfhaobngaaGreatDoor
end

section
namespace Go.Proofs.YtdmiflfhaobngaaGreatDoor
open Go Go.Eng
def byteI (n:Int):UInt8:=UInt8.ofBitVec (BitVec.ofInt 8 n)
theorem zgM (n:Int):ACalls Tryz.prog 83 [i64 n] [] (fun y _=>y=.ret (str [byteI n])):=by
 refine ACalls.body T_ok Tryz.func83 (by kernel_rfl) rfl Tryz.ntmps83 (congrArg Array.toList Tryz.results83) ?_
 try simp -implicitDefEqProofs only [LM0,eq_self,zab (h:=T68),zad,zac,zaa,zah,zai T135,TB,SB,Int.reduceToNat,Nat.reduceAdd,Nat.reduceEqDiff,Nat.reduceLT,Nat.reduceMod,Nat.reducePow,Nat.reduceSub,if_true,reduceIte]
 exact zcO rfl
theorem take_drop1 {s:List UInt8} {k:Nat} (h:k < s.length):(s.take (k+1)).drop k=[s.getD k 0]:=by
 rw [List.take_succ_eq_append_getElem h,List.drop_append,List.length_take,show k - min k s.length=0 by omega,List.drop_of_length_le (by rw [List.length_take];omega)]
 simp [h]
theorem esc_take {s:List UInt8} {k:Nat} (h:k < s.length):esc (s.take (k+1))=esc (s.take k)++(if s.getD k 0=0 then [0,255] else [s.getD k 0]):=by
 rw [List.take_succ_eq_append_getElem h,esc_append]
 simp [esc,h]
theorem rText_ok (s:List UInt8) (hs:s.length≤1000000000):ACalls Tryz.prog 84 [str s] [] (fun y _=>y=.ret (str (escT s))):=by
 refine ACalls.body T_ok Tryz.func84 (by kernel_rfl) rfl Tryz.ntmps84 (congrArg Array.toList Tryz.results84) ?_
 try simp -implicitDefEqProofs only [LM0,eq_self,zab (h:=T68),zad,zac,zaa,zah,zai T135,TB,SB,Int.reduceToNat,Nat.reduceAdd,Nat.reduceEqDiff,Nat.reduceLT,Nat.reduceMod,Nat.reducePow,Nat.reduceSub,if_true,reduceIte]
 rw [za9]
 refine⟨Nat,fun k=>k≤s.length,fun k=>[str s,.bot,.bot,str (esc (s.take k)),i64 k,.bot,.bot,.bot,.bot,.bot,.bot,.bot,.bot,.bot,.bot,.bot,.bot,.bot,.bot,.bot,.bot,.bot,.bot,.bot,.bot,.bot,.bot,.bot,.bot,.bot],fun _=>[],fun k=>s.length - k,0,Nat.zero_le _,zal (q:=[]) rfl rfl (by decide) ?_ ?_,?_⟩
 ·try simp only [FB,AV.ren,Nat.reduceAdd,reduceCtorEq]
  simp [esc]
 ·try simp only [FB,AV.ren,Nat.reduceAdd,reduceCtorEq]
 ·intro k hk
  have hl:=esc_le (s.take k)
  rw [List.length_take] at hl
  try simp -implicitDefEqProofs only [LM0,eq_self,zab (h:=T68),zad,zac,zaa,zah,zai T135,TB,SB,Int.reduceToNat,Nat.reduceAdd,Nat.reduceEqDiff,Nat.reduceLT,Nat.reduceMod,Nat.reducePow,Nat.reduceSub,if_true,reduceIte]
  refine⟨fun hlt=>?_,fun hge=>?_⟩
  ·have hk2:k < s.length:=by omega
   have e:=esc_take hk2
   have e2:(s.take ((k:Int)+1).toNat).drop k=[s.getD k 0]:=by
    rw [show ((k:Int)+1).toNat=k+1 by omega,take_drop1 hk2]
   repeat (with_reducible refine zaW ?_)
   rw [e2]
   refine⟨fun h0=>?_,fun h0=>?_⟩
   ·rw [if_pos (show s.getD k 0=0 from h0)] at e
    refine(zgM 255).pure (by first | rfl | simp [renL,AV.ren,zaw,zaf str zae,zaL,zaB,zaA,zaj,zax,zae]) ?_
    rintro _ σ rfl
    refine⟨by first | rfl | simp [AEnd.noid,AV.ren,renL,zaw,zaf str zae,zaL,zaB,zaA,zaj,zax,zae],?_⟩
    try simp -implicitDefEqProofs only [LM0,eq_self,zab (h:=T68),zad,zac,zaa,zah,zai T135,TB,SB,Int.reduceToNat,Nat.reduceAdd,Nat.reduceEqDiff,Nat.reduceLT,Nat.reduceMod,Nat.reducePow,Nat.reduceSub,if_true,reduceIte]
    repeat (with_reducible refine zaW ?_)
    rw [zan]
    refine⟨k+1,by omega,by omega,zal (q:=[]) rfl rfl (by decide) ?_ ?_⟩
    ·try simp only [FB,AV.ren,Nat.reduceAdd,reduceCtorEq]
     exact⟨.inr (by rw [e,show s.getD k 0=0 from h0,List.append_assoc];rfl),.inr (by omega)⟩
    ·try simp only [FB,AV.ren,Nat.reduceAdd,reduceCtorEq]
   ·rw [if_neg (show ¬ s.getD k 0=0 from h0)] at e
    repeat (with_reducible refine zaW ?_)
    rw [zan]
    refine⟨k+1,by omega,by omega,zal (q:=[]) rfl rfl (by decide) ?_ ?_⟩
    ·try simp only [FB,AV.ren,Nat.reduceAdd,reduceCtorEq]
     exact⟨.inr e,.inr (by omega)⟩
    ·try simp only [FB,AV.ren,Nat.reduceAdd,reduceCtorEq]
  ·obtain rfl:k=s.length:=by omega
   try simp -implicitDefEqProofs only [LM0,eq_self,zab (h:=T68),zad,zac,zaa,zah,zai T135,TB,SB,Int.reduceToNat,Nat.reduceAdd,Nat.reduceEqDiff,Nat.reduceLT,Nat.reduceMod,Nat.reducePow,Nat.reduceSub,if_true,reduceIte]
   refine(zgM 0).pure (by first | rfl | simp [renL,AV.ren,zaw,zaf str zae,zaL,zaB,zaA,zaj,zax,zae]) ?_
   rintro _ σ rfl
   refine⟨by first | rfl | simp [AEnd.noid,AV.ren,renL,zaw,zaf str zae,zaL,zaB,zaA,zaj,zax,zae],?_⟩
   try simp -implicitDefEqProofs only [LM0,eq_self,zab (h:=T68),zad,zac,zaa,zah,zai T135,TB,SB,Int.reduceToNat,Nat.reduceAdd,Nat.reduceEqDiff,Nat.reduceLT,Nat.reduceMod,Nat.reducePow,Nat.reduceSub,if_true,reduceIte]
   repeat (with_reducible refine zaW ?_)
   refine(zgM 0).pure (by first | rfl | simp [renL,AV.ren,zaw,zaf str zae,zaL,zaB,zaA,zaj,zax,zae]) ?_
   rintro _ σ rfl
   refine⟨by first | rfl | simp [AEnd.noid,AV.ren,renL,zaw,zaf str zae,zaL,zaB,zaA,zaj,zax,zae],?_⟩
   try simp -implicitDefEqProofs only [LM0,eq_self,zab (h:=T68),zad,zac,zaa,zah,zai T135,TB,SB,Int.reduceToNat,Nat.reduceAdd,Nat.reduceEqDiff,Nat.reduceLT,Nat.reduceMod,Nat.reducePow,Nat.reduceSub,if_true,reduceIte]
   repeat (with_reducible refine zaW ?_)
   rw [List.take_length]
   exact zcO (by simp [escT];rfl)
theorem rJoin_ok (l:List (List UInt8)) (hl:l.length≤1000000) (hs:∀ s∈l,s.length≤1000000000) (hb:(zbk l).length≤140737488355328):ACalls Tryz.prog 49 [.sl (l.map str) l.length] [] (fun y _=>y=.ret (str (zbk l))):=by
 refine ACalls.body T_ok Tryz.func49 (by kernel_rfl) rfl Tryz.ntmps49 (congrArg Array.toList Tryz.results49) ?_
 try simp -implicitDefEqProofs only [LM0,eq_self,zab (h:=T68),zad,zac,zaa,zah,zai T135,TB,SB,Int.reduceToNat,Nat.reduceAdd,Nat.reduceEqDiff,Nat.reduceLT,Nat.reduceMod,Nat.reducePow,Nat.reduceSub,if_true,reduceIte]
 rw [za9]
 refine⟨Nat,fun k=>k≤l.length,fun k=>[.sl (l.map str) l.length,.bot,.bot,str (zbk (l.take k)),i64 k,.bot,.bot,.bot,.bot,.bot,.bot,.bot,.bot,.bot,.bot,.bot,.bot,.bot,.bot,.bot,.bot],fun _=>[],fun k=>l.length - k,0,Nat.zero_le _,zal (q:=[]) rfl rfl (by decide) ?_ ?_,?_⟩
 ·try simp only [FB,AV.ren,Nat.reduceAdd,reduceCtorEq]
  simp [zaf str zae,zbk]
 ·try simp only [FB,AV.ren,Nat.reduceAdd,reduceCtorEq]
 ·intro k hk
  try simp -implicitDefEqProofs only [LM0,eq_self,zab (h:=T68),zad,zac,zaa,zah,zai T135,TB,SB,Int.reduceToNat,Nat.reduceAdd,Nat.reduceEqDiff,Nat.reduceLT,Nat.reduceMod,Nat.reducePow,Nat.reduceSub,if_true,reduceIte]
  refine⟨fun hlt=>?_,fun hge=>?_⟩
  ·have hk2:k < l.length:=by omega
   have e:=zgq l k hk2
   have h1:=zit l (k+1)
   rw [e] at h1
   simp only [List.length_append,List.length_cons,List.length_nil] at h1
   have h2:(l.getD k []).length≤1000000000:=hs _ (by
    rw [List.getD_eq_getElem?_getD,List.getElem?_eq_getElem hk2]
    exact List.getElem_mem _)
   refine zcb (by kernel_rfl) (by kernel_rfl) ?_
   refine zbt (zgM 4) (by first | rfl | simp [renL,AV.ren,zaw,zaf str zae,zaL,zaB,zaA,zaj,zax,zae]) (by first | rfl | simp [AEnd.noid,AV.ren,renL,zaw,zaL,zaB,zaA,zaj,zax,zae]) ?_
   try simp -implicitDefEqProofs only [LM0,eq_self,zab (h:=T68),zad,zac,zaa,zah,zai T135,TB,SB,Int.reduceToNat,Nat.reduceAdd,Nat.reduceEqDiff,Nat.reduceLT,Nat.reduceMod,Nat.reducePow,Nat.reduceSub,if_true,reduceIte]
   refine⟨by simp;omega,by omega,by omega,by omega,?_⟩
   refine zbt (rText_ok _ h2) (by first | rfl | simp [renL,AV.ren,zaw,zaf str zae,zaL,zaB,zaA,zaj,zax,zae]) (by first | rfl | simp [AEnd.noid,AV.ren,renL,zaw,zaL,zaB,zaA,zaj,zax,zae]) ?_
   try simp -implicitDefEqProofs only [LM0,eq_self,zab (h:=T68),zad,zac,zaa,zah,zai T135,TB,SB,Int.reduceToNat,Nat.reduceAdd,Nat.reduceEqDiff,Nat.reduceLT,Nat.reduceMod,Nat.reducePow,Nat.reduceSub,if_true,reduceIte]
   refine⟨by simp only [List.length_append,List.length_cons,List.length_nil];omega,by unfold inI;omega,?_⟩
   rw [zan]
   refine⟨k+1,by omega,by omega,zal (q:=[]) rfl rfl (by decide) ?_ ?_⟩
   ·try simp only [FB,AV.ren,Nat.reduceAdd,reduceCtorEq]
    exact⟨by simp [zaf str zae],.inr e,.inr (by omega)⟩
   ·try simp only [FB,AV.ren,Nat.reduceAdd,reduceCtorEq]
  ·obtain rfl:k=l.length:=by omega
   try simp -implicitDefEqProofs only [LM0,eq_self,zab (h:=T68),zad,zac,zaa,zah,zai T135,TB,SB,Int.reduceToNat,Nat.reduceAdd,Nat.reduceEqDiff,Nat.reduceLT,Nat.reduceMod,Nat.reducePow,Nat.reduceSub,if_true,reduceIte]
   rw [List.take_length]
   exact zcO rfl
end Go.Proofs.YtdmiflfhaobngaaGreatDoor
end

section
namespace Go.Proofs.YtdmiflfhaobngaaGreatDoor
open Go Go.Eng
theorem bs_s3 (a b c:List UInt8) (σ:zag) (KS:AV→zag→Prop):bs2 (some tyStr) 3 [(0,str a),(1,str b),(2,str c)] σ KS=KS (.ref σ.length 0 3 1) (σ++[.rw ([a,b,c].map str)]):=by
 simp [bs2,tyStr,zbs,zb4,AV.cells,zbc,List.range_succ,List.replicate,str,AV.one,Value.oneCell']
theorem big1 (x:BitVec 64):bigL x 1=[UInt8.ofBitVec (x.setWidth 8)]:=by
 simp [bigL,lowL,zb9,List.range_succ]
theorem sw8 (e:Int):(BitVec.ofInt 64 e).setWidth 8=BitVec.ofInt 8 e:=by
 apply BitVec.eq_of_toNat_eq
 rw [BitVec.toNat_setWidth,BitVec.toNat_ofInt,BitVec.toNat_ofInt]
 simp only [Nat.reducePow]
 omega
theorem mayO_iff (o:Vo):mayO o=true ↔ 0≤o.kind∧o.kind≤3∧1≤(o.label.length:Int)∧(o.label.length:Int)≤64∧(o.box.length:Int)≤8192∧(o.kind.tmod 2=1→o.box=[]):=by
 unfold mayO
 by_cases h1:o.kind < 0∨4≤o.kind∨ze1 o.label=false
 ·rw [if_pos h1]
  simp only [Bool.false_eq_true,false_iff]
  rintro⟨a,b,c,d,_,_⟩
  rcases h1 with h | h | h
  ·omega
  ·omega
  ·rw [ze1,decide_eq_true c,decide_eq_true d] at h
   cases h
 ·rw [if_neg h1]
  have hk:0≤o.kind∧o.kind≤3:=by omega
  have hl:ze1 o.label=true:=by
   cases h:ze1 o.label with
   | true=>rfl
   | false=>exact absurd (.inr (.inr h)) h1
  simp only [ze1,Bool.and_eq_true,decide_eq_true_eq] at hl
  have hm:o.kind.tmod 2=1 ↔ o.kind=1∨o.kind=3:=by
   rw [Int.tmod_eq_emod_of_nonneg hk.1]
   omega
  by_cases h2:o.kind=1∨o.kind=3
  ·rw [if_pos h2,decide_eq_true_eq]
   constructor
   ·intro h
    exact⟨hk.1,hk.2,hl.1,hl.2,by rw [h];simp,fun _=>h⟩
   ·rintro⟨_,_,_,_,_,h⟩
    exact h (hm.2 h2)
  ·rw [if_neg h2,decide_eq_true_eq]
   constructor
   ·intro h
    exact⟨hk.1,hk.2,hl.1,hl.2,h,fun h3=>absurd (hm.1 h3) h2⟩
   ·rintro⟨_,_,_,_,h,_⟩
    exact h
theorem zfO {K:AV→Prop} (l:List Vo):ld2 (some tyVo) (some (l.flatMap voC)) 0 K=(0 < l.length∧K (.agg (voC (l.getD 0 v0)))):=by have:=ld_V (K:=K) l 0;rwa [List.drop_zero] at this
def txA:Nat→AV
 | 0=>.lit (.slice none 0 0)
 | a+1=>.ref 0 0 (3 * (a+1)) 1
def txS (l:List Vo):Nat→zag
 | 0=>[]
 | a+1=>[.rw ((opsT (l.take (a+1))).map str)]
theorem txA_0:txA 0=.lit (.slice none 0 0):=rfl
theorem txA_1 (a:Nat):txA (a+1)=.ref 0 0 (3 * (a+1)) 1:=rfl
theorem txS_0 (l:List Vo):txS l 0=[]:=rfl
theorem txS_1 (l:List Vo) (a:Nat):txS l (a+1)=[.rw ((opsT (l.take (a+1))).map str)]:=rfl
set_option maxRecDepth 20000 in
set_option maxHeartbeats 4000000 in
theorem rputV_ok (l:List Vo):ACalls Tryz.prog 24 [.sl (l.flatMap voC) l.length] [] (fun y _=>y=.ret (.tup [str (putV l).1,i64 (putV l).2])):=by
 have hbad:¬ zbf l=true→putV l=([],1):=fun h=>by rw [putV,if_neg h]
 have hgood:zbf l=true→putV l=(zbk (opsT l),0):=fun h=>by rw [putV,if_pos h]
 generalize putV l=X at hbad hgood ⊢
 have hno:∀ σ:zag,¬ zbf l=true→endQ 0 (.tup [str [],i64 1]) σ (fun y _=>AEnd.ret y=.ret (.tup [str X.1,i64 X.2])):=fun σ h=>zbd (by simp [AV.ren,renL,zaj,zae]) (by rw [hbad h])
 have hB:zbf l=true→1≤(l.length:Int)∧(l.length:Int)≤400∧∀ o∈l,mayO o=true:=fun h=>by
  simpa only [zbf,Bool.and_eq_true,decide_eq_true_eq,List.all_eq_true] using h
 refine ACalls.body T_ok Tryz.func24 (by kernel_rfl) rfl Tryz.ntmps24 (congrArg Array.toList Tryz.results24) ?_
 by_cases c0:(l.length:Int) < 1
 ·have d0:=decide_eq_true c0
  try simp -implicitDefEqProofs only [LM0,eq_self,zab (h:=T68),zad,zac,zaa,zah,zai T135,d0,TB,SB,Int.reduceToNat,Nat.reduceAdd,Nat.reduceEqDiff,Nat.reduceLT,Nat.reduceMod,Nat.reducePow,Nat.reduceSub,if_true,reduceIte]
  exact hno _ fun h=>by have:=hB h;omega
 have d0:=decide_eq_false c0
 by_cases c1:400 < (l.length:Int)
 ·have d1:=decide_eq_true c1
  try simp -implicitDefEqProofs only [LM0,eq_self,zab (h:=T68),zad,zac,zaa,zah,zai T135,d0,d1,TB,SB,Int.reduceToNat,Nat.reduceAdd,Nat.reduceEqDiff,Nat.reduceLT,Nat.reduceMod,Nat.reducePow,Nat.reduceSub,if_true,reduceIte]
  exact hno _ fun h=>by have:=hB h;omega
 have d1:=decide_eq_false c1
 try simp -implicitDefEqProofs only [LM0,eq_self,zab (h:=T68),zad,zac,zaa,zah,zai T135,d0,d1,TB,SB,Int.reduceToNat,Nat.reduceAdd,Nat.reduceEqDiff,Nat.reduceLT,Nat.reduceMod,Nat.reducePow,Nat.reduceSub,if_true,reduceIte]
 rw [za9]
 refine⟨Nat,fun k=>k≤l.length∧∀ i,i < k→mayO (l.getD i v0)=true,fun k=>[.sl (l.flatMap voC) l.length,.bot,str [],i64 0,txA k,i64 k,.bot,.bot,.bot,.bot,.bot,.bot,.bot,.bot,.bot,.bot,.bot,.bot,.bot,.bot,.bot,.bot,.bot,.bot,.bot,.bot,.bot,.bot,.bot,.bot,.bot,.bot,.bot,.bot,.bot,.bot,.bot,.bot,.bot,.bot,.bot,.bot,.bot,.bot,.bot,.bot,.bot,.bot,.bot,.bot,.bot,.bot,.bot,.bot,.bot,.bot,.bot,.bot,.bot,.bot,.bot,.bot,.bot,.bot,.bot,.bot,.bot,.bot,.bot,.bot,.bot,.bot,.bot,.bot,.bot,.bot],fun k=>txS l k,fun k=>l.length - k,0,⟨Nat.zero_le _,fun i hi=>by omega⟩,?_,?_⟩
 ·refine zal (q:=[]) rfl rfl (by decide) ?_ ?_
  ·try simp only [FB,AV.ren,Nat.reduceAdd,reduceCtorEq]
   simp [zci,txA,AV.ren]
  ·try simp only [FB,AV.ren,Nat.reduceAdd,reduceCtorEq]
   simp [txS,zao]
 rintro k ⟨hk,hall⟩
 by_cases hlt:k < l.length
 ·have dl:decide ((k:Int) < (l.length:Int))=true:=decide_eq_true (by omega)
  have hm:l.getD k v0∈l:=ziC hlt v0
  have hi:=mayO_iff (l.getD k v0)
  have hb:¬ mayO (l.getD k v0)=true→¬ zbf l=true:=fun h h2=>h ((hB h2).2.2 _ hm)
  generalize ho:l.getD k v0=o at hi hb hm ⊢
  obtain⟨okd,olb,obx⟩:=o
  dsimp only at hi
  cases k with
  | zero =>
   simp only [txA_0,txS_0]
   by_cases e0:okd < 0
   ·have d0:=decide_eq_true e0
    try simp -implicitDefEqProofs only [LM0,eq_self,zab (h:=T68),zad,zac,zaa,zah,zai T135,dl,ho,zfO,d0,TB,SB,Int.reduceToNat,Nat.reduceAdd,Nat.reduceEqDiff,Nat.reduceLT,Nat.reduceMod,Nat.reducePow,Nat.reduceSub,if_true,reduceIte]
    refine⟨by omega,by omega,by omega,by omega,?_⟩
    try simp -implicitDefEqProofs only [LM0,eq_self,zab (h:=T68),zad,zac,zaa,zah,zai T135,ho,zfO,d0,TB,SB,Int.reduceToNat,Nat.reduceAdd,Nat.reduceEqDiff,Nat.reduceLT,Nat.reduceMod,Nat.reducePow,Nat.reduceSub,if_true,reduceIte]
    exact hno _ (hb (fun h=>by have:=hi.1 h;omega))
   have d0:=decide_eq_false e0
   by_cases e1:3 < okd
   ·have d1:=decide_eq_true e1
    try simp -implicitDefEqProofs only [LM0,eq_self,zab (h:=T68),zad,zac,zaa,zah,zai T135,dl,ho,zfO,d0,d1,TB,SB,Int.reduceToNat,Nat.reduceAdd,Nat.reduceEqDiff,Nat.reduceLT,Nat.reduceMod,Nat.reducePow,Nat.reduceSub,if_true,reduceIte]
    refine⟨by omega,by omega,by omega,by omega,?_⟩
    try simp -implicitDefEqProofs only [LM0,eq_self,zab (h:=T68),zad,zac,zaa,zah,zai T135,ho,zfO,d0,d1,TB,SB,Int.reduceToNat,Nat.reduceAdd,Nat.reduceEqDiff,Nat.reduceLT,Nat.reduceMod,Nat.reducePow,Nat.reduceSub,if_true,reduceIte]
    exact hno _ (hb (fun h=>by have:=hi.1 h;omega))
   have d1:=decide_eq_false e1
   by_cases e2:(olb.length:Int) < 1
   ·have d2:=decide_eq_true e2
    try simp -implicitDefEqProofs only [LM0,eq_self,zab (h:=T68),zad,zac,zaa,zah,zai T135,dl,ho,zfO,d0,d1,d2,TB,SB,Int.reduceToNat,Nat.reduceAdd,Nat.reduceEqDiff,Nat.reduceLT,Nat.reduceMod,Nat.reducePow,Nat.reduceSub,if_true,reduceIte]
    refine⟨by omega,by omega,by omega,by omega,?_⟩
    try simp -implicitDefEqProofs only [LM0,eq_self,zab (h:=T68),zad,zac,zaa,zah,zai T135,ho,zfO,d0,d1,d2,TB,SB,Int.reduceToNat,Nat.reduceAdd,Nat.reduceEqDiff,Nat.reduceLT,Nat.reduceMod,Nat.reducePow,Nat.reduceSub,if_true,reduceIte]
    exact hno _ (hb (fun h=>by have:=hi.1 h;omega))
   have d2:=decide_eq_false e2
   by_cases e3:64 < (olb.length:Int)
   ·have d3:=decide_eq_true e3
    try simp -implicitDefEqProofs only [LM0,eq_self,zab (h:=T68),zad,zac,zaa,zah,zai T135,dl,ho,zfO,d0,d1,d2,d3,TB,SB,Int.reduceToNat,Nat.reduceAdd,Nat.reduceEqDiff,Nat.reduceLT,Nat.reduceMod,Nat.reducePow,Nat.reduceSub,if_true,reduceIte]
    refine⟨by omega,by omega,by omega,by omega,?_⟩
    try simp -implicitDefEqProofs only [LM0,eq_self,zab (h:=T68),zad,zac,zaa,zah,zai T135,ho,zfO,d0,d1,d2,d3,TB,SB,Int.reduceToNat,Nat.reduceAdd,Nat.reduceEqDiff,Nat.reduceLT,Nat.reduceMod,Nat.reducePow,Nat.reduceSub,if_true,reduceIte]
    exact hno _ (hb (fun h=>by have:=hi.1 h;omega))
   have d3:=decide_eq_false e3
   by_cases e4:8192 < (obx.length:Int)
   ·have d4:=decide_eq_true e4
    try simp -implicitDefEqProofs only [LM0,eq_self,zab (h:=T68),zad,zac,zaa,zah,zai T135,dl,ho,zfO,d0,d1,d2,d3,d4,TB,SB,Int.reduceToNat,Nat.reduceAdd,Nat.reduceEqDiff,Nat.reduceLT,Nat.reduceMod,Nat.reducePow,Nat.reduceSub,if_true,reduceIte]
    refine⟨by omega,by omega,by omega,by omega,?_⟩
    try simp -implicitDefEqProofs only [LM0,eq_self,zab (h:=T68),zad,zac,zaa,zah,zai T135,ho,zfO,d0,d1,d2,d3,d4,TB,SB,Int.reduceToNat,Nat.reduceAdd,Nat.reduceEqDiff,Nat.reduceLT,Nat.reduceMod,Nat.reducePow,Nat.reduceSub,if_true,reduceIte]
    exact hno _ (hb (fun h=>by have:=hi.1 h;omega))
   have d4:=decide_eq_false e4
   by_cases e56:okd.tmod 2=1∧¬ obx=[]
   ·have d5:=decide_eq_true e56.1
    have d6:=decide_eq_false e56.2
    try simp -implicitDefEqProofs only [LM0,eq_self,zab (h:=T68),zad,zac,zaa,zah,zai T135,dl,ho,zfO,d0,d1,d2,d3,d4,d5,d6,TB,SB,Int.reduceToNat,Nat.reduceAdd,Nat.reduceEqDiff,Nat.reduceLT,Nat.reduceMod,Nat.reducePow,Nat.reduceSub,if_true,reduceIte]
    refine⟨by omega,by omega,by omega,by omega,by decide,?_⟩
    try simp -implicitDefEqProofs only [LM0,eq_self,zab (h:=T68),zad,zac,zaa,zah,zai T135,ho,zfO,d0,d1,d2,d3,d4,d5,d6,TB,SB,Int.reduceToNat,Nat.reduceAdd,Nat.reduceEqDiff,Nat.reduceLT,Nat.reduceMod,Nat.reducePow,Nat.reduceSub,if_true,reduceIte]
    exact hno _ (hb (fun h=>e56.2 ((hi.1 h).2.2.2.2.2 e56.1)))
   have hok:=hi.2 ⟨by omega,by omega,by omega,by omega,by omega,fun h=>Decidable.byContradiction fun h2=>e56 ⟨h,h2⟩⟩
   have d56:decide (okd.tmod 2=1)=true∧decide (obx=[])=true∨decide (okd.tmod 2=1)=false:=by
    by_cases e5:okd.tmod 2=1
    ·exact .inl ⟨decide_eq_true e5,decide_eq_true (Decidable.byContradiction fun h2=>e56 ⟨e5,h2⟩)⟩
    ·exact .inr (decide_eq_false e5)
   rcases d56 with ⟨d5,d6⟩ | d5
   try simp -implicitDefEqProofs only [LM0,eq_self,zab (h:=T68),zad,zac,zaa,zah,zai T135,dl,ho,zfO,d0,d1,d2,d3,d4,d5,d6,TB,SB,Int.reduceToNat,Nat.reduceAdd,Nat.reduceEqDiff,Nat.reduceLT,Nat.reduceMod,Nat.reducePow,Nat.reduceSub,if_true,reduceIte]
   rotate_left
   try simp -implicitDefEqProofs only [LM0,eq_self,zab (h:=T68),zad,zac,zaa,zah,zai T135,dl,ho,zfO,d0,d1,d2,d3,d4,d5,TB,SB,Int.reduceToNat,Nat.reduceAdd,Nat.reduceEqDiff,Nat.reduceLT,Nat.reduceMod,Nat.reducePow,Nat.reduceSub,if_true,reduceIte]
   all_goals
    refine⟨by omega,by omega,by omega,by omega,by decide,?_⟩
    try simp -implicitDefEqProofs only [LM0,eq_self,zab (h:=T68),zad,zac,zaa,zah,zai T135,ho,zfO,d0,d1,d2,d3,d4,d5,bs_s3,TB,SB,Int.reduceToNat,Nat.reduceAdd,Nat.reduceEqDiff,Nat.reduceLT,Nat.reduceMod,Nat.reducePow,Nat.reduceSub,if_true,reduceIte]
    refine zfK str zad rfl rfl T68 T68 (zdz _) T9 zcN (ys:=[[(⟨BitVec.ofInt 8 okd⟩:UInt8)],olb,obx]) (m:=3) (zfi (l:=[[(⟨BitVec.ofInt 8 okd⟩:UInt8)],olb,obx]) rfl rfl) (by omega) (by simp only [tyStr];omega) ?_
    try simp -implicitDefEqProofs only [LM0,eq_self,zab (h:=T68),zad,zac,zaa,zah,zai T135,TB,SB,Int.reduceToNat,Nat.reduceAdd,Nat.reduceEqDiff,Nat.reduceLT,Nat.reduceMod,Nat.reducePow,Nat.reduceSub,if_true,reduceIte]
    refine⟨by unfold inI;omega,?_⟩
    have eT:opsT (l.take 1)=[[(⟨BitVec.ofInt 8 okd⟩:UInt8)],olb,obx]:=by
     rw [zhp hlt,ho,opT,big1,sw8]
     rfl
    rw [zan]
    refine⟨1,⟨by omega,fun i h=>?_⟩,by omega,zal (q:=[3]) rfl rfl (by decide) ?_ ?_⟩
    ·obtain rfl:i=0:=by omega
     rw [ho]
     exact hok
    ·try simp only [FB,AV.ren,Nat.reduceAdd,reduceCtorEq]
     rw [zci]
     exact⟨rfl,.inr rfl,.inr (by omega)⟩
    ·try simp only [FB,AV.ren,Nat.reduceAdd,reduceCtorEq]
     rw [txS_1,eT]
     simp [zao,Blk.ren,zbm,renL,zae]
  | succ a =>
   simp only [txA_1,txS_1]
   by_cases e0:okd < 0
   ·have d0:=decide_eq_true e0
    try simp -implicitDefEqProofs only [LM0,eq_self,zab (h:=T68),zad,zac,zaa,zah,zai T135,dl,ho,d0,TB,SB,Int.reduceToNat,Nat.reduceAdd,Nat.reduceEqDiff,Nat.reduceLT,Nat.reduceMod,Nat.reducePow,Nat.reduceSub,if_true,reduceIte]
    refine⟨by omega,by omega,by omega,by omega,?_⟩
    try simp -implicitDefEqProofs only [LM0,eq_self,zab (h:=T68),zad,zac,zaa,zah,zai T135,ho,d0,TB,SB,Int.reduceToNat,Nat.reduceAdd,Nat.reduceEqDiff,Nat.reduceLT,Nat.reduceMod,Nat.reducePow,Nat.reduceSub,if_true,reduceIte]
    exact hno _ (hb (fun h=>by have:=hi.1 h;omega))
   have d0:=decide_eq_false e0
   by_cases e1:3 < okd
   ·have d1:=decide_eq_true e1
    try simp -implicitDefEqProofs only [LM0,eq_self,zab (h:=T68),zad,zac,zaa,zah,zai T135,dl,ho,d0,d1,TB,SB,Int.reduceToNat,Nat.reduceAdd,Nat.reduceEqDiff,Nat.reduceLT,Nat.reduceMod,Nat.reducePow,Nat.reduceSub,if_true,reduceIte]
    refine⟨by omega,by omega,by omega,by omega,?_⟩
    try simp -implicitDefEqProofs only [LM0,eq_self,zab (h:=T68),zad,zac,zaa,zah,zai T135,ho,d0,d1,TB,SB,Int.reduceToNat,Nat.reduceAdd,Nat.reduceEqDiff,Nat.reduceLT,Nat.reduceMod,Nat.reducePow,Nat.reduceSub,if_true,reduceIte]
    exact hno _ (hb (fun h=>by have:=hi.1 h;omega))
   have d1:=decide_eq_false e1
   by_cases e2:(olb.length:Int) < 1
   ·have d2:=decide_eq_true e2
    try simp -implicitDefEqProofs only [LM0,eq_self,zab (h:=T68),zad,zac,zaa,zah,zai T135,dl,ho,d0,d1,d2,TB,SB,Int.reduceToNat,Nat.reduceAdd,Nat.reduceEqDiff,Nat.reduceLT,Nat.reduceMod,Nat.reducePow,Nat.reduceSub,if_true,reduceIte]
    refine⟨by omega,by omega,by omega,by omega,?_⟩
    try simp -implicitDefEqProofs only [LM0,eq_self,zab (h:=T68),zad,zac,zaa,zah,zai T135,ho,d0,d1,d2,TB,SB,Int.reduceToNat,Nat.reduceAdd,Nat.reduceEqDiff,Nat.reduceLT,Nat.reduceMod,Nat.reducePow,Nat.reduceSub,if_true,reduceIte]
    exact hno _ (hb (fun h=>by have:=hi.1 h;omega))
   have d2:=decide_eq_false e2
   by_cases e3:64 < (olb.length:Int)
   ·have d3:=decide_eq_true e3
    try simp -implicitDefEqProofs only [LM0,eq_self,zab (h:=T68),zad,zac,zaa,zah,zai T135,dl,ho,d0,d1,d2,d3,TB,SB,Int.reduceToNat,Nat.reduceAdd,Nat.reduceEqDiff,Nat.reduceLT,Nat.reduceMod,Nat.reducePow,Nat.reduceSub,if_true,reduceIte]
    refine⟨by omega,by omega,by omega,by omega,?_⟩
    try simp -implicitDefEqProofs only [LM0,eq_self,zab (h:=T68),zad,zac,zaa,zah,zai T135,ho,d0,d1,d2,d3,TB,SB,Int.reduceToNat,Nat.reduceAdd,Nat.reduceEqDiff,Nat.reduceLT,Nat.reduceMod,Nat.reducePow,Nat.reduceSub,if_true,reduceIte]
    exact hno _ (hb (fun h=>by have:=hi.1 h;omega))
   have d3:=decide_eq_false e3
   by_cases e4:8192 < (obx.length:Int)
   ·have d4:=decide_eq_true e4
    try simp -implicitDefEqProofs only [LM0,eq_self,zab (h:=T68),zad,zac,zaa,zah,zai T135,dl,ho,d0,d1,d2,d3,d4,TB,SB,Int.reduceToNat,Nat.reduceAdd,Nat.reduceEqDiff,Nat.reduceLT,Nat.reduceMod,Nat.reducePow,Nat.reduceSub,if_true,reduceIte]
    refine⟨by omega,by omega,by omega,by omega,?_⟩
    try simp -implicitDefEqProofs only [LM0,eq_self,zab (h:=T68),zad,zac,zaa,zah,zai T135,ho,d0,d1,d2,d3,d4,TB,SB,Int.reduceToNat,Nat.reduceAdd,Nat.reduceEqDiff,Nat.reduceLT,Nat.reduceMod,Nat.reducePow,Nat.reduceSub,if_true,reduceIte]
    exact hno _ (hb (fun h=>by have:=hi.1 h;omega))
   have d4:=decide_eq_false e4
   by_cases e56:okd.tmod 2=1∧¬ obx=[]
   ·have d5:=decide_eq_true e56.1
    have d6:=decide_eq_false e56.2
    try simp -implicitDefEqProofs only [LM0,eq_self,zab (h:=T68),zad,zac,zaa,zah,zai T135,dl,ho,d0,d1,d2,d3,d4,d5,d6,TB,SB,Int.reduceToNat,Nat.reduceAdd,Nat.reduceEqDiff,Nat.reduceLT,Nat.reduceMod,Nat.reducePow,Nat.reduceSub,if_true,reduceIte]
    refine⟨by omega,by omega,by omega,by omega,by decide,?_⟩
    try simp -implicitDefEqProofs only [LM0,eq_self,zab (h:=T68),zad,zac,zaa,zah,zai T135,ho,d0,d1,d2,d3,d4,d5,d6,TB,SB,Int.reduceToNat,Nat.reduceAdd,Nat.reduceEqDiff,Nat.reduceLT,Nat.reduceMod,Nat.reducePow,Nat.reduceSub,if_true,reduceIte]
    exact hno _ (hb (fun h=>e56.2 ((hi.1 h).2.2.2.2.2 e56.1)))
   have hok:=hi.2 ⟨by omega,by omega,by omega,by omega,by omega,fun h=>Decidable.byContradiction fun h2=>e56 ⟨h,h2⟩⟩
   have d56:decide (okd.tmod 2=1)=true∧decide (obx=[])=true∨decide (okd.tmod 2=1)=false:=by
    by_cases e5:okd.tmod 2=1
    ·exact .inl ⟨decide_eq_true e5,decide_eq_true (Decidable.byContradiction fun h2=>e56 ⟨e5,h2⟩)⟩
    ·exact .inr (decide_eq_false e5)
   rcases d56 with ⟨d5,d6⟩ | d5
   try simp -implicitDefEqProofs only [LM0,eq_self,zab (h:=T68),zad,zac,zaa,zah,zai T135,dl,ho,d0,d1,d2,d3,d4,d5,d6,TB,SB,Int.reduceToNat,Nat.reduceAdd,Nat.reduceEqDiff,Nat.reduceLT,Nat.reduceMod,Nat.reducePow,Nat.reduceSub,if_true,reduceIte]
   rotate_left
   try simp -implicitDefEqProofs only [LM0,eq_self,zab (h:=T68),zad,zac,zaa,zah,zai T135,dl,ho,d0,d1,d2,d3,d4,d5,TB,SB,Int.reduceToNat,Nat.reduceAdd,Nat.reduceEqDiff,Nat.reduceLT,Nat.reduceMod,Nat.reducePow,Nat.reduceSub,if_true,reduceIte]
   all_goals
    refine⟨by omega,by omega,by omega,by omega,by decide,?_⟩
    try simp -implicitDefEqProofs only [LM0,eq_self,zab (h:=T68),zad,zac,zaa,zah,zai T135,ho,d0,d1,d2,d3,d4,d5,bs_s3,TB,SB,Int.reduceToNat,Nat.reduceAdd,Nat.reduceEqDiff,Nat.reduceLT,Nat.reduceMod,Nat.reducePow,Nat.reduceSub,if_true,reduceIte]
    refine zb7 str zad rfl rfl T68 T68 (zdz _) T9 zcN (l:=opsT (l.take (a+1))) (ys:=[[(⟨BitVec.ofInt 8 okd⟩:UInt8)],olb,obx]) (m:=3) rfl (by rw [zeC,List.length_take];omega) (zfi (l:=[[(⟨BitVec.ofInt 8 okd⟩:UInt8)],olb,obx]) rfl rfl) (by omega) (by simp only [tyStr];omega) ?_
    have eT:opsT (l.take (a+1))++[[(⟨BitVec.ofInt 8 okd⟩:UInt8)],olb,obx]=opsT (l.take (a+1+1)):=by
     rw [zhp hlt,ho,opT,big1,sw8]
    rw [eT]
    try simp -implicitDefEqProofs only [LM0,eq_self,zab (h:=T68),zad,zac,zaa,zah,zai T135,TB,SB,Int.reduceToNat,Nat.reduceAdd,Nat.reduceEqDiff,Nat.reduceLT,Nat.reduceMod,Nat.reducePow,Nat.reduceSub,if_true,reduceIte]
    refine⟨by unfold inI;omega,?_⟩
    rw [zan]
    refine⟨a+1+1,⟨by omega,fun i h=>?_⟩,by omega,zal (q:=[4]) rfl rfl (by decide) ?_ ?_⟩
    ·rcases Nat.lt_succ_iff_lt_or_eq.1 h with h | rfl
     ·exact hall i h
     ·rw [ho]
      exact hok
    ·try simp only [FB,AV.ren,Nat.reduceAdd,reduceCtorEq]
     rw [zci]
     exact⟨rfl,.inr rfl,.inr (by omega)⟩
    ·try simp only [FB,AV.ren,Nat.reduceAdd,reduceCtorEq]
     rw [txS_1]
     generalize opsT (l.take (a+1+1))=D2
     simp [zao,Blk.ren,zbm,zaf str zae]
 ·obtain rfl:k=l.length:=by omega
  have dl:decide ((l.length:Int) < (l.length:Int))=false:=decide_eq_false (by omega)
  have hA:∀ o∈l,mayO o=true:=fun o h=>by
   obtain⟨i,hi,rfl⟩:=List.getElem_of_mem h
   have:=hall i hi
   rwa [List.getD_eq_getElem?_getD,List.getElem?_eq_getElem hi] at this
  have hbb:zbf l=true:=by
   simp only [zbf,Bool.and_eq_true,decide_eq_true_eq,List.all_eq_true]
   exact⟨by omega,by omega,hA⟩
  have hS:∀ s∈opsT l,s.length≤8192:=fun s hs=>by
   simp only [opsT,List.mem_flatMap,opT,List.mem_cons,List.not_mem_nil,or_false] at hs
   obtain⟨o,h,rfl | rfl | rfl⟩:=hs
   ·rw [zcf];omega
   ·have:=zho (hA o h);omega
   ·have:=zho (hA o h);omega
  have hJ:=ze2 (B:=8192) _ hS
  have hL:=zeC l
  rw [hL] at hJ
  have hJ2:3 * l.length * (2 * 8192+3)≤1200 * (2 * 8192+3):=Nat.mul_le_mul_right _ (by omega)
  obtain⟨a,ha⟩:∃ a,l.length=a+1:=⟨l.length - 1,by omega⟩
  have et:l.take (a+1)=l:=List.take_of_length_le (by omega)
  rw [ha] at dl ⊢
  simp only [txA_1,txS_1]
  rw [et]
  try simp -implicitDefEqProofs only [LM0,eq_self,zab (h:=T68),zad,zac,zaa,zah,zai T135,dl,TB,SB,Int.reduceToNat,Nat.reduceAdd,Nat.reduceEqDiff,Nat.reduceLT,Nat.reduceMod,Nat.reducePow,Nat.reduceSub,if_true,reduceIte]
  refine ACalls.frz [0] (l':=[.sl ((opsT l).map str) (opsT l).length]) ⟨_,_,rfl,zi7 (l:=opsT l) rfl (by omega),rfl⟩ ?_
  refine(rJoin_ok _ (by omega) (fun s hs=>by have:=hS s hs;omega) (by omega)).pure (by simp only [renL,AV.ren,zaf str zae];rfl) ?_
  rintro _ σ rfl
  refine⟨zae _ _,?_⟩
  try simp -implicitDefEqProofs only [LM0,eq_self,zab (h:=T68),zad,zac,zaa,zah,zai T135,TB,SB,Int.reduceToNat,Nat.reduceAdd,Nat.reduceEqDiff,Nat.reduceLT,Nat.reduceMod,Nat.reducePow,Nat.reduceSub,if_true,reduceIte]
  exact zbd (by simp [AV.ren,renL,zaj,zae]) (by rw [hgood hbb])
end Go.Proofs.YtdmiflfhaobngaaGreatDoor
end

section
namespace Go.Proofs.YtdmiflfhaobngaaGreatDoor
open Go Go.Eng
def rvAt (L:List (List UInt8)) (k:Nat):Vo:=⟨(((L.getD (3 * k) []).getD 0 0).toNat:Int),L.getD (3 * k+1) [],L.getD (3 * k+2) []⟩
def rvL (L:List (List UInt8)) (a:Nat):List Vo:=(List.range a).map (rvAt L)
theorem ziI (L:List (List UInt8)) (a:Nat):(rvL L a).length=a:=by simp [rvL]
theorem rvL_succ (L:List (List UInt8)) (a:Nat):rvL L (a+1)=rvL L a++[rvAt L a]:=by simp [rvL,List.range_succ]
def ziJ (b:List UInt8):List Vo × Int :=
 if (zaN b).2≠0 then ([],5) else if (zaN b).1.length % 3≠0 then ([],5)
 else if ¬ (∀ k,k < (zaN b).1.length / 3→((zaN b).1.getD (3 * k) []).length=1) then ([],5)
 else if (putV (rvL (zaN b).1 ((zaN b).1.length / 3))).2≠0 then ([],5)
 else if (putV (rvL (zaN b).1 ((zaN b).1.length / 3))).1≠b then ([],5)
 else (rvL (zaN b).1 ((zaN b).1.length / 3),0)
def rvS (L:List (List UInt8)):Nat→zag
 | 0=>[]
 | a+1=>[.rw ((rvL L (a+1)).flatMap voC)]
theorem rvS_0 (L:List (List UInt8)):rvS L 0=[]:=rfl
theorem rvS_1 (L:List (List UInt8)) (a:Nat):rvS L (a+1)=[.rw ((rvL L (a+1)).flatMap voC)]:=rfl
theorem end_roV {σ:zag} {id n:Nat} {e:Int} {l:List Vo} {K:AV→zag→Prop} (hc:σ[id]?=some (.ro (l.flatMap voC))) (hn:n=l.length) (h:K (.tup [slV l,i64 e]) []):endQ 0 (.tup [.ref id 0 n 3,i64 e]) σ K :=
 zce [] (.tup [slV l,i64 e]) ⟨_,rfl,_,_,rfl,voF.frz hc hn,_,_,rfl,.inl rfl,rfl⟩ ⟨[],.tup [slV l,i64 e],[],rfl,rfl,by decide,zgt _ _ _,trivial,h⟩
set_option maxHeartbeats 2000000 in
theorem rgetV_ok (b:List UInt8) (hb:b.length≤1000000):ACalls Tryz.prog 26 [str b] [] (fun y _=>y=.ret (.tup [slV (ziJ b).1,i64 (ziJ b).2])):=by
 have hs:=rSplit_ok b (by omega)
 have hle:=zf8 b
 obtain⟨X,hX⟩:∃ X,X=ziJ b:=⟨_,rfl⟩
 rw [← hX]
 unfold ziJ at hX
 generalize zaN b=Z at hs hle hX
 obtain⟨L,f⟩:=Z
 dsimp only at hs hle hX
 simp only [zgD] at hs
 have hno:∀ σ:zag,X=([],5)→endQ 0 (.tup [.lit (.slice none 0 0),i64 5]) σ (fun y _=>AEnd.ret y=.ret (.tup [slV X.1,i64 X.2])):=fun σ h=>zdT (by rw [h])
 refine ACalls.body T_ok Tryz.func26 (by kernel_rfl) rfl Tryz.ntmps26 (congrArg Array.toList Tryz.results26) ?_
 try simp -implicitDefEqProofs only [LM0,eq_self,zab (h:=T68),zad,zac,zaa,zah,zai T135,TB,SB,Int.reduceToNat,Nat.reduceAdd,Nat.reduceEqDiff,Nat.reduceLT,Nat.reduceMod,Nat.reducePow,Nat.reduceSub,if_true,reduceIte]
 refine hs.pure (by simp [renL,zae]) ?_
 rintro _ σ rfl
 refine⟨by simp [AEnd.noid,AV.ren,renL,zaf str zae,zaj],?_⟩
 by_cases c0:f=0
 rotate_left
 ·have d0:=decide_eq_false c0
  try simp -implicitDefEqProofs only [LM0,eq_self,zab (h:=T68),zad,zac,zaa,zah,zai T135,d0,TB,SB,Int.reduceToNat,Nat.reduceAdd,Nat.reduceEqDiff,Nat.reduceLT,Nat.reduceMod,Nat.reducePow,Nat.reduceSub,if_true,reduceIte]
  exact hno _ (by rw [hX,if_pos c0])
 have d0:=decide_eq_true c0
 rw [if_neg (by simpa using c0)] at hX
 have hm:((L.length:Int)).tmod 3=((L.length % 3:Nat):Int):=rfl
 by_cases c1:L.length % 3=0
 rotate_left
 ·have d1:decide (((L.length:Int)).tmod 3=0)=false:=decide_eq_false (by rw [hm];omega)
  try simp -implicitDefEqProofs only [LM0,eq_self,zab (h:=T68),zad,zac,zaa,zah,zai T135,d0,d1,TB,SB,Int.reduceToNat,Nat.reduceAdd,Nat.reduceEqDiff,Nat.reduceLT,Nat.reduceMod,Nat.reducePow,Nat.reduceSub,if_true,reduceIte]
  refine⟨by decide,?_⟩
  try simp -implicitDefEqProofs only [LM0,eq_self,zab (h:=T68),zad,zac,zaa,zah,zai T135,d0,d1,TB,SB,Int.reduceToNat,Nat.reduceAdd,Nat.reduceEqDiff,Nat.reduceLT,Nat.reduceMod,Nat.reducePow,Nat.reduceSub,if_true,reduceIte]
  exact hno _ (by rw [hX,if_pos c1])
 have d1:decide (((L.length:Int)).tmod 3=0)=true:=decide_eq_true (by rw [hm];omega)
 rw [if_neg (by simpa using c1)] at hX
 try simp -implicitDefEqProofs only [LM0,eq_self,zab (h:=T68),zad,zac,zaa,zah,zai T135,d0,d1,TB,SB,Int.reduceToNat,Nat.reduceAdd,Nat.reduceEqDiff,Nat.reduceLT,Nat.reduceMod,Nat.reducePow,Nat.reduceSub,if_true,reduceIte]
 refine⟨by decide,?_⟩
 try simp -implicitDefEqProofs only [LM0,eq_self,zab (h:=T68),zad,zac,zaa,zah,zai T135,d0,d1,TB,SB,Int.reduceToNat,Nat.reduceAdd,Nat.reduceEqDiff,Nat.reduceLT,Nat.reduceMod,Nat.reducePow,Nat.reduceSub,if_true,reduceIte]
 rw [za9]
 refine⟨Nat,fun k=>k≤L.length / 3∧∀ i,i < k→(L.getD (3 * i) []).length=1,fun k=>[str b,.bot,.lit (.slice none 0 0),i64 0,.sl (L.map str) L.length,.bot,opA k,i64 ((3 * k:Nat):Int),.bot,.bot,.bot,.bot,.bot,.bot,.bot,.bot,.bot,.bot,.bot,.bot,.bot,.bot,.bot,.bot,.bot,.bot,.bot,.bot,.bot,.bot,.bot,.bot,.bot,.bot,.bot,.bot,.bot,.bot,.bot,.bot,.bot,.bot,.bot,.bot,.bot,.bot,.bot,.bot,.bot,.bot,.bot,.bot,.bot,.bot,.bot,.bot,.bot,.bot,.bot,.bot,.bot,.bot,.bot,.bot,.bot,.bot,.bot,.bot],fun k=>rvS L k,fun k=>L.length / 3 - k,0,⟨Nat.zero_le _,fun i hi=>by omega⟩,?_,?_⟩
 ·refine zal (q:=[]) rfl rfl (by decide) ?_ ?_
  ·try simp only [FB,AV.ren,Nat.reduceAdd,reduceCtorEq]
   simp [zaf str zae,opA,AV.ren]
  ·try simp only [FB,AV.ren,Nat.reduceAdd,reduceCtorEq]
   simp [rvS,zao]
 rintro k ⟨hk,hall⟩
 by_cases hlt:k < L.length / 3
 ·have dl:decide (((3 * k:Nat):Int) < (L.length:Int))=true:=decide_eq_true (by omega)
  by_cases c2:((L.getD (3 * k) []).length:Int)=1
  rotate_left
  ·have d2:=decide_eq_false c2
   have hbad:X=([],5):=by
    rw [hX,if_pos]
    intro h
    have:=h k hlt
    omega
   cases k with
   | zero =>
    simp only [opA_0,rvS_0]
    try simp -implicitDefEqProofs only [LM0,eq_self,zab (h:=T68),zad,zac,zaa,zah,zai T135,dl,d2,TB,SB,Int.reduceToNat,Nat.reduceAdd,Nat.reduceEqDiff,Nat.reduceLT,Nat.reduceMod,Nat.reducePow,Nat.reduceSub,if_true,reduceIte]
    exact⟨by omega,by omega,by omega,hno _ hbad⟩
   | succ a =>
    simp only [opA_1,rvS_1]
    try simp -implicitDefEqProofs only [LM0,eq_self,zab (h:=T68),zad,zac,zaa,zah,zai T135,dl,d2,TB,SB,Int.reduceToNat,Nat.reduceAdd,Nat.reduceEqDiff,Nat.reduceLT,Nat.reduceMod,Nat.reducePow,Nat.reduceSub,if_true,reduceIte]
    exact⟨by omega,by omega,by omega,hno _ hbad⟩
  have d2:=decide_eq_true c2
  cases k with
  | zero =>
   simp only [opA_0,rvS_0]
   try simp -implicitDefEqProofs only [LM0,eq_self,zab (h:=T68),zad,zac,zaa,zah,zai T135,dl,d2,TB,SB,Int.reduceToNat,Nat.reduceAdd,Nat.reduceEqDiff,Nat.reduceLT,Nat.reduceMod,Nat.reducePow,Nat.reduceSub,if_true,reduceIte]
   refine⟨by omega,by omega,by omega,?_⟩
   refine zbg [19] (by kernel_rfl) (by kernel_rfl) (by kernel_rfl) ?_
   try simp -implicitDefEqProofs only [LM0,eq_self,zab (h:=T68),zad,zac,zaa,zah,zai T135,TB,SB,Int.reduceToNat,Nat.reduceAdd,Nat.reduceEqDiff,Nat.reduceLT,Nat.reduceMod,Nat.reducePow,Nat.reduceSub,if_true,reduceIte]
   refine⟨by omega,by omega,by omega,by omega,by omega,by unfold inI;omega,by omega,by omega,by omega,by unfold inI;omega,by omega,by omega,by omega,?_⟩
   rw [show (((3 * 0:Nat):Int)+1).toNat=3 * 0+1 by omega,show (((3 * 0:Nat):Int)+2).toNat=3 * 0+2 by omega]
   try simp -implicitDefEqProofs only [LM0,eq_self,zab (h:=T68),zad,zac,zaa,zah,zai T135,qb_V,TB,SB,Int.reduceToNat,Nat.reduceAdd,Nat.reduceEqDiff,Nat.reduceLT,Nat.reduceMod,Nat.reducePow,Nat.reduceSub,if_true,reduceIte]
   refine vo9_nil (y:=rvAt L 0) rfl ?_
   try simp -implicitDefEqProofs only [LM0,eq_self,zab (h:=T68),zad,zac,zaa,zah,zai T135,TB,SB,Int.reduceToNat,Nat.reduceAdd,Nat.reduceEqDiff,Nat.reduceLT,Nat.reduceMod,Nat.reducePow,Nat.reduceSub,if_true,reduceIte]
   refine⟨by unfold inI;omega,?_⟩
   rw [zan]
   refine⟨1,⟨by omega,fun i h=>?_⟩,by omega,zal (q:=[0]) rfl rfl (by decide) ?_ ?_⟩
   ·obtain rfl:i=0:=by omega
    omega
   ·try simp only [FB,AV.ren,Nat.reduceAdd,reduceCtorEq]
    rw [zaf str zae]
    exact⟨rfl,.inr rfl,.inr (by omega)⟩
   ·try simp only [FB,AV.ren,Nat.reduceAdd,reduceCtorEq]
    rw [rvS_1,show rvL L 1=[rvAt L 0] from rfl]
    simp [zao,Blk.ren,zbm,renL,voC,zaj,zae]
  | succ a =>
   simp only [opA_1,rvS_1]
   try simp -implicitDefEqProofs only [LM0,eq_self,zab (h:=T68),zad,zac,zaa,zah,zai T135,dl,d2,TB,SB,Int.reduceToNat,Nat.reduceAdd,Nat.reduceEqDiff,Nat.reduceLT,Nat.reduceMod,Nat.reducePow,Nat.reduceSub,if_true,reduceIte]
   refine⟨by omega,by omega,by omega,?_⟩
   refine zbg [19] (by kernel_rfl) (by kernel_rfl) (by kernel_rfl) ?_
   try simp -implicitDefEqProofs only [LM0,eq_self,zab (h:=T68),zad,zac,zaa,zah,zai T135,TB,SB,Int.reduceToNat,Nat.reduceAdd,Nat.reduceEqDiff,Nat.reduceLT,Nat.reduceMod,Nat.reducePow,Nat.reduceSub,if_true,reduceIte]
   refine⟨by omega,by omega,by omega,by omega,by omega,by unfold inI;omega,by omega,by omega,by omega,by unfold inI;omega,by omega,by omega,by omega,?_⟩
   rw [show (((3 * (a+1):Nat):Int)+1).toNat=3 * (a+1)+1 by omega,show (((3 * (a+1):Nat):Int)+2).toNat=3 * (a+1)+2 by omega]
   try simp -implicitDefEqProofs only [LM0,eq_self,zab (h:=T68),zad,zac,zaa,zah,zai T135,qb_V,TB,SB,Int.reduceToNat,Nat.reduceAdd,Nat.reduceEqDiff,Nat.reduceLT,Nat.reduceMod,Nat.reducePow,Nat.reduceSub,if_true,reduceIte]
   refine vo9_app (l:=rvL L (a+1)) (y:=rvAt L (a+1)) rfl (ziI _ _).symm rfl (by rw [ziI];have:=hle.1;omega) ?_
   rw [← rvL_succ]
   try simp -implicitDefEqProofs only [LM0,eq_self,zab (h:=T68),zad,zac,zaa,zah,zai T135,TB,SB,Int.reduceToNat,Nat.reduceAdd,Nat.reduceEqDiff,Nat.reduceLT,Nat.reduceMod,Nat.reducePow,Nat.reduceSub,if_true,reduceIte]
   refine⟨by unfold inI;omega,?_⟩
   rw [zan]
   refine⟨a+1+1,⟨by omega,fun i h=>?_⟩,by omega,zal (q:=[1]) rfl rfl (by decide) ?_ ?_⟩
   ·rcases Nat.lt_succ_iff_lt_or_eq.1 h with h | rfl
    ·exact hall i h
    ·omega
   ·try simp only [FB,AV.ren,Nat.reduceAdd,reduceCtorEq]
    rw [zaf str zae]
    exact⟨rfl,.inr rfl,.inr (by omega)⟩
   ·try simp only [FB,AV.ren,Nat.reduceAdd,reduceCtorEq]
    rw [rvS_1]
    simp [zao,Blk.ren,zbm,zci]
 ·have ek:k=L.length / 3:=by omega
  have dl:decide (((3 * k:Nat):Int) < (L.length:Int))=false:=decide_eq_false (by omega)
  rw [if_neg (by rw [Decidable.not_not];rw [← ek];exact hall),← ek] at hX
  have hp:=rputV_ok (rvL L k)
  generalize putV (rvL L k)=P at hp hX
  obtain⟨pa,pe⟩:=P
  dsimp only at hp hX
  clear ek
  cases k with
  | zero =>
   simp only [opA_0,rvS_0]
   try simp -implicitDefEqProofs only [LM0,eq_self,zab (h:=T68),zad,zac,zaa,zah,zai T135,dl,TB,SB,Int.reduceToNat,Nat.reduceAdd,Nat.reduceEqDiff,Nat.reduceLT,Nat.reduceMod,Nat.reducePow,Nat.reduceSub,if_true,reduceIte]
   refine ACalls.frz [] (l':=[slV []]) ⟨_,_,rfl,.inr ⟨rfl,rfl⟩,rfl⟩ ?_
   refine hp.pure (by simp [renL,AV.ren,zci]) ?_
   rintro _ σ rfl
   refine⟨zbY _ _ _,?_⟩
   simp only [zch]
   by_cases q0:pe=0
   rotate_left
   ·have dq:=decide_eq_false q0
    try simp -implicitDefEqProofs only [LM0,eq_self,zab (h:=T68),zad,zac,zaa,zah,zai T135,dq,TB,SB,Int.reduceToNat,Nat.reduceAdd,Nat.reduceEqDiff,Nat.reduceLT,Nat.reduceMod,Nat.reducePow,Nat.reduceSub,if_true,reduceIte]
    exact hno _ (by rw [hX,if_pos q0])
   have dq:=decide_eq_true q0
   by_cases q1:pa=b
   rotate_left
   ·have dr:=decide_eq_false q1
    try simp -implicitDefEqProofs only [LM0,eq_self,zab (h:=T68),zad,zac,zaa,zah,zai T135,dq,dr,TB,SB,Int.reduceToNat,Nat.reduceAdd,Nat.reduceEqDiff,Nat.reduceLT,Nat.reduceMod,Nat.reducePow,Nat.reduceSub,if_true,reduceIte]
    exact hno _ (by rw [hX,if_neg (by simpa using q0),if_pos q1])
   have dr:=decide_eq_true q1
   try simp -implicitDefEqProofs only [LM0,eq_self,zab (h:=T68),zad,zac,zaa,zah,zai T135,dq,dr,TB,SB,Int.reduceToNat,Nat.reduceAdd,Nat.reduceEqDiff,Nat.reduceLT,Nat.reduceMod,Nat.reducePow,Nat.reduceSub,if_true,reduceIte]
   exact zdT (by rw [hX,if_neg (by simpa using q0),if_neg (by simpa using q1)];rfl)
  | succ a =>
   simp only [opA_1,rvS_1]
   try simp -implicitDefEqProofs only [LM0,eq_self,zab (h:=T68),zad,zac,zaa,zah,zai T135,dl,TB,SB,Int.reduceToNat,Nat.reduceAdd,Nat.reduceEqDiff,Nat.reduceLT,Nat.reduceMod,Nat.reducePow,Nat.reduceSub,if_true,reduceIte]
   refine ACalls.frz [0] (l':=[slV (rvL L (a+1))]) ⟨_,_,rfl,voF.frz (l:=rvL L (a+1)) rfl (ziI _ _).symm,rfl⟩ ?_
   refine hp.pure (by simp [renL,AV.ren,zci]) ?_
   rintro _ σ rfl
   refine⟨zbY _ _ _,?_⟩
   simp only [zch,List.getElem?_cons_zero,List.getElem?_cons_succ,List.set_cons_zero,List.set_cons_succ]
   by_cases q0:pe=0
   rotate_left
   ·have dq:=decide_eq_false q0
    try simp -implicitDefEqProofs only [LM0,eq_self,zab (h:=T68),zad,zac,zaa,zah,zai T135,dq,TB,SB,Int.reduceToNat,Nat.reduceAdd,Nat.reduceEqDiff,Nat.reduceLT,Nat.reduceMod,Nat.reducePow,Nat.reduceSub,if_true,reduceIte]
    exact hno _ (by rw [hX,if_pos q0])
   have dq:=decide_eq_true q0
   by_cases q1:pa=b
   rotate_left
   ·have dr:=decide_eq_false q1
    try simp -implicitDefEqProofs only [LM0,eq_self,zab (h:=T68),zad,zac,zaa,zah,zai T135,dq,dr,TB,SB,Int.reduceToNat,Nat.reduceAdd,Nat.reduceEqDiff,Nat.reduceLT,Nat.reduceMod,Nat.reducePow,Nat.reduceSub,if_true,reduceIte]
    exact hno _ (by rw [hX,if_neg (by simpa using q0),if_pos q1])
   have dr:=decide_eq_true q1
   try simp -implicitDefEqProofs only [LM0,eq_self,zab (h:=T68),zad,zac,zaa,zah,zai T135,dq,dr,TB,SB,Int.reduceToNat,Nat.reduceAdd,Nat.reduceEqDiff,Nat.reduceLT,Nat.reduceMod,Nat.reducePow,Nat.reduceSub,if_true,reduceIte]
   exact end_roV (l:=rvL L (a+1)) rfl (ziI _ _).symm (by rw [hX,if_neg (by simpa using q0),if_neg (by simpa using q1)])
end Go.Proofs.YtdmiflfhaobngaaGreatDoor
end

section
namespace Go.Proofs.YtdmiflfhaobngaaGreatDoor
open Go Go.Eng
theorem fit_it9 (n:It):fitE T 2 78 (itQ n):=by
 rw [fitE]
 simp only [T78,tyIt]
 refine⟨trivial,rfl,rfl,?_⟩
 intro f hf
 simp only [List.mem_cons,List.not_mem_nil,or_false] at hf
 rcases hf with rfl | rfl
 ·exact⟨⟨_,T9⟩,zhF T9 rfl⟩
 ·exact⟨⟨_,T9⟩,zhF T9 rfl⟩
theorem eqP_it9 (a b:It):eqP T 78 (itC a) (itC b) (2,itQ a,itQ b,decide (a=b)) :=
 ⟨rfl,rfl,(by show 2≤100;omega),⟨tyIt,T78,rfl⟩,fit_it9 a,fit_it9 b,by simp only [decide_eq_true_eq];exact⟨fun h=>by rw [h],fun h=>ziF h⟩⟩
theorem eqPv_it9 {a b:It} {q:Nat × List Value × List Value × Bool} (h:eqP T 78 (itC a) (itC b) q):q.2.2.2=decide (a=b):=by
 obtain⟨h1,h2,_,_,_,_,h3⟩:=h
 have e1:=zcJ (l:=itQ a) h1
 have e2:=zcJ (l:=itQ b) h2
 rw [Bool.eq_iff_iff,h3,← e1,← e2,decide_eq_true_eq]
 exact⟨ziF,fun h=>by rw [h]⟩
theorem bn_it_neq9 {a b:It} {K:AV→Prop}:wbin T .neq 78 (.agg (itC a)) (.agg (itC b)) K=K (bl (!decide (a=b))):=by
 apply propext
 constructor
 ·rintro⟨q,hq,hk⟩
  rw [← eqPv_it9 hq]
  exact hk
 ·exact fun hk=>⟨_,eqP_it9 a b,hk⟩
theorem rsameI_ok (a b:List It) (ha:a.length≤1000000000000):ACalls Tryz.prog 43 [.sl (a.flatMap itC) a.length,.sl (b.flatMap itC) b.length] [] (fun y _=>y=.ret (bl (decide (a=b)))):=by
 refine ACalls.body T_ok Tryz.func43 (by kernel_rfl) rfl Tryz.ntmps43 (congrArg Array.toList Tryz.results43) ?_
 try simp -implicitDefEqProofs only [LM0,eq_self,zab (h:=T68),zad,zac,zaa,zah,zai T135,TB,SB,Int.reduceToNat,Nat.reduceAdd,Nat.reduceEqDiff,Nat.reduceLT,Nat.reduceMod,Nat.reducePow,Nat.reduceSub,if_true,reduceIte]
 refine⟨fun hne=>?_,fun heq=>?_⟩
 ·refine zaI ?_
  rw [decide_eq_false (fun h=>hne (by rw [h]))]
 have hl:a.length=b.length:=by omega
 rw [za9]
 refine⟨Nat,fun k=>k≤a.length∧∀ i,i < k→a.getD i i0=b.getD i i0,fun k=>[.sl (a.flatMap itC) a.length,.sl (b.flatMap itC) b.length,.bot,.bot,.bot,i64 k,.bot,.bot,.bot,.bot,.bot,.bot,.bot,.bot,.bot,.bot,.bot,.bot,.bot,.bot,.bot,.bot,.bot,.bot,.bot,.bot],fun _=>[],fun k=>a.length - k,0,⟨Nat.zero_le _,fun i hi=>by omega⟩,?_,?_⟩
 ·refine zal (q:=[]) rfl rfl (by decide) ?_ ?_
  ·skip
   try simp only [FB,AV.ren,Nat.reduceAdd,reduceCtorEq]
   simp [zaH]
  ·skip
   try simp only [FB,AV.ren,Nat.reduceAdd,reduceCtorEq]
 ·rintro k ⟨hk,hsame⟩
  try simp -implicitDefEqProofs only [LM0,eq_self,zab (h:=T68),zad,zac,zaa,zah,zai T135,TB,SB,Int.reduceToNat,Nat.reduceAdd,Nat.reduceEqDiff,Nat.reduceLT,Nat.reduceMod,Nat.reducePow,Nat.reduceSub,if_true,reduceIte]
  refine⟨fun hlt=>?_,fun hge=>?_⟩
  ·skip
   refine zcb (by kernel_rfl) (by kernel_rfl) ?_
   try simp -implicitDefEqProofs only [LM0,eq_self,zab (h:=T68),zad,zac,zaa,zah,zai T135,TB,SB,Int.reduceToNat,Nat.reduceAdd,Nat.reduceEqDiff,Nat.reduceLT,Nat.reduceMod,Nat.reducePow,Nat.reduceSub,if_true,reduceIte]
   repeat (with_reducible refine zaW ?_)
   rw [← zbn,← zbn,bn_it_neq9]
   try simp -implicitDefEqProofs only [LM0,eq_self,zab (h:=T68),zad,zac,zaa,zah,zai T135,TB,SB,Int.reduceToNat,Nat.reduceAdd,Nat.reduceEqDiff,Nat.reduceLT,Nat.reduceMod,Nat.reducePow,Nat.reduceSub,if_true,reduceIte]
   refine⟨fun hne=>?_,fun heq=>?_⟩
   ·refine zaI ?_
    rw [decide_eq_false (by rintro rfl;exact hne rfl)]
   ·skip
    repeat (with_reducible refine zaW ?_)
    rw [zan]
    refine⟨k+1,⟨by omega,fun i hi=>?_⟩,by omega,zal (q:=[]) rfl rfl (by decide) ?_ ?_⟩
    ·rcases Nat.lt_succ_iff_lt_or_eq.1 hi with h | rfl
     ·exact hsame i h
     ·simpa using heq
    ·skip
     try simp only [FB,AV.ren,Nat.reduceAdd,reduceCtorEq]
     simp [zaH]
    ·skip
     try simp only [FB,AV.ren,Nat.reduceAdd,reduceCtorEq]
  ·obtain rfl:k=a.length:=by omega
   try simp -implicitDefEqProofs only [LM0,eq_self,zab (h:=T68),zad,zac,zaa,zah,zai T135,TB,SB,Int.reduceToNat,Nat.reduceAdd,Nat.reduceEqDiff,Nat.reduceLT,Nat.reduceMod,Nat.reducePow,Nat.reduceSub,if_true,reduceIte]
   refine zaI ?_
   rw [decide_eq_true (List.ext_getElem hl fun i h1 h2=>by have:=hsame i h1;simpa [h1,h2] using this)]
section
variable {σ : zag} {K : AV → Prop} {KS : AV → zag → Prop} {id : Nat}
theorem zjj (o:Nat):zap T 34 (.ptr id o) 0 K=K (.ptr id (o+0)):=fzP T34 rfl rfl T32 (by decide) id o
theorem zjk (o:Nat):zap T 34 (.ptr id o) 1 K=K (.ptr id (o+1)):=fzP T34 rfl rfl T32 (by decide) id o
theorem zjl (o:Nat):zap T 34 (.ptr id o) 2 K=K (.ptr id (o+2)):=fzP T34 rfl rfl T9 (by decide) id o
theorem zjm (o:Nat):zap T 34 (.ptr id o) 3 K=K (.ptr id (o+3)):=fzP T34 rfl rfl T3 (by decide) id o
theorem zjn (cs:List AV):zap T 78 (.rp cs) 0 K=K (.rp (cs.drop 0)):=fzR T78 rfl rfl T9 (by decide) cs
theorem zjo (cs:List AV):zap T 78 (.rp cs) 1 K=K (.rp (cs.drop 1)):=fzR T78 rfl rfl T9 (by decide) cs
theorem lw_Z (a b c d:AV):ld2 (some tyS9) (some [a,b,c,d]) 0 K=K (.agg [a,b,c,d]):=lzW rfl rfl
theorem al_Z (e:TypeId):al1 T e (some tyS9) σ KS=KS (.ptr σ.length 0) (σ++[.rw [.lit (.slice none 0 0),.lit (.slice none 0 0),str [],i64 0]]):=rfl
end
theorem rsameS_ok (s t:Sv) (h1:s.blobs.length≤1000000000000) (h2:s.cells.length≤1000000000000):ACalls Tryz.prog 20 [svA s,svA t] [] (fun y _=>y=.ret (bl (decide (s=t)))):=by
 have hb:=rsameI_ok s.blobs t.blobs h1
 have hc:=rsameI_ok s.cells t.cells h2
 obtain⟨b1,c1,d1,n1⟩:=s
 obtain⟨b2,c2,d2,n2⟩:=t
 dsimp only at hb hc
 rw [zbZ,zbZ,zbl,zbl,zbl,zbl]
 dsimp only
 refine ACalls.body T_ok Tryz.func20 (by kernel_rfl) rfl Tryz.ntmps20 (congrArg Array.toList Tryz.results20) ?_
 try simp -implicitDefEqProofs only [LM0,eq_self,zab (h:=T68),zad,zac,zaa,zah,zai T135,zjj,zjk,zjl,zjm,zjn,zjo,lw_Z,al_Z,TB,SB,Int.reduceToNat,Nat.reduceAdd,Nat.reduceEqDiff,Nat.reduceLT,Nat.reduceMod,Nat.reducePow,Nat.reduceSub,if_true,reduceIte]
 refine hb.pure (by simp [renL,zaH,AV.ren]) ?_
 rintro _ σ rfl
 refine⟨zax _ _,?_⟩
 by_cases g3:b1=b2
 rotate_left
 ·rw [decide_eq_false g3]
  try simp -implicitDefEqProofs only [LM0,eq_self,zab (h:=T68),zad,zac,zaa,zah,zai T135,zjj,zjk,zjl,zjm,zjn,zjo,lw_Z,al_Z,TB,SB,Int.reduceToNat,Nat.reduceAdd,Nat.reduceEqDiff,Nat.reduceLT,Nat.reduceMod,Nat.reducePow,Nat.reduceSub,if_true,reduceIte]
  exact zaI (by rw [decide_eq_false (fun h=>g3 (by injection h))])
 rw [decide_eq_true g3]
 try simp -implicitDefEqProofs only [LM0,eq_self,zab (h:=T68),zad,zac,zaa,zah,zai T135,zjj,zjk,zjl,zjm,zjn,zjo,lw_Z,al_Z,TB,SB,Int.reduceToNat,Nat.reduceAdd,Nat.reduceEqDiff,Nat.reduceLT,Nat.reduceMod,Nat.reducePow,Nat.reduceSub,if_true,reduceIte]
 refine hc.pure (by simp [renL,zaH,AV.ren]) ?_
 rintro _ σ rfl
 refine⟨zax _ _,?_⟩
 by_cases g4:c1=c2
 rotate_left
 ·rw [decide_eq_false g4]
  try simp -implicitDefEqProofs only [LM0,eq_self,zab (h:=T68),zad,zac,zaa,zah,zai T135,zjj,zjk,zjl,zjm,zjn,zjo,lw_Z,al_Z,TB,SB,Int.reduceToNat,Nat.reduceAdd,Nat.reduceEqDiff,Nat.reduceLT,Nat.reduceMod,Nat.reducePow,Nat.reduceSub,if_true,reduceIte]
  exact zaI (by rw [decide_eq_false (fun h=>g4 (by injection h))])
 rw [decide_eq_true g4]
 by_cases g1:d1=d2
 rotate_left
 ·have e1:=decide_eq_false g1
  try simp -implicitDefEqProofs only [LM0,eq_self,zab (h:=T68),zad,zac,zaa,zah,zai T135,zjj,zjk,zjl,zjm,zjn,zjo,lw_Z,al_Z,e1,TB,SB,Int.reduceToNat,Nat.reduceAdd,Nat.reduceEqDiff,Nat.reduceLT,Nat.reduceMod,Nat.reducePow,Nat.reduceSub,if_true,reduceIte]
  exact zaI (by rw [decide_eq_false (fun h=>g1 (by injection h))])
 have e1:=decide_eq_true g1
 try simp -implicitDefEqProofs only [LM0,eq_self,zab (h:=T68),zad,zac,zaa,zah,zai T135,zjj,zjk,zjl,zjm,zjn,zjo,lw_Z,al_Z,e1,TB,SB,Int.reduceToNat,Nat.reduceAdd,Nat.reduceEqDiff,Nat.reduceLT,Nat.reduceMod,Nat.reducePow,Nat.reduceSub,if_true,reduceIte]
 refine zaI ?_
 subst g1 g3 g4
 by_cases g2:n1=n2
 ·rw [decide_eq_true g2,decide_eq_true (by rw [g2])]
 ·rw [decide_eq_false g2,decide_eq_false (fun h=>g2 (by injection h))]
end Go.Proofs.YtdmiflfhaobngaaGreatDoor
end

section
namespace Go.Proofs.YtdmiflfhaobngaaGreatDoor
open Go Go.Eng
set_option linter.defProp false in
def LB32:=And.intro @zjj (And.intro @zjk (And.intro @zjl (And.intro @zjm (And.intro @zjn (And.intro @zjo (And.intro @lw_Z (@al_Z)))))))
theorem zak {t:TypeId} {K:AV→Prop} (a b:List UInt8):wbin T .geq t (str a) (str b) K=K (bl (!decide (a < b))):=by
 have:wbin T .geq t (str a) (str b) K=K (bl (!Op.bytesLess a b)):=by simp [wbin,str,strV,bl]
 rw [this,Go.Proofs.bytesLess_eq]
theorem mayI_iff (x:It):mayI x=true ↔ ¬ (x.label.length:Int) < 1∧¬ 64 < (x.label.length:Int)∧¬ 8192 < (x.box.length:Int):=by
 simp only [mayI,ze1,Bool.and_eq_true,decide_eq_true_eq]
 omega
theorem ritems_ok (l:List It) (hl:l.length≤9223372036854775807):ACalls Tryz.prog 42 [.sl (l.flatMap itC) l.length] [] (fun y _=>y=.ret (bl (allI l))):=by
 refine ACalls.body T_ok Tryz.func42 (by kernel_rfl) rfl Tryz.ntmps42 (congrArg Array.toList Tryz.results42) ?_
 try simp -implicitDefEqProofs only [LM0,LB32,eq_self,zab (h:=T68),zad,zac,zaa,zah,zai T135,zak,TB,SB,Int.reduceToNat,Nat.reduceAdd,Nat.reduceEqDiff,Nat.reduceLT,Nat.reduceMod,Nat.reducePow,Nat.reduceSub,if_true,reduceIte]
 rw [za9]
 refine⟨Nat,fun k=>k≤l.length∧zjg l k,fun k=>[.sl (l.flatMap itC) l.length,.bot,bl false,i64 k,.bot,.bot,.bot,.bot,.bot,.bot,.bot,.bot,.bot,.bot,.bot,.bot,.bot,.bot,.bot,.bot,.bot,.bot,.bot,.bot,.bot,.bot,.bot,.bot,.bot,.bot,.bot,.bot,.bot,.bot,.bot,.bot,.bot,.bot,.bot,.bot,.bot,.bot,.bot,.bot,.bot,.bot,.bot,.bot,.bot,.bot,.bot,.bot,.bot,.bot,.bot,.bot],fun _=>[],fun k=>l.length - k,0,⟨Nat.zero_le _,fun j h=>absurd h (by omega)⟩,zal (q:=[]) rfl rfl (by decide) ?_ ?_,?_⟩
 ·skip
  try simp only [FB,AV.ren,Nat.reduceAdd,reduceCtorEq]
  simp [zaH,AV.ren,renL]
 ·skip
  try simp only [FB,AV.ren,Nat.reduceAdd,reduceCtorEq]
 ·rintro k ⟨hk,hj⟩
  by_cases c0:(k:Int) < l.length
  rotate_left
  ·have d0:=decide_eq_false c0
   obtain rfl:k=l.length:=by omega
   try simp -implicitDefEqProofs only [LM0,LB32,eq_self,zab (h:=T68),zad,zac,zaa,zah,zai T135,zak,d0,TB,SB,Int.reduceToNat,Nat.reduceAdd,Nat.reduceEqDiff,Nat.reduceLT,Nat.reduceMod,Nat.reducePow,Nat.reduceSub,if_true,reduceIte]
   refine zaI ?_
   rw [allI,decide_eq_true hj,Bool.true_and]
  have d0:=decide_eq_true c0
  have hk2:k < l.length:=by omega
  have bad1:mayI (l.getD k i0)=false→allI l=false:=fun hm=>by
   rw [allI,decide_eq_false (fun h=>by have:=(h k hk2).1;rw [hm] at this;cases this)]
   rfl
  have hmi:=mayI_iff (l.getD k i0)
  have bad2:¬ mayI (l.getD k i0)=true→endQ 0 (bl false) [] (fun r _=>AEnd.ret r=.ret (bl (allI l))):=fun h=>zaI (by rw [bad1 (by simpa using h)])
  try simp -implicitDefEqProofs only [LM0,LB32,eq_self,zab (h:=T68),zad,zac,zaa,zah,zai T135,zak,d0,TB,SB,Int.reduceToNat,Nat.reduceAdd,Nat.reduceEqDiff,Nat.reduceLT,Nat.reduceMod,Nat.reducePow,Nat.reduceSub,if_true,reduceIte]
  by_cases c1:((l.getD k i0).label.length:Int) < 1
  ·have d1:=decide_eq_true c1
   refine zcb (by kernel_rfl) (by kernel_rfl) ?_
   try simp -implicitDefEqProofs only [LM0,LB32,eq_self,zab (h:=T68),zad,zac,zaa,zah,zai T135,zak,d1,TB,SB,Int.reduceToNat,Nat.reduceAdd,Nat.reduceEqDiff,Nat.reduceLT,Nat.reduceMod,Nat.reducePow,Nat.reduceSub,if_true,reduceIte]
   repeat (with_reducible refine zaW ?_)
   exact bad2 (fun h=>(hmi.1 h).1 c1)
  have d1:=decide_eq_false c1
  by_cases c2:64 < ((l.getD k i0).label.length:Int)
  ·have d2:=decide_eq_true c2
   refine zcb (by kernel_rfl) (by kernel_rfl) ?_
   try simp -implicitDefEqProofs only [LM0,LB32,eq_self,zab (h:=T68),zad,zac,zaa,zah,zai T135,zak,d1,d2,TB,SB,Int.reduceToNat,Nat.reduceAdd,Nat.reduceEqDiff,Nat.reduceLT,Nat.reduceMod,Nat.reducePow,Nat.reduceSub,if_true,reduceIte]
   repeat (with_reducible refine zaW ?_)
   exact bad2 (fun h=>(hmi.1 h).2.1 c2)
  have d2:=decide_eq_false c2
  by_cases c3:8192 < ((l.getD k i0).box.length:Int)
  ·have d3:=decide_eq_true c3
   refine zcb (by kernel_rfl) (by kernel_rfl) ?_
   try simp -implicitDefEqProofs only [LM0,LB32,eq_self,zab (h:=T68),zad,zac,zaa,zah,zai T135,zak,d1,d2,d3,TB,SB,Int.reduceToNat,Nat.reduceAdd,Nat.reduceEqDiff,Nat.reduceLT,Nat.reduceMod,Nat.reducePow,Nat.reduceSub,if_true,reduceIte]
   repeat (with_reducible refine zaW ?_)
   exact bad2 (fun h=>(hmi.1 h).2.2 c3)
  have d3:=decide_eq_false c3
  have hm:=hmi.2 ⟨c1,c2,c3⟩
  by_cases c4:0 < (k:Int)
  rotate_left
  ·have d4:=decide_eq_false c4
   refine zcb (by kernel_rfl) (by kernel_rfl) ?_
   try simp -implicitDefEqProofs only [LM0,LB32,eq_self,zab (h:=T68),zad,zac,zaa,zah,zai T135,zak,d1,d2,d3,d4,TB,SB,Int.reduceToNat,Nat.reduceAdd,Nat.reduceEqDiff,Nat.reduceLT,Nat.reduceMod,Nat.reducePow,Nat.reduceSub,if_true,reduceIte]
   repeat (with_reducible refine zaW ?_)
   rw [zan]
   refine⟨k+1,⟨by omega,riseS hj hm (fun h=>absurd h (by omega))⟩,by (show l.length - (k+1) < l.length - k);omega,zal (q:=[]) rfl rfl (by decide) ?_ ?_⟩
   ·skip
    try simp only [FB,AV.ren,Nat.reduceAdd,reduceCtorEq]
    simp [zaH,AV.ren,renL]
   ·skip
    try simp only [FB,AV.ren,Nat.reduceAdd,reduceCtorEq]
  have d4:=decide_eq_true c4
  have e1:((k:Int) - 1).toNat=k - 1:=by omega
  by_cases c5:(l.getD (k - 1) i0).label < (l.getD k i0).label
  rotate_left
  ·have d5:=decide_eq_false c5
   refine zcb (by kernel_rfl) (by kernel_rfl) ?_
   try simp -implicitDefEqProofs only [LM0,LB32,eq_self,zab (h:=T68),zad,zac,zaa,zah,zai T135,zak,d1,d2,d3,d4,d5,e1,TB,SB,Int.reduceToNat,Nat.reduceAdd,Nat.reduceEqDiff,Nat.reduceLT,Nat.reduceMod,Nat.reducePow,Nat.reduceSub,if_true,reduceIte]
   repeat (with_reducible refine zaW ?_)
   exact zaI (by rw [allI,decide_eq_false (fun h=>c5 ((h k hk2).2 (by omega)))];rfl)
  have d5:=decide_eq_true c5
  refine zcb (by kernel_rfl) (by kernel_rfl) ?_
  try simp -implicitDefEqProofs only [LM0,LB32,eq_self,zab (h:=T68),zad,zac,zaa,zah,zai T135,zak,d1,d2,d3,d4,d5,e1,TB,SB,Int.reduceToNat,Nat.reduceAdd,Nat.reduceEqDiff,Nat.reduceLT,Nat.reduceMod,Nat.reducePow,Nat.reduceSub,if_true,reduceIte]
  repeat (with_reducible refine zaW ?_)
  rw [zan]
  refine⟨k+1,⟨by omega,riseS hj hm (fun _=>c5)⟩,by (show l.length - (k+1) < l.length - k);omega,zal (q:=[]) rfl rfl (by decide) ?_ ?_⟩
  ·skip
   try simp only [FB,AV.ren,Nat.reduceAdd,reduceCtorEq]
   simp [zaH,AV.ren,renL]
  ·skip
   try simp only [FB,AV.ren,Nat.reduceAdd,reduceCtorEq]
end Go.Proofs.YtdmiflfhaobngaaGreatDoor
end

section
namespace Go.Proofs.YtdmiflfhaobngaaGreatDoor
open Go Go.Eng
theorem rchk_ok (s:Sv) (h1:s.blobs.length≤9223372036854775807) (h2:s.cells.length≤9223372036854775807):ACalls Tryz.prog 19 [svA s] [] (fun y _=>y=.ret (bl (chkS s))):=by
 have hb:=ritems_ok s.blobs h1
 have hc:=ritems_ok s.cells h2
 have hX:chkS s=(allI s.blobs && (allI s.cells && (decide ((s.head.length:Int)=32) && (decide (0≤s.n) && decide (s.n≤1073741824))))):=by
  unfold chkS
  rw [show decide ((s.head.length:Int)=32)=decide (s.head.length=32) by congr 1;apply propext;omega]
 generalize chkS s=X at hX ⊢
 obtain⟨sb,sc,sh,sn⟩:=s
 dsimp only at hb hc hX
 simp only [zbZ,zbl]
 refine ACalls.body T_ok Tryz.func19 (by kernel_rfl) rfl Tryz.ntmps19 (congrArg Array.toList Tryz.results19) ?_
 try simp -implicitDefEqProofs only [LM0,LB32,eq_self,zab (h:=T68),zad,zac,zaa,zah,zai T135,zak,TB,SB,Int.reduceToNat,Nat.reduceAdd,Nat.reduceEqDiff,Nat.reduceLT,Nat.reduceMod,Nat.reducePow,Nat.reduceSub,if_true,reduceIte]
 refine hb.pure (by simp [renL,zaH,AV.ren]) ?_
 rintro _ σ rfl
 refine⟨zax _ _,?_⟩
 cases g1:allI sb with
 | false =>
  try simp -implicitDefEqProofs only [LM0,LB32,eq_self,zab (h:=T68),zad,zac,zaa,zah,zai T135,zak,TB,SB,Int.reduceToNat,Nat.reduceAdd,Nat.reduceEqDiff,Nat.reduceLT,Nat.reduceMod,Nat.reducePow,Nat.reduceSub,if_true,reduceIte]
  exact zaI (by rw [hX,g1];rfl)
 | true =>
 try simp -implicitDefEqProofs only [LM0,LB32,eq_self,zab (h:=T68),zad,zac,zaa,zah,zai T135,zak,TB,SB,Int.reduceToNat,Nat.reduceAdd,Nat.reduceEqDiff,Nat.reduceLT,Nat.reduceMod,Nat.reducePow,Nat.reduceSub,if_true,reduceIte]
 refine hc.pure (by simp [renL,zaH,AV.ren]) ?_
 rintro _ σ rfl
 refine⟨zax _ _,?_⟩
 cases g2:allI sc with
 | false =>
  try simp -implicitDefEqProofs only [LM0,LB32,eq_self,zab (h:=T68),zad,zac,zaa,zah,zai T135,zak,TB,SB,Int.reduceToNat,Nat.reduceAdd,Nat.reduceEqDiff,Nat.reduceLT,Nat.reduceMod,Nat.reducePow,Nat.reduceSub,if_true,reduceIte]
  exact zaI (by rw [hX,g1,g2];rfl)
 | true =>
 rw [g1,g2,Bool.true_and,Bool.true_and] at hX
 by_cases c1:(sh.length:Int)=32
 rotate_left
 ·have d1:=decide_eq_false c1
  try simp -implicitDefEqProofs only [LM0,LB32,eq_self,zab (h:=T68),zad,zac,zaa,zah,zai T135,zak,d1,TB,SB,Int.reduceToNat,Nat.reduceAdd,Nat.reduceEqDiff,Nat.reduceLT,Nat.reduceMod,Nat.reducePow,Nat.reduceSub,if_true,reduceIte]
  exact zaI (by rw [hX,d1];rfl)
 have d1:=decide_eq_true c1
 by_cases c2:0≤sn
 rotate_left
 ·have d2:=decide_eq_false c2
  try simp -implicitDefEqProofs only [LM0,LB32,eq_self,zab (h:=T68),zad,zac,zaa,zah,zai T135,zak,d1,d2,TB,SB,Int.reduceToNat,Nat.reduceAdd,Nat.reduceEqDiff,Nat.reduceLT,Nat.reduceMod,Nat.reducePow,Nat.reduceSub,if_true,reduceIte]
  exact zaI (by rw [hX,d1,d2];rfl)
 have d2:=decide_eq_true c2
 try simp -implicitDefEqProofs only [LM0,LB32,eq_self,zab (h:=T68),zad,zac,zaa,zah,zai T135,zak,d1,d2,TB,SB,Int.reduceToNat,Nat.reduceAdd,Nat.reduceEqDiff,Nat.reduceLT,Nat.reduceMod,Nat.reducePow,Nat.reduceSub,if_true,reduceIte]
 exact zaI (by rw [hX,d1,d2,Bool.true_and,Bool.true_and])
end Go.Proofs.YtdmiflfhaobngaaGreatDoor
end

