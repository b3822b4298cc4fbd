/-
  The reader's parts. No condition.
-/
import Derived.Test.YtcahoelfogjljaaGreatDoorTerB
set_option linter.unusedSimpArgs false
set_option linter.unusedVariables false
set_option linter.unusedSectionVars false
section
namespace Go.Eng
open Go
theorem aQ2 {a b:zaa} {c:Nat} {d:zaa} (p:List Nat) (e:zaq a b p p c d:=by simp [LM1,zal,zaq,zae,zaf,renL,AV.ren,AEnd.ren,zgK,zau,zaj,zac,wI,wO,zab,zad,List.getElem?_cons_zero,List.getElem?_cons_succ]):zaq a b p p c d:=e
theorem aQ3 {a b:zaa} {c:Nat} {d:zaa} (p:List Nat) (e:zaq a b p p c d:=by simp [LM1,zal,zaq,zae,zaf,renL,AV.ren,AEnd.ren,zao,fS,gS,cC,nilS,zau,zaj,zac,wI,wO,zab,zad,List.getElem?_cons_zero,List.getElem?_cons_succ]):zaq a b p p c d:=e
theorem aQ9 {a b:AEnd} (p:List Nat) (e:AEnd.ren p a b:=by first | rfl | simp [LM1,zal,zaq,zae,zaf,renL,AV.ren,AEnd.ren,zgK,zau,zaj,zac,wI,wO,zab,zad,List.getElem?_cons_zero,List.getElem?_cons_succ]):AEnd.ren p a b:=e
theorem aQ10 {a b:AEnd} (p:List Nat) (e:AEnd.ren p a b:=by first | rfl | simp [LM1,zal,zaq,zae,zaf,renL,AV.ren,AEnd.ren,zao,fS,gS,cC,nilS,zau,zaj,zac,wI,wO,zab,zad,List.getElem?_cons_zero,List.getElem?_cons_succ]):AEnd.ren p a b:=e
theorem aQ17 {P:Prop} (e:P:=by simp [zal,zaD,bren_dead,cC,nilS,renL,AV.ren,zag,zam,zao,zau,zac,oC]):P:=e
theorem aQ18 {P:Prop} (e:P:=by simp only [List.length_singleton];omega):P:=e
theorem aQ19 {P:Prop} (e:P:=by simp [LB9,LB10,zal,cC,nilS,renL,AV.ren,zao,zau,zac,-List.flatMap_append,-List.flatMap_cons]):P:=e
theorem aQ33 {P Q:Prop} (h:Q) (e:P=Q:=by first|(simp -implicitDefEqProofs only [LM7,eq_self,zaA,set_c1,len_cC,fa_c0 T158,fa_c1 T158,fa_c2 T158,fa_c3 T158,ld_c0,ld_c1,ld_c2,ld_c3,st_c2,st_c3,zbu T191,TB,SB,Int.reduceToNat,Nat.reduceAdd,Nat.reduceEqDiff,Nat.reduceLT,Nat.reduceMod,Nat.reducePow,Nat.reduceSub,if_true,reduceIte];first|done|exact rfl)|exact rfl):P:=e ▸ h
theorem aQ34 {P Q:Prop} (h:Q) (e:P=Q:=by first|(simp -implicitDefEqProofs only [LM2,eq_self,zaA,zbu T191,TB,SB,Int.reduceToNat,Nat.reduceAdd,Nat.reduceEqDiff,Nat.reduceLT,Nat.reduceMod,Nat.reducePow,Nat.reduceSub,if_true,reduceIte];first|done|exact rfl)|exact rfl):P:=e ▸ h
theorem aQ35 {P Q:Prop} (h:Q) (e:P=Q:=by first|(simp -implicitDefEqProofs only [LM2,eq_self,zaA,zbu T191,bs_u8_0,TB,SB,Int.reduceToNat,Nat.reduceAdd,Nat.reduceEqDiff,Nat.reduceLT,Nat.reduceMod,Nat.reducePow,Nat.reduceSub,if_true,reduceIte];first|done|exact rfl)|exact rfl):P:=e ▸ h
theorem aQ36 {P Q:Prop} (h:Q) (e:P=Q:=by first|(simp -implicitDefEqProofs only [LM2,eq_self,zaA,zbu T191,zah,TB,SB,Int.reduceToNat,Nat.reduceAdd,Nat.reduceEqDiff,Nat.reduceLT,Nat.reduceMod,Nat.reducePow,Nat.reduceSub,if_true,reduceIte];first|done|exact rfl)|exact rfl):P:=e ▸ h
theorem aQ37 {P Q:Prop} (h:Q) (e:P=Q:=by first|(simp -implicitDefEqProofs only [LM2,eq_self,zaA,zbu T191,al_c,bd_c T158,st_c (cC [] 0 nilS nilS) rfl,bd_nn T51,nilB_cgu,TB,SB,Int.reduceToNat,Nat.reduceAdd,Nat.reduceEqDiff,Nat.reduceLT,Nat.reduceMod,Nat.reducePow,Nat.reduceSub,if_true,reduceIte];first|done|exact rfl)|exact rfl):P:=e ▸ h
theorem aQ38 {P Q:Prop} (h:Q) (e:P=Q:=by first|(simp -implicitDefEqProofs only [LM6,eq_self,zaA,zbu T191,bd_op T193,qb_n1,qb_o1,len_nilS,TB,SB,Int.reduceToNat,Nat.reduceAdd,Nat.reduceEqDiff,Nat.reduceLT,Nat.reduceMod,Nat.reducePow,Nat.reduceSub,if_true,reduceIte];first|done|exact rfl)|exact rfl):P:=e ▸ h
theorem aQ39 {P Q:Prop} (h:Q) (e:P=Q:=by first|(simp -implicitDefEqProofs only [LM6,eq_self,zaA,zbu T191,TB,SB,Int.reduceToNat,Nat.reduceAdd,Nat.reduceEqDiff,Nat.reduceLT,Nat.reduceMod,Nat.reducePow,Nat.reduceSub,if_true,reduceIte];first|done|exact rfl)|exact rfl):P:=e ▸ h
theorem aQ40 {P Q:Prop} (h:Q) (e:P=Q:=by first|(simp -implicitDefEqProofs only [LM6,eq_self,zaA,zbu T191,zan,TB,SB,Int.reduceToNat,Nat.reduceAdd,Nat.reduceEqDiff,Nat.reduceLT,Nat.reduceMod,Nat.reducePow,Nat.reduceSub,if_true,reduceIte];first|done|exact rfl)|exact rfl):P:=e ▸ h
end Go.Eng
end

section
namespace Go.Proofs.YtcahoelfogjljaaGreatDoor
open Go Go.Eng
def cC (s:List UInt8) (p:Int) (a b:AV):List AV:=[str s,i64 p,a,b]
def oC (o:Nat × List UInt8):List AV:=[i64 o.1,str o.2]
def cgu:AV:=.ifc 191 (.agg [])
theorem zaj (q:List Nat):cgu.ren q=some cgu:=rfl
theorem zbP (q:List Nat) (o:Nat × List UInt8):renL q (oC o)=some (oC o):=by simp [oC,renL,zam,zag]
theorem zau (q:List Nat):∀ O:List (Nat × List UInt8),renL q (O.flatMap oC)=some (O.flatMap oC)
 | []=>rfl
 | o::O=>by
  have:=zau q O
  simp only [List.flatMap_cons,oC,List.cons_append,List.nil_append,renL,zam,zag,this]
  rfl
theorem zgK {q:List Nat} {s:List UInt8} {p:Int} {a b a' b':AV} (ha:a.ren q=some a') (hb:b.ren q=some b'):renL q (cC s p a b)=some (cC s p a' b'):=by
 simp [cC,renL,zam,zag,ha,hb]
section
variable {s : List UInt8} {p : Int} {a b x y : AV} {K : AV → Prop} {KS : AV → zaa → Prop} {σ : zaa} {t e : TypeId} {id : Nat}
theorem fa_c0 (ht:T t=some tyCr):zai T t (.ptr id 0) 0 K=K (.ptr id 0):=by simp [zai,ht,tyCr,T9,tyStr]
theorem fa_c1 (ht:T t=some tyCr):zai T t (.ptr id 0) 1 K=K (.ptr id 1):=by simp [zai,ht,tyCr,T3,zaF]
theorem fa_c2 (ht:T t=some tyCr):zai T t (.ptr id 0) 2 K=K (.ptr id 2):=by simp [zai,ht,tyCr,T22,tySl]
theorem fa_c3 (ht:T t=some tyCr):zai T t (.ptr id 0) 3 K=K (.ptr id 3):=by simp [zai,ht,tyCr,T156,tySl]
theorem ld_c0:ld2 (some tyStr) (some (cC s p a b)) 0 K=K (str s):=by simp [ld2,wfin,tyStr,TD.agg,cC]
theorem ld_c1:ld2 (some zaF) (some (cC s p a b)) 1 K=K (i64 p):=by simp [ld2,wfin,zaF,TD.agg,cC]
theorem ld_c2:ld2 (some (tySl e)) (some (cC s p a b)) 2 K=K a:=by simp [ld2,wfin,tySl,TD.agg,cC]
theorem ld_c3:ld2 (some (tySl e)) (some (cC s p a b)) 3 K=K b:=by simp [ld2,wfin,tySl,TD.agg,cC]
theorem st_c2 (i o n z:Nat):st2 (some (tySl e)) (some (.rw (cC s p a b))) id 2 (.ref i o n z) σ KS=KS (.lit undef) (σ.set id (.rw (cC s p (.ref i o n z) b))):=by
 simp [st2,tySl,cC,AV.cells,AV.one,zaW]
theorem st_c3 (i o n z:Nat):st2 (some (tySl e)) (some (.rw (cC s p a b))) id 3 (.ref i o n z) σ KS=KS (.lit undef) (σ.set id (.rw (cC s p a (.ref i o n z)))):=by
 simp [st2,tySl,cC,AV.cells,AV.one,zaW]
end
theorem set_c1 (s:List UInt8) (p k:Int) (a b:AV):(cC s p a b).set 1 (i64 k)=cC s k a b:=rfl
theorem len_cC (s:List UInt8) (p:Int) (a b:AV):(cC s p a b).length=4:=rfl
def fS (s:List UInt8) (p:Int):zaa:=[.rw (cC s p nilS nilS)]
def gS (s:List UInt8) (p:Int) (l:List Nd) (m:Nat) (O:List (Nat × List UInt8)):zaa:=[.rw (cC s p (.ref 1 0 l.length 4) (.ref 2 0 m 2)),.rw (l.flatMap nC),.rw (O.flatMap oC)]
theorem zfd {s:List UInt8} {p:Int} {rest:zaa} {x:AV} {K:AV→zaa→Prop} (hx:x.ren [0]=some x) (h:K x (fS s p)):endQ 1 x (.rw (cC s p nilS nilS)::rest) K:=by
 refine zbk [0] x (fS s p) rfl rfl (by decide) hx ⟨.inr ⟨_,?_,rfl⟩,trivial⟩ h
 rw [zaD,zgK rfl rfl]
 rfl
theorem zeM {s:List UInt8} {p:Int} {l:List Nd} {m:Nat} {O:List (Nat × List UInt8)} {rest:zaa} {x:AV} {K:AV→zaa→Prop} (hx:x.ren [0,1,2]=some x) (h:K x (gS s p l m O)):endQ 3 x (.rw (cC s p (.ref 1 0 l.length 4) (.ref 2 0 m 2))::.rw (l.flatMap nC)::.rw (O.flatMap oC)::rest) K:=by
 refine zbk [0,1,2] x (gS s p l m O) rfl rfl (by decide) hx ⟨.inr ⟨_,?_,rfl⟩,.inr ⟨_,?_,rfl⟩,.inr ⟨_,?_,rfl⟩,trivial⟩ h
 ·rw [zaD,zgK rfl rfl]
  rfl
 ·rw [zaD,zao]
  rfl
 ·rw [zaD,zau]
  rfl
theorem zbc {n0:Nat} {x:AV} {σ:zaa} {K:AV→zaa→Prop} (hx:x.ren (List.range n0)=some x) (h:K x (List.replicate n0 .dead)):endQ n0 x σ K:=by
 refine zbk (List.range n0) x (List.replicate n0 .dead) (by simp) (by simp) List.nodup_range hx ?_ h
 have:∀ (q ks:List Nat) (xs:zaa),ks.length=xs.length→(∀ x,x∈xs→x=.dead)→zal σ q ks xs:=by
  intro q ks
  induction ks with
  | nil=>intro xs h1 _;match xs,h1 with | [],_=>trivial
  | cons k ks ih =>
   intro xs h1 h2
   match xs,h1 with
   | x::xs,h1=>exact⟨.inl (h2 x (by simp)),ih xs (by simpa using h1) fun y hy=>h2 y (by simp [hy])⟩
 exact this _ _ _ (by simp) (by simp)
theorem ftake_ok (s:List UInt8) (p n:Nat) (hs:s.length≤1000000000000) (hp:p+n≤s.length):ACalls Tryz.prog 139 [.ptr 0 0,i64 n] (fS s p) (fun x σ=>x=.ret (str ((s.drop p).take n))∧σ=(fS s ((p+n:Nat):Int))):=by
 unfold fS
 refine ACalls.body T_ok Tryz.func139 (by kernel_rfl) rfl Tryz.ntmps139 (congrArg Array.toList Tryz.results139) ?_
 refine aQ33 ?_
 refine za0 (by kernel_rfl) (by kernel_rfl) ?_
 refine aQ33 ?_
 refine⟨by unfold inI;omega,fun h=>absurd h (by omega),fun _=>⟨by unfold inI;omega,?_⟩⟩
 refine za0 (by kernel_rfl) (by kernel_rfl) ?_
 refine aQ33 ?_
 have e1:((p:Int)+n - n).toNat=p:=by omega
 have e2:((p:Int)+n).toNat=p+n:=by omega
 refine⟨by unfold inI;omega,by omega,by omega,by omega,?_⟩
 rw [e1,e2,List.drop_take]
 have e3:p+n - p=n:=by omega
 rw [e3]
 exact zfd (zag _ _) ⟨rfl,rfl⟩
theorem ftake_no (s:List UInt8) (p n:Nat) (hs:s.length≤1000000000000) (hq:p≤s.length) (hn:n≤1000) (hp:s.length < p+n):ACalls Tryz.prog 139 [.ptr 0 0,i64 n] (fS s p) (fun x σ=>x=.pan cgu∧σ=[Blk.dead]):=by
 unfold fS
 refine ACalls.body T_ok Tryz.func139 (by kernel_rfl) rfl Tryz.ntmps139 (congrArg Array.toList Tryz.results139) ?_
 refine aQ33 ?_
 refine za0 (by kernel_rfl) (by kernel_rfl) ?_
 refine aQ33 ?_
 exact⟨by unfold inI;omega,fun _=>zbc (zaj _) ⟨rfl,rfl⟩,fun h=>absurd h (by omega)⟩
theorem ziI (s:List UInt8) (p:Nat) (hs:s.length≤1000000000000) (hp:p < s.length):ACalls Tryz.prog 137 [.ptr 0 0] (fS s p) (fun x σ=>x=.ret (u8 (s.getD p 0))∧σ=(fS s ((p+1:Nat):Int))):=by
 refine ACalls.body T_ok Tryz.func137 (by kernel_rfl) rfl Tryz.ntmps137 (congrArg Array.toList Tryz.results137) ?_
 refine aQ33 ?_
 refine(ftake_ok s p 1 hs (by omega)).mono ?_
 rintro _ _ ⟨rfl,rfl⟩
 refine aQ33 ?_
 have e1:((s.drop p).take 1).getD 0 0=s.getD p 0:=by
  simp only [List.getD_eq_getElem?_getD,List.getElem?_take,List.getElem?_drop]
  simp
 refine⟨by omega,by rw [List.length_take,List.length_drop];omega,?_⟩
 rw [e1]
 exact zfd (za8 _ _) ⟨rfl,rfl⟩
theorem ziJ (s:List UInt8) (p:Nat) (hs:s.length≤1000000000000) (hp:s.length=p):ACalls Tryz.prog 137 [.ptr 0 0] (fS s p) (fun x σ=>x=.pan cgu∧σ=[Blk.dead]):=by
 refine ACalls.body T_ok Tryz.func137 (by kernel_rfl) rfl Tryz.ntmps137 (congrArg Array.toList Tryz.results137) ?_
 refine aQ33 ?_
 refine(ftake_no s p 1 hs (by omega) (by omega) (by omega)).mono ?_
 rintro _ _ ⟨rfl,rfl⟩
 refine aQ33 ?_
 exact zbc (zaj _) ⟨rfl,rfl⟩
theorem gtake_ok (s:List UInt8) (p n:Nat) (l:List Nd) (m:Nat) (O:List (Nat × List UInt8)) (hs:s.length≤1000000000000) (hp:p+n≤s.length):ACalls Tryz.prog 139 [.ptr 0 0,i64 n] (gS s p l m O) (fun x σ=>x=.ret (str ((s.drop p).take n))∧σ=(gS s ((p+n:Nat):Int) l m O)):=by
 unfold gS
 refine ACalls.body T_ok Tryz.func139 (by kernel_rfl) rfl Tryz.ntmps139 (congrArg Array.toList Tryz.results139) ?_
 refine aQ33 ?_
 refine za0 (by kernel_rfl) (by kernel_rfl) ?_
 refine aQ33 ?_
 refine⟨by unfold inI;omega,fun h=>absurd h (by omega),fun _=>⟨by unfold inI;omega,?_⟩⟩
 refine za0 (by kernel_rfl) (by kernel_rfl) ?_
 refine aQ33 ?_
 have e1:((p:Int)+n - n).toNat=p:=by omega
 have e2:((p:Int)+n).toNat=p+n:=by omega
 refine⟨by unfold inI;omega,by omega,by omega,by omega,?_⟩
 rw [e1,e2,List.drop_take]
 have e3:p+n - p=n:=by omega
 rw [e3]
 exact zeM (zag _ _) ⟨rfl,rfl⟩
theorem gtake_no (s:List UInt8) (p n:Nat) (l:List Nd) (m:Nat) (O:List (Nat × List UInt8)) (hs:s.length≤1000000000000) (hq:p≤s.length) (hn:n≤1000) (hp:s.length < p+n):ACalls Tryz.prog 139 [.ptr 0 0,i64 n] (gS s p l m O) (fun x σ=>x=.pan cgu∧σ=[Blk.dead,Blk.dead,Blk.dead]):=by
 unfold gS
 refine ACalls.body T_ok Tryz.func139 (by kernel_rfl) rfl Tryz.ntmps139 (congrArg Array.toList Tryz.results139) ?_
 refine aQ33 ?_
 refine za0 (by kernel_rfl) (by kernel_rfl) ?_
 refine aQ33 ?_
 exact⟨by unfold inI;omega,fun _=>zbc (zaj _) ⟨rfl,rfl⟩,fun h=>absurd h (by omega)⟩
theorem ziK (s:List UInt8) (p:Nat) (l:List Nd) (m:Nat) (O:List (Nat × List UInt8)) (hs:s.length≤1000000000000) (hp:p < s.length):ACalls Tryz.prog 137 [.ptr 0 0] (gS s p l m O) (fun x σ=>x=.ret (u8 (s.getD p 0))∧σ=(gS s ((p+1:Nat):Int) l m O)):=by
 refine ACalls.body T_ok Tryz.func137 (by kernel_rfl) rfl Tryz.ntmps137 (congrArg Array.toList Tryz.results137) ?_
 refine aQ33 ?_
 refine(gtake_ok s p 1 l m O hs (by omega)).mono ?_
 rintro _ _ ⟨rfl,rfl⟩
 refine aQ33 ?_
 have e1:((s.drop p).take 1).getD 0 0=s.getD p 0:=by
  simp only [List.getD_eq_getElem?_getD,List.getElem?_take,List.getElem?_drop]
  simp
 refine⟨by omega,by rw [List.length_take,List.length_drop];omega,?_⟩
 rw [e1]
 exact zeM (za8 _ _) ⟨rfl,rfl⟩
theorem ziL (s:List UInt8) (p:Nat) (l:List Nd) (m:Nat) (O:List (Nat × List UInt8)) (hs:s.length≤1000000000000) (hp:s.length=p):ACalls Tryz.prog 137 [.ptr 0 0] (gS s p l m O) (fun x σ=>x=.pan cgu∧σ=[Blk.dead,Blk.dead,Blk.dead]):=by
 refine ACalls.body T_ok Tryz.func137 (by kernel_rfl) rfl Tryz.ntmps137 (congrArg Array.toList Tryz.results137) ?_
 refine aQ33 ?_
 refine(gtake_no s p 1 l m O hs (by omega) (by omega) (by omega)).mono ?_
 rintro _ _ ⟨rfl,rfl⟩
 refine aQ33 ?_
 exact zbc (zaj _) ⟨rfl,rfl⟩
end Go.Proofs.YtcahoelfogjljaaGreatDoor
end

section
namespace Go.Proofs.YtcahoelfogjljaaGreatDoor
open Go Go.Eng
def rdT:List UInt8→Option (List UInt8 × Nat)
 | []=>none
 | [_]=>none
 | c::b::r=>if c=0 then (if b=0 then some ([],2) else if b=255 then (rdT r).map fun x=>(0::x.1,x.2+2) else none) else (rdT (b::r)).map fun x=>(c::x.1,x.2+1)
theorem rdT_1 {c:UInt8} (h:c≠0) (r:List UInt8):rdT (c::r)=(rdT r).map fun x=>(c::x.1,x.2+1):=by
 cases r with
 | nil=>rfl
 | cons b r=>rw [rdT,if_neg h]
theorem ziM (r:List UInt8):rdT (0::0::r)=some ([],2):=by rw [rdT];rfl
theorem ziN (r:List UInt8):rdT (0::255::r)=(rdT r).map fun x=>(0::x.1,x.2+2):=by rw [rdT];rfl
theorem ziO {b:UInt8} (h0:b≠0) (h1:b≠255) (r:List UInt8):rdT (0::b::r)=none:=by rw [rdT,if_pos rfl,if_neg h0,if_neg h1]
theorem zfV:∀ {t:List UInt8},Lib.index t [0]=-1→rdT t=none
 | [],_=>rfl
 | c::t,h=>by
  by_cases hc:c=0
  ·subst hc;rw [idx_0] at h;cases h
  ·rw [idx_1 hc] at h
   have hge:=Lib.index_ge t [0]
   split at h
   ·rename_i h3
    rw [rdT_1 hc,zfV (by simpa using h3)]
    rfl
   ·omega
theorem zfW:∀ {t:List UInt8} {i:Nat},Lib.index t [0]=i→i < t.length∧t.drop i=0::t.drop (i+1)∧(∀ x,rdT (t.drop i)=x→rdT t=x.map fun y=>(t.take i++y.1,i+y.2))
 | [],i,h=>by simp [Lib.index] at h
 | c::t,i,h=>by
  by_cases hc:c=0
  ·subst hc
   rw [idx_0] at h
   obtain rfl:i=0:=by omega
   refine⟨by simp,rfl,fun x hx=>?_⟩
   rw [← hx]
   simp only [List.drop_zero,List.take_zero,List.nil_append,Nat.zero_add]
   cases rdT (0::t) <;> rfl
  ·rw [idx_1 hc] at h
   have hge:=Lib.index_ge t [0]
   split at h
   ·omega
   ·rename_i h3
    have h3':Lib.index t [0]≠-1:=by simpa using h3
    match i,h with
    | 0,h=>omega
    | i+1,h =>
     obtain⟨g1,g2,g3⟩:=zfW (t:=t) (i:=i) (by omega)
     refine⟨by simp only [List.length_cons];omega,by simpa using g2,fun x hx=>?_⟩
     rw [rdT_1 hc,g3 x (by simpa using hx)]
     cases x with
     | none=>rfl
     | some y=>simp;omega
theorem zgL (t:List UInt8) (h:t.length < 4294967281):ACalls Tryz.prog 160 [str t,str [0]] [] (fun x _=>x=.ret (.tup [str (Lib.cut t [0]).1,str (Lib.cut t [0]).2.1,bl (Lib.cut t [0]).2.2])):=by
 refine zcu 1 (by simp [Globs.ints]) (by kernel_rfl) fun w O m vs n hn hr=>?_
 simp only [reps,str,rep] at hr
 obtain⟨_,_,e1,rfl,_,_,rfl,rfl,rfl⟩:=hr
 have ev:vs=#[.string ⟨t.toArray⟩,.string ⟨[0].toArray⟩]:=by
  apply Array.ext'
  simpa using e1
 subst ev
 refine(Tryz.strings_Cut _ ⟨[0].toArray⟩ n w (by simpa [ByteArray.size] using h) hn).mono ?_
 rintro e w' ⟨rfl,k,rfl⟩
 refine⟨⟨_,rfl,fun w' O m=>?_⟩,⟨rfl,rfl,rfl,Nat.le_refl _,fun _ _=>rfl⟩⟩
 simp only [rep]
 exact⟨_,rfl,by simp [reps,rep,str,bl]⟩
end Go.Proofs.YtcahoelfogjljaaGreatDoor
end

section
namespace Go.Proofs.YtcahoelfogjljaaGreatDoor
open Go Go.Eng
set_option linter.defProp false in
def LB14:=And.intro @set_c1 (And.intro @len_cC (And.intro (fun {K} {id}=>@fa_c0 K _ id T158) (And.intro (fun {K} {id}=>@fa_c1 K _ id T158) (And.intro (fun {K} {id}=>@fa_c2 K _ id T158) (And.intro (fun {K} {id}=>@fa_c3 K _ id T158) (And.intro @ld_c0 (And.intro @ld_c1 (And.intro @ld_c2 (And.intro @ld_c3 (And.intro @st_c2 (@st_c3)))))))))))
set_option linter.defProp false in
def LM2:=And.intro LM0 (And.intro LB8 (And.intro LB13 (LB14)))
theorem bs_u8_0 {σ:zaa} {KS:AV→zaa→Prop}:bs2 (some tyU8) 0 [] σ KS=KS (.ref σ.length 0 0 1) (σ++[.rw []]):=by
 simp [bs2,tyU8,zbg,zbH]
theorem pieces_ok (t:List UInt8):ACalls Tryz.prog 170 [str t] [] (fun x σ=>x=.ret (.fn (.func 205) [] [.ptr 0 0])∧σ=[.rw [str t]]):=by
 refine ACalls.body T_ok Tryz.func170 (by kernel_rfl) rfl Tryz.ntmps170 (congrArg Array.toList Tryz.results170) ?_
 refine aQ34 ?_
 exact zaG ⟨rfl,rfl⟩
theorem zfX (t:List UInt8):(Lib.index t [0]=-1∧Lib.cut t [0]=(t,[],false))∨∃ i:Nat,Lib.index t [0]=i∧Lib.cut t [0]=(t.take i,t.drop (i+1),true):=by
 have hge:=Lib.index_ge t [0]
 by_cases h:Lib.index t [0]=-1
 ·exact .inl ⟨h,by rw [Lib.cut,h];rfl⟩
 ·refine .inr ⟨(Lib.index t [0]).toNat,by omega,?_⟩
  rw [Lib.cut,if_pos (by omega)]
  rfl
theorem fpieces_range {s:List UInt8} {p:Nat} {env:List AV} {ps:Array Tmp} {A B:Code} {K:AEnd→zaa→Prop} (t:List UInt8) (ht:t.length≤1000000000) (hpt:p+t.length≤1000000000)
  (hY0 : ∀ (w : List UInt8) (n : Nat), w.length ≤ 1000000000 → p + n ≤ 1000000000 → AYield Tryz.prog 6 [str w, i64 n] [.rw (cC s p nilS nilS), .rw [.ptr 0 0], .rw [], .rw [.ref 2 0 0 1], .rw [bl true], .rw [str t], .lp .ready none env ps A B] (fun x σ' => x = .ret (bl true) ∧ σ' = [.rw (cC s ((p + n : Nat) : Int) nilS nilS), .rw [.ptr 0 0], .dead, .rw [.ref 7 0 w.length 1], .rw [bl false], .rw [str t], .lp .ready none env ps A B, .rw (w.map u8)]))
  (hY1 : ∀ (u o w : List UInt8) (q n : Nat), o.length + w.length ≤ 1000000000 → p + q + n ≤ 1000000000 → AYield Tryz.prog 6 [str w, i64 n] [.rw (cC s ((p + q : Nat) : Int) nilS nilS), .rw [.ptr 0 0], .dead, .rw [.ref 7 0 o.length 1], .rw [bl false], .rw [str u], .lp .ready none env ps A B, .rw (o.map u8)] (fun x σ' => x = .ret (bl true) ∧ σ' = [.rw (cC s ((p + q + n : Nat) : Int) nilS nilS), .rw [.ptr 0 0], .dead, .rw [.ref 10 0 (o ++ [0] ++ w).length 1], .rw [bl false], .rw [str u], .lp .ready none env ps A B, .dead, .rw [u8 0], .dead, .rw ((o ++ [0] ++ w).map u8)]))
  (he:renL [0,1,2,3,4,5,6,10] env=some env)
  (hp:rdT t=none→∀ σ,K (.pan cgu) σ)
  (h0:∀ w n,rdT t=some (w,n)→K (.ret (.tup [])) [.rw (cC s ((p+n:Nat):Int) nilS nilS),.rw [.ptr 0 0],.dead,.rw [.ref 7 0 w.length 1],.rw [bl false],.rw [str t],.lp .ready none env ps A B,.rw (w.map u8)])
  (h1:∀ w n u,rdT t=some (w,n)→K (.ret (.tup [])) [.rw (cC s ((p+n:Nat):Int) nilS nilS),.rw [.ptr 0 0],.dead,.rw [.ref 10 0 w.length 1],.rw [bl false],.rw [str u],.lp .ready none env ps A B,.dead,.rw [u8 0],.dead,.rw (w.map u8)]) :
  ACalls Tryz.prog 205 [.yl 6,.ptr 5 0] [.rw (cC s p nilS nilS),.rw [.ptr 0 0],.rw [],.rw [.ref 2 0 0 1],.rw [bl true],.rw [str t],.lp .ready none env ps A B] K:=by
 refine ACalls.body T_ok Tryz.func205 (by kernel_rfl) rfl Tryz.ntmps205 (congrArg Array.toList Tryz.results205) ?_
 refine aQ34 ?_
 rw [zbj]
 refine⟨Option (List UInt8 × Nat),fun i=>match i with
  | none=>True
  | some (o,q)=>q≤t.length∧o.length≤q∧rdT t=(rdT (t.drop q)).map fun x=>(o++[0]++x.1,q+x.2),fun _=>[.yl 6,.ptr 5 0,.bot,.bot,.bot,.bot,.bot,.bot,.bot,.bot,.bot,.bot,.bot,.bot,.bot,.bot,.bot,.bot,.bot,.bot,.bot,.bot,.bot,.bot,.bot,.bot,.bot,.bot,.bot,.bot,.bot,.bot,.bot,.bot,.bot,.bot,.bot,.bot,.bot,.bot,.bot,.bot,.bot,.bot,.bot,.bot,.bot,.bot,.bot,.bot,.bot,.bot],fun i=>match i with
  | none=>[.rw (cC s p nilS nilS),.rw [.ptr 0 0],.rw [],.rw [.ref 2 0 0 1],.rw [bl true],.rw [str t],.lp .ready none env ps A B]
  | some (o,q)=>[.rw (cC s ((p+q:Nat):Int) nilS nilS),.rw [.ptr 0 0],.dead,.rw [.ref 7 0 o.length 1],.rw [bl false],.rw [str (t.drop q)],.lp .ready none env ps A B,.rw (o.map u8)],fun i=>match i with
  | none=>t.length+1
  | some (o,q)=>t.length - q,none,trivial,za2 ?_,?_⟩
 ·first|exact aQ25 trivial|refine aQ25 ?_
 ·intro i hi
  match i,hi with
  | none,_ =>
   refine aQ34 ?_
   have hul:t.length=t.length:=by rfl
   rcases zfX t with ⟨hi,hc⟩ | ⟨i,hi,hc⟩
   ·refine(zgL t (by omega)).pure (by simp [renL,zag]) ?_
    rintro _ σ rfl
    refine⟨by simp [AEnd.noid,AV.ren,renL,zag,zad],?_⟩
    rw [hc]
    refine aQ34 ?_
    have g0:=zfV hi
    exact zaG (hp g0 _)
   ·obtain⟨g1,g2,g3⟩:=zfW hi
    have hil:(t.take i).length=i:=by rw [List.length_take];omega
    refine(zgL t (by omega)).pure (by simp [renL,zag]) ?_
    rintro _ σ rfl
    refine⟨by simp [AEnd.noid,AV.ren,renL,zag,zad],?_⟩
    rw [hc]
    simp only
    try simp -implicitDefEqProofs only [LM2,eq_self,zaA,zbu T191,hil,TB,SB,Int.reduceToNat,Nat.reduceAdd,Nat.reduceEqDiff,Nat.reduceLT,Nat.reduceMod,Nat.reducePow,Nat.reduceSub,if_true,reduceIte]
    refine⟨by unfold inI;omega,fun hlt=>?_,fun hge=>⟨by unfold inI;omega,?_⟩⟩
    ·have g0:=g3 none (by rw [g2,List.drop_eq_nil_of_le (by omega)];rfl)
     exact zaG (hp g0 _)
    ·have e2:((i:Int)+2)=((i+2:Nat):Int):=by omega
     obtain⟨b,r,hbr⟩:∃ b r,t.drop (i+1)=b::r:=by
      cases hd:t.drop (i+1) with
      | nil=>have:=congrArg List.length hd;rw [List.length_drop] at this;simp only [List.length_nil] at this;omega
      | cons b r=>exact⟨b,r,rfl⟩
     have hsl:(t.take (i+2)).drop i=[0,b]:=by
      rw [List.drop_take,g2,hbr,show i+2 - i=2 by omega]
      rfl
     have hrest:t.drop (i+2)=r:=by
      have:=congrArg (List.drop 1) hbr
      rw [List.drop_drop] at this
      exact this
     rw [e2]
     refine(hY0 (t.take i) (i+2) (by rw [hil];omega) (by omega)).mono ?_
     rintro _ σ ⟨rfl,rfl⟩
     refine aQ34 ?_
     have e3:(((i+2:Nat):Int) - 2).toNat=i:=by omega
     rw [e3,hsl]
     refine⟨by unfold inI;omega,by omega,by omega,by omega,fun h=>?_,fun h=>⟨by unfold inI;omega,by omega,by omega,by omega,fun h2=>?_,fun h2=>⟨by omega,by omega,?_⟩⟩⟩
     ·obtain rfl:b=0:=by simpa using h
      have g4:=g3 (some ([],2)) (by rw [g2,hbr,ziM])
      simp only [Option.map_some,List.append_nil] at g4
      exact zaG (h0 _ _ g4)
     ·have g4:=g3 none (by rw [g2,hbr,ziO (fun e=>h (by rw [e])) (fun e=>h2 (by rw [e]))])
      simp only [Option.map_none] at g4
      exact zaG (hp g4 _)
     ·obtain rfl:b=255:=by simpa using h2
      have g4:=g3 _ (by rw [g2,hbr,ziN])
      rw [← hrest,Option.map_map] at g4
      refine⟨some (t.take i,i+2),⟨by omega,by rw [hil];omega,?_⟩,(by show t.length - (i+2) < t.length+1;omega),za2 ?_⟩
      ·rw [g4]
       congr 1
       funext x
       simp [Function.comp]
       try omega
      ·first|exact aQ25 trivial|refine aQ25 ?_
  | some (o,q),⟨hq1,hq2,hq3⟩ =>
   refine aQ34 ?_
   have hul:(t.drop q).length=t.length - q:=by rw [List.length_drop]
   rcases zfX (t.drop q) with ⟨hi,hc⟩ | ⟨i,hi,hc⟩
   ·refine(zgL (t.drop q) (by omega)).pure (by simp [renL,zag]) ?_
    rintro _ σ rfl
    refine⟨by simp [AEnd.noid,AV.ren,renL,zag,zad],?_⟩
    rw [hc]
    refine aQ34 ?_
    have g0:=zfV hi
    exact zaG (hp (hq3.trans (by rw [g0];rfl)) _)
   ·obtain⟨g1,g2,g3⟩:=zfW hi
    have hil:((t.drop q).take i).length=i:=by rw [List.length_take];omega
    refine(zgL (t.drop q) (by omega)).pure (by simp [renL,zag]) ?_
    rintro _ σ rfl
    refine⟨by simp [AEnd.noid,AV.ren,renL,zag,zad],?_⟩
    rw [hc]
    simp only
    try simp -implicitDefEqProofs only [LM2,eq_self,zaA,zbu T191,hil,TB,SB,Int.reduceToNat,Nat.reduceAdd,Nat.reduceEqDiff,Nat.reduceLT,Nat.reduceMod,Nat.reducePow,Nat.reduceSub,if_true,reduceIte]
    refine⟨by unfold inI;omega,fun hlt=>?_,fun hge=>⟨by unfold inI;omega,?_⟩⟩
    ·have g0:=g3 none (by rw [g2,List.drop_eq_nil_of_le (by omega)];rfl)
     exact zaG (hp (hq3.trans (by rw [g0];rfl)) _)
    ·have e2:((i:Int)+2)=((i+2:Nat):Int):=by omega
     obtain⟨b,r,hbr⟩:∃ b r,(t.drop q).drop (i+1)=b::r:=by
      cases hd:(t.drop q).drop (i+1) with
      | nil=>have:=congrArg List.length hd;rw [List.length_drop] at this;simp only [List.length_nil] at this;omega
      | cons b r=>exact⟨b,r,rfl⟩
     have hsl:((t.drop q).take (i+2)).drop i=[0,b]:=by
      rw [List.drop_take,g2,hbr,show i+2 - i=2 by omega]
      rfl
     have hrest:(t.drop q).drop (i+2)=r:=by
      have:=congrArg (List.drop 1) hbr
      rw [List.drop_drop] at this
      exact this
     rw [e2]
     refine(hY1 (t.drop q) o ((t.drop q).take i) q (i+2) (by rw [hil];omega) (by omega)).mono ?_
     rintro _ σ ⟨rfl,rfl⟩
     refine aQ34 ?_
     have e3:(((i+2:Nat):Int) - 2).toNat=i:=by omega
     rw [e3,hsl]
     refine⟨by unfold inI;omega,by omega,by omega,by omega,fun h=>?_,fun h=>⟨by unfold inI;omega,by omega,by omega,by omega,fun h2=>?_,fun h2=>⟨by omega,by omega,?_⟩⟩⟩
     ·obtain rfl:b=0:=by simpa using h
      have g4:=g3 (some ([],2)) (by rw [g2,hbr,ziM])
      simp only [Option.map_some,List.append_nil] at g4
      rw [g4] at hq3
      simp only [Option.map_some] at hq3
      rw [show p+q+(i+2)=p+(q+(i+2)) by omega]
      exact zaG (h1 _ _ _ hq3)
     ·have g4:=g3 none (by rw [g2,hbr,ziO (fun e=>h (by rw [e])) (fun e=>h2 (by rw [e]))])
      simp only [Option.map_none] at g4
      exact zaG (hp (hq3.trans (by rw [g4];rfl)) _)
     ·obtain rfl:b=255:=by simpa using h2
      have g4:=g3 _ (by rw [g2,hbr,ziN])
      rw [← hrest,Option.map_map] at g4
      refine⟨some (o++[0]++(t.drop q).take i,q+(i+2)),⟨by omega,by simp only [List.length_append,List.length_singleton,hil];omega,?_⟩,(by show t.length - (q+(i+2)) < t.length - q;omega),zak (q:=[0,1,2,3,4,5,6,10]) rfl rfl (by decide) ?_ ?_⟩
      ·rw [hq3,g4,List.drop_drop,Option.map_map]
       congr 1
       funext x
       simp [Function.comp]
       try omega
      ·first|exact aQ24 trivial|refine aQ24 ?_
      ·rw [show p+q+(i+2)=p+(q+(i+2)) by omega]
       generalize o++[0]++List.take i (List.drop q t)=w
       rw [List.drop_drop]
       simp [LB9,LB10,zal,zaf,cC,nilS,renL,AV.ren,zad,he,zax u8 za8,zao,zau]
theorem gpieces_range {s:List UInt8} {p:Nat} {l:List Nd} {m:Nat} {O:List (Nat × List UInt8)} {env:List AV} {ps:Array Tmp} {A B:Code} {K:AEnd→zaa→Prop} (t:List UInt8) (ht:t.length≤1000000000) (hpt:p+t.length≤1000000000)
  (hY0 : ∀ (w : List UInt8) (n : Nat), w.length ≤ 1000000000 → p + n ≤ 1000000000 → AYield Tryz.prog 8 [str w, i64 n] [.rw (cC s p (.ref 1 0 l.length 4) (.ref 2 0 m 2)), .rw (l.flatMap nC), .rw (O.flatMap oC), .rw [.ptr 0 0], .rw [], .rw [.ref 4 0 0 1], .rw [bl true], .rw [str t], .lp .ready none env ps A B] (fun x σ' => x = .ret (bl true) ∧ σ' = [.rw (cC s ((p + n : Nat) : Int) (.ref 1 0 l.length 4) (.ref 2 0 m 2)), .rw (l.flatMap nC), .rw (O.flatMap oC), .rw [.ptr 0 0], .dead, .rw [.ref 9 0 w.length 1], .rw [bl false], .rw [str t], .lp .ready none env ps A B, .rw (w.map u8)]))
  (hY1 : ∀ (u o w : List UInt8) (q n : Nat), o.length + w.length ≤ 1000000000 → p + q + n ≤ 1000000000 → AYield Tryz.prog 8 [str w, i64 n] [.rw (cC s ((p + q : Nat) : Int) (.ref 1 0 l.length 4) (.ref 2 0 m 2)), .rw (l.flatMap nC), .rw (O.flatMap oC), .rw [.ptr 0 0], .dead, .rw [.ref 9 0 o.length 1], .rw [bl false], .rw [str u], .lp .ready none env ps A B, .rw (o.map u8)] (fun x σ' => x = .ret (bl true) ∧ σ' = [.rw (cC s ((p + q + n : Nat) : Int) (.ref 1 0 l.length 4) (.ref 2 0 m 2)), .rw (l.flatMap nC), .rw (O.flatMap oC), .rw [.ptr 0 0], .dead, .rw [.ref 12 0 (o ++ [0] ++ w).length 1], .rw [bl false], .rw [str u], .lp .ready none env ps A B, .dead, .rw [u8 0], .dead, .rw ((o ++ [0] ++ w).map u8)]))
  (he:renL [0,1,2,3,4,5,6,7,8,12] env=some env)
  (hp:rdT t=none→∀ σ,K (.pan cgu) σ)
  (h0:∀ w n,rdT t=some (w,n)→K (.ret (.tup [])) [.rw (cC s ((p+n:Nat):Int) (.ref 1 0 l.length 4) (.ref 2 0 m 2)),.rw (l.flatMap nC),.rw (O.flatMap oC),.rw [.ptr 0 0],.dead,.rw [.ref 9 0 w.length 1],.rw [bl false],.rw [str t],.lp .ready none env ps A B,.rw (w.map u8)])
  (h1:∀ w n u,rdT t=some (w,n)→K (.ret (.tup [])) [.rw (cC s ((p+n:Nat):Int) (.ref 1 0 l.length 4) (.ref 2 0 m 2)),.rw (l.flatMap nC),.rw (O.flatMap oC),.rw [.ptr 0 0],.dead,.rw [.ref 12 0 w.length 1],.rw [bl false],.rw [str u],.lp .ready none env ps A B,.dead,.rw [u8 0],.dead,.rw (w.map u8)]) :
  ACalls Tryz.prog 205 [.yl 8,.ptr 7 0] [.rw (cC s p (.ref 1 0 l.length 4) (.ref 2 0 m 2)),.rw (l.flatMap nC),.rw (O.flatMap oC),.rw [.ptr 0 0],.rw [],.rw [.ref 4 0 0 1],.rw [bl true],.rw [str t],.lp .ready none env ps A B] K:=by
 refine ACalls.body T_ok Tryz.func205 (by kernel_rfl) rfl Tryz.ntmps205 (congrArg Array.toList Tryz.results205) ?_
 refine aQ34 ?_
 rw [zbj]
 refine⟨Option (List UInt8 × Nat),fun i=>match i with
  | none=>True
  | some (o,q)=>q≤t.length∧o.length≤q∧rdT t=(rdT (t.drop q)).map fun x=>(o++[0]++x.1,q+x.2),fun _=>[.yl 8,.ptr 7 0,.bot,.bot,.bot,.bot,.bot,.bot,.bot,.bot,.bot,.bot,.bot,.bot,.bot,.bot,.bot,.bot,.bot,.bot,.bot,.bot,.bot,.bot,.bot,.bot,.bot,.bot,.bot,.bot,.bot,.bot,.bot,.bot,.bot,.bot,.bot,.bot,.bot,.bot,.bot,.bot,.bot,.bot,.bot,.bot,.bot,.bot,.bot,.bot,.bot,.bot],fun i=>match i with
  | none=>[.rw (cC s p (.ref 1 0 l.length 4) (.ref 2 0 m 2)),.rw (l.flatMap nC),.rw (O.flatMap oC),.rw [.ptr 0 0],.rw [],.rw [.ref 4 0 0 1],.rw [bl true],.rw [str t],.lp .ready none env ps A B]
  | some (o,q)=>[.rw (cC s ((p+q:Nat):Int) (.ref 1 0 l.length 4) (.ref 2 0 m 2)),.rw (l.flatMap nC),.rw (O.flatMap oC),.rw [.ptr 0 0],.dead,.rw [.ref 9 0 o.length 1],.rw [bl false],.rw [str (t.drop q)],.lp .ready none env ps A B,.rw (o.map u8)],fun i=>match i with
  | none=>t.length+1
  | some (o,q)=>t.length - q,none,trivial,za2 ?_,?_⟩
 ·first|exact aQ25 trivial|refine aQ25 ?_
 ·intro i hi
  match i,hi with
  | none,_ =>
   refine aQ34 ?_
   have hul:t.length=t.length:=by rfl
   rcases zfX t with ⟨hi,hc⟩ | ⟨i,hi,hc⟩
   ·refine(zgL t (by omega)).pure (by simp [renL,zag]) ?_
    rintro _ σ rfl
    refine⟨by simp [AEnd.noid,AV.ren,renL,zag,zad],?_⟩
    rw [hc]
    refine aQ34 ?_
    have g0:=zfV hi
    exact zaG (hp g0 _)
   ·obtain⟨g1,g2,g3⟩:=zfW hi
    have hil:(t.take i).length=i:=by rw [List.length_take];omega
    refine(zgL t (by omega)).pure (by simp [renL,zag]) ?_
    rintro _ σ rfl
    refine⟨by simp [AEnd.noid,AV.ren,renL,zag,zad],?_⟩
    rw [hc]
    simp only
    try simp -implicitDefEqProofs only [LM2,eq_self,zaA,zbu T191,hil,TB,SB,Int.reduceToNat,Nat.reduceAdd,Nat.reduceEqDiff,Nat.reduceLT,Nat.reduceMod,Nat.reducePow,Nat.reduceSub,if_true,reduceIte]
    refine⟨by unfold inI;omega,fun hlt=>?_,fun hge=>⟨by unfold inI;omega,?_⟩⟩
    ·have g0:=g3 none (by rw [g2,List.drop_eq_nil_of_le (by omega)];rfl)
     exact zaG (hp g0 _)
    ·have e2:((i:Int)+2)=((i+2:Nat):Int):=by omega
     obtain⟨b,r,hbr⟩:∃ b r,t.drop (i+1)=b::r:=by
      cases hd:t.drop (i+1) with
      | nil=>have:=congrArg List.length hd;rw [List.length_drop] at this;simp only [List.length_nil] at this;omega
      | cons b r=>exact⟨b,r,rfl⟩
     have hsl:(t.take (i+2)).drop i=[0,b]:=by
      rw [List.drop_take,g2,hbr,show i+2 - i=2 by omega]
      rfl
     have hrest:t.drop (i+2)=r:=by
      have:=congrArg (List.drop 1) hbr
      rw [List.drop_drop] at this
      exact this
     rw [e2]
     refine(hY0 (t.take i) (i+2) (by rw [hil];omega) (by omega)).mono ?_
     rintro _ σ ⟨rfl,rfl⟩
     refine aQ34 ?_
     have e3:(((i+2:Nat):Int) - 2).toNat=i:=by omega
     rw [e3,hsl]
     refine⟨by unfold inI;omega,by omega,by omega,by omega,fun h=>?_,fun h=>⟨by unfold inI;omega,by omega,by omega,by omega,fun h2=>?_,fun h2=>⟨by omega,by omega,?_⟩⟩⟩
     ·obtain rfl:b=0:=by simpa using h
      have g4:=g3 (some ([],2)) (by rw [g2,hbr,ziM])
      simp only [Option.map_some,List.append_nil] at g4
      exact zaG (h0 _ _ g4)
     ·have g4:=g3 none (by rw [g2,hbr,ziO (fun e=>h (by rw [e])) (fun e=>h2 (by rw [e]))])
      simp only [Option.map_none] at g4
      exact zaG (hp g4 _)
     ·obtain rfl:b=255:=by simpa using h2
      have g4:=g3 _ (by rw [g2,hbr,ziN])
      rw [← hrest,Option.map_map] at g4
      refine⟨some (t.take i,i+2),⟨by omega,by rw [hil];omega,?_⟩,(by show t.length - (i+2) < t.length+1;omega),za2 ?_⟩
      ·rw [g4]
       congr 1
       funext x
       simp [Function.comp]
       try omega
      ·first|exact aQ25 trivial|refine aQ25 ?_
  | some (o,q),⟨hq1,hq2,hq3⟩ =>
   refine aQ34 ?_
   have hul:(t.drop q).length=t.length - q:=by rw [List.length_drop]
   rcases zfX (t.drop q) with ⟨hi,hc⟩ | ⟨i,hi,hc⟩
   ·refine(zgL (t.drop q) (by omega)).pure (by simp [renL,zag]) ?_
    rintro _ σ rfl
    refine⟨by simp [AEnd.noid,AV.ren,renL,zag,zad],?_⟩
    rw [hc]
    refine aQ34 ?_
    have g0:=zfV hi
    exact zaG (hp (hq3.trans (by rw [g0];rfl)) _)
   ·obtain⟨g1,g2,g3⟩:=zfW hi
    have hil:((t.drop q).take i).length=i:=by rw [List.length_take];omega
    refine(zgL (t.drop q) (by omega)).pure (by simp [renL,zag]) ?_
    rintro _ σ rfl
    refine⟨by simp [AEnd.noid,AV.ren,renL,zag,zad],?_⟩
    rw [hc]
    simp only
    try simp -implicitDefEqProofs only [LM2,eq_self,zaA,zbu T191,hil,TB,SB,Int.reduceToNat,Nat.reduceAdd,Nat.reduceEqDiff,Nat.reduceLT,Nat.reduceMod,Nat.reducePow,Nat.reduceSub,if_true,reduceIte]
    refine⟨by unfold inI;omega,fun hlt=>?_,fun hge=>⟨by unfold inI;omega,?_⟩⟩
    ·have g0:=g3 none (by rw [g2,List.drop_eq_nil_of_le (by omega)];rfl)
     exact zaG (hp (hq3.trans (by rw [g0];rfl)) _)
    ·have e2:((i:Int)+2)=((i+2:Nat):Int):=by omega
     obtain⟨b,r,hbr⟩:∃ b r,(t.drop q).drop (i+1)=b::r:=by
      cases hd:(t.drop q).drop (i+1) with
      | nil=>have:=congrArg List.length hd;rw [List.length_drop] at this;simp only [List.length_nil] at this;omega
      | cons b r=>exact⟨b,r,rfl⟩
     have hsl:((t.drop q).take (i+2)).drop i=[0,b]:=by
      rw [List.drop_take,g2,hbr,show i+2 - i=2 by omega]
      rfl
     have hrest:(t.drop q).drop (i+2)=r:=by
      have:=congrArg (List.drop 1) hbr
      rw [List.drop_drop] at this
      exact this
     rw [e2]
     refine(hY1 (t.drop q) o ((t.drop q).take i) q (i+2) (by rw [hil];omega) (by omega)).mono ?_
     rintro _ σ ⟨rfl,rfl⟩
     refine aQ34 ?_
     have e3:(((i+2:Nat):Int) - 2).toNat=i:=by omega
     rw [e3,hsl]
     refine⟨by unfold inI;omega,by omega,by omega,by omega,fun h=>?_,fun h=>⟨by unfold inI;omega,by omega,by omega,by omega,fun h2=>?_,fun h2=>⟨by omega,by omega,?_⟩⟩⟩
     ·obtain rfl:b=0:=by simpa using h
      have g4:=g3 (some ([],2)) (by rw [g2,hbr,ziM])
      simp only [Option.map_some,List.append_nil] at g4
      rw [g4] at hq3
      simp only [Option.map_some] at hq3
      rw [show p+q+(i+2)=p+(q+(i+2)) by omega]
      exact zaG (h1 _ _ _ hq3)
     ·have g4:=g3 none (by rw [g2,hbr,ziO (fun e=>h (by rw [e])) (fun e=>h2 (by rw [e]))])
      simp only [Option.map_none] at g4
      exact zaG (hp (hq3.trans (by rw [g4];rfl)) _)
     ·obtain rfl:b=255:=by simpa using h2
      have g4:=g3 _ (by rw [g2,hbr,ziN])
      rw [← hrest,Option.map_map] at g4
      refine⟨some (o++[0]++(t.drop q).take i,q+(i+2)),⟨by omega,by simp only [List.length_append,List.length_singleton,hil];omega,?_⟩,(by show t.length - (q+(i+2)) < t.length - q;omega),zak (q:=[0,1,2,3,4,5,6,7,8,12]) rfl rfl (by decide) ?_ ?_⟩
      ·rw [hq3,g4,List.drop_drop,Option.map_map]
       congr 1
       funext x
       simp [Function.comp]
       try omega
      ·first|exact aQ24 trivial|refine aQ24 ?_
      ·rw [show p+q+(i+2)=p+(q+(i+2)) by omega]
       generalize o++[0]++List.take i (List.drop q t)=w
       rw [List.drop_drop]
       simp [LB9,LB10,zal,zaf,cC,nilS,renL,AV.ren,zad,he,zax u8 za8,zao,zau]
end Go.Proofs.YtcahoelfogjljaaGreatDoor
end

section
namespace Go.Proofs.YtcahoelfogjljaaGreatDoor
open Go Go.Eng
def zjP (s:List UInt8) (p:Nat):AEnd→zaa→Prop:=fun y σ=>match rdT (s.drop p) with
 | some x=>y=.ret (str x.1)∧σ=(fS s ((p+x.2:Nat):Int))
 | none=>y=.pan cgu∧σ=[Blk.dead]
theorem ftext_ok (s:List UInt8) (p:Nat) (hs:s.length≤1000000000) (hp:p≤s.length):ACalls Tryz.prog 140 [.ptr 0 0] (fS s p) (zjP s p):=by
 have hdl:(s.drop p).length=s.length - p:=by rw [List.length_drop]
 unfold fS
 refine ACalls.body T_ok Tryz.func140 (by kernel_rfl) rfl Tryz.ntmps140 (congrArg Array.toList Tryz.results140) ?_
 refine aQ35 ?_
 refine zb7 [9] (by kernel_rfl) (by kernel_rfl) (by kernel_rfl) ?_
 refine aQ34 ?_
 refine⟨by omega,by omega,?_⟩
 refine ACalls.frame ([]) (pieces_ok (s.drop p)) rfl (by decide) (by simp [LM1,zal,zaq,zae,zaf,renL,AV.ren,AEnd.ren,zgK,zau,zaj,zac,wI,wO,zab,zad,List.getElem?_cons_zero,List.getElem?_cons_succ]) (by first | rfl | simp [LM1,zal,zaq,zae,zaf,renL,AV.ren,AEnd.ren,zgK,zau,zaj,zac,wI,wO,zab,zad,List.getElem?_cons_zero,List.getElem?_cons_succ]) ?_
 rintro _ _ ⟨rfl,rfl⟩
 refine⟨.ret (.fn (.func 205) [] [.ptr 5 0]),[.rw (cC s p nilS nilS),.rw [.ptr 0 0],.rw [],.rw [.ref 2 0 0 1],.rw [bl true],.rw [str (s.drop p)]],(aQ2 ([1,1,1,1,1,0])),(aQ9 ([1,1,1,1,1,0])),?_⟩
 refine aQ34 ?_
 refine⟨by kernel_rfl,?_⟩
 refine fpieces_range (s.drop p) (by omega) (by omega) ?_ ?_ ?_ ?_ ?_ ?_
 ·intro w n hw hn
  refine AYield.of T_ok rfl rfl rfl rfl ?_
  refine aQ34 ?_
  refine⟨_,_,_,rfl,?_⟩
  refine aQ34 ?_
  refine zcc u8 zfK rfl rfl T105 T9 zjH T5 zeG (l:=[]) (ys:=w) (m:=w.length) rfl rfl (zfJ w) (by omega) (by show _ * 1≤_;omega) ?_
  refine aQ34 ?_
  refine⟨by unfold inI;omega,?_⟩
  refine⟨_,_,_,_,rfl,rfl,?_⟩
  rfl
 ·intro u o w q n hw hn
  refine AYield.of T_ok rfl rfl rfl rfl ?_
  refine aQ34 ?_
  refine⟨_,_,_,rfl,?_⟩
  refine aQ34 ?_
  refine zcc u8 zfK rfl rfl T105 T105 (zhJ _) T5 zeG (l:=o) (ys:=[UInt8.ofNat 0]) (m:=1) rfl rfl rfl (by omega) (by show _ * 1≤_;omega) ?_
  refine aQ34 ?_
  refine zcc u8 zfK rfl rfl T105 T9 zjH T5 zeG (l:=o++[UInt8.ofNat 0]) (ys:=w) (m:=w.length) rfl (by simp) (zfJ w) (by omega) (by show _ * 1≤_;omega) ?_
  refine aQ34 ?_
  refine⟨by unfold inI;omega,?_⟩
  refine⟨_,_,_,_,rfl,rfl,?_⟩
  have e1:(o++[0]++w).length=o.length+1+w.length:=by simp only [List.length_append,List.length_singleton]
  rw [e1]
  rfl
 ·simp [renL,AV.ren,zag,zam]
 ·intro h0 σ
  simp only [zjE]
  refine aQ34 ?_
  exact zbc (zaj _) (by unfold zjP;rw [h0];exact⟨rfl,rfl⟩)
 ·intro w n h0
  refine⟨_,_,_,_,_,_,rfl,by simp,?_⟩
  refine aQ34 ?_
  refine⟨Nat.le_refl _,?_⟩
  rw [List.take_length]
  exact zfd (zag _ _) (by unfold zjP;rw [h0];exact⟨rfl,rfl⟩)
 ·intro w n u h0
  refine⟨_,_,_,_,_,_,rfl,by simp,?_⟩
  refine aQ34 ?_
  refine⟨Nat.le_refl _,?_⟩
  rw [List.take_length]
  exact zfd (zag _ _) (by unfold zjP;rw [h0];exact⟨rfl,rfl⟩)
def zgM (s:List UInt8) (p:Nat) (l:List Nd) (m:Nat) (O:List (Nat × List UInt8)):AEnd→zaa→Prop:=fun y σ=>match rdT (s.drop p) with
 | some x=>y=.ret (str x.1)∧σ=(gS s ((p+x.2:Nat):Int) l m O)
 | none=>y=.pan cgu∧σ=[Blk.dead,Blk.dead,Blk.dead]
theorem zg3 (s:List UInt8) (p:Nat) (l:List Nd) (m:Nat) (O:List (Nat × List UInt8)) (hs:s.length≤1000000000) (hp:p≤s.length):ACalls Tryz.prog 140 [.ptr 0 0] (gS s p l m O) (zgM s p l m O):=by
 have hdl:(s.drop p).length=s.length - p:=by rw [List.length_drop]
 unfold gS
 refine ACalls.body T_ok Tryz.func140 (by kernel_rfl) rfl Tryz.ntmps140 (congrArg Array.toList Tryz.results140) ?_
 refine aQ35 ?_
 refine zb7 [9] (by kernel_rfl) (by kernel_rfl) (by kernel_rfl) ?_
 refine aQ34 ?_
 refine⟨by omega,by omega,?_⟩
 refine ACalls.frame ([]) (pieces_ok (s.drop p)) rfl (by decide) (by simp [LM1,zal,zaq,zae,zaf,renL,AV.ren,AEnd.ren,zgK,zau,zaj,zac,wI,wO,zab,zad,List.getElem?_cons_zero,List.getElem?_cons_succ]) (by first | rfl | simp [LM1,zal,zaq,zae,zaf,renL,AV.ren,AEnd.ren,zgK,zau,zaj,zac,wI,wO,zab,zad,List.getElem?_cons_zero,List.getElem?_cons_succ]) ?_
 rintro _ _ ⟨rfl,rfl⟩
 refine⟨.ret (.fn (.func 205) [] [.ptr 7 0]),[.rw (cC s p (.ref 1 0 l.length 4) (.ref 2 0 m 2)),.rw (l.flatMap nC),.rw (O.flatMap oC),.rw [.ptr 0 0],.rw [],.rw [.ref 4 0 0 1],.rw [bl true],.rw [str (s.drop p)]],(aQ2 ([1,1,1,1,1,1,1,0])),(aQ9 ([1,1,1,1,1,1,1,0])),?_⟩
 refine aQ34 ?_
 refine⟨by kernel_rfl,?_⟩
 refine gpieces_range (s.drop p) (by omega) (by omega) ?_ ?_ ?_ ?_ ?_ ?_
 ·intro w n hw hn
  refine AYield.of T_ok rfl rfl rfl rfl ?_
  refine aQ34 ?_
  refine⟨_,_,_,rfl,?_⟩
  refine aQ34 ?_
  refine zcc u8 zfK rfl rfl T105 T9 zjH T5 zeG (l:=[]) (ys:=w) (m:=w.length) rfl rfl (zfJ w) (by omega) (by show _ * 1≤_;omega) ?_
  refine aQ34 ?_
  refine⟨by unfold inI;omega,?_⟩
  refine⟨_,_,_,_,rfl,rfl,?_⟩
  rfl
 ·intro u o w q n hw hn
  refine AYield.of T_ok rfl rfl rfl rfl ?_
  refine aQ34 ?_
  refine⟨_,_,_,rfl,?_⟩
  refine aQ34 ?_
  refine zcc u8 zfK rfl rfl T105 T105 (zhJ _) T5 zeG (l:=o) (ys:=[UInt8.ofNat 0]) (m:=1) rfl rfl rfl (by omega) (by show _ * 1≤_;omega) ?_
  refine aQ34 ?_
  refine zcc u8 zfK rfl rfl T105 T9 zjH T5 zeG (l:=o++[UInt8.ofNat 0]) (ys:=w) (m:=w.length) rfl (by simp) (zfJ w) (by omega) (by show _ * 1≤_;omega) ?_
  refine aQ34 ?_
  refine⟨by unfold inI;omega,?_⟩
  refine⟨_,_,_,_,rfl,rfl,?_⟩
  have e1:(o++[0]++w).length=o.length+1+w.length:=by simp only [List.length_append,List.length_singleton]
  rw [e1]
  rfl
 ·simp [renL,AV.ren,zag,zam]
 ·intro h0 σ
  simp only [zjE]
  refine aQ34 ?_
  exact zbc (zaj _) (by unfold zgM;rw [h0];exact⟨rfl,rfl⟩)
 ·intro w n h0
  refine⟨_,_,_,_,_,_,rfl,by simp,?_⟩
  refine aQ34 ?_
  refine⟨Nat.le_refl _,?_⟩
  rw [List.take_length]
  exact zeM (zag _ _) (by unfold zgM;rw [h0];exact⟨rfl,rfl⟩)
 ·intro w n u h0
  refine⟨_,_,_,_,_,_,rfl,by simp,?_⟩
  refine aQ34 ?_
  refine⟨Nat.le_refl _,?_⟩
  rw [List.take_length]
  exact zeM (zag _ _) (by unfold zgM;rw [h0];exact⟨rfl,rfl⟩)
end Go.Proofs.YtcahoelfogjljaaGreatDoor
end

section
namespace Go.Proofs.YtcahoelfogjljaaGreatDoor
open Go Go.Eng
def nodR (s:List UInt8) (p:Nat):Option (Nd × Nat):=match s.drop p with
 | []=>none
 | c::r =>
  if c.toNat=1∨c.toNat=5∨c.toNat=6 then some (⟨(c.toNat:Int) - 1,0,[],0⟩,p+1)
  else if c.toNat=2 then (match r with
   | []=>none
   | b::_=>if b.toNat≤1 then some (⟨1,b.toNat,[],0⟩,p+2) else none)
  else if c.toNat=3 then (if r.length < 8 then none else some (⟨2,IntKind.i64.wrap (zbD (r.take 8) ^^^ 9223372036854775808#64).toNat,[],0⟩,p+9))
  else if c.toNat=4 then (rdT r).map fun x=>(⟨3,0,x.1,0⟩,p+1+x.2)
  else none
def zcR (s:List UInt8) (p:Nat):AEnd→zaa→Prop:=fun y σ=>match nodR s p with
 | some x=>y=.ret (nA x.1)∧σ=(fS s (x.2:Int))
 | none=>y=.pan cgu∧σ=[Blk.dead]
theorem zg4 (s:List UInt8) (p:Nat) (hs:s.length≤1000000000) (hp:p≤s.length):ACalls Tryz.prog 107 [.ptr 0 0] (fS s p) (zcR s p):=by
 unfold fS
 refine ACalls.body T_ok Tryz.func107 (by kernel_rfl) rfl Tryz.ntmps107 (congrArg Array.toList Tryz.results107) ?_
 refine aQ34 ?_
 rcases Nat.eq_or_lt_of_le hp with hp0 | hp0
 ·have hn:nodR s p=none:=by
   rw [nodR,List.drop_eq_nil_of_le (by omega)]
  refine ACalls.frame ([0]) (ziJ s p (by omega) (by omega)) rfl (by decide) (by simp [LM1,zal,zaq,zae,zaf,renL,AV.ren,AEnd.ren,zao,fS,gS,cC,nilS,zau,zaj,zac,wI,wO,zab,zad,List.getElem?_cons_zero,List.getElem?_cons_succ]) (by first | rfl | simp [LM1,zal,zaq,zae,zaf,renL,AV.ren,AEnd.ren,zao,fS,gS,cC,nilS,zau,zaj,zac,wI,wO,zab,zad,List.getElem?_cons_zero,List.getElem?_cons_succ]) ?_
  rintro _ _ ⟨rfl,rfl⟩
  refine⟨.pan cgu,[.dead,.rw (nC n0d)],(aQ3 ([0,1])),(aQ10 ([0,1])),?_⟩
  refine aQ34 ?_
  refine zbc (zaj _) ?_
  unfold zcR
  rw [hn]
  exact⟨rfl,rfl⟩
 ·obtain⟨c,r,hcr⟩:∃ c r,s.drop p=c::r:=⟨s.getD p 0,s.drop (p+1),by
   rw [List.drop_eq_getElem_cons hp0,List.getD_eq_getElem?_getD,List.getElem?_eq_getElem hp0]
   rfl⟩
  have hc:s.getD p 0=c:=by
   have:=congrArg (fun l=>l[0]?) hcr
   simp only [List.getElem?_drop,Nat.add_zero,List.getElem?_cons_zero] at this
   rw [List.getD_eq_getElem?_getD,this]
   rfl
  have hsg:=ziI s p (by omega) hp0
  rw [hc] at hsg
  refine ACalls.frame ([0]) (hsg) rfl (by decide) (by simp [LM1,zal,zaq,zae,zaf,renL,AV.ren,AEnd.ren,zao,fS,gS,cC,nilS,zau,zaj,zac,wI,wO,zab,zad,List.getElem?_cons_zero,List.getElem?_cons_succ]) (by first | rfl | simp [LM1,zal,zaq,zae,zaf,renL,AV.ren,AEnd.ren,zao,fS,gS,cC,nilS,zau,zaj,zac,wI,wO,zab,zad,List.getElem?_cons_zero,List.getElem?_cons_succ]) ?_
  rintro _ _ ⟨rfl,rfl⟩
  refine⟨.ret (u8 c),[.rw (cC s ((p+1:Nat):Int) nilS nilS),.rw (nC n0d)],(aQ3 ([0,1])),(aQ10 ([0,1])),?_⟩
  refine aQ34 ?_
  have hdr:s.drop (p+1)=r:=by
   have:=congrArg (List.drop 1) hcr
   rw [List.drop_drop] at this
   exact this
  have hrl:r.length=s.length - (p+1):=by rw [← hdr,List.length_drop]
  have hc8:=c.toNat_lt
  refine⟨by unfold inI;omega,?_⟩
  by_cases c1:c.toNat=1
  ·have hn:nodR s p=some (⟨0,0,[],0⟩,p+1):=by
    rw [nodR,hcr]
    simp only
    rw [if_pos (by omega),c1]
    rfl
   repeat' (first | (refine⟨fun _=>?_,fun h=>absurd (by omega) h⟩) | (refine⟨fun h=>absurd h (by omega),fun _=>?_⟩) | fail)
   rw [show ((c.toNat:Int)) - 1=0 by omega]
   refine zfd (zbX _ _) ?_
   unfold zcR
   rw [hn]
   exact⟨rfl,rfl⟩
  by_cases c5:c.toNat=5
  ·have hn:nodR s p=some (⟨4,0,[],0⟩,p+1):=by
    rw [nodR,hcr]
    simp only
    rw [if_pos (by omega),c5]
    rfl
   repeat' (first | (refine⟨fun _=>?_,fun h=>absurd (by omega) h⟩) | (refine⟨fun h=>absurd h (by omega),fun _=>?_⟩) | fail)
   rw [show ((c.toNat:Int)) - 1=4 by omega]
   refine zfd (zbX _ _) ?_
   unfold zcR
   rw [hn]
   exact⟨rfl,rfl⟩
  by_cases c6:c.toNat=6
  ·have hn:nodR s p=some (⟨5,0,[],0⟩,p+1):=by
    rw [nodR,hcr]
    simp only
    rw [if_pos (by omega),c6]
    rfl
   repeat' (first | (refine⟨fun _=>?_,fun h=>absurd (by omega) h⟩) | (refine⟨fun h=>absurd h (by omega),fun _=>?_⟩) | fail)
   rw [show ((c.toNat:Int)) - 1=5 by omega]
   refine zfd (zbX _ _) ?_
   unfold zcR
   rw [hn]
   exact⟨rfl,rfl⟩
  have nd0:nodR s p=if c.toNat=2 then (match r with
   | []=>none
   | b::_=>if b.toNat≤1 then some (⟨1,b.toNat,[],0⟩,p+2) else none)
  else if c.toNat=3 then (if r.length < 8 then none else some (⟨2,IntKind.i64.wrap (zbD (r.take 8) ^^^ 9223372036854775808#64).toNat,[],0⟩,p+9))
  else if c.toNat=4 then (rdT r).map fun x=>(⟨3,0,x.1,0⟩,p+1+x.2)
  else none:=by
   rw [nodR,hcr]
   simp only
   rw [if_neg (by omega)]
  by_cases c2:c.toNat=2
  ·rw [if_pos c2] at nd0
   repeat' (first | (refine⟨fun _=>?_,fun h=>absurd (by omega) h⟩) | (refine⟨fun h=>absurd h (by omega),fun _=>?_⟩) | fail)
   rw [show ((c.toNat:Int)) - 1=1 by omega]
   cases r with
   | nil =>
    simp only [List.length_nil] at hrl
    refine ACalls.frame ([0]) (ziJ s (p+1) (by omega) (by omega)) rfl (by decide) (by simp [LM1,zal,zaq,zae,zaf,renL,AV.ren,AEnd.ren,zao,fS,gS,cC,nilS,zau,zaj,zac,wI,wO,zab,zad,List.getElem?_cons_zero,List.getElem?_cons_succ]) (by first | rfl | simp [LM1,zal,zaq,zae,zaf,renL,AV.ren,AEnd.ren,zao,fS,gS,cC,nilS,zau,zaj,zac,wI,wO,zab,zad,List.getElem?_cons_zero,List.getElem?_cons_succ]) ?_
    rintro _ _ ⟨rfl,rfl⟩
    refine⟨.pan cgu,[.dead,.rw (nC n0d),.rw (nC ⟨1,0,[],0⟩)],(aQ3 ([0,1,1])),(aQ10 ([0,1,1])),?_⟩
    refine aQ34 ?_
    refine zbc (zaj _) ?_
    unfold zcR
    rw [nd0]
    exact⟨rfl,rfl⟩
   | cons b r' =>
    simp only [List.length_cons] at hrl
    have hb:s.getD (p+1) 0=b:=by
     have:=congrArg (fun l=>l[0]?) hdr
     simp only [List.getElem?_drop,Nat.add_zero,List.getElem?_cons_zero] at this
     rw [List.getD_eq_getElem?_getD,this]
     rfl
    have hsg2:=ziI s (p+1) (by omega) (by omega)
    rw [hb] at hsg2
    refine ACalls.frame ([0]) (hsg2) rfl (by decide) (by simp [LM1,zal,zaq,zae,zaf,renL,AV.ren,AEnd.ren,zao,fS,gS,cC,nilS,zau,zaj,zac,wI,wO,zab,zad,List.getElem?_cons_zero,List.getElem?_cons_succ]) (by first | rfl | simp [LM1,zal,zaq,zae,zaf,renL,AV.ren,AEnd.ren,zao,fS,gS,cC,nilS,zau,zaj,zac,wI,wO,zab,zad,List.getElem?_cons_zero,List.getElem?_cons_succ]) ?_
    rintro _ _ ⟨rfl,rfl⟩
    refine⟨.ret (u8 b),[.rw (cC s ((p+1+1:Nat):Int) nilS nilS),.rw (nC n0d),.rw (nC ⟨1,0,[],0⟩)],(aQ3 ([0,1,1])),(aQ10 ([0,1,1])),?_⟩
    refine aQ34 ?_
    simp only at nd0
    refine⟨fun h=>?_,fun h=>?_⟩
    ·rw [if_neg (by omega)] at nd0
     refine zbc (zaj _) ?_
     unfold zcR
     rw [nd0]
     exact⟨rfl,rfl⟩
    ·rw [if_pos (by omega)] at nd0
     refine zfd (zbX _ _) ?_
     unfold zcR
     rw [nd0]
     exact⟨rfl,rfl⟩
  by_cases c3:c.toNat=3
  ·rw [if_neg c2,if_pos c3] at nd0
   repeat' (first | (refine⟨fun _=>?_,fun h=>absurd (by omega) h⟩) | (refine⟨fun h=>absurd h (by omega),fun _=>?_⟩) | fail)
   rw [show ((c.toNat:Int)) - 1=2 by omega]
   by_cases h8:r.length < 8
   ·rw [if_pos h8] at nd0
    refine ACalls.frame ([0]) (ftake_no s (p+1) 8 (by omega) (by omega) (by omega) (by omega)) rfl (by decide) (by simp [LM1,zal,zaq,zae,zaf,renL,AV.ren,AEnd.ren,zao,fS,gS,cC,nilS,zau,zaj,zac,wI,wO,zab,zad,List.getElem?_cons_zero,List.getElem?_cons_succ]) (by first | rfl | simp [LM1,zal,zaq,zae,zaf,renL,AV.ren,AEnd.ren,zao,fS,gS,cC,nilS,zau,zaj,zac,wI,wO,zab,zad,List.getElem?_cons_zero,List.getElem?_cons_succ]) ?_
    rintro _ _ ⟨rfl,rfl⟩
    refine⟨.pan cgu,[.dead,.rw (nC n0d),.rw (nC ⟨2,0,[],0⟩)],(aQ3 ([0,1,1])),(aQ10 ([0,1,1])),?_⟩
    refine aQ34 ?_
    refine zbc (zaj _) ?_
    unfold zcR
    rw [nd0]
    exact⟨rfl,rfl⟩
   ·rw [if_neg h8] at nd0
    have htk:=ftake_ok s (p+1) 8 (by omega) (by omega)
    rw [hdr] at htk
    refine ACalls.frame ([0]) (htk) rfl (by decide) (by simp [LM1,zal,zaq,zae,zaf,renL,AV.ren,AEnd.ren,zao,fS,gS,cC,nilS,zau,zaj,zac,wI,wO,zab,zad,List.getElem?_cons_zero,List.getElem?_cons_succ]) (by first | rfl | simp [LM1,zal,zaq,zae,zaf,renL,AV.ren,AEnd.ren,zao,fS,gS,cC,nilS,zau,zaj,zac,wI,wO,zab,zad,List.getElem?_cons_zero,List.getElem?_cons_succ]) ?_
    rintro _ _ ⟨rfl,rfl⟩
    refine⟨.ret (str (r.take 8)),[.rw (cC s ((p+1+8:Nat):Int) nilS nilS),.rw (nC n0d),.rw (nC ⟨2,0,[],0⟩)],(aQ3 ([0,1,1])),(aQ10 ([0,1,1])),?_⟩
    refine aQ34 ?_
    refine(ziG (r.take 8) (by rw [List.length_take];omega)).pure aQ14 ?_
    rintro _ σ rfl
    refine⟨by first | rfl | simp [AEnd.noid,AV.ren,renL,za5,zax str zag,za8,za4,zaU,zam,zad,zag],?_⟩
    refine aQ34 ?_
    refine aQ36 ?_
    refine zfd (zbX _ _) ?_
    unfold zcR
    rw [nd0]
    exact⟨rfl,rfl⟩
  by_cases c4:c.toNat=4
  ·rw [if_neg c2,if_neg c3,if_pos c4] at nd0
   repeat' (first | (refine⟨fun _=>?_,fun h=>absurd (by omega) h⟩) | (refine⟨fun h=>absurd h (by omega),fun _=>?_⟩) | fail)
   rw [show ((c.toNat:Int)) - 1=3 by omega]
   have htx:=ftext_ok s (p+1) (by omega) (by omega)
   unfold zjP at htx
   rw [hdr] at htx
   cases hx:rdT r with
   | none =>
    rw [hx] at htx nd0
    refine ACalls.frame ([0]) (htx) rfl (by decide) (by simp [LM1,zal,zaq,zae,zaf,renL,AV.ren,AEnd.ren,zao,fS,gS,cC,nilS,zau,zaj,zac,wI,wO,zab,zad,List.getElem?_cons_zero,List.getElem?_cons_succ]) (by first | rfl | simp [LM1,zal,zaq,zae,zaf,renL,AV.ren,AEnd.ren,zao,fS,gS,cC,nilS,zau,zaj,zac,wI,wO,zab,zad,List.getElem?_cons_zero,List.getElem?_cons_succ]) ?_
    rintro _ _ ⟨rfl,rfl⟩
    refine⟨.pan cgu,[.dead,.rw (nC n0d),.rw (nC ⟨3,0,[],0⟩)],(aQ3 ([0,1,1])),(aQ10 ([0,1,1])),?_⟩
    refine aQ34 ?_
    refine zbc (zaj _) ?_
    unfold zcR
    rw [nd0]
    exact⟨rfl,rfl⟩
   | some x =>
    rw [hx] at htx nd0
    refine ACalls.frame ([0]) (htx) rfl (by decide) (by simp [LM1,zal,zaq,zae,zaf,renL,AV.ren,AEnd.ren,zao,fS,gS,cC,nilS,zau,zaj,zac,wI,wO,zab,zad,List.getElem?_cons_zero,List.getElem?_cons_succ]) (by first | rfl | simp [LM1,zal,zaq,zae,zaf,renL,AV.ren,AEnd.ren,zao,fS,gS,cC,nilS,zau,zaj,zac,wI,wO,zab,zad,List.getElem?_cons_zero,List.getElem?_cons_succ]) ?_
    rintro _ _ ⟨rfl,rfl⟩
    refine⟨.ret (str x.1),[.rw (cC s ((p+1+x.2:Nat):Int) nilS nilS),.rw (nC n0d),.rw (nC ⟨3,0,[],0⟩)],(aQ3 ([0,1,1])),(aQ10 ([0,1,1])),?_⟩
    refine aQ34 ?_
    refine zfd (zbX _ _) ?_
    unfold zcR
    rw [nd0]
    exact⟨rfl,rfl⟩
  ·rw [if_neg c2,if_neg c3,if_neg c4] at nd0
   repeat' (first | (refine⟨fun _=>?_,fun h=>absurd (by omega) h⟩) | (refine⟨fun h=>absurd h (by omega),fun _=>?_⟩) | fail)
   refine zbc (zaj _) ?_
   unfold zcR
   rw [nd0]
   exact⟨rfl,rfl⟩
def zcY (s:List UInt8) (p:Nat) (l:List Nd) (m:Nat) (O:List (Nat × List UInt8)):AEnd→zaa→Prop:=fun y σ=>match nodR s p with
 | some x=>y=.ret (nA x.1)∧σ=(gS s (x.2:Int) l m O)
 | none=>y=.pan cgu∧σ=[Blk.dead,Blk.dead,Blk.dead]
theorem zji (s:List UInt8) (p:Nat) (l:List Nd) (m:Nat) (O:List (Nat × List UInt8)) (hs:s.length≤1000000000) (hp:p≤s.length):ACalls Tryz.prog 107 [.ptr 0 0] (gS s p l m O) (zcY s p l m O):=by
 unfold gS
 refine ACalls.body T_ok Tryz.func107 (by kernel_rfl) rfl Tryz.ntmps107 (congrArg Array.toList Tryz.results107) ?_
 refine aQ34 ?_
 rcases Nat.eq_or_lt_of_le hp with hp0 | hp0
 ·have hn:nodR s p=none:=by
   rw [nodR,List.drop_eq_nil_of_le (by omega)]
  refine ACalls.frame ([0,1,2]) (ziL s p l m O (by omega) (by omega)) rfl (by decide) (by simp [LM1,zal,zaq,zae,zaf,renL,AV.ren,AEnd.ren,zao,fS,gS,cC,nilS,zau,zaj,zac,wI,wO,zab,zad,List.getElem?_cons_zero,List.getElem?_cons_succ]) (by first | rfl | simp [LM1,zal,zaq,zae,zaf,renL,AV.ren,AEnd.ren,zao,fS,gS,cC,nilS,zau,zaj,zac,wI,wO,zab,zad,List.getElem?_cons_zero,List.getElem?_cons_succ]) ?_
  rintro _ _ ⟨rfl,rfl⟩
  refine⟨.pan cgu,[.dead,.dead,.dead,.rw (nC n0d)],(aQ3 ([0,1,2,3])),(aQ10 ([0,1,2,3])),?_⟩
  refine aQ34 ?_
  refine zbc (zaj _) ?_
  unfold zcY
  rw [hn]
  exact⟨rfl,rfl⟩
 ·obtain⟨c,r,hcr⟩:∃ c r,s.drop p=c::r:=⟨s.getD p 0,s.drop (p+1),by
   rw [List.drop_eq_getElem_cons hp0,List.getD_eq_getElem?_getD,List.getElem?_eq_getElem hp0]
   rfl⟩
  have hc:s.getD p 0=c:=by
   have:=congrArg (fun l=>l[0]?) hcr
   simp only [List.getElem?_drop,Nat.add_zero,List.getElem?_cons_zero] at this
   rw [List.getD_eq_getElem?_getD,this]
   rfl
  have hsg:=ziK s p l m O (by omega) hp0
  rw [hc] at hsg
  refine ACalls.frame ([0,1,2]) (hsg) rfl (by decide) (by simp [LM1,zal,zaq,zae,zaf,renL,AV.ren,AEnd.ren,zao,fS,gS,cC,nilS,zau,zaj,zac,wI,wO,zab,zad,List.getElem?_cons_zero,List.getElem?_cons_succ]) (by first | rfl | simp [LM1,zal,zaq,zae,zaf,renL,AV.ren,AEnd.ren,zao,fS,gS,cC,nilS,zau,zaj,zac,wI,wO,zab,zad,List.getElem?_cons_zero,List.getElem?_cons_succ]) ?_
  rintro _ _ ⟨rfl,rfl⟩
  refine⟨.ret (u8 c),[.rw (cC s ((p+1:Nat):Int) (.ref 1 0 l.length 4) (.ref 2 0 m 2)),.rw (l.flatMap nC),.rw (O.flatMap oC),.rw (nC n0d)],(aQ3 ([0,1,2,3])),(aQ10 ([0,1,2,3])),?_⟩
  refine aQ34 ?_
  have hdr:s.drop (p+1)=r:=by
   have:=congrArg (List.drop 1) hcr
   rw [List.drop_drop] at this
   exact this
  have hrl:r.length=s.length - (p+1):=by rw [← hdr,List.length_drop]
  have hc8:=c.toNat_lt
  refine⟨by unfold inI;omega,?_⟩
  by_cases c1:c.toNat=1
  ·have hn:nodR s p=some (⟨0,0,[],0⟩,p+1):=by
    rw [nodR,hcr]
    simp only
    rw [if_pos (by omega),c1]
    rfl
   repeat' (first | (refine⟨fun _=>?_,fun h=>absurd (by omega) h⟩) | (refine⟨fun h=>absurd h (by omega),fun _=>?_⟩) | fail)
   rw [show ((c.toNat:Int)) - 1=0 by omega]
   refine zeM (zbX _ _) ?_
   unfold zcY
   rw [hn]
   exact⟨rfl,rfl⟩
  by_cases c5:c.toNat=5
  ·have hn:nodR s p=some (⟨4,0,[],0⟩,p+1):=by
    rw [nodR,hcr]
    simp only
    rw [if_pos (by omega),c5]
    rfl
   repeat' (first | (refine⟨fun _=>?_,fun h=>absurd (by omega) h⟩) | (refine⟨fun h=>absurd h (by omega),fun _=>?_⟩) | fail)
   rw [show ((c.toNat:Int)) - 1=4 by omega]
   refine zeM (zbX _ _) ?_
   unfold zcY
   rw [hn]
   exact⟨rfl,rfl⟩
  by_cases c6:c.toNat=6
  ·have hn:nodR s p=some (⟨5,0,[],0⟩,p+1):=by
    rw [nodR,hcr]
    simp only
    rw [if_pos (by omega),c6]
    rfl
   repeat' (first | (refine⟨fun _=>?_,fun h=>absurd (by omega) h⟩) | (refine⟨fun h=>absurd h (by omega),fun _=>?_⟩) | fail)
   rw [show ((c.toNat:Int)) - 1=5 by omega]
   refine zeM (zbX _ _) ?_
   unfold zcY
   rw [hn]
   exact⟨rfl,rfl⟩
  have nd0:nodR s p=if c.toNat=2 then (match r with
   | []=>none
   | b::_=>if b.toNat≤1 then some (⟨1,b.toNat,[],0⟩,p+2) else none)
  else if c.toNat=3 then (if r.length < 8 then none else some (⟨2,IntKind.i64.wrap (zbD (r.take 8) ^^^ 9223372036854775808#64).toNat,[],0⟩,p+9))
  else if c.toNat=4 then (rdT r).map fun x=>(⟨3,0,x.1,0⟩,p+1+x.2)
  else none:=by
   rw [nodR,hcr]
   simp only
   rw [if_neg (by omega)]
  by_cases c2:c.toNat=2
  ·rw [if_pos c2] at nd0
   repeat' (first | (refine⟨fun _=>?_,fun h=>absurd (by omega) h⟩) | (refine⟨fun h=>absurd h (by omega),fun _=>?_⟩) | fail)
   rw [show ((c.toNat:Int)) - 1=1 by omega]
   cases r with
   | nil =>
    simp only [List.length_nil] at hrl
    refine ACalls.frame ([0,1,2]) (ziL s (p+1) l m O (by omega) (by omega)) rfl (by decide) (by simp [LM1,zal,zaq,zae,zaf,renL,AV.ren,AEnd.ren,zao,fS,gS,cC,nilS,zau,zaj,zac,wI,wO,zab,zad,List.getElem?_cons_zero,List.getElem?_cons_succ]) (by first | rfl | simp [LM1,zal,zaq,zae,zaf,renL,AV.ren,AEnd.ren,zao,fS,gS,cC,nilS,zau,zaj,zac,wI,wO,zab,zad,List.getElem?_cons_zero,List.getElem?_cons_succ]) ?_
    rintro _ _ ⟨rfl,rfl⟩
    refine⟨.pan cgu,[.dead,.dead,.dead,.rw (nC n0d),.rw (nC ⟨1,0,[],0⟩)],(aQ3 ([0,1,2,3,3])),(aQ10 ([0,1,2,3,3])),?_⟩
    refine aQ34 ?_
    refine zbc (zaj _) ?_
    unfold zcY
    rw [nd0]
    exact⟨rfl,rfl⟩
   | cons b r' =>
    simp only [List.length_cons] at hrl
    have hb:s.getD (p+1) 0=b:=by
     have:=congrArg (fun l=>l[0]?) hdr
     simp only [List.getElem?_drop,Nat.add_zero,List.getElem?_cons_zero] at this
     rw [List.getD_eq_getElem?_getD,this]
     rfl
    have hsg2:=ziK s (p+1) l m O (by omega) (by omega)
    rw [hb] at hsg2
    refine ACalls.frame ([0,1,2]) (hsg2) rfl (by decide) (by simp [LM1,zal,zaq,zae,zaf,renL,AV.ren,AEnd.ren,zao,fS,gS,cC,nilS,zau,zaj,zac,wI,wO,zab,zad,List.getElem?_cons_zero,List.getElem?_cons_succ]) (by first | rfl | simp [LM1,zal,zaq,zae,zaf,renL,AV.ren,AEnd.ren,zao,fS,gS,cC,nilS,zau,zaj,zac,wI,wO,zab,zad,List.getElem?_cons_zero,List.getElem?_cons_succ]) ?_
    rintro _ _ ⟨rfl,rfl⟩
    refine⟨.ret (u8 b),[.rw (cC s ((p+1+1:Nat):Int) (.ref 1 0 l.length 4) (.ref 2 0 m 2)),.rw (l.flatMap nC),.rw (O.flatMap oC),.rw (nC n0d),.rw (nC ⟨1,0,[],0⟩)],(aQ3 ([0,1,2,3,3])),(aQ10 ([0,1,2,3,3])),?_⟩
    refine aQ34 ?_
    simp only at nd0
    refine⟨fun h=>?_,fun h=>?_⟩
    ·rw [if_neg (by omega)] at nd0
     refine zbc (zaj _) ?_
     unfold zcY
     rw [nd0]
     exact⟨rfl,rfl⟩
    ·rw [if_pos (by omega)] at nd0
     refine zeM (zbX _ _) ?_
     unfold zcY
     rw [nd0]
     exact⟨rfl,rfl⟩
  by_cases c3:c.toNat=3
  ·rw [if_neg c2,if_pos c3] at nd0
   repeat' (first | (refine⟨fun _=>?_,fun h=>absurd (by omega) h⟩) | (refine⟨fun h=>absurd h (by omega),fun _=>?_⟩) | fail)
   rw [show ((c.toNat:Int)) - 1=2 by omega]
   by_cases h8:r.length < 8
   ·rw [if_pos h8] at nd0
    refine ACalls.frame ([0,1,2]) (gtake_no s (p+1) 8 l m O (by omega) (by omega) (by omega) (by omega)) rfl (by decide) (by simp [LM1,zal,zaq,zae,zaf,renL,AV.ren,AEnd.ren,zao,fS,gS,cC,nilS,zau,zaj,zac,wI,wO,zab,zad,List.getElem?_cons_zero,List.getElem?_cons_succ]) (by first | rfl | simp [LM1,zal,zaq,zae,zaf,renL,AV.ren,AEnd.ren,zao,fS,gS,cC,nilS,zau,zaj,zac,wI,wO,zab,zad,List.getElem?_cons_zero,List.getElem?_cons_succ]) ?_
    rintro _ _ ⟨rfl,rfl⟩
    refine⟨.pan cgu,[.dead,.dead,.dead,.rw (nC n0d),.rw (nC ⟨2,0,[],0⟩)],(aQ3 ([0,1,2,3,3])),(aQ10 ([0,1,2,3,3])),?_⟩
    refine aQ34 ?_
    refine zbc (zaj _) ?_
    unfold zcY
    rw [nd0]
    exact⟨rfl,rfl⟩
   ·rw [if_neg h8] at nd0
    have htk:=gtake_ok s (p+1) 8 l m O (by omega) (by omega)
    rw [hdr] at htk
    refine ACalls.frame ([0,1,2]) (htk) rfl (by decide) (by simp [LM1,zal,zaq,zae,zaf,renL,AV.ren,AEnd.ren,zao,fS,gS,cC,nilS,zau,zaj,zac,wI,wO,zab,zad,List.getElem?_cons_zero,List.getElem?_cons_succ]) (by first | rfl | simp [LM1,zal,zaq,zae,zaf,renL,AV.ren,AEnd.ren,zao,fS,gS,cC,nilS,zau,zaj,zac,wI,wO,zab,zad,List.getElem?_cons_zero,List.getElem?_cons_succ]) ?_
    rintro _ _ ⟨rfl,rfl⟩
    refine⟨.ret (str (r.take 8)),[.rw (cC s ((p+1+8:Nat):Int) (.ref 1 0 l.length 4) (.ref 2 0 m 2)),.rw (l.flatMap nC),.rw (O.flatMap oC),.rw (nC n0d),.rw (nC ⟨2,0,[],0⟩)],(aQ3 ([0,1,2,3,3])),(aQ10 ([0,1,2,3,3])),?_⟩
    refine aQ34 ?_
    refine(ziG (r.take 8) (by rw [List.length_take];omega)).pure aQ14 ?_
    rintro _ σ rfl
    refine⟨by first | rfl | simp [AEnd.noid,AV.ren,renL,za5,zax str zag,za8,za4,zaU,zam,zad,zag],?_⟩
    refine aQ34 ?_
    refine aQ36 ?_
    refine zeM (zbX _ _) ?_
    unfold zcY
    rw [nd0]
    exact⟨rfl,rfl⟩
  by_cases c4:c.toNat=4
  ·rw [if_neg c2,if_neg c3,if_pos c4] at nd0
   repeat' (first | (refine⟨fun _=>?_,fun h=>absurd (by omega) h⟩) | (refine⟨fun h=>absurd h (by omega),fun _=>?_⟩) | fail)
   rw [show ((c.toNat:Int)) - 1=3 by omega]
   have htx:=zg3 s (p+1) l m O (by omega) (by omega)
   unfold zgM at htx
   rw [hdr] at htx
   cases hx:rdT r with
   | none =>
    rw [hx] at htx nd0
    refine ACalls.frame ([0,1,2]) (htx) rfl (by decide) (by simp [LM1,zal,zaq,zae,zaf,renL,AV.ren,AEnd.ren,zao,fS,gS,cC,nilS,zau,zaj,zac,wI,wO,zab,zad,List.getElem?_cons_zero,List.getElem?_cons_succ]) (by first | rfl | simp [LM1,zal,zaq,zae,zaf,renL,AV.ren,AEnd.ren,zao,fS,gS,cC,nilS,zau,zaj,zac,wI,wO,zab,zad,List.getElem?_cons_zero,List.getElem?_cons_succ]) ?_
    rintro _ _ ⟨rfl,rfl⟩
    refine⟨.pan cgu,[.dead,.dead,.dead,.rw (nC n0d),.rw (nC ⟨3,0,[],0⟩)],(aQ3 ([0,1,2,3,3])),(aQ10 ([0,1,2,3,3])),?_⟩
    refine aQ34 ?_
    refine zbc (zaj _) ?_
    unfold zcY
    rw [nd0]
    exact⟨rfl,rfl⟩
   | some x =>
    rw [hx] at htx nd0
    refine ACalls.frame ([0,1,2]) (htx) rfl (by decide) (by simp [LM1,zal,zaq,zae,zaf,renL,AV.ren,AEnd.ren,zao,fS,gS,cC,nilS,zau,zaj,zac,wI,wO,zab,zad,List.getElem?_cons_zero,List.getElem?_cons_succ]) (by first | rfl | simp [LM1,zal,zaq,zae,zaf,renL,AV.ren,AEnd.ren,zao,fS,gS,cC,nilS,zau,zaj,zac,wI,wO,zab,zad,List.getElem?_cons_zero,List.getElem?_cons_succ]) ?_
    rintro _ _ ⟨rfl,rfl⟩
    refine⟨.ret (str x.1),[.rw (cC s ((p+1+x.2:Nat):Int) (.ref 1 0 l.length 4) (.ref 2 0 m 2)),.rw (l.flatMap nC),.rw (O.flatMap oC),.rw (nC n0d),.rw (nC ⟨3,0,[],0⟩)],(aQ3 ([0,1,2,3,3])),(aQ10 ([0,1,2,3,3])),?_⟩
    refine aQ34 ?_
    refine zeM (zbX _ _) ?_
    unfold zcY
    rw [nd0]
    exact⟨rfl,rfl⟩
  ·rw [if_neg c2,if_neg c3,if_neg c4] at nd0
   repeat' (first | (refine⟨fun _=>?_,fun h=>absurd (by omega) h⟩) | (refine⟨fun h=>absurd h (by omega),fun _=>?_⟩) | fail)
   refine zbc (zaj _) ?_
   unfold zcY
   rw [nd0]
   exact⟨rfl,rfl⟩
end Go.Proofs.YtcahoelfogjljaaGreatDoor
end

section
namespace Go.Proofs.YtcahoelfogjljaaGreatDoor
open Go Go.Eng
section
variable {s : List UInt8} {K : AV → Prop} {KS : AV → zaa → Prop} {σ : zaa} {t e : TypeId} {id : Nat}
theorem al_c:al1 T e (some tyCr) σ KS=KS (.ptr σ.length 0) (σ++[.rw (cC [] 0 nilS nilS)]):=by
 simp [al1,tyCr,zaI,nilS,i64,str,cC]
theorem bd_c (ht:T t=some tyCr):zaM T t [(0,str s)] K=K (.agg (cC s 0 nilS nilS)):=by
 simp [zaM,ht,tyCr,T9,T3,T156,T22,zbg,zaI,zcE,zbV,zaW,zaF,tySl,tyStr,cC,nilS]
 try rfl
theorem st_c (x:List AV) (hx:x.length=4):st2 (some tyCr) (some (.rw x)) id 0 (.agg (cC s 0 nilS nilS)) σ KS=KS (.lit undef) (σ.set id (.rw (cC s 0 nilS nilS))):=by
 match x,hx with
 | [_,_,_,_],_=>simp [st2,tyCr,AV.cells,AV.one,Value.oneCell',zaW,cC,nilS,i64,str]
theorem bd_nn (ht:T t=some tyNd):zaM T t [] K=K (nA n0d):=by
 simp [zaM,ht,tyNd,T3,T2,T49,T9,zaF,tyStr,zbg,zaI,nA,nC,n0d,i64,str]
end
theorem nilB_cgu:zgC (recV (some cgu))=some false:=rfl
def oneR (s:List UInt8):Nd × Nat × Bool:=match nodR s 0 with
 | some x=>(x.1,x.2,true)
 | none=>(n0d,0,false)
theorem oneP_ok (a:Nd) (b:Int) (c:Bool) (σ:zaa) (K:zaa→Prop) (h:K (.rw (nC n0d)::.rw [i64 0]::.rw [bl false]::σ)):DCalls Tryz.prog 106 [.ptr 0 0,.ptr 1 0,.ptr 2 0] (.rw (nC a)::.rw [i64 b]::.rw [bl c]::σ) (some cgu) K:=by
 refine DCalls.body (b:=true) T_ok Tryz.func106 rfl Tryz.ntmps106 Tryz.results106 rfl ?_ ?_
 ·first|exact aQ37 trivial|refine aQ37 ?_
 ·refine aQ37 ?_
  exact h
theorem oneN_ok (a:Nd) (b:Int) (c:Bool) (σ:zaa) (K:zaa→Prop) (h:K (.rw (nC a)::.rw [i64 b]::.rw [bl c]::σ)):DCalls Tryz.prog 106 [.ptr 0 0,.ptr 1 0,.ptr 2 0] (.rw (nC a)::.rw [i64 b]::.rw [bl c]::σ) none K:=by
 refine DCalls.body (b:=false) T_ok Tryz.func106 rfl Tryz.ntmps106 Tryz.results106 rfl ?_ ?_
 ·refine aQ37 ?_
  exact⟨rfl,rfl,rfl⟩
 ·refine aQ37 ?_
  exact h
def oneT:Tr:=(.br 0 (.br 1 (.br 2 (.br 3 (.br 4 (.br 5 .done .nil) .nil) .nil) (.br 3 (.br 2 (.br 4 (.br 5 .done .nil) .nil) .nil) .nil)) (.br 3 (.br 1 (.br 2 (.br 4 (.br 5 .done .nil) .nil) .nil) .nil) .nil)) (.br 1 (.br 0 (.br 2 (.br 3 (.br 4 (.br 5 .done .nil) .nil) .nil) (.br 3 (.br 2 (.br 4 (.br 5 .done .nil) .nil) .nil) .nil)) (.br 2 (.br 0 (.br 3 (.br 4 (.br 5 .done .nil) .nil) .nil) .nil) .nil)) .nil))
theorem one_ok (s:List UInt8) (hs:s.length≤1000000000):ACalls Tryz.prog 77 [str s] [] (fun y _=>y=.ret (.tup [nA (oneR s).1,i64 (oneR s).2.1,bl (oneR s).2.2])):=by
 have hnd:=zg4 s 0 hs (by omega)
 unfold zcR at hnd
 refine ACalls.bodyD T_ok Tryz.func77 (by kernel_rfl) rfl Tryz.ntmps77 (congrArg Array.toList Tryz.results77) ?_
 rw [zi7 rfl]
 refine aQ37 ?_
 rw [WD_some rfl]
 refine aQ37 ?_
 refine⟨by kernel_rfl,?_⟩
 refine aQ37 ?_
 cases hx:nodR s 0 with
 | none =>
  rw [hx] at hnd
  refine ACalls.frame ([3]) (hnd) rfl (by decide) (by simp [LM1,zal,zaq,zae,zaf,renL,AV.ren,AEnd.ren,zao,fS,gS,cC,nilS,zau,zaj,zac,wI,wO,zab,zad,List.getElem?_cons_zero,List.getElem?_cons_succ]) (by first | rfl | simp [LM1,zal,zaq,zae,zaf,renL,AV.ren,AEnd.ren,zao,fS,gS,cC,nilS,zau,zaj,zac,wI,wO,zab,zad,List.getElem?_cons_zero,List.getElem?_cons_succ]) ?_
  rintro _ _ ⟨rfl,rfl⟩
  refine⟨.pan cgu,[.rw (nC n0d),.rw [i64 0],.rw [bl false],.dead],(aQ3 ([1,1,1,0])),(aQ10 ([1,1,1,0])),?_⟩
  refine aQ37 ?_
  refine oneP_ok _ _ _ _ _ ?_
  refine aQ37 ?_
  exact zaO (by simp [AV.ren,renL,zam,zbX,zad]) (by unfold oneR;rw [hx];rfl)
 | some x =>
  rw [hx] at hnd
  refine ACalls.frame ([3]) (hnd) rfl (by decide) (by simp [LM1,zal,zaq,zae,zaf,renL,AV.ren,AEnd.ren,zao,fS,gS,cC,nilS,zau,zaj,zac,wI,wO,zab,zad,List.getElem?_cons_zero,List.getElem?_cons_succ]) (by first | rfl | simp [LM1,zal,zaq,zae,zaf,renL,AV.ren,AEnd.ren,zao,fS,gS,cC,nilS,zau,zaj,zac,wI,wO,zab,zad,List.getElem?_cons_zero,List.getElem?_cons_succ]) ?_
  rintro _ _ ⟨rfl,rfl⟩
  refine⟨.ret (nA x.1),[.rw (nC n0d),.rw [i64 0],.rw [bl false],.rw (cC s (x.2:Int) nilS nilS)],(aQ3 ([1,1,1,0])),(aQ10 ([1,1,1,0])),?_⟩
  refine aQ37 ?_
  refine zed oneT ([.bot,.bot,.ptr 0 0,.ptr 1 0,.ptr 2 0,.bot,.bot,.bot,.bot,.bot,.bot,.bot,.bot]) [.rw (nC x.1),.rw [i64 x.2],.rw [bl true],.rw (cC s (x.2:Int) nilS nilS)] (by kernel_rfl) (by kernel_rfl) ?_ ?_
  ·unfold oneT
   refine aQ37 ?_
   repeat' (with_reducible refine And.intro ?_ ?_)
   all_goals
    refine za2 ?_
    first|exact aQ25 trivial|refine aQ25 ?_
  refine aQ37 ?_
  refine oneN_ok _ _ _ _ _ ?_
  refine aQ37 ?_
  exact zaO (by simp [AV.ren,renL,zam,zbX,zad]) (by unfold oneR;rw [hx])
end Go.Proofs.YtcahoelfogjljaaGreatDoor
end

section
namespace Go.Proofs.YtcahoelfogjljaaGreatDoor
open Go Go.Eng
set_option linter.defProp false in
def LB15:=And.intro @al_c (And.intro (fun {s} {K}=>@bd_c s K _ T158) (And.intro (fun {id} {s} {σ} {KS}=>st_c (id:=id) (s:=s) (σ:=σ) (KS:=KS) (cC [] 0 nilS nilS) rfl) ((fun {K}=>@bd_nn K _ T51))))
set_option linter.defProp false in
def LM6:=And.intro LM2 (LB15)
theorem bd_op {t:TypeId} {K:AV→Prop} (ht:T t=some tyOp) (k:Int):zaM T t [(0,i64 k)] K=K (.agg [i64 k,str []]):=by
 simp [zaM,ht,tyOp,T3,T9,zbg,zaI,zbN,zbx,zaW,zaF,tyStr]
 try rfl
theorem qb_n1 {K:AV→Prop} (n:Nd):qb2 (some tyNd) 1 [(0,nA n)] K=K (.sl ([n].flatMap nC) [n].length):=by
 simp [qb2,tyNd,zbg,zbH,AV.cells,nA,nC,zaW,List.range_succ,zbx,zbV]
theorem qb_o1 {K:AV→Prop} (k:Int):qb2 (some tyOp) 1 [(0,.agg [i64 k,str []])] K=K (.sl [i64 k,str []] 1):=by
 simp [qb2,tyOp,zbg,zbH,AV.cells,zaW,List.range_succ,zbx,zbV]
theorem len_nilS {K:AV→Prop} (e:TypeId):len2 (some (tySl e)) nilS K=K (i64 0):=rfl
theorem all_O:∀ O:List (Nat × List UInt8),(O.flatMap oC).all AV.one=true
 | []=>rfl
 | o::O=>by rw [List.flatMap_cons,List.all_append,all_O O];rfl
theorem zfY:∀ O:List (Nat × List UInt8),(O.flatMap oC).length=O.length * 2
 | []=>rfl
 | o::O=>by rw [List.flatMap_cons,List.length_append,zfY O];simp [oC];omega
theorem ziP:∀ (O:List (Nat × List UInt8)) (m:Nat),(O.flatMap oC).take (m * 2)=(O.take m).flatMap oC
 | [],m=>by simp
 | o::O,0=>by simp
 | o::O,m+1=>by
  have:=ziP O m
  rw [List.flatMap_cons,show (m+1) * 2=m * 2+1+1 by omega]
  simp only [oC,List.cons_append,List.nil_append,List.take_succ_cons,List.flatMap_cons,this]
theorem append_On {ts:Array TypeId} {t t1 e:TypeId} (h0:ts[0]?=some t) (h1:ts[1]?=some t1) (ht:T t=some (tySl e)) (ht1:T t1=some (tySl e)) (he:T e=some tyOp) {k:Int} {o:List UInt8} {σ:zaa} {KS:AV→zaa→Prop}
  (hk:KS (.ref σ.length 0 1 2) (σ++[.rw [i64 k,str o]])):za1 T ts nilS (.sl [i64 k,str o] 1) σ KS:=by
 have hs:asrc σ 2 (.sl [i64 k,str o] 1)=some ([i64 k,str o],1):=by simp [asrc,asl]
 have hd:adst σ 2 nilS=some ([],0,σ):=rfl
 simp only [za1,h0,h1,Option.bind_some,ht,ht1]
 simp only [tySl,he,show tyOp.size=2 from rfl,hs,hd]
 refine⟨fun k h=>(by cases h),fun h=>(by cases h),tyOp,rfl,?_⟩
 simp only [show tyOp.size=2 from rfl,hs,hd]
 refine⟨rfl,rfl,rfl,by omega,by (show (0+1) * 24≤_);omega,?_⟩
 simpa using hk
theorem append_O {ts:Array TypeId} {t t1 e:TypeId} (h0:ts[0]?=some t) (h1:ts[1]?=some t1) (ht:T t=some (tySl e)) (ht1:T t1=some (tySl e)) (he:T e=some tyOp) {id m:Nat} {O:List (Nat × List UInt8)} {o:Nat × List UInt8} {σ:zaa} {KS:AV→zaa→Prop}
  (hc:σ[id]?=some (.rw (O.flatMap oC))) (hm:m≤O.length) (g2:m+1≤1000000000)
  (hk:KS (.ref σ.length 0 (m+1) 2) (σ.set id .dead++[.rw ((O.take m++[o]).flatMap oC)])):za1 T ts (.ref id 0 m 2) (.sl (oC o) 1) σ KS:=by
 have hs:asrc σ 2 (.sl (oC o) 1)=some (oC o,1):=by simp [asrc,asl,oC]
 have hd:adst σ 2 (.ref id 0 m 2)=some ((O.take m).flatMap oC,m,σ.set id .dead):=by
  simp only [adst,hc,zfY,if_true]
  rw [if_pos (by omega),ziP]
 simp only [za1,h0,h1,Option.bind_some,ht,ht1]
 simp only [tySl,he,show tyOp.size=2 from rfl,hs,hd]
 refine⟨fun k h=>(by cases h),fun h=>(by cases h),tyOp,rfl,?_⟩
 simp only [show tyOp.size=2 from rfl,hs,hd]
 refine⟨rfl,rfl,all_O _,by omega,by (show (m+1) * 24≤_);omega,?_⟩
 simpa using hk
theorem zhV {ts:Array TypeId} {t t1 e:TypeId} (h0:ts[0]?=some t) (h1:ts[1]?=some t1) (ht:T t=some (tySl e)) (ht1:T t1=some (tySl e)) (he:T e=some tyNd) {ys:List Nd} {σ:zaa} {KS:AV→zaa→Prop} (g2:ys.length≤1000000000)
  (hk:KS (.ref σ.length 0 ys.length 4) (σ++[.rw (ys.flatMap nC)])):za1 T ts nilS (.sl (ys.flatMap nC) ys.length) σ KS:=by
 have hs:=zfR σ ys
 have hd:adst σ 4 nilS=some ([],0,σ):=rfl
 simp only [za1,h0,h1,Option.bind_some,ht,ht1]
 simp only [tySl,he,show tyNd.size=4 from rfl,hs,hd]
 refine⟨fun k h=>(by cases h),fun h=>(by cases h),tyNd,rfl,?_⟩
 simp only [show tyNd.size=4 from rfl,hs,hd]
 refine⟨rfl,all_N ys,rfl,by omega,by (show (0+ys.length) * 40≤_);omega,?_⟩
 rw [Nat.zero_add,List.nil_append]
 exact hk
theorem fbegin_no (s:List UInt8) (p:Nat) (hs:s.length≤1000000000) (hp:p≤s.length) (hx:nodR s p=none):ACalls Tryz.prog 109 [.ptr 0 0] (fS s p) (fun y σ=>y=.pan cgu∧σ=[Blk.dead]):=by
 have hnd:=zg4 s p hs hp
 unfold zcR at hnd
 rw [hx] at hnd
 unfold fS at hnd ⊢
 refine ACalls.body T_ok Tryz.func109 (by kernel_rfl) rfl Tryz.ntmps109 (congrArg Array.toList Tryz.results109) ?_
 refine aQ38 ?_
 refine ACalls.frame ([0]) (hnd) rfl (by decide) (by simp [LM1,zal,zaq,zae,zaf,renL,AV.ren,AEnd.ren,zao,fS,gS,cC,nilS,zau,zaj,zac,wI,wO,zab,zad,List.getElem?_cons_zero,List.getElem?_cons_succ]) (by first | rfl | simp [LM1,zal,zaq,zae,zaf,renL,AV.ren,AEnd.ren,zao,fS,gS,cC,nilS,zau,zaj,zac,wI,wO,zab,zad,List.getElem?_cons_zero,List.getElem?_cons_succ]) ?_
 rintro _ _ ⟨rfl,rfl⟩
 refine⟨.pan cgu,[.dead],(aQ3 ([0])),(aQ10 ([0])),?_⟩
 refine aQ38 ?_
 exact zbc (zaj _) ⟨rfl,rfl⟩
theorem fbegin_plain (s:List UInt8) (p:Nat) (hs:s.length≤1000000000) (hp:p≤s.length) {n:Nd} {e:Nat} (hx:nodR s p=some (n,e)) (h4:n.kind≠4) (h5:n.kind≠5):ACalls Tryz.prog 109 [.ptr 0 0] (fS s p) (fun y σ=>y=.ret (.tup [])∧σ=[.rw (cC s (e:Int) (.ref 1 0 1 4) nilS),.rw ([n].flatMap nC)]):=by
 have hnd:=zg4 s p hs hp
 unfold zcR at hnd
 rw [hx] at hnd
 unfold fS at hnd ⊢
 refine ACalls.body T_ok Tryz.func109 (by kernel_rfl) rfl Tryz.ntmps109 (congrArg Array.toList Tryz.results109) ?_
 refine aQ38 ?_
 refine ACalls.frame ([0]) (hnd) rfl (by decide) (by simp [LM1,zal,zaq,zae,zaf,renL,AV.ren,AEnd.ren,zao,fS,gS,cC,nilS,zau,zaj,zac,wI,wO,zab,zad,List.getElem?_cons_zero,List.getElem?_cons_succ]) (by first | rfl | simp [LM1,zal,zaq,zae,zaf,renL,AV.ren,AEnd.ren,zao,fS,gS,cC,nilS,zau,zaj,zac,wI,wO,zab,zad,List.getElem?_cons_zero,List.getElem?_cons_succ]) ?_
 rintro _ _ ⟨rfl,rfl⟩
 refine⟨.ret (nA n),[.rw (cC s (e:Int) nilS nilS)],(aQ3 ([0])),(aQ10 ([0])),?_⟩
 refine aQ38 ?_
 rw [decide_eq_false h4]
 refine aQ38 ?_
 refine⟨fun h=>absurd h h5,fun _=>?_⟩
 refine zct [7,2] (by kernel_rfl) (by kernel_rfl) (by kernel_rfl) ?_
 refine aQ38 ?_
 refine zhV (ys:=[n]) rfl rfl T22 T22 T51 (by simp) ?_
 refine aQ38 ?_
 exact zbk [0,2] (.tup []) _ rfl rfl (by decide) rfl aQ17 ⟨rfl,rfl⟩
theorem fbegin_open (s:List UInt8) (p:Nat) (hs:s.length≤1000000000) (hp:p≤s.length) {n:Nd} {e:Nat} (hx:nodR s p=some (n,e)) (h45:n.kind=4∨n.kind=5):ACalls Tryz.prog 109 [.ptr 0 0] (fS s p) (fun y σ=>y=.ret (.tup [])∧σ=[.rw (cC s (e:Int) (.ref 2 0 1 4) (.ref 1 0 1 2)),.rw ([(0,[])].flatMap oC),.rw ([n].flatMap nC)]):=by
 have hnd:=zg4 s p hs hp
 unfold zcR at hnd
 rw [hx] at hnd
 unfold fS at hnd ⊢
 refine ACalls.body T_ok Tryz.func109 (by kernel_rfl) rfl Tryz.ntmps109 (congrArg Array.toList Tryz.results109) ?_
 refine aQ38 ?_
 refine ACalls.frame ([0]) (hnd) rfl (by decide) (by simp [LM1,zal,zaq,zae,zaf,renL,AV.ren,AEnd.ren,zao,fS,gS,cC,nilS,zau,zaj,zac,wI,wO,zab,zad,List.getElem?_cons_zero,List.getElem?_cons_succ]) (by first | rfl | simp [LM1,zal,zaq,zae,zaf,renL,AV.ren,AEnd.ren,zao,fS,gS,cC,nilS,zau,zaj,zac,wI,wO,zab,zad,List.getElem?_cons_zero,List.getElem?_cons_succ]) ?_
 rintro _ _ ⟨rfl,rfl⟩
 refine⟨.ret (nA n),[.rw (cC s (e:Int) nilS nilS)],(aQ3 ([0])),(aQ10 ([0])),?_⟩
 refine aQ38 ?_
 by_cases c4:n.kind=4
 ·rw [decide_eq_true c4]
  refine aQ38 ?_
  refine zct [12,2] (by kernel_rfl) (by kernel_rfl) (by kernel_rfl) ?_
  refine aQ38 ?_
  refine append_On rfl rfl T156 T156 T193 ?_
  refine aQ38 ?_
  refine zct [7,2] (by kernel_rfl) (by kernel_rfl) (by kernel_rfl) ?_
  refine aQ38 ?_
  refine zhV (ys:=[n]) rfl rfl T22 T22 T51 (by simp) ?_
  refine aQ38 ?_
  exact zbk [0,2,3] (.tup []) _ rfl rfl (by decide) rfl aQ17 ⟨rfl,rfl⟩
 ·rw [decide_eq_false c4]
  refine aQ38 ?_
  refine⟨fun _=>?_,fun h=>absurd (h45.resolve_left c4) h⟩
  refine zct [12,2] (by kernel_rfl) (by kernel_rfl) (by kernel_rfl) ?_
  refine aQ38 ?_
  refine append_On rfl rfl T156 T156 T193 ?_
  refine aQ38 ?_
  refine zct [7,2] (by kernel_rfl) (by kernel_rfl) (by kernel_rfl) ?_
  refine aQ38 ?_
  refine zhV (ys:=[n]) rfl rfl T22 T22 T51 (by simp) ?_
  refine aQ38 ?_
  exact zbk [0,2,3] (.tup []) _ rfl rfl (by decide) rfl aQ17 ⟨rfl,rfl⟩
theorem gbegin_no (s:List UInt8) (p:Nat) (l:List Nd) (m:Nat) (O:List (Nat × List UInt8)) (hs:s.length≤1000000000) (hp:p≤s.length) (hx:nodR s p=none):ACalls Tryz.prog 109 [.ptr 0 0] (gS s p l m O) (fun y σ=>y=.pan cgu∧σ=[Blk.dead,Blk.dead,Blk.dead]):=by
 have hnd:=zji s p l m O hs hp
 unfold zcY at hnd
 rw [hx] at hnd
 unfold gS at hnd ⊢
 refine ACalls.body T_ok Tryz.func109 (by kernel_rfl) rfl Tryz.ntmps109 (congrArg Array.toList Tryz.results109) ?_
 refine aQ38 ?_
 refine ACalls.frame ([0,1,2]) (hnd) rfl (by decide) (by simp [LM1,zal,zaq,zae,zaf,renL,AV.ren,AEnd.ren,zao,fS,gS,cC,nilS,zau,zaj,zac,wI,wO,zab,zad,List.getElem?_cons_zero,List.getElem?_cons_succ]) (by first | rfl | simp [LM1,zal,zaq,zae,zaf,renL,AV.ren,AEnd.ren,zao,fS,gS,cC,nilS,zau,zaj,zac,wI,wO,zab,zad,List.getElem?_cons_zero,List.getElem?_cons_succ]) ?_
 rintro _ _ ⟨rfl,rfl⟩
 refine⟨.pan cgu,[.dead,.dead,.dead],(aQ3 ([0,1,2])),(aQ10 ([0,1,2])),?_⟩
 refine aQ38 ?_
 exact zbc (zaj _) ⟨rfl,rfl⟩
theorem zgN (s:List UInt8) (p:Nat) (l:List Nd) (m:Nat) (O:List (Nat × List UInt8)) (hs:s.length≤1000000000) (hp:p≤s.length) {n:Nd} {e:Nat} (hx:nodR s p=some (n,e)) (hl:l.length≤900000000) (hm:m≤O.length) (hm2:m≤900000000) (h4:n.kind≠4) (h5:n.kind≠5):ACalls Tryz.prog 109 [.ptr 0 0] (gS s p l m O) (fun y σ=>y=.ret (.tup [])∧σ=[.rw (cC s (e:Int) (.ref 3 0 (l.length+1) 4) (.ref 2 0 m 2)),.dead,.rw (O.flatMap oC),.rw ((l++[n]).flatMap nC)]):=by
 have hnd:=zji s p l m O hs hp
 unfold zcY at hnd
 rw [hx] at hnd
 unfold gS at hnd ⊢
 refine ACalls.body T_ok Tryz.func109 (by kernel_rfl) rfl Tryz.ntmps109 (congrArg Array.toList Tryz.results109) ?_
 refine aQ38 ?_
 refine ACalls.frame ([0,1,2]) (hnd) rfl (by decide) (by simp [LM1,zal,zaq,zae,zaf,renL,AV.ren,AEnd.ren,zao,fS,gS,cC,nilS,zau,zaj,zac,wI,wO,zab,zad,List.getElem?_cons_zero,List.getElem?_cons_succ]) (by first | rfl | simp [LM1,zal,zaq,zae,zaf,renL,AV.ren,AEnd.ren,zao,fS,gS,cC,nilS,zau,zaj,zac,wI,wO,zab,zad,List.getElem?_cons_zero,List.getElem?_cons_succ]) ?_
 rintro _ _ ⟨rfl,rfl⟩
 refine⟨.ret (nA n),[.rw (cC s (e:Int) (.ref 1 0 l.length 4) (.ref 2 0 m 2)),.rw (l.flatMap nC),.rw (O.flatMap oC)],(aQ3 ([0,1,2])),(aQ10 ([0,1,2])),?_⟩
 refine aQ38 ?_
 rw [decide_eq_false h4]
 refine aQ38 ?_
 refine⟨fun h=>absurd h h5,fun _=>?_⟩
 refine zct [7,2] (by kernel_rfl) (by kernel_rfl) (by kernel_rfl) ?_
 refine aQ38 ?_
 refine zcJ (ys:=[n]) rfl rfl T22 T22 T51 rfl rfl (zfR _ _) rfl aQ18 ?_
 refine aQ38 ?_
 exact zbk [0,1,2,4] (.tup []) _ rfl rfl (by decide) rfl aQ19 ⟨rfl,rfl⟩
theorem zhW (s:List UInt8) (p:Nat) (l:List Nd) (m:Nat) (O:List (Nat × List UInt8)) (hs:s.length≤1000000000) (hp:p≤s.length) {n:Nd} {e:Nat} (hx:nodR s p=some (n,e)) (hl:l.length≤900000000) (hm:m≤O.length) (hm2:m≤900000000) (h45:n.kind=4∨n.kind=5):ACalls Tryz.prog 109 [.ptr 0 0] (gS s p l m O) (fun y σ=>y=.ret (.tup [])∧σ=[.rw (cC s (e:Int) (.ref 4 0 (l.length+1) 4) (.ref 3 0 (m+1) 2)),.dead,.dead,.rw ((O.take m++[(l.length,[])]).flatMap oC),.rw ((l++[n]).flatMap nC)]):=by
 have hnd:=zji s p l m O hs hp
 unfold zcY at hnd
 rw [hx] at hnd
 unfold gS at hnd ⊢
 refine ACalls.body T_ok Tryz.func109 (by kernel_rfl) rfl Tryz.ntmps109 (congrArg Array.toList Tryz.results109) ?_
 refine aQ38 ?_
 refine ACalls.frame ([0,1,2]) (hnd) rfl (by decide) (by simp [LM1,zal,zaq,zae,zaf,renL,AV.ren,AEnd.ren,zao,fS,gS,cC,nilS,zau,zaj,zac,wI,wO,zab,zad,List.getElem?_cons_zero,List.getElem?_cons_succ]) (by first | rfl | simp [LM1,zal,zaq,zae,zaf,renL,AV.ren,AEnd.ren,zao,fS,gS,cC,nilS,zau,zaj,zac,wI,wO,zab,zad,List.getElem?_cons_zero,List.getElem?_cons_succ]) ?_
 rintro _ _ ⟨rfl,rfl⟩
 refine⟨.ret (nA n),[.rw (cC s (e:Int) (.ref 1 0 l.length 4) (.ref 2 0 m 2)),.rw (l.flatMap nC),.rw (O.flatMap oC)],(aQ3 ([0,1,2])),(aQ10 ([0,1,2])),?_⟩
 refine aQ38 ?_
 by_cases c4:n.kind=4
 ·rw [decide_eq_true c4]
  refine aQ38 ?_
  refine zct [12,2] (by kernel_rfl) (by kernel_rfl) (by kernel_rfl) ?_
  refine aQ38 ?_
  refine append_O (o:=(l.length,[])) rfl rfl T156 T156 T193 rfl hm (by omega) ?_
  refine aQ38 ?_
  refine zct [7,2] (by kernel_rfl) (by kernel_rfl) (by kernel_rfl) ?_
  refine aQ38 ?_
  refine zcJ (ys:=[n]) rfl rfl T22 T22 T51 rfl rfl (zfR _ _) rfl aQ18 ?_
  refine aQ38 ?_
  exact zbk [0,1,2,4,5] (.tup []) _ rfl rfl (by decide) rfl aQ19 ⟨rfl,rfl⟩
 ·rw [decide_eq_false c4]
  refine aQ38 ?_
  refine⟨fun _=>?_,fun h=>absurd (h45.resolve_left c4) h⟩
  refine zct [12,2] (by kernel_rfl) (by kernel_rfl) (by kernel_rfl) ?_
  refine aQ38 ?_
  refine append_O (o:=(l.length,[])) rfl rfl T156 T156 T193 rfl hm (by omega) ?_
  refine aQ38 ?_
  refine zct [7,2] (by kernel_rfl) (by kernel_rfl) (by kernel_rfl) ?_
  refine aQ38 ?_
  refine zcJ (ys:=[n]) rfl rfl T22 T22 T51 rfl rfl (zfR _ _) rfl aQ18 ?_
  refine aQ38 ?_
  exact zbk [0,1,2,4,5] (.tup []) _ rfl rfl (by decide) rfl aQ19 ⟨rfl,rfl⟩
end Go.Proofs.YtcahoelfogjljaaGreatDoor
end

section
namespace Go.Proofs.YtcahoelfogjljaaGreatDoor
open Go Go.Eng
def o0:Nat × List UInt8:=(0,[])
theorem zd0:∀ (l:List Nd) (k:Nat) (x:Int),k < l.length→(l.flatMap nC).set (k * 4+3) (i64 x)=(l.set k ⟨(l.getD k n0d).kind,(l.getD k n0d).num,(l.getD k n0d).text,x⟩).flatMap nC
 | [],k,x,h=>by simp at h
 | n::l,0,x,_=>by simp [nC]
 | n::l,k+1,x,h=>by
  have:=zd0 l k x (by simpa using h)
  rw [List.flatMap_cons,show (k+1) * 4+3=k * 4+3+1+1+1+1 by omega]
  simp only [nC,List.cons_append,List.nil_append,List.set_cons_succ,List.flatMap_cons,List.getD_cons_succ,this]
theorem zgq:∀ (l:List (Nat × List UInt8)) (k:Nat) (x:List UInt8),k < l.length→(l.flatMap oC).set (k * 2+1) (str x)=(l.set k ((l.getD k o0).1,x)).flatMap oC
 | [],k,x,h=>by simp at h
 | n::l,0,x,_=>by simp [oC]
 | n::l,k+1,x,h=>by
  have:=zgq l k x (by simpa using h)
  rw [List.flatMap_cons,show (k+1) * 2+1=k * 2+1+1+1 by omega]
  simp only [oC,List.cons_append,List.nil_append,List.set_cons_succ,List.flatMap_cons,List.getD_cons_succ,this]
theorem getN:∀ (l:List Nd) (k j:Nat),j < 4→(l.flatMap nC)[k * 4+j]?=(l[k]?).bind fun n=>(nC n)[j]?
 | [],k,j,_=>by simp
 | n::l,0,j,h=>by
  rw [List.flatMap_cons,List.getElem?_append_left (by simp [nC];omega)]
  simp
 | n::l,k+1,j,h=>by
  have:=getN l k j h
  rw [List.flatMap_cons,List.getElem?_append_right (by simp [nC];omega),show (k+1) * 4+j - (nC n).length=k * 4+j by simp [nC];omega,this]
  simp
theorem getO:∀ (l:List (Nat × List UInt8)) (k j:Nat),j < 2→(l.flatMap oC)[k * 2+j]?=(l[k]?).bind fun n=>(oC n)[j]?
 | [],k,j,_=>by simp
 | n::l,0,j,h=>by
  rw [List.flatMap_cons,List.getElem?_append_left (by simp [oC];omega)]
  simp
 | n::l,k+1,j,h=>by
  have:=getO l k j h
  rw [List.flatMap_cons,List.getElem?_append_right (by simp [oC];omega),show (k+1) * 2+j - (oC n).length=k * 2+j by simp [oC];omega,this]
  simp
theorem zas (id off len:Nat) (n:Int) {K:AV→Prop}:ia3 (some tyNd) (.ref id off len 4) n K=(0≤n∧n < len∧K (.ptr id (off+n.toNat * 4))):=by
 rw [ia3_ref]
 simp [tyNd]
theorem ia_ref_O (id off len:Nat) (n:Int) {K:AV→Prop}:ia3 (some tyOp) (.ref id off len 2) n K=(0≤n∧n < len∧K (.ptr id (off+n.toNat * 2))):=by
 rw [ia3_ref]
 simp [tyOp]
theorem fa_m3 {t:TypeId} {K:AV→Prop} {id o:Nat} (ht:T t=some tyNd):zai T t (.ptr id o) 3 K=K (.ptr id (o+3)):=by simp [zai,ht,tyNd,T3,zaF]
theorem fa_m0 {t:TypeId} {K:AV→Prop} {id o:Nat} (ht:T t=some tyNd):zai T t (.ptr id o) 0 K=K (.ptr id o):=by simp [zai,ht,tyNd,T49,zaF]
theorem fa_o0 {t:TypeId} {K:AV→Prop} {id o:Nat} (ht:T t=some tyOp):zai T t (.ptr id o) 0 K=K (.ptr id o):=by simp [zai,ht,tyOp,T3,zaF]
theorem zcw {t:TypeId} {K:AV→Prop} {id o:Nat} (ht:T t=some tyOp):zai T t (.ptr id o) 1 K=K (.ptr id (o+1)):=by simp [zai,ht,tyOp,T9,tyStr]
end Go.Proofs.YtcahoelfogjljaaGreatDoor
end

section
namespace Go.Proofs.YtcahoelfogjljaaGreatDoor
open Go Go.Eng
set_option linter.defProp false in
def LB16:=And.intro (fun {K} {id} {o}=>@fa_m3 _ K id o T51) ((fun {K} {id} {o}=>@fa_o0 _ K id o T193))
theorem zaE {cs:List AV} {i:Nat} {v:Int} {K:AV→Prop} (h:cs[i]?=some (i64 v)):ld2 (some zaF) (some cs) i K=K (i64 v):=by
 have hi:=(List.getElem?_eq_some_iff.1 h).1
 have hd:cs.drop i=i64 v::cs.drop (i+1):=by rw [List.drop_eq_getElem_cons hi,(List.getElem?_eq_some_iff.1 h).2]
 simp only [ld2,wfin,hd]
 simp [zaF,TD.agg]
 try omega
theorem zbG {cs:List AV} {i:Nat} {v:List UInt8} {K:AV→Prop} (h:cs[i]?=some (str v)):ld2 (some tyStr) (some cs) i K=K (str v):=by
 have hi:=(List.getElem?_eq_some_iff.1 h).1
 have hd:cs.drop i=str v::cs.drop (i+1):=by rw [List.drop_eq_getElem_cons hi,(List.getElem?_eq_some_iff.1 h).2]
 simp only [ld2,wfin,hd]
 simp [tyStr,TD.agg]
 try omega
theorem asrc_refM {σ:zaa} {id n:Nat} {l:List Nd} (h:σ[id]?=some (.rw (l.flatMap nC))) (hn:n=l.length):asrc σ 4 (.ref id 0 n 4)=some (l.flatMap nC,n):=by
 subst hn
 simp only [asrc,asl,rd,h,if_true,Option.bind_some,Nat.zero_add,zbv,Nat.le_refl,List.drop_zero]
 rw [List.take_of_length_le (by rw [zbv];omega)]
theorem gkey_ok (s:List UInt8) (p:Nat) (l:List Nd) (m j:Nat) (O:List (Nat × List UInt8)) (hs:s.length≤1000000000) (hp:p≤s.length) (hl:l.length≤900000000) {a:Nat} {last t:List UInt8} {n:Nat} (hj:O[j]?=some (a,last)) (ha:a < l.length) (hx:rdT (s.drop p)=some (t,n)) (hok:¬ (0 < (l.getD a n0d).kids∧leB t last=true)) :
  ACalls Tryz.prog 141 [.ptr 0 0,.ptr 2 (j * 2)] (gS s p l m O) (fun y σ=>y=.ret (.tup [])∧σ=[.rw (cC s ((p+n:Nat):Int) (.ref 3 0 (l.length+1) 4) (.ref 2 0 m 2)),.dead,.rw ((O.set j (a,t)).flatMap oC),.rw ((l++[(⟨3,0,t,0⟩:Nd)]).flatMap nC)]):=by
 have htx:=zg3 s p l m O hs hp
 unfold zgM at htx
 rw [hx] at htx
 have hjl:=(List.getElem?_eq_some_iff.1 hj).1
 have c0:(O.flatMap oC)[j * 2]?=some (i64 a):=by
  have:=getO O j 0 (by omega)
  rw [hj] at this
  exact this
 have c1:(O.flatMap oC)[j * 2+1]?=some (str last):=by
  have:=getO O j 1 (by omega)
  rw [hj] at this
  exact this
 have c3:(l.flatMap nC)[a * 4+3]?=some (i64 (l.getD a n0d).kids):=by
  have:=getN l a 3 (by omega)
  rw [List.getElem?_eq_getElem ha] at this
  rw [this,List.getD_eq_getElem?_getD,List.getElem?_eq_getElem ha]
  rfl
 unfold gS at htx ⊢
 refine ACalls.body T_ok Tryz.func141 (by kernel_rfl) rfl Tryz.ntmps141 (congrArg Array.toList Tryz.results141) ?_
 refine aQ39 ?_
 refine ACalls.frame ([0,1,2]) (htx) rfl (by decide) (by simp [LM1,zal,zaq,zae,zaf,renL,AV.ren,AEnd.ren,zao,fS,gS,cC,nilS,zau,zaj,zac,wI,wO,zab,zad,List.getElem?_cons_zero,List.getElem?_cons_succ]) (by first | rfl | simp [LM1,zal,zaq,zae,zaf,renL,AV.ren,AEnd.ren,zao,fS,gS,cC,nilS,zau,zaj,zac,wI,wO,zab,zad,List.getElem?_cons_zero,List.getElem?_cons_succ]) ?_
 rintro _ _ ⟨rfl,rfl⟩
 refine⟨.ret (str t),[.rw (cC s ((p+n:Nat):Int) (.ref 1 0 l.length 4) (.ref 2 0 m 2)),.rw (l.flatMap nC),.rw (O.flatMap oC)],(aQ3 ([0,1,2])),(aQ10 ([0,1,2])),?_⟩
 refine aQ39 ?_
 refine za0 (by kernel_rfl) (by kernel_rfl) ?_
 try simp -implicitDefEqProofs only [LM6,LB16,eq_self,zaA,zbu T191,zaE c0,zaE c3,zbG c1,zas,zcw T193,Nat.zero_add,TB,SB,Int.reduceToNat,Nat.reduceAdd,Nat.reduceEqDiff,Nat.reduceLT,Nat.reduceMod,Nat.reducePow,Nat.reduceSub,if_true,reduceIte]
 refine⟨by omega,by omega,?_⟩
 by_cases hk:0 < (l.getD a n0d).kids
 ·have hle:(Op.bytesLess t last || decide (t=last))=false:=by
   cases h:(Op.bytesLess t last || decide (t=last)) with
   | false=>rfl
   | true=>exact absurd ⟨hk,h⟩ hok
  rw [decide_eq_true hk]
  try simp -implicitDefEqProofs only [LM6,LB16,eq_self,zaA,zbu T191,zaE c0,zaE c3,zbG c1,zas,zcw T193,Nat.zero_add,TB,SB,Int.reduceToNat,Nat.reduceAdd,Nat.reduceEqDiff,Nat.reduceLT,Nat.reduceMod,Nat.reducePow,Nat.reduceSub,if_true,reduceIte]
  rw [hle]
  try simp -implicitDefEqProofs only [LM6,LB16,eq_self,zaA,zbu T191,zaE c0,zaE c3,zbG c1,zas,zcw T193,Nat.zero_add,TB,SB,Int.reduceToNat,Nat.reduceAdd,Nat.reduceEqDiff,Nat.reduceLT,Nat.reduceMod,Nat.reducePow,Nat.reduceSub,if_true,reduceIte]
  refine⟨by rw [zfY];omega,?_⟩
  rw [zgq O j t hjl,show (O.getD j o0).1=a by rw [List.getD_eq_getElem?_getD,hj];rfl]
  refine aQ40 ?_
  refine zcJ (ys:=[(⟨3,0,t,0⟩:Nd)]) rfl rfl T22 T22 T51 rfl rfl (asrc_refM rfl rfl) rfl (by omega) ?_
  refine aQ39 ?_
  exact zbk [0,1,2,4] (.tup []) _ rfl rfl (by decide) rfl aQ19 ⟨rfl,rfl⟩
 ·rw [decide_eq_false hk]
  try simp -implicitDefEqProofs only [LM6,LB16,eq_self,zaA,zbu T191,zaE c0,zaE c3,zbG c1,zas,zcw T193,Nat.zero_add,TB,SB,Int.reduceToNat,Nat.reduceAdd,Nat.reduceEqDiff,Nat.reduceLT,Nat.reduceMod,Nat.reducePow,Nat.reduceSub,if_true,reduceIte]
  refine⟨by rw [zfY];omega,?_⟩
  rw [zgq O j t hjl,show (O.getD j o0).1=a by rw [List.getD_eq_getElem?_getD,hj];rfl]
  refine aQ40 ?_
  refine zcJ (ys:=[(⟨3,0,t,0⟩:Nd)]) rfl rfl T22 T22 T51 rfl rfl (asrc_refM rfl rfl) rfl (by omega) ?_
  refine aQ39 ?_
  exact zbk [0,1,2,4] (.tup []) _ rfl rfl (by decide) rfl aQ19 ⟨rfl,rfl⟩
end Go.Proofs.YtcahoelfogjljaaGreatDoor
end

section
namespace Go.Proofs.YtcahoelfogjljaaGreatDoor
open Go Go.Eng
theorem gkey_no1 (s:List UInt8) (p:Nat) (l:List Nd) (m j:Nat) (O:List (Nat × List UInt8)) (hs:s.length≤1000000000) (hp:p≤s.length) (hx:rdT (s.drop p)=none) :
  ACalls Tryz.prog 141 [.ptr 0 0,.ptr 2 (j * 2)] (gS s p l m O) (fun y σ=>y=.pan cgu∧σ=[Blk.dead,Blk.dead,Blk.dead]):=by
 have htx:=zg3 s p l m O hs hp
 unfold zgM at htx
 rw [hx] at htx
 unfold gS at htx ⊢
 refine ACalls.body T_ok Tryz.func141 (by kernel_rfl) rfl Tryz.ntmps141 (congrArg Array.toList Tryz.results141) ?_
 refine aQ39 ?_
 refine ACalls.frame ([0,1,2]) (htx) rfl (by decide) (by simp [LM1,zal,zaq,zae,zaf,renL,AV.ren,AEnd.ren,zao,fS,gS,cC,nilS,zau,zaj,zac,wI,wO,zab,zad,List.getElem?_cons_zero,List.getElem?_cons_succ]) (by first | rfl | simp [LM1,zal,zaq,zae,zaf,renL,AV.ren,AEnd.ren,zao,fS,gS,cC,nilS,zau,zaj,zac,wI,wO,zab,zad,List.getElem?_cons_zero,List.getElem?_cons_succ]) ?_
 rintro _ _ ⟨rfl,rfl⟩
 refine⟨.pan cgu,[.dead,.dead,.dead],(aQ3 ([0,1,2])),(aQ10 ([0,1,2])),?_⟩
 refine aQ39 ?_
 exact zbc (zaj _) ⟨rfl,rfl⟩
theorem gkey_no2 (s:List UInt8) (p:Nat) (l:List Nd) (m j:Nat) (O:List (Nat × List UInt8)) (hs:s.length≤1000000000) (hp:p≤s.length) {a:Nat} {last t:List UInt8} {n:Nat} (hj:O[j]?=some (a,last)) (ha:a < l.length) (hx:rdT (s.drop p)=some (t,n)) (hk:0 < (l.getD a n0d).kids) (hle:leB t last=true) :
  ACalls Tryz.prog 141 [.ptr 0 0,.ptr 2 (j * 2)] (gS s p l m O) (fun y σ=>y=.pan cgu∧σ=[Blk.dead,Blk.dead,Blk.dead]):=by
 have htx:=zg3 s p l m O hs hp
 unfold zgM at htx
 rw [hx] at htx
 have hjl:=(List.getElem?_eq_some_iff.1 hj).1
 have c0:(O.flatMap oC)[j * 2]?=some (i64 a):=by
  have:=getO O j 0 (by omega)
  rw [hj] at this
  exact this
 have c1:(O.flatMap oC)[j * 2+1]?=some (str last):=by
  have:=getO O j 1 (by omega)
  rw [hj] at this
  exact this
 have c3:(l.flatMap nC)[a * 4+3]?=some (i64 (l.getD a n0d).kids):=by
  have:=getN l a 3 (by omega)
  rw [List.getElem?_eq_getElem ha] at this
  rw [this,List.getD_eq_getElem?_getD,List.getElem?_eq_getElem ha]
  rfl
 unfold gS at htx ⊢
 refine ACalls.body T_ok Tryz.func141 (by kernel_rfl) rfl Tryz.ntmps141 (congrArg Array.toList Tryz.results141) ?_
 refine aQ39 ?_
 refine ACalls.frame ([0,1,2]) (htx) rfl (by decide) (by simp [LM1,zal,zaq,zae,zaf,renL,AV.ren,AEnd.ren,zao,fS,gS,cC,nilS,zau,zaj,zac,wI,wO,zab,zad,List.getElem?_cons_zero,List.getElem?_cons_succ]) (by first | rfl | simp [LM1,zal,zaq,zae,zaf,renL,AV.ren,AEnd.ren,zao,fS,gS,cC,nilS,zau,zaj,zac,wI,wO,zab,zad,List.getElem?_cons_zero,List.getElem?_cons_succ]) ?_
 rintro _ _ ⟨rfl,rfl⟩
 refine⟨.ret (str t),[.rw (cC s ((p+n:Nat):Int) (.ref 1 0 l.length 4) (.ref 2 0 m 2)),.rw (l.flatMap nC),.rw (O.flatMap oC)],(aQ3 ([0,1,2])),(aQ10 ([0,1,2])),?_⟩
 refine aQ39 ?_
 refine za0 (by kernel_rfl) (by kernel_rfl) ?_
 try simp -implicitDefEqProofs only [LM6,LB16,eq_self,zaA,zbu T191,zaE c0,zaE c3,zbG c1,zas,zcw T193,Nat.zero_add,TB,SB,Int.reduceToNat,Nat.reduceAdd,Nat.reduceEqDiff,Nat.reduceLT,Nat.reduceMod,Nat.reducePow,Nat.reduceSub,if_true,reduceIte]
 refine⟨by omega,by omega,?_⟩
 have hle':(Op.bytesLess t last || decide (t=last))=true:=hle
 rw [decide_eq_true hk]
 try simp -implicitDefEqProofs only [LM6,LB16,eq_self,zaA,zbu T191,zaE c0,zaE c3,zbG c1,zas,zcw T193,Nat.zero_add,TB,SB,Int.reduceToNat,Nat.reduceAdd,Nat.reduceEqDiff,Nat.reduceLT,Nat.reduceMod,Nat.reducePow,Nat.reduceSub,if_true,reduceIte]
 rw [hle']
 refine aQ39 ?_
 exact zbc (zaj _) ⟨rfl,rfl⟩
end Go.Proofs.YtcahoelfogjljaaGreatDoor
end

