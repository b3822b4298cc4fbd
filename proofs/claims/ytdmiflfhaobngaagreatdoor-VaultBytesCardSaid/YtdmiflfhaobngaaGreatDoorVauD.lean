/-
  A reader of values. No condition.
-/
import Derived.Test.YtdmiflfhaobngaaGreatDoorVauC
set_option linter.unusedSimpArgs false
set_option linter.unusedVariables false
set_option linter.unusedSectionVars false
section
namespace Go.Proofs.YtdmiflfhaobngaaGreatDoor
open Go Go.Eng
def cC (s:List UInt8) (p:Int) (a b:AV):List AV:=[str s,i64 p,a,b]
def oC (o:Nat × List UInt8):List AV:=[i64 o.1,str o.2]
def cgu:AV:=.ifc 182 (.agg [])
theorem zaM (q:List Nat):cgu.ren q=some cgu:=rfl
theorem za7 (q:List Nat):∀ O:List (Nat × List UInt8),renL q (O.flatMap oC)=some (O.flatMap oC)
 | []=>rfl
 | o::O=>by
  have:=za7 q O
  simp only [List.flatMap_cons,oC,List.cons_append,List.nil_append,renL,zaj,zae,this]
  rfl
theorem zi4 {q:List Nat} {s:List UInt8} {p:Int} {a b a' b':AV} (ha:a.ren q=some a') (hb:b.ren q=some b'):renL q (cC s p a b)=some (cC s p a' b'):=by
 simp [cC,renL,zaj,zae,ha,hb]
section
variable {s : List UInt8} {p : Int} {a b x y : AV} {K : AV → Prop} {KS : AV → zag → Prop} {σ : zag} {t e : TypeId} {id : Nat}
theorem zhG (ht:T t=some tyCr):zap T t (.ptr id 0) 0 K=K (.ptr id 0):=by simp [zap,ht,tyCr,T9,tyStr]
theorem zhH (ht:T t=some tyCr):zap T t (.ptr id 0) 1 K=K (.ptr id 1):=by simp [zap,ht,tyCr,T3,zbB]
theorem zhI:ld2 (some tyStr) (some (cC s p a b)) 0 K=K (str s):=by simp [ld2,wfin,tyStr,TD.agg,cC]
theorem zhJ:ld2 (some zbB) (some (cC s p a b)) 1 K=K (i64 p):=by simp [ld2,wfin,zbB,TD.agg,cC]
end
theorem zfv (s:List UInt8) (p k:Int) (a b:AV):(cC s p a b).set 1 (i64 k)=cC s k a b:=rfl
theorem zfw (s:List UInt8) (p:Int) (a b:AV):(cC s p a b).length=4:=rfl
def fS (s:List UInt8) (p:Int):zag:=[.rw (cC s p nilS nilS)]
def gS (s:List UInt8) (p:Int) (l:List Nd) (m:Nat) (O:List (Nat × List UInt8)):zag:=[.rw (cC s p (.ref 1 0 l.length 4) (.ref 2 0 m 2)),.rw (l.flatMap nC),.rw (O.flatMap oC)]
theorem zfx {s:List UInt8} {p:Int} {rest:zag} {x:AV} {K:AV→zag→Prop} (hx:x.ren [0]=some x) (h:K x (fS s p)):endQ 1 x (.rw (cC s p nilS nilS)::rest) K:=by
 refine zbC [0] x (fS s p) rfl rfl (by decide) hx ⟨.inr ⟨_,?_,rfl⟩,trivial⟩ h
 rw [zbm,zi4 rfl rfl]
 rfl
theorem zdZ {n0:Nat} {x:AV} {σ:zag} {K:AV→zag→Prop} (hx:x.ren (List.range n0)=some x) (h:K x (List.replicate n0 .dead)):endQ n0 x σ K:=by
 refine zbC (List.range n0) x (List.replicate n0 .dead) (by simp) (by simp) List.nodup_range hx ?_ h
 have:∀ (q ks:List Nat) (xs:zag),ks.length=xs.length→(∀ x,x∈xs→x=.dead)→zao σ q ks xs:=by
  intro q ks
  induction ks with
  | nil=>intro xs h1 _;match xs,h1 with | [],_=>trivial
  | cons k ks ih =>
   intro xs h1 h2
   match xs,h1 with
   | x::xs,h1=>exact⟨.inl (h2 x (by simp)),ih xs (by simpa using h1) fun y hy=>h2 y (by simp [hy])⟩
 exact this _ _ _ (by simp) (by simp)
theorem ftake_ok (s:List UInt8) (p n:Nat) (hs:s.length≤1000000000000) (hp:p+n≤s.length):ACalls Tryz.prog 125 [.ptr 0 0,i64 n] (fS s p) (fun x σ=>x=.ret (str ((s.drop p).take n))∧σ=(fS s ((p+n:Nat):Int))):=by
 unfold fS
 refine ACalls.body T_ok Tryz.func125 (by kernel_rfl) rfl Tryz.ntmps125 (congrArg Array.toList Tryz.results125) ?_
 try simp -implicitDefEqProofs only [LM3,LB16,zai T135,eq_self,zav,zfv,zfw,zhG T167,zhH T167,zhI,zhJ,zbo T182,TB,SB,Int.reduceToNat,Nat.reduceAdd,Nat.reduceEqDiff,Nat.reduceLT,Nat.reduceMod,Nat.reducePow,Nat.reduceSub,if_true,reduceIte]
 refine zcb (by kernel_rfl) (by kernel_rfl) ?_
 try simp -implicitDefEqProofs only [LM3,LB16,zai T135,eq_self,zav,zfv,zfw,zhG T167,zhH T167,zhI,zhJ,zbo T182,TB,SB,Int.reduceToNat,Nat.reduceAdd,Nat.reduceEqDiff,Nat.reduceLT,Nat.reduceMod,Nat.reducePow,Nat.reduceSub,if_true,reduceIte]
 refine⟨by unfold inI;omega,fun h=>absurd h (by omega),fun _=>⟨by unfold inI;omega,?_⟩⟩
 refine zcb (by kernel_rfl) (by kernel_rfl) ?_
 try simp -implicitDefEqProofs only [LM3,LB16,zai T135,eq_self,zav,zfv,zfw,zhG T167,zhH T167,zhI,zhJ,zbo T182,TB,SB,Int.reduceToNat,Nat.reduceAdd,Nat.reduceEqDiff,Nat.reduceLT,Nat.reduceMod,Nat.reducePow,Nat.reduceSub,if_true,reduceIte]
 have e1:((p:Int)+n - n).toNat=p:=by omega
 have e2:((p:Int)+n).toNat=p+n:=by omega
 refine⟨by unfold inI;omega,by omega,by omega,by omega,?_⟩
 rw [e1,e2,List.drop_take]
 have e3:p+n - p=n:=by omega
 rw [e3]
 exact zfx (zae _ _) ⟨rfl,rfl⟩
theorem ftake_no (s:List UInt8) (p n:Nat) (hs:s.length≤1000000000000) (hq:p≤s.length) (hn:n≤1000) (hp:s.length < p+n):ACalls Tryz.prog 125 [.ptr 0 0,i64 n] (fS s p) (fun x σ=>x=.pan cgu∧σ=[Blk.dead]):=by
 unfold fS
 refine ACalls.body T_ok Tryz.func125 (by kernel_rfl) rfl Tryz.ntmps125 (congrArg Array.toList Tryz.results125) ?_
 try simp -implicitDefEqProofs only [LM3,LB16,zai T135,eq_self,zav,zfv,zfw,zhG T167,zhH T167,zhI,zhJ,zbo T182,TB,SB,Int.reduceToNat,Nat.reduceAdd,Nat.reduceEqDiff,Nat.reduceLT,Nat.reduceMod,Nat.reducePow,Nat.reduceSub,if_true,reduceIte]
 refine zcb (by kernel_rfl) (by kernel_rfl) ?_
 try simp -implicitDefEqProofs only [LM3,LB16,zai T135,eq_self,zav,zfv,zfw,zhG T167,zhH T167,zhI,zhJ,zbo T182,TB,SB,Int.reduceToNat,Nat.reduceAdd,Nat.reduceEqDiff,Nat.reduceLT,Nat.reduceMod,Nat.reducePow,Nat.reduceSub,if_true,reduceIte]
 exact⟨by unfold inI;omega,fun _=>zdZ (zaM _) ⟨rfl,rfl⟩,fun h=>absurd h (by omega)⟩
theorem zh3 (s:List UInt8) (p:Nat) (hs:s.length≤1000000000000) (hp:p < s.length):ACalls Tryz.prog 124 [.ptr 0 0] (fS s p) (fun x σ=>x=.ret (u8 (s.getD p 0))∧σ=(fS s ((p+1:Nat):Int))):=by
 refine ACalls.body T_ok Tryz.func124 (by kernel_rfl) rfl Tryz.ntmps124 (congrArg Array.toList Tryz.results124) ?_
 try simp -implicitDefEqProofs only [LM3,LB16,zai T135,eq_self,zav,zfv,zfw,zhG T167,zhH T167,zhI,zhJ,zbo T182,TB,SB,Int.reduceToNat,Nat.reduceAdd,Nat.reduceEqDiff,Nat.reduceLT,Nat.reduceMod,Nat.reducePow,Nat.reduceSub,if_true,reduceIte]
 refine(ftake_ok s p 1 hs (by omega)).mono ?_
 rintro _ _ ⟨rfl,rfl⟩
 try simp -implicitDefEqProofs only [LM3,LB16,zai T135,eq_self,zav,zfv,zfw,zhG T167,zhH T167,zhI,zhJ,zbo T182,TB,SB,Int.reduceToNat,Nat.reduceAdd,Nat.reduceEqDiff,Nat.reduceLT,Nat.reduceMod,Nat.reducePow,Nat.reduceSub,if_true,reduceIte]
 have e1:((s.drop p).take 1).getD 0 0=s.getD p 0:=by
  simp only [List.getD_eq_getElem?_getD,List.getElem?_take,List.getElem?_drop]
  simp
 refine⟨by omega,by rw [List.length_take,List.length_drop];omega,?_⟩
 rw [e1]
 exact zfx (zaL _ _) ⟨rfl,rfl⟩
theorem zh4 (s:List UInt8) (p:Nat) (hs:s.length≤1000000000000) (hp:s.length=p):ACalls Tryz.prog 124 [.ptr 0 0] (fS s p) (fun x σ=>x=.pan cgu∧σ=[Blk.dead]):=by
 refine ACalls.body T_ok Tryz.func124 (by kernel_rfl) rfl Tryz.ntmps124 (congrArg Array.toList Tryz.results124) ?_
 try simp -implicitDefEqProofs only [LM3,LB16,zai T135,eq_self,zav,zfv,zfw,zhG T167,zhH T167,zhI,zhJ,zbo T182,TB,SB,Int.reduceToNat,Nat.reduceAdd,Nat.reduceEqDiff,Nat.reduceLT,Nat.reduceMod,Nat.reducePow,Nat.reduceSub,if_true,reduceIte]
 refine(ftake_no s p 1 hs (by omega) (by omega) (by omega)).mono ?_
 rintro _ _ ⟨rfl,rfl⟩
 try simp -implicitDefEqProofs only [LM3,LB16,zai T135,eq_self,zav,zfv,zfw,zhG T167,zhH T167,zhI,zhJ,zbo T182,TB,SB,Int.reduceToNat,Nat.reduceAdd,Nat.reduceEqDiff,Nat.reduceLT,Nat.reduceMod,Nat.reducePow,Nat.reduceSub,if_true,reduceIte]
 exact zdZ (zaM _) ⟨rfl,rfl⟩
end Go.Proofs.YtdmiflfhaobngaaGreatDoor
end

section
namespace Go.Proofs.YtdmiflfhaobngaaGreatDoor
open Go Go.Eng
def rdT:List UInt8→Option (List UInt8 × Nat)
 | []=>none
 | [_]=>none
 | c::b::r=>if c=0 then (if b=0 then some ([],2) else if b=255 then (rdT r).map fun x=>(0::x.1,x.2+2) else none) else (rdT (b::r)).map fun x=>(c::x.1,x.2+1)
theorem rdT_1 {c:UInt8} (h:c≠0) (r:List UInt8):rdT (c::r)=(rdT r).map fun x=>(c::x.1,x.2+1):=by
 cases r with
 | nil=>rfl
 | cons b r=>rw [rdT,if_neg h]
theorem rdT_00 (r:List UInt8):rdT (0::0::r)=some ([],2):=by rw [rdT];rfl
theorem zi5 (r:List UInt8):rdT (0::255::r)=(rdT r).map fun x=>(0::x.1,x.2+2):=by rw [rdT];rfl
theorem rdT_0x {b:UInt8} (h0:b≠0) (h1:b≠255) (r:List UInt8):rdT (0::b::r)=none:=by rw [rdT,if_pos rfl,if_neg h0,if_neg h1]
theorem ziu:∀ {t:List UInt8},Lib.index t [0]=-1→rdT t=none
 | [],_=>rfl
 | c::t,h=>by
  by_cases hc:c=0
  ·subst hc;rw [idx_0] at h;cases h
  ·rw [idx_1 hc] at h
   have hge:=Lib.index_ge t [0]
   split at h
   ·rename_i h3
    rw [rdT_1 hc,ziu (by simpa using h3)]
    rfl
   ·omega
theorem ziv:∀ {t:List UInt8} {i:Nat},Lib.index t [0]=i→i < t.length∧t.drop i=0::t.drop (i+1)∧(∀ x,rdT (t.drop i)=x→rdT t=x.map fun y=>(t.take i++y.1,i+y.2))
 | [],i,h=>by simp [Lib.index] at h
 | c::t,i,h=>by
  by_cases hc:c=0
  ·subst hc
   rw [idx_0] at h
   obtain rfl:i=0:=by omega
   refine⟨by simp,rfl,fun x hx=>?_⟩
   rw [← hx]
   simp only [List.drop_zero,List.take_zero,List.nil_append,Nat.zero_add]
   cases rdT (0::t) <;> rfl
  ·rw [idx_1 hc] at h
   have hge:=Lib.index_ge t [0]
   split at h
   ·omega
   ·rename_i h3
    have h3':Lib.index t [0]≠-1:=by simpa using h3
    match i,h with
    | 0,h=>omega
    | i+1,h =>
     obtain⟨g1,g2,g3⟩:=ziv (t:=t) (i:=i) (by omega)
     refine⟨by simp only [List.length_cons];omega,by simpa using g2,fun x hx=>?_⟩
     rw [rdT_1 hc,g3 x (by simpa using hx)]
     cases x with
     | none=>rfl
     | some y=>simp;omega
theorem cut_ok (t:List UInt8) (h:t.length < 4294967281):ACalls Tryz.prog 143 [str t,str [0]] [] (fun x _=>x=.ret (.tup [str (Lib.cut t [0]).1,str (Lib.cut t [0]).2.1,bl (Lib.cut t [0]).2.2])):=by
 refine zf5 2 (by simp [Globs.ints]) (by kernel_rfl) fun w O m vs n hn hr=>?_
 simp only [reps,str,rep] at hr
 obtain⟨_,_,e1,rfl,_,_,rfl,rfl,rfl⟩:=hr
 have ev:vs=#[.string ⟨t.toArray⟩,.string ⟨[0].toArray⟩]:=by
  apply Array.ext'
  simpa using e1
 subst ev
 refine(Tryz.strings_Cut _ ⟨[0].toArray⟩ n w (by simpa [ByteArray.size] using h) hn).mono ?_
 rintro e w' ⟨rfl,k,rfl⟩
 refine⟨⟨_,rfl,fun w' O m=>?_⟩,⟨rfl,rfl,rfl,Nat.le_refl _,fun _ _=>rfl⟩⟩
 simp only [rep]
 exact⟨_,rfl,by simp [reps,rep,str,bl]⟩
end Go.Proofs.YtdmiflfhaobngaaGreatDoor
end

section
namespace Go.Proofs.YtdmiflfhaobngaaGreatDoor
open Go Go.Eng
set_option linter.defProp false in
def LB18:=And.intro @zfv (And.intro @zfw (And.intro (fun {K} {id}=>@zhG K _ id T167) (And.intro (fun {K} {id}=>@zhH K _ id T167) (And.intro @zhI (@zhJ)))))
set_option linter.defProp false in
def LM9:=And.intro LM3 (And.intro LB16 (LB18))
theorem bs_u8_0 {σ:zag} {KS:AV→zag→Prop}:bs2 (some tyU8) 0 [] σ KS=KS (.ref σ.length 0 0 1) (σ++[.rw []]):=by
 simp [bs2,tyU8,zbs,zb4]
theorem pieces_ok (t:List UInt8):ACalls Tryz.prog 135 [str t] [] (fun x σ=>x=.ret (.fn (.func 142) [] [.ptr 0 0])∧σ=[.rw [str t]]):=by
 refine ACalls.body T_ok Tryz.func135 (by kernel_rfl) rfl Tryz.ntmps135 (congrArg Array.toList Tryz.results135) ?_
 try simp -implicitDefEqProofs only [LM9,zbo T182,zai T135,eq_self,zav,TB,SB,Int.reduceToNat,Nat.reduceAdd,Nat.reduceEqDiff,Nat.reduceLT,Nat.reduceMod,Nat.reducePow,Nat.reduceSub,if_true,reduceIte]
 exact zbi ⟨rfl,rfl⟩
theorem cut_cases (t:List UInt8):(Lib.index t [0]=-1∧Lib.cut t [0]=(t,[],false))∨∃ i:Nat,Lib.index t [0]=i∧Lib.cut t [0]=(t.take i,t.drop (i+1),true):=by
 have hge:=Lib.index_ge t [0]
 by_cases h:Lib.index t [0]=-1
 ·exact .inl ⟨h,by rw [Lib.cut,h];rfl⟩
 ·refine .inr ⟨(Lib.index t [0]).toNat,by omega,?_⟩
  rw [Lib.cut,if_pos (by omega)]
  rfl
theorem fpieces_range {s:List UInt8} {p:Nat} {env:List AV} {ps:Array Tmp} {A B:Code} {K:AEnd→zag→Prop} (t:List UInt8) (ht:t.length≤1000000000) (hpt:p+t.length≤1000000000)
  (hY0 : ∀ (w : List UInt8) (n : Nat), w.length ≤ 1000000000 → p + n ≤ 1000000000 → AYield Tryz.prog 6 [str w, i64 n] [.rw (cC s p nilS nilS), .rw [.ptr 0 0], .rw [], .rw [.ref 2 0 0 1], .rw [bl true], .rw [str t], .lp .ready none env ps A B] (fun x σ' => x = .ret (bl true) ∧ σ' = [.rw (cC s ((p + n : Nat) : Int) nilS nilS), .rw [.ptr 0 0], .dead, .rw [.ref 7 0 w.length 1], .rw [bl false], .rw [str t], .lp .ready none env ps A B, .rw (w.map u8)]))
  (hY1 : ∀ (u o w : List UInt8) (q n : Nat), o.length + w.length ≤ 1000000000 → p + q + n ≤ 1000000000 → AYield Tryz.prog 6 [str w, i64 n] [.rw (cC s ((p + q : Nat) : Int) nilS nilS), .rw [.ptr 0 0], .dead, .rw [.ref 7 0 o.length 1], .rw [bl false], .rw [str u], .lp .ready none env ps A B, .rw (o.map u8)] (fun x σ' => x = .ret (bl true) ∧ σ' = [.rw (cC s ((p + q + n : Nat) : Int) nilS nilS), .rw [.ptr 0 0], .dead, .rw [.ref 10 0 (o ++ [0] ++ w).length 1], .rw [bl false], .rw [str u], .lp .ready none env ps A B, .dead, .rw [u8 0], .dead, .rw ((o ++ [0] ++ w).map u8)]))
  (he:renL [0,1,2,3,4,5,6,10] env=some env)
  (hp:rdT t=none→∀ σ,K (.pan cgu) σ)
  (h0:∀ w n,rdT t=some (w,n)→K (.ret (.tup [])) [.rw (cC s ((p+n:Nat):Int) nilS nilS),.rw [.ptr 0 0],.dead,.rw [.ref 7 0 w.length 1],.rw [bl false],.rw [str t],.lp .ready none env ps A B,.rw (w.map u8)])
  (h1:∀ w n u,rdT t=some (w,n)→K (.ret (.tup [])) [.rw (cC s ((p+n:Nat):Int) nilS nilS),.rw [.ptr 0 0],.dead,.rw [.ref 10 0 w.length 1],.rw [bl false],.rw [str u],.lp .ready none env ps A B,.dead,.rw [u8 0],.dead,.rw (w.map u8)]) :
  ACalls Tryz.prog 142 [.yl 6,.ptr 5 0] [.rw (cC s p nilS nilS),.rw [.ptr 0 0],.rw [],.rw [.ref 2 0 0 1],.rw [bl true],.rw [str t],.lp .ready none env ps A B] K:=by
 refine ACalls.body T_ok Tryz.func142 (by kernel_rfl) rfl Tryz.ntmps142 (congrArg Array.toList Tryz.results142) ?_
 try simp -implicitDefEqProofs only [LM9,zbo T182,zai T135,eq_self,zav,TB,SB,Int.reduceToNat,Nat.reduceAdd,Nat.reduceEqDiff,Nat.reduceLT,Nat.reduceMod,Nat.reducePow,Nat.reduceSub,if_true,reduceIte]
 rw [za9]
 refine⟨Option (List UInt8 × Nat),fun i=>match i with
  | none=>True
  | some (o,q)=>q≤t.length∧o.length≤q∧rdT t=(rdT (t.drop q)).map fun x=>(o++[0]++x.1,q+x.2),fun _=>[.yl 6,.ptr 5 0,.bot,.bot,.bot,.bot,.bot,.bot,.bot,.bot,.bot,.bot,.bot,.bot,.bot,.bot,.bot,.bot,.bot,.bot,.bot,.bot,.bot,.bot,.bot,.bot,.bot,.bot,.bot,.bot,.bot,.bot,.bot,.bot,.bot,.bot,.bot,.bot,.bot,.bot,.bot,.bot,.bot,.bot,.bot,.bot,.bot,.bot,.bot,.bot,.bot,.bot],fun i=>match i with
  | none=>[.rw (cC s p nilS nilS),.rw [.ptr 0 0],.rw [],.rw [.ref 2 0 0 1],.rw [bl true],.rw [str t],.lp .ready none env ps A B]
  | some (o,q)=>[.rw (cC s ((p+q:Nat):Int) nilS nilS),.rw [.ptr 0 0],.dead,.rw [.ref 7 0 o.length 1],.rw [bl false],.rw [str (t.drop q)],.lp .ready none env ps A B,.rw (o.map u8)],fun i=>match i with
  | none=>t.length+1
  | some (o,q)=>t.length - q,none,trivial,zdA ?_,?_⟩
 ·try simp only [LB1,List.getElem?_cons_zero,true_and,and_true,or_true,true_or,reduceCtorEq,false_or]
 ·intro i hi
  match i,hi with
  | none,_ =>
   try simp -implicitDefEqProofs only [LM9,zbo T182,zai T135,eq_self,zav,TB,SB,Int.reduceToNat,Nat.reduceAdd,Nat.reduceEqDiff,Nat.reduceLT,Nat.reduceMod,Nat.reducePow,Nat.reduceSub,if_true,reduceIte]
   have hul:t.length=t.length:=by rfl
   rcases cut_cases t with ⟨hi,hc⟩ | ⟨i,hi,hc⟩
   ·refine(cut_ok t (by omega)).pure (by simp [renL,zae]) ?_
    rintro _ σ rfl
    refine⟨by simp [AEnd.noid,AV.ren,renL,zae,zax],?_⟩
    rw [hc]
    try simp -implicitDefEqProofs only [LM9,zbo T182,zai T135,eq_self,zav,TB,SB,Int.reduceToNat,Nat.reduceAdd,Nat.reduceEqDiff,Nat.reduceLT,Nat.reduceMod,Nat.reducePow,Nat.reduceSub,if_true,reduceIte]
    have g0:=ziu hi
    exact zbi (hp g0 _)
   ·obtain⟨g1,g2,g3⟩:=ziv hi
    have hil:(t.take i).length=i:=by rw [List.length_take];omega
    refine(cut_ok t (by omega)).pure (by simp [renL,zae]) ?_
    rintro _ σ rfl
    refine⟨by simp [AEnd.noid,AV.ren,renL,zae,zax],?_⟩
    rw [hc]
    simp only
    try simp -implicitDefEqProofs only [LM9,zbo T182,zai T135,eq_self,zav,hil,TB,SB,Int.reduceToNat,Nat.reduceAdd,Nat.reduceEqDiff,Nat.reduceLT,Nat.reduceMod,Nat.reducePow,Nat.reduceSub,if_true,reduceIte]
    refine⟨by unfold inI;omega,fun hlt=>?_,fun hge=>⟨by unfold inI;omega,?_⟩⟩
    ·have g0:=g3 none (by rw [g2,List.drop_eq_nil_of_le (by omega)];rfl)
     exact zbi (hp g0 _)
    ·have e2:((i:Int)+2)=((i+2:Nat):Int):=by omega
     obtain⟨b,r,hbr⟩:∃ b r,t.drop (i+1)=b::r:=by
      cases hd:t.drop (i+1) with
      | nil=>have:=congrArg List.length hd;rw [List.length_drop] at this;simp only [List.length_nil] at this;omega
      | cons b r=>exact⟨b,r,rfl⟩
     have hsl:(t.take (i+2)).drop i=[0,b]:=by
      rw [List.drop_take,g2,hbr,show i+2 - i=2 by omega]
      rfl
     have hrest:t.drop (i+2)=r:=by
      have:=congrArg (List.drop 1) hbr
      rw [List.drop_drop] at this
      exact this
     rw [e2]
     refine(hY0 (t.take i) (i+2) (by rw [hil];omega) (by omega)).mono ?_
     rintro _ σ ⟨rfl,rfl⟩
     try simp -implicitDefEqProofs only [LM9,zbo T182,zai T135,eq_self,zav,TB,SB,Int.reduceToNat,Nat.reduceAdd,Nat.reduceEqDiff,Nat.reduceLT,Nat.reduceMod,Nat.reducePow,Nat.reduceSub,if_true,reduceIte]
     have e3:(((i+2:Nat):Int) - 2).toNat=i:=by omega
     rw [e3,hsl]
     refine⟨by unfold inI;omega,by omega,by omega,by omega,fun h=>?_,fun h=>⟨by unfold inI;omega,by omega,by omega,by omega,fun h2=>?_,fun h2=>⟨by omega,by omega,?_⟩⟩⟩
     ·obtain rfl:b=0:=by simpa using h
      have g4:=g3 (some ([],2)) (by rw [g2,hbr,rdT_00])
      simp only [Option.map_some,List.append_nil] at g4
      exact zbi (h0 _ _ g4)
     ·have g4:=g3 none (by rw [g2,hbr,rdT_0x (fun e=>h (by rw [e])) (fun e=>h2 (by rw [e]))])
      simp only [Option.map_none] at g4
      exact zbi (hp g4 _)
     ·obtain rfl:b=255:=by simpa using h2
      have g4:=g3 _ (by rw [g2,hbr,zi5])
      rw [← hrest,Option.map_map] at g4
      refine⟨some (t.take i,i+2),⟨by omega,by rw [hil];omega,?_⟩,(by show t.length - (i+2) < t.length+1;omega),zdA ?_⟩
      ·rw [g4]
       congr 1
       funext x
       simp [Function.comp]
       try omega
      ·try simp only [LB1,List.getElem?_cons_zero,true_and,and_true,or_true,true_or,reduceCtorEq,false_or]
  | some (o,q),⟨hq1,hq2,hq3⟩ =>
   try simp -implicitDefEqProofs only [LM9,zbo T182,zai T135,eq_self,zav,TB,SB,Int.reduceToNat,Nat.reduceAdd,Nat.reduceEqDiff,Nat.reduceLT,Nat.reduceMod,Nat.reducePow,Nat.reduceSub,if_true,reduceIte]
   have hul:(t.drop q).length=t.length - q:=by rw [List.length_drop]
   rcases cut_cases (t.drop q) with ⟨hi,hc⟩ | ⟨i,hi,hc⟩
   ·refine(cut_ok (t.drop q) (by omega)).pure (by simp [renL,zae]) ?_
    rintro _ σ rfl
    refine⟨by simp [AEnd.noid,AV.ren,renL,zae,zax],?_⟩
    rw [hc]
    try simp -implicitDefEqProofs only [LM9,zbo T182,zai T135,eq_self,zav,TB,SB,Int.reduceToNat,Nat.reduceAdd,Nat.reduceEqDiff,Nat.reduceLT,Nat.reduceMod,Nat.reducePow,Nat.reduceSub,if_true,reduceIte]
    have g0:=ziu hi
    exact zbi (hp (hq3.trans (by rw [g0];rfl)) _)
   ·obtain⟨g1,g2,g3⟩:=ziv hi
    have hil:((t.drop q).take i).length=i:=by rw [List.length_take];omega
    refine(cut_ok (t.drop q) (by omega)).pure (by simp [renL,zae]) ?_
    rintro _ σ rfl
    refine⟨by simp [AEnd.noid,AV.ren,renL,zae,zax],?_⟩
    rw [hc]
    simp only
    try simp -implicitDefEqProofs only [LM9,zbo T182,zai T135,eq_self,zav,hil,TB,SB,Int.reduceToNat,Nat.reduceAdd,Nat.reduceEqDiff,Nat.reduceLT,Nat.reduceMod,Nat.reducePow,Nat.reduceSub,if_true,reduceIte]
    refine⟨by unfold inI;omega,fun hlt=>?_,fun hge=>⟨by unfold inI;omega,?_⟩⟩
    ·have g0:=g3 none (by rw [g2,List.drop_eq_nil_of_le (by omega)];rfl)
     exact zbi (hp (hq3.trans (by rw [g0];rfl)) _)
    ·have e2:((i:Int)+2)=((i+2:Nat):Int):=by omega
     obtain⟨b,r,hbr⟩:∃ b r,(t.drop q).drop (i+1)=b::r:=by
      cases hd:(t.drop q).drop (i+1) with
      | nil=>have:=congrArg List.length hd;rw [List.length_drop] at this;simp only [List.length_nil] at this;omega
      | cons b r=>exact⟨b,r,rfl⟩
     have hsl:((t.drop q).take (i+2)).drop i=[0,b]:=by
      rw [List.drop_take,g2,hbr,show i+2 - i=2 by omega]
      rfl
     have hrest:(t.drop q).drop (i+2)=r:=by
      have:=congrArg (List.drop 1) hbr
      rw [List.drop_drop] at this
      exact this
     rw [e2]
     refine(hY1 (t.drop q) o ((t.drop q).take i) q (i+2) (by rw [hil];omega) (by omega)).mono ?_
     rintro _ σ ⟨rfl,rfl⟩
     try simp -implicitDefEqProofs only [LM9,zbo T182,zai T135,eq_self,zav,TB,SB,Int.reduceToNat,Nat.reduceAdd,Nat.reduceEqDiff,Nat.reduceLT,Nat.reduceMod,Nat.reducePow,Nat.reduceSub,if_true,reduceIte]
     have e3:(((i+2:Nat):Int) - 2).toNat=i:=by omega
     rw [e3,hsl]
     refine⟨by unfold inI;omega,by omega,by omega,by omega,fun h=>?_,fun h=>⟨by unfold inI;omega,by omega,by omega,by omega,fun h2=>?_,fun h2=>⟨by omega,by omega,?_⟩⟩⟩
     ·obtain rfl:b=0:=by simpa using h
      have g4:=g3 (some ([],2)) (by rw [g2,hbr,rdT_00])
      simp only [Option.map_some,List.append_nil] at g4
      rw [g4] at hq3
      simp only [Option.map_some] at hq3
      rw [show p+q+(i+2)=p+(q+(i+2)) by omega]
      exact zbi (h1 _ _ _ hq3)
     ·have g4:=g3 none (by rw [g2,hbr,rdT_0x (fun e=>h (by rw [e])) (fun e=>h2 (by rw [e]))])
      simp only [Option.map_none] at g4
      exact zbi (hp (hq3.trans (by rw [g4];rfl)) _)
     ·obtain rfl:b=255:=by simpa using h2
      have g4:=g3 _ (by rw [g2,hbr,zi5])
      rw [← hrest,Option.map_map] at g4
      refine⟨some (o++[0]++(t.drop q).take i,q+(i+2)),⟨by omega,by simp only [List.length_append,List.length_singleton,hil];omega,?_⟩,(by show t.length - (q+(i+2)) < t.length - q;omega),zal (q:=[0,1,2,3,4,5,6,10]) rfl rfl (by decide) ?_ ?_⟩
      ·rw [hq3,g4,List.drop_drop,Option.map_map]
       congr 1
       funext x
       simp [Function.comp]
       try omega
      ·try simp only [FB,AV.ren,Nat.reduceAdd,reduceCtorEq]
      ·rw [show p+q+(i+2)=p+(q+(i+2)) by omega]
       generalize o++[0]++List.take i (List.drop q t)=w
       rw [List.drop_drop]
       simp [LB3,LB4,zao,cC,nilS,renL,AV.ren,he,zaf u8 zaL,za6,za7]
end Go.Proofs.YtdmiflfhaobngaaGreatDoor
end

section
namespace Go.Proofs.YtdmiflfhaobngaaGreatDoor
open Go Go.Eng
def zi6 (s:List UInt8) (p:Nat):AEnd→zag→Prop:=fun y σ=>match rdT (s.drop p) with
 | some x=>y=.ret (str x.1)∧σ=(fS s ((p+x.2:Nat):Int))
 | none=>y=.pan cgu∧σ=[Blk.dead]
theorem ftext_ok (s:List UInt8) (p:Nat) (hs:s.length≤1000000000) (hp:p≤s.length):ACalls Tryz.prog 126 [.ptr 0 0] (fS s p) (zi6 s p):=by
 have hdl:(s.drop p).length=s.length - p:=by rw [List.length_drop]
 unfold fS
 refine ACalls.body T_ok Tryz.func126 (by kernel_rfl) rfl Tryz.ntmps126 (congrArg Array.toList Tryz.results126) ?_
 try simp -implicitDefEqProofs only [LM9,zbo T182,zai T135,eq_self,zav,bs_u8_0,TB,SB,Int.reduceToNat,Nat.reduceAdd,Nat.reduceEqDiff,Nat.reduceLT,Nat.reduceMod,Nat.reducePow,Nat.reduceSub,if_true,reduceIte]
 refine zbg [9] (by kernel_rfl) (by kernel_rfl) (by kernel_rfl) ?_
 try simp -implicitDefEqProofs only [LM9,zbo T182,zai T135,eq_self,zav,TB,SB,Int.reduceToNat,Nat.reduceAdd,Nat.reduceEqDiff,Nat.reduceLT,Nat.reduceMod,Nat.reducePow,Nat.reduceSub,if_true,reduceIte]
 refine⟨by omega,by omega,?_⟩
 refine ACalls.frame ([]) (pieces_ok (s.drop p)) rfl (by decide) (by simp [LM11,zao,zas,renL,AV.ren,AEnd.ren,zi4,za7,zaM,zaf str zae,zaf i64 zaj,zaq,wI,wO,zaz,List.getElem?_cons_zero,List.getElem?_cons_succ]) (by first | rfl | simp [LM11,zao,zas,renL,AV.ren,AEnd.ren,zi4,za7,zaM,zaf str zae,zaf i64 zaj,zaq,wI,wO,zaz,List.getElem?_cons_zero,List.getElem?_cons_succ]) ?_
 rintro _ _ ⟨rfl,rfl⟩
 refine⟨.ret (.fn (.func 142) [] [.ptr 5 0]),[.rw (cC s p nilS nilS),.rw [.ptr 0 0],.rw [],.rw [.ref 2 0 0 1],.rw [bl true],.rw [str (s.drop p)]],(by show zas _ _ ([1,1,1,1,1,0]) ([1,1,1,1,1,0]) 0 _;simp [LM11,zao,zas,renL,AV.ren,AEnd.ren,zi4,za7,zaM,zaf str zae,zaf i64 zaj,zaq,wI,wO,zaz,List.getElem?_cons_zero,List.getElem?_cons_succ]),(by show AEnd.ren ([1,1,1,1,1,0]) _ _;first | rfl | simp [LM11,zao,zas,renL,AV.ren,AEnd.ren,zi4,za7,zaM,zaf str zae,zaf i64 zaj,zaq,wI,wO,zaz,List.getElem?_cons_zero,List.getElem?_cons_succ]),?_⟩
 try simp -implicitDefEqProofs only [LM9,zbo T182,zai T135,eq_self,zav,TB,SB,Int.reduceToNat,Nat.reduceAdd,Nat.reduceEqDiff,Nat.reduceLT,Nat.reduceMod,Nat.reducePow,Nat.reduceSub,if_true,reduceIte]
 refine⟨by kernel_rfl,?_⟩
 refine fpieces_range (s.drop p) (by omega) (by omega) ?_ ?_ ?_ ?_ ?_ ?_
 ·intro w n hw hn
  refine AYield.of T_ok rfl rfl rfl rfl ?_
  try simp -implicitDefEqProofs only [LM9,zbo T182,zai T135,eq_self,zav,TB,SB,Int.reduceToNat,Nat.reduceAdd,Nat.reduceEqDiff,Nat.reduceLT,Nat.reduceMod,Nat.reducePow,Nat.reduceSub,if_true,reduceIte]
  refine⟨_,_,_,rfl,?_⟩
  try simp -implicitDefEqProofs only [LM9,zbo T182,zai T135,eq_self,zav,TB,SB,Int.reduceToNat,Nat.reduceAdd,Nat.reduceEqDiff,Nat.reduceLT,Nat.reduceMod,Nat.reducePow,Nat.reduceSub,if_true,reduceIte]
  refine zb7 u8 zhY rfl rfl T88 T9 tx_str T5 zgA (l:=[]) (ys:=w) (m:=w.length) rfl rfl (zin w) (by omega) (by show _ * 1≤_;omega) ?_
  try simp -implicitDefEqProofs only [LM9,zbo T182,zai T135,eq_self,zav,TB,SB,Int.reduceToNat,Nat.reduceAdd,Nat.reduceEqDiff,Nat.reduceLT,Nat.reduceMod,Nat.reducePow,Nat.reduceSub,if_true,reduceIte]
  refine⟨by unfold inI;omega,?_⟩
  refine⟨_,_,_,_,rfl,rfl,?_⟩
  rfl
 ·intro u o w q n hw hn
  refine AYield.of T_ok rfl rfl rfl rfl ?_
  try simp -implicitDefEqProofs only [LM9,zbo T182,zai T135,eq_self,zav,TB,SB,Int.reduceToNat,Nat.reduceAdd,Nat.reduceEqDiff,Nat.reduceLT,Nat.reduceMod,Nat.reducePow,Nat.reduceSub,if_true,reduceIte]
  refine⟨_,_,_,rfl,?_⟩
  try simp -implicitDefEqProofs only [LM9,zbo T182,zai T135,eq_self,zav,TB,SB,Int.reduceToNat,Nat.reduceAdd,Nat.reduceEqDiff,Nat.reduceLT,Nat.reduceMod,Nat.reducePow,Nat.reduceSub,if_true,reduceIte]
  refine zb7 u8 zhY rfl rfl T88 T88 (zdz _) T5 zgA (l:=o) (ys:=[UInt8.ofNat 0]) (m:=1) rfl rfl rfl (by omega) (by show _ * 1≤_;omega) ?_
  try simp -implicitDefEqProofs only [LM9,zbo T182,zai T135,eq_self,zav,TB,SB,Int.reduceToNat,Nat.reduceAdd,Nat.reduceEqDiff,Nat.reduceLT,Nat.reduceMod,Nat.reducePow,Nat.reduceSub,if_true,reduceIte]
  refine zb7 u8 zhY rfl rfl T88 T9 tx_str T5 zgA (l:=o++[UInt8.ofNat 0]) (ys:=w) (m:=w.length) rfl (by simp) (zin w) (by omega) (by show _ * 1≤_;omega) ?_
  try simp -implicitDefEqProofs only [LM9,zbo T182,zai T135,eq_self,zav,TB,SB,Int.reduceToNat,Nat.reduceAdd,Nat.reduceEqDiff,Nat.reduceLT,Nat.reduceMod,Nat.reducePow,Nat.reduceSub,if_true,reduceIte]
  refine⟨by unfold inI;omega,?_⟩
  refine⟨_,_,_,_,rfl,rfl,?_⟩
  have e1:(o++[0]++w).length=o.length+1+w.length:=by simp only [List.length_append,List.length_singleton]
  rw [e1]
  rfl
 ·simp [renL,AV.ren,zae,zaj]
 ·intro h0 σ
  simp only [rangeK]
  try simp -implicitDefEqProofs only [LM9,zbo T182,zai T135,eq_self,zav,TB,SB,Int.reduceToNat,Nat.reduceAdd,Nat.reduceEqDiff,Nat.reduceLT,Nat.reduceMod,Nat.reducePow,Nat.reduceSub,if_true,reduceIte]
  exact zdZ (zaM _) (by unfold zi6;rw [h0];exact⟨rfl,rfl⟩)
 ·intro w n h0
  refine⟨_,_,_,_,_,_,rfl,by simp,?_⟩
  try simp -implicitDefEqProofs only [LM9,zbo T182,zai T135,eq_self,zav,TB,SB,Int.reduceToNat,Nat.reduceAdd,Nat.reduceEqDiff,Nat.reduceLT,Nat.reduceMod,Nat.reducePow,Nat.reduceSub,if_true,reduceIte]
  refine⟨Nat.le_refl _,?_⟩
  rw [List.take_length]
  exact zfx (zae _ _) (by unfold zi6;rw [h0];exact⟨rfl,rfl⟩)
 ·intro w n u h0
  refine⟨_,_,_,_,_,_,rfl,by simp,?_⟩
  try simp -implicitDefEqProofs only [LM9,zbo T182,zai T135,eq_self,zav,TB,SB,Int.reduceToNat,Nat.reduceAdd,Nat.reduceEqDiff,Nat.reduceLT,Nat.reduceMod,Nat.reducePow,Nat.reduceSub,if_true,reduceIte]
  refine⟨Nat.le_refl _,?_⟩
  rw [List.take_length]
  exact zfx (zae _ _) (by unfold zi6;rw [h0];exact⟨rfl,rfl⟩)
end Go.Proofs.YtdmiflfhaobngaaGreatDoor
end

section
namespace Go.Proofs.YtdmiflfhaobngaaGreatDoor
open Go Go.Eng
def nodR (s:List UInt8) (p:Nat):Option (Nd × Nat):=match s.drop p with
 | []=>none
 | c::r =>
  if c.toNat=1∨c.toNat=5∨c.toNat=6 then some (⟨(c.toNat:Int) - 1,0,[],0⟩,p+1)
  else if c.toNat=2 then (match r with
   | []=>none
   | b::_=>if b.toNat≤1 then some (⟨1,b.toNat,[],0⟩,p+2) else none)
  else if c.toNat=3 then (if r.length < 8 then none else some (⟨2,IntKind.i64.wrap (zaG (r.take 8) ^^^ 9223372036854775808#64).toNat,[],0⟩,p+9))
  else if c.toNat=4 then (rdT r).map fun x=>(⟨3,0,x.1,0⟩,p+1+x.2)
  else none
def zdS (s:List UInt8) (p:Nat):AEnd→zag→Prop:=fun y σ=>match nodR s p with
 | some x=>y=.ret (nA x.1)∧σ=(fS s (x.2:Int))
 | none=>y=.pan cgu∧σ=[Blk.dead]
theorem fnode_ok (s:List UInt8) (p:Nat) (hs:s.length≤1000000000) (hp:p≤s.length):ACalls Tryz.prog 112 [.ptr 0 0] (fS s p) (zdS s p):=by
 unfold fS
 refine ACalls.body T_ok Tryz.func112 (by kernel_rfl) rfl Tryz.ntmps112 (congrArg Array.toList Tryz.results112) ?_
 try simp -implicitDefEqProofs only [LM9,zbo T182,zai T135,eq_self,zav,TB,SB,Int.reduceToNat,Nat.reduceAdd,Nat.reduceEqDiff,Nat.reduceLT,Nat.reduceMod,Nat.reducePow,Nat.reduceSub,if_true,reduceIte]
 rcases Nat.eq_or_lt_of_le hp with hp0 | hp0
 ·have hn:nodR s p=none:=by
   rw [nodR,List.drop_eq_nil_of_le (by omega)]
  refine ACalls.frame ([0]) (zh4 s p (by omega) (by omega)) rfl (by decide) (by simp [LM11,zao,zas,renL,AV.ren,AEnd.ren,za6,fS,gS,cC,nilS,za7,zaM,zaf str zae,zaf i64 zaj,zaq,wI,wO,zaz,List.getElem?_cons_zero,List.getElem?_cons_succ]) (by first | rfl | simp [LM11,zao,zas,renL,AV.ren,AEnd.ren,za6,fS,gS,cC,nilS,za7,zaM,zaf str zae,zaf i64 zaj,zaq,wI,wO,zaz,List.getElem?_cons_zero,List.getElem?_cons_succ]) ?_
  rintro _ _ ⟨rfl,rfl⟩
  refine⟨.pan cgu,[.dead,.rw (nC n0d)],(by show zas _ _ ([0,1]) ([0,1]) 0 _;simp [LM11,zao,zas,renL,AV.ren,AEnd.ren,za6,fS,gS,cC,nilS,za7,zaM,zaf str zae,zaf i64 zaj,zaq,wI,wO,zaz,List.getElem?_cons_zero,List.getElem?_cons_succ]),(by show AEnd.ren ([0,1]) _ _;first | rfl | simp [LM11,zao,zas,renL,AV.ren,AEnd.ren,za6,fS,gS,cC,nilS,za7,zaM,zaf str zae,zaf i64 zaj,zaq,wI,wO,zaz,List.getElem?_cons_zero,List.getElem?_cons_succ]),?_⟩
  try simp -implicitDefEqProofs only [LM9,zbo T182,zai T135,eq_self,zav,TB,SB,Int.reduceToNat,Nat.reduceAdd,Nat.reduceEqDiff,Nat.reduceLT,Nat.reduceMod,Nat.reducePow,Nat.reduceSub,if_true,reduceIte]
  refine zdZ (zaM _) ?_
  unfold zdS
  rw [hn]
  exact⟨rfl,rfl⟩
 ·obtain⟨c,r,hcr⟩:∃ c r,s.drop p=c::r:=⟨s.getD p 0,s.drop (p+1),by
   rw [List.drop_eq_getElem_cons hp0,List.getD_eq_getElem?_getD,List.getElem?_eq_getElem hp0]
   rfl⟩
  have hc:s.getD p 0=c:=by
   have:=congrArg (fun l=>l[0]?) hcr
   simp only [List.getElem?_drop,Nat.add_zero,List.getElem?_cons_zero] at this
   rw [List.getD_eq_getElem?_getD,this]
   rfl
  have hsg:=zh3 s p (by omega) hp0
  rw [hc] at hsg
  refine ACalls.frame ([0]) (hsg) rfl (by decide) (by simp [LM11,zao,zas,renL,AV.ren,AEnd.ren,za6,fS,gS,cC,nilS,za7,zaM,zaf str zae,zaf i64 zaj,zaq,wI,wO,zaz,List.getElem?_cons_zero,List.getElem?_cons_succ]) (by first | rfl | simp [LM11,zao,zas,renL,AV.ren,AEnd.ren,za6,fS,gS,cC,nilS,za7,zaM,zaf str zae,zaf i64 zaj,zaq,wI,wO,zaz,List.getElem?_cons_zero,List.getElem?_cons_succ]) ?_
  rintro _ _ ⟨rfl,rfl⟩
  refine⟨.ret (u8 c),[.rw (cC s ((p+1:Nat):Int) nilS nilS),.rw (nC n0d)],(by show zas _ _ ([0,1]) ([0,1]) 0 _;simp [LM11,zao,zas,renL,AV.ren,AEnd.ren,za6,fS,gS,cC,nilS,za7,zaM,zaf str zae,zaf i64 zaj,zaq,wI,wO,zaz,List.getElem?_cons_zero,List.getElem?_cons_succ]),(by show AEnd.ren ([0,1]) _ _;first | rfl | simp [LM11,zao,zas,renL,AV.ren,AEnd.ren,za6,fS,gS,cC,nilS,za7,zaM,zaf str zae,zaf i64 zaj,zaq,wI,wO,zaz,List.getElem?_cons_zero,List.getElem?_cons_succ]),?_⟩
  try simp -implicitDefEqProofs only [LM9,zbo T182,zai T135,eq_self,zav,TB,SB,Int.reduceToNat,Nat.reduceAdd,Nat.reduceEqDiff,Nat.reduceLT,Nat.reduceMod,Nat.reducePow,Nat.reduceSub,if_true,reduceIte]
  have hdr:s.drop (p+1)=r:=by
   have:=congrArg (List.drop 1) hcr
   rw [List.drop_drop] at this
   exact this
  have hrl:r.length=s.length - (p+1):=by rw [← hdr,List.length_drop]
  have hc8:=c.toNat_lt
  refine⟨by unfold inI;omega,?_⟩
  by_cases c1:c.toNat=1
  ·have hn:nodR s p=some (⟨0,0,[],0⟩,p+1):=by
    rw [nodR,hcr]
    simp only
    rw [if_pos (by omega),c1]
    rfl
   repeat' (first | (refine⟨fun _=>?_,fun h=>absurd (by omega) h⟩) | (refine⟨fun h=>absurd h (by omega),fun _=>?_⟩) | fail)
   rw [show ((c.toNat:Int)) - 1=0 by omega]
   refine zfx (zaq _ _) ?_
   unfold zdS
   rw [hn]
   exact⟨rfl,rfl⟩
  by_cases c5:c.toNat=5
  ·have hn:nodR s p=some (⟨4,0,[],0⟩,p+1):=by
    rw [nodR,hcr]
    simp only
    rw [if_pos (by omega),c5]
    rfl
   repeat' (first | (refine⟨fun _=>?_,fun h=>absurd (by omega) h⟩) | (refine⟨fun h=>absurd h (by omega),fun _=>?_⟩) | fail)
   rw [show ((c.toNat:Int)) - 1=4 by omega]
   refine zfx (zaq _ _) ?_
   unfold zdS
   rw [hn]
   exact⟨rfl,rfl⟩
  by_cases c6:c.toNat=6
  ·have hn:nodR s p=some (⟨5,0,[],0⟩,p+1):=by
    rw [nodR,hcr]
    simp only
    rw [if_pos (by omega),c6]
    rfl
   repeat' (first | (refine⟨fun _=>?_,fun h=>absurd (by omega) h⟩) | (refine⟨fun h=>absurd h (by omega),fun _=>?_⟩) | fail)
   rw [show ((c.toNat:Int)) - 1=5 by omega]
   refine zfx (zaq _ _) ?_
   unfold zdS
   rw [hn]
   exact⟨rfl,rfl⟩
  have nd0:nodR s p=if c.toNat=2 then (match r with
   | []=>none
   | b::_=>if b.toNat≤1 then some (⟨1,b.toNat,[],0⟩,p+2) else none)
  else if c.toNat=3 then (if r.length < 8 then none else some (⟨2,IntKind.i64.wrap (zaG (r.take 8) ^^^ 9223372036854775808#64).toNat,[],0⟩,p+9))
  else if c.toNat=4 then (rdT r).map fun x=>(⟨3,0,x.1,0⟩,p+1+x.2)
  else none:=by
   rw [nodR,hcr]
   simp only
   rw [if_neg (by omega)]
  by_cases c2:c.toNat=2
  ·rw [if_pos c2] at nd0
   repeat' (first | (refine⟨fun _=>?_,fun h=>absurd (by omega) h⟩) | (refine⟨fun h=>absurd h (by omega),fun _=>?_⟩) | fail)
   rw [show ((c.toNat:Int)) - 1=1 by omega]
   cases r with
   | nil =>
    simp only [List.length_nil] at hrl
    refine ACalls.frame ([0]) (zh4 s (p+1) (by omega) (by omega)) rfl (by decide) (by simp [LM11,zao,zas,renL,AV.ren,AEnd.ren,za6,fS,gS,cC,nilS,za7,zaM,zaf str zae,zaf i64 zaj,zaq,wI,wO,zaz,List.getElem?_cons_zero,List.getElem?_cons_succ]) (by first | rfl | simp [LM11,zao,zas,renL,AV.ren,AEnd.ren,za6,fS,gS,cC,nilS,za7,zaM,zaf str zae,zaf i64 zaj,zaq,wI,wO,zaz,List.getElem?_cons_zero,List.getElem?_cons_succ]) ?_
    rintro _ _ ⟨rfl,rfl⟩
    refine⟨.pan cgu,[.dead,.rw (nC n0d),.rw (nC ⟨1,0,[],0⟩)],(by show zas _ _ ([0,1,1]) ([0,1,1]) 0 _;simp [LM11,zao,zas,renL,AV.ren,AEnd.ren,za6,fS,gS,cC,nilS,za7,zaM,zaf str zae,zaf i64 zaj,zaq,wI,wO,zaz,List.getElem?_cons_zero,List.getElem?_cons_succ]),(by show AEnd.ren ([0,1,1]) _ _;first | rfl | simp [LM11,zao,zas,renL,AV.ren,AEnd.ren,za6,fS,gS,cC,nilS,za7,zaM,zaf str zae,zaf i64 zaj,zaq,wI,wO,zaz,List.getElem?_cons_zero,List.getElem?_cons_succ]),?_⟩
    try simp -implicitDefEqProofs only [LM9,zbo T182,zai T135,eq_self,zav,TB,SB,Int.reduceToNat,Nat.reduceAdd,Nat.reduceEqDiff,Nat.reduceLT,Nat.reduceMod,Nat.reducePow,Nat.reduceSub,if_true,reduceIte]
    refine zdZ (zaM _) ?_
    unfold zdS
    rw [nd0]
    exact⟨rfl,rfl⟩
   | cons b r' =>
    simp only [List.length_cons] at hrl
    have hb:s.getD (p+1) 0=b:=by
     have:=congrArg (fun l=>l[0]?) hdr
     simp only [List.getElem?_drop,Nat.add_zero,List.getElem?_cons_zero] at this
     rw [List.getD_eq_getElem?_getD,this]
     rfl
    have hsg2:=zh3 s (p+1) (by omega) (by omega)
    rw [hb] at hsg2
    refine ACalls.frame ([0]) (hsg2) rfl (by decide) (by simp [LM11,zao,zas,renL,AV.ren,AEnd.ren,za6,fS,gS,cC,nilS,za7,zaM,zaf str zae,zaf i64 zaj,zaq,wI,wO,zaz,List.getElem?_cons_zero,List.getElem?_cons_succ]) (by first | rfl | simp [LM11,zao,zas,renL,AV.ren,AEnd.ren,za6,fS,gS,cC,nilS,za7,zaM,zaf str zae,zaf i64 zaj,zaq,wI,wO,zaz,List.getElem?_cons_zero,List.getElem?_cons_succ]) ?_
    rintro _ _ ⟨rfl,rfl⟩
    refine⟨.ret (u8 b),[.rw (cC s ((p+1+1:Nat):Int) nilS nilS),.rw (nC n0d),.rw (nC ⟨1,0,[],0⟩)],(by show zas _ _ ([0,1,1]) ([0,1,1]) 0 _;simp [LM11,zao,zas,renL,AV.ren,AEnd.ren,za6,fS,gS,cC,nilS,za7,zaM,zaf str zae,zaf i64 zaj,zaq,wI,wO,zaz,List.getElem?_cons_zero,List.getElem?_cons_succ]),(by show AEnd.ren ([0,1,1]) _ _;first | rfl | simp [LM11,zao,zas,renL,AV.ren,AEnd.ren,za6,fS,gS,cC,nilS,za7,zaM,zaf str zae,zaf i64 zaj,zaq,wI,wO,zaz,List.getElem?_cons_zero,List.getElem?_cons_succ]),?_⟩
    try simp -implicitDefEqProofs only [LM9,zbo T182,zai T135,eq_self,zav,TB,SB,Int.reduceToNat,Nat.reduceAdd,Nat.reduceEqDiff,Nat.reduceLT,Nat.reduceMod,Nat.reducePow,Nat.reduceSub,if_true,reduceIte]
    simp only at nd0
    refine⟨fun h=>?_,fun h=>?_⟩
    ·rw [if_neg (by omega)] at nd0
     refine zdZ (zaM _) ?_
     unfold zdS
     rw [nd0]
     exact⟨rfl,rfl⟩
    ·rw [if_pos (by omega)] at nd0
     refine zfx (zaq _ _) ?_
     unfold zdS
     rw [nd0]
     exact⟨rfl,rfl⟩
  by_cases c3:c.toNat=3
  ·rw [if_neg c2,if_pos c3] at nd0
   repeat' (first | (refine⟨fun _=>?_,fun h=>absurd (by omega) h⟩) | (refine⟨fun h=>absurd h (by omega),fun _=>?_⟩) | fail)
   rw [show ((c.toNat:Int)) - 1=2 by omega]
   by_cases h8:r.length < 8
   ·rw [if_pos h8] at nd0
    refine ACalls.frame ([0]) (ftake_no s (p+1) 8 (by omega) (by omega) (by omega) (by omega)) rfl (by decide) (by simp [LM11,zao,zas,renL,AV.ren,AEnd.ren,za6,fS,gS,cC,nilS,za7,zaM,zaf str zae,zaf i64 zaj,zaq,wI,wO,zaz,List.getElem?_cons_zero,List.getElem?_cons_succ]) (by first | rfl | simp [LM11,zao,zas,renL,AV.ren,AEnd.ren,za6,fS,gS,cC,nilS,za7,zaM,zaf str zae,zaf i64 zaj,zaq,wI,wO,zaz,List.getElem?_cons_zero,List.getElem?_cons_succ]) ?_
    rintro _ _ ⟨rfl,rfl⟩
    refine⟨.pan cgu,[.dead,.rw (nC n0d),.rw (nC ⟨2,0,[],0⟩)],(by show zas _ _ ([0,1,1]) ([0,1,1]) 0 _;simp [LM11,zao,zas,renL,AV.ren,AEnd.ren,za6,fS,gS,cC,nilS,za7,zaM,zaf str zae,zaf i64 zaj,zaq,wI,wO,zaz,List.getElem?_cons_zero,List.getElem?_cons_succ]),(by show AEnd.ren ([0,1,1]) _ _;first | rfl | simp [LM11,zao,zas,renL,AV.ren,AEnd.ren,za6,fS,gS,cC,nilS,za7,zaM,zaf str zae,zaf i64 zaj,zaq,wI,wO,zaz,List.getElem?_cons_zero,List.getElem?_cons_succ]),?_⟩
    try simp -implicitDefEqProofs only [LM9,zbo T182,zai T135,eq_self,zav,TB,SB,Int.reduceToNat,Nat.reduceAdd,Nat.reduceEqDiff,Nat.reduceLT,Nat.reduceMod,Nat.reducePow,Nat.reduceSub,if_true,reduceIte]
    refine zdZ (zaM _) ?_
    unfold zdS
    rw [nd0]
    exact⟨rfl,rfl⟩
   ·rw [if_neg h8] at nd0
    have htk:=ftake_ok s (p+1) 8 (by omega) (by omega)
    rw [hdr] at htk
    refine ACalls.frame ([0]) (htk) rfl (by decide) (by simp [LM11,zao,zas,renL,AV.ren,AEnd.ren,za6,fS,gS,cC,nilS,za7,zaM,zaf str zae,zaf i64 zaj,zaq,wI,wO,zaz,List.getElem?_cons_zero,List.getElem?_cons_succ]) (by first | rfl | simp [LM11,zao,zas,renL,AV.ren,AEnd.ren,za6,fS,gS,cC,nilS,za7,zaM,zaf str zae,zaf i64 zaj,zaq,wI,wO,zaz,List.getElem?_cons_zero,List.getElem?_cons_succ]) ?_
    rintro _ _ ⟨rfl,rfl⟩
    refine⟨.ret (str (r.take 8)),[.rw (cC s ((p+1+8:Nat):Int) nilS nilS),.rw (nC n0d),.rw (nC ⟨2,0,[],0⟩)],(by show zas _ _ ([0,1,1]) ([0,1,1]) 0 _;simp [LM11,zao,zas,renL,AV.ren,AEnd.ren,za6,fS,gS,cC,nilS,za7,zaM,zaf str zae,zaf i64 zaj,zaq,wI,wO,zaz,List.getElem?_cons_zero,List.getElem?_cons_succ]),(by show AEnd.ren ([0,1,1]) _ _;first | rfl | simp [LM11,zao,zas,renL,AV.ren,AEnd.ren,za6,fS,gS,cC,nilS,za7,zaM,zaf str zae,zaf i64 zaj,zaq,wI,wO,zaz,List.getElem?_cons_zero,List.getElem?_cons_succ]),?_⟩
    try simp -implicitDefEqProofs only [LM9,zbo T182,zai T135,eq_self,zav,TB,SB,Int.reduceToNat,Nat.reduceAdd,Nat.reduceEqDiff,Nat.reduceLT,Nat.reduceMod,Nat.reducePow,Nat.reduceSub,if_true,reduceIte]
    refine(zdn (r.take 8) (by rw [List.length_take];omega)).pure (by first | rfl | simp [renL,AV.ren,zaw,zaf str zae,zaL,zaB,zaA,zaj,zax,zae]) ?_
    rintro _ σ rfl
    refine⟨by first | rfl | simp [AEnd.noid,AV.ren,renL,zaw,zaf str zae,zaL,zaB,zaA,zaj,zax,zae],?_⟩
    try simp -implicitDefEqProofs only [LM9,zbo T182,zai T135,eq_self,zav,TB,SB,Int.reduceToNat,Nat.reduceAdd,Nat.reduceEqDiff,Nat.reduceLT,Nat.reduceMod,Nat.reducePow,Nat.reduceSub,if_true,reduceIte]
    try simp -implicitDefEqProofs only [LM9,zbo T182,zai T135,eq_self,zav,zaa,TB,SB,Int.reduceToNat,Nat.reduceAdd,Nat.reduceEqDiff,Nat.reduceLT,Nat.reduceMod,Nat.reducePow,Nat.reduceSub,if_true,reduceIte]
    refine zfx (zaq _ _) ?_
    unfold zdS
    rw [nd0]
    exact⟨rfl,rfl⟩
  by_cases c4:c.toNat=4
  ·rw [if_neg c2,if_neg c3,if_pos c4] at nd0
   repeat' (first | (refine⟨fun _=>?_,fun h=>absurd (by omega) h⟩) | (refine⟨fun h=>absurd h (by omega),fun _=>?_⟩) | fail)
   rw [show ((c.toNat:Int)) - 1=3 by omega]
   have htx:=ftext_ok s (p+1) (by omega) (by omega)
   unfold zi6 at htx
   rw [hdr] at htx
   cases hx:rdT r with
   | none =>
    rw [hx] at htx nd0
    refine ACalls.frame ([0]) (htx) rfl (by decide) (by simp [LM11,zao,zas,renL,AV.ren,AEnd.ren,za6,fS,gS,cC,nilS,za7,zaM,zaf str zae,zaf i64 zaj,zaq,wI,wO,zaz,List.getElem?_cons_zero,List.getElem?_cons_succ]) (by first | rfl | simp [LM11,zao,zas,renL,AV.ren,AEnd.ren,za6,fS,gS,cC,nilS,za7,zaM,zaf str zae,zaf i64 zaj,zaq,wI,wO,zaz,List.getElem?_cons_zero,List.getElem?_cons_succ]) ?_
    rintro _ _ ⟨rfl,rfl⟩
    refine⟨.pan cgu,[.dead,.rw (nC n0d),.rw (nC ⟨3,0,[],0⟩)],(by show zas _ _ ([0,1,1]) ([0,1,1]) 0 _;simp [LM11,zao,zas,renL,AV.ren,AEnd.ren,za6,fS,gS,cC,nilS,za7,zaM,zaf str zae,zaf i64 zaj,zaq,wI,wO,zaz,List.getElem?_cons_zero,List.getElem?_cons_succ]),(by show AEnd.ren ([0,1,1]) _ _;first | rfl | simp [LM11,zao,zas,renL,AV.ren,AEnd.ren,za6,fS,gS,cC,nilS,za7,zaM,zaf str zae,zaf i64 zaj,zaq,wI,wO,zaz,List.getElem?_cons_zero,List.getElem?_cons_succ]),?_⟩
    try simp -implicitDefEqProofs only [LM9,zbo T182,zai T135,eq_self,zav,TB,SB,Int.reduceToNat,Nat.reduceAdd,Nat.reduceEqDiff,Nat.reduceLT,Nat.reduceMod,Nat.reducePow,Nat.reduceSub,if_true,reduceIte]
    refine zdZ (zaM _) ?_
    unfold zdS
    rw [nd0]
    exact⟨rfl,rfl⟩
   | some x =>
    rw [hx] at htx nd0
    refine ACalls.frame ([0]) (htx) rfl (by decide) (by simp [LM11,zao,zas,renL,AV.ren,AEnd.ren,za6,fS,gS,cC,nilS,za7,zaM,zaf str zae,zaf i64 zaj,zaq,wI,wO,zaz,List.getElem?_cons_zero,List.getElem?_cons_succ]) (by first | rfl | simp [LM11,zao,zas,renL,AV.ren,AEnd.ren,za6,fS,gS,cC,nilS,za7,zaM,zaf str zae,zaf i64 zaj,zaq,wI,wO,zaz,List.getElem?_cons_zero,List.getElem?_cons_succ]) ?_
    rintro _ _ ⟨rfl,rfl⟩
    refine⟨.ret (str x.1),[.rw (cC s ((p+1+x.2:Nat):Int) nilS nilS),.rw (nC n0d),.rw (nC ⟨3,0,[],0⟩)],(by show zas _ _ ([0,1,1]) ([0,1,1]) 0 _;simp [LM11,zao,zas,renL,AV.ren,AEnd.ren,za6,fS,gS,cC,nilS,za7,zaM,zaf str zae,zaf i64 zaj,zaq,wI,wO,zaz,List.getElem?_cons_zero,List.getElem?_cons_succ]),(by show AEnd.ren ([0,1,1]) _ _;first | rfl | simp [LM11,zao,zas,renL,AV.ren,AEnd.ren,za6,fS,gS,cC,nilS,za7,zaM,zaf str zae,zaf i64 zaj,zaq,wI,wO,zaz,List.getElem?_cons_zero,List.getElem?_cons_succ]),?_⟩
    try simp -implicitDefEqProofs only [LM9,zbo T182,zai T135,eq_self,zav,TB,SB,Int.reduceToNat,Nat.reduceAdd,Nat.reduceEqDiff,Nat.reduceLT,Nat.reduceMod,Nat.reducePow,Nat.reduceSub,if_true,reduceIte]
    refine zfx (zaq _ _) ?_
    unfold zdS
    rw [nd0]
    exact⟨rfl,rfl⟩
  ·rw [if_neg c2,if_neg c3,if_neg c4] at nd0
   repeat' (first | (refine⟨fun _=>?_,fun h=>absurd (by omega) h⟩) | (refine⟨fun h=>absurd h (by omega),fun _=>?_⟩) | fail)
   refine zdZ (zaM _) ?_
   unfold zdS
   rw [nd0]
   exact⟨rfl,rfl⟩
end Go.Proofs.YtdmiflfhaobngaaGreatDoor
end

section
namespace Go.Proofs.YtdmiflfhaobngaaGreatDoor
open Go Go.Eng
section
variable {s : List UInt8} {K : AV → Prop} {KS : AV → zag → Prop} {σ : zag} {t e : TypeId} {id : Nat}
theorem al_c:al1 T e (some tyCr) σ KS=KS (.ptr σ.length 0) (σ++[.rw (cC [] 0 nilS nilS)]):=by
 simp [al1,tyCr,zaK,nilS,i64,str,cC]
theorem bd_c (ht:T t=some tyCr):zaQ T t [(0,str s)] K=K (.agg (cC s 0 nilS nilS)):=by
 simp [zaQ,ht,tyCr,T9,T3,T165,T126,zbs,zaK,zbT,zad,zbc,zbB,tySl,tyStr,cC,nilS]
 try rfl
theorem st_c (x:List AV) (hx:x.length=4):st2 (some tyCr) (some (.rw x)) id 0 (.agg (cC s 0 nilS nilS)) σ KS=KS (.lit undef) (σ.set id (.rw (cC s 0 nilS nilS))):=by
 match x,hx with
 | [_,_,_,_],_=>simp [st2,tyCr,AV.cells,AV.one,Value.oneCell',zbc,cC,nilS,i64,str]
theorem zgr (ht:T t=some tyNd):zaQ T t [] K=K (nA n0d):=by
 simp [zaQ,ht,tyNd,T3,T2,T133,T9,zbB,tyStr,zbs,zaK,nA,nC,n0d,i64,str]
end
theorem zcy:ziP (recV (some cgu))=some false:=rfl
def oneR (s:List UInt8):Nd × Nat × Bool:=match nodR s 0 with
 | some x=>(x.1,x.2,true)
 | none=>(n0d,0,false)
theorem oneP_ok (a:Nd) (b:Int) (c:Bool) (σ:zag) (K:zag→Prop) (h:K (.rw (nC n0d)::.rw [i64 0]::.rw [bl false]::σ)):DCalls Tryz.prog 111 [.ptr 0 0,.ptr 1 0,.ptr 2 0] (.rw (nC a)::.rw [i64 b]::.rw [bl c]::σ) (some cgu) K:=by
 refine DCalls.body (b:=true) T_ok Tryz.func111 rfl Tryz.ntmps111 Tryz.results111 rfl ?_ ?_
 ·try simp -implicitDefEqProofs only [LM9,zbo T182,zai T135,eq_self,zav,al_c,bd_c T167,st_c (cC [] 0 nilS nilS) rfl,zgr T135,zcy,TB,SB,Int.reduceToNat,Nat.reduceAdd,Nat.reduceEqDiff,Nat.reduceLT,Nat.reduceMod,Nat.reducePow,Nat.reduceSub,if_true,reduceIte]
 ·try simp -implicitDefEqProofs only [LM9,zbo T182,zai T135,eq_self,zav,al_c,bd_c T167,st_c (cC [] 0 nilS nilS) rfl,zgr T135,zcy,TB,SB,Int.reduceToNat,Nat.reduceAdd,Nat.reduceEqDiff,Nat.reduceLT,Nat.reduceMod,Nat.reducePow,Nat.reduceSub,if_true,reduceIte]
  exact h
theorem oneN_ok (a:Nd) (b:Int) (c:Bool) (σ:zag) (K:zag→Prop) (h:K (.rw (nC a)::.rw [i64 b]::.rw [bl c]::σ)):DCalls Tryz.prog 111 [.ptr 0 0,.ptr 1 0,.ptr 2 0] (.rw (nC a)::.rw [i64 b]::.rw [bl c]::σ) none K:=by
 refine DCalls.body (b:=false) T_ok Tryz.func111 rfl Tryz.ntmps111 Tryz.results111 rfl ?_ ?_
 ·try simp -implicitDefEqProofs only [LM9,zbo T182,zai T135,eq_self,zav,al_c,bd_c T167,st_c (cC [] 0 nilS nilS) rfl,zgr T135,zcy,TB,SB,Int.reduceToNat,Nat.reduceAdd,Nat.reduceEqDiff,Nat.reduceLT,Nat.reduceMod,Nat.reducePow,Nat.reduceSub,if_true,reduceIte]
  exact⟨rfl,rfl,rfl⟩
 ·try simp -implicitDefEqProofs only [LM9,zbo T182,zai T135,eq_self,zav,al_c,bd_c T167,st_c (cC [] 0 nilS nilS) rfl,zgr T135,zcy,TB,SB,Int.reduceToNat,Nat.reduceAdd,Nat.reduceEqDiff,Nat.reduceLT,Nat.reduceMod,Nat.reducePow,Nat.reduceSub,if_true,reduceIte]
  exact h
def oneT:Tr:=(.br 0 (.br 1 (.br 2 (.br 3 (.br 4 (.br 5 .done .nil) .nil) .nil) (.br 3 (.br 2 (.br 4 (.br 5 .done .nil) .nil) .nil) .nil)) (.br 3 (.br 1 (.br 2 (.br 4 (.br 5 .done .nil) .nil) .nil) .nil) .nil)) (.br 1 (.br 0 (.br 2 (.br 3 (.br 4 (.br 5 .done .nil) .nil) .nil) (.br 3 (.br 2 (.br 4 (.br 5 .done .nil) .nil) .nil) .nil)) (.br 2 (.br 0 (.br 3 (.br 4 (.br 5 .done .nil) .nil) .nil) .nil) .nil)) .nil))
theorem one_ok (s:List UInt8) (hs:s.length≤1000000000):ACalls Tryz.prog 85 [str s] [] (fun y _=>y=.ret (.tup [nA (oneR s).1,i64 (oneR s).2.1,bl (oneR s).2.2])):=by
 have hnd:=fnode_ok s 0 hs (by omega)
 unfold zdS at hnd
 refine ACalls.bodyD T_ok Tryz.func85 (by kernel_rfl) rfl Tryz.ntmps85 (congrArg Array.toList Tryz.results85) ?_
 rw [zio rfl]
 try simp -implicitDefEqProofs only [LM9,zbo T182,zai T135,eq_self,zav,al_c,bd_c T167,st_c (cC [] 0 nilS nilS) rfl,zgr T135,zcy,TB,SB,Int.reduceToNat,Nat.reduceAdd,Nat.reduceEqDiff,Nat.reduceLT,Nat.reduceMod,Nat.reducePow,Nat.reduceSub,if_true,reduceIte]
 rw [ziq rfl]
 try simp -implicitDefEqProofs only [LM9,zbo T182,zai T135,eq_self,zav,al_c,bd_c T167,st_c (cC [] 0 nilS nilS) rfl,zgr T135,zcy,TB,SB,Int.reduceToNat,Nat.reduceAdd,Nat.reduceEqDiff,Nat.reduceLT,Nat.reduceMod,Nat.reducePow,Nat.reduceSub,if_true,reduceIte]
 refine⟨by kernel_rfl,?_⟩
 try simp -implicitDefEqProofs only [LM9,zbo T182,zai T135,eq_self,zav,al_c,bd_c T167,st_c (cC [] 0 nilS nilS) rfl,zgr T135,zcy,TB,SB,Int.reduceToNat,Nat.reduceAdd,Nat.reduceEqDiff,Nat.reduceLT,Nat.reduceMod,Nat.reducePow,Nat.reduceSub,if_true,reduceIte]
 cases hx:nodR s 0 with
 | none =>
  rw [hx] at hnd
  refine ACalls.frame ([3]) (hnd) rfl (by decide) (by simp [LM11,zao,zas,renL,AV.ren,AEnd.ren,za6,fS,gS,cC,nilS,za7,zaM,zaf str zae,zaf i64 zaj,zaq,wI,wO,zaz,List.getElem?_cons_zero,List.getElem?_cons_succ]) (by first | rfl | simp [LM11,zao,zas,renL,AV.ren,AEnd.ren,za6,fS,gS,cC,nilS,za7,zaM,zaf str zae,zaf i64 zaj,zaq,wI,wO,zaz,List.getElem?_cons_zero,List.getElem?_cons_succ]) ?_
  rintro _ _ ⟨rfl,rfl⟩
  refine⟨.pan cgu,[.rw (nC n0d),.rw [i64 0],.rw [bl false],.dead],(by show zas _ _ ([1,1,1,0]) ([1,1,1,0]) 0 _;simp [LM11,zao,zas,renL,AV.ren,AEnd.ren,za6,fS,gS,cC,nilS,za7,zaM,zaf str zae,zaf i64 zaj,zaq,wI,wO,zaz,List.getElem?_cons_zero,List.getElem?_cons_succ]),(by show AEnd.ren ([1,1,1,0]) _ _;first | rfl | simp [LM11,zao,zas,renL,AV.ren,AEnd.ren,za6,fS,gS,cC,nilS,za7,zaM,zaf str zae,zaf i64 zaj,zaq,wI,wO,zaz,List.getElem?_cons_zero,List.getElem?_cons_succ]),?_⟩
  try simp -implicitDefEqProofs only [LM9,zbo T182,zai T135,eq_self,zav,al_c,bd_c T167,st_c (cC [] 0 nilS nilS) rfl,zgr T135,zcy,TB,SB,Int.reduceToNat,Nat.reduceAdd,Nat.reduceEqDiff,Nat.reduceLT,Nat.reduceMod,Nat.reducePow,Nat.reduceSub,if_true,reduceIte]
  refine oneP_ok _ _ _ _ _ ?_
  try simp -implicitDefEqProofs only [LM9,zbo T182,zai T135,eq_self,zav,al_c,bd_c T167,st_c (cC [] 0 nilS nilS) rfl,zgr T135,zcy,TB,SB,Int.reduceToNat,Nat.reduceAdd,Nat.reduceEqDiff,Nat.reduceLT,Nat.reduceMod,Nat.reducePow,Nat.reduceSub,if_true,reduceIte]
  exact zbd (by simp [AV.ren,renL,zaj,zaq,zax]) (by unfold oneR;rw [hx];rfl)
 | some x =>
  rw [hx] at hnd
  refine ACalls.frame ([3]) (hnd) rfl (by decide) (by simp [LM11,zao,zas,renL,AV.ren,AEnd.ren,za6,fS,gS,cC,nilS,za7,zaM,zaf str zae,zaf i64 zaj,zaq,wI,wO,zaz,List.getElem?_cons_zero,List.getElem?_cons_succ]) (by first | rfl | simp [LM11,zao,zas,renL,AV.ren,AEnd.ren,za6,fS,gS,cC,nilS,za7,zaM,zaf str zae,zaf i64 zaj,zaq,wI,wO,zaz,List.getElem?_cons_zero,List.getElem?_cons_succ]) ?_
  rintro _ _ ⟨rfl,rfl⟩
  refine⟨.ret (nA x.1),[.rw (nC n0d),.rw [i64 0],.rw [bl false],.rw (cC s (x.2:Int) nilS nilS)],(by show zas _ _ ([1,1,1,0]) ([1,1,1,0]) 0 _;simp [LM11,zao,zas,renL,AV.ren,AEnd.ren,za6,fS,gS,cC,nilS,za7,zaM,zaf str zae,zaf i64 zaj,zaq,wI,wO,zaz,List.getElem?_cons_zero,List.getElem?_cons_succ]),(by show AEnd.ren ([1,1,1,0]) _ _;first | rfl | simp [LM11,zao,zas,renL,AV.ren,AEnd.ren,za6,fS,gS,cC,nilS,za7,zaM,zaf str zae,zaf i64 zaj,zaq,wI,wO,zaz,List.getElem?_cons_zero,List.getElem?_cons_succ]),?_⟩
  try simp -implicitDefEqProofs only [LM9,zbo T182,zai T135,eq_self,zav,al_c,bd_c T167,st_c (cC [] 0 nilS nilS) rfl,zgr T135,zcy,TB,SB,Int.reduceToNat,Nat.reduceAdd,Nat.reduceEqDiff,Nat.reduceLT,Nat.reduceMod,Nat.reducePow,Nat.reduceSub,if_true,reduceIte]
  refine W_drawT oneT ([.bot,.bot,.ptr 0 0,.ptr 1 0,.ptr 2 0,.bot,.bot,.bot,.bot,.bot,.bot,.bot,.bot]) [.rw (nC x.1),.rw [i64 x.2],.rw [bl true],.rw (cC s (x.2:Int) nilS nilS)] (by kernel_rfl) (by kernel_rfl) ?_ ?_
  ·unfold oneT
   try simp -implicitDefEqProofs only [LM9,zbo T182,zai T135,eq_self,zav,al_c,bd_c T167,st_c (cC [] 0 nilS nilS) rfl,zgr T135,zcy,TB,SB,Int.reduceToNat,Nat.reduceAdd,Nat.reduceEqDiff,Nat.reduceLT,Nat.reduceMod,Nat.reducePow,Nat.reduceSub,if_true,reduceIte]
   repeat' (with_reducible refine And.intro ?_ ?_)
   all_goals
    refine zdA ?_
    try simp only [LB1,List.getElem?_cons_zero,true_and,and_true,or_true,true_or,reduceCtorEq,false_or]
  try simp -implicitDefEqProofs only [LM9,zbo T182,zai T135,eq_self,zav,al_c,bd_c T167,st_c (cC [] 0 nilS nilS) rfl,zgr T135,zcy,TB,SB,Int.reduceToNat,Nat.reduceAdd,Nat.reduceEqDiff,Nat.reduceLT,Nat.reduceMod,Nat.reducePow,Nat.reduceSub,if_true,reduceIte]
  refine oneN_ok _ _ _ _ _ ?_
  try simp -implicitDefEqProofs only [LM9,zbo T182,zai T135,eq_self,zav,al_c,bd_c T167,st_c (cC [] 0 nilS nilS) rfl,zgr T135,zcy,TB,SB,Int.reduceToNat,Nat.reduceAdd,Nat.reduceEqDiff,Nat.reduceLT,Nat.reduceMod,Nat.reducePow,Nat.reduceSub,if_true,reduceIte]
  exact zbd (by simp [AV.ren,renL,zaj,zaq,zax]) (by unfold oneR;rw [hx])
end Go.Proofs.YtdmiflfhaobngaaGreatDoor
end

