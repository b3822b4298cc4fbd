/-
  Nodes, values, and what is checked of them. No condition.
-/
import Derived.Test.YtnghkomgefieoaaGreatDoorEngC
import Derived.Test.YtnghkomgefieoaaGreatDoorRows
import Derived.Lib.LaidTab
import Derived.Lib.ItoaNum
import Derived.Test.YtnghkomgefieoaaGreatDoorLib
set_option linter.unusedSimpArgs false
set_option linter.unusedVariables false
set_option linter.unusedSectionVars false
section
namespace Go.Eng
open Go
theorem aQ15 {P:Prop} (e:P:=by first | omega | decide | (unfold inI;omega) | (simp only [List.length_append,List.length_reverse,List.length_take,List.length_drop,List.length_cons,List.length_nil,List.length_map,List.length_replicate];omega)):P:=e
theorem aQ16 {P:Prop} (e:P:=by first | rfl | simp [renL,AV.ren,zaP,zaG str zar,zba,zaZ,za3,zaq,zaU,zar]):P:=e
theorem aQ17 {P:Prop} (e:P:=by simp [AV.ren,renL,zbF,zaq]):P:=e
theorem aQ26 {P Q:Prop} (h:Q) (e:P=Q:=by first|(simp -implicitDefEqProofs only [LM8,eq_self,TB,SB,Int.reduceToNat,Nat.reduceAdd,Nat.reduceEqDiff,Nat.reduceLT,Nat.reduceMod,Nat.reducePow,Nat.reduceSub,if_true,reduceIte];first|done|exact rfl)|exact rfl):P:=e ▸ h
theorem aQ27 {P Q:Prop} (h:Q) (e:P=Q:=by first|(simp only [LM10,List.set_cons_zero,List.set_cons_succ,List.length_cons,List.length_nil,Nat.reduceAdd,List.cons_append,List.nil_append,AV.ren,zgB u8 zba,zgB u32 zaZ,zgB i64 zaq,zgB u64 za3,List.getElem?_cons_zero,List.getElem?_cons_succ,Option.map_some,true_and,and_true,or_true,true_or,reduceCtorEq,false_or,Option.some.injEq,Blk.rw.injEq,AV.sl.injEq,AV.ref.injEq,AV.ptr.injEq];first|done|exact rfl)|exact rfl):P:=e ▸ h
theorem aQ28 {P Q:Prop} (h:Q) (e:P=Q:=by first|(simp only [LB5,List.getElem?_cons_zero,true_and,and_true,or_true,true_or,reduceCtorEq,false_or];first|done|exact rfl)|exact rfl):P:=e ▸ h
theorem aQ29 {P Q:Prop} (h:Q) (e:P=Q:=by first|(simp -implicitDefEqProofs only [LM8,eq_self,zao,TB,SB,Int.reduceToNat,Nat.reduceAdd,Nat.reduceEqDiff,Nat.reduceLT,Nat.reduceMod,Nat.reducePow,Nat.reduceSub,if_true,reduceIte];first|done|exact rfl)|exact rfl):P:=e ▸ h
theorem aQ30 {P Q:Prop} (h:Q) (e:P=Q:=by first|(simp -implicitDefEqProofs only [LM8,LB6,eq_self,zao,box_nil,TB,SB,Int.reduceToNat,Nat.reduceAdd,Nat.reduceEqDiff,Nat.reduceLT,Nat.reduceMod,Nat.reducePow,Nat.reduceSub,if_true,reduceIte];first|done|exact rfl)|exact rfl):P:=e ▸ h
theorem aQ31 {P Q:Prop} (h:Q) (e:P=Q:=by first|(simp -implicitDefEqProofs only [LM8,LB6,eq_self,zao,TB,SB,Int.reduceToNat,Nat.reduceAdd,Nat.reduceEqDiff,Nat.reduceLT,Nat.reduceMod,Nat.reducePow,Nat.reduceSub,if_true,reduceIte];first|done|exact rfl)|exact rfl):P:=e ▸ h
theorem aQ32 {P Q:Prop} (h:Q) (e:P=Q:=by first|(simp -implicitDefEqProofs only [LM8,LB6,eq_self,zao,ld_strs,TB,SB,Int.reduceToNat,Nat.reduceAdd,Nat.reduceEqDiff,Nat.reduceLT,Nat.reduceMod,Nat.reducePow,Nat.reduceSub,if_true,reduceIte];first|done|exact rfl)|exact rfl):P:=e ▸ h
end Go.Eng
end

section
namespace Go.Proofs.YtnghkomgefieoaaGreatDoor
open Go Go.Eng
set_option linter.defProp false in
def LB0:=And.intro @Wop_range (And.intro @Wop_next (@Wop_entry))
set_option linter.defProp false in
def LB1:=And.intro @Wop_panic (And.intro @wpan_ifc (And.intro @Wop_makeMap (And.intro @Wop_lookup (And.intro @Wop_mapUpdate (And.intro @Wop_insert (And.intro @okR_true (And.intro @okR_false (And.intro @Bool.not_true (And.intro @Bool.not_false (And.intro @Int.toNat_natCast (@decide_true)))))))))))
def nilS:AV:=.lit (.slice none 0 0)
def tyNd:TI:=⟨.struct [(41,0),(2,1),(9,2),(3,3)],4,40,[.int .i64 0,.int .i64 0,.string ⟨#[]⟩,.int .i64 0],true⟩
def tyRd:TI:=⟨.struct [(22,0),(94,1),(3,2)],3,56,[.slice none 0 0,.slice none 0 0,.int .i64 0],false⟩
def tyGu:TI:=⟨.struct [],0,0,[],false⟩
def tyPr:TI:=⟨.struct [(9,0),(3,1),(3,2)],3,32,[.string ⟨#[]⟩,.int .i64 0,.int .i64 0],false⟩
def tyPf:TI:=⟨.struct [(3,0),(25,1)],2,16,[.int .i64 0,.int .i64 0],true⟩
def tyMb:TI:=⟨.struct [(9,0),(22,1)],2,40,[.string ⟨#[]⟩,.slice none 0 0],false⟩
def tyRV:TI:=⟨.struct [(17,0),(103,1),(104,2)],3,24,[.pointer none,.pointer none,.int .u64 0],false⟩
def tySw:TI:=⟨.struct [(71,0),(22,2),(3,3),(3,4),(3,5),(1,6),(9,7)],8,104,[.pointer none,.slice none 0 0,.slice none 0 0,.int .i64 0,.int .i64 0,.int .i64 0,.nilFunc,.string ⟨#[]⟩],false⟩
def T:Tab:=tabOf [(3,za4),(2,za4),(4,tyBool),(75,tyU64),(9,tyStr),(40,tySl 9),(94,tySl 3),(41,za4),(25,za4),(43,tyNd),(22,tySl 43),(44,tySl 22),(135,tyRd),(61,zgr 9 3),(203,tyGu),(20,tyI),(5,tyU8),(71,ziQ 68 69),(68,zeh 71),(69,tySl 5),(117,tyU64),(93,zeh 5),(84,tyPr),(101,zeh 84),(81,tyPf),(87,zeh 81),(88,zeh 25),(52,tyI),(186,tyMb),(182,tySl 186),(192,zgr 9 43),(109,tyI),(147,tyI),(150,tyI),(106,tyRV),(111,tyU8),(78,tySw),(48,zeh 78),(1,tyFn)]
theorem T_ok:zaO Tryz.prog T:=tabOf_ok (by kernel_rfl)
theorem T3:T 3=some (za4):=rfl
theorem T2:T 2=some (za4):=rfl
theorem T4:T 4=some (tyBool):=rfl
theorem T75:T 75=some (tyU64):=rfl
theorem T9:T 9=some (tyStr):=rfl
theorem T40:T 40=some (tySl 9):=rfl
theorem T94:T 94=some (tySl 3):=rfl
theorem T41:T 41=some (za4):=rfl
theorem T25:T 25=some (za4):=rfl
theorem T43:T 43=some (tyNd):=rfl
theorem T22:T 22=some (tySl 43):=rfl
theorem T44:T 44=some (tySl 22):=rfl
theorem T135:T 135=some (tyRd):=rfl
theorem T61:T 61=some (zgr 9 3):=rfl
theorem T203:T 203=some (tyGu):=rfl
theorem T20:T 20=some (tyI):=rfl
theorem T5:T 5=some (tyU8):=rfl
theorem T71:T 71=some (ziQ 68 69):=rfl
theorem T68:T 68=some (zeh 71):=rfl
theorem T69:T 69=some (tySl 5):=rfl
theorem T117:T 117=some (tyU64):=rfl
theorem T93:T 93=some (zeh 5):=rfl
theorem T84:T 84=some (tyPr):=rfl
theorem T101:T 101=some (zeh 84):=rfl
theorem T81:T 81=some (tyPf):=rfl
theorem T87:T 87=some (zeh 81):=rfl
theorem T88:T 88=some (zeh 25):=rfl
theorem T52:T 52=some (tyI):=rfl
theorem T186:T 186=some (tyMb):=rfl
theorem T182:T 182=some (tySl 186):=rfl
theorem T192:T 192=some (zgr 9 43):=rfl
theorem T109:T 109=some (tyI):=rfl
theorem T147:T 147=some (tyI):=rfl
theorem T150:T 150=some (tyI):=rfl
theorem T106:T 106=some (tyRV):=rfl
theorem T111:T 111=some (tyU8):=rfl
theorem T78:T 78=some (tySw):=rfl
theorem T48:T 48=some (zeh 78):=rfl
theorem T1:T 1=some (tyFn):=rfl
set_option linter.defProp false in
def TB:=And.intro T3 (And.intro T2 (And.intro T4 (And.intro T75 (And.intro T9 (And.intro T40 (And.intro T94 (And.intro T41 (And.intro T25 (And.intro T43 (And.intro T22 (And.intro T44 (And.intro T135 (And.intro T61 (And.intro T203 (And.intro T20 (And.intro T5 (And.intro T71 (And.intro T68 (And.intro T69 (And.intro T117 (And.intro T93 (And.intro T84 (And.intro T101 (And.intro T81 (And.intro T87 (And.intro T88 (And.intro T52 (And.intro T186 (And.intro T182 (And.intro T192 (And.intro T109 (And.intro T147 (And.intro T150 (And.intro T106 (And.intro T111 (And.intro T78 (And.intro T48 (T1))))))))))))))))))))))))))))))))))))))
def powT:List Value:=Go.Lib.pow10Tab.map (Value.int .u64)
def zbG (g t:Nat):Value:=.iface 142 (.agg #[.pointer (some ⟨g,t,none⟩)])
instance globs:Globs:=⟨fun g=>match g with
 | 0=>some [zbG 7 52]
 | 1=>some powT
 | _=>none,[],[6],[3,2]⟩
theorem gl_errT (env:Env):zaR env (.global 0)=.rp [.lit (zbG 7 52)]:=by
 rw [aeval_glob (cs:=[zbG 7 52]) rfl];rfl
structure Nd where
 kind:Int
 num:Int
 text:List UInt8
 kids:Int
 deriving DecidableEq
def n0d:Nd:=⟨0,0,[],0⟩
def nC (n:Nd):List AV:=[i64 n.kind,i64 n.num,str n.text,i64 n.kids]
def nA (n:Nd):AV:=.agg (nC n)
def nV (n:Nd):List Value:=[.int .i64 n.kind,.int .i64 n.num,.string ⟨n.text.toArray⟩,.int .i64 n.kids]
theorem zbQ (n:Int):(i64 n).one=true:=rfl
theorem one_sl (cs:List AV) (n:Nat):(AV.sl cs n).one=true:=rfl
theorem one_ref (id off n sz:Nat):(AV.ref id off n sz).one=true:=rfl
theorem zcj (n:Int):(i64 n).cells=[i64 n]:=rfl
theorem zc1 (b:List UInt8):(str b).cells=[str b]:=rfl
theorem cells_sl (cs:List AV) (n:Nat):(AV.sl cs n).cells=[AV.sl cs n]:=rfl
theorem cells_ref (id off n sz:Nat):(AV.ref id off n sz).cells=[AV.ref id off n sz]:=rfl
section
variable {a b n : Nd} {σ : zab} {K : AV → Prop} {KS : AV → zab → Prop} {t : TypeId} {id : Nat}
theorem all_n:(nC n).all AV.one=true:=by
 simp only [nC,List.all_cons,zbQ,zce,List.all_nil,Bool.and_self]
theorem len_nC:(nC n).length=4:=rfl
theorem box_n {eB:TypeId}:wbox eB (nA n) σ KS=KS (.ptr σ.length 0) (σ++[.rw (nC n)]):=by
 simp only [wbox,nA,AV.cells,all_n,true_and,show zdr (nC n)=false from rfl,Bool.false_eq_true,if_false]
theorem ld_n:ld2 (some tyNd) (some (nC n)) 0 K=K (nA n):=by
 simp [ld2,wfin,tyNd,TD.agg,nA,nC]
theorem fa_n0 (ht:T t=some tyNd):zat T t (.ptr id 0) 0 K=K (.ptr id 0):=by simp [zat,ht,tyNd,T41,za4]
theorem fa_n1 (ht:T t=some tyNd):zat T t (.ptr id 0) 1 K=K (.ptr id 1):=by simp [zat,ht,tyNd,T2,za4]
theorem fa_n2 (ht:T t=some tyNd):zat T t (.ptr id 0) 2 K=K (.ptr id 2):=by simp [zat,ht,tyNd,T9,tyStr]
theorem fa_n3 (ht:T t=some tyNd):zat T t (.ptr id 0) 3 K=K (.ptr id 3):=by simp [zat,ht,tyNd,T3,za4]
theorem ld_n0:ld2 (some za4) (some (nC n)) 0 K=K (i64 n.kind):=by simp [ld2,wfin,za4,TD.agg,nC]
theorem ld_n1:ld2 (some za4) (some (nC n)) 1 K=K (i64 n.num):=by simp [ld2,wfin,za4,TD.agg,nC]
theorem ld_n2:ld2 (some tyStr) (some (nC n)) 2 K=K (str n.text):=by simp [ld2,wfin,tyStr,TD.agg,nC]
theorem ld_n3:ld2 (some za4) (some (nC n)) 3 K=K (i64 n.kids):=by simp [ld2,wfin,za4,TD.agg,nC]
theorem st_n:st2 (some tyNd) (some (.rw (nC a))) id 0 (nA b) σ KS=KS (.lit undef) (σ.set id (.rw (nC b))):=by
 have h1:=@all_n b
 have h2:za5 (nC a) 0 (nC b)=nC b:=rfl
 simp only [st2,tyNd,nA,AV.cells,len_nC,h1,h2,true_and,Nat.zero_add,Nat.le_refl]
theorem al_n (e:TypeId):al1 T e (some tyNd) σ KS=KS (.ptr σ.length 0) (σ++[.rw (nC n0d)]):=by
 simp [al1,tyNd,zaH,nC,n0d,i64,str]
theorem bd_n0 (ht:T t=some tyNd) (k:Int):zbg T t [(0,i64 k)] K=K (nA ⟨k,0,[],0⟩):=by
 simp [zbg,ht,tyNd,T3,T2,T41,T9,zbZ,zaH,zcj,zbQ,za5,za4,tyStr,nA,nC]
 try rfl
theorem bd_n03 (ht:T t=some tyNd) (k j:Int):zbg T t [(0,i64 k),(3,i64 j)] K=K (nA ⟨k,0,[],j⟩):=by
 simp [zbg,ht,tyNd,T3,T2,T41,T9,zbZ,zaH,zcj,zbQ,za5,za4,tyStr,nA,nC]
 try rfl
theorem bd_n02 (ht:T t=some tyNd) (k:Int) (j:List UInt8):zbg T t [(0,i64 k),(2,str j)] K=K (nA ⟨k,0,j,0⟩):=by
 simp [zbg,ht,tyNd,T3,T2,T41,T9,zbZ,zaH,zcj,zbQ,zc1,zce,za5,za4,tyStr,nA,nC]
 try rfl
theorem bd_gu (ht:T t=some tyGu):zbg T t [] K=K (.agg []):=by
 simp [zbg,ht,tyGu,zbZ,zaH]
theorem mkI2_gu (x:AV):mkI2 (some tyGu) t x K=K (.ifc t x):=zfx rfl _ _
theorem fit_1 {t:TypeId} {ti:TI} {v:Value} (ht:T t=some ti) (h:scB ti.d v=true):fitE T 1 t [v]:=by
 simp only [fitE,ht]
 rcases zc8 h with ⟨k,n,e,rfl⟩ | ⟨b,e,rfl⟩ | ⟨s,e,rfl⟩ <;> simp only [e] <;> exact⟨_,rfl,by simp [scB]⟩
theorem fit_n (n:Nd):fitE T 2 43 (nV n):=by
 rw [fitE]
 simp only [T43,tyNd]
 refine⟨trivial,rfl,rfl,?_⟩
 intro f hf
 simp only [List.mem_cons,List.not_mem_nil,or_false] at hf
 rcases hf with rfl | rfl | rfl | rfl
 ·exact⟨⟨_,T41⟩,fit_1 T41 rfl⟩
 ·exact⟨⟨_,T2⟩,fit_1 T2 rfl⟩
 ·exact⟨⟨_,T9⟩,fit_1 T9 rfl⟩
 ·exact⟨⟨_,T3⟩,fit_1 T3 rfl⟩
theorem nV_inj {a b:Nd} (h:nV a=nV b):a=b:=by
 obtain⟨a1,a2,a3,a4⟩:=a
 obtain⟨b1,b2,b3,b4⟩:=b
 simp only [nV,List.cons.injEq,Value.int.injEq,true_and,Value.string.injEq,ByteArray.mk.injEq,and_true] at h
 obtain⟨rfl,rfl,h,rfl⟩:=h
 simp at h
 rw [h]
theorem eqP_n (a b:Nd):eqP T 43 (nC a) (nC b) (2,nV a,nV b,decide (a=b)) :=
 ⟨rfl,rfl,(by show 2≤100;omega),⟨tyNd,T43,rfl⟩,fit_n a,fit_n b,by simp only [decide_eq_true_eq];exact⟨fun h=>by rw [h],fun h=>nV_inj h⟩⟩
theorem eqP_val {a b:Nd} {q:Nat × List Value × List Value × Bool} (h:eqP T 43 (nC a) (nC b) q):q.2.2.2=decide (a=b):=by
 obtain⟨h1,h2,_,_,_,_,h3⟩:=h
 have lits:∀ {l r:List Value},zaH l=zaH r→l=r:=by
  intro l
  induction l with
  | nil=>intro r h;cases r with | nil=>rfl | cons _ _=>cases h
  | cons x l ih =>
   intro r h
   cases r with
   | nil=>cases h
   | cons y r =>
    simp only [zaH,List.map_cons,List.cons.injEq,AV.lit.injEq] at h
    rw [h.1,ih h.2]
 have e1:=lits (l:=nV a) h1
 have e2:=lits (l:=nV b) h2
 rw [Bool.eq_iff_iff,h3,← e1,← e2,decide_eq_true_eq]
 exact⟨nV_inj,fun h=>by rw [h]⟩
theorem bin_n_eql:wbin T .eql 43 (nA a) (nA b) K=K (bl (decide (a=b))):=by
 apply propext
 constructor
 ·rintro⟨q,hq,hk⟩
  rw [← eqP_val hq]
  exact hk
 ·exact fun hk=>⟨_,eqP_n a b,hk⟩
theorem bin_n_neq:wbin T .neq 43 (nA a) (nA b) K=K (bl (!decide (a=b))):=by
 apply propext
 constructor
 ·rintro⟨q,hq,hk⟩
  rw [← eqP_val hq]
  exact hk
 ·exact fun hk=>⟨_,eqP_n a b,hk⟩
theorem set_n1 (k:Int):(nC a).set 1 (i64 k)=nC ⟨a.kind,k,a.text,a.kids⟩:=rfl
theorem set_n2 (k:List UInt8):(nC a).set 2 (str k)=nC ⟨a.kind,a.num,k,a.kids⟩:=rfl
theorem set_n3 (k:Int):(nC a).set 3 (i64 k)=nC ⟨a.kind,a.num,a.text,k⟩:=rfl
end
def zhd (n:Nd):Nd :=
 if n.kind=1 then (if n.num=1 then ⟨1,1,[],0⟩ else ⟨1,0,[],0⟩)
 else if n.kind=2 then ⟨2,n.num,[],0⟩
 else if n.kind=3 then ⟨3,0,n.text,0⟩
 else if n.kind=4∨n.kind=5 then ⟨n.kind,0,[],max n.kids 0⟩
 else ⟨n.kind,0,[],0⟩
def zbt (n:Nd):Bool:=decide (0≤n.kind) && decide (n.kind≤5) && decide (n=zhd n)
theorem alone_ok (n:Nd):ACalls Tryz.prog 139 [nA n] [] (fun y _=>y=.ret (bl (zbt n))):=by
 refine ACalls.body T_ok Tryz.func139 (by kernel_rfl) rfl Tryz.ntmps139 (congrArg Array.toList Tryz.results139) ?_
 try simp -implicitDefEqProofs only [LB0,LB1,gl_errT,box_n,ld_n,fa_n0 T43,fa_n1 T43,fa_n2 T43,fa_n3 T43,ld_n0,ld_n1,ld_n2,ld_n3,st_n,al_n,bd_n0 T43,bd_n03 T43,bd_n02 T43,bd_gu T203,mkI2_gu,bin_n_eql,bin_n_neq,set_n1,set_n2,set_n3,len_nC,eq_self,TB,SB,Int.reduceToNat,Nat.reduceAdd,Nat.reduceEqDiff,Nat.reduceLT,Nat.reduceMod,Nat.reducePow,Nat.reduceSub,if_true,reduceIte]
 have fin:∀ (b:Bool) (σ:zab),b=zbt n→endQ 0 (bl b) σ (fun r _=>AEnd.ret r=AEnd.ret (bl (zbt n))):=fun b σ h=>za0 (by rw [h])
 refine⟨fun h=>fin _ _ ?_,fun h0=>⟨fun h=>⟨fun h'=>fin _ _ ?_,fun h'=>fin _ _ ?_⟩,fun h1=>⟨fun h=>fin _ _ ?_,fun h2=>⟨fun h=>fin _ _ ?_,fun h3=>⟨fun h=>⟨fun h'=>fin _ _ ?_,fun h'=>absurd h h'⟩,fun h4=>⟨fun h=>fin _ _ ?_,fun h5=>fin _ _ ?_⟩⟩⟩⟩⟩⟩
 rotate_right
 ·have:(decide (0≤n.kind) && decide (n.kind≤5))=false:=by
   rw [Bool.and_eq_false_iff,decide_eq_false_iff_not,decide_eq_false_iff_not]
   omega
  simp only [zbt,this,Bool.false_and]
 all_goals (simp only [zbt,zhd])
 all_goals (simp [h, *])
end Go.Proofs.YtnghkomgefieoaaGreatDoor
end

section
namespace Go.Proofs.YtnghkomgefieoaaGreatDoor
open Go Go.Eng
def slN (l:List Nd):AV:=.sl (l.flatMap nC) l.length
theorem zbD (l:List Nd):(l.flatMap nC).length=l.length * 4:=by
 induction l with
 | nil=>rfl
 | cons a l ih=>rw [List.flatMap_cons,List.length_append,ih];simp [nC];omega
theorem flatN_drop (l:List Nd) (k:Nat):(l.flatMap nC).drop (k * 4)=(l.drop k).flatMap nC:=by
 induction l generalizing k with
 | nil=>simp
 | cons a l ih =>
  cases k with
  | zero=>simp
  | succ k =>
   rw [List.flatMap_cons,List.drop_succ_cons,← ih,Nat.succ_mul,show k * 4+4=4+k * 4 by omega,List.drop_append]
   simp [nC]
section
variable {l : List Nd} {σ : zab} {K : AV → Prop} {KS : AV → zab → Prop} {t : TypeId} {id : Nat}
theorem ia_N (m:Nat) (k:Int):ia3 (some tyNd) (.sl (l.flatMap nC) m) k K=(0≤k∧k < m∧m * 4≤l.length * 4∧K (.rp ((l.drop k.toNat).flatMap nC))):=by
 have:=flatN_drop l k.toNat
 simp only [ia3,tyNd,zbD,this,Nat.zero_lt_succ,true_and]
theorem ld_N (k:Nat):ld2 (some tyNd) (some ((l.drop k).flatMap nC)) 0 K=(k < l.length∧K (nA (l.getD k n0d))):=by
 by_cases h:k < l.length
 ·rw [List.drop_eq_getElem_cons h,List.flatMap_cons]
  simp [ld2,wfin,tyNd,TD.agg,nC,nA,h]
  try (intro _;omega)
 ·rw [show l.drop k=[] from List.drop_eq_nil_of_le (by omega)]
  simp [ld2,wfin,tyNd,h]
theorem fa_N2 (ht:T t=some tyNd) (cs:List AV):zat T t (.rp cs) 2 K=K (.rp (cs.drop 2)):=by simp [zat,ht,tyNd,T9,tyStr]
theorem ldf_N2 (k:Nat):ld2 (some tyStr) (some (((l.drop k).flatMap nC).drop 2)) 0 K=(k < l.length∧K (str (l.getD k n0d).text)):=by
 by_cases h:k < l.length
 ·rw [List.drop_eq_getElem_cons h,List.flatMap_cons]
  simp [ld2,wfin,tyStr,TD.agg,nC,h]
  try (intro _;omega)
 ·rw [show l.drop k=[] from List.drop_eq_nil_of_le (by omega)]
  simp [ld2,wfin,tyStr,h]
def rdC (l:List Nd) (j n:Nat) (d:Int):List AV:=[.sl (l.flatMap nC) l.length,.ref j 0 n 1,i64 d]
theorem fa_r0 (ht:T t=some tyRd):zat T t (.ptr id 0) 0 K=K (.ptr id 0):=by simp [zat,ht,tyRd,T22,tySl]
theorem fa_r1 (ht:T t=some tyRd):zat T t (.ptr id 0) 1 K=K (.ptr id 1):=by simp [zat,ht,tyRd,T94,tySl]
theorem fa_r2 (ht:T t=some tyRd):zat T t (.ptr id 0) 2 K=K (.ptr id 2):=by simp [zat,ht,tyRd,T3,za4]
theorem ld_r0 (e:TypeId) (j n:Nat) (d:Int):ld2 (some (tySl e)) (some (rdC l j n d)) 0 K=K (.sl (l.flatMap nC) l.length):=by simp [ld2,wfin,tySl,TD.agg,rdC]
theorem ld_r1 (e:TypeId) (j n:Nat) (d:Int):ld2 (some (tySl e)) (some (rdC l j n d)) 1 K=K (.ref j 0 n 1):=by simp [ld2,wfin,tySl,TD.agg,rdC]
theorem ld_r2 (j n:Nat) (d:Int):ld2 (some za4) (some (rdC l j n d)) 2 K=K (i64 d):=by simp [ld2,wfin,za4,TD.agg,rdC]
theorem al_r (e:TypeId):al1 T e (some tyRd) σ KS=KS (.ptr σ.length 0) (σ++[.rw [nilS,nilS,i64 0]]):=by
 simp [al1,tyRd,zaH,nilS,i64]
theorem bd_r (ht:T t=some tyRd) (cs:List AV) (m j n:Nat):zbg T t [(0,.sl cs m),(1,.ref j 0 n 1)] K=K (.agg [.sl cs m,.ref j 0 n 1,i64 0]):=by
 simp [zbg,ht,tyRd,T3,T94,T22,zbZ,zaH,cells_sl,one_sl,cells_ref,one_ref,za5,za4,tySl,i64]
theorem st_r (x y:AV) (cs:List AV) (m j n:Nat) (d:Int):st2 (some tyRd) (some (.rw [x,y,i64 0])) id 0 (.agg [.sl cs m,.ref j 0 n 1,i64 d]) σ KS=KS (.lit undef) (σ.set id (.rw [.sl cs m,.ref j 0 n 1,i64 d])):=by
 simp [st2,tyRd,AV.cells,one_sl,one_ref,zbQ,za5]
end
theorem ia_ref_i64 (id off len:Nat) (n:Int) {K:AV→Prop}:ia3 (some za4) (.ref id off len 1) n K=(0≤n∧n < len∧K (.ptr id (off+n.toNat))):=ia3_ref1 one_int _ _ _ _
theorem set_mapI (l:List Int) (k:Nat) (x:Int):(l.map i64).set k (i64 x)=(l.set k x).map i64:=by rw [List.map_set]
theorem bin_str_leq {t:TypeId} {K:AV→Prop} (a b:List UInt8):wbin T .leq t (str a) (str b) K=K (bl (Op.bytesLess a b || decide (a=b))):=by simp [wbin,str,strV,bl]
theorem zdg (q:List Nat) (n:Nd):renL q (nC n)=some (nC n):=by simp only [nC,renL,zaq,zar,Option.map,bind,Option.bind,pure]
theorem ren_nA (q:List Nat) (n:Nd):(nA n).ren q=some (nA n):=by simp only [nA,AV.ren,zdg,Option.map]
theorem renL_app (q:List Nat):∀ (l m:List AV),renL q l=some l→renL q m=some m→renL q (l++m)=some (l++m)
 | [],m,_,h=>h
 | a::l,m,h1,h2=>by
  simp only [renL,Option.bind_eq_some_iff,Option.map_eq_some_iff] at h1
  obtain⟨a',h3,l',h4,h5⟩:=h1
  simp only [List.cons.injEq] at h5
  obtain⟨rfl,rfl⟩:=h5
  simp only [List.cons_append,renL,h3,renL_app q l' m h4 h2,Option.bind_some,Option.map_some]
theorem zbF (q:List Nat):∀ l:List Nd,renL q (l.flatMap nC)=some (l.flatMap nC)
 | []=>rfl
 | a::l=>by rw [List.flatMap_cons];exact renL_app q _ _ (zdg q a) (zbF q l)
theorem ren_slN (q:List Nat) (l:List Nd) (n:Nat):(AV.sl (l.flatMap nC) n).ren q=some (.sl (l.flatMap nC) n):=by simp only [AV.ren,zbF,Option.map]
theorem zd3 (q:List Nat) (l:List Nd) (j n:Nat) (d:Int):renL q (rdC l j n d)=(q[j]?).map fun j'=>rdC l j' n d:=by
 simp only [rdC,renL,AV.ren,zbF,zaq,Option.map_some,Option.bind_some]
 cases q[j]? <;> rfl
theorem retQ_pan (rs : List ResultVar) (KK : AEnd → zab → Prop) (n0 : Nat) (r : AV) (env : Env) (σ : zab) : retQ T n0 rs KK (.pan r) env σ = endQ n0 r σ (fun r σ' => KK (.pan r) σ') := rfl
theorem set_r2 (l:List Nd) (j n:Nat) (d k:Int):(rdC l j n d).set 2 (i64 k)=rdC l j n k:=rfl
theorem len_rdC (l:List Nd) (j n:Nat) (d:Int):(rdC l j n d).length=3:=rfl
theorem mk_i64 {σ:zab} {KS:AV→zab→Prop} (l c:Int):mk2 (some za4) l c σ KS=(0≤l∧l≤c∧c≤9223372036854775807∧c * (8:Nat)≤281474976710656∧KS (.ref σ.length 0 l.toNat 1) (σ++[.rw (List.replicate l.toNat (i64 0))])):=mk2_one one_int _ _
theorem zey (q:List Nat) (l:List Int):renL q (l.map i64)=some (l.map i64):=zaG i64 zaq q l
def leB (a b:List UInt8):Bool:=Op.bytesLess a b || decide (a=b)
def aftB (last:Option (List UInt8)) (t:List UInt8):Bool:=match last with
 | some s=>!leB t s
 | none=>true
theorem zf9 {n:Nd} (h:zbt n=true):0≤n.kids:=by
 simp only [zbt,Bool.and_eq_true,decide_eq_true_eq] at h
 have:=congrArg Nd.kids h.2
 rw [zhd] at this
 split at this
 ·split at this <;> simp only at this <;> omega
 ·split at this
  ·simp only at this;omega
  ·split at this
   ·simp only at this;omega
   ·split at this <;> simp only at this <;> omega
def zck (V:Nat→Option (Nat × Nat)) (l:List Nd) (mp:Bool):Nat→Option (List UInt8)→Nat→Nat→Option (Nat × Nat)
 | 0,_,e,d=>some (e,d)
 | c+1,last,e,d =>
  if mp then
   match l[e]? with
   | some k=>if zbt k && decide (k.kind=3) && aftB last k.text then
     match V (e+1) with
     | some r=>zck V l mp c (some k.text) r.1 (max d r.2)
     | none=>none
    else none
   | none=>none
  else
   match V e with
   | some r=>zck V l mp c last r.1 (max d r.2)
   | none=>none
def val (l:List Nd):Nat→Nat→Option (Nat × Nat)
 | 0,_=>none
 | f+1,at'=>match l[at']? with
  | some n=>if zbt n then (zck (val l f) l (decide (n.kind=5)) n.kids.toNat none (at'+1) 0).map fun r=>(r.1,r.2+1) else none
  | none=>none
theorem zfA {V:Nat→Option (Nat × Nat)} {l:List Nd} {mp:Bool} (hV:∀ e r,V e=some r→e < r.1∧r.1≤l.length):∀ (c:Nat) (last:Option (List UInt8)) (e d:Nat) (r:Nat × Nat),e≤l.length→zck V l mp c last e d=some r→e≤r.1∧r.1≤l.length∧d≤r.2
 | 0,last,e,d,r,he,h=>by
  simp only [zck,Option.some.injEq] at h
  subst h
  exact⟨Nat.le_refl _,he,Nat.le_refl _⟩
 | c+1,last,e,d,r,he,h=>by
  simp only [zck] at h
  split at h
  ·split at h
   ·split at h
    ·split at h
     ·rename_i r' hr'
      have h1:=hV _ _ hr'
      have h2:=zfA hV c _ _ _ _ h1.2 h
      exact⟨by omega,h2.2.1,by omega⟩
     ·cases h
    ·cases h
   ·cases h
  ·split at h
   ·rename_i r' hr'
    have h1:=hV _ _ hr'
    have h2:=zfA hV c _ _ _ _ h1.2 h
    exact⟨by omega,h2.2.1,by omega⟩
   ·cases h
theorem val_le {l:List Nd}:∀ (f at':Nat) (r:Nat × Nat),val l f at'=some r→at' < r.1∧r.1≤l.length
 | 0,_,_,h=>by cases h
 | f+1,at',r,h=>by
  simp only [val] at h
  split at h
  ·rename_i n hn
   have hlt:=(List.getElem?_eq_some_iff.1 hn).1
   split at h
   ·rw [Option.map_eq_some_iff] at h
    obtain⟨q,h1,rfl⟩:=h
    have:=zfA (val_le (l:=l) f) _ _ _ _ _ (by omega) h1
    exact⟨by omega,this.2.1⟩
   ·cases h
  ·cases h
theorem zd4 {V V':Nat→Option (Nat × Nat)} {l:List Nd} {mp:Bool} (hV:∀ e r,V e=some r→e < r.1) (a:Nat) (h:∀ e,a≤e→V e=V' e):∀ (c:Nat) (last:Option (List UInt8)) (e d:Nat),a≤e→zck V l mp c last e d=zck V' l mp c last e d
 | 0,_,_,_,_=>rfl
 | c+1,last,e,d,he=>by
  simp only [zck]
  rw [← h e he,← h (e+1) (by omega)]
  have i1:∀ r,V (e+1)=some r→∀ last,zck V l mp c last r.1 (max d r.2)=zck V' l mp c last r.1 (max d r.2):=fun r hr last=>zd4 hV a h c _ _ _ (by have:=hV _ _ hr;omega)
  have i2:∀ r,V e=some r→∀ last,zck V l mp c last r.1 (max d r.2)=zck V' l mp c last r.1 (max d r.2):=fun r hr last=>zd4 hV a h c _ _ _ (by have:=hV _ _ hr;omega)
  cases h1:V (e+1) with
  | none=>cases h2:V e with
   | none=>rfl
   | some r=>simp only [i2 r h2]
  | some r'=>cases h2:V e with
   | none=>simp only [i1 r' h1]
   | some r=>simp only [i1 r' h1,i2 r h2]
theorem val_fuel {l:List Nd}:∀ (f f' at':Nat),l.length≤at'+f→l.length≤at'+f'→val l f at'=val l f' at'
 | 0,0,_,_,_=>rfl
 | 0,f'+1,at',h,_=>by
  have:l[at']?=none:=List.getElem?_eq_none (by omega)
  simp only [val,this]
 | f+1,0,at',_,h=>by
  have:l[at']?=none:=List.getElem?_eq_none (by omega)
  simp only [val,this]
 | f+1,f'+1,at',h,h'=>by
  simp only [val]
  cases hn:l[at']? with
  | none=>rfl
  | some n =>
   simp only
   rw [zd4 (fun e r hr=>(val_le f e r hr).1) (at'+1) (fun e he=>val_fuel f f' e (by omega) (by omega)) _ _ _ _ (Nat.le_refl _)]
def vl (l:List Nd) (at':Nat):Option (Nat × Nat):=val l (l.length - at') at'
theorem zdh {l:List Nd} {at':Nat} {r:Nat × Nat} (h:vl l at'=some r):at' < r.1∧r.1≤l.length:=val_le _ _ _ h
theorem vl_eq (l:List Nd) (at':Nat):vl l at'=match l[at']? with
  | some n=>if zbt n then (zck (vl l) l (decide (n.kind=5)) n.kids.toNat none (at'+1) 0).map fun r=>(r.1,r.2+1) else none
  | none=>none:=by
 unfold vl
 cases hn:l[at']? with
 | none =>
  have:=List.getElem?_eq_none_iff.1 hn
  rw [show l.length - at'=0 by omega]
  rfl
 | some n =>
  have hlt:=(List.getElem?_eq_some_iff.1 hn).1
  rw [show l.length - at'=(l.length - at' - 1)+1 by omega]
  simp only [val,hn]
  rw [zd4 (fun e r hr=>(val_le _ e r hr).1) (at'+1) (fun e he=>val_fuel _ (l.length - e) e (by omega) (by omega)) _ _ _ _ (Nat.le_refl _)]
def zhe (l:List Nd) (p:Nat):Int:=match vl l p with
 | some r=>r.1
 | none=>0
theorem vl_text {l:List Nd} {p:Nat} {k:Nd} (hk:l[p]?=some k) (ha:zbt k=true) (h3:k.kind=3):vl l p=some (p+1,1):=by
 rw [vl_eq,hk]
 have hkids:k.kids=0:=by
  simp only [zbt,Bool.and_eq_true,decide_eq_true_eq] at ha
  have:=congrArg Nd.kids ha.2
  rw [zhd] at this
  simpa [h3] using this
 simp only [ha,if_true,hkids,Int.toNat_zero,zck,Option.map_some]
def updE (l:List Nd) (es:List Int) (a b:Nat):List Int:=es.mapIdx fun p x=>if a≤p∧p < b then zhe l p else x
theorem zcV (l:List Nd) (es:List Int) (a b:Nat):(updE l es a b).length=es.length:=by simp [updE]
theorem updE_none (l:List Nd) (es:List Int) (a:Nat):updE l es a a=es:=by
 apply List.ext_getElem? ;intro i
 simp only [updE,List.getElem?_mapIdx]
 rw [show (fun x=>if a≤i∧i < a then zhe l i else x)=(fun x:Int=>x) by funext x;rw [if_neg (by omega)]]
 simp
theorem zga (l:List Nd) (es:List Int) {a b c:Nat} (h1:a≤b) (h2:b≤c):updE l (updE l es a b) b c=updE l es a c:=by
 apply List.ext_getElem? ;intro i
 simp only [updE,List.getElem?_mapIdx,Option.map_map]
 congr 1
 funext x
 simp only [Function.comp]
 by_cases h3:a≤i∧i < b
 ·rw [if_neg (by omega),if_pos h3,if_pos (by omega)]
 ·by_cases h4:b≤i∧i < c
  ·rw [if_pos h4,if_pos (by omega)]
  ·rw [if_neg h4,if_neg h3,if_neg (by omega)]
theorem updE_set (l:List Nd) (es:List Int) {a b:Nat} (h1:a < b):(updE l es (a+1) b).set a (zhe l a)=updE l es a b:=by
 apply List.ext_getElem? ;intro i
 rw [List.getElem?_set,zcV]
 simp only [updE,List.getElem?_mapIdx]
 by_cases h:a=i
 ·subst h
  by_cases hl:a < es.length
  ·simp [hl,h1]
  ·simp [hl]
 ·rw [if_neg h]
  congr 1
  funext x
  by_cases h3:a+1≤i∧i < b
  ·rw [if_pos h3,if_pos (by omega)]
  ·rw [if_neg h3,if_neg (by omega)]
end Go.Proofs.YtnghkomgefieoaaGreatDoor
end

section
namespace Go.Proofs.YtnghkomgefieoaaGreatDoor
open Go Go.Eng
set_option linter.defProp false in
def LB2:=And.intro @box_n (And.intro @ld_n (And.intro (fun {K} {id}=>@fa_n0 K _ id T43) (And.intro (fun {K} {id}=>@fa_n1 K _ id T43) (And.intro (fun {K} {id}=>@fa_n2 K _ id T43) (And.intro (fun {K} {id}=>@fa_n3 K _ id T43) (And.intro @ld_n0 (And.intro @ld_n1 (And.intro @ld_n2 (And.intro @ld_n3 (And.intro @st_n (And.intro @al_n (And.intro (fun {K}=>@bd_n0 K _ T43) (And.intro (fun {K}=>@bd_n03 K _ T43) (And.intro (fun {K}=>@bd_n02 K _ T43) (And.intro (fun {K}=>@bd_gu K _ T203) (And.intro @mkI2_gu (And.intro @bin_n_eql (And.intro @bin_n_neq (And.intro @set_n1 (And.intro @set_n2 (And.intro @set_n3 (And.intro @len_nC (And.intro (fun {K} {id}=>@fa_r0 K _ id T135) (And.intro (fun {K} {id}=>@fa_r1 K _ id T135) (And.intro (fun {K} {id}=>@fa_r2 K _ id T135) (And.intro @ld_r0 (And.intro @ld_r1 (And.intro @ld_r2 (And.intro (fun {K}=>@bd_r K _ T135) (And.intro @st_r (And.intro @al_r (And.intro @ia_N (And.intro @ld_N (And.intro @ia_ref_i64 (And.intro @set_mapI (And.intro (fun {K}=>@fa_N2 K _ T43) (And.intro @ldf_N2 (And.intro @retQ_pan (And.intro @set_r2 (And.intro @len_rdC (And.intro @bin_str_leq (And.intro @recQ_ret (And.intro @recQ_pan (And.intro @mk_i64 (And.intro @setp_1 (And.intro @wres_nil (And.intro @wres_cell (And.intro @wres_tmp (And.intro @packR_1 (And.intro @packR_2 (And.intro @packR_3 (And.intro @retQ_wres (And.intro @endD_normal (And.intro @st_nilc (And.intro @box_slc (And.intro @al_i64 (And.intro @al_sl (And.intro @st_slc (And.intro @ld_i64 (@ld_sl1))))))))))))))))))))))))))))))))))))))))))))))))))))))))))))
set_option linter.defProp false in
def LM8:=And.intro LB1 (LB2)
def gu:AV:=.ifc 203 (.agg [])
theorem zfB (q:List Nat):gu.ren q=some gu:=rfl
def zbL (l:List Nd) (p:Nat):Option Nd:=match l[p]? with
 | some n=>if zbt n then some n else none
 | none=>none
def zfd (l:List Nd) (p:Nat):AEnd:=match zbL l p with
 | some n=>.ret (nA n)
 | none=>.pan gu
abbrev rdS (l:List Nd) (es:List Int) (d:Int):zab:=[.rw (rdC l 1 l.length d),.rw (es.map i64)]
theorem zfe {l:List Nd} {es:List Int} {d:Int} {r:AV} {junk:zab} {K:AV→zab→Prop} (hr:r.ren [0,1]=some r) (h:K r (rdS l es d)):endQ 2 r (.rw (rdC l 1 l.length d)::.rw (es.map i64)::junk) K:=by
 refine .inl ⟨[0,1],r,rdS l es d,rfl,rfl,by decide,hr,?_,h⟩
 simp [zah,zaL,zd3,zey]
theorem node_ok (l:List Nd) (es:List Int) (d:Int) (p:Nat) (hl:l.length≤1000) (hp:p≤1000):ACalls Tryz.prog 112 [.ptr 0 0,i64 p] (rdS l es d) (fun y σ=>y=zfd l p∧σ=rdS l es d):=by
 refine ACalls.body T_ok Tryz.func112 (by kernel_rfl) rfl Tryz.ntmps112 (congrArg Array.toList Tryz.results112) ?_
 refine aQ26 ?_
 by_cases h:l.length≤p
 ·rw [decide_eq_true (by omega:(l.length:Int)≤p)]
  refine aQ26 ?_
  have hn:zfd l p=.pan gu:=by
   simp only [zfd,zbL,List.getElem?_eq_none h]
  rw [hn]
  exact zfe (zfB _) ⟨rfl,rfl⟩
 ·rw [decide_eq_false (by omega:¬ (l.length:Int)≤p)]
  refine aQ26 ?_
  repeat (with_reducible refine And.intro aQ15 ?_)
  refine(alone_ok (l.getD p n0d)).pure aQ16 ?_
  rintro _ σ rfl
  refine⟨by first | rfl | simp [AEnd.noid,AV.ren,renL,zaP,zaG str zar,zba,zaZ,za3,zaq,zaU,zar],?_⟩
  refine aQ26 ?_
  have hg:l[p]?=some (l.getD p n0d):=by
   rw [List.getElem?_eq_getElem (by omega)]
   simp [show p < l.length by omega]
  cases ha:zbt (l.getD p n0d) with
  | true =>
   refine aQ26 ?_
   repeat (with_reducible refine And.intro aQ15 ?_)
   have hn:zfd l p=.ret (nA (l.getD p n0d)):=by
    simp only [zfd,zbL,hg,ha,if_true]
   rw [hn]
   exact zfe (ren_nA _ _) ⟨rfl,rfl⟩
  | false =>
   refine aQ26 ?_
   have hn:zfd l p=.pan gu:=by
    simp only [zfd,zbL,hg,ha,Bool.false_eq_true,if_false]
   rw [hn]
   exact zfe (zfB _) ⟨rfl,rfl⟩
def keyK (l:List Nd) (es:List Int) (d:Int) (p:Nat) (first:Bool) (last:List UInt8):AEnd→zab→Prop:=fun y σ =>
 match zbL l p with
 | some n=>if n.kind=3∧(first=true∨leB n.text last=false) then y=.ret (str n.text)∧σ=rdS l (es.set p (p+1)) d else y=.pan gu∧σ=rdS l es d
 | none=>y=.pan gu∧σ=rdS l es d
theorem zbj {l:List Nd} {p:Nat} {n:Nd} (h:zbL l p=some n):p < l.length∧l[p]?=some n∧zbt n=true:=by
 unfold zbL at h
 split at h
 ·rename_i n' hn
  split at h
  ·rename_i ha
   cases h
   exact⟨(List.getElem?_eq_some_iff.1 hn).1,hn,ha⟩
  ·cases h
 ·cases h
theorem zij {f:FuncId} {ags:List AV} {l:List Nd} {es:List Int} {d:Int} {n:Nd} {K K0:AEnd→zab→Prop} (h:ACalls Tryz.prog f ags (rdS l es d) K0) (has:renL [0,1] ags=some ags)
  (hk:∀ y σ,K0 y σ→∃ es' d',σ=rdS l es' d'∧AEnd.ren [0,1,2] y y∧K y [.rw (rdC l 1 l.length d'),.rw (es'.map i64),.rw (nC n)]):ACalls Tryz.prog f ags [.rw (rdC l 1 l.length d),.rw (es.map i64),.rw (nC n)] K:=by
 refine ACalls.frame [0,1] h rfl (by decide) (by simp [zah,zaL,zd3,zey]) has ?_
 rintro y σ hy
 obtain⟨es',d',rfl,hr,hK⟩:=hk y σ hy
 refine⟨y,_,?_,hr,hK⟩
 show zad _ _ [0,1,2] [0,1,2] 0 _
 simp [zad,zaL,zd3,zey,zdg]
theorem key_ok (l:List Nd) (es:List Int) (d:Int) (p:Nat) (first:Bool) (last:List UInt8) (hl:l.length≤1000) (hp:p≤1000) (he:es.length=l.length):ACalls Tryz.prog 113 [.ptr 0 0,i64 p,bl first,str last] (rdS l es d) (keyK l es d p first last):=by
 refine ACalls.body T_ok Tryz.func113 (by kernel_rfl) rfl Tryz.ntmps113 (congrArg Array.toList Tryz.results113) ?_
 refine aQ26 ?_
 refine(node_ok l es d p hl hp).mono ?_
 rintro y σ ⟨rfl,rfl⟩
 cases hn:zbL l p with
 | none =>
  have hnk:zfd l p=.pan gu:=by simp only [zfd,hn]
  rw [hnk]
  refine aQ26 ?_
  exact zau (by simp only [keyK,hn];exact⟨trivial,trivial⟩)
 | some n =>
  have hnk:zfd l p=.ret (nA n):=by simp only [zfd,hn]
  obtain⟨hlt,hget,ha⟩:=zbj hn
  rw [hnk]
  refine aQ26 ?_
  have bad : ¬ (n.kind = 3 ∧ (first = true ∨ leB n.text last = false)) → endQ 2 gu [.rw (rdC l 1 l.length d), .rw (es.map i64), .rw (nC n)] (fun r σ' => keyK l es d p first last (.pan r) σ') := fun hb =>
   zfe (zfB _) (by simp only [keyK,hn,if_neg hb];exact⟨trivial,trivial⟩)
  have good : (n.kind = 3 ∧ (first = true ∨ leB n.text last = false)) → endQ 2 (str n.text) [.rw (rdC l 1 l.length d), .rw ((es.set p (p + 1)).map i64), .rw (nC n)] (fun r σ' => keyK l es d p first last (.ret r) σ') := fun hb =>
   zfe (zar _ _) (by simp only [keyK,hn,if_pos hb];exact⟨trivial,trivial⟩)
  by_cases h3:n.kind=3
  ·rw [decide_eq_true h3]
   refine aQ26 ?_
   cases first with
   | true =>
    refine aQ26 ?_
    repeat (with_reducible refine And.intro aQ15 ?_)
    exact good ⟨h3,.inl rfl⟩
   | false =>
    refine aQ26 ?_
    have e:(Op.bytesLess n.text last || decide (n.text=last))=leB n.text last:=rfl
    rw [e]
    cases hle:leB n.text last with
    | true =>
     refine aQ26 ?_
     exact bad (by simp [hle])
    | false =>
     refine aQ26 ?_
     repeat (with_reducible refine And.intro aQ15 ?_)
     exact good ⟨h3,.inr hle⟩
  ·rw [decide_eq_false h3]
   refine aQ26 ?_
   exact bad (fun h=>h3 h.1)
end Go.Proofs.YtnghkomgefieoaaGreatDoor
end

section
namespace Go.Proofs.YtnghkomgefieoaaGreatDoor
open Go Go.Eng
set_option linter.defProp false in
def LB3:=And.intro @zba (And.intro @zaZ (And.intro @za3 (And.intro @zaq (And.intro @zaU (And.intro @zar ((zaG i64 zaq)))))))
set_option linter.defProp false in
def LB4:=And.intro @leR_bot (And.intro @leR_u8 (And.intro @leR_u32 (And.intro @leR_u64 (And.intro @leR_i64 (And.intro @leR_bl (And.intro @leR_str (And.intro @zfb (And.intro @leR_nil (And.intro @leR_cons (And.intro (zaG u8 zba) (And.intro (zaG u32 zaZ) (And.intro @keepB_nil (And.intro @keepB_dead (And.intro (zaG u64 za3) (And.intro @u32_inj (And.intro @u64_inj (And.intro @u8_inj (And.intro @i64_inj (And.intro @bl_inj (@str_inj))))))))))))))))))))
set_option linter.defProp false in
def LM10:=And.intro LB3 (LB4)
def zgn (l:List Nd) (es:List Int) (d:Int) (p:Nat) (depth:Int):AEnd→zab→Prop:=fun y σ =>
 match vl l p with
 | some r=>y=.ret (i64 r.1)∧σ=rdS l (updE l es p r.1) (max d (depth+r.2 - 1))
 | none=>y=.pan gu∧∃ es' d',es'.length=es.length∧σ=rdS l es' d'
def zgb (d depth:Int) (dk:Nat):Int:=max (max d depth) (depth+dk)
def zfC (mp:Bool) (k:Nat) (last:List UInt8):Option (List UInt8):=if mp && decide (0 < k) then some last else none
theorem kidsF_map {V:Nat→Option (Nat × Nat)} {l:List Nd} {c:Nat} {last:Option (List UInt8)} {e d:Nat}:zck V l true (c+1) last e d=match zbL l e with
  | some n=>if n.kind=3∧aftB last n.text=true then (match V (e+1) with | some r=>zck V l true c (some n.text) r.1 (max d r.2) | none=>none) else none
  | none=>none:=by
 simp only [zck,zbL,if_true]
 cases l[e]? with
 | none=>rfl
 | some n =>
  simp only
  cases zbt n with
  | false=>simp
  | true =>
   simp only [reduceIte,Bool.true_and]
   by_cases h3:n.kind=3 <;> by_cases hb:aftB last n.text=true
   ·rw [if_pos (⟨h3,hb⟩:n.kind=3∧aftB last n.text=true)]
    simp only [h3,decide_true,hb,Bool.and_self,if_true]
    try (cases V (e+1) <;> rfl)
   ·rw [if_neg (fun h:n.kind=3∧aftB last n.text=true=>hb h.2)]
    simp [hb]
   ·rw [if_neg (fun h:n.kind=3∧aftB last n.text=true=>h3 h.1)]
    simp [h3]
   ·rw [if_neg (fun h:n.kind=3∧aftB last n.text=true=>h3 h.1)]
    simp [h3]
theorem zhU {V:Nat→Option (Nat × Nat)} {l:List Nd} {c:Nat} {last:Option (List UInt8)} {e d:Nat}:zck V l false (c+1) last e d=match V e with | some r=>zck V l false c last r.1 (max d r.2) | none=>none:=by
 simp only [zck,Bool.false_eq_true,if_false]
 try (cases V e <;> rfl)
theorem updE_key {l:List Nd} {es:List Int} {e:Nat} {k:Nd} (hk:zbL l e=some k) (h3:k.kind=3):es.set e ((e:Int)+1)=updE l es e (e+1):=by
 obtain⟨_,h1,h2⟩:=zbj hk
 have he:zhe l e=(e:Int)+1:=by
  simp only [zhe,vl_text h1 h2 h3]
  omega
 have:=updE_set l es (a:=e) (b:=e+1) (by omega)
 rw [updE_none,he] at this
 exact this
theorem zhf {l:List Nd} {p:Nat}:vl l p=match zbL l p with
  | some n=>(zck (vl l) l (decide (n.kind=5)) n.kids.toNat none (p+1) 0).map fun r=>(r.1,r.2+1)
  | none=>none:=by
 rw [vl_eq,zbL]
 cases l[p]? with
 | none=>rfl
 | some n=>cases h:zbt n <;> simp [h]
theorem value_ok (l:List Nd) (hl:l.length≤120):∀ (m p:Nat) (depth:Int) (es:List Int) (d:Int),l.length - p=m→p≤l.length→0≤depth→depth≤p+1→es.length=l.length →
  ACalls Tryz.prog 76 [.ptr 0 0,i64 p,i64 depth] (rdS l es d) (zgn l es d p depth):=by
 intro m
 induction m using Nat.strongRecOn with
 | _ m ih =>
 intro p depth es d hm hp hd0 hd he
 refine ACalls.body T_ok Tryz.func76 (by kernel_rfl) rfl Tryz.ntmps76 (congrArg Array.toList Tryz.results76) ?_
 refine aQ26 ?_
 refine(node_ok l es d p (by omega) (by omega)).mono ?_
 rintro y σ ⟨rfl,rfl⟩
 cases hn:zbL l p with
 | none =>
  have hnk:zfd l p=.pan gu:=by simp only [zfd,hn]
  rw [hnk]
  refine aQ26 ?_
  refine zau ?_
  simp only [zgn,zhf,hn]
  exact⟨trivial,es,d,rfl,rfl⟩
 | some n =>
  have hnk:zfd l p=.ret (nA n):=by simp only [zfd,hn]
  obtain⟨hlt,hget,ha⟩:=zbj hn
  rw [hnk]
  refine aQ26 ?_
  repeat (with_reducible refine And.intro aQ15 ?_)
  have hk0:=zf9 ha
  obtain⟨c,hc⟩:∃ c,n.kids.toNat=c:=⟨_,rfl⟩
  have hkc:n.kids=c:=by omega
  obtain⟨mp,hmp⟩:∃ mp,decide (n.kind=5)=mp:=⟨_,rfl⟩
  obtain⟨R,hR⟩:∃ R,zck (vl l) l mp c none (p+1) 0=R:=⟨_,rfl⟩
  have hvl:vl l p=R.map fun r=>(r.1,r.2+1):=by rw [zhf,hn];simp only [hmp,hc,hR]
  have fail : ∀ (es' : List Int) (d' : Int), es'.length = es.length → R = none → endQ 2 gu [.rw (rdC l 1 l.length d'), .rw (es'.map i64), .rw (nC n)] (fun r σ' => zgn l es d p depth (.pan r) σ') := fun es' d' he' hRn =>
   zfe (zfB _) (by simp only [zgn,hvl,hRn,Option.map_none];exact⟨trivial,es',d',he',rfl⟩)
  rw [za6]
  refine⟨Nat × List UInt8 × Nat × Nat,fun i=>i.1≤c∧p+1+i.1≤i.2.2.1∧i.2.2.1≤l.length∧R=zck (vl l) l mp (c - i.1) (zfC mp i.1 i.2.1) i.2.2.1 i.2.2.2,fun i=>[.ptr 0 0,i64 p,i64 depth,.bot,.bot,.bot,i64 0,.ptr 2 0,i64 i.2.2.1,str i.2.1,.bot,.bot,.bot,.bot,.bot,.bot,.bot,.bot,.bot,.bot,.bot,.bot,.bot,.bot,.bot,.bot,i64 c,i64 i.1,.bot,.bot,.bot,.bot,.bot,.bot,.bot,.bot,.bot,.bot,.bot,.bot,.bot,.bot,.bot,.bot,.bot,.bot,.bot,.bot,.bot,.bot,.bot,.bot,.bot,.bot,.bot],fun i=>[.rw (rdC l 1 l.length (zgb d depth i.2.2.2)),.rw ((updE l es (p+1) i.2.2.1).map i64),.rw (nC n)],fun i=>c - i.1,(0,[],p+1,0),⟨Nat.zero_le _,(by show p+1+0≤p+1;omega),by (show p+1≤l.length);omega,by simp [zfC,hR]⟩,?_,?_⟩
  ·simp only [zgb,updE_none]
   rw [show max (max d depth) (depth+(0:Nat))=max d depth by omega,hkc]
   refine zak (q:=[0,1,2]) rfl rfl (by decide) ?_ ?_
   ·refine aQ27 ?_
    try simp
   ·refine aQ27 ?_
    simp [zah,zaL,zd3,zey,zdg]
  rintro⟨k,last,e,dk⟩ ⟨hk,hpe,hel,hinv⟩
  dsimp only at hk hpe hel hinv ⊢
  refine aQ26 ?_
  refine⟨fun hlt=>⟨fun h5=>?_,fun h5=>?_⟩,fun hge=>?_⟩
  ·have hmpv:mp=true:=by rw [← hmp];exact decide_eq_true h5
   have hck:c - k=(c - k - 1)+1:=by omega
   rw [hmpv,hck,kidsF_map] at hinv
   refine zij (key_ok l (updE l es (p+1) e) (zgb d depth dk) e (decide ((k:Int)=0)) last (by omega) (by omega) (by simp [zcV,he])) (by simp [renL,AV.ren,zaq,zaU,zar]) ?_
   intro y σ hy
   unfold keyK at hy
   cases hne:zbL l e with
   | none =>
    rw [hne] at hy hinv
    obtain⟨rfl,rfl⟩:=hy
    refine⟨_,_,rfl,zfB _,?_⟩
    refine aQ26 ?_
    exact fail _ _ (by simp [zcV]) hinv
   | some k' =>
    rw [hne] at hy hinv
    dsimp only at hy hinv
    have hcond:aftB (zfC true k last) k'.text=true ↔ (decide ((k:Int)=0)=true∨leB k'.text last=false):=by
     simp only [zfC,Bool.true_and,decide_eq_true_eq]
     by_cases hk0:k=0
     ·simp [hk0,aftB]
     ·have hkp:0 < k:=by omega
      simp only [hkp,if_true,aftB,Bool.not_eq_true',show ¬ (k:Int)=0 by omega,false_or]
    simp only [hcond] at hinv
    by_cases hb:k'.kind=3∧(decide ((k:Int)=0)=true∨leB k'.text last=false)
    rotate_left
    ·rw [if_neg hb] at hy hinv
     obtain⟨rfl,rfl⟩:=hy
     refine⟨_,_,rfl,zfB _,?_⟩
     refine aQ26 ?_
     exact fail _ _ (by simp [zcV]) hinv
    rw [if_pos hb] at hy hinv
    obtain⟨rfl,rfl⟩:=hy
    have hel':=(zbj hne).1
    have e0:=updE_key (es:=updE l es (p+1) e) hne hb.1
    rw [e0,zga l es (by omega) (by omega)]
    refine⟨_,_,rfl,zar _ _,?_⟩
    refine aQ26 ?_
    repeat (with_reducible refine And.intro aQ15 ?_)
    rw [show (e:Int)+1=((e+1:Nat):Int) from rfl]
    refine zij (ih (l.length - (e+1)) (by omega) (e+1) (depth+1) (updE l es (p+1) (e+1)) (zgb d depth dk) rfl (by omega) (by omega) (by omega) (by simp [zcV,he])) (by simp [renL,AV.ren,zaq]) ?_
    intro y σ hy
    unfold zgn at hy
    cases hv:vl l (e+1) with
    | none =>
     rw [hv] at hy
     obtain⟨rfl,es',d',he',rfl⟩:=hy
     refine⟨es',d',rfl,zfB _,?_⟩
     refine aQ26 ?_
     exact fail _ _ (by rw [he'];simp [zcV]) (by rw [hv] at hinv;dsimp only at hinv;rw [hinv])
    | some r =>
     rw [hv] at hy
     obtain⟨rfl,rfl⟩:=hy
     have hrl:=zdh hv
     refine⟨_,_,rfl,zaq _ _,?_⟩
     refine aQ26 ?_
     repeat (with_reducible refine And.intro aQ15 ?_)
     rw [zam]
     refine⟨(k+1,k'.text,r.1,max dk r.2),⟨by (show k+1≤c);omega,by (show p+1+(k+1)≤r.1);omega,hrl.2,?_⟩,by (show c - (k+1) < c - k);omega,?_⟩
     ·dsimp only
      rw [hv] at hinv;dsimp only at hinv;rw [hinv]
      simp only [zfC,hmpv,show c - k - 1=c - (k+1) by omega]
      try simp
     ·have e1:max (zgb d depth dk) (depth+1+(r.2:Int) - 1)=zgb d depth (max dk r.2):=by simp only [zgb];omega
      have e2:updE l (updE l es (p+1) (e+1)) (e+1) r.1=updE l es (p+1) r.1:=by exact zga l es (by omega) (by omega)
      rw [e1,e2]
      refine zak (q:=[0,1,2]) rfl rfl (by decide) ?_ ?_
      ·refine aQ27 ?_
       try simp
      ·refine aQ27 ?_
       simp [zah,zaL,zd3,zey,zdg]
  ·have hmpv:mp=false:=by rw [← hmp];exact decide_eq_false h5
   have hck:c - k=(c - k - 1)+1:=by omega
   rw [hmpv,hck,zhU] at hinv
   repeat (with_reducible refine And.intro aQ15 ?_)
   refine zij (ih (l.length - (e)) (by omega) (e) (depth+1) (updE l es (p+1) e) (zgb d depth dk) rfl (by omega) (by omega) (by omega) (by simp [zcV,he])) (by simp [renL,AV.ren,zaq]) ?_
   intro y σ hy
   unfold zgn at hy
   cases hv:vl l (e) with
   | none =>
    rw [hv] at hy
    obtain⟨rfl,es',d',he',rfl⟩:=hy
    refine⟨es',d',rfl,zfB _,?_⟩
    refine aQ26 ?_
    exact fail _ _ (by rw [he'];simp [zcV]) (by rw [hv] at hinv;dsimp only at hinv;rw [hinv])
   | some r =>
    rw [hv] at hy
    obtain⟨rfl,rfl⟩:=hy
    have hrl:=zdh hv
    refine⟨_,_,rfl,zaq _ _,?_⟩
    refine aQ26 ?_
    repeat (with_reducible refine And.intro aQ15 ?_)
    rw [zam]
    refine⟨(k+1,last,r.1,max dk r.2),⟨by (show k+1≤c);omega,by (show p+1+(k+1)≤r.1);omega,hrl.2,?_⟩,by (show c - (k+1) < c - k);omega,?_⟩
    ·dsimp only
     rw [hv] at hinv;dsimp only at hinv;rw [hinv]
     simp only [zfC,hmpv,show c - k - 1=c - (k+1) by omega]
     try simp
    ·have e1:max (zgb d depth dk) (depth+1+(r.2:Int) - 1)=zgb d depth (max dk r.2):=by simp only [zgb];omega
     have e2:updE l (updE l es (p+1) e) (e) r.1=updE l es (p+1) r.1:=by exact zga l es (by omega) (by omega)
     rw [e1,e2]
     refine zak (q:=[0,1,2]) rfl rfl (by decide) ?_ ?_
     ·refine aQ27 ?_
      try simp
     ·refine aQ27 ?_
      simp [zah,zaL,zd3,zey,zdg]
  ·have hck:c - k=0:=by omega
   rw [hck] at hinv
   simp only [zck] at hinv
   have hend:zhe l p=e:=by simp only [zhe,hvl,hinv,Option.map_some]
   refine aQ26 ?_
   repeat (with_reducible refine And.intro aQ15 ?_)
   have e1:=updE_set l es (a:=p) (b:=e) (by omega)
   rw [hend] at e1
   refine⟨by simp [zcV];omega,?_⟩
   rw [e1]
   refine zfe (zaq _ _) ?_
   simp only [zgn,hvl,hinv,Option.map_some]
   have e2:zgb d depth dk=max d (depth+((dk+1:Nat):Int) - 1):=by simp only [zgb];omega
   rw [e2]
   exact⟨trivial,rfl⟩
end Go.Proofs.YtnghkomgefieoaaGreatDoor
end

section
namespace Go.Proofs.YtnghkomgefieoaaGreatDoor
open Go Go.Eng
set_option linter.defProp false in
def LB5:=And.intro @leI_nil (And.intro @leI_bot (And.intro @leI_same (@leI_cons)))
theorem long1_ok (n:Nd):ACalls Tryz.prog 74 [nA n] [] (fun y _=>y=.ret (bl (decide (120 < n.text.length)))):=by
 refine ACalls.body T_ok Tryz.func74 (by kernel_rfl) rfl Tryz.ntmps74 (congrArg Array.toList Tryz.results74) ?_
 refine aQ26 ?_
 refine za0 ?_
 rw [show decide ((120:Int) < n.text.length)=decide (120 < n.text.length) from decide_eq_decide.2 (by omega)]
theorem indexN_ok (l:List Nd) (hl:l.length≤1000000):ACalls Tryz.prog 111 [.sl (l.flatMap nC) l.length,.fn (.func 74) [] []] [] (fun y _=>∃ k:Int,y=.ret (i64 k)∧(0≤k ↔ ∃ n∈l,120 < n.text.length)):=by
 refine ACalls.body T_ok Tryz.func111 (by kernel_rfl) rfl Tryz.ntmps111 (congrArg Array.toList Tryz.results111) ?_
 refine aQ26 ?_
 rw [za6]
 refine⟨Nat,fun k=>k≤l.length∧∀ n∈l.take k,¬ 120 < n.text.length,fun k=>[.sl (l.flatMap nC) l.length,.fn (.func 74) [] [],.bot,.bot,i64 0,.bot,.sl (l.flatMap nC) l.length,i64 l.length,i64 k,.bot,.bot,.bot,.bot,.bot,.bot,.bot,.bot,.bot,.bot],fun _=>[],fun k=>l.length - k,0,⟨Nat.zero_le _,by simp⟩,?_,?_⟩
 ·refine zak (q:=[]) rfl rfl (by decide) ?_ ?_
  ·refine aQ27 ?_
   simp [zbF,AV.ren,renL]
  ·first|exact aQ27 trivial|refine aQ27 ?_
 ·rintro k ⟨hk,hno⟩
  refine aQ26 ?_
  refine⟨fun hlt=>?_,fun hge=>?_⟩
  ·repeat (with_reducible refine And.intro aQ15 ?_)
   have hlk:k < l.length:=by omega
   have hg:l.getD k n0d=l[k]:=by simp [hlk]
   refine(long1_ok (l.getD k n0d)).pure aQ16 ?_
   rintro _ σ rfl
   refine⟨by first | rfl | simp [AEnd.noid,AV.ren,renL,zaP,zaG str zar,zba,zaZ,za3,zaq,zaU,zar],?_⟩
   refine aQ26 ?_
   refine⟨fun hlong=>?_,fun hlong=>?_⟩
   ·exact zgA ⟨k,rfl,fun _=>⟨l.getD k n0d,by rw [hg];exact List.getElem_mem _,hlong⟩,fun _=>by omega⟩
   ·repeat (with_reducible refine And.intro aQ15 ?_)
    rw [zam]
    refine⟨k+1,⟨by omega,?_⟩,by (show l.length - (k+1) < l.length - k);omega,zak (q:=[]) rfl rfl (by decide) ?_ ?_⟩
    ·intro n hn
     rw [List.take_succ_eq_append_getElem hlk,List.mem_append,List.mem_singleton] at hn
     rcases hn with hn | rfl
     ·exact hno n hn
     ·rw [← hg];exact hlong
    ·refine aQ27 ?_
     simp [zbF,AV.ren,renL]
    ·first|exact aQ27 trivial|refine aQ27 ?_
  ·refine aQ26 ?_
   refine zgA ⟨-1,rfl,fun h=>by omega,?_⟩
   rintro⟨n,hn,h⟩
   rw [List.take_of_length_le (by omega)] at hno
   exact absurd h (hno n hn)
def zez (l:List Nd):Bool:=l.any fun n=>decide (120 < n.text.length)
theorem containsN_ok (l:List Nd) (hl:l.length≤1000000):ACalls Tryz.prog 73 [.sl (l.flatMap nC) l.length,.fn (.func 74) [] []] [] (fun y _=>y=.ret (bl (zez l))):=by
 refine ACalls.body T_ok Tryz.func73 (by kernel_rfl) rfl Tryz.ntmps73 (congrArg Array.toList Tryz.results73) ?_
 refine aQ26 ?_
 refine(indexN_ok l hl).pure (by simp [renL,AV.ren,zbF]) ?_
 rintro _ σ ⟨k,rfl,hk⟩
 refine⟨zaq _ _,?_⟩
 refine aQ26 ?_
 have e:decide (0≤k)=zez l:=by
  rw [Bool.eq_iff_iff,decide_eq_true_eq,hk,zez,List.any_eq_true]
  simp
 rw [e]
 exact za0 rfl
def zbk (l:List Nd):Int :=
 if 120 < l.length∨zez l=true then 4 else
 match vl l 0 with
 | some r=>if r.1=l.length then (if 32 < r.2 then 3 else 0) else 1
 | none=>1
def endsL (l:List Nd):List Int:=(List.range l.length).map (zhe l)
def readK (l:List Nd):AEnd→zab→Prop:=fun y σ =>
 if zbk l=0 then ∃ r,vl l 0=some r∧r.1=l.length∧r.2≤32∧y=.ret (.tup [.ref 0 0 l.length 1,i64 r.2,i64 0])∧σ=[.rw ((endsL l).map i64)]
 else y=.ret (.tup [.lit (.slice none 0 0),i64 0,i64 (zbk l)])∧σ=[]
theorem recN_ok (a b c:AV) (σ:zab) (K:zab→Prop) (h:K (.rw [a]::.rw [b]::.rw [c]::σ)):DCalls Tryz.prog 75 [.ptr 0 0,.ptr 1 0,.ptr 2 0] (.rw [a]::.rw [b]::.rw [c]::σ) none K:=by
 refine DCalls.body (b:=false) T_ok Tryz.func75 rfl Tryz.ntmps75 Tryz.results75 rfl ?_ ?_
 ·refine aQ26 ?_
  exact⟨rfl,rfl,rfl⟩
 ·refine aQ26 ?_
  exact h
theorem recP_ok (a b c:AV) (σ:zab) (K:zab→Prop) (h:K (.rw [.lit (.slice none 0 0)]::.rw [i64 0]::.rw [i64 1]::σ)):DCalls Tryz.prog 75 [.ptr 0 0,.ptr 1 0,.ptr 2 0] (.rw [a]::.rw [b]::.rw [c]::σ) (some gu) K:=by
 refine DCalls.body (b:=true) T_ok Tryz.func75 rfl Tryz.ntmps75 Tryz.results75 rfl ?_ ?_
 ·refine aQ26 ?_
  exact⟨rfl,rfl,rfl⟩
 ·refine aQ26 ?_
  exact h
def readT:Tr:=(.br 0 (.br 1 (.br 2 (.br 3 (.br 4 (.br 5 (.br 6 .done .nil) .nil) .nil) (.br 4 (.br 3 (.br 5 (.br 6 .done .nil) .nil) .nil) .nil)) (.br 4 (.br 2 (.br 3 (.br 5 (.br 6 .done .nil) .nil) .nil) .nil) .nil)) (.br 2 (.br 1 (.br 3 (.br 4 (.br 5 (.br 6 .done .nil) .nil) .nil) (.br 4 (.br 3 (.br 5 (.br 6 .done .nil) .nil) .nil) .nil)) (.br 3 (.br 1 (.br 4 (.br 5 (.br 6 .done .nil) .nil) .nil) .nil) .nil)) .nil)) (.br 2 (.br 0 (.br 1 (.br 3 (.br 4 (.br 5 (.br 6 .done .nil) .nil) .nil) (.br 4 (.br 3 (.br 5 (.br 6 .done .nil) .nil) .nil) .nil)) (.br 3 (.br 1 (.br 4 (.br 5 (.br 6 .done .nil) .nil) .nil) .nil) .nil)) (.br 3 (.br 0 (.br 1 (.br 4 (.br 5 (.br 6 .done .nil) .nil) .nil) .nil) .nil) .nil)) .nil))
theorem read_ok (l:List Nd) (hl:l.length≤1000000):ACalls Tryz.prog 47 [.sl (l.flatMap nC) l.length] [] (readK l):=by
 refine ACalls.bodyD T_ok Tryz.func47 (by kernel_rfl) rfl Tryz.ntmps47 (congrArg Array.toList Tryz.results47) ?_
 rw [WD_none rfl]
 refine aQ26 ?_
 rw [WD_none rfl]
 refine aQ26 ?_
 have err : ∀ (e : Int) (σ : zab), zbk l = e → e ≠ 0 → endQ 0 (.tup [.lit (.slice none 0 0), i64 0, i64 e]) σ (fun r σ' => readK l (.ret r) σ') := fun e σ h1 h2 =>
  zaz (by simp [AV.ren,renL,zaq]) (by simp only [readK,h1,if_neg h2];exact⟨trivial,trivial⟩)
 by_cases hlen:120 < l.length
 ·rw [decide_eq_true (by omega:(120:Int) < l.length)]
  refine aQ26 ?_
  exact err 4 _ (by simp [zbk,hlen]) (by decide)
 rw [decide_eq_false (by omega:¬ (120:Int) < l.length)]
 refine aQ26 ?_
 refine(containsN_ok l hl).pure (by simp [renL,AV.ren,zbF]) ?_
 rintro _ σ rfl
 refine⟨zaU _ _,?_⟩
 refine aQ26 ?_
 cases hany:zez l with
 | true =>
  refine aQ26 ?_
  exact err 4 _ (by simp [zbk,hany]) (by decide)
 | false =>
  refine aQ26 ?_
  rw [WD_some rfl]
  refine aQ26 ?_
  refine⟨by kernel_rfl,?_⟩
  refine aQ26 ?_
  repeat (with_reducible refine And.intro aQ15 ?_)
  rw [show List.replicate l.length (i64 0)=(List.replicate l.length (0:Int)).map i64 by simp,show [AV.sl (l.flatMap nC) l.length,.ref 3 0 l.length 1,i64 0]=rdC l 3 l.length 0 from rfl]
  refine ACalls.frame [4,3] (value_ok l (by omega) (l.length - 0) 0 1 (List.replicate l.length 0) 0 rfl (by omega) (by omega) (by omega) (by simp)) rfl (by decide) (by simp [zah,zaL,zd3,zey,-List.map_replicate]) (by simp [renL,AV.ren,zaq]) ?_
  have kf:∀ es' d',zad [Blk.rw [AV.lit (Value.slice none 0 0)],Blk.rw [i64 0],Blk.rw [i64 0],Blk.rw ((List.replicate l.length (0:Int)).map i64),Blk.rw (rdC l 3 l.length 0)] (rdS l es' d') [2,2,2,1,0] [2,2,2,1,0] 0 [Blk.rw [AV.lit (Value.slice none 0 0)],Blk.rw [i64 0],Blk.rw [i64 0],Blk.rw (es'.map i64),Blk.rw (rdC l 3 l.length d')]:=by
   intro es' d'
   simp [zad,zaL,zd3,zey,-List.map_replicate]
  intro y σ1 hy
  unfold zgn at hy
  cases hv:vl l 0 with
  | none =>
   rw [hv] at hy
   obtain⟨rfl,es',d',-,rfl⟩:=hy
   refine⟨.pan gu,_,kf es' d',zfB _,?_⟩
   refine aQ26 ?_
   refine recP_ok _ _ _ _ _ ?_
   refine aQ26 ?_
   exact err 1 _ (by simp [zbk,hlen,hany,hv]) (by decide)
  | some r =>
   rw [hv] at hy
   obtain⟨rfl,rfl⟩:=hy
   have hrl:=zdh hv
   refine⟨.ret (i64 r.1),_,kf _ _,zaq _ _,?_⟩
   refine aQ26 ?_
   refine⟨fun hne=>?_,fun heq=>?_⟩
   ·refine recN_ok _ _ _ _ _ ?_
    refine aQ26 ?_
    exact err 1 _ (by simp [zbk,hlen,hany,hv,show ¬ r.1=l.length by omega]) (by decide)
   have hd:max (0:Int) (1+r.2 - 1)=r.2:=by omega
   rw [hd]
   refine⟨fun hgt=>?_,fun hle=>?_⟩
   ·refine recN_ok _ _ _ _ _ ?_
    refine aQ26 ?_
    exact err 3 _ (by simp [zbk,hlen,hany,hv,show r.1=l.length by omega,show 32 < r.2 by omega]) (by decide)
   refine W_drawT readT ([.bot,.bot,.ptr 0 0,.ptr 1 0,.ptr 2 0,.bot,.bot,.bot,.bot,.bot,.bot,.bot,.bot,.bot,.bot,.bot,.bot,.bot,.bot,.bot,.bot,.bot,.bot,.bot,.bot,.bot,.bot,.bot,.bot,.bot]) [.rw [.ref 3 0 l.length 1],.rw [i64 r.2],.rw [i64 0],.rw ((updE l (List.replicate l.length 0) 0 r.1).map i64),.rw (rdC l 3 l.length r.2)] (by kernel_rfl) (by kernel_rfl) ?_ ?_
   ·unfold readT
    refine aQ26 ?_
    repeat' (with_reducible refine And.intro ?_ ?_)
    all_goals
     refine zcN ?_
     first|exact aQ28 trivial|refine aQ28 ?_
   refine aQ26 ?_
   refine recN_ok _ _ _ _ _ ?_
   refine aQ26 ?_
   have hne:zbk l=0:=by simp [zbk,hlen,hany,hv,show r.1=l.length by omega,show ¬ 32 < r.2 by omega]
   have hends:updE l (List.replicate l.length 0) 0 r.1=endsL l:=by
    apply List.ext_getElem?
    intro i
    simp only [updE,endsL,List.getElem?_mapIdx,List.getElem?_map,List.getElem?_replicate,show r.1=l.length by omega,List.getElem?_range']
    by_cases hi:i < l.length
    ·simp [hi]
    ·simp [hi,List.getElem?_eq_none]
   rw [hends]
   refine .inl ⟨[3],.tup [.ref 0 0 l.length 1,i64 r.2,i64 0],[.rw ((endsL l).map i64)],rfl,rfl,by decide,by simp [AV.ren,renL,zaq],?_,?_⟩
   ·simp [zah,zaL,zey]
   ·simp only [readK,hne,if_true]
    exact⟨r,hv,by omega,by omega,by first | rfl | trivial,by first | rfl | trivial⟩
end Go.Proofs.YtnghkomgefieoaaGreatDoor
end

section
namespace Go.Proofs.YtnghkomgefieoaaGreatDoor
open Go Go.Eng
theorem all_N (l:List Nd):(l.flatMap nC).all AV.one=true:=by
 induction l with
 | nil=>rfl
 | cons a l ih=>rw [List.flatMap_cons,List.all_append,all_n,ih];rfl
theorem append_N {ts:Array TypeId} {t t1 e:TypeId} (h0:ts[0]?=some t) (h1:ts[1]?=some t1) (ht:T t=some (tySl e)) (ht1:T t1=some (tySl e)) (he:T e=some tyNd) {id n m:Nat} {l ys:List Nd} {x:AV} {σ:zab} {KS:AV→zab→Prop}
  (hc:σ[id]?=some (.rw (l.flatMap nC))) (hn:n=l.length) (hs:asrc σ 4 x=some (ys.flatMap nC,m)) (hm:m=ys.length) (g2:n+m≤1000000000)
  (hk:KS (.ref σ.length 0 (n+m) 4) (σ.set id .dead++[.rw ((l++ys).flatMap nC)])):zbB T ts (.ref id 0 n 4) x σ KS:=by
 have hd:adst σ 4 (.ref id 0 n 4)=some (l.flatMap nC,n,σ.set id .dead):=by
  simp only [adst,hc,zbD]
  subst hn
  simp
  try (rw [List.take_of_length_le (by rw [zbD];omega)])
 simp only [zbB,h0,h1,Option.bind_some,ht,ht1]
 simp only [tySl,he,show tyNd.size=4 from rfl,hs,hd]
 refine⟨fun k h=>(by cases h),fun h=>(by cases h),tyNd,rfl,?_⟩
 simp only [show tyNd.size=4 from rfl,hs,hd]
 refine⟨rfl,all_N ys,all_N l,by omega,by (show (n+m) * 40≤_);omega,?_⟩
 rw [List.flatMap_append] at hk
 exact hk
theorem asrc_N (σ:zab) (l:List Nd):asrc σ 4 (.sl (l.flatMap nC) l.length)=some (l.flatMap nC,l.length):=by
 simp only [asrc,asl,zbD,Nat.le_refl,if_true]
 rw [List.take_of_length_le (by rw [zbD];omega)]
theorem zao {σ:zab} {KS:AV→zab→Prop} (n:Nd):bs2 (some tyNd) 1 [(0,nA n)] σ KS=KS (.ref σ.length 0 1 4) (σ++[.rw ([n].flatMap nC)]):=by
 simp [bs2,tyNd,zbZ,zb2,AV.cells,nA,nC,za5,List.range_succ,zbQ,zce]
theorem zik (l:List Nd) (hl:l.length≤1000000):ACalls Tryz.prog 33 [.sl (l.flatMap nC) l.length] [] (fun y σ=>y=.ret (i64 (zbk l))∧σ=[]):=by
 refine ACalls.body T_ok Tryz.func33 (by kernel_rfl) rfl Tryz.ntmps33 (congrArg Array.toList Tryz.results33) ?_
 refine aQ29 ?_
 refine(read_ok l hl).mono ?_
 intro y σ hy
 unfold readK at hy
 by_cases h0:zbk l=0
 ·rw [if_pos h0] at hy
  obtain⟨r,hv,h1,h2,rfl,rfl⟩:=hy
  refine aQ29 ?_
  exact zgA ⟨by rw [h0],rfl⟩
 ·rw [if_neg h0] at hy
  obtain⟨rfl,rfl⟩:=hy
  refine aQ29 ?_
  exact zgA ⟨rfl,rfl⟩
theorem checked_ok (l:List Nd) (hl:l.length≤1000000):ACalls Tryz.prog 28 [.sl (l.flatMap nC) l.length] [] (fun y σ=>y=.ret (.tup [.sl ((if zbk l=0 then l else []).flatMap nC) (if zbk l=0 then l else []).length,i64 (zbk l)])∧σ=[]):=by
 refine ACalls.body T_ok Tryz.func28 (by kernel_rfl) rfl Tryz.ntmps28 (congrArg Array.toList Tryz.results28) ?_
 refine aQ29 ?_
 refine(zik l hl).mono ?_
 rintro y σ ⟨rfl,rfl⟩
 refine aQ29 ?_
 refine⟨fun hne=>?_,fun heq=>?_⟩
 ·rw [if_neg hne]
  exact zig [] (.tup [.sl [] 0,i64 (zbk l)]) ⟨_,rfl,_,_,rfl,.inr ⟨rfl,rfl⟩,_,_,rfl,.inl rfl,rfl⟩ ⟨[],_,[],rfl,rfl,by decide,by simp [AV.ren,renL,zaq],trivial,rfl,rfl⟩
 ·rw [if_pos heq,heq]
  exact zaz aQ17 ⟨rfl,rfl⟩
theorem vl_node {l:List Nd} {p:Nat} {r:Nat × Nat} (h:vl l p=some r):∃ n q,zbL l p=some n∧zck (vl l) l (decide (n.kind=5)) n.kids.toNat none (p+1) 0=some q∧r=(q.1,q.2+1):=by
 rw [zhf] at h
 cases hn:zbL l p with
 | none=>rw [hn] at h;cases h
 | some n =>
  rw [hn] at h
  simp only [Option.map_eq_some_iff] at h
  obtain⟨q,h1,h2⟩:=h
  exact⟨n,q,rfl,h1,h2.symm⟩
theorem zeP {l:List Nd} (h:zbk l=0):l.length≤120∧zez l=false∧∃ d,vl l 0=some (l.length,d)∧d≤32:=by
 unfold zbk at h
 split at h
 ·cases h
 ·rename_i hb
  split at h
  ·rename_i r hr
   split at h
   ·rename_i hl
    split at h
    ·cases h
    ·obtain⟨a,b⟩:=r
     dsimp only at *
     subst hl
     refine⟨by omega,?_,b,hr,by omega⟩
     cases ha:zez l with
     | false=>rfl
     | true=>exact absurd (.inr ha) hb
   ·cases h
  ·cases h
theorem Same_ok (a b:List Nd) (ha:a.length≤1000000000000):ACalls Tryz.prog 11 [.sl (a.flatMap nC) a.length,.sl (b.flatMap nC) b.length] [] (fun y σ=>y=.ret (bl (decide (a=b)))∧σ=[]):=by
 refine ACalls.body T_ok Tryz.func11 (by kernel_rfl) rfl Tryz.ntmps11 (congrArg Array.toList Tryz.results11) ?_
 refine aQ29 ?_
 refine⟨fun hne=>?_,fun heq=>?_⟩
 ·refine za0 ⟨?_,rfl⟩
  rw [decide_eq_false (fun h=>hne (by rw [h]))]
 have hl:a.length=b.length:=by omega
 rw [za6]
 refine⟨Nat,fun k=>k≤a.length∧∀ i,i < k→a.getD i n0d=b.getD i n0d,fun k=>[.sl (a.flatMap nC) a.length,.sl (b.flatMap nC) b.length,.bot,.bot,bl false,.bot,.bot,.bot,.bot,.bot,.bot,.bot,i64 a.length,i64 k,.bot,.bot,.bot,.bot,.bot,.bot,.bot,.bot,.bot,.bot,.bot,.bot],fun _=>[],fun k=>a.length - k,0,⟨Nat.zero_le _,fun i hi=>by omega⟩,?_,?_⟩
 ·refine zak (q:=[]) rfl rfl (by decide) ?_ ?_
  ·refine aQ27 ?_
   simp [zbF,AV.ren,renL]
  ·first|exact aQ27 trivial|refine aQ27 ?_
 ·rintro k ⟨hk,hsame⟩
  refine aQ29 ?_
  refine⟨fun hlt=>?_,fun hge=>?_⟩
  ·refine zdG (by kernel_rfl) (by kernel_rfl) ?_
   refine aQ29 ?_
   repeat (with_reducible refine And.intro aQ15 ?_)
   refine⟨fun hne=>?_,fun heq=>?_⟩
   ·refine za0 ⟨?_,rfl⟩
    rw [decide_eq_false (by rintro rfl;exact hne rfl)]
   ·repeat (with_reducible refine And.intro aQ15 ?_)
    rw [zam]
    refine⟨k+1,⟨by omega,fun i hi=>?_⟩,by omega,zak (q:=[]) rfl rfl (by decide) ?_ ?_⟩
    ·rcases Nat.lt_succ_iff_lt_or_eq.1 hi with h | rfl
     ·exact hsame i h
     ·simpa using heq
    ·refine aQ27 ?_
     simp [zbF,AV.ren,renL]
    ·first|exact aQ27 trivial|refine aQ27 ?_
  ·obtain rfl:k=a.length:=by omega
   refine aQ29 ?_
   refine za0 ⟨?_,rfl⟩
   rw [decide_eq_true (List.ext_getElem hl fun i h1 h2=>by have:=hsame i h1;simpa [h1,h2] using this)]
end Go.Proofs.YtnghkomgefieoaaGreatDoor
end

section
namespace Go.Proofs.YtnghkomgefieoaaGreatDoor
open Go Go.Eng
def bK (mp:Bool):Nat:=if mp then 1 else 0
def eAt (l:List Nd) (mp:Bool) (p:Nat):Nat→Nat
 | 0=>p+1
 | k+1=>(zhe l (eAt l mp p k+bK mp)).toNat
def depAt (l:List Nd) (p:Nat):Nat:=match vl l p with
 | some r=>r.2
 | none=>0
def dAt (l:List Nd) (mp:Bool) (p:Nat):Nat→Nat
 | 0=>0
 | k+1=>max (dAt l mp p k) (depAt l (eAt l mp p k+bK mp))
def keyT (l:List Nd) (mp:Bool) (p k:Nat):List UInt8:=(l.getD (eAt l mp p k) n0d).text
theorem zbU {l:List Nd} {p:Nat} {n:Nd} (h:zbL l p=some n):l.getD p n0d=n:=by
 obtain⟨h1,h2,_⟩:=zbj h
 rw [List.getD_eq_getElem?_getD,h2];rfl
theorem kid_step {l:List Nd} {mp:Bool} {p k c:Nat} {q:Nat × Nat} (hk:k < c) (h:zck (vl l) l mp (c - k) (zfC mp k (keyT l mp p (k - 1))) (eAt l mp p k) (dAt l mp p k)=some q) :
  ∃ r,vl l (eAt l mp p k+bK mp)=some r∧eAt l mp p (k+1)=r.1∧(mp=true→∃ n,zbL l (eAt l mp p k)=some n∧n.kind=3∧n.text=keyT l mp p k∧(0 < k→leB n.text (keyT l mp p (k - 1))=false)) ∧
   zck (vl l) l mp (c - (k+1)) (zfC mp (k+1) (keyT l mp p k)) (eAt l mp p (k+1)) (dAt l mp p (k+1))=some q:=by
 rw [show c - k=(c - (k+1))+1 by omega] at h
 cases mp with
 | true =>
  rw [kidsF_map] at h
  cases hn:zbL l (eAt l true p k) with
  | none=>rw [hn] at h;cases h
  | some n =>
   rw [hn] at h
   dsimp only at h
   by_cases hc:n.kind=3∧aftB (zfC true k (keyT l true p (k - 1))) n.text=true
   rotate_left
   ·rw [if_neg hc] at h;cases h
   rw [if_pos hc] at h
   cases hv:vl l (eAt l true p k+1) with
   | none=>rw [hv] at h;cases h
   | some r =>
    rw [hv] at h
    dsimp only at h
    have he:eAt l true p (k+1)=r.1:=by simp only [eAt,bK,if_true,zhe,hv,Int.toNat_natCast]
    have hd:dAt l true p (k+1)=max (dAt l true p k) r.2:=by simp only [dAt,bK,if_true,depAt,hv]
    have hkt:n.text=keyT l true p k:=by rw [keyT,zbU hn]
    refine⟨r,by simpa [bK] using hv,he,fun _=>⟨n,rfl,hc.1,hkt,fun h0=>?_⟩,?_⟩
    ·have:=hc.2
     simp only [zfC,Bool.true_and,h0,decide_true,if_true,aftB,Bool.not_eq_true'] at this
     exact this
    ·rw [he,hd]
     simp only [zfC,Bool.true_and,Nat.zero_lt_succ,decide_true,if_true,← hkt]
     exact h
 | false =>
  rw [zhU] at h
  cases hv:vl l (eAt l false p k) with
  | none=>rw [hv] at h;cases h
  | some r =>
   rw [hv] at h
   dsimp only at h
   have he:eAt l false p (k+1)=r.1:=by simp [eAt,bK,zhe,hv]
   have hd:dAt l false p (k+1)=max (dAt l false p k) r.2:=by simp [dAt,bK,depAt,hv]
   refine⟨r,by simpa [bK] using hv,he,fun h=>(by cases h),?_⟩
   rw [he,hd]
   simp only [zfC,Bool.false_and,Bool.false_eq_true,if_false] at h ⊢
   exact h
structure Kids (l:List Nd) (p:Nat) (n:Nd) (r:Nat × Nat):Prop where
 node:zbL l p=some n
 val:vl l p=some r
 inv:∀ k,k≤n.kids.toNat→p+1+k≤eAt l (decide (n.kind=5)) p k∧eAt l (decide (n.kind=5)) p k≤r.1∧zck (vl l) l (decide (n.kind=5)) (n.kids.toNat - k) (zfC (decide (n.kind=5)) k (keyT l (decide (n.kind=5)) p (k - 1))) (eAt l (decide (n.kind=5)) p k) (dAt l (decide (n.kind=5)) p k)=some (r.1,r.2 - 1)
 deep:1≤r.2
theorem zhg {l:List Nd} {p:Nat} {r:Nat × Nat} (h:vl l p=some r):∃ n,Kids l p n r:=by
 obtain⟨n,q,h1,h2,rfl⟩:=vl_node h
 refine⟨n,h1,h,?_,by simp⟩
 intro k
 induction k with
 | zero =>
  intro _
  have:=zfA (fun e r h=>zdh h) _ _ _ _ _ (by have:=(zbj h1).1;omega) h2
  exact⟨Nat.le_refl _,this.1,by simpa [zfC,eAt,dAt] using h2⟩
 | succ k ih =>
  intro hk
  obtain⟨i1,i2,i3⟩:=ih (by omega)
  obtain⟨r',g1,g2,g3,g4⟩:=kid_step (by omega) i3
  have hr:=zdh g1
  have:=zfA (fun e r h=>zdh h) _ _ _ _ _ (by rw [g2];exact hr.2) g4
  refine⟨by rw [g2];omega,this.1,g4⟩
theorem Kids.kid {l:List Nd} {p:Nat} {n:Nd} {r:Nat × Nat} (h:Kids l p n r) {k:Nat} (hk:k < n.kids.toNat) :
  ∃ r',vl l (eAt l (decide (n.kind=5)) p k+bK (decide (n.kind=5)))=some r'∧eAt l (decide (n.kind=5)) p (k+1)=r'.1∧(n.kind=5→∃ m,zbL l (eAt l (decide (n.kind=5)) p k)=some m∧m.kind=3∧m.text=keyT l (decide (n.kind=5)) p k∧(0 < k→leB m.text (keyT l (decide (n.kind=5)) p (k - 1))=false)):=by
 obtain⟨r',g1,g2,g3,_⟩:=kid_step hk (h.inv k (by omega)).2.2
 exact⟨r',g1,g2,fun h5=>g3 (decide_eq_true h5)⟩
theorem Kids.ends {l:List Nd} {p:Nat} {n:Nd} {r:Nat × Nat} (h:Kids l p n r):eAt l (decide (n.kind=5)) p n.kids.toNat=r.1∧dAt l (decide (n.kind=5)) p n.kids.toNat=r.2 - 1:=by
 have:=(h.inv n.kids.toNat (Nat.le_refl _)).2.2
 rw [Nat.sub_self] at this
 simp only [zck,Option.some.injEq,Prod.mk.injEq] at this
 exact this
theorem Kids.few {l:List Nd} {p:Nat} {n:Nd} {r:Nat × Nat} (h:Kids l p n r):p+1+n.kids.toNat≤r.1∧r.1≤l.length∧0≤n.kids∧p < l.length:=by
 obtain⟨h1,h2,_⟩:=h.inv n.kids.toNat (Nat.le_refl _)
 exact⟨by omega,(zdh h.val).2,zf9 (zbj h.node).2.2,(zbj h.node).1⟩
end Go.Proofs.YtnghkomgefieoaaGreatDoor
end

section
namespace Go.Proofs.YtnghkomgefieoaaGreatDoor
open Go Go.Eng
end Go.Proofs.YtnghkomgefieoaaGreatDoor
end

section
namespace Go.Proofs.YtnghkomgefieoaaGreatDoor
open Go Go.Eng
theorem ia_ref_str {K:AV→Prop} (id off len:Nat) (n:Int):ia3 (some tyStr) (.ref id off len 1) n K=(0≤n∧n < len∧K (.ptr id (off+n.toNat))):=ia3_ref1 zfa _ _ _ _
theorem zae (q:List Nat) (l:List (List UInt8)):renL q (l.map str)=some (l.map str):=zaG str zar q l
end Go.Proofs.YtnghkomgefieoaaGreatDoor
end

section
namespace Go.Proofs.YtnghkomgefieoaaGreatDoor
open Go Go.Eng
def slNs (l:List Nd):AV:=.sl (l.flatMap nC) l.length
theorem ren_slNs (q:List Nat) (l:List Nd):(slNs l).ren q=some (slNs l):=ren_slN q l _
theorem zhh (q:List Nat) (L:List (List Nd)):renL q (L.map slNs)=some (L.map slNs):=zaG slNs ren_slNs q L
theorem ia_Ns (e:TypeId) (L:List (List Nd)) (n:Nat) (k:Int) (K:AV→Prop):ia3 (some (tySl e)) (.sl (L.map slNs) n) k K=(0≤k∧k < n∧n≤L.length∧K (.rp ((L.map slNs).drop k.toNat))):=by
 simp [ia3,tySl]
theorem ldd_Ns (e:TypeId) (L:List (List Nd)) (k:Nat) (K:AV→Prop):ld2 (some (tySl e)) (some ((L.map slNs).drop k)) 0 K=(k < L.length∧K (slNs (L.getD k []))):=by
 by_cases h:k < L.length
 ·rw [← List.map_drop,List.drop_eq_getElem_cons h]
  simp [ld2,wfin,tySl,TD.agg,h]
  try (intro _;omega)
 ·rw [List.drop_eq_nil_of_le (by simp;omega)]
  simp [ld2,wfin,tySl,h]
theorem asrc_Ns (σ:zab) (l:List Nd):asrc σ 4 (slNs l)=some (l.flatMap nC,l.length):=asrc_N σ l
def zaF (L:List (List Nd)):List Nd:=⟨4,0,[],L.length⟩::L.flatten
def chkd (l:List Nd):List Nd × Int:=(if zbk l=0 then l else [],zbk l)
theorem zhi {l:List Nd} {id:Nat} {σ:zab} (hl:l.length≤1000000) (hi:σ[id]?=some (.rw (l.flatMap nC))) {K:AEnd→zab→Prop} (hk:K (.ret (.tup [.sl ((chkd l).1.flatMap nC) (chkd l).1.length,i64 (chkd l).2])) (σ.set id (.ro (l.flatMap nC)))) :
  ACalls Tryz.prog 28 [.ref id 0 l.length 4] σ K:=by
 refine ACalls.freeze (pre:=[]) (post:=[]) hi (by rw [zbD];omega) ?_
 rw [List.drop_zero,List.take_of_length_le (by rw [zbD];omega)]
 refine(checked_ok l hl).pure (by simp [renL,AV.ren,zbF]) ?_
 rintro _ σ ⟨rfl,rfl⟩
 exact⟨by simp [AEnd.noid,AV.ren,renL,zbF,zaq],hk⟩
end Go.Proofs.YtnghkomgefieoaaGreatDoor
end

section
namespace Go.Proofs.YtnghkomgefieoaaGreatDoor
open Go Go.Eng
set_option linter.defProp false in
def LB6:=And.intro @ia_ref_str (And.intro @ia_Ns (And.intro @ldd_Ns (And.intro @ia_sl_str (@ldd_str))))
theorem box_nil {eB:TypeId} {σ:zab} {KS:AV→zab→Prop}:wbox eB (.lit (.slice none 0 0)) σ KS=KS (.ptr σ.length 0) (σ++[.rw [.lit (.slice none 0 0)]]):=by
 simp [wbox,zdr,AV.cells,AV.one,Value.oneCell']
theorem asrc_ref {σ:zab} {id n:Nat} {l:List (List UInt8)} (h:σ[id]?=some (.rw (l.map str))) (hn:n=l.length):asrc σ 1 (.ref id 0 n 1)=some (l.map str,n):=by
 subst hn
 simp only [asrc,asl,rd,h,if_true,Option.bind_some,Nat.mul_one,Nat.zero_add,List.length_map,Nat.le_refl,List.drop_zero]
 rw [List.take_of_length_le (by simp)]
theorem zff {α:Type} (f:α→AV) (hf:∀ a,(f a).one=true) {ts:Array TypeId} {t t1 e:TypeId} {te:TI} {z:AV} {tx:TI} (h0:ts[0]?=some t) (h1:ts[1]?=some t1) (ht:T t=some (tySl e)) (ht1:T t1=some tx) (hx:(∀ k,tx.d≠.int k)∧tx.d≠.other) (he:T e=some te) (ho:one1 te z)
  {ys:List α} {m:Nat} {x:AV} {σ:zab} {KS:AV→zab→Prop} (hs:asrc σ 1 x=some (ys.map f,m)) (g1:m≤9223372036854775807) (g2:m * te.bytes≤140737488355328) (hk:KS (.ref σ.length 0 m 1) (σ++[.rw (ys.map f)])):zbB T ts (.lit (.slice none 0 0)) x σ KS:=by
 rw [append_nil h0 h1 ht ht1 hx he ho hs (zcA f hf ys)]
 exact⟨g1,g2,hk⟩
theorem values_ok (l:List (List UInt8)):ACalls Tryz.prog 27 [.sl (l.map str) l.length] [] (fun y σ=>y=.ret (.fn (.func 45) [] [.ptr 0 0])∧σ=[.rw [.sl (l.map str) l.length]]):=by
 refine ACalls.body T_ok Tryz.func27 (by kernel_rfl) rfl Tryz.ntmps27 (congrArg Array.toList Tryz.results27) ?_
 refine aQ30 ?_
 exact zau ⟨rfl,rfl⟩
theorem values1_ok (l:List (List UInt8)) (hl:l.length≤1000000) (id b:Nat) (I:Nat→zab→Prop) (hb:∀ k σ,I k σ→rd σ b=some [.sl (l.map str) l.length])
  (hY : ∀ k σ, k < l.length → I k σ → AYield Tryz.prog id [str (l.getD k [])] σ (fun x σ' => x = .ret (bl true) ∧ I (k + 1) σ')) (σ : zab) (h0 : I 0 σ) :
  ACalls Tryz.prog 45 [.yl id, .ptr b 0] σ (fun x σ' => x = .ret (.tup []) ∧ I l.length σ') := by
 have hb0:=hb 0 σ h0
 refine ACalls.body T_ok Tryz.func45 (by kernel_rfl) rfl Tryz.ntmps45 (congrArg Array.toList Tryz.results45) ?_
 try simp -implicitDefEqProofs only [LM8,LB6,eq_self,zao,box_nil,hb0,TB,SB,Int.reduceToNat,Nat.reduceAdd,Nat.reduceEqDiff,Nat.reduceLT,Nat.reduceMod,Nat.reducePow,Nat.reduceSub,if_true,reduceIte]
 rw [za6]
 refine⟨Nat × zab,fun i=>i.1≤l.length∧I i.1 i.2,fun i=>[.yl id,.ptr b 0,.bot,.bot,.bot,.sl (l.map str) l.length,i64 l.length,i64 i.1,.bot,.bot,.bot,.bot,.bot,.bot,.bot,.bot],fun i=>i.2,fun i=>l.length - i.1,(0,σ),⟨Nat.zero_le _,h0⟩,zcN ?_,?_⟩
 ·refine aQ28 ?_
  try exact .inr rfl
 ·rintro⟨k,s⟩ ⟨hk,hI⟩
  dsimp only at hk hI ⊢
  refine aQ30 ?_
  refine⟨fun hlt=>?_,fun hge=>?_⟩
  ·repeat (with_reducible refine And.intro aQ15 ?_)
   refine(hY k s (by omega) hI).mono ?_
   rintro _ s' ⟨rfl,hI'⟩
   refine aQ30 ?_
   repeat (with_reducible refine And.intro aQ15 ?_)
   rw [zam]
   refine⟨(k+1,s'),⟨by (show k+1≤l.length);omega,hI'⟩,(by show l.length - (k+1) < l.length - k;omega),zcN ?_⟩
   refine aQ28 ?_
   try exact .inr rfl
  ·obtain rfl:k=l.length:=by omega
   refine aQ30 ?_
   exact zau ⟨rfl,hI⟩
def colI (l:List (List UInt8)) (env:List AV) (ps:Array Tmp) (as' bd:Code) (k:Nat) (σ:zab):Prop :=
 ∃ c ρ,σ=.rw [.sl (l.map str) l.length]::.rw [c]::.lp .ready none env ps as' bd::ρ∧((k=0∧c=.lit (.slice none 0 0))∨(0 < k∧∃ j,c=.ref (j+1+1+1) 0 k 1∧ρ[j]?=some (.rw ((l.take k).map str))))
theorem appendSeq_ok (l:List (List UInt8)) (hl:l.length≤1000000):ACalls Tryz.prog 69 [.lit (.slice none 0 0),.fn (.func 45) [] [.ptr 0 0]] [.rw [.sl (l.map str) l.length]] (fun y σ=>(l=[]∧y=.ret (.lit (.slice none 0 0))∧σ=[.rw [.sl (l.map str) l.length]])∨(l≠[]∧y=.ret (.ref 1 0 l.length 1)∧σ=[.rw [.sl (l.map str) l.length],.rw (l.map str)])):=by
 refine ACalls.body T_ok Tryz.func69 (by kernel_rfl) rfl Tryz.ntmps69 (congrArg Array.toList Tryz.results69) ?_
 refine aQ30 ?_
 refine⟨by kernel_rfl,?_⟩
 refine(values1_ok l hl 2 0 (colI l _ _ _ _) ?_ ?_ _ ⟨_,[],rfl,.inl ⟨rfl,rfl⟩⟩).mono ?_
 ·rintro k _ ⟨c,ρ,rfl,_⟩
  rfl
 ·rintro k _ hk ⟨c,ρ,rfl,hc⟩
  have htk:(l.take (k+1))=l.take k++[l.getD k []]:=by
   rw [List.take_succ_eq_append_getElem hk];simp [hk]
  refine AYield.of T_ok rfl rfl rfl rfl ?_
  refine aQ30 ?_
  refine⟨_,_,_,rfl,?_⟩
  refine aQ30 ?_
  rcases hc with ⟨rfl,rfl⟩ | ⟨hk0,j,rfl,hj⟩
  ·refine zff str zce rfl rfl T40 T40 (zgq _) T9 zfa (ys:=[l.getD 0 []]) (m:=1) (asrc_ref (l:=[l.getD 0 []]) (by simp) rfl) (by omega) (by simp only [tyStr];omega) ?_
   refine aQ30 ?_
   refine⟨_,_,_,_,rfl,rfl,_,_,rfl,.inr ⟨by omega,ρ.length+1,?_,?_⟩⟩
   ·simp
   ·simp [htk]
  ·refine zf6 str zce rfl rfl T40 T40 (zgq _) T9 zfa (l:=l.take k) (ys:=[l.getD k []]) (m:=1) ?_ (by simp;omega) (asrc_ref (l:=[l.getD k []]) (by simp) rfl) (by omega) (by simp only [tyStr];omega) ?_
   ·simp only [List.getElem?_cons_succ]
    rw [List.getElem?_append_left (List.getElem?_eq_some_iff.1 hj).1,hj]
   refine aQ30 ?_
   refine⟨_,_,_,_,rfl,rfl,_,_,rfl,.inr ⟨by omega,ρ.length+1,?_,?_⟩⟩
   ·simp
   ·simp [htk]
 ·rintro _ _ ⟨rfl,c,ρ,rfl,hc⟩
  refine⟨_,_,_,_,_,_,rfl,by simp,?_⟩
  refine aQ30 ?_
  rcases hc with ⟨h0,rfl⟩ | ⟨h0,j,rfl,hj⟩
  ·have hl0:l=[]:=List.eq_nil_of_length_eq_zero h0
   refine .inl ⟨[0],.lit (.slice none 0 0),[.rw [.sl (l.map str) l.length]],rfl,rfl,by decide,rfl,?_,.inl ⟨hl0,rfl,rfl⟩⟩
   simp [zah,zaL,zae,renL,AV.ren]
  ·have hl0:l≠[]:=fun h=>by rw [h] at h0;simp at h0
   rw [List.take_length] at hj
   refine .inl ⟨[0,j+1+1+1],.ref 1 0 l.length 1,[.rw [.sl (l.map str) l.length],.rw (l.map str)],rfl,rfl,by simp,by simp [AV.ren],?_,.inr ⟨hl0,rfl,rfl⟩⟩
   simp [zah,zaL,zae,renL,AV.ren,hj]
end Go.Proofs.YtnghkomgefieoaaGreatDoor
end

section
namespace Go.Proofs.YtnghkomgefieoaaGreatDoor
open Go Go.Eng
theorem collect_ok (l:List (List UInt8)) (hl:l.length≤1000000):ACalls Tryz.prog 43 [.fn (.func 45) [] [.ptr 0 0]] [.rw [.sl (l.map str) l.length]] (fun y σ=>(l=[]∧y=.ret (.lit (.slice none 0 0))∧σ=[.rw [.sl (l.map str) l.length]])∨(l≠[]∧y=.ret (.ref 1 0 l.length 1)∧σ=[.rw [.sl (l.map str) l.length],.rw (l.map str)])):=by
 refine ACalls.body T_ok Tryz.func43 (by kernel_rfl) rfl Tryz.ntmps43 (congrArg Array.toList Tryz.results43) ?_
 refine aQ31 ?_
 refine(appendSeq_ok l hl).mono ?_
 rintro _ _ (⟨h,rfl,rfl⟩ | ⟨h,rfl,rfl⟩)
 ·refine aQ31 ?_
  exact zau (.inl ⟨h,rfl,rfl⟩)
 ·refine aQ31 ?_
  exact zau (.inr ⟨h,rfl,rfl⟩)
theorem sort_does:SortDoes Tryz.prog 44:=Tryz.slices_Sort_string
theorem sorted_ok (l:List (List UInt8)) (hl:l.length≤1000000):ACalls Tryz.prog 26 [.fn (.func 45) [] [.ptr 0 0]] [.rw [.sl (l.map str) l.length]] (fun y σ=>(l=[]∧y=.ret (.lit (.slice none 0 0))∧σ=[.rw [.sl (l.map str) l.length]])∨(l≠[]∧y=.ret (.ref 1 0 l.length 1)∧σ=[.rw [.sl (l.map str) l.length],.rw ((srt l).map str)])):=by
 refine ACalls.body T_ok Tryz.func26 (by kernel_rfl) rfl Tryz.ntmps26 (congrArg Array.toList Tryz.results26) ?_
 refine aQ31 ?_
 refine(collect_ok l hl).mono ?_
 rintro _ _ (⟨h,rfl,rfl⟩ | ⟨h,rfl,rfl⟩)
 ·refine aQ31 ?_
  refine(ACalls.sortNone Tryz.slices_Sort_string_none (by kernel_rfl)).mono ?_
  rintro _ _ ⟨rfl,rfl⟩
  refine aQ31 ?_
  exact zau (.inl ⟨h,rfl,rfl⟩)
 ·refine aQ31 ?_
  refine(ACalls.sortStr (l:=l) sort_does (by kernel_rfl) rfl h hl).mono ?_
  rintro _ _ ⟨rfl,rfl⟩
  refine aQ31 ?_
  exact zau (.inr ⟨h,rfl,rfl⟩)
def membR (keys:List (List UInt8)) (kids:List (List Nd)) (k:List UInt8):List Nd:=⟨3,0,k,0⟩::kids.getD (keys.idxOf k) []
def zcP (keys:List (List UInt8)) (kids:List (List Nd)):List Nd:=⟨5,0,[],kids.length⟩::(srt keys).flatMap (membR keys kids)
def mapF (keys:List (List UInt8)) (kids:List (List Nd)):List Nd × Int :=
 if keys.length≠kids.length then ([],1) else if ¬ keys.Nodup then ([],7) else chkd (zcP keys kids)
theorem values_frame {l:List (List UInt8)} {A B:Blk} {K:AEnd→zab→Prop} (hk:K (.ret (.fn (.func 45) [] [.ptr 2 0])) [A,B,.rw [.sl (l.map str) l.length]]) :
  ACalls Tryz.prog 27 [.sl (l.map str) l.length] [A,B] K:=by
 refine ACalls.frame [] (values_ok l) rfl (by decide) (by simp [zah]) (by simp [renL,AV.ren,zae]) ?_
 rintro _ _ ⟨rfl,rfl⟩
 refine⟨_,_,?_,?_,hk⟩
 ·show zad _ _ [1,1,0] [1,1,0] 0 _
  simp [zad,zaL,renL,AV.ren,zae]
 ·show AEnd.ren [1,1,0] _ _
  simp [AEnd.ren,AV.ren,renL]
theorem sorted_frame {l:List (List UInt8)} (hl:l.length≤1000000) {A B:Blk} {K:AEnd→zab→Prop} (h1:l=[]→K (.ret (.lit (.slice none 0 0))) [A,B,.rw [.sl (l.map str) l.length]]) (h2:l≠[]→K (.ret (.ref 3 0 l.length 1)) [A,B,.rw [.sl (l.map str) l.length],.rw ((srt l).map str)]) :
  ACalls Tryz.prog 26 [.fn (.func 45) [] [.ptr 2 0]] [A,B,.rw [.sl (l.map str) l.length]] K:=by
 refine ACalls.frame [2] (sorted_ok l hl) rfl (by decide) (by simp [zah,zaL,renL,AV.ren,zae]) (by simp [renL,AV.ren]) ?_
 rintro _ _ (⟨h,rfl,rfl⟩ | ⟨h,rfl,rfl⟩)
 ·refine⟨_,_,?_,?_,h1 h⟩
  ·show zad _ _ [1,1,0] [1,1,0] 0 _
   simp [zad,zaL,renL,AV.ren,zae]
  ·show AEnd.ren [1,1,0] _ _
   simp [AEnd.ren,AV.ren]
 ·refine⟨_,_,?_,?_,h2 h⟩
  ·show zad _ _ [2,2,0,1] [2,2,0,1] 0 _
   simp [zad,zaL,renL,AV.ren,zae]
  ·show AEnd.ren [2,2,0,1] _ _
   simp [AEnd.ren,AV.ren]
theorem zeroIs_of {P:Program} {e:TypeId} {z:Value} (h:(P.info? e).bind (·.zero)=some z):ziI P e z:=by
 rw [Option.bind_eq_some_iff] at h
 exact h
theorem zil:ziI Tryz.prog 3 (.int .i64 0):=zeroIs_of (by kernel_rfl)
def mpI (keys:List (List UInt8)) (k:Nat):Blk:=.mpb ((keys.take k).map keyV) (((List.range k).map Int.ofNat).map i64)
theorem zgC (q:List Nat) (keys:List (List UInt8)) (k:Nat):(mpI keys k).ren q=some (mpI keys k):=by
 simp only [mpI,bren_mpb,zey,Option.map_some]
theorem asrc_refN {σ:zab} {id n:Nat} {l:List Nd} (h:σ[id]?=some (.rw (l.flatMap nC))) (hn:n=l.length):asrc σ 4 (.ref id 0 n 4)=some (l.flatMap nC,n):=by
 subst hn
 simp only [asrc,asl,rd,h,if_true,Option.bind_some,Nat.zero_add,zbD,Nat.le_refl,List.drop_zero]
 rw [List.take_of_length_le (by rw [zbD];omega)]
theorem ld_strs {K:AV→Prop} (l:List (List UInt8)) (off:Nat):ld2 (some tyStr) (some (l.map str)) off K=(off < l.length∧K (str (l.getD off []))):=ld2_map zfa _ _ _ _
def rowK (keys:List (List UInt8)) (kids:List (List Nd)) (k:Nat):List Nd:=⟨5,0,[],kids.length⟩::((srt keys).take k).flatMap (membR keys kids)
theorem rowK_le (keys:List (List UInt8)) (kids:List (List Nd)) (k:Nat):(rowK keys kids k).length≤(zcP keys kids).length:=by
 have h:srt keys=(srt keys).take k++(srt keys).drop k:=(List.take_append_drop k _).symm
 have e:(zcP keys kids).length=(rowK keys kids k).length+(((srt keys).drop k).flatMap (membR keys kids)).length:=by
  simp only [zcP,rowK,List.length_cons]
  conv=>lhs;rw [h,List.flatMap_append,List.length_append]
  omega
 omega
theorem rowK_succ (keys:List (List UInt8)) (kids:List (List Nd)) {k:Nat} (hk:k < (srt keys).length):rowK keys kids (k+1)=(rowK keys kids k++[⟨3,0,(srt keys).getD k [],0⟩])++kids.getD (keys.idxOf ((srt keys).getD k [])) []:=by
 simp only [rowK]
 rw [List.take_succ_eq_append_getElem hk,List.flatMap_append]
 simp [membR,hk]
theorem Map_ok (keys:List (List UInt8)) (kids:List (List Nd)) (h1:keys.length≤1000) (h2:keys.length=kids.length→(zcP keys kids).length≤100000) (h3:kids.length≤1000000):ACalls Tryz.prog 14 [.sl (keys.map str) keys.length,.sl (kids.map slNs) kids.length] [] (fun y σ=>y=.ret (.tup [.sl ((mapF keys kids).1.flatMap nC) (mapF keys kids).1.length,i64 (mapF keys kids).2])∧σ=[]):=by
 have bad : ∀ (e : Int) (σ : zab), mapF keys kids = ([], e) → endQ 0 (.tup [.lit (.slice none 0 0), i64 e]) σ (fun r σ' => AEnd.ret r = .ret (.tup [.sl ((mapF keys kids).1.flatMap nC) (mapF keys kids).1.length, i64 (mapF keys kids).2]) ∧ σ' = []) := fun e σ h => by
  rw [h]
  exact zig [] (.tup [.sl [] 0,i64 e]) ⟨_,rfl,_,_,rfl,.inr ⟨rfl,rfl⟩,_,_,rfl,.inl rfl,rfl⟩ ⟨[],_,[],rfl,rfl,by decide,by simp [AV.ren,renL,zaq],trivial,rfl,rfl⟩
 refine ACalls.body T_ok Tryz.func14 (by kernel_rfl) rfl Tryz.ntmps14 (congrArg Array.toList Tryz.results14) ?_
 refine aQ32 ?_
 refine⟨fun hne=>?_,fun heq=>?_⟩
 ·exact bad 1 _ (by rw [mapF,if_pos (by omega)])
 have hlen:keys.length=kids.length:=by omega
 have h2:=h2 hlen
 rw [za6]
 refine⟨Nat,fun k=>k≤keys.length∧(keys.take k).Nodup,fun k=>[.sl (keys.map str) keys.length,.sl (kids.map slNs) kids.length,.bot,.bot,.lit (.slice none 0 0),i64 0,.mpt 0,.bot,.bot,.bot,.bot,.bot,.bot,.bot,.bot,.bot,.bot,.bot,.bot,.bot,.sl (keys.map str) keys.length,i64 keys.length,i64 k,.bot,.bot,.bot,.bot,.bot,.bot,.bot,.bot,.bot,.bot,.bot,.bot,.bot,.bot,.bot,.bot,.bot,.bot,.bot,.bot,.bot,.bot,.bot,.bot,.bot,.bot,.bot,.bot,.bot,.bot,.bot,.bot,.bot,.bot,.bot,.bot,.bot,.bot,.bot,.bot,.bot,.bot,.bot,.bot,.bot],fun k=>[mpI keys k],fun k=>keys.length - k,0,⟨Nat.zero_le _,by simp⟩,?_,?_⟩
 ·refine zak (q:=[0]) rfl rfl (by decide) ?_ ?_
  ·refine aQ27 ?_
   simp [zhh,AV.ren,renL,zae]
  ·refine aQ27 ?_
   simp only [zah,zgC,and_true]
   exact .inr ⟨_,rfl,rfl⟩
 ·rintro k ⟨hk,hnd⟩
  refine aQ32 ?_
  refine⟨fun hlt=>?_,fun hge=>?_⟩
  ·repeat (with_reducible refine And.intro aQ15 ?_)
   have hlk:k < keys.length:=by omega
   have htk:keys.take (k+1)=keys.take k++[keys.getD k []]:=by
    rw [List.take_succ_eq_append_getElem hlk];simp [hlk]
   refine zf8 true T61 T9 (l:=keys.take k) (vs:=((List.range k).map Int.ofNat).map i64) rfl (by simp;omega) zil (fun r hmem _=>?_) (fun hnm=>?_)
   ·refine aQ32 ?_
    refine bad 7 _ ?_
    rw [mapF,if_neg (by omega),if_pos]
    intro hall
    have:=(List.take_sublist (k+1) keys).nodup hall
    rw [htk] at this
    exact(List.nodup_append.1 this).2.2 _ hmem _ (by simp) rfl
   ·refine aQ32 ?_
    refine zfc (l:=keys.take k) (vs:=((List.range k).map Int.ofNat).map i64) T61 T9 rfl (fun h=>absurd h hnm) (fun _=>?_)
    refine aQ32 ?_
    repeat (with_reducible refine And.intro aQ15 ?_)
    rw [zam]
    have hmp:Blk.mpb ((keys.take k++[keys.getD k []]).map keyV) (((List.range k).map Int.ofNat).map i64++[i64 k])=mpI keys (k+1):=by
     rw [mpI,htk,List.range_succ,List.map_append,List.map_append,List.map_append]
     rfl
    refine⟨k+1,⟨by omega,?_⟩,by (show keys.length - (k+1) < keys.length - k);omega,?_⟩
    ·rw [htk,List.nodup_append]
     exact⟨hnd,by simp,fun a ha b hb=>by simp only [List.mem_singleton] at hb;subst hb;rintro rfl;exact hnm ha⟩
    rw [hmp]
    refine zak (q:=[0]) rfl rfl (by decide) ?_ ?_
    ·refine aQ27 ?_
     simp [zhh,AV.ren,renL,zae]
    ·refine aQ27 ?_
     simp [zah,zgC]
  ·obtain rfl:k=keys.length:=by omega
   rw [List.take_length] at hnd
   have hmap:mapF keys kids=chkd (zcP keys kids):=by rw [mapF,if_neg (by omega),if_neg (by simpa using hnd)]
   refine aQ32 ?_
   refine values_frame ?_
   refine aQ32 ?_
   refine sorted_frame (by omega) (fun h0=>?_) (fun hne=>?_)
   ·refine aQ32 ?_
    have hrow:zcP keys kids=[⟨5,0,[],kids.length⟩]:=by rw [zcP,h0];simp [srt]
    rw [za6]
    refine⟨Unit,fun _=>True,fun _=>[.bot,.bot,.bot,.bot,.lit (.slice none 0 0),i64 0,.bot,.bot,.bot,.bot,.bot,.ref 0 0 1 4,.bot,.bot,.bot,.bot,.bot,.bot,.bot,.bot,.bot,.bot,.bot,.bot,.bot,.bot,.bot,.bot,.bot,.bot,.bot,.bot,.bot,.bot,.bot,.bot,.bot,.bot,.bot,.bot,.bot,.bot,.bot,.bot,.bot,i64 0,i64 0,.bot,.bot,.bot,.bot,.bot,.bot,.bot,.bot,.bot,.bot,.bot,.bot,.bot,.bot,.bot,.bot,.bot,.bot,.bot,.bot,.bot],fun _=>[.rw ((zcP keys kids).flatMap nC)],fun _=>0,(),trivial,?_,?_⟩
    ·rw [hrow]
     refine zak (q:=[1]) rfl rfl (by decide) ?_ ?_
     ·refine aQ27 ?_
      try simp
     ·refine aQ27 ?_
      simp [zah,zaL,zbF,zdg]
    ·rintro⟨⟩ _
     refine aQ32 ?_
     refine⟨fun h=>absurd h (by omega),fun _=>?_⟩
     rw [show AV.ref 0 0 1 4=AV.ref 0 0 (zcP keys kids).length 4 by rw [hrow];rfl]
     refine zhi (l:=zcP keys kids) (by omega) rfl ?_
     refine aQ32 ?_
     rw [hmap]
     exact zaz aQ17 ⟨rfl,rfl⟩
   ·refine aQ32 ?_
    obtain⟨sk,hsk⟩:∃ sk,srt keys=sk:=⟨_,rfl⟩
    have hsl:sk.length=keys.length:=by rw [← hsk];exact zih keys
    have hmem:∀ k∈sk,k∈keys:=fun k hk=>by rw [← hsk] at hk;exact(List.mergeSort_perm keys _).mem_iff.1 hk
    have hrow:∀ k,(rowK keys kids k).length≤(zcP keys kids).length:=rowK_le keys kids
    rw [hsk]
    rw [za6]
    refine⟨Nat,fun k=>k≤keys.length,fun k=>[.bot,.sl (kids.map slNs) kids.length,.bot,.bot,.lit (.slice none 0 0),i64 0,.mpt 0,.bot,.bot,.bot,.bot,.ref 2 0 (rowK keys kids k).length 4,.bot,.bot,.bot,.bot,.bot,.bot,.bot,.bot,.bot,.bot,.bot,.bot,.bot,.bot,.bot,.bot,.bot,.bot,.bot,.bot,.bot,.bot,.bot,.bot,.bot,.bot,.bot,.bot,.bot,.bot,.bot,.bot,.ref 1 0 keys.length 1,i64 keys.length,i64 k,.bot,.bot,.bot,.bot,.bot,.bot,.bot,.bot,.bot,.bot,.bot,.bot,.bot,.bot,.bot,.bot,.bot,.bot,.bot,.bot,.bot],fun k=>[mpI keys keys.length,.rw (sk.map str),.rw ((rowK keys kids k).flatMap nC)],fun k=>keys.length - k,0,Nat.zero_le _,?_,?_⟩
    ·refine zak (q:=[0,3,1]) rfl rfl (by decide) ?_ ?_
     ·refine aQ27 ?_
      simp [zhh,AV.ren,renL,zae,rowK]
     ·refine aQ27 ?_
      simp [zah,zgC,zaL,zae,zbF,zdg,rowK]
    ·intro k hk
     refine aQ32 ?_
     refine⟨fun hlt=>?_,fun hge=>?_⟩
     ·repeat (with_reducible refine And.intro aQ15 ?_)
      have hkl:k < sk.length:=by omega
      have hsuc:=rowK_succ keys kids (k:=k) (by rw [hsk];omega)
      rw [hsk] at hsuc
      have hle:=hrow (k+1)
      rw [hsuc] at hle
      simp only [List.length_append,List.length_cons,List.length_nil] at hle
      refine append_N rfl rfl T22 T22 T43 (l:=rowK keys kids k) (ys:=[⟨3,0,sk.getD k [],0⟩]) (m:=1) rfl rfl (asrc_refN (l:=[⟨3,0,sk.getD k [],0⟩]) rfl rfl) rfl (by omega) ?_
      refine aQ32 ?_
      have hin:sk.getD k []∈keys:=hmem _ (by rw [List.getD_eq_getElem?_getD,List.getElem?_eq_getElem hkl];exact List.getElem_mem _)
      have hidx:keys.idxOf (sk.getD k []) < keys.length:=List.idxOf_lt_length_of_mem hin
      refine zf8 false T61 T9 (l:=keys.take keys.length) (vs:=((List.range keys.length).map Int.ofNat).map i64) rfl (by simp) zil (fun r _ hr=>?_) (fun hnm=>absurd (by rw [List.take_length];exact hin) hnm)
      rw [List.take_length] at hr
      have hr2:r=i64 (keys.idxOf (sk.getD k [])):=by
       rw [List.getElem?_map,List.getElem?_map,List.getElem?_range hidx] at hr
       simpa using hr.symm
      subst hr2
      refine aQ32 ?_
      repeat (with_reducible refine And.intro aQ15 ?_)
      refine append_N rfl rfl T22 T22 T43 (l:=rowK keys kids k++[⟨3,0,sk.getD k [],0⟩]) (ys:=kids.getD (keys.idxOf (sk.getD k [])) []) (m:=(kids.getD (keys.idxOf (sk.getD k [])) []).length) rfl (by simp) (asrc_Ns _ _) rfl (by omega) ?_
      refine aQ32 ?_
      repeat (with_reducible refine And.intro aQ15 ?_)
      rw [zam]
      refine⟨k+1,by omega,by (show keys.length - (k+1) < keys.length - k);omega,?_⟩
      rw [hsuc,List.length_append,List.length_append,show [(⟨3,0,sk.getD k [],0⟩:Nd)].length=1 from rfl]
      refine zak (q:=[0,1,5]) rfl rfl (by decide) ?_ ?_
      ·refine aQ27 ?_
       simp [zhh,AV.ren,renL,zae]
      ·refine aQ27 ?_
       simp [zah,zgC,zaL,zae,zbF,-List.flatMap_append]
     ·obtain rfl:k=keys.length:=by omega
      refine aQ32 ?_
      have hfin:rowK keys kids keys.length=zcP keys kids:=by rw [rowK,zcP,List.take_of_length_le (by rw [zih];omega)]
      rw [hfin]
      refine zhi (l:=zcP keys kids) (by omega) rfl ?_
      refine aQ32 ?_
      rw [hmap]
      exact zaz aQ17 ⟨rfl,rfl⟩
end Go.Proofs.YtnghkomgefieoaaGreatDoor
end

