/-
  Nodes, values, and what is checked of them. No condition.
-/
import Derived.Test.YtcahoelfogjljaaGreatDoorEngX
import Derived.Lib.LaidTab
import Derived.Lib.ItoaNum
import Derived.Test.YtcahoelfogjljaaGreatDoorRows
import Derived.Test.YtcahoelfogjljaaGreatDoorLib
set_option linter.unusedSimpArgs false
set_option linter.unusedVariables false
set_option linter.unusedSectionVars false
section
namespace Go.Eng
open Go
theorem aQ14 {P:Prop} (e:P:=by first | rfl | simp [renL,AV.ren,za5,zax str zag,za8,za4,zaU,zam,zad,zag]):P:=e
theorem aQ23 {P Q:Prop} (h:Q) (e:P=Q:=by first|(simp -implicitDefEqProofs only [LM0,eq_self,TB,SB,Int.reduceToNat,Nat.reduceAdd,Nat.reduceEqDiff,Nat.reduceLT,Nat.reduceMod,Nat.reducePow,Nat.reduceSub,if_true,reduceIte];first|done|exact rfl)|exact rfl):P:=e ▸ h
theorem aQ24 {P Q:Prop} (h:Q) (e:P=Q:=by first|(simp only [FB,AV.ren,Nat.reduceAdd,reduceCtorEq];first|done|exact rfl)|exact rfl):P:=e ▸ h
theorem aQ25 {P Q:Prop} (h:Q) (e:P=Q:=by first|(simp only [LB5,List.getElem?_cons_zero,true_and,and_true,or_true,true_or,reduceCtorEq,false_or];first|done|exact rfl)|exact rfl):P:=e ▸ h
theorem aQ26 {P Q:Prop} (h:Q) (e:P=Q:=by first|(simp -implicitDefEqProofs only [LM0,eq_self,zan,TB,SB,Int.reduceToNat,Nat.reduceAdd,Nat.reduceEqDiff,Nat.reduceLT,Nat.reduceMod,Nat.reducePow,Nat.reduceSub,if_true,reduceIte];first|done|exact rfl)|exact rfl):P:=e ▸ h
theorem aQ27 {P Q:Prop} (h:Q) (e:P=Q:=by first|(simp -implicitDefEqProofs only [LM10,LB7,eq_self,zan,zat,TB,SB,Int.reduceToNat,Nat.reduceAdd,Nat.reduceEqDiff,Nat.reduceLT,Nat.reduceMod,Nat.reducePow,Nat.reduceSub,if_true,reduceIte];first|done|exact rfl)|exact rfl):P:=e ▸ h
end Go.Eng
end

section
namespace Go.Proofs.YtcahoelfogjljaaGreatDoor
open Go Go.Eng
set_option linter.defProp false in
def LB0:=And.intro @Wop_panic (@wpan_ifc)
set_option linter.defProp false in
def LB1:=And.intro @Wop_range (And.intro @Wop_next (@Wop_entry))
set_option linter.defProp false in
def LB2:=And.intro @one_sl (And.intro @Bool.not_true (And.intro @Bool.not_false (And.intro @Int.toNat_natCast (@decide_true))))
def nilS:AV:=.lit (.slice none 0 0)
def tyNd:TI:=⟨.struct [(49,0),(2,1),(9,2),(3,3)],4,40,[.int .i64 0,.int .i64 0,.string ⟨#[]⟩,.int .i64 0],true⟩
def tyRd:TI:=⟨.struct [(22,0),(47,1),(3,2)],3,56,[.slice none 0 0,.slice none 0 0,.int .i64 0],false⟩
def tySn:TI:=⟨.struct [(3,0),(3,1),(4,2),(47,3),(47,4)],5,72,[.int .i64 0,.int .i64 0,.bool false,.slice none 0 0,.slice none 0 0],false⟩
def tyGu:TI:=⟨.struct [],0,0,[],false⟩
def tyWr:TI:=⟨.struct [(107,0),(22,2),(3,3),(109,4)],10,112,[.pointer none,.slice none 0 0,.slice none 0 0,.int .i64 0,.nilFunc,.nilFunc,.nilFunc,.nilFunc,.nilFunc,.nilFunc],false⟩
def tyCr:TI:=⟨.struct [(9,0),(3,1),(22,2),(156,3)],4,72,[.string ⟨#[]⟩,.int .i64 0,.slice none 0 0,.slice none 0 0],false⟩
def tyOp:TI:=⟨.struct [(3,0),(9,1)],2,24,[.int .i64 0,.string ⟨#[]⟩],true⟩
def tyPr:TI:=⟨.struct [(9,0),(3,1),(3,2)],3,32,[.string ⟨#[]⟩,.int .i64 0,.int .i64 0],false⟩
def tyPf:TI:=⟨.struct [(3,0),(25,1)],2,16,[.int .i64 0,.int .i64 0],true⟩
def tyMb:TI:=⟨.struct [(9,0),(22,1)],2,40,[.string ⟨#[]⟩,.slice none 0 0],false⟩
def tyPt:TI:=⟨.struct [(9,0),(3,1)],2,24,[.string ⟨#[]⟩,.int .i64 0],true⟩
def tyRV:TI:=⟨.struct [(17,0),(173,1),(174,2)],3,24,[.pointer none,.pointer none,.int .u64 0],false⟩
def tySe:TI:=⟨.struct [(22,0),(3,1),(4,2)],3,40,[.slice none 0 0,.int .i64 0,.bool false],false⟩
def T:Tab:=tabOf [(3,zaF),(2,zaF),(4,zdn),(203,zjG),(9,tyStr),(32,tySl 9),(47,tySl 3),(49,zaF),(25,zaF),(51,tyNd),(22,tySl 51),(34,tySl 22),(166,tyRd),(68,tySn),(245,zhL 9 3),(232,tyGu),(20,tyI),(5,tyU8),(107,tyBld 104 105),(104,zeg 107),(105,tySl 5),(159,zjG),(151,zeg 5),(108,tyFn),(109,zgi 6 108 tyFn),(111,tyWr),(102,zeg 111),(158,tyCr),(189,zeg 158),(193,tyOp),(156,tySl 193),(194,zeg 193),(191,tyGu),(143,tyPr),(171,zeg 143),(140,tyPf),(146,zeg 140),(147,zeg 25),(96,tyI),(249,tyMb),(244,tySl 249),(257,zhL 9 51),(87,tyPt),(83,tySl 87),(116,tyPt),(124,tySe),(59,tySl 116),(179,tyI),(212,tyI),(215,tyI),(176,tyRV),(181,tyU8),(1,tyFn),(241,tyU32),(277,zgi 24 5 tyU8),(132,tyGu),(72,zhL 9 132),(73,zhL 9 132),(76,tyFn),(75,tyFn),(56,tyFn)]
theorem T_ok:zaK Tryz.prog T:=tabOf_ok (by kernel_rfl)
theorem T3:T 3=some (zaF):=rfl
theorem T2:T 2=some (zaF):=rfl
theorem T4:T 4=some (zdn):=rfl
theorem T203:T 203=some (zjG):=rfl
theorem T9:T 9=some (tyStr):=rfl
theorem T32:T 32=some (tySl 9):=rfl
theorem T47:T 47=some (tySl 3):=rfl
theorem T49:T 49=some (zaF):=rfl
theorem T25:T 25=some (zaF):=rfl
theorem T51:T 51=some (tyNd):=rfl
theorem T22:T 22=some (tySl 51):=rfl
theorem T34:T 34=some (tySl 22):=rfl
theorem T166:T 166=some (tyRd):=rfl
theorem T68:T 68=some (tySn):=rfl
theorem T245:T 245=some (zhL 9 3):=rfl
theorem T232:T 232=some (tyGu):=rfl
theorem T20:T 20=some (tyI):=rfl
theorem T5:T 5=some (tyU8):=rfl
theorem T107:T 107=some (tyBld 104 105):=rfl
theorem T104:T 104=some (zeg 107):=rfl
theorem T105:T 105=some (tySl 5):=rfl
theorem T159:T 159=some (zjG):=rfl
theorem T151:T 151=some (zeg 5):=rfl
theorem T108:T 108=some (tyFn):=rfl
theorem T109:T 109=some (zgi 6 108 tyFn):=rfl
theorem T111:T 111=some (tyWr):=rfl
theorem T102:T 102=some (zeg 111):=rfl
theorem T158:T 158=some (tyCr):=rfl
theorem T189:T 189=some (zeg 158):=rfl
theorem T193:T 193=some (tyOp):=rfl
theorem T156:T 156=some (tySl 193):=rfl
theorem T194:T 194=some (zeg 193):=rfl
theorem T191:T 191=some (tyGu):=rfl
theorem T143:T 143=some (tyPr):=rfl
theorem T171:T 171=some (zeg 143):=rfl
theorem T140:T 140=some (tyPf):=rfl
theorem T146:T 146=some (zeg 140):=rfl
theorem T147:T 147=some (zeg 25):=rfl
theorem T96:T 96=some (tyI):=rfl
theorem T249:T 249=some (tyMb):=rfl
theorem T244:T 244=some (tySl 249):=rfl
theorem T257:T 257=some (zhL 9 51):=rfl
theorem T87:T 87=some (tyPt):=rfl
theorem T83:T 83=some (tySl 87):=rfl
theorem T116:T 116=some (tyPt):=rfl
theorem T124:T 124=some (tySe):=rfl
theorem T59:T 59=some (tySl 116):=rfl
theorem T179:T 179=some (tyI):=rfl
theorem T212:T 212=some (tyI):=rfl
theorem T215:T 215=some (tyI):=rfl
theorem T176:T 176=some (tyRV):=rfl
theorem T181:T 181=some (tyU8):=rfl
theorem T1:T 1=some (tyFn):=rfl
theorem T241:T 241=some (tyU32):=rfl
theorem T277:T 277=some (zgi 24 5 tyU8):=rfl
theorem T132:T 132=some (tyGu):=rfl
theorem T72:T 72=some (zhL 9 132):=rfl
theorem T73:T 73=some (zhL 9 132):=rfl
theorem T76:T 76=some (tyFn):=rfl
theorem T75:T 75=some (tyFn):=rfl
theorem T56:T 56=some (tyFn):=rfl
set_option linter.defProp false in
def TB:=And.intro T3 (And.intro T2 (And.intro T4 (And.intro T203 (And.intro T9 (And.intro T32 (And.intro T47 (And.intro T49 (And.intro T25 (And.intro T51 (And.intro T22 (And.intro T34 (And.intro T166 (And.intro T68 (And.intro T245 (And.intro T232 (And.intro T20 (And.intro T5 (And.intro T107 (And.intro T104 (And.intro T105 (And.intro T159 (And.intro T151 (And.intro T108 (And.intro T109 (And.intro T111 (And.intro T102 (And.intro T158 (And.intro T189 (And.intro T193 (And.intro T156 (And.intro T194 (And.intro T191 (And.intro T143 (And.intro T171 (And.intro T140 (And.intro T146 (And.intro T147 (And.intro T96 (And.intro T249 (And.intro T244 (And.intro T257 (And.intro T87 (And.intro T83 (And.intro T116 (And.intro T124 (And.intro T59 (And.intro T179 (And.intro T212 (And.intro T215 (And.intro T176 (And.intro T181 (And.intro T1 (And.intro T241 (And.intro T277 (And.intro T132 (And.intro T72 (And.intro T73 (And.intro T76 (And.intro T75 (T56))))))))))))))))))))))))))))))))))))))))))))))))))))))))))))
def powT:List Value:=Go.Lib.pow10Tab.map (Value.int .u64)
def rtypeV (g t:Nat):Value:=.iface 207 (.agg #[.pointer (some ⟨g,t,none⟩)])
instance globs:Globs:=⟨fun g=>match g with
 | 0=>some [rtypeV 9 96]
 | 6=>some powT
 | _=>none,[],[1],[5,4]⟩
structure Nd where
 kind:Int
 num:Int
 text:List UInt8
 kids:Int
 deriving DecidableEq
def n0d:Nd:=⟨0,0,[],0⟩
def nC (n:Nd):List AV:=[i64 n.kind,i64 n.num,str n.text,i64 n.kids]
def nA (n:Nd):AV:=.agg (nC n)
def nV (n:Nd):List Value:=[.int .i64 n.kind,.int .i64 n.num,.string ⟨n.text.toArray⟩,.int .i64 n.kids]
theorem zbx (n:Int):(i64 n).one=true:=rfl
theorem one_bl' (b:Bool):(bl b).one=true:=rfl
theorem one_sl (cs:List AV) (n:Nat):(AV.sl cs n).one=true:=rfl
theorem one_ref (id off n sz:Nat):(AV.ref id off n sz).one=true:=rfl
theorem zbN (n:Int):(i64 n).cells=[i64 n]:=rfl
theorem cells_bl' (b:Bool):(bl b).cells=[bl b]:=rfl
theorem zcE (b:List UInt8):(str b).cells=[str b]:=rfl
theorem zg2 (cs:List AV) (n:Nat):(AV.sl cs n).cells=[AV.sl cs n]:=rfl
theorem cells_ref (id off n sz:Nat):(AV.ref id off n sz).cells=[AV.ref id off n sz]:=rfl
section
variable {a b n : Nd} {σ : zaa} {K : AV → Prop} {KS : AV → zaa → Prop} {t : TypeId} {id : Nat}
theorem all_n:(nC n).all AV.one=true:=by
 simp only [nC,List.all_cons,zbx,zbV,List.all_nil,Bool.and_self]
theorem len_nC:(nC n).length=4:=rfl
theorem box_n {eB:TypeId}:wbox eB (nA n) σ KS=KS (.ptr σ.length 0) (σ++[.rw (nC n)]):=by
 simp only [wbox,nA,AV.cells,all_n,true_and,show zdH (nC n)=false from rfl,Bool.false_eq_true,if_false]
theorem ld_n:ld2 (some tyNd) (some (nC n)) 0 K=K (nA n):=by
 simp [ld2,wfin,tyNd,TD.agg,nA,nC]
theorem fa_n0 (ht:T t=some tyNd):zai T t (.ptr id 0) 0 K=K (.ptr id 0):=by simp [zai,ht,tyNd,T49,zaF]
theorem fa_n1 (ht:T t=some tyNd):zai T t (.ptr id 0) 1 K=K (.ptr id 1):=by simp [zai,ht,tyNd,T2,zaF]
theorem fa_n2 (ht:T t=some tyNd):zai T t (.ptr id 0) 2 K=K (.ptr id 2):=by simp [zai,ht,tyNd,T9,tyStr]
theorem fa_n3 (ht:T t=some tyNd):zai T t (.ptr id 0) 3 K=K (.ptr id 3):=by simp [zai,ht,tyNd,T3,zaF]
theorem ld_n0:ld2 (some zaF) (some (nC n)) 0 K=K (i64 n.kind):=by simp [ld2,wfin,zaF,TD.agg,nC]
theorem ld_n1:ld2 (some zaF) (some (nC n)) 1 K=K (i64 n.num):=by simp [ld2,wfin,zaF,TD.agg,nC]
theorem ld_n2:ld2 (some tyStr) (some (nC n)) 2 K=K (str n.text):=by simp [ld2,wfin,tyStr,TD.agg,nC]
theorem ld_n3:ld2 (some zaF) (some (nC n)) 3 K=K (i64 n.kids):=by simp [ld2,wfin,zaF,TD.agg,nC]
theorem st_n:st2 (some tyNd) (some (.rw (nC a))) id 0 (nA b) σ KS=KS (.lit undef) (σ.set id (.rw (nC b))):=by
 have h1:=@all_n b
 have h2:zaW (nC a) 0 (nC b)=nC b:=rfl
 simp only [st2,tyNd,nA,AV.cells,len_nC,h1,h2,true_and,Nat.zero_add,Nat.le_refl]
theorem st_n3 (k:Int):st2 (some zaF) (some (.rw (nC a))) id 3 (i64 k) σ KS=KS (.lit undef) (σ.set id (.rw (nC ⟨a.kind,a.num,a.text,k⟩))):=by
 simp [st2,zaF,nC,AV.cells,AV.one,Value.oneCell',zaW,i64]
theorem al_n (e:TypeId):al1 T e (some tyNd) σ KS=KS (.ptr σ.length 0) (σ++[.rw (nC n0d)]):=by
 simp [al1,tyNd,zaI,nC,n0d,i64,str]
theorem bd_n0 (ht:T t=some tyNd) (k:Int):zaM T t [(0,i64 k)] K=K (nA ⟨k,0,[],0⟩):=by
 simp [zaM,ht,tyNd,T3,T2,T49,T9,zbg,zaI,zbN,zbx,zaW,zaF,tyStr,nA,nC]
 try rfl
theorem bd_n02 (ht:T t=some tyNd) (k:Int) (j:List UInt8):zaM T t [(0,i64 k),(2,str j)] K=K (nA ⟨k,0,j,0⟩):=by
 simp [zaM,ht,tyNd,T3,T2,T49,T9,zbg,zaI,zbN,zbx,zcE,zbV,zaW,zaF,tyStr,nA,nC]
 try rfl
theorem zbu (ht:T t=some tyGu):zaM T t [] K=K (.agg []):=by
 simp [zaM,ht,tyGu,zbg,zaI]
theorem mkI2_gu (x:AV):mkI2 (some tyGu) t x K=K (.ifc t x):=mkI2_some rfl _ _
theorem fit_1 {t:TypeId} {ti:TI} {v:Value} (ht:T t=some ti) (h:scB ti.d v=true):fitE T 1 t [v]:=by
 simp only [fitE,ht]
 rcases zdi h with ⟨k,n,e,rfl⟩ | ⟨b,e,rfl⟩ | ⟨s,e,rfl⟩ <;> simp only [e] <;> exact⟨_,rfl,by simp [scB]⟩
theorem fit_n (n:Nd):fitE T 2 51 (nV n):=by
 rw [fitE]
 simp only [T51,tyNd]
 refine⟨trivial,rfl,rfl,?_⟩
 intro f hf
 simp only [List.mem_cons,List.not_mem_nil,or_false] at hf
 rcases hf with rfl | rfl | rfl | rfl
 ·exact⟨⟨_,T49⟩,fit_1 T49 rfl⟩
 ·exact⟨⟨_,T2⟩,fit_1 T2 rfl⟩
 ·exact⟨⟨_,T9⟩,fit_1 T9 rfl⟩
 ·exact⟨⟨_,T3⟩,fit_1 T3 rfl⟩
theorem nV_inj {a b:Nd} (h:nV a=nV b):a=b:=by
 obtain⟨a1,a2,a3,a4⟩:=a
 obtain⟨b1,b2,b3,b4⟩:=b
 simp only [nV,List.cons.injEq,Value.int.injEq,true_and,Value.string.injEq,ByteArray.mk.injEq,and_true] at h
 obtain⟨rfl,rfl,h,rfl⟩:=h
 simp at h
 rw [h]
theorem eqP_n (a b:Nd):eqP T 51 (nC a) (nC b) (2,nV a,nV b,decide (a=b)) :=
 ⟨rfl,rfl,(by show 2≤100;omega),⟨tyNd,T51,rfl⟩,fit_n a,fit_n b,by simp only [decide_eq_true_eq];exact⟨fun h=>by rw [h],fun h=>nV_inj h⟩⟩
theorem eqP_val {a b:Nd} {q:Nat × List Value × List Value × Bool} (h:eqP T 51 (nC a) (nC b) q):q.2.2.2=decide (a=b):=by
 obtain⟨h1,h2,_,_,_,_,h3⟩:=h
 have lits:∀ {l r:List Value},zaI l=zaI r→l=r:=by
  intro l
  induction l with
  | nil=>intro r h;cases r with | nil=>rfl | cons _ _=>cases h
  | cons x l ih =>
   intro r h
   cases r with
   | nil=>cases h
   | cons y r =>
    simp only [zaI,List.map_cons,List.cons.injEq,AV.lit.injEq] at h
    rw [h.1,ih h.2]
 have e1:=lits (l:=nV a) h1
 have e2:=lits (l:=nV b) h2
 rw [Bool.eq_iff_iff,h3,← e1,← e2,decide_eq_true_eq]
 exact⟨nV_inj,fun h=>by rw [h]⟩
theorem bin_n_eql:wbin T .eql 51 (nA a) (nA b) K=K (bl (decide (a=b))):=by
 apply propext
 constructor
 ·rintro⟨q,hq,hk⟩
  rw [← eqP_val hq]
  exact hk
 ·exact fun hk=>⟨_,eqP_n a b,hk⟩
theorem bin_n_neq:wbin T .neq 51 (nA a) (nA b) K=K (bl (!decide (a=b))):=by
 apply propext
 constructor
 ·rintro⟨q,hq,hk⟩
  rw [← eqP_val hq]
  exact hk
 ·exact fun hk=>⟨_,eqP_n a b,hk⟩
theorem set_n1 (k:Int):(nC a).set 1 (i64 k)=nC ⟨a.kind,k,a.text,a.kids⟩:=rfl
theorem set_n2 (k:List UInt8):(nC a).set 2 (str k)=nC ⟨a.kind,a.num,k,a.kids⟩:=rfl
theorem set_n3 (k:Int):(nC a).set 3 (i64 k)=nC ⟨a.kind,a.num,a.text,k⟩:=rfl
end
def zhT (n:Nd):Nd :=
 if n.kind=1 then (if n.num=1 then ⟨1,1,[],0⟩ else ⟨1,0,[],0⟩)
 else if n.kind=2 then ⟨2,n.num,[],0⟩
 else if n.kind=3 then ⟨3,0,n.text,0⟩
 else if n.kind=4∨n.kind=5 then ⟨n.kind,0,[],max n.kids 0⟩
 else ⟨n.kind,0,[],0⟩
def za9 (n:Nd):Bool:=decide (0≤n.kind) && decide (n.kind≤5) && decide (n=zhT n)
theorem alone_ok (n:Nd):ACalls Tryz.prog 171 [nA n] [] (fun y _=>y=.ret (bl (za9 n))):=by
 refine ACalls.body T_ok Tryz.func171 (by kernel_rfl) rfl Tryz.ntmps171 (congrArg Array.toList Tryz.results171) ?_
 try simp -implicitDefEqProofs only [LB0,LB1,LB2,zg2,box_n,ld_n,fa_n0 T51,fa_n1 T51,fa_n2 T51,fa_n3 T51,ld_n0,ld_n1,ld_n2,ld_n3,st_n,st_n3,al_n,bd_n0 T51,bd_n02 T51,zbu T232,mkI2_gu,bin_n_eql,bin_n_neq,set_n1,set_n2,set_n3,len_nC,eq_self,TB,SB,Int.reduceToNat,Nat.reduceAdd,Nat.reduceEqDiff,Nat.reduceLT,Nat.reduceMod,Nat.reducePow,Nat.reduceSub,if_true,reduceIte]
 have fin:∀ (b:Bool) (σ:zaa),b=za9 n→endQ 0 (bl b) σ (fun r _=>AEnd.ret r=AEnd.ret (bl (za9 n))):=fun b σ h=>zaT (by rw [h])
 refine⟨fun h=>fin _ _ ?_,fun h0=>⟨fun h=>⟨fun h'=>fin _ _ ?_,fun h'=>fin _ _ ?_⟩,fun h1=>⟨fun h=>fin _ _ ?_,fun h2=>⟨fun h=>fin _ _ ?_,fun h3=>⟨fun h=>⟨fun h'=>fin _ _ ?_,fun h'=>absurd h h'⟩,fun h4=>⟨fun h=>fin _ _ ?_,fun h5=>fin _ _ ?_⟩⟩⟩⟩⟩⟩
 rotate_right
 ·have:(decide (0≤n.kind) && decide (n.kind≤5))=false:=by
   rw [Bool.and_eq_false_iff,decide_eq_false_iff_not,decide_eq_false_iff_not]
   omega
  simp only [za9,this,Bool.false_and]
 all_goals (simp only [za9,zhT])
 all_goals (simp [h, *])
end Go.Proofs.YtcahoelfogjljaaGreatDoor
end

section
namespace Go.Proofs.YtcahoelfogjljaaGreatDoor
open Go Go.Eng
def slN (l:List Nd):AV:=.sl (l.flatMap nC) l.length
theorem zbv (l:List Nd):(l.flatMap nC).length=l.length * 4:=by
 induction l with
 | nil=>rfl
 | cons a l ih=>rw [List.flatMap_cons,List.length_append,ih];simp [nC];omega
theorem flatN_drop (l:List Nd) (k:Nat):(l.flatMap nC).drop (k * 4)=(l.drop k).flatMap nC:=by
 induction l generalizing k with
 | nil=>simp
 | cons a l ih =>
  cases k with
  | zero=>simp
  | succ k =>
   rw [List.flatMap_cons,List.drop_succ_cons,← ih,Nat.succ_mul,show k * 4+4=4+k * 4 by omega,List.drop_append]
   simp [nC]
section
variable {l : List Nd} {σ : zaa} {K : AV → Prop} {KS : AV → zaa → Prop} {t : TypeId} {id : Nat}
theorem ia_N (m:Nat) (k:Int):ia3 (some tyNd) (.sl (l.flatMap nC) m) k K=(0≤k∧k < m∧m * 4≤l.length * 4∧K (.rp ((l.drop k.toNat).flatMap nC))):=by
 have:=flatN_drop l k.toNat
 simp only [ia3,tyNd,zbv,this,Nat.zero_lt_succ,true_and]
theorem ld_N (k:Nat):ld2 (some tyNd) (some ((l.drop k).flatMap nC)) 0 K=(k < l.length∧K (nA (l.getD k n0d))):=by
 by_cases h:k < l.length
 ·rw [List.drop_eq_getElem_cons h,List.flatMap_cons]
  simp [ld2,wfin,tyNd,TD.agg,nC,nA,h]
  try (intro _;omega)
 ·rw [show l.drop k=[] from List.drop_eq_nil_of_le (by omega)]
  simp [ld2,wfin,tyNd,h]
theorem fa_N0 (ht:T t=some tyNd) (cs:List AV):zai T t (.rp cs) 0 K=K (.rp cs):=by simp [zai,ht,tyNd,T49,zaF]
theorem fa_N2 (ht:T t=some tyNd) (cs:List AV):zai T t (.rp cs) 2 K=K (.rp (cs.drop 2)):=by simp [zai,ht,tyNd,T9,tyStr]
theorem fa_N3 (ht:T t=some tyNd) (cs:List AV):zai T t (.rp cs) 3 K=K (.rp (cs.drop 3)):=by simp [zai,ht,tyNd,T3,zaF]
theorem ldf_N0 (k:Nat):ld2 (some zaF) (some ((l.drop k).flatMap nC)) 0 K=(k < l.length∧K (i64 (l.getD k n0d).kind)):=by
 by_cases h:k < l.length
 ·rw [List.drop_eq_getElem_cons h,List.flatMap_cons]
  simp [ld2,wfin,zaF,TD.agg,nC,h]
  try (intro _;omega)
 ·rw [show l.drop k=[] from List.drop_eq_nil_of_le (by omega)]
  simp [ld2,wfin,zaF,h]
theorem ldf_N2 (k:Nat):ld2 (some tyStr) (some (((l.drop k).flatMap nC).drop 2)) 0 K=(k < l.length∧K (str (l.getD k n0d).text)):=by
 by_cases h:k < l.length
 ·rw [List.drop_eq_getElem_cons h,List.flatMap_cons]
  simp [ld2,wfin,tyStr,TD.agg,nC,h]
  try (intro _;omega)
 ·rw [show l.drop k=[] from List.drop_eq_nil_of_le (by omega)]
  simp [ld2,wfin,tyStr,h]
theorem ldf_N3 (k:Nat):ld2 (some zaF) (some (((l.drop k).flatMap nC).drop 3)) 0 K=(k < l.length∧K (i64 (l.getD k n0d).kids)):=by
 by_cases h:k < l.length
 ·rw [List.drop_eq_getElem_cons h,List.flatMap_cons]
  simp [ld2,wfin,zaF,TD.agg,nC,h]
  try (intro _;omega)
 ·rw [show l.drop k=[] from List.drop_eq_nil_of_le (by omega)]
  simp [ld2,wfin,zaF,h]
def rdC (l:List Nd) (j n:Nat) (d:Int):List AV:=[.sl (l.flatMap nC) l.length,.ref j 0 n 1,i64 d]
theorem fa_r0 (ht:T t=some tyRd):zai T t (.ptr id 0) 0 K=K (.ptr id 0):=by simp [zai,ht,tyRd,T22,tySl]
theorem fa_r1 (ht:T t=some tyRd):zai T t (.ptr id 0) 1 K=K (.ptr id 1):=by simp [zai,ht,tyRd,T47,tySl]
theorem fa_r2 (ht:T t=some tyRd):zai T t (.ptr id 0) 2 K=K (.ptr id 2):=by simp [zai,ht,tyRd,T3,zaF]
theorem ld_r0 (e:TypeId) (j n:Nat) (d:Int):ld2 (some (tySl e)) (some (rdC l j n d)) 0 K=K (.sl (l.flatMap nC) l.length):=by simp [ld2,wfin,tySl,TD.agg,rdC]
theorem ld_r1 (e:TypeId) (j n:Nat) (d:Int):ld2 (some (tySl e)) (some (rdC l j n d)) 1 K=K (.ref j 0 n 1):=by simp [ld2,wfin,tySl,TD.agg,rdC]
theorem ld_r2 (j n:Nat) (d:Int):ld2 (some zaF) (some (rdC l j n d)) 2 K=K (i64 d):=by simp [ld2,wfin,zaF,TD.agg,rdC]
theorem al_r (e:TypeId):al1 T e (some tyRd) σ KS=KS (.ptr σ.length 0) (σ++[.rw [nilS,nilS,i64 0]]):=by
 simp [al1,tyRd,zaI,nilS,i64]
theorem bd_r (ht:T t=some tyRd) (cs:List AV) (m j n:Nat):zaM T t [(0,.sl cs m),(1,.ref j 0 n 1)] K=K (.agg [.sl cs m,.ref j 0 n 1,i64 0]):=by
 simp [zaM,ht,tyRd,T3,T47,T22,zbg,zaI,zg2,one_sl,cells_ref,one_ref,zaW,zaF,tySl,i64]
theorem st_r (x y:AV) (cs:List AV) (m j n:Nat) (d:Int):st2 (some tyRd) (some (.rw [x,y,i64 0])) id 0 (.agg [.sl cs m,.ref j 0 n 1,i64 d]) σ KS=KS (.lit undef) (σ.set id (.rw [.sl cs m,.ref j 0 n 1,i64 d])):=by
 simp [st2,tyRd,AV.cells,one_sl,one_ref,zbx,zaW]
end
theorem ia_ref_i64 (id off len:Nat) (n:Int) {K:AV→Prop}:ia3 (some zaF) (.ref id off len 1) n K=(0≤n∧n < len∧K (.ptr id (off+n.toNat))):=ia3_ref1 zhH _ _ _ _
theorem set_mapI (l:List Int) (k:Nat) (x:Int):(l.map i64).set k (i64 x)=(l.set k x).map i64:=by rw [List.map_set]
theorem bin_str_leq {t:TypeId} {K:AV→Prop} (a b:List UInt8):wbin T .leq t (str a) (str b) K=K (bl (Op.bytesLess a b || decide (a=b))):=by simp [wbin,str,strV,bl]
theorem bin_str_geq {t:TypeId} {K:AV→Prop} (a b:List UInt8):wbin T .geq t (str a) (str b) K=K (bl (!Op.bytesLess a b)):=by simp [wbin,str,strV,bl]
theorem zac (q:List Nat) (n:Nd):renL q (nC n)=some (nC n):=by simp only [nC,renL,zam,zag,Option.map,bind,Option.bind,pure]
theorem zbX (q:List Nat) (n:Nd):(nA n).ren q=some (nA n):=by simp only [nA,AV.ren,zac,Option.map]
theorem renL_app (q:List Nat):∀ (l m:List AV),renL q l=some l→renL q m=some m→renL q (l++m)=some (l++m)
 | [],m,_,h=>h
 | a::l,m,h1,h2=>by
  simp only [renL,Option.bind_eq_some_iff,Option.map_eq_some_iff] at h1
  obtain⟨a',h3,l',h4,h5⟩:=h1
  simp only [List.cons.injEq] at h5
  obtain⟨rfl,rfl⟩:=h5
  simp only [List.cons_append,renL,h3,renL_app q l' m h4 h2,Option.bind_some,Option.map_some]
theorem zao (q:List Nat):∀ l:List Nd,renL q (l.flatMap nC)=some (l.flatMap nC)
 | []=>rfl
 | a::l=>by rw [List.flatMap_cons];exact renL_app q _ _ (zac q a) (zao q l)
theorem ren_slN (q:List Nat) (l:List Nd) (n:Nat):(AV.sl (l.flatMap nC) n).ren q=some (.sl (l.flatMap nC) n):=by simp only [AV.ren,zao,Option.map]
theorem zek (q:List Nat) (l:List Nd) (j n:Nat) (d:Int):renL q (rdC l j n d)=(q[j]?).map fun j'=>rdC l j' n d:=by
 simp only [rdC,renL,AV.ren,zao,zam,Option.map_some,Option.bind_some]
 cases q[j]? <;> rfl
theorem retQ_pan (rs : List ResultVar) (KK : AEnd → zaa → Prop) (n0 : Nat) (r : AV) (env : Env) (σ : zaa) : retQ T n0 rs KK (.pan r) env σ = endQ n0 r σ (fun r σ' => KK (.pan r) σ') := rfl
theorem set_r2 (l:List Nd) (j n:Nat) (d k:Int):(rdC l j n d).set 2 (i64 k)=rdC l j n k:=rfl
theorem len_rdC (l:List Nd) (j n:Nat) (d:Int):(rdC l j n d).length=3:=rfl
theorem mk_i64 {σ:zaa} {KS:AV→zaa→Prop} (l c:Int):mk2 (some zaF) l c σ KS=(0≤l∧l≤c∧c≤9223372036854775807∧c * (8:Nat)≤281474976710656∧KS (.ref σ.length 0 l.toNat 1) (σ++[.rw (List.replicate l.toNat (i64 0))])):=mk2_one zhH _ _
theorem setp_2 (env:Env) (t u:Tmp) (a b:AV):setp env [t,u] [a,b]=(env.set t a).set u b:=rfl
theorem zeu (q:List Nat) (l:List Int):renL q (l.map i64)=some (l.map i64):=zax i64 zam q l
def leB (a b:List UInt8):Bool:=Op.bytesLess a b || decide (a=b)
def aftB (last:Option (List UInt8)) (t:List UInt8):Bool:=match last with
 | some s=>!leB t s
 | none=>true
theorem zgm {n:Nd} (h:za9 n=true):0≤n.kids:=by
 simp only [za9,Bool.and_eq_true,decide_eq_true_eq] at h
 have:=congrArg Nd.kids h.2
 rw [zhT] at this
 split at this
 ·split at this <;> simp only at this <;> omega
 ·split at this
  ·simp only at this;omega
  ·split at this
   ·simp only at this;omega
   ·split at this <;> simp only at this <;> omega
def zbO (V:Nat→Option (Nat × Nat)) (l:List Nd) (mp:Bool):Nat→Option (List UInt8)→Nat→Nat→Option (Nat × Nat)
 | 0,_,e,d=>some (e,d)
 | c+1,last,e,d =>
  if mp then
   match l[e]? with
   | some k=>if za9 k && decide (k.kind=3) && aftB last k.text then
     match V (e+1) with
     | some r=>zbO V l mp c (some k.text) r.1 (max d r.2)
     | none=>none
    else none
   | none=>none
  else
   match V e with
   | some r=>zbO V l mp c last r.1 (max d r.2)
   | none=>none
def val (l:List Nd):Nat→Nat→Option (Nat × Nat)
 | 0,_=>none
 | f+1,at'=>match l[at']? with
  | some n=>if za9 n then (zbO (val l f) l (decide (n.kind=5)) n.kids.toNat none (at'+1) 0).map fun r=>(r.1,r.2+1) else none
  | none=>none
theorem zfP {V:Nat→Option (Nat × Nat)} {l:List Nd} {mp:Bool} (hV:∀ e r,V e=some r→e < r.1∧r.1≤l.length):∀ (c:Nat) (last:Option (List UInt8)) (e d:Nat) (r:Nat × Nat),e≤l.length→zbO V l mp c last e d=some r→e≤r.1∧r.1≤l.length∧d≤r.2
 | 0,last,e,d,r,he,h=>by
  simp only [zbO,Option.some.injEq] at h
  subst h
  exact⟨Nat.le_refl _,he,Nat.le_refl _⟩
 | c+1,last,e,d,r,he,h=>by
  simp only [zbO] at h
  split at h
  ·split at h
   ·split at h
    ·split at h
     ·rename_i r' hr'
      have h1:=hV _ _ hr'
      have h2:=zfP hV c _ _ _ _ h1.2 h
      exact⟨by omega,h2.2.1,by omega⟩
     ·cases h
    ·cases h
   ·cases h
  ·split at h
   ·rename_i r' hr'
    have h1:=hV _ _ hr'
    have h2:=zfP hV c _ _ _ _ h1.2 h
    exact⟨by omega,h2.2.1,by omega⟩
   ·cases h
theorem val_le {l:List Nd}:∀ (f at':Nat) (r:Nat × Nat),val l f at'=some r→at' < r.1∧r.1≤l.length
 | 0,_,_,h=>by cases h
 | f+1,at',r,h=>by
  simp only [val] at h
  split at h
  ·rename_i n hn
   have hlt:=(List.getElem?_eq_some_iff.1 hn).1
   split at h
   ·rw [Option.map_eq_some_iff] at h
    obtain⟨q,h1,rfl⟩:=h
    have:=zfP (val_le (l:=l) f) _ _ _ _ _ (by omega) h1
    exact⟨by omega,this.2.1⟩
   ·cases h
  ·cases h
theorem zdp {V V':Nat→Option (Nat × Nat)} {l:List Nd} {mp:Bool} (hV:∀ e r,V e=some r→e < r.1) (a:Nat) (h:∀ e,a≤e→V e=V' e):∀ (c:Nat) (last:Option (List UInt8)) (e d:Nat),a≤e→zbO V l mp c last e d=zbO V' l mp c last e d
 | 0,_,_,_,_=>rfl
 | c+1,last,e,d,he=>by
  simp only [zbO]
  rw [← h e he,← h (e+1) (by omega)]
  have i1:∀ r,V (e+1)=some r→∀ last,zbO V l mp c last r.1 (max d r.2)=zbO V' l mp c last r.1 (max d r.2):=fun r hr last=>zdp hV a h c _ _ _ (by have:=hV _ _ hr;omega)
  have i2:∀ r,V e=some r→∀ last,zbO V l mp c last r.1 (max d r.2)=zbO V' l mp c last r.1 (max d r.2):=fun r hr last=>zdp hV a h c _ _ _ (by have:=hV _ _ hr;omega)
  cases h1:V (e+1) with
  | none=>cases h2:V e with
   | none=>rfl
   | some r=>simp only [i2 r h2]
  | some r'=>cases h2:V e with
   | none=>simp only [i1 r' h1]
   | some r=>simp only [i1 r' h1,i2 r h2]
theorem val_fuel {l:List Nd}:∀ (f f' at':Nat),l.length≤at'+f→l.length≤at'+f'→val l f at'=val l f' at'
 | 0,0,_,_,_=>rfl
 | 0,f'+1,at',h,_=>by
  have:l[at']?=none:=List.getElem?_eq_none (by omega)
  simp only [val,this]
 | f+1,0,at',_,h=>by
  have:l[at']?=none:=List.getElem?_eq_none (by omega)
  simp only [val,this]
 | f+1,f'+1,at',h,h'=>by
  simp only [val]
  cases hn:l[at']? with
  | none=>rfl
  | some n =>
   simp only
   rw [zdp (fun e r hr=>(val_le f e r hr).1) (at'+1) (fun e he=>val_fuel f f' e (by omega) (by omega)) _ _ _ _ (Nat.le_refl _)]
def vl (l:List Nd) (at':Nat):Option (Nat × Nat):=val l (l.length - at') at'
theorem zdq {l:List Nd} {at':Nat} {r:Nat × Nat} (h:vl l at'=some r):at' < r.1∧r.1≤l.length:=val_le _ _ _ h
theorem vl_eq (l:List Nd) (at':Nat):vl l at'=match l[at']? with
  | some n=>if za9 n then (zbO (vl l) l (decide (n.kind=5)) n.kids.toNat none (at'+1) 0).map fun r=>(r.1,r.2+1) else none
  | none=>none:=by
 unfold vl
 cases hn:l[at']? with
 | none =>
  have:=List.getElem?_eq_none_iff.1 hn
  rw [show l.length - at'=0 by omega]
  rfl
 | some n =>
  have hlt:=(List.getElem?_eq_some_iff.1 hn).1
  rw [show l.length - at'=(l.length - at' - 1)+1 by omega]
  simp only [val,hn]
  rw [zdp (fun e r hr=>(val_le _ e r hr).1) (at'+1) (fun e he=>val_fuel _ (l.length - e) e (by omega) (by omega)) _ _ _ _ (Nat.le_refl _)]
def zew (l:List Nd) (p:Nat):Int:=match vl l p with
 | some r=>r.1
 | none=>0
theorem vl_text {l:List Nd} {p:Nat} {k:Nd} (hk:l[p]?=some k) (ha:za9 k=true) (h3:k.kind=3):vl l p=some (p+1,1):=by
 rw [vl_eq,hk]
 have hkids:k.kids=0:=by
  simp only [za9,Bool.and_eq_true,decide_eq_true_eq] at ha
  have:=congrArg Nd.kids ha.2
  rw [zhT] at this
  simpa [h3] using this
 simp only [ha,if_true,hkids,Int.toNat_zero,zbO,Option.map_some]
def updE (l:List Nd) (es:List Int) (a b:Nat):List Int:=es.mapIdx fun p x=>if a≤p∧p < b then zew l p else x
theorem zc4 (l:List Nd) (es:List Int) (a b:Nat):(updE l es a b).length=es.length:=by simp [updE]
theorem updE_none (l:List Nd) (es:List Int) (a:Nat):updE l es a a=es:=by
 apply List.ext_getElem? ;intro i
 simp only [updE,List.getElem?_mapIdx]
 rw [show (fun x=>if a≤i∧i < a then zew l i else x)=(fun x:Int=>x) by funext x;rw [if_neg (by omega)]]
 simp
theorem zgn (l:List Nd) (es:List Int) {a b c:Nat} (h1:a≤b) (h2:b≤c):updE l (updE l es a b) b c=updE l es a c:=by
 apply List.ext_getElem? ;intro i
 simp only [updE,List.getElem?_mapIdx,Option.map_map]
 congr 1
 funext x
 simp only [Function.comp]
 by_cases h3:a≤i∧i < b
 ·rw [if_neg (by omega),if_pos h3,if_pos (by omega)]
 ·by_cases h4:b≤i∧i < c
  ·rw [if_pos h4,if_pos (by omega)]
  ·rw [if_neg h4,if_neg h3,if_neg (by omega)]
theorem updE_set (l:List Nd) (es:List Int) {a b:Nat} (h1:a < b):(updE l es (a+1) b).set a (zew l a)=updE l es a b:=by
 apply List.ext_getElem? ;intro i
 rw [List.getElem?_set,zc4]
 simp only [updE,List.getElem?_mapIdx]
 by_cases h:a=i
 ·subst h
  by_cases hl:a < es.length
  ·simp [hl,h1]
  ·simp [hl]
 ·rw [if_neg h]
  congr 1
  funext x
  by_cases h3:a+1≤i∧i < b
  ·rw [if_pos h3,if_pos (by omega)]
  ·rw [if_neg h3,if_neg (by omega)]
end Go.Proofs.YtcahoelfogjljaaGreatDoor
end

section
namespace Go.Proofs.YtcahoelfogjljaaGreatDoor
open Go Go.Eng
set_option linter.defProp false in
def LB3:=And.intro @zg2 (And.intro (fun {K} {id}=>@fa_n0 K _ id T51) (And.intro (fun {K} {id}=>@fa_n1 K _ id T51) (And.intro (fun {K} {id}=>@fa_n2 K _ id T51) (And.intro (fun {K} {id}=>@fa_n3 K _ id T51) (And.intro @ld_n0 (And.intro @ld_n1 (And.intro @ld_n2 (And.intro @ld_n3 (And.intro @st_n (@al_n))))))))))
set_option linter.defProp false in
def LB4:=And.intro @box_n (And.intro @ld_n (And.intro @st_n3 (And.intro (fun {K}=>@bd_n0 K _ T51) (And.intro (fun {K}=>@bd_n02 K _ T51) (And.intro (fun {K}=>@zbu K _ T232) (And.intro @mkI2_gu (And.intro @bin_n_eql (And.intro @bin_n_neq (And.intro @set_n1 (And.intro @set_n2 (And.intro @set_n3 (And.intro @len_nC (And.intro (fun {K} {id}=>@fa_r0 K _ id T166) (And.intro (fun {K} {id}=>@fa_r1 K _ id T166) (And.intro (fun {K} {id}=>@fa_r2 K _ id T166) (And.intro @ld_r0 (And.intro @ld_r1 (And.intro @ld_r2 (And.intro (fun {K}=>@bd_r K _ T166) (And.intro @st_r (And.intro @al_r (And.intro @ia_N (And.intro @ld_N (And.intro @ia_ref_i64 (And.intro @set_mapI (And.intro (fun {K}=>@fa_N0 K _ T51) (And.intro (fun {K}=>@fa_N2 K _ T51) (And.intro (fun {K}=>@fa_N3 K _ T51) (And.intro @ldf_N0 (And.intro @ldf_N2 (And.intro @ldf_N3 (And.intro @retQ_pan (And.intro @set_r2 (And.intro @len_rdC (And.intro @bin_str_geq (And.intro @bin_str_leq (And.intro @recQ_ret (And.intro @recQ_pan (And.intro @mk_i64 (And.intro @setp_1 (And.intro @setp_2 (And.intro @wres_nil (And.intro @wres_cell (And.intro @wres_tmp (And.intro @packR_1 (And.intro @packR_2 (And.intro @packR_3 (And.intro @retQ_wres (And.intro @endD_normal (And.intro @st_nilc (And.intro @al_bl (And.intro @ld_bl1 (And.intro @al_i64 (And.intro @al_sl (And.intro @st_slc (And.intro @ld_i64 (@ld_sl1)))))))))))))))))))))))))))))))))))))))))))))))))))))))))
set_option linter.defProp false in
def LM0:=And.intro LB0 (And.intro LB2 (And.intro LB3 (LB4)))
def gu:AV:=.ifc 232 (.agg [])
theorem zfQ (q:List Nat):gu.ren q=some gu:=rfl
def za3 (l:List Nd) (p:Nat):Option Nd:=match l[p]? with
 | some n=>if za9 n then some n else none
 | none=>none
def zfo (l:List Nd) (p:Nat):AEnd:=match za3 l p with
 | some n=>.ret (nA n)
 | none=>.pan gu
abbrev rdS (l:List Nd) (es:List Int) (d:Int):zaa:=[.rw (rdC l 1 l.length d),.rw (es.map i64)]
theorem zfp {l:List Nd} {es:List Int} {d:Int} {r:AV} {junk:zaa} {K:AV→zaa→Prop} (hr:r.ren [0,1]=some r) (h:K r (rdS l es d)):endQ 2 r (.rw (rdC l 1 l.length d)::.rw (es.map i64)::junk) K:=by
 refine .inl ⟨[0,1],r,rdS l es d,rfl,rfl,by decide,hr,?_,h⟩
 simp [zal,zaD,zek,zeu]
theorem node_ok (l:List Nd) (es:List Int) (d:Int) (p:Nat) (hl:l.length≤1000) (hp:p≤1000):ACalls Tryz.prog 143 [.ptr 0 0,i64 p] (rdS l es d) (fun y σ=>y=zfo l p∧σ=rdS l es d):=by
 refine ACalls.body T_ok Tryz.func143 (by kernel_rfl) rfl Tryz.ntmps143 (congrArg Array.toList Tryz.results143) ?_
 refine aQ23 ?_
 by_cases h:l.length≤p
 ·rw [decide_eq_true (by omega:(l.length:Int)≤p)]
  refine aQ23 ?_
  have hn:zfo l p=.pan gu:=by
   simp only [zfo,za3,List.getElem?_eq_none h]
  rw [hn]
  exact zfp (zfQ _) ⟨rfl,rfl⟩
 ·rw [decide_eq_false (by omega:¬ (l.length:Int)≤p)]
  refine aQ23 ?_
  repeat (with_reducible refine zbW ?_)
  refine(alone_ok (l.getD p n0d)).pure aQ14 ?_
  rintro _ σ rfl
  refine⟨by first | rfl | simp [AEnd.noid,AV.ren,renL,za5,zax str zag,za8,za4,zaU,zam,zad,zag],?_⟩
  refine aQ23 ?_
  have hg:l[p]?=some (l.getD p n0d):=by
   rw [List.getElem?_eq_getElem (by omega)]
   simp [show p < l.length by omega]
  cases ha:za9 (l.getD p n0d) with
  | true =>
   refine aQ23 ?_
   repeat (with_reducible refine zbW ?_)
   have hn:zfo l p=.ret (nA (l.getD p n0d)):=by
    simp only [zfo,za3,hg,ha,if_true]
   rw [hn]
   exact zfp (zbX _ _) ⟨rfl,rfl⟩
  | false =>
   refine aQ23 ?_
   have hn:zfo l p=.pan gu:=by
    simp only [zfo,za3,hg,ha,Bool.false_eq_true,if_false]
   rw [hn]
   exact zfp (zfQ _) ⟨rfl,rfl⟩
def keyK (l:List Nd) (es:List Int) (d:Int) (p:Nat) (first:Bool) (last:List UInt8):AEnd→zaa→Prop:=fun y σ =>
 match za3 l p with
 | some n=>if n.kind=3∧(first=true∨leB n.text last=false) then y=.ret (str n.text)∧σ=rdS l (es.set p (p+1)) d else y=.pan gu∧σ=rdS l es d
 | none=>y=.pan gu∧σ=rdS l es d
theorem zbb {l:List Nd} {p:Nat} {n:Nd} (h:za3 l p=some n):p < l.length∧l[p]?=some n∧za9 n=true:=by
 unfold za3 at h
 split at h
 ·rename_i n' hn
  split at h
  ·rename_i ha
   cases h
   exact⟨(List.getElem?_eq_some_iff.1 hn).1,hn,ha⟩
  ·cases h
 ·cases h
theorem zjf {f:FuncId} {ags:List AV} {l:List Nd} {es:List Int} {d:Int} {n:Nd} {K K0:AEnd→zaa→Prop} (h:ACalls Tryz.prog f ags (rdS l es d) K0) (has:renL [0,1] ags=some ags)
  (hk:∀ y σ,K0 y σ→∃ es' d',σ=rdS l es' d'∧AEnd.ren [0,1,2] y y∧K y [.rw (rdC l 1 l.length d'),.rw (es'.map i64),.rw (nC n)]):ACalls Tryz.prog f ags [.rw (rdC l 1 l.length d),.rw (es.map i64),.rw (nC n)] K:=by
 refine ACalls.frame [0,1] h rfl (by decide) (by simp [zal,zaD,zek,zeu]) has ?_
 rintro y σ hy
 obtain⟨es',d',rfl,hr,hK⟩:=hk y σ hy
 refine⟨y,_,?_,hr,hK⟩
 show zaq _ _ [0,1,2] [0,1,2] 0 _
 simp [zaq,zaD,zek,zeu,zac]
theorem key_ok (l:List Nd) (es:List Int) (d:Int) (p:Nat) (first:Bool) (last:List UInt8) (hl:l.length≤1000) (hp:p≤1000) (he:es.length=l.length):ACalls Tryz.prog 144 [.ptr 0 0,i64 p,bl first,str last] (rdS l es d) (keyK l es d p first last):=by
 refine ACalls.body T_ok Tryz.func144 (by kernel_rfl) rfl Tryz.ntmps144 (congrArg Array.toList Tryz.results144) ?_
 refine aQ23 ?_
 refine(node_ok l es d p hl hp).mono ?_
 rintro y σ ⟨rfl,rfl⟩
 cases hn:za3 l p with
 | none =>
  have hnk:zfo l p=.pan gu:=by simp only [zfo,hn]
  rw [hnk]
  refine aQ23 ?_
  exact zaG (by simp only [keyK,hn];exact⟨trivial,trivial⟩)
 | some n =>
  have hnk:zfo l p=.ret (nA n):=by simp only [zfo,hn]
  obtain⟨hlt,hget,ha⟩:=zbb hn
  rw [hnk]
  refine aQ23 ?_
  have bad : ¬ (n.kind = 3 ∧ (first = true ∨ leB n.text last = false)) → endQ 2 gu [.rw (rdC l 1 l.length d), .rw (es.map i64), .rw (nC n)] (fun r σ' => keyK l es d p first last (.pan r) σ') := fun hb =>
   zfp (zfQ _) (by simp only [keyK,hn,if_neg hb];exact⟨trivial,trivial⟩)
  have good : (n.kind = 3 ∧ (first = true ∨ leB n.text last = false)) → endQ 2 (str n.text) [.rw (rdC l 1 l.length d), .rw ((es.set p (p + 1)).map i64), .rw (nC n)] (fun r σ' => keyK l es d p first last (.ret r) σ') := fun hb =>
   zfp (zag _ _) (by simp only [keyK,hn,if_pos hb];exact⟨trivial,trivial⟩)
  by_cases h3:n.kind=3
  ·rw [decide_eq_true h3]
   refine aQ23 ?_
   cases first with
   | true =>
    refine aQ23 ?_
    repeat (with_reducible refine zbW ?_)
    exact good ⟨h3,.inl rfl⟩
   | false =>
    refine aQ23 ?_
    have e:(Op.bytesLess n.text last || decide (n.text=last))=leB n.text last:=rfl
    rw [e]
    cases hle:leB n.text last with
    | true =>
     refine aQ23 ?_
     exact bad (by simp [hle])
    | false =>
     refine aQ23 ?_
     repeat (with_reducible refine zbW ?_)
     exact good ⟨h3,.inr hle⟩
  ·rw [decide_eq_false h3]
   refine aQ23 ?_
   exact bad (fun h=>h3 h.1)
end Go.Proofs.YtcahoelfogjljaaGreatDoor
end

section
namespace Go.Proofs.YtcahoelfogjljaaGreatDoor
open Go Go.Eng
def zgH (l:List Nd) (es:List Int) (d:Int) (p:Nat) (depth:Int):AEnd→zaa→Prop:=fun y σ =>
 match vl l p with
 | some r=>y=.ret (i64 r.1)∧σ=rdS l (updE l es p r.1) (max d (depth+r.2 - 1))
 | none=>y=.pan gu∧∃ es' d',es'.length=es.length∧σ=rdS l es' d'
def zgo (d depth:Int) (dk:Nat):Int:=max (max d depth) (depth+dk)
def zcQ (mp:Bool) (k:Nat) (last:List UInt8):Option (List UInt8):=if mp && decide (0 < k) then some last else none
theorem zdY {V:Nat→Option (Nat × Nat)} {l:List Nd} {c:Nat} {last:Option (List UInt8)} {e d:Nat}:zbO V l true (c+1) last e d=match za3 l e with
  | some n=>if n.kind=3∧aftB last n.text=true then (match V (e+1) with | some r=>zbO V l true c (some n.text) r.1 (max d r.2) | none=>none) else none
  | none=>none:=by
 simp only [zbO,za3,if_true]
 cases l[e]? with
 | none=>rfl
 | some n =>
  simp only
  cases za9 n with
  | false=>simp
  | true =>
   simp only [reduceIte,Bool.true_and]
   by_cases h3:n.kind=3 <;> by_cases hb:aftB last n.text=true
   ·rw [if_pos (⟨h3,hb⟩:n.kind=3∧aftB last n.text=true)]
    simp only [h3,decide_true,hb,Bool.and_self,if_true]
    try (cases V (e+1) <;> rfl)
   ·rw [if_neg (fun h:n.kind=3∧aftB last n.text=true=>hb h.2)]
    simp [hb]
   ·rw [if_neg (fun h:n.kind=3∧aftB last n.text=true=>h3 h.1)]
    simp [h3]
   ·rw [if_neg (fun h:n.kind=3∧aftB last n.text=true=>h3 h.1)]
    simp [h3]
theorem zc9 {V:Nat→Option (Nat × Nat)} {l:List Nd} {c:Nat} {last:Option (List UInt8)} {e d:Nat}:zbO V l false (c+1) last e d=match V e with | some r=>zbO V l false c last r.1 (max d r.2) | none=>none:=by
 simp only [zbO,Bool.false_eq_true,if_false]
 try (cases V e <;> rfl)
theorem updE_key {l:List Nd} {es:List Int} {e:Nat} {k:Nd} (hk:za3 l e=some k) (h3:k.kind=3):es.set e ((e:Int)+1)=updE l es e (e+1):=by
 obtain⟨_,h1,h2⟩:=zbb hk
 have he:zew l e=(e:Int)+1:=by
  simp only [zew,vl_text h1 h2 h3]
  omega
 have:=updE_set l es (a:=e) (b:=e+1) (by omega)
 rw [updE_none,he] at this
 exact this
theorem zeJ {l:List Nd} {p:Nat}:vl l p=match za3 l p with
  | some n=>(zbO (vl l) l (decide (n.kind=5)) n.kids.toNat none (p+1) 0).map fun r=>(r.1,r.2+1)
  | none=>none:=by
 rw [vl_eq,za3]
 cases l[p]? with
 | none=>rfl
 | some n=>cases h:za9 n <;> simp [h]
theorem value_ok (l:List Nd) (hl:l.length≤120):∀ (m p:Nat) (depth:Int) (es:List Int) (d:Int),l.length - p=m→p≤l.length→0≤depth→depth≤p+1→es.length=l.length →
  ACalls Tryz.prog 118 [.ptr 0 0,i64 p,i64 depth] (rdS l es d) (zgH l es d p depth):=by
 intro m
 induction m using Nat.strongRecOn with
 | _ m ih =>
 intro p depth es d hm hp hd0 hd he
 refine ACalls.body T_ok Tryz.func118 (by kernel_rfl) rfl Tryz.ntmps118 (congrArg Array.toList Tryz.results118) ?_
 refine aQ23 ?_
 refine(node_ok l es d p (by omega) (by omega)).mono ?_
 rintro y σ ⟨rfl,rfl⟩
 cases hn:za3 l p with
 | none =>
  have hnk:zfo l p=.pan gu:=by simp only [zfo,hn]
  rw [hnk]
  refine aQ23 ?_
  refine zaG ?_
  simp only [zgH,zeJ,hn]
  exact⟨trivial,es,d,rfl,rfl⟩
 | some n =>
  have hnk:zfo l p=.ret (nA n):=by simp only [zfo,hn]
  obtain⟨hlt,hget,ha⟩:=zbb hn
  rw [hnk]
  refine aQ23 ?_
  repeat (with_reducible refine zbW ?_)
  have hk0:=zgm ha
  obtain⟨c,hc⟩:∃ c,n.kids.toNat=c:=⟨_,rfl⟩
  have hkc:n.kids=c:=by omega
  obtain⟨mp,hmp⟩:∃ mp,decide (n.kind=5)=mp:=⟨_,rfl⟩
  obtain⟨R,hR⟩:∃ R,zbO (vl l) l mp c none (p+1) 0=R:=⟨_,rfl⟩
  have hvl:vl l p=R.map fun r=>(r.1,r.2+1):=by rw [zeJ,hn];simp only [hmp,hc,hR]
  have fail : ∀ (es' : List Int) (d' : Int), es'.length = es.length → R = none → endQ 2 gu [.rw (rdC l 1 l.length d'), .rw (es'.map i64), .rw (nC n)] (fun r σ' => zgH l es d p depth (.pan r) σ') := fun es' d' he' hRn =>
   zfp (zfQ _) (by simp only [zgH,hvl,hRn,Option.map_none];exact⟨trivial,es',d',he',rfl⟩)
  rw [zbj]
  refine⟨Nat × List UInt8 × Nat × Nat,fun i=>i.1≤c∧p+1+i.1≤i.2.2.1∧i.2.2.1≤l.length∧R=zbO (vl l) l mp (c - i.1) (zcQ mp i.1 i.2.1) i.2.2.1 i.2.2.2,fun i=>[.ptr 0 0,i64 p,i64 depth,.bot,.bot,.bot,i64 0,.ptr 2 0,i64 i.2.2.1,str i.2.1,.bot,.bot,.bot,.bot,.bot,.bot,.bot,.bot,.bot,.bot,.bot,.bot,.bot,.bot,.bot,.bot,i64 c,i64 i.1,.bot,.bot,.bot,.bot,.bot,.bot,.bot,.bot,.bot,.bot,.bot,.bot,.bot,.bot,.bot,.bot,.bot,.bot,.bot,.bot,.bot,.bot,.bot,.bot,.bot,.bot,.bot],fun i=>[.rw (rdC l 1 l.length (zgo d depth i.2.2.2)),.rw ((updE l es (p+1) i.2.2.1).map i64),.rw (nC n)],fun i=>c - i.1,(0,[],p+1,0),⟨Nat.zero_le _,(by show p+1+0≤p+1;omega),by (show p+1≤l.length);omega,by simp [zcQ,hR]⟩,?_,?_⟩
  ·simp only [zgo,updE_none]
   rw [show max (max d depth) (depth+(0:Nat))=max d depth by omega,hkc]
   refine zak (q:=[0,1,2]) rfl rfl (by decide) ?_ ?_
   ·refine aQ24 ?_
    try simp
   ·refine aQ24 ?_
    simp [zal,zaD,zek,zeu,zac]
  rintro⟨k,last,e,dk⟩ ⟨hk,hpe,hel,hinv⟩
  dsimp only at hk hpe hel hinv ⊢
  refine aQ23 ?_
  refine⟨fun hlt=>⟨fun h5=>?_,fun h5=>?_⟩,fun hge=>?_⟩
  ·have hmpv:mp=true:=by rw [← hmp];exact decide_eq_true h5
   have hck:c - k=(c - k - 1)+1:=by omega
   rw [hmpv,hck,zdY] at hinv
   refine zjf (key_ok l (updE l es (p+1) e) (zgo d depth dk) e (decide ((k:Int)=0)) last (by omega) (by omega) (by simp [zc4,he])) (by simp [renL,AV.ren,zam,zad,zag]) ?_
   intro y σ hy
   unfold keyK at hy
   cases hne:za3 l e with
   | none =>
    rw [hne] at hy hinv
    obtain⟨rfl,rfl⟩:=hy
    refine⟨_,_,rfl,zfQ _,?_⟩
    refine aQ23 ?_
    exact fail _ _ (by simp [zc4]) hinv
   | some k' =>
    rw [hne] at hy hinv
    dsimp only at hy hinv
    have hcond:aftB (zcQ true k last) k'.text=true ↔ (decide ((k:Int)=0)=true∨leB k'.text last=false):=by
     simp only [zcQ,Bool.true_and,decide_eq_true_eq]
     by_cases hk0:k=0
     ·simp [hk0,aftB]
     ·have hkp:0 < k:=by omega
      simp only [hkp,if_true,aftB,Bool.not_eq_true',show ¬ (k:Int)=0 by omega,false_or]
    simp only [hcond] at hinv
    by_cases hb:k'.kind=3∧(decide ((k:Int)=0)=true∨leB k'.text last=false)
    rotate_left
    ·rw [if_neg hb] at hy hinv
     obtain⟨rfl,rfl⟩:=hy
     refine⟨_,_,rfl,zfQ _,?_⟩
     refine aQ23 ?_
     exact fail _ _ (by simp [zc4]) hinv
    rw [if_pos hb] at hy hinv
    obtain⟨rfl,rfl⟩:=hy
    have hel':=(zbb hne).1
    have e0:=updE_key (es:=updE l es (p+1) e) hne hb.1
    rw [e0,zgn l es (by omega) (by omega)]
    refine⟨_,_,rfl,zag _ _,?_⟩
    refine aQ23 ?_
    repeat (with_reducible refine zbW ?_)
    rw [show (e:Int)+1=((e+1:Nat):Int) from rfl]
    refine zjf (ih (l.length - (e+1)) (by omega) (e+1) (depth+1) (updE l es (p+1) (e+1)) (zgo d depth dk) rfl (by omega) (by omega) (by omega) (by simp [zc4,he])) (by simp [renL,AV.ren,zam]) ?_
    intro y σ hy
    unfold zgH at hy
    cases hv:vl l (e+1) with
    | none =>
     rw [hv] at hy
     obtain⟨rfl,es',d',he',rfl⟩:=hy
     refine⟨es',d',rfl,zfQ _,?_⟩
     refine aQ23 ?_
     exact fail _ _ (by rw [he'];simp [zc4]) (by rw [hv] at hinv;dsimp only at hinv;rw [hinv])
    | some r =>
     rw [hv] at hy
     obtain⟨rfl,rfl⟩:=hy
     have hrl:=zdq hv
     refine⟨_,_,rfl,zam _ _,?_⟩
     refine aQ23 ?_
     repeat (with_reducible refine zbW ?_)
     rw [zap]
     refine⟨(k+1,k'.text,r.1,max dk r.2),⟨by (show k+1≤c);omega,by (show p+1+(k+1)≤r.1);omega,hrl.2,?_⟩,by (show c - (k+1) < c - k);omega,?_⟩
     ·dsimp only
      rw [hv] at hinv;dsimp only at hinv;rw [hinv]
      simp only [zcQ,hmpv,show c - k - 1=c - (k+1) by omega]
      try simp
     ·have e1:max (zgo d depth dk) (depth+1+(r.2:Int) - 1)=zgo d depth (max dk r.2):=by simp only [zgo];omega
      have e2:updE l (updE l es (p+1) (e+1)) (e+1) r.1=updE l es (p+1) r.1:=by exact zgn l es (by omega) (by omega)
      rw [e1,e2]
      refine zak (q:=[0,1,2]) rfl rfl (by decide) ?_ ?_
      ·refine aQ24 ?_
       try simp
      ·refine aQ24 ?_
       simp [zal,zaD,zek,zeu,zac]
  ·have hmpv:mp=false:=by rw [← hmp];exact decide_eq_false h5
   have hck:c - k=(c - k - 1)+1:=by omega
   rw [hmpv,hck,zc9] at hinv
   repeat (with_reducible refine zbW ?_)
   refine zjf (ih (l.length - (e)) (by omega) (e) (depth+1) (updE l es (p+1) e) (zgo d depth dk) rfl (by omega) (by omega) (by omega) (by simp [zc4,he])) (by simp [renL,AV.ren,zam]) ?_
   intro y σ hy
   unfold zgH at hy
   cases hv:vl l (e) with
   | none =>
    rw [hv] at hy
    obtain⟨rfl,es',d',he',rfl⟩:=hy
    refine⟨es',d',rfl,zfQ _,?_⟩
    refine aQ23 ?_
    exact fail _ _ (by rw [he'];simp [zc4]) (by rw [hv] at hinv;dsimp only at hinv;rw [hinv])
   | some r =>
    rw [hv] at hy
    obtain⟨rfl,rfl⟩:=hy
    have hrl:=zdq hv
    refine⟨_,_,rfl,zam _ _,?_⟩
    refine aQ23 ?_
    repeat (with_reducible refine zbW ?_)
    rw [zap]
    refine⟨(k+1,last,r.1,max dk r.2),⟨by (show k+1≤c);omega,by (show p+1+(k+1)≤r.1);omega,hrl.2,?_⟩,by (show c - (k+1) < c - k);omega,?_⟩
    ·dsimp only
     rw [hv] at hinv;dsimp only at hinv;rw [hinv]
     simp only [zcQ,hmpv,show c - k - 1=c - (k+1) by omega]
     try simp
    ·have e1:max (zgo d depth dk) (depth+1+(r.2:Int) - 1)=zgo d depth (max dk r.2):=by simp only [zgo];omega
     have e2:updE l (updE l es (p+1) e) (e) r.1=updE l es (p+1) r.1:=by exact zgn l es (by omega) (by omega)
     rw [e1,e2]
     refine zak (q:=[0,1,2]) rfl rfl (by decide) ?_ ?_
     ·refine aQ24 ?_
      try simp
     ·refine aQ24 ?_
      simp [zal,zaD,zek,zeu,zac]
  ·have hck:c - k=0:=by omega
   rw [hck] at hinv
   simp only [zbO] at hinv
   have hend:zew l p=e:=by simp only [zew,hvl,hinv,Option.map_some]
   refine aQ23 ?_
   repeat (with_reducible refine zbW ?_)
   have e1:=updE_set l es (a:=p) (b:=e) (by omega)
   rw [hend] at e1
   refine⟨by simp [zc4];omega,?_⟩
   rw [e1]
   refine zfp (zam _ _) ?_
   simp only [zgH,hvl,hinv,Option.map_some]
   have e2:zgo d depth dk=max d (depth+((dk+1:Nat):Int) - 1):=by simp only [zgo];omega
   rw [e2]
   exact⟨trivial,rfl⟩
end Go.Proofs.YtcahoelfogjljaaGreatDoor
end

section
namespace Go.Proofs.YtcahoelfogjljaaGreatDoor
open Go Go.Eng
set_option linter.defProp false in
def LB5:=And.intro @leI_nil (And.intro @leI_bot (And.intro @leI_same (@leI_cons)))
theorem long1_ok (n:Nd):ACalls Tryz.prog 116 [nA n] [] (fun y _=>y=.ret (bl (decide (120 < n.text.length)))):=by
 refine ACalls.body T_ok Tryz.func116 (by kernel_rfl) rfl Tryz.ntmps116 (congrArg Array.toList Tryz.results116) ?_
 refine aQ23 ?_
 refine zaT ?_
 rw [show decide ((120:Int) < n.text.length)=decide (120 < n.text.length) from decide_eq_decide.2 (by omega)]
theorem indexN_ok (l:List Nd) (hl:l.length≤1000000):ACalls Tryz.prog 142 [.sl (l.flatMap nC) l.length,.fn (.func 116) [] []] [] (fun y _=>∃ k:Int,y=.ret (i64 k)∧(0≤k ↔ ∃ n∈l,120 < n.text.length)):=by
 refine ACalls.body T_ok Tryz.func142 (by kernel_rfl) rfl Tryz.ntmps142 (congrArg Array.toList Tryz.results142) ?_
 refine aQ23 ?_
 rw [zbj]
 refine⟨Nat,fun k=>k≤l.length∧∀ n∈l.take k,¬ 120 < n.text.length,fun k=>[.sl (l.flatMap nC) l.length,.fn (.func 116) [] [],.bot,.bot,i64 0,.bot,.sl (l.flatMap nC) l.length,i64 l.length,i64 k,.bot,.bot,.bot,.bot,.bot,.bot,.bot,.bot,.bot,.bot],fun _=>[],fun k=>l.length - k,0,⟨Nat.zero_le _,by simp⟩,?_,?_⟩
 ·refine zak (q:=[]) rfl rfl (by decide) ?_ ?_
  ·refine aQ24 ?_
   simp [zao,AV.ren,renL]
  ·first|exact aQ24 trivial|refine aQ24 ?_
 ·rintro k ⟨hk,hno⟩
  refine aQ23 ?_
  refine⟨fun hlt=>?_,fun hge=>?_⟩
  ·repeat (with_reducible refine zbW ?_)
   have hlk:k < l.length:=by omega
   have hg:l.getD k n0d=l[k]:=by simp [hlk]
   refine(long1_ok (l.getD k n0d)).pure aQ14 ?_
   rintro _ σ rfl
   refine⟨by first | rfl | simp [AEnd.noid,AV.ren,renL,za5,zax str zag,za8,za4,zaU,zam,zad,zag],?_⟩
   refine aQ23 ?_
   refine⟨fun hlong=>?_,fun hlong=>?_⟩
   ·exact zbC ⟨k,rfl,fun _=>⟨l.getD k n0d,by rw [hg];exact List.getElem_mem _,hlong⟩,fun _=>by omega⟩
   ·repeat (with_reducible refine zbW ?_)
    rw [zap]
    refine⟨k+1,⟨by omega,?_⟩,by (show l.length - (k+1) < l.length - k);omega,zak (q:=[]) rfl rfl (by decide) ?_ ?_⟩
    ·intro n hn
     rw [List.take_succ_eq_append_getElem hlk,List.mem_append,List.mem_singleton] at hn
     rcases hn with hn | rfl
     ·exact hno n hn
     ·rw [← hg];exact hlong
    ·refine aQ24 ?_
     simp [zao,AV.ren,renL]
    ·first|exact aQ24 trivial|refine aQ24 ?_
  ·refine aQ23 ?_
   refine zbC ⟨-1,rfl,fun h=>by omega,?_⟩
   rintro⟨n,hn,h⟩
   rw [List.take_of_length_le (by omega)] at hno
   exact absurd h (hno n hn)
def zck (l:List Nd):Bool:=l.any fun n=>decide (120 < n.text.length)
theorem containsN_ok (l:List Nd) (hl:l.length≤1000000):ACalls Tryz.prog 115 [.sl (l.flatMap nC) l.length,.fn (.func 116) [] []] [] (fun y _=>y=.ret (bl (zck l))):=by
 refine ACalls.body T_ok Tryz.func115 (by kernel_rfl) rfl Tryz.ntmps115 (congrArg Array.toList Tryz.results115) ?_
 refine aQ23 ?_
 refine(indexN_ok l hl).pure (by simp [renL,AV.ren,zao]) ?_
 rintro _ σ ⟨k,rfl,hk⟩
 refine⟨zam _ _,?_⟩
 refine aQ23 ?_
 have e:decide (0≤k)=zck l:=by
  rw [Bool.eq_iff_iff,decide_eq_true_eq,hk,zck,List.any_eq_true]
  simp
 rw [e]
 exact zaT rfl
def zbA (l:List Nd):Int :=
 if 120 < l.length∨zck l=true then 4 else
 match vl l 0 with
 | some r=>if r.1=l.length then (if 32 < r.2 then 3 else 0) else 1
 | none=>1
def endsL (l:List Nd):List Int:=(List.range l.length).map (zew l)
def readK (l:List Nd):AEnd→zaa→Prop:=fun y σ =>
 if zbA l=0 then ∃ r,vl l 0=some r∧r.1=l.length∧r.2≤32∧y=.ret (.tup [.ref 0 0 l.length 1,i64 r.2,i64 0])∧σ=[.rw ((endsL l).map i64)]
 else y=.ret (.tup [.lit (.slice none 0 0),i64 0,i64 (zbA l)])∧σ=[]
theorem recN_ok (a b c:AV) (σ:zaa) (K:zaa→Prop) (h:K (.rw [a]::.rw [b]::.rw [c]::σ)):DCalls Tryz.prog 117 [.ptr 0 0,.ptr 1 0,.ptr 2 0] (.rw [a]::.rw [b]::.rw [c]::σ) none K:=by
 refine DCalls.body (b:=false) T_ok Tryz.func117 rfl Tryz.ntmps117 Tryz.results117 rfl ?_ ?_
 ·refine aQ23 ?_
  exact⟨rfl,rfl,rfl⟩
 ·refine aQ23 ?_
  exact h
theorem recP_ok (a b c:AV) (σ:zaa) (K:zaa→Prop) (h:K (.rw [.lit (.slice none 0 0)]::.rw [i64 0]::.rw [i64 1]::σ)):DCalls Tryz.prog 117 [.ptr 0 0,.ptr 1 0,.ptr 2 0] (.rw [a]::.rw [b]::.rw [c]::σ) (some gu) K:=by
 refine DCalls.body (b:=true) T_ok Tryz.func117 rfl Tryz.ntmps117 Tryz.results117 rfl ?_ ?_
 ·refine aQ23 ?_
  exact⟨rfl,rfl,rfl⟩
 ·refine aQ23 ?_
  exact h
def readT:Tr:=(.br 0 (.br 1 (.br 2 (.br 3 (.br 4 (.br 5 (.br 6 .done .nil) .nil) .nil) (.br 4 (.br 3 (.br 5 (.br 6 .done .nil) .nil) .nil) .nil)) (.br 4 (.br 2 (.br 3 (.br 5 (.br 6 .done .nil) .nil) .nil) .nil) .nil)) (.br 2 (.br 1 (.br 3 (.br 4 (.br 5 (.br 6 .done .nil) .nil) .nil) (.br 4 (.br 3 (.br 5 (.br 6 .done .nil) .nil) .nil) .nil)) (.br 3 (.br 1 (.br 4 (.br 5 (.br 6 .done .nil) .nil) .nil) .nil) .nil)) .nil)) (.br 2 (.br 0 (.br 1 (.br 3 (.br 4 (.br 5 (.br 6 .done .nil) .nil) .nil) (.br 4 (.br 3 (.br 5 (.br 6 .done .nil) .nil) .nil) .nil)) (.br 3 (.br 1 (.br 4 (.br 5 (.br 6 .done .nil) .nil) .nil) .nil) .nil)) (.br 3 (.br 0 (.br 1 (.br 4 (.br 5 (.br 6 .done .nil) .nil) .nil) .nil) .nil) .nil)) .nil))
theorem read_ok (l:List Nd) (hl:l.length≤1000000):ACalls Tryz.prog 84 [.sl (l.flatMap nC) l.length] [] (readK l):=by
 refine ACalls.bodyD T_ok Tryz.func84 (by kernel_rfl) rfl Tryz.ntmps84 (congrArg Array.toList Tryz.results84) ?_
 rw [zi7 rfl]
 refine aQ23 ?_
 rw [zi7 rfl]
 refine aQ23 ?_
 have err : ∀ (e : Int) (σ : zaa), zbA l = e → e ≠ 0 → endQ 0 (.tup [.lit (.slice none 0 0), i64 0, i64 e]) σ (fun r σ' => readK l (.ret r) σ') := fun e σ h1 h2 =>
  zaO (by simp [AV.ren,renL,zam]) (by simp only [readK,h1,if_neg h2];exact⟨trivial,trivial⟩)
 by_cases hlen:120 < l.length
 ·rw [decide_eq_true (by omega:(120:Int) < l.length)]
  refine aQ23 ?_
  exact err 4 _ (by simp [zbA,hlen]) (by decide)
 rw [decide_eq_false (by omega:¬ (120:Int) < l.length)]
 refine aQ23 ?_
 refine(containsN_ok l hl).pure (by simp [renL,AV.ren,zao]) ?_
 rintro _ σ rfl
 refine⟨zad _ _,?_⟩
 refine aQ23 ?_
 cases hany:zck l with
 | true =>
  refine aQ23 ?_
  exact err 4 _ (by simp [zbA,hany]) (by decide)
 | false =>
  refine aQ23 ?_
  rw [WD_some rfl]
  refine aQ23 ?_
  refine⟨by kernel_rfl,?_⟩
  refine aQ23 ?_
  repeat (with_reducible refine zbW ?_)
  rw [show List.replicate l.length (i64 0)=(List.replicate l.length (0:Int)).map i64 by simp,show [AV.sl (l.flatMap nC) l.length,.ref 3 0 l.length 1,i64 0]=rdC l 3 l.length 0 from rfl]
  refine ACalls.frame [4,3] (value_ok l (by omega) (l.length - 0) 0 1 (List.replicate l.length 0) 0 rfl (by omega) (by omega) (by omega) (by simp)) rfl (by decide) (by simp [zal,zaD,zek,zeu,-List.map_replicate]) (by simp [renL,AV.ren,zam]) ?_
  have kf:∀ es' d',zaq [Blk.rw [AV.lit (Value.slice none 0 0)],Blk.rw [i64 0],Blk.rw [i64 0],Blk.rw ((List.replicate l.length (0:Int)).map i64),Blk.rw (rdC l 3 l.length 0)] (rdS l es' d') [2,2,2,1,0] [2,2,2,1,0] 0 [Blk.rw [AV.lit (Value.slice none 0 0)],Blk.rw [i64 0],Blk.rw [i64 0],Blk.rw (es'.map i64),Blk.rw (rdC l 3 l.length d')]:=by
   intro es' d'
   simp [zaq,zaD,zek,zeu,-List.map_replicate]
  intro y σ1 hy
  unfold zgH at hy
  cases hv:vl l 0 with
  | none =>
   rw [hv] at hy
   obtain⟨rfl,es',d',-,rfl⟩:=hy
   refine⟨.pan gu,_,kf es' d',zfQ _,?_⟩
   refine aQ23 ?_
   refine recP_ok _ _ _ _ _ ?_
   refine aQ23 ?_
   exact err 1 _ (by simp [zbA,hlen,hany,hv]) (by decide)
  | some r =>
   rw [hv] at hy
   obtain⟨rfl,rfl⟩:=hy
   have hrl:=zdq hv
   refine⟨.ret (i64 r.1),_,kf _ _,zam _ _,?_⟩
   refine aQ23 ?_
   refine⟨fun hne=>?_,fun heq=>?_⟩
   ·refine recN_ok _ _ _ _ _ ?_
    refine aQ23 ?_
    exact err 1 _ (by simp [zbA,hlen,hany,hv,show ¬ r.1=l.length by omega]) (by decide)
   have hd:max (0:Int) (1+r.2 - 1)=r.2:=by omega
   rw [hd]
   refine⟨fun hgt=>?_,fun hle=>?_⟩
   ·refine recN_ok _ _ _ _ _ ?_
    refine aQ23 ?_
    exact err 3 _ (by simp [zbA,hlen,hany,hv,show r.1=l.length by omega,show 32 < r.2 by omega]) (by decide)
   refine zed readT ([.bot,.bot,.ptr 0 0,.ptr 1 0,.ptr 2 0,.bot,.bot,.bot,.bot,.bot,.bot,.bot,.bot,.bot,.bot,.bot,.bot,.bot,.bot,.bot,.bot,.bot,.bot,.bot,.bot,.bot,.bot,.bot,.bot,.bot]) [.rw [.ref 3 0 l.length 1],.rw [i64 r.2],.rw [i64 0],.rw ((updE l (List.replicate l.length 0) 0 r.1).map i64),.rw (rdC l 3 l.length r.2)] (by kernel_rfl) (by kernel_rfl) ?_ ?_
   ·unfold readT
    refine aQ23 ?_
    repeat' (with_reducible refine And.intro ?_ ?_)
    all_goals
     refine za2 ?_
     first|exact aQ25 trivial|refine aQ25 ?_
   refine aQ23 ?_
   refine recN_ok _ _ _ _ _ ?_
   refine aQ23 ?_
   have hne:zbA l=0:=by simp [zbA,hlen,hany,hv,show r.1=l.length by omega,show ¬ 32 < r.2 by omega]
   have hends:updE l (List.replicate l.length 0) 0 r.1=endsL l:=by
    apply List.ext_getElem?
    intro i
    simp only [updE,endsL,List.getElem?_mapIdx,List.getElem?_map,List.getElem?_replicate,show r.1=l.length by omega,List.getElem?_range']
    by_cases hi:i < l.length
    ·simp [hi]
    ·simp [hi,List.getElem?_eq_none]
   rw [hends]
   refine .inl ⟨[3],.tup [.ref 0 0 l.length 1,i64 r.2,i64 0],[.rw ((endsL l).map i64)],rfl,rfl,by decide,by simp [AV.ren,renL,zam],?_,?_⟩
   ·simp [zal,zaD,zeu]
   ·simp only [readK,hne,if_true]
    exact⟨r,hv,by omega,by omega,by first | rfl | trivial,by first | rfl | trivial⟩
end Go.Proofs.YtcahoelfogjljaaGreatDoor
end

section
namespace Go.Proofs.YtcahoelfogjljaaGreatDoor
open Go Go.Eng
theorem all_N (l:List Nd):(l.flatMap nC).all AV.one=true:=by
 induction l with
 | nil=>rfl
 | cons a l ih=>rw [List.flatMap_cons,List.all_append,all_n,ih];rfl
theorem zcJ {ts:Array TypeId} {t t1 e:TypeId} (h0:ts[0]?=some t) (h1:ts[1]?=some t1) (ht:T t=some (tySl e)) (ht1:T t1=some (tySl e)) (he:T e=some tyNd) {id n m:Nat} {l ys:List Nd} {x:AV} {σ:zaa} {KS:AV→zaa→Prop}
  (hc:σ[id]?=some (.rw (l.flatMap nC))) (hn:n=l.length) (hs:asrc σ 4 x=some (ys.flatMap nC,m)) (hm:m=ys.length) (g2:n+m≤1000000000)
  (hk:KS (.ref σ.length 0 (n+m) 4) (σ.set id .dead++[.rw ((l++ys).flatMap nC)])):za1 T ts (.ref id 0 n 4) x σ KS:=by
 have hd:adst σ 4 (.ref id 0 n 4)=some (l.flatMap nC,n,σ.set id .dead):=by
  simp only [adst,hc,zbv]
  subst hn
  simp
  try (rw [List.take_of_length_le (by rw [zbv];omega)])
 simp only [za1,h0,h1,Option.bind_some,ht,ht1]
 simp only [tySl,he,show tyNd.size=4 from rfl,hs,hd]
 refine⟨fun k h=>(by cases h),fun h=>(by cases h),tyNd,rfl,?_⟩
 simp only [show tyNd.size=4 from rfl,hs,hd]
 refine⟨rfl,all_N ys,all_N l,by omega,by (show (n+m) * 40≤_);omega,?_⟩
 rw [List.flatMap_append] at hk
 exact hk
theorem zfR (σ:zaa) (l:List Nd):asrc σ 4 (.sl (l.flatMap nC) l.length)=some (l.flatMap nC,l.length):=by
 simp only [asrc,asl,zbv,Nat.le_refl,if_true]
 rw [List.take_of_length_le (by rw [zbv];omega)]
theorem zan {σ:zaa} {KS:AV→zaa→Prop} (n:Nd):bs2 (some tyNd) 1 [(0,nA n)] σ KS=KS (.ref σ.length 0 1 4) (σ++[.rw ([n].flatMap nC)]):=by
 simp [bs2,tyNd,zbg,zbH,AV.cells,nA,nC,zaW,List.range_succ,zbx,zbV]
theorem Check_ok (l:List Nd) (hl:l.length≤1000000):ACalls Tryz.prog 47 [.sl (l.flatMap nC) l.length] [] (fun y σ=>y=.ret (i64 (zbA l))∧σ=[]):=by
 refine ACalls.body T_ok Tryz.func47 (by kernel_rfl) rfl Tryz.ntmps47 (congrArg Array.toList Tryz.results47) ?_
 refine aQ26 ?_
 refine(read_ok l hl).mono ?_
 intro y σ hy
 unfold readK at hy
 by_cases h0:zbA l=0
 ·rw [if_pos h0] at hy
  obtain⟨r,hv,h1,h2,rfl,rfl⟩:=hy
  refine aQ26 ?_
  exact zbC ⟨by rw [h0],rfl⟩
 ·rw [if_neg h0] at hy
  obtain⟨rfl,rfl⟩:=hy
  refine aQ26 ?_
  exact zbC ⟨rfl,rfl⟩
theorem vl_node {l:List Nd} {p:Nat} {r:Nat × Nat} (h:vl l p=some r):∃ n q,za3 l p=some n∧zbO (vl l) l (decide (n.kind=5)) n.kids.toNat none (p+1) 0=some q∧r=(q.1,q.2+1):=by
 rw [zeJ] at h
 cases hn:za3 l p with
 | none=>rw [hn] at h;cases h
 | some n =>
  rw [hn] at h
  simp only [Option.map_eq_some_iff] at h
  obtain⟨q,h1,h2⟩:=h
  exact⟨n,q,rfl,h1,h2.symm⟩
theorem errOf_zero {l:List Nd} (h:zbA l=0):l.length≤120∧zck l=false∧∃ d,vl l 0=some (l.length,d)∧d≤32:=by
 unfold zbA at h
 split at h
 ·cases h
 ·rename_i hb
  split at h
  ·rename_i r hr
   split at h
   ·rename_i hl
    split at h
    ·cases h
    ·obtain⟨a,b⟩:=r
     dsimp only at *
     subst hl
     refine⟨by omega,?_,b,hr,by omega⟩
     cases ha:zck l with
     | false=>rfl
     | true=>exact absurd (.inr ha) hb
   ·cases h
  ·cases h
end Go.Proofs.YtcahoelfogjljaaGreatDoor
end

section
namespace Go.Proofs.YtcahoelfogjljaaGreatDoor
open Go Go.Eng
def bK (mp:Bool):Nat:=if mp then 1 else 0
def eAt (l:List Nd) (mp:Bool) (p:Nat):Nat→Nat
 | 0=>p+1
 | k+1=>(zew l (eAt l mp p k+bK mp)).toNat
def depAt (l:List Nd) (p:Nat):Nat:=match vl l p with
 | some r=>r.2
 | none=>0
def dAt (l:List Nd) (mp:Bool) (p:Nat):Nat→Nat
 | 0=>0
 | k+1=>max (dAt l mp p k) (depAt l (eAt l mp p k+bK mp))
def keyT (l:List Nd) (mp:Bool) (p k:Nat):List UInt8:=(l.getD (eAt l mp p k) n0d).text
theorem zb9 {l:List Nd} {p:Nat} {n:Nd} (h:za3 l p=some n):l.getD p n0d=n:=by
 obtain⟨h1,h2,_⟩:=zbb h
 rw [List.getD_eq_getElem?_getD,h2];rfl
theorem kid_step {l:List Nd} {mp:Bool} {p k c:Nat} {q:Nat × Nat} (hk:k < c) (h:zbO (vl l) l mp (c - k) (zcQ mp k (keyT l mp p (k - 1))) (eAt l mp p k) (dAt l mp p k)=some q) :
  ∃ r,vl l (eAt l mp p k+bK mp)=some r∧eAt l mp p (k+1)=r.1∧(mp=true→∃ n,za3 l (eAt l mp p k)=some n∧n.kind=3∧n.text=keyT l mp p k∧(0 < k→leB n.text (keyT l mp p (k - 1))=false)) ∧
   zbO (vl l) l mp (c - (k+1)) (zcQ mp (k+1) (keyT l mp p k)) (eAt l mp p (k+1)) (dAt l mp p (k+1))=some q:=by
 rw [show c - k=(c - (k+1))+1 by omega] at h
 cases mp with
 | true =>
  rw [zdY] at h
  cases hn:za3 l (eAt l true p k) with
  | none=>rw [hn] at h;cases h
  | some n =>
   rw [hn] at h
   dsimp only at h
   by_cases hc:n.kind=3∧aftB (zcQ true k (keyT l true p (k - 1))) n.text=true
   rotate_left
   ·rw [if_neg hc] at h;cases h
   rw [if_pos hc] at h
   cases hv:vl l (eAt l true p k+1) with
   | none=>rw [hv] at h;cases h
   | some r =>
    rw [hv] at h
    dsimp only at h
    have he:eAt l true p (k+1)=r.1:=by simp only [eAt,bK,if_true,zew,hv,Int.toNat_natCast]
    have hd:dAt l true p (k+1)=max (dAt l true p k) r.2:=by simp only [dAt,bK,if_true,depAt,hv]
    have hkt:n.text=keyT l true p k:=by rw [keyT,zb9 hn]
    refine⟨r,by simpa [bK] using hv,he,fun _=>⟨n,rfl,hc.1,hkt,fun h0=>?_⟩,?_⟩
    ·have:=hc.2
     simp only [zcQ,Bool.true_and,h0,decide_true,if_true,aftB,Bool.not_eq_true'] at this
     exact this
    ·rw [he,hd]
     simp only [zcQ,Bool.true_and,Nat.zero_lt_succ,decide_true,if_true,← hkt]
     exact h
 | false =>
  rw [zc9] at h
  cases hv:vl l (eAt l false p k) with
  | none=>rw [hv] at h;cases h
  | some r =>
   rw [hv] at h
   dsimp only at h
   have he:eAt l false p (k+1)=r.1:=by simp [eAt,bK,zew,hv]
   have hd:dAt l false p (k+1)=max (dAt l false p k) r.2:=by simp [dAt,bK,depAt,hv]
   refine⟨r,by simpa [bK] using hv,he,fun h=>(by cases h),?_⟩
   rw [he,hd]
   simp only [zcQ,Bool.false_and,Bool.false_eq_true,if_false] at h ⊢
   exact h
structure Kids (l:List Nd) (p:Nat) (n:Nd) (r:Nat × Nat):Prop where
 node:za3 l p=some n
 val:vl l p=some r
 inv:∀ k,k≤n.kids.toNat→p+1+k≤eAt l (decide (n.kind=5)) p k∧eAt l (decide (n.kind=5)) p k≤r.1∧zbO (vl l) l (decide (n.kind=5)) (n.kids.toNat - k) (zcQ (decide (n.kind=5)) k (keyT l (decide (n.kind=5)) p (k - 1))) (eAt l (decide (n.kind=5)) p k) (dAt l (decide (n.kind=5)) p k)=some (r.1,r.2 - 1)
 deep:1≤r.2
theorem kids_of {l:List Nd} {p:Nat} {r:Nat × Nat} (h:vl l p=some r):∃ n,Kids l p n r:=by
 obtain⟨n,q,h1,h2,rfl⟩:=vl_node h
 refine⟨n,h1,h,?_,by simp⟩
 intro k
 induction k with
 | zero =>
  intro _
  have:=zfP (fun e r h=>zdq h) _ _ _ _ _ (by have:=(zbb h1).1;omega) h2
  exact⟨Nat.le_refl _,this.1,by simpa [zcQ,eAt,dAt] using h2⟩
 | succ k ih =>
  intro hk
  obtain⟨i1,i2,i3⟩:=ih (by omega)
  obtain⟨r',g1,g2,g3,g4⟩:=kid_step (by omega) i3
  have hr:=zdq g1
  have:=zfP (fun e r h=>zdq h) _ _ _ _ _ (by rw [g2];exact hr.2) g4
  refine⟨by rw [g2];omega,this.1,g4⟩
theorem Kids.kid {l:List Nd} {p:Nat} {n:Nd} {r:Nat × Nat} (h:Kids l p n r) {k:Nat} (hk:k < n.kids.toNat) :
  ∃ r',vl l (eAt l (decide (n.kind=5)) p k+bK (decide (n.kind=5)))=some r'∧eAt l (decide (n.kind=5)) p (k+1)=r'.1∧(n.kind=5→∃ m,za3 l (eAt l (decide (n.kind=5)) p k)=some m∧m.kind=3∧m.text=keyT l (decide (n.kind=5)) p k∧(0 < k→leB m.text (keyT l (decide (n.kind=5)) p (k - 1))=false)):=by
 obtain⟨r',g1,g2,g3,_⟩:=kid_step hk (h.inv k (by omega)).2.2
 exact⟨r',g1,g2,fun h5=>g3 (decide_eq_true h5)⟩
theorem Kids.ends {l:List Nd} {p:Nat} {n:Nd} {r:Nat × Nat} (h:Kids l p n r):eAt l (decide (n.kind=5)) p n.kids.toNat=r.1∧dAt l (decide (n.kind=5)) p n.kids.toNat=r.2 - 1:=by
 have:=(h.inv n.kids.toNat (Nat.le_refl _)).2.2
 rw [Nat.sub_self] at this
 simp only [zbO,Option.some.injEq,Prod.mk.injEq] at this
 exact this
theorem Kids.few {l:List Nd} {p:Nat} {n:Nd} {r:Nat × Nat} (h:Kids l p n r):p+1+n.kids.toNat≤r.1∧r.1≤l.length∧0≤n.kids∧p < l.length:=by
 obtain⟨h1,h2,_⟩:=h.inv n.kids.toNat (Nat.le_refl _)
 exact⟨by omega,(zdq h.val).2,zgm (zbb h.node).2.2,(zbb h.node).1⟩
end Go.Proofs.YtcahoelfogjljaaGreatDoor
end

section
namespace Go.Proofs.YtcahoelfogjljaaGreatDoor
open Go Go.Eng
end Go.Proofs.YtcahoelfogjljaaGreatDoor
end

section
namespace Go.Proofs.YtcahoelfogjljaaGreatDoor
open Go Go.Eng
theorem renL_S (q:List Nat) (l:List (List UInt8)):renL q (l.map str)=some (l.map str):=zax str zag q l
def findK (l:List Nd) (key:List UInt8):Option Nat:=if zbA l=0∧(l.getD 0 n0d).kind=5 then (List.range (l.getD 0 n0d).kids.toNat).find? fun k=>decide (keyT l true 0 k=key) else none
end Go.Proofs.YtcahoelfogjljaaGreatDoor
end

section
namespace Go.Proofs.YtcahoelfogjljaaGreatDoor
open Go Go.Eng
def slNs (l:List Nd):AV:=.sl (l.flatMap nC) l.length
end Go.Proofs.YtcahoelfogjljaaGreatDoor
end

section
namespace Go.Proofs.YtcahoelfogjljaaGreatDoor
open Go Go.Eng
set_option linter.defProp false in
def LB6:=And.intro @ia_sl_str (@ldd_str)
set_option linter.defProp false in
def LM10:=And.intro LM0 (LB6)
theorem zat {eB:TypeId} {σ:zaa} {KS:AV→zaa→Prop}:wbox eB (.lit (.slice none 0 0)) σ KS=KS (.ptr σ.length 0) (σ++[.rw [.lit (.slice none 0 0)]]):=by
 simp [wbox,zdH,AV.cells,AV.one,Value.oneCell']
theorem ze2 {σ:zaa} {id n:Nat} {l:List (List UInt8)} (h:σ[id]?=some (.rw (l.map str))) (hn:n=l.length):asrc σ 1 (.ref id 0 n 1)=some (l.map str,n):=by
 subst hn
 simp only [asrc,asl,rd,h,if_true,Option.bind_some,Nat.mul_one,Nat.zero_add,List.length_map,Nat.le_refl,List.drop_zero]
 rw [List.take_of_length_le (by simp)]
theorem zfq {α:Type} (f:α→AV) (hf:∀ a,(f a).one=true) {ts:Array TypeId} {t t1 e:TypeId} {te:TI} {z:AV} {tx:TI} (h0:ts[0]?=some t) (h1:ts[1]?=some t1) (ht:T t=some (tySl e)) (ht1:T t1=some tx) (hx:(∀ k,tx.d≠.int k)∧tx.d≠.other) (he:T e=some te) (ho:one1 te z)
  {ys:List α} {m:Nat} {x:AV} {σ:zaa} {KS:AV→zaa→Prop} (hs:asrc σ 1 x=some (ys.map f,m)) (g1:m≤9223372036854775807) (g2:m * te.bytes≤140737488355328) (hk:KS (.ref σ.length 0 m 1) (σ++[.rw (ys.map f)])):za1 T ts (.lit (.slice none 0 0)) x σ KS:=by
 rw [append_nil h0 h1 ht ht1 hx he ho hs (zcA f hf ys)]
 exact⟨g1,g2,hk⟩
end Go.Proofs.YtcahoelfogjljaaGreatDoor
end

section
namespace Go.Proofs.YtcahoelfogjljaaGreatDoor
open Go Go.Eng
theorem ld_strs {K:AV→Prop} (l:List (List UInt8)) (off:Nat):ld2 (some tyStr) (some (l.map str)) off K=(off < l.length∧K (str (l.getD off []))):=ld2_map zdL _ _ _ _
end Go.Proofs.YtcahoelfogjljaaGreatDoor
end

section
namespace Go.Proofs.YtcahoelfogjljaaGreatDoor
open Go Go.Eng
def o1:Nd:=⟨2,1,[],0⟩
def lv:List Nd:=[⟨4,0,[],2⟩,⟨2,1,[],0⟩,⟨0,0,[],0⟩]
def mv:List Nd:=[⟨5,0,[],2⟩,⟨3,0,[97],0⟩,⟨4,0,[],2⟩,⟨2,1,[],0⟩,⟨0,0,[],0⟩,⟨3,0,[98],0⟩,⟨2,1,[],0⟩]
theorem bd_n01 {K:AV→Prop} {t:TypeId} (ht:T t=some tyNd) (k j:Int):zaM T t [(0,i64 k),(1,i64 j)] K=K (nA ⟨k,j,[],0⟩):=by
 simp [zaM,ht,tyNd,T3,T2,T49,T9,zbg,zaI,zbN,zbx,zaW,zaF,tyStr,nA,nC]
 try rfl
theorem bs_str_2 (a b:List UInt8) (σ:zaa) (K:AV→zaa→Prop):bs2 (some tyStr) 2 [(0,str a),(1,str b)] σ K=K (.ref σ.length 0 2 1) (σ++[.rw ([a,b].map str)]):=by
 simp [bs2,tyStr,zbg,zbH,zcE,zaW,List.range_succ,zbV,List.replicate]
theorem bs_str_1 (a:List UInt8) (σ:zaa) (K:AV→zaa→Prop):bs2 (some tyStr) 1 [(0,str a)] σ K=K (.ref σ.length 0 1 1) (σ++[.rw ([a].map str)]):=by
 simp [bs2,tyStr,zbg,zbH,zcE,zaW,List.range_succ,zbV,List.replicate]
theorem frz_Ss {σ:zaa} {id n:Nat} {l:List (List UInt8)} (h:σ[id]?=some (.ro (l.map str))) (hn:n=l.length):frzA σ (.ref id 0 n 1) (.sl (l.map str) l.length):=by
 subst hn
 refine .inr ⟨_,h,by simp,?_⟩
 rw [List.drop_zero,List.take_of_length_le (by simp)]
theorem zfr (a:List Nd) (n:Nat) (q:List Nat):renL q [.sl (a.flatMap nC) n]=some [.sl (a.flatMap nC) n]:=by simp only [renL,AV.ren,zao,Option.map_some,bind,Option.bind,pure]
theorem zeK (a:List Nd) (n:Nat) (k:Int) (q:List Nat):renL q [.sl (a.flatMap nC) n,i64 k]=some [.sl (a.flatMap nC) n,i64 k]:=by simp only [renL,AV.ren,zao,zam,Option.map_some,bind,Option.bind,pure]
end Go.Proofs.YtcahoelfogjljaaGreatDoor
end

section
namespace Go.Proofs.YtcahoelfogjljaaGreatDoor
open Go Go.Eng
set_option linter.defProp false in
def LB7:=And.intro (fun {K}=>@bd_n01 K _ T51) (And.intro @bs_str_2 (And.intro @bs_str_1 (And.intro @ld_strs (And.intro @ia_sl_i64 (@ldd_i64)))))
def fewB (l:List Nd):Bool:=decide (l.length≤130) && (l.all fun n=>decide (n.text.length≤130))
theorem few_long {l:List Nd} {k:Nat} (hk:k < l.length) (h:130 < (l.getD k n0d).text.length):fewB l=false:=by
 rw [fewB,Bool.and_eq_false_iff]
 refine .inr ?_
 rw [List.all_eq_false]
 refine⟨l.getD k n0d,?_,by simpa using h⟩
 rw [List.getD_eq_getElem?_getD,List.getElem?_eq_getElem hk]
 exact List.getElem_mem _
theorem few_end {l:List Nd} {k:Nat} (h:k=l.length∨130 < l.length) (hj:∀ j,j < k→(l.getD j n0d).text.length≤130):fewB l=decide ((l.length:Int)≤130):=by
 rw [fewB]
 by_cases hl:l.length≤130
 ·rw [decide_eq_true hl,decide_eq_true (by omega),Bool.true_and,List.all_eq_true]
  intro n hn
  obtain⟨j,hjl,rfl⟩:=List.getElem_of_mem hn
  have:=hj j (by omega)
  rw [List.getD_eq_getElem?_getD,List.getElem?_eq_getElem hjl] at this
  simpa using this
 ·rw [decide_eq_false hl,decide_eq_false (by omega),Bool.false_and]
theorem Few_ok (l:List Nd) (hl:l.length≤9223372036854775807):ACalls Tryz.prog 9 [.sl (l.flatMap nC) l.length] [] (fun y _=>y=.ret (bl (fewB l))):=by
 refine ACalls.body T_ok Tryz.func9 (by kernel_rfl) rfl Tryz.ntmps9 (congrArg Array.toList Tryz.results9) ?_
 refine aQ27 ?_
 rw [zbj]
 refine⟨Nat,fun k=>k≤l.length∧k≤131∧∀ j,j < k→(l.getD j n0d).text.length≤130,fun k=>[.sl (l.flatMap nC) l.length,.bot,bl false,i64 k,.bot,.bot,.bot,.bot,.bot,.bot,.bot,.bot,.bot,.bot,.bot,.bot,.bot,.bot,.bot,.bot,.bot,.bot,.bot,.bot],fun _=>[],fun k=>l.length - k,0,⟨Nat.zero_le _,by omega,fun j h=>absurd h (by omega)⟩,za2 ?_,?_⟩
 ·refine aQ25 ?_
  try exact .inr rfl
 ·rintro k ⟨hk,hk1,hj⟩
  refine aQ27 ?_
  by_cases hlt:k < l.length
  ·rw [decide_eq_true (by omega:(k:Int) < l.length)]
   refine aQ27 ?_
   refine⟨fun hlt2=>?_,fun hlt2=>?_⟩
   ·repeat (with_reducible refine zbW ?_)
    refine⟨fun hg=>?_,fun hg=>?_⟩
    ·refine aQ27 ?_
     exact zaT (by rw [few_long hlt (by omega)])
    ·refine aQ27 ?_
     repeat (with_reducible refine zbW ?_)
     rw [zap]
     refine⟨k+1,⟨by omega,by omega,fun j h=>?_⟩,by (show l.length - (k+1) < l.length - k);omega,za2 ?_⟩
     ·by_cases e:j=k
      ·subst e;omega
      ·exact hj j (by omega)
     ·refine aQ25 ?_
      try exact .inr rfl
   ·refine aQ27 ?_
    exact zaT (by rw [few_end (.inr (by omega)) hj])
  ·rw [decide_eq_false (by omega:¬ (k:Int) < l.length)]
   refine aQ27 ?_
   exact zaT (by rw [few_end (.inl (by omega)) hj])
theorem few_le {l:List Nd} (h:fewB l=true):l.length≤130:=by
 rw [fewB,Bool.and_eq_true,decide_eq_true_eq] at h
 exact h.1
end Go.Proofs.YtcahoelfogjljaaGreatDoor
end

section
namespace Go.Proofs.YtcahoelfogjljaaGreatDoor
open Go Go.Eng
structure Part (l m:List Nd) (o:Nat):Prop where
 le:o+m.length≤l.length
 at':∀ q,q < m.length→m[q]?=l[o+q]?
theorem Part.node {l m:List Nd} {o q:Nat} (h:Part l m o) (hq:q < m.length):za3 m q=za3 l (o+q):=by
 simp only [za3,h.at' q hq]
structure Alk (l m:List Nd) (o q:Nat):Prop where
 fwd:∀ r,vl m q=some r→vl l (o+q)=some (o+r.1,r.2)
 back:∀ r,vl l (o+q)=some r→r.1≤o+m.length→vl m q=some (r.1 - o,r.2)
end Go.Proofs.YtcahoelfogjljaaGreatDoor
end

