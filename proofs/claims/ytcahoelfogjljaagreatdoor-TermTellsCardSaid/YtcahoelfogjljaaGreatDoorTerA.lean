/-
  Nodes, values, and what is checked of them. No condition.
-/
import Derived.Test.YtcahoelfogjljaaGreatDoorEngX
import Derived.Lib.LaidTab
import Derived.Lib.ItoaNum
import Derived.Test.YtcahoelfogjljaaGreatDoorRows
import Derived.Test.YtcahoelfogjljaaGreatDoorLib
set_option linter.unusedSimpArgs false
set_option linter.unusedVariables false
set_option linter.unusedSectionVars false
section
namespace Go.Eng
open Go
theorem aQ3 {P:Prop} (e:P:=by first | rfl | simp [renL,AV.ren,zb8,zas str zah,zb7,zbX,zbx,zae,zak,zah]):P:=e
theorem aQ4 {P:Prop} (e:P:=by simp [renL,AV.ren,zae,zat]):P:=e
theorem aQ18 {P Q:Prop} (h:Q) (e:P=Q:=by first|(simp -implicitDefEqProofs only [LM6,eq_self,TB,SB,Int.reduceToNat,Nat.reduceAdd,Nat.reduceEqDiff,Nat.reduceLT,Nat.reduceMod,Nat.reducePow,Nat.reduceSub,if_true,reduceIte];first|done|exact rfl)|exact rfl):P:=e ▸ h
theorem aQ19 {P Q:Prop} (h:Q) (e:P=Q:=by first|(simp only [FB,AV.ren,Nat.reduceAdd,reduceCtorEq];first|done|exact rfl)|exact rfl):P:=e ▸ h
theorem aQ20 {P Q:Prop} (h:Q) (e:P=Q:=by first|(simp only [LB5,List.getElem?_cons_zero,true_and,and_true,or_true,true_or,reduceCtorEq,false_or];first|done|exact rfl)|exact rfl):P:=e ▸ h
theorem aQ21 {P Q:Prop} (h:Q) (e:P=Q:=by first|(simp -implicitDefEqProofs only [LM6,eq_self,bs_n_0,TB,SB,Int.reduceToNat,Nat.reduceAdd,Nat.reduceEqDiff,Nat.reduceLT,Nat.reduceMod,Nat.reducePow,Nat.reduceSub,if_true,reduceIte];first|done|exact rfl)|exact rfl):P:=e ▸ h
theorem aQ22 {P Q:Prop} (h:Q) (e:P=Q:=by first|(simp -implicitDefEqProofs only [LM6,eq_self,zjJ,zfo,zhv,TB,SB,Int.reduceToNat,Nat.reduceAdd,Nat.reduceEqDiff,Nat.reduceLT,Nat.reduceMod,Nat.reducePow,Nat.reduceSub,if_true,reduceIte];first|done|exact rfl)|exact rfl):P:=e ▸ h
theorem aQ23 {P Q:Prop} (h:Q) (e:P=Q:=by first|(simp -implicitDefEqProofs only [LM0,eq_self,zam,TB,SB,Int.reduceToNat,Nat.reduceAdd,Nat.reduceEqDiff,Nat.reduceLT,Nat.reduceMod,Nat.reducePow,Nat.reduceSub,if_true,reduceIte];first|done|exact rfl)|exact rfl):P:=e ▸ h
end Go.Eng
end

section
namespace Go.Proofs.YtcahoelfogjljaaGreatDoor
open Go Go.Eng
set_option linter.defProp false in
def LB0:=And.intro @Wop_range (And.intro @Wop_next (@Wop_entry))
set_option linter.defProp false in
def LB1:=And.intro @Wop_panic (And.intro @wpan_ifc (And.intro @Wop_makeMap (@Wop_mapUpdate)))
set_option linter.defProp false in
def LB2:=And.intro @one_sl (And.intro @Bool.not_true (And.intro @Bool.not_false (And.intro @Int.toNat_natCast (@decide_true))))
def nilS:AV:=.lit (.slice none 0 0)
def tyNd:TI:=⟨.struct [(49,0),(2,1),(9,2),(3,3)],4,40,[.int .i64 0,.int .i64 0,.string ⟨#[]⟩,.int .i64 0],true⟩
def tyRd:TI:=⟨.struct [(22,0),(47,1),(3,2)],3,56,[.slice none 0 0,.slice none 0 0,.int .i64 0],false⟩
def tySn:TI:=⟨.struct [(3,0),(3,1),(4,2),(47,3),(47,4)],5,72,[.int .i64 0,.int .i64 0,.bool false,.slice none 0 0,.slice none 0 0],false⟩
def tyGu:TI:=⟨.struct [],0,0,[],false⟩
def tyWr:TI:=⟨.struct [(107,0),(22,2),(3,3),(109,4)],10,112,[.pointer none,.slice none 0 0,.slice none 0 0,.int .i64 0,.nilFunc,.nilFunc,.nilFunc,.nilFunc,.nilFunc,.nilFunc],false⟩
def tyCr:TI:=⟨.struct [(9,0),(3,1),(22,2),(156,3)],4,72,[.string ⟨#[]⟩,.int .i64 0,.slice none 0 0,.slice none 0 0],false⟩
def tyOp:TI:=⟨.struct [(3,0),(9,1)],2,24,[.int .i64 0,.string ⟨#[]⟩],true⟩
def tyPr:TI:=⟨.struct [(9,0),(3,1),(3,2)],3,32,[.string ⟨#[]⟩,.int .i64 0,.int .i64 0],false⟩
def tyPf:TI:=⟨.struct [(3,0),(25,1)],2,16,[.int .i64 0,.int .i64 0],true⟩
def tyMb:TI:=⟨.struct [(9,0),(22,1)],2,40,[.string ⟨#[]⟩,.slice none 0 0],false⟩
def tyPt:TI:=⟨.struct [(9,0),(3,1)],2,24,[.string ⟨#[]⟩,.int .i64 0],true⟩
def tyRV:TI:=⟨.struct [(17,0),(173,1),(174,2)],3,24,[.pointer none,.pointer none,.int .u64 0],false⟩
def tySe:TI:=⟨.struct [(22,0),(3,1),(4,2)],3,40,[.slice none 0 0,.int .i64 0,.bool false],false⟩
def T:Tab:=tabOf [(3,zaD),(2,zaD),(4,zeM),(203,tyU64),(9,tyStr),(32,tySl 9),(47,tySl 3),(49,zaD),(25,zaD),(51,tyNd),(22,tySl 51),(34,tySl 22),(166,tyRd),(68,tySn),(245,zgg 9 3),(232,tyGu),(20,tyI),(5,tyU8),(107,tyBld 104 105),(104,ze2 107),(105,tySl 5),(159,tyU64),(151,ze2 5),(108,tyFn),(109,zgM 6 108 tyFn),(111,tyWr),(102,ze2 111),(158,tyCr),(189,ze2 158),(193,tyOp),(156,tySl 193),(194,ze2 193),(191,tyGu),(143,tyPr),(171,ze2 143),(140,tyPf),(146,ze2 140),(147,ze2 25),(96,tyI),(249,tyMb),(244,tySl 249),(257,zgg 9 51),(87,tyPt),(83,tySl 87),(116,tyPt),(124,tySe),(59,tySl 116),(179,tyI),(212,tyI),(215,tyI),(176,tyRV),(181,tyU8),(1,tyFn),(241,tyU32),(277,zgM 24 5 tyU8),(132,tyGu),(72,zgg 9 132),(73,zgg 9 132),(76,tyFn),(75,tyFn),(56,tyFn)]
theorem T_ok:zaG Tryz.prog T:=tabOf_ok (by kernel_rfl)
theorem T3:T 3=some (zaD):=rfl
theorem T2:T 2=some (zaD):=rfl
theorem T4:T 4=some (zeM):=rfl
theorem T203:T 203=some (tyU64):=rfl
theorem T9:T 9=some (tyStr):=rfl
theorem T32:T 32=some (tySl 9):=rfl
theorem T47:T 47=some (tySl 3):=rfl
theorem T49:T 49=some (zaD):=rfl
theorem T25:T 25=some (zaD):=rfl
theorem T51:T 51=some (tyNd):=rfl
theorem T22:T 22=some (tySl 51):=rfl
theorem T34:T 34=some (tySl 22):=rfl
theorem T166:T 166=some (tyRd):=rfl
theorem T68:T 68=some (tySn):=rfl
theorem T245:T 245=some (zgg 9 3):=rfl
theorem T232:T 232=some (tyGu):=rfl
theorem T20:T 20=some (tyI):=rfl
theorem T5:T 5=some (tyU8):=rfl
theorem T107:T 107=some (tyBld 104 105):=rfl
theorem T104:T 104=some (ze2 107):=rfl
theorem T105:T 105=some (tySl 5):=rfl
theorem T159:T 159=some (tyU64):=rfl
theorem T151:T 151=some (ze2 5):=rfl
theorem T108:T 108=some (tyFn):=rfl
theorem T109:T 109=some (zgM 6 108 tyFn):=rfl
theorem T111:T 111=some (tyWr):=rfl
theorem T102:T 102=some (ze2 111):=rfl
theorem T158:T 158=some (tyCr):=rfl
theorem T189:T 189=some (ze2 158):=rfl
theorem T193:T 193=some (tyOp):=rfl
theorem T156:T 156=some (tySl 193):=rfl
theorem T194:T 194=some (ze2 193):=rfl
theorem T191:T 191=some (tyGu):=rfl
theorem T143:T 143=some (tyPr):=rfl
theorem T171:T 171=some (ze2 143):=rfl
theorem T140:T 140=some (tyPf):=rfl
theorem T146:T 146=some (ze2 140):=rfl
theorem T147:T 147=some (ze2 25):=rfl
theorem T96:T 96=some (tyI):=rfl
theorem T249:T 249=some (tyMb):=rfl
theorem T244:T 244=some (tySl 249):=rfl
theorem T257:T 257=some (zgg 9 51):=rfl
theorem T87:T 87=some (tyPt):=rfl
theorem T83:T 83=some (tySl 87):=rfl
theorem T116:T 116=some (tyPt):=rfl
theorem T124:T 124=some (tySe):=rfl
theorem T59:T 59=some (tySl 116):=rfl
theorem T179:T 179=some (tyI):=rfl
theorem T212:T 212=some (tyI):=rfl
theorem T215:T 215=some (tyI):=rfl
theorem T176:T 176=some (tyRV):=rfl
theorem T181:T 181=some (tyU8):=rfl
theorem T1:T 1=some (tyFn):=rfl
theorem T241:T 241=some (tyU32):=rfl
theorem T277:T 277=some (zgM 24 5 tyU8):=rfl
theorem T132:T 132=some (tyGu):=rfl
theorem T72:T 72=some (zgg 9 132):=rfl
theorem T73:T 73=some (zgg 9 132):=rfl
theorem T76:T 76=some (tyFn):=rfl
theorem T75:T 75=some (tyFn):=rfl
theorem T56:T 56=some (tyFn):=rfl
set_option linter.defProp false in
def TB:=And.intro T3 (And.intro T2 (And.intro T4 (And.intro T203 (And.intro T9 (And.intro T32 (And.intro T47 (And.intro T49 (And.intro T25 (And.intro T51 (And.intro T22 (And.intro T34 (And.intro T166 (And.intro T68 (And.intro T245 (And.intro T232 (And.intro T20 (And.intro T5 (And.intro T107 (And.intro T104 (And.intro T105 (And.intro T159 (And.intro T151 (And.intro T108 (And.intro T109 (And.intro T111 (And.intro T102 (And.intro T158 (And.intro T189 (And.intro T193 (And.intro T156 (And.intro T194 (And.intro T191 (And.intro T143 (And.intro T171 (And.intro T140 (And.intro T146 (And.intro T147 (And.intro T96 (And.intro T249 (And.intro T244 (And.intro T257 (And.intro T87 (And.intro T83 (And.intro T116 (And.intro T124 (And.intro T59 (And.intro T179 (And.intro T212 (And.intro T215 (And.intro T176 (And.intro T181 (And.intro T1 (And.intro T241 (And.intro T277 (And.intro T132 (And.intro T72 (And.intro T73 (And.intro T76 (And.intro T75 (T56))))))))))))))))))))))))))))))))))))))))))))))))))))))))))))
def powT:List Value:=Go.Lib.pow10Tab.map (Value.int .u64)
def rtypeV (g t:Nat):Value:=.iface 207 (.agg #[.pointer (some ⟨g,t,none⟩)])
instance globs:Globs:=⟨fun g=>match g with
 | 0=>some [rtypeV 9 96]
 | 6=>some powT
 | _=>none,[],[1],[5,4]⟩
structure Nd where
 kind:Int
 num:Int
 text:List UInt8
 kids:Int
 deriving DecidableEq
def n0d:Nd:=⟨0,0,[],0⟩
def nC (n:Nd):List AV:=[i64 n.kind,i64 n.num,str n.text,i64 n.kids]
def nA (n:Nd):AV:=.agg (nC n)
def nV (n:Nd):List Value:=[.int .i64 n.kind,.int .i64 n.num,.string ⟨n.text.toArray⟩,.int .i64 n.kids]
theorem zb9 (n:Int):(i64 n).one=true:=rfl
theorem one_bl' (b:Bool):(bl b).one=true:=rfl
theorem one_sl (cs:List AV) (n:Nat):(AV.sl cs n).one=true:=rfl
theorem one_ref (id off n sz:Nat):(AV.ref id off n sz).one=true:=rfl
theorem zb2 (n:Int):(i64 n).cells=[i64 n]:=rfl
theorem cells_bl' (b:Bool):(bl b).cells=[bl b]:=rfl
theorem zdm (b:List UInt8):(str b).cells=[str b]:=rfl
theorem zhw (cs:List AV) (n:Nat):(AV.sl cs n).cells=[AV.sl cs n]:=rfl
theorem cells_ref (id off n sz:Nat):(AV.ref id off n sz).cells=[AV.ref id off n sz]:=rfl
section
variable {a b n : Nd} {σ : zaa} {K : AV → Prop} {KS : AV → zaa → Prop} {t : TypeId} {id : Nat}
theorem all_n:(nC n).all AV.one=true:=by
 simp only [nC,List.all_cons,zb9,zbR,List.all_nil,Bool.and_self]
theorem len_nC:(nC n).length=4:=rfl
theorem box_n {eB:TypeId}:wbox eB (nA n) σ KS=KS (.ptr σ.length 0) (σ++[.rw (nC n)]):=by
 simp only [wbox,nA,AV.cells,all_n,true_and,show zc8 (nC n)=false from rfl,Bool.false_eq_true,if_false]
theorem ld_n:ld2 (some tyNd) (some (nC n)) 0 K=K (nA n):=by
 simp [ld2,wfin,tyNd,TD.agg,nA,nC]
theorem fa_n0 (ht:T t=some tyNd):zaf T t (.ptr id 0) 0 K=K (.ptr id 0):=by simp [zaf,ht,tyNd,T49,zaD]
theorem fa_n1 (ht:T t=some tyNd):zaf T t (.ptr id 0) 1 K=K (.ptr id 1):=by simp [zaf,ht,tyNd,T2,zaD]
theorem fa_n2 (ht:T t=some tyNd):zaf T t (.ptr id 0) 2 K=K (.ptr id 2):=by simp [zaf,ht,tyNd,T9,tyStr]
theorem fa_n3 (ht:T t=some tyNd):zaf T t (.ptr id 0) 3 K=K (.ptr id 3):=by simp [zaf,ht,tyNd,T3,zaD]
theorem ld_n0:ld2 (some zaD) (some (nC n)) 0 K=K (i64 n.kind):=by simp [ld2,wfin,zaD,TD.agg,nC]
theorem ld_n1:ld2 (some zaD) (some (nC n)) 1 K=K (i64 n.num):=by simp [ld2,wfin,zaD,TD.agg,nC]
theorem ld_n2:ld2 (some tyStr) (some (nC n)) 2 K=K (str n.text):=by simp [ld2,wfin,tyStr,TD.agg,nC]
theorem ld_n3:ld2 (some zaD) (some (nC n)) 3 K=K (i64 n.kids):=by simp [ld2,wfin,zaD,TD.agg,nC]
theorem st_n:st2 (some tyNd) (some (.rw (nC a))) id 0 (nA b) σ KS=KS (.lit undef) (σ.set id (.rw (nC b))):=by
 have h1:=@all_n b
 have h2:za7 (nC a) 0 (nC b)=nC b:=rfl
 simp only [st2,tyNd,nA,AV.cells,len_nC,h1,h2,true_and,Nat.zero_add,Nat.le_refl]
theorem st_n3 (k:Int):st2 (some zaD) (some (.rw (nC a))) id 3 (i64 k) σ KS=KS (.lit undef) (σ.set id (.rw (nC ⟨a.kind,a.num,a.text,k⟩))):=by
 simp [st2,zaD,nC,AV.cells,AV.one,Value.oneCell',za7,i64]
theorem al_n (e:TypeId):al1 T e (some tyNd) σ KS=KS (.ptr σ.length 0) (σ++[.rw (nC n0d)]):=by
 simp [al1,tyNd,zaI,nC,n0d,i64,str]
theorem bd_n0 (ht:T t=some tyNd) (k:Int):za1 T t [(0,i64 k)] K=K (nA ⟨k,0,[],0⟩):=by
 simp [za1,ht,tyNd,T3,T2,T49,T9,zbF,zaI,zb2,zb9,za7,zaD,tyStr,nA,nC]
 try rfl
theorem bd_n02 (ht:T t=some tyNd) (k:Int) (j:List UInt8):za1 T t [(0,i64 k),(2,str j)] K=K (nA ⟨k,0,j,0⟩):=by
 simp [za1,ht,tyNd,T3,T2,T49,T9,zbF,zaI,zb2,zb9,zdm,zbR,za7,zaD,tyStr,nA,nC]
 try rfl
theorem zgl (ht:T t=some tyGu):za1 T t [] K=K (.agg []):=by
 simp [za1,ht,tyGu,zbF,zaI]
theorem mkI2_gu (x:AV):mkI2 (some tyGu) t x K=K (.ifc t x):=mkI2_some rfl _ _
theorem fit_1 {t:TypeId} {ti:TI} {v:Value} (ht:T t=some ti) (h:scB ti.d v=true):fitE T 1 t [v]:=by
 simp only [fitE,ht]
 rcases zdv h with ⟨k,n,e,rfl⟩ | ⟨b,e,rfl⟩ | ⟨s,e,rfl⟩ <;> simp only [e] <;> exact⟨_,rfl,by simp [scB]⟩
theorem fit_n (n:Nd):fitE T 2 51 (nV n):=by
 rw [fitE]
 simp only [T51,tyNd]
 refine⟨trivial,rfl,rfl,?_⟩
 intro f hf
 simp only [List.mem_cons,List.not_mem_nil,or_false] at hf
 rcases hf with rfl | rfl | rfl | rfl
 ·exact⟨⟨_,T49⟩,fit_1 T49 rfl⟩
 ·exact⟨⟨_,T2⟩,fit_1 T2 rfl⟩
 ·exact⟨⟨_,T9⟩,fit_1 T9 rfl⟩
 ·exact⟨⟨_,T3⟩,fit_1 T3 rfl⟩
theorem nV_inj {a b:Nd} (h:nV a=nV b):a=b:=by
 obtain⟨a1,a2,a3,a4⟩:=a
 obtain⟨b1,b2,b3,b4⟩:=b
 simp only [nV,List.cons.injEq,Value.int.injEq,true_and,Value.string.injEq,ByteArray.mk.injEq,and_true] at h
 obtain⟨rfl,rfl,h,rfl⟩:=h
 simp at h
 rw [h]
theorem eqP_n (a b:Nd):eqP T 51 (nC a) (nC b) (2,nV a,nV b,decide (a=b)) :=
 ⟨rfl,rfl,(by show 2≤100;omega),⟨tyNd,T51,rfl⟩,fit_n a,fit_n b,by simp only [decide_eq_true_eq];exact⟨fun h=>by rw [h],fun h=>nV_inj h⟩⟩
theorem eqP_val {a b:Nd} {q:Nat × List Value × List Value × Bool} (h:eqP T 51 (nC a) (nC b) q):q.2.2.2=decide (a=b):=by
 obtain⟨h1,h2,_,_,_,_,h3⟩:=h
 have lits:∀ {l r:List Value},zaI l=zaI r→l=r:=by
  intro l
  induction l with
  | nil=>intro r h;cases r with | nil=>rfl | cons _ _=>cases h
  | cons x l ih =>
   intro r h
   cases r with
   | nil=>cases h
   | cons y r =>
    simp only [zaI,List.map_cons,List.cons.injEq,AV.lit.injEq] at h
    rw [h.1,ih h.2]
 have e1:=lits (l:=nV a) h1
 have e2:=lits (l:=nV b) h2
 rw [Bool.eq_iff_iff,h3,← e1,← e2,decide_eq_true_eq]
 exact⟨nV_inj,fun h=>by rw [h]⟩
theorem bin_n_eql:wbin T .eql 51 (nA a) (nA b) K=K (bl (decide (a=b))):=by
 apply propext
 constructor
 ·rintro⟨q,hq,hk⟩
  rw [← eqP_val hq]
  exact hk
 ·exact fun hk=>⟨_,eqP_n a b,hk⟩
theorem bin_n_neq:wbin T .neq 51 (nA a) (nA b) K=K (bl (!decide (a=b))):=by
 apply propext
 constructor
 ·rintro⟨q,hq,hk⟩
  rw [← eqP_val hq]
  exact hk
 ·exact fun hk=>⟨_,eqP_n a b,hk⟩
theorem set_n1 (k:Int):(nC a).set 1 (i64 k)=nC ⟨a.kind,k,a.text,a.kids⟩:=rfl
theorem set_n2 (k:List UInt8):(nC a).set 2 (str k)=nC ⟨a.kind,a.num,k,a.kids⟩:=rfl
theorem set_n3 (k:Int):(nC a).set 3 (i64 k)=nC ⟨a.kind,a.num,a.text,k⟩:=rfl
end
def wantN (n:Nd):Nd :=
 if n.kind=1 then (if n.num=1 then ⟨1,1,[],0⟩ else ⟨1,0,[],0⟩)
 else if n.kind=2 then ⟨2,n.num,[],0⟩
 else if n.kind=3 then ⟨3,0,n.text,0⟩
 else if n.kind=4∨n.kind=5 then ⟨n.kind,0,[],max n.kids 0⟩
 else ⟨n.kind,0,[],0⟩
def zbU (n:Nd):Bool:=decide (0≤n.kind) && decide (n.kind≤5) && decide (n=wantN n)
theorem alone_ok (n:Nd):ACalls Tryz.prog 171 [nA n] [] (fun y _=>y=.ret (bl (zbU n))):=by
 refine ACalls.body T_ok Tryz.func171 (by kernel_rfl) rfl Tryz.ntmps171 (congrArg Array.toList Tryz.results171) ?_
 try simp -implicitDefEqProofs only [LB0,LB1,LB2,zhw,box_n,ld_n,fa_n0 T51,fa_n1 T51,fa_n2 T51,fa_n3 T51,ld_n0,ld_n1,ld_n2,ld_n3,st_n,st_n3,al_n,bd_n0 T51,bd_n02 T51,zgl T232,mkI2_gu,bin_n_eql,bin_n_neq,set_n1,set_n2,set_n3,len_nC,eq_self,TB,SB,Int.reduceToNat,Nat.reduceAdd,Nat.reduceEqDiff,Nat.reduceLT,Nat.reduceMod,Nat.reducePow,Nat.reduceSub,if_true,reduceIte]
 have fin:∀ (b:Bool) (σ:zaa),b=zbU n→endQ 0 (bl b) σ (fun r _=>AEnd.ret r=AEnd.ret (bl (zbU n))):=fun b σ h=>zaE (by rw [h])
 refine⟨fun h=>fin _ _ ?_,fun h0=>⟨fun h=>⟨fun h'=>fin _ _ ?_,fun h'=>fin _ _ ?_⟩,fun h1=>⟨fun h=>fin _ _ ?_,fun h2=>⟨fun h=>fin _ _ ?_,fun h3=>⟨fun h=>⟨fun h'=>fin _ _ ?_,fun h'=>absurd h h'⟩,fun h4=>⟨fun h=>fin _ _ ?_,fun h5=>fin _ _ ?_⟩⟩⟩⟩⟩⟩
 rotate_right
 ·have:(decide (0≤n.kind) && decide (n.kind≤5))=false:=by
   rw [Bool.and_eq_false_iff,decide_eq_false_iff_not,decide_eq_false_iff_not]
   omega
  simp only [zbU,this,Bool.false_and]
 all_goals (simp only [zbU,wantN])
 all_goals (simp [h, *])
end Go.Proofs.YtcahoelfogjljaaGreatDoor
end

section
namespace Go.Proofs.YtcahoelfogjljaaGreatDoor
open Go Go.Eng
theorem zce (l:List Nd):(l.flatMap nC).length=l.length * 4:=by
 induction l with
 | nil=>rfl
 | cons a l ih=>rw [List.flatMap_cons,List.length_append,ih];simp [nC];omega
theorem zi5 (l:List Nd) (k:Nat):(l.flatMap nC).drop (k * 4)=(l.drop k).flatMap nC:=by
 induction l generalizing k with
 | nil=>simp
 | cons a l ih =>
  cases k with
  | zero=>simp
  | succ k =>
   rw [List.flatMap_cons,List.drop_succ_cons,← ih,Nat.succ_mul,show k * 4+4=4+k * 4 by omega,List.drop_append]
   simp [nC]
theorem flatN_take (l:List Nd) (k:Nat):(l.flatMap nC).take (k * 4)=(l.take k).flatMap nC:=by
 induction l generalizing k with
 | nil=>simp
 | cons a l ih =>
  cases k with
  | zero=>simp
  | succ k =>
   rw [List.flatMap_cons,List.take_succ_cons,List.flatMap_cons,← ih,Nat.succ_mul,show k * 4+4=4+k * 4 by omega,List.take_append]
   simp only [show (nC a).length=4 from rfl,Nat.add_sub_cancel_left]
   rw [List.take_of_length_le (by simp only [show (nC a).length=4 from rfl];omega)]
section
variable {l : List Nd} {σ : zaa} {K : AV → Prop} {KS : AV → zaa → Prop} {t : TypeId} {id : Nat}
theorem ia_N (m:Nat) (k:Int):ia3 (some tyNd) (.sl (l.flatMap nC) m) k K=(0≤k∧k < m∧m * 4≤l.length * 4∧K (.rp ((l.drop k.toNat).flatMap nC))):=by
 have:=zi5 l k.toNat
 simp only [ia3,tyNd,zce,this,Nat.zero_lt_succ,true_and]
theorem ld_N (k:Nat):ld2 (some tyNd) (some ((l.drop k).flatMap nC)) 0 K=(k < l.length∧K (nA (l.getD k n0d))):=by
 by_cases h:k < l.length
 ·rw [List.drop_eq_getElem_cons h,List.flatMap_cons]
  simp [ld2,wfin,tyNd,TD.agg,nC,nA,h]
  try (intro _;omega)
 ·rw [show l.drop k=[] from List.drop_eq_nil_of_le (by omega)]
  simp [ld2,wfin,tyNd,h]
theorem fa_N0 (ht:T t=some tyNd) (cs:List AV):zaf T t (.rp cs) 0 K=K (.rp cs):=by simp [zaf,ht,tyNd,T49,zaD]
theorem fa_N2 (ht:T t=some tyNd) (cs:List AV):zaf T t (.rp cs) 2 K=K (.rp (cs.drop 2)):=by simp [zaf,ht,tyNd,T9,tyStr]
theorem fa_N3 (ht:T t=some tyNd) (cs:List AV):zaf T t (.rp cs) 3 K=K (.rp (cs.drop 3)):=by simp [zaf,ht,tyNd,T3,zaD]
theorem ldf_N0 (k:Nat):ld2 (some zaD) (some ((l.drop k).flatMap nC)) 0 K=(k < l.length∧K (i64 (l.getD k n0d).kind)):=by
 by_cases h:k < l.length
 ·rw [List.drop_eq_getElem_cons h,List.flatMap_cons]
  simp [ld2,wfin,zaD,TD.agg,nC,h]
  try (intro _;omega)
 ·rw [show l.drop k=[] from List.drop_eq_nil_of_le (by omega)]
  simp [ld2,wfin,zaD,h]
theorem ldf_N2 (k:Nat):ld2 (some tyStr) (some (((l.drop k).flatMap nC).drop 2)) 0 K=(k < l.length∧K (str (l.getD k n0d).text)):=by
 by_cases h:k < l.length
 ·rw [List.drop_eq_getElem_cons h,List.flatMap_cons]
  simp [ld2,wfin,tyStr,TD.agg,nC,h]
  try (intro _;omega)
 ·rw [show l.drop k=[] from List.drop_eq_nil_of_le (by omega)]
  simp [ld2,wfin,tyStr,h]
theorem ldf_N3 (k:Nat):ld2 (some zaD) (some (((l.drop k).flatMap nC).drop 3)) 0 K=(k < l.length∧K (i64 (l.getD k n0d).kids)):=by
 by_cases h:k < l.length
 ·rw [List.drop_eq_getElem_cons h,List.flatMap_cons]
  simp [ld2,wfin,zaD,TD.agg,nC,h]
  try (intro _;omega)
 ·rw [show l.drop k=[] from List.drop_eq_nil_of_le (by omega)]
  simp [ld2,wfin,zaD,h]
def rdC (l:List Nd) (j n:Nat) (d:Int):List AV:=[.sl (l.flatMap nC) l.length,.ref j 0 n 1,i64 d]
theorem fa_r0 (ht:T t=some tyRd):zaf T t (.ptr id 0) 0 K=K (.ptr id 0):=by simp [zaf,ht,tyRd,T22,tySl]
theorem fa_r1 (ht:T t=some tyRd):zaf T t (.ptr id 0) 1 K=K (.ptr id 1):=by simp [zaf,ht,tyRd,T47,tySl]
theorem fa_r2 (ht:T t=some tyRd):zaf T t (.ptr id 0) 2 K=K (.ptr id 2):=by simp [zaf,ht,tyRd,T3,zaD]
theorem ld_r0 (e:TypeId) (j n:Nat) (d:Int):ld2 (some (tySl e)) (some (rdC l j n d)) 0 K=K (.sl (l.flatMap nC) l.length):=by simp [ld2,wfin,tySl,TD.agg,rdC]
theorem ld_r1 (e:TypeId) (j n:Nat) (d:Int):ld2 (some (tySl e)) (some (rdC l j n d)) 1 K=K (.ref j 0 n 1):=by simp [ld2,wfin,tySl,TD.agg,rdC]
theorem ld_r2 (j n:Nat) (d:Int):ld2 (some zaD) (some (rdC l j n d)) 2 K=K (i64 d):=by simp [ld2,wfin,zaD,TD.agg,rdC]
theorem al_r (e:TypeId):al1 T e (some tyRd) σ KS=KS (.ptr σ.length 0) (σ++[.rw [nilS,nilS,i64 0]]):=by
 simp [al1,tyRd,zaI,nilS,i64]
theorem bd_r (ht:T t=some tyRd) (cs:List AV) (m j n:Nat):za1 T t [(0,.sl cs m),(1,.ref j 0 n 1)] K=K (.agg [.sl cs m,.ref j 0 n 1,i64 0]):=by
 simp [za1,ht,tyRd,T3,T47,T22,zbF,zaI,zhw,one_sl,cells_ref,one_ref,za7,zaD,tySl,i64]
theorem st_r (x y:AV) (cs:List AV) (m j n:Nat) (d:Int):st2 (some tyRd) (some (.rw [x,y,i64 0])) id 0 (.agg [.sl cs m,.ref j 0 n 1,i64 d]) σ KS=KS (.lit undef) (σ.set id (.rw [.sl cs m,.ref j 0 n 1,i64 d])):=by
 simp [st2,tyRd,AV.cells,one_sl,one_ref,zb9,za7]
end
theorem ia_ref_i64 (id off len:Nat) (n:Int) {K:AV→Prop}:ia3 (some zaD) (.ref id off len 1) n K=(0≤n∧n < len∧K (.ptr id (off+n.toNat))):=zjB zdT _ _ _ _
theorem set_mapI (l:List Int) (k:Nat) (x:Int):(l.map i64).set k (i64 x)=(l.set k x).map i64:=by rw [List.map_set]
theorem bin_str_lss {t:TypeId} {K:AV→Prop} (a b:List UInt8):wbin T .lss t (str a) (str b) K=K (bl (Op.bytesLess a b)):=by simp [wbin,str,strV,bl]
theorem bin_str_leq {t:TypeId} {K:AV→Prop} (a b:List UInt8):wbin T .leq t (str a) (str b) K=K (bl (Op.bytesLess a b || decide (a=b))):=by simp [wbin,str,strV,bl]
theorem bin_str_geq {t:TypeId} {K:AV→Prop} (a b:List UInt8):wbin T .geq t (str a) (str b) K=K (bl (!Op.bytesLess a b)):=by simp [wbin,str,strV,bl]
theorem zan (q:List Nat) (n:Nd):renL q (nC n)=some (nC n):=by simp only [nC,renL,zae,zah,Option.map,bind,Option.bind,pure]
theorem ze5 (q:List Nat) (n:Nd):(nA n).ren q=some (nA n):=by simp only [nA,AV.ren,zan,Option.map]
theorem renL_app (q:List Nat):∀ (l m:List AV),renL q l=some l→renL q m=some m→renL q (l++m)=some (l++m)
 | [],m,_,h=>h
 | a::l,m,h1,h2=>by
  simp only [renL,Option.bind_eq_some_iff,Option.map_eq_some_iff] at h1
  obtain⟨a',h3,l',h4,h5⟩:=h1
  simp only [List.cons.injEq] at h5
  obtain⟨rfl,rfl⟩:=h5
  simp only [List.cons_append,renL,h3,renL_app q l' m h4 h2,Option.bind_some,Option.map_some]
theorem zat (q:List Nat):∀ l:List Nd,renL q (l.flatMap nC)=some (l.flatMap nC)
 | []=>rfl
 | a::l=>by rw [List.flatMap_cons];exact renL_app q _ _ (zan q a) (zat q l)
theorem ren_slN (q:List Nat) (l:List Nd) (n:Nat):(AV.sl (l.flatMap nC) n).ren q=some (.sl (l.flatMap nC) n):=by simp only [AV.ren,zat,Option.map]
theorem zeB (q:List Nat) (l:List Nd) (j n:Nat) (d:Int):renL q (rdC l j n d)=(q[j]?).map fun j'=>rdC l j' n d:=by
 simp only [rdC,renL,AV.ren,zat,zae,Option.map_some,Option.bind_some]
 cases q[j]? <;> rfl
theorem retQ_pan (rs : List ResultVar) (KK : AEnd → zaa → Prop) (n0 : Nat) (r : AV) (env : Env) (σ : zaa) : retQ T n0 rs KK (.pan r) env σ = endQ n0 r σ (fun r σ' => KK (.pan r) σ') := rfl
theorem set_r2 (l:List Nd) (j n:Nat) (d k:Int):(rdC l j n d).set 2 (i64 k)=rdC l j n k:=rfl
theorem len_rdC (l:List Nd) (j n:Nat) (d:Int):(rdC l j n d).length=3:=rfl
theorem mk_i64 {σ:zaa} {KS:AV→zaa→Prop} (l c:Int):mk2 (some zaD) l c σ KS=(0≤l∧l≤c∧c≤9223372036854775807∧c * (8:Nat)≤281474976710656∧KS (.ref σ.length 0 l.toNat 1) (σ++[.rw (List.replicate l.toNat (i64 0))])):=mk2_one zdT _ _
theorem setp_2 (env:Env) (t u:Tmp) (a b:AV):setp env [t,u] [a,b]=(env.set t a).set u b:=rfl
theorem zcN (q:List Nat) (l:List Int):renL q (l.map i64)=some (l.map i64):=zas i64 zae q l
def leB (a b:List UInt8):Bool:=Op.bytesLess a b || decide (a=b)
def aftB (last:Option (List UInt8)) (t:List UInt8):Bool:=match last with
 | some s=>!leB t s
 | none=>true
theorem zgR {n:Nd} (h:zbU n=true):0≤n.kids:=by
 simp only [zbU,Bool.and_eq_true,decide_eq_true_eq] at h
 have:=congrArg Nd.kids h.2
 rw [wantN] at this
 split at this
 ·split at this <;> simp only at this <;> omega
 ·split at this
  ·simp only at this;omega
  ·split at this
   ·simp only at this;omega
   ·split at this <;> simp only at this <;> omega
def zbu (V:Nat→Option (Nat × Nat)) (l:List Nd) (mp:Bool):Nat→Option (List UInt8)→Nat→Nat→Option (Nat × Nat)
 | 0,_,e,d=>some (e,d)
 | c+1,last,e,d =>
  if mp then
   match l[e]? with
   | some k=>if zbU k && decide (k.kind=3) && aftB last k.text then
     match V (e+1) with
     | some r=>zbu V l mp c (some k.text) r.1 (max d r.2)
     | none=>none
    else none
   | none=>none
  else
   match V e with
   | some r=>zbu V l mp c last r.1 (max d r.2)
   | none=>none
def val (l:List Nd):Nat→Nat→Option (Nat × Nat)
 | 0,_=>none
 | f+1,at'=>match l[at']? with
  | some n=>if zbU n then (zbu (val l f) l (decide (n.kind=5)) n.kids.toNat none (at'+1) 0).map fun r=>(r.1,r.2+1) else none
  | none=>none
theorem zcK {V:Nat→Option (Nat × Nat)} {l:List Nd} {mp:Bool} (hV:∀ e r,V e=some r→e < r.1∧r.1≤l.length):∀ (c:Nat) (last:Option (List UInt8)) (e d:Nat) (r:Nat × Nat),e≤l.length→zbu V l mp c last e d=some r→e≤r.1∧r.1≤l.length∧d≤r.2
 | 0,last,e,d,r,he,h=>by
  simp only [zbu,Option.some.injEq] at h
  subst h
  exact⟨Nat.le_refl _,he,Nat.le_refl _⟩
 | c+1,last,e,d,r,he,h=>by
  simp only [zbu] at h
  split at h
  ·split at h
   ·split at h
    ·split at h
     ·rename_i r' hr'
      have h1:=hV _ _ hr'
      have h2:=zcK hV c _ _ _ _ h1.2 h
      exact⟨by omega,h2.2.1,by omega⟩
     ·cases h
    ·cases h
   ·cases h
  ·split at h
   ·rename_i r' hr'
    have h1:=hV _ _ hr'
    have h2:=zcK hV c _ _ _ _ h1.2 h
    exact⟨by omega,h2.2.1,by omega⟩
   ·cases h
theorem val_le {l:List Nd}:∀ (f at':Nat) (r:Nat × Nat),val l f at'=some r→at' < r.1∧r.1≤l.length
 | 0,_,_,h=>by cases h
 | f+1,at',r,h=>by
  simp only [val] at h
  split at h
  ·rename_i n hn
   have hlt:=(List.getElem?_eq_some_iff.1 hn).1
   split at h
   ·rw [Option.map_eq_some_iff] at h
    obtain⟨q,h1,rfl⟩:=h
    have:=zcK (val_le (l:=l) f) _ _ _ _ _ (by omega) h1
    exact⟨by omega,this.2.1⟩
   ·cases h
  ·cases h
theorem zdC {V V':Nat→Option (Nat × Nat)} {l:List Nd} {mp:Bool} (hV:∀ e r,V e=some r→e < r.1) (a:Nat) (h:∀ e,a≤e→V e=V' e):∀ (c:Nat) (last:Option (List UInt8)) (e d:Nat),a≤e→zbu V l mp c last e d=zbu V' l mp c last e d
 | 0,_,_,_,_=>rfl
 | c+1,last,e,d,he=>by
  simp only [zbu]
  rw [← h e he,← h (e+1) (by omega)]
  have i1:∀ r,V (e+1)=some r→∀ last,zbu V l mp c last r.1 (max d r.2)=zbu V' l mp c last r.1 (max d r.2):=fun r hr last=>zdC hV a h c _ _ _ (by have:=hV _ _ hr;omega)
  have i2:∀ r,V e=some r→∀ last,zbu V l mp c last r.1 (max d r.2)=zbu V' l mp c last r.1 (max d r.2):=fun r hr last=>zdC hV a h c _ _ _ (by have:=hV _ _ hr;omega)
  cases h1:V (e+1) with
  | none=>cases h2:V e with
   | none=>rfl
   | some r=>simp only [i2 r h2]
  | some r'=>cases h2:V e with
   | none=>simp only [i1 r' h1]
   | some r=>simp only [i1 r' h1,i2 r h2]
theorem val_fuel {l:List Nd}:∀ (f f' at':Nat),l.length≤at'+f→l.length≤at'+f'→val l f at'=val l f' at'
 | 0,0,_,_,_=>rfl
 | 0,f'+1,at',h,_=>by
  have:l[at']?=none:=List.getElem?_eq_none (by omega)
  simp only [val,this]
 | f+1,0,at',_,h=>by
  have:l[at']?=none:=List.getElem?_eq_none (by omega)
  simp only [val,this]
 | f+1,f'+1,at',h,h'=>by
  simp only [val]
  cases hn:l[at']? with
  | none=>rfl
  | some n =>
   simp only
   rw [zdC (fun e r hr=>(val_le f e r hr).1) (at'+1) (fun e he=>val_fuel f f' e (by omega) (by omega)) _ _ _ _ (Nat.le_refl _)]
def vl (l:List Nd) (at':Nat):Option (Nat × Nat):=val l (l.length - at') at'
theorem za6 {l:List Nd} {at':Nat} {r:Nat × Nat} (h:vl l at'=some r):at' < r.1∧r.1≤l.length:=val_le _ _ _ h
theorem vl_eq (l:List Nd) (at':Nat):vl l at'=match l[at']? with
  | some n=>if zbU n then (zbu (vl l) l (decide (n.kind=5)) n.kids.toNat none (at'+1) 0).map fun r=>(r.1,r.2+1) else none
  | none=>none:=by
 unfold vl
 cases hn:l[at']? with
 | none =>
  have:=List.getElem?_eq_none_iff.1 hn
  rw [show l.length - at'=0 by omega]
  rfl
 | some n =>
  have hlt:=(List.getElem?_eq_some_iff.1 hn).1
  rw [show l.length - at'=(l.length - at' - 1)+1 by omega]
  simp only [val,hn]
  rw [zdC (fun e r hr=>(val_le _ e r hr).1) (at'+1) (fun e he=>val_fuel _ (l.length - e) e (by omega) (by omega)) _ _ _ _ (Nat.le_refl _)]
def zdV (l:List Nd) (p:Nat):Int:=match vl l p with
 | some r=>r.1
 | none=>0
theorem vl_text {l:List Nd} {p:Nat} {k:Nd} (hk:l[p]?=some k) (ha:zbU k=true) (h3:k.kind=3):vl l p=some (p+1,1):=by
 rw [vl_eq,hk]
 have hkids:k.kids=0:=by
  simp only [zbU,Bool.and_eq_true,decide_eq_true_eq] at ha
  have:=congrArg Nd.kids ha.2
  rw [wantN] at this
  simpa [h3] using this
 simp only [ha,if_true,hkids,Int.toNat_zero,zbu,Option.map_some]
def updE (l:List Nd) (es:List Int) (a b:Nat):List Int:=es.mapIdx fun p x=>if a≤p∧p < b then zdV l p else x
theorem zdh (l:List Nd) (es:List Int) (a b:Nat):(updE l es a b).length=es.length:=by simp [updE]
theorem updE_none (l:List Nd) (es:List Int) (a:Nat):updE l es a a=es:=by
 apply List.ext_getElem? ;intro i
 simp only [updE,List.getElem?_mapIdx]
 rw [show (fun x=>if a≤i∧i < a then zdV l i else x)=(fun x:Int=>x) by funext x;rw [if_neg (by omega)]]
 simp
theorem zgS (l:List Nd) (es:List Int) {a b c:Nat} (h1:a≤b) (h2:b≤c):updE l (updE l es a b) b c=updE l es a c:=by
 apply List.ext_getElem? ;intro i
 simp only [updE,List.getElem?_mapIdx,Option.map_map]
 congr 1
 funext x
 simp only [Function.comp]
 by_cases h3:a≤i∧i < b
 ·rw [if_neg (by omega),if_pos h3,if_pos (by omega)]
 ·by_cases h4:b≤i∧i < c
  ·rw [if_pos h4,if_pos (by omega)]
  ·rw [if_neg h4,if_neg h3,if_neg (by omega)]
theorem updE_set (l:List Nd) (es:List Int) {a b:Nat} (h1:a < b):(updE l es (a+1) b).set a (zdV l a)=updE l es a b:=by
 apply List.ext_getElem? ;intro i
 rw [List.getElem?_set,zdh]
 simp only [updE,List.getElem?_mapIdx]
 by_cases h:a=i
 ·subst h
  by_cases hl:a < es.length
  ·simp [hl,h1]
  ·simp [hl]
 ·rw [if_neg h]
  congr 1
  funext x
  by_cases h3:a+1≤i∧i < b
  ·rw [if_pos h3,if_pos (by omega)]
  ·rw [if_neg h3,if_neg (by omega)]
end Go.Proofs.YtcahoelfogjljaaGreatDoor
end

section
namespace Go.Proofs.YtcahoelfogjljaaGreatDoor
open Go Go.Eng
set_option linter.defProp false in
def LB3:=And.intro @zhw (And.intro (fun {K} {id}=>@fa_n0 K _ id T51) (And.intro (fun {K} {id}=>@fa_n1 K _ id T51) (And.intro (fun {K} {id}=>@fa_n2 K _ id T51) (And.intro (fun {K} {id}=>@fa_n3 K _ id T51) (And.intro @ld_n0 (And.intro @ld_n1 (And.intro @ld_n2 (And.intro @ld_n3 (And.intro @st_n (@al_n))))))))))
set_option linter.defProp false in
def LB4:=And.intro @box_n (And.intro @ld_n (And.intro @st_n3 (And.intro (fun {K}=>@bd_n0 K _ T51) (And.intro (fun {K}=>@bd_n02 K _ T51) (And.intro (fun {K}=>@zgl K _ T232) (And.intro @mkI2_gu (And.intro @bin_n_eql (And.intro @bin_n_neq (And.intro @set_n1 (And.intro @set_n2 (And.intro @set_n3 (And.intro @len_nC (And.intro (fun {K} {id}=>@fa_r0 K _ id T166) (And.intro (fun {K} {id}=>@fa_r1 K _ id T166) (And.intro (fun {K} {id}=>@fa_r2 K _ id T166) (And.intro @ld_r0 (And.intro @ld_r1 (And.intro @ld_r2 (And.intro (fun {K}=>@bd_r K _ T166) (And.intro @st_r (And.intro @al_r (And.intro @ia_N (And.intro @ld_N (And.intro @ia_ref_i64 (And.intro @ld_i64m (And.intro @set_mapI (And.intro (fun {K}=>@fa_N0 K _ T51) (And.intro (fun {K}=>@fa_N2 K _ T51) (And.intro (fun {K}=>@fa_N3 K _ T51) (And.intro @ldf_N0 (And.intro @ldf_N2 (And.intro @ldf_N3 (And.intro @retQ_pan (And.intro @set_r2 (And.intro @len_rdC (And.intro @bin_str_lss (And.intro @bin_str_geq (And.intro @bin_str_leq (And.intro @recQ_ret (And.intro @recQ_pan (And.intro @mk_i64 (And.intro @setp_1 (And.intro @setp_2 (And.intro @wres_nil (And.intro @wres_cell (And.intro @wres_tmp (And.intro @packR_1 (And.intro @packR_2 (And.intro @packR_3 (And.intro @retQ_wres (And.intro @endD_normal (And.intro @st_nilc (And.intro @box_slc (And.intro @box_refc (And.intro @al_i64 (And.intro @al_sl (And.intro @st_slc (And.intro @ld_i64 (@ld_sl1)))))))))))))))))))))))))))))))))))))))))))))))))))))))))))
set_option linter.defProp false in
def LM6:=And.intro LB1 (And.intro LB2 (And.intro LB3 (LB4)))
def gu:AV:=.ifc 232 (.agg [])
theorem zgm (q:List Nat):gu.ren q=some gu:=rfl
def zbm (l:List Nd) (p:Nat):Option Nd:=match l[p]? with
 | some n=>if zbU n then some n else none
 | none=>none
def zfO (l:List Nd) (p:Nat):AEnd:=match zbm l p with
 | some n=>.ret (nA n)
 | none=>.pan gu
abbrev rdS (l:List Nd) (es:List Int) (d:Int):zaa:=[.rw (rdC l 1 l.length d),.rw (es.map i64)]
theorem zfP {l:List Nd} {es:List Int} {d:Int} {r:AV} {junk:zaa} {K:AV→zaa→Prop} (hr:r.ren [0,1]=some r) (h:K r (rdS l es d)):endQ 2 r (.rw (rdC l 1 l.length d)::.rw (es.map i64)::junk) K:=by
 refine .inl ⟨[0,1],r,rdS l es d,rfl,rfl,by decide,hr,?_,h⟩
 simp [zao,zar,zeB,zcN]
theorem node_ok (l:List Nd) (es:List Int) (d:Int) (p:Nat) (hl:l.length≤1000) (hp:p≤1000):ACalls Tryz.prog 143 [.ptr 0 0,i64 p] (rdS l es d) (fun y σ=>y=zfO l p∧σ=rdS l es d):=by
 refine ACalls.body T_ok Tryz.func143 (by kernel_rfl) rfl Tryz.ntmps143 (congrArg Array.toList Tryz.results143) ?_
 refine aQ18 ?_
 by_cases h:l.length≤p
 ·rw [decide_eq_true (by omega:(l.length:Int)≤p)]
  refine aQ18 ?_
  have hn:zfO l p=.pan gu:=by
   simp only [zfO,zbm,List.getElem?_eq_none h]
  rw [hn]
  exact zfP (zgm _) ⟨rfl,rfl⟩
 ·rw [decide_eq_false (by omega:¬ (l.length:Int)≤p)]
  refine aQ18 ?_
  repeat (with_reducible refine zbt ?_)
  refine(alone_ok (l.getD p n0d)).pure aQ3 ?_
  rintro _ σ rfl
  refine⟨by first | rfl | simp [AEnd.noid,AV.ren,renL,zb8,zas str zah,zb7,zbX,zbx,zae,zak,zah],?_⟩
  refine aQ18 ?_
  have hg:l[p]?=some (l.getD p n0d):=by
   rw [List.getElem?_eq_getElem (by omega)]
   simp [show p < l.length by omega]
  cases ha:zbU (l.getD p n0d) with
  | true =>
   refine aQ18 ?_
   repeat (with_reducible refine zbt ?_)
   have hn:zfO l p=.ret (nA (l.getD p n0d)):=by
    simp only [zfO,zbm,hg,ha,if_true]
   rw [hn]
   exact zfP (ze5 _ _) ⟨rfl,rfl⟩
  | false =>
   refine aQ18 ?_
   have hn:zfO l p=.pan gu:=by
    simp only [zfO,zbm,hg,ha,Bool.false_eq_true,if_false]
   rw [hn]
   exact zfP (zgm _) ⟨rfl,rfl⟩
def keyK (l:List Nd) (es:List Int) (d:Int) (p:Nat) (first:Bool) (last:List UInt8):AEnd→zaa→Prop:=fun y σ =>
 match zbm l p with
 | some n=>if n.kind=3∧(first=true∨leB n.text last=false) then y=.ret (str n.text)∧σ=rdS l (es.set p (p+1)) d else y=.pan gu∧σ=rdS l es d
 | none=>y=.pan gu∧σ=rdS l es d
theorem zbc {l:List Nd} {p:Nat} {n:Nd} (h:zbm l p=some n):p < l.length∧l[p]?=some n∧zbU n=true:=by
 unfold zbm at h
 split at h
 ·rename_i n' hn
  split at h
  ·rename_i ha
   cases h
   exact⟨(List.getElem?_eq_some_iff.1 hn).1,hn,ha⟩
  ·cases h
 ·cases h
theorem zjK {f:FuncId} {ags:List AV} {l:List Nd} {es:List Int} {d:Int} {n:Nd} {K K0:AEnd→zaa→Prop} (h:ACalls Tryz.prog f ags (rdS l es d) K0) (has:renL [0,1] ags=some ags)
  (hk:∀ y σ,K0 y σ→∃ es' d',σ=rdS l es' d'∧AEnd.ren [0,1,2] y y∧K y [.rw (rdC l 1 l.length d'),.rw (es'.map i64),.rw (nC n)]):ACalls Tryz.prog f ags [.rw (rdC l 1 l.length d),.rw (es.map i64),.rw (nC n)] K:=by
 refine ACalls.frame [0,1] h rfl (by decide) (by simp [zao,zar,zeB,zcN]) has ?_
 rintro y σ hy
 obtain⟨es',d',rfl,hr,hK⟩:=hk y σ hy
 refine⟨y,_,?_,hr,hK⟩
 show zaH _ _ [0,1,2] [0,1,2] 0 _
 simp [zaH,zar,zeB,zcN,zan]
theorem key_ok (l:List Nd) (es:List Int) (d:Int) (p:Nat) (first:Bool) (last:List UInt8) (hl:l.length≤1000) (hp:p≤1000) (he:es.length=l.length):ACalls Tryz.prog 144 [.ptr 0 0,i64 p,bl first,str last] (rdS l es d) (keyK l es d p first last):=by
 refine ACalls.body T_ok Tryz.func144 (by kernel_rfl) rfl Tryz.ntmps144 (congrArg Array.toList Tryz.results144) ?_
 refine aQ18 ?_
 refine(node_ok l es d p hl hp).mono ?_
 rintro y σ ⟨rfl,rfl⟩
 cases hn:zbm l p with
 | none =>
  have hnk:zfO l p=.pan gu:=by simp only [zfO,hn]
  rw [hnk]
  refine aQ18 ?_
  exact zaO (by simp only [keyK,hn];exact⟨trivial,trivial⟩)
 | some n =>
  have hnk:zfO l p=.ret (nA n):=by simp only [zfO,hn]
  obtain⟨hlt,hget,ha⟩:=zbc hn
  rw [hnk]
  refine aQ18 ?_
  have bad : ¬ (n.kind = 3 ∧ (first = true ∨ leB n.text last = false)) → endQ 2 gu [.rw (rdC l 1 l.length d), .rw (es.map i64), .rw (nC n)] (fun r σ' => keyK l es d p first last (.pan r) σ') := fun hb =>
   zfP (zgm _) (by simp only [keyK,hn,if_neg hb];exact⟨trivial,trivial⟩)
  have good : (n.kind = 3 ∧ (first = true ∨ leB n.text last = false)) → endQ 2 (str n.text) [.rw (rdC l 1 l.length d), .rw ((es.set p (p + 1)).map i64), .rw (nC n)] (fun r σ' => keyK l es d p first last (.ret r) σ') := fun hb =>
   zfP (zah _ _) (by simp only [keyK,hn,if_pos hb];exact⟨trivial,trivial⟩)
  by_cases h3:n.kind=3
  ·rw [decide_eq_true h3]
   refine aQ18 ?_
   cases first with
   | true =>
    refine aQ18 ?_
    repeat (with_reducible refine zbt ?_)
    exact good ⟨h3,.inl rfl⟩
   | false =>
    refine aQ18 ?_
    have e:(Op.bytesLess n.text last || decide (n.text=last))=leB n.text last:=rfl
    rw [e]
    cases hle:leB n.text last with
    | true =>
     refine aQ18 ?_
     exact bad (by simp [hle])
    | false =>
     refine aQ18 ?_
     repeat (with_reducible refine zbt ?_)
     exact good ⟨h3,.inr hle⟩
  ·rw [decide_eq_false h3]
   refine aQ18 ?_
   exact bad (fun h=>h3 h.1)
end Go.Proofs.YtcahoelfogjljaaGreatDoor
end

section
namespace Go.Proofs.YtcahoelfogjljaaGreatDoor
open Go Go.Eng
def zhc (l:List Nd) (es:List Int) (d:Int) (p:Nat) (depth:Int):AEnd→zaa→Prop:=fun y σ =>
 match vl l p with
 | some r=>y=.ret (i64 r.1)∧σ=rdS l (updE l es p r.1) (max d (depth+r.2 - 1))
 | none=>y=.pan gu∧∃ es' d',es'.length=es.length∧σ=rdS l es' d'
def zgT (d depth:Int) (dk:Nat):Int:=max (max d depth) (depth+dk)
def zc7 (mp:Bool) (k:Nat) (last:List UInt8):Option (List UInt8):=if mp && decide (0 < k) then some last else none
theorem zcL {V:Nat→Option (Nat × Nat)} {l:List Nd} {c:Nat} {last:Option (List UInt8)} {e d:Nat}:zbu V l true (c+1) last e d=match zbm l e with
  | some n=>if n.kind=3∧aftB last n.text=true then (match V (e+1) with | some r=>zbu V l true c (some n.text) r.1 (max d r.2) | none=>none) else none
  | none=>none:=by
 simp only [zbu,zbm,if_true]
 cases l[e]? with
 | none=>rfl
 | some n =>
  simp only
  cases zbU n with
  | false=>simp
  | true =>
   simp only [reduceIte,Bool.true_and]
   by_cases h3:n.kind=3 <;> by_cases hb:aftB last n.text=true
   ·rw [if_pos (⟨h3,hb⟩:n.kind=3∧aftB last n.text=true)]
    simp only [h3,decide_true,hb,Bool.and_self,if_true]
    try (cases V (e+1) <;> rfl)
   ·rw [if_neg (fun h:n.kind=3∧aftB last n.text=true=>hb h.2)]
    simp [hb]
   ·rw [if_neg (fun h:n.kind=3∧aftB last n.text=true=>h3 h.1)]
    simp [h3]
   ·rw [if_neg (fun h:n.kind=3∧aftB last n.text=true=>h3 h.1)]
    simp [h3]
theorem zci {V:Nat→Option (Nat × Nat)} {l:List Nd} {c:Nat} {last:Option (List UInt8)} {e d:Nat}:zbu V l false (c+1) last e d=match V e with | some r=>zbu V l false c last r.1 (max d r.2) | none=>none:=by
 simp only [zbu,Bool.false_eq_true,if_false]
 try (cases V e <;> rfl)
theorem updE_key {l:List Nd} {es:List Int} {e:Nat} {k:Nd} (hk:zbm l e=some k) (h3:k.kind=3):es.set e ((e:Int)+1)=updE l es e (e+1):=by
 obtain⟨_,h1,h2⟩:=zbc hk
 have he:zdV l e=(e:Int)+1:=by
  simp only [zdV,vl_text h1 h2 h3]
  omega
 have:=updE_set l es (a:=e) (b:=e+1) (by omega)
 rw [updE_none,he] at this
 exact this
theorem zdD {l:List Nd} {p:Nat}:vl l p=match zbm l p with
  | some n=>(zbu (vl l) l (decide (n.kind=5)) n.kids.toNat none (p+1) 0).map fun r=>(r.1,r.2+1)
  | none=>none:=by
 rw [vl_eq,zbm]
 cases l[p]? with
 | none=>rfl
 | some n=>cases h:zbU n <;> simp [h]
theorem value_ok (l:List Nd) (hl:l.length≤120):∀ (m p:Nat) (depth:Int) (es:List Int) (d:Int),l.length - p=m→p≤l.length→0≤depth→depth≤p+1→es.length=l.length →
  ACalls Tryz.prog 118 [.ptr 0 0,i64 p,i64 depth] (rdS l es d) (zhc l es d p depth):=by
 intro m
 induction m using Nat.strongRecOn with
 | _ m ih =>
 intro p depth es d hm hp hd0 hd he
 refine ACalls.body T_ok Tryz.func118 (by kernel_rfl) rfl Tryz.ntmps118 (congrArg Array.toList Tryz.results118) ?_
 refine aQ18 ?_
 refine(node_ok l es d p (by omega) (by omega)).mono ?_
 rintro y σ ⟨rfl,rfl⟩
 cases hn:zbm l p with
 | none =>
  have hnk:zfO l p=.pan gu:=by simp only [zfO,hn]
  rw [hnk]
  refine aQ18 ?_
  refine zaO ?_
  simp only [zhc,zdD,hn]
  exact⟨trivial,es,d,rfl,rfl⟩
 | some n =>
  have hnk:zfO l p=.ret (nA n):=by simp only [zfO,hn]
  obtain⟨hlt,hget,ha⟩:=zbc hn
  rw [hnk]
  refine aQ18 ?_
  repeat (with_reducible refine zbt ?_)
  have hk0:=zgR ha
  obtain⟨c,hc⟩:∃ c,n.kids.toNat=c:=⟨_,rfl⟩
  have hkc:n.kids=c:=by omega
  obtain⟨mp,hmp⟩:∃ mp,decide (n.kind=5)=mp:=⟨_,rfl⟩
  obtain⟨R,hR⟩:∃ R,zbu (vl l) l mp c none (p+1) 0=R:=⟨_,rfl⟩
  have hvl:vl l p=R.map fun r=>(r.1,r.2+1):=by rw [zdD,hn];simp only [hmp,hc,hR]
  have fail : ∀ (es' : List Int) (d' : Int), es'.length = es.length → R = none → endQ 2 gu [.rw (rdC l 1 l.length d'), .rw (es'.map i64), .rw (nC n)] (fun r σ' => zhc l es d p depth (.pan r) σ') := fun es' d' he' hRn =>
   zfP (zgm _) (by simp only [zhc,hvl,hRn,Option.map_none];exact⟨trivial,es',d',he',rfl⟩)
  rw [zaN]
  refine⟨Nat × List UInt8 × Nat × Nat,fun i=>i.1≤c∧p+1+i.1≤i.2.2.1∧i.2.2.1≤l.length∧R=zbu (vl l) l mp (c - i.1) (zc7 mp i.1 i.2.1) i.2.2.1 i.2.2.2,fun i=>[.ptr 0 0,i64 p,i64 depth,.bot,.bot,.bot,i64 0,.ptr 2 0,i64 i.2.2.1,str i.2.1,.bot,.bot,.bot,.bot,.bot,.bot,.bot,.bot,.bot,.bot,.bot,.bot,.bot,.bot,.bot,.bot,i64 c,i64 i.1,.bot,.bot,.bot,.bot,.bot,.bot,.bot,.bot,.bot,.bot,.bot,.bot,.bot,.bot,.bot,.bot,.bot,.bot,.bot,.bot,.bot,.bot,.bot,.bot,.bot,.bot,.bot],fun i=>[.rw (rdC l 1 l.length (zgT d depth i.2.2.2)),.rw ((updE l es (p+1) i.2.2.1).map i64),.rw (nC n)],fun i=>c - i.1,(0,[],p+1,0),⟨Nat.zero_le _,(by show p+1+0≤p+1;omega),by (show p+1≤l.length);omega,by simp [zc7,hR]⟩,?_,?_⟩
  ·simp only [zgT,updE_none]
   rw [show max (max d depth) (depth+(0:Nat))=max d depth by omega,hkc]
   refine zab (q:=[0,1,2]) rfl rfl (by decide) ?_ ?_
   ·refine aQ19 ?_
    try simp
   ·refine aQ19 ?_
    simp [zao,zar,zeB,zcN,zan]
  rintro⟨k,last,e,dk⟩ ⟨hk,hpe,hel,hinv⟩
  dsimp only at hk hpe hel hinv ⊢
  refine aQ18 ?_
  refine⟨fun hlt=>⟨fun h5=>?_,fun h5=>?_⟩,fun hge=>?_⟩
  ·have hmpv:mp=true:=by rw [← hmp];exact decide_eq_true h5
   have hck:c - k=(c - k - 1)+1:=by omega
   rw [hmpv,hck,zcL] at hinv
   refine zjK (key_ok l (updE l es (p+1) e) (zgT d depth dk) e (decide ((k:Int)=0)) last (by omega) (by omega) (by simp [zdh,he])) (by simp [renL,AV.ren,zae,zak,zah]) ?_
   intro y σ hy
   unfold keyK at hy
   cases hne:zbm l e with
   | none =>
    rw [hne] at hy hinv
    obtain⟨rfl,rfl⟩:=hy
    refine⟨_,_,rfl,zgm _,?_⟩
    refine aQ18 ?_
    exact fail _ _ (by simp [zdh]) hinv
   | some k' =>
    rw [hne] at hy hinv
    dsimp only at hy hinv
    have hcond:aftB (zc7 true k last) k'.text=true ↔ (decide ((k:Int)=0)=true∨leB k'.text last=false):=by
     simp only [zc7,Bool.true_and,decide_eq_true_eq]
     by_cases hk0:k=0
     ·simp [hk0,aftB]
     ·have hkp:0 < k:=by omega
      simp only [hkp,if_true,aftB,Bool.not_eq_true',show ¬ (k:Int)=0 by omega,false_or]
    simp only [hcond] at hinv
    by_cases hb:k'.kind=3∧(decide ((k:Int)=0)=true∨leB k'.text last=false)
    rotate_left
    ·rw [if_neg hb] at hy hinv
     obtain⟨rfl,rfl⟩:=hy
     refine⟨_,_,rfl,zgm _,?_⟩
     refine aQ18 ?_
     exact fail _ _ (by simp [zdh]) hinv
    rw [if_pos hb] at hy hinv
    obtain⟨rfl,rfl⟩:=hy
    have hel':=(zbc hne).1
    have e0:=updE_key (es:=updE l es (p+1) e) hne hb.1
    rw [e0,zgS l es (by omega) (by omega)]
    refine⟨_,_,rfl,zah _ _,?_⟩
    refine aQ18 ?_
    repeat (with_reducible refine zbt ?_)
    rw [show (e:Int)+1=((e+1:Nat):Int) from rfl]
    refine zjK (ih (l.length - (e+1)) (by omega) (e+1) (depth+1) (updE l es (p+1) (e+1)) (zgT d depth dk) rfl (by omega) (by omega) (by omega) (by simp [zdh,he])) (by simp [renL,AV.ren,zae]) ?_
    intro y σ hy
    unfold zhc at hy
    cases hv:vl l (e+1) with
    | none =>
     rw [hv] at hy
     obtain⟨rfl,es',d',he',rfl⟩:=hy
     refine⟨es',d',rfl,zgm _,?_⟩
     refine aQ18 ?_
     exact fail _ _ (by rw [he'];simp [zdh]) (by rw [hv] at hinv;dsimp only at hinv;rw [hinv])
    | some r =>
     rw [hv] at hy
     obtain⟨rfl,rfl⟩:=hy
     have hrl:=za6 hv
     refine⟨_,_,rfl,zae _ _,?_⟩
     refine aQ18 ?_
     repeat (with_reducible refine zbt ?_)
     rw [zac]
     refine⟨(k+1,k'.text,r.1,max dk r.2),⟨by (show k+1≤c);omega,by (show p+1+(k+1)≤r.1);omega,hrl.2,?_⟩,by (show c - (k+1) < c - k);omega,?_⟩
     ·dsimp only
      rw [hv] at hinv;dsimp only at hinv;rw [hinv]
      simp only [zc7,hmpv,show c - k - 1=c - (k+1) by omega]
      try simp
     ·have e1:max (zgT d depth dk) (depth+1+(r.2:Int) - 1)=zgT d depth (max dk r.2):=by simp only [zgT];omega
      have e2:updE l (updE l es (p+1) (e+1)) (e+1) r.1=updE l es (p+1) r.1:=by exact zgS l es (by omega) (by omega)
      rw [e1,e2]
      refine zab (q:=[0,1,2]) rfl rfl (by decide) ?_ ?_
      ·refine aQ19 ?_
       try simp
      ·refine aQ19 ?_
       simp [zao,zar,zeB,zcN,zan]
  ·have hmpv:mp=false:=by rw [← hmp];exact decide_eq_false h5
   have hck:c - k=(c - k - 1)+1:=by omega
   rw [hmpv,hck,zci] at hinv
   repeat (with_reducible refine zbt ?_)
   refine zjK (ih (l.length - (e)) (by omega) (e) (depth+1) (updE l es (p+1) e) (zgT d depth dk) rfl (by omega) (by omega) (by omega) (by simp [zdh,he])) (by simp [renL,AV.ren,zae]) ?_
   intro y σ hy
   unfold zhc at hy
   cases hv:vl l (e) with
   | none =>
    rw [hv] at hy
    obtain⟨rfl,es',d',he',rfl⟩:=hy
    refine⟨es',d',rfl,zgm _,?_⟩
    refine aQ18 ?_
    exact fail _ _ (by rw [he'];simp [zdh]) (by rw [hv] at hinv;dsimp only at hinv;rw [hinv])
   | some r =>
    rw [hv] at hy
    obtain⟨rfl,rfl⟩:=hy
    have hrl:=za6 hv
    refine⟨_,_,rfl,zae _ _,?_⟩
    refine aQ18 ?_
    repeat (with_reducible refine zbt ?_)
    rw [zac]
    refine⟨(k+1,last,r.1,max dk r.2),⟨by (show k+1≤c);omega,by (show p+1+(k+1)≤r.1);omega,hrl.2,?_⟩,by (show c - (k+1) < c - k);omega,?_⟩
    ·dsimp only
     rw [hv] at hinv;dsimp only at hinv;rw [hinv]
     simp only [zc7,hmpv,show c - k - 1=c - (k+1) by omega]
     try simp
    ·have e1:max (zgT d depth dk) (depth+1+(r.2:Int) - 1)=zgT d depth (max dk r.2):=by simp only [zgT];omega
     have e2:updE l (updE l es (p+1) e) (e) r.1=updE l es (p+1) r.1:=by exact zgS l es (by omega) (by omega)
     rw [e1,e2]
     refine zab (q:=[0,1,2]) rfl rfl (by decide) ?_ ?_
     ·refine aQ19 ?_
      try simp
     ·refine aQ19 ?_
      simp [zao,zar,zeB,zcN,zan]
  ·have hck:c - k=0:=by omega
   rw [hck] at hinv
   simp only [zbu] at hinv
   have hend:zdV l p=e:=by simp only [zdV,hvl,hinv,Option.map_some]
   refine aQ18 ?_
   repeat (with_reducible refine zbt ?_)
   have e1:=updE_set l es (a:=p) (b:=e) (by omega)
   rw [hend] at e1
   refine⟨by simp [zdh];omega,?_⟩
   rw [e1]
   refine zfP (zae _ _) ?_
   simp only [zhc,hvl,hinv,Option.map_some]
   have e2:zgT d depth dk=max d (depth+((dk+1:Nat):Int) - 1):=by simp only [zgT];omega
   rw [e2]
   exact⟨trivial,rfl⟩
end Go.Proofs.YtcahoelfogjljaaGreatDoor
end

section
namespace Go.Proofs.YtcahoelfogjljaaGreatDoor
open Go Go.Eng
set_option linter.defProp false in
def LB5:=And.intro @leI_nil (And.intro @leI_bot (And.intro @leI_same (@leI_cons)))
theorem long1_ok (n:Nd):ACalls Tryz.prog 116 [nA n] [] (fun y _=>y=.ret (bl (decide (120 < n.text.length)))):=by
 refine ACalls.body T_ok Tryz.func116 (by kernel_rfl) rfl Tryz.ntmps116 (congrArg Array.toList Tryz.results116) ?_
 refine aQ18 ?_
 refine zaE ?_
 rw [show decide ((120:Int) < n.text.length)=decide (120 < n.text.length) from decide_eq_decide.2 (by omega)]
theorem indexN_ok (l:List Nd) (hl:l.length≤1000000):ACalls Tryz.prog 142 [.sl (l.flatMap nC) l.length,.fn (.func 116) [] []] [] (fun y _=>∃ k:Int,y=.ret (i64 k)∧(0≤k ↔ ∃ n∈l,120 < n.text.length)):=by
 refine ACalls.body T_ok Tryz.func142 (by kernel_rfl) rfl Tryz.ntmps142 (congrArg Array.toList Tryz.results142) ?_
 refine aQ18 ?_
 rw [zaN]
 refine⟨Nat,fun k=>k≤l.length∧∀ n∈l.take k,¬ 120 < n.text.length,fun k=>[.sl (l.flatMap nC) l.length,.fn (.func 116) [] [],.bot,.bot,i64 0,.bot,.sl (l.flatMap nC) l.length,i64 l.length,i64 k,.bot,.bot,.bot,.bot,.bot,.bot,.bot,.bot,.bot,.bot],fun _=>[],fun k=>l.length - k,0,⟨Nat.zero_le _,by simp⟩,?_,?_⟩
 ·refine zab (q:=[]) rfl rfl (by decide) ?_ ?_
  ·refine aQ19 ?_
   simp [zat,AV.ren,renL]
  ·first|exact aQ19 trivial|refine aQ19 ?_
 ·rintro k ⟨hk,hno⟩
  refine aQ18 ?_
  refine⟨fun hlt=>?_,fun hge=>?_⟩
  ·repeat (with_reducible refine zbt ?_)
   have hlk:k < l.length:=by omega
   have hg:l.getD k n0d=l[k]:=by simp [hlk]
   refine(long1_ok (l.getD k n0d)).pure aQ3 ?_
   rintro _ σ rfl
   refine⟨by first | rfl | simp [AEnd.noid,AV.ren,renL,zb8,zas str zah,zb7,zbX,zbx,zae,zak,zah],?_⟩
   refine aQ18 ?_
   refine⟨fun hlong=>?_,fun hlong=>?_⟩
   ·exact za5 ⟨k,rfl,fun _=>⟨l.getD k n0d,by rw [hg];exact List.getElem_mem _,hlong⟩,fun _=>by omega⟩
   ·repeat (with_reducible refine zbt ?_)
    rw [zac]
    refine⟨k+1,⟨by omega,?_⟩,by (show l.length - (k+1) < l.length - k);omega,zab (q:=[]) rfl rfl (by decide) ?_ ?_⟩
    ·intro n hn
     rw [List.take_succ_eq_append_getElem hlk,List.mem_append,List.mem_singleton] at hn
     rcases hn with hn | rfl
     ·exact hno n hn
     ·rw [← hg];exact hlong
    ·refine aQ19 ?_
     simp [zat,AV.ren,renL]
    ·first|exact aQ19 trivial|refine aQ19 ?_
  ·refine aQ18 ?_
   refine za5 ⟨-1,rfl,fun h=>by omega,?_⟩
   rintro⟨n,hn,h⟩
   rw [List.take_of_length_le (by omega)] at hno
   exact absurd h (hno n hn)
def zbY (l:List Nd):Bool:=l.any fun n=>decide (120 < n.text.length)
theorem containsN_ok (l:List Nd) (hl:l.length≤1000000):ACalls Tryz.prog 115 [.sl (l.flatMap nC) l.length,.fn (.func 116) [] []] [] (fun y _=>y=.ret (bl (zbY l))):=by
 refine ACalls.body T_ok Tryz.func115 (by kernel_rfl) rfl Tryz.ntmps115 (congrArg Array.toList Tryz.results115) ?_
 refine aQ18 ?_
 refine(indexN_ok l hl).pure (by simp [renL,AV.ren,zat]) ?_
 rintro _ σ ⟨k,rfl,hk⟩
 refine⟨zae _ _,?_⟩
 refine aQ18 ?_
 have e:decide (0≤k)=zbY l:=by
  rw [Bool.eq_iff_iff,decide_eq_true_eq,hk,zbY,List.any_eq_true]
  simp
 rw [e]
 exact zaE rfl
def zaz (l:List Nd):Int :=
 if 120 < l.length∨zbY l=true then 4 else
 match vl l 0 with
 | some r=>if r.1=l.length then (if 32 < r.2 then 3 else 0) else 1
 | none=>1
def zdW (l:List Nd):List Int:=(List.range l.length).map (zdV l)
def readK (l:List Nd):AEnd→zaa→Prop:=fun y σ =>
 if zaz l=0 then ∃ r,vl l 0=some r∧r.1=l.length∧r.2≤32∧y=.ret (.tup [.ref 0 0 l.length 1,i64 r.2,i64 0])∧σ=[.rw ((zdW l).map i64)]
 else y=.ret (.tup [.lit (.slice none 0 0),i64 0,i64 (zaz l)])∧σ=[]
theorem recN_ok (a b c:AV) (σ:zaa) (K:zaa→Prop) (h:K (.rw [a]::.rw [b]::.rw [c]::σ)):DCalls Tryz.prog 117 [.ptr 0 0,.ptr 1 0,.ptr 2 0] (.rw [a]::.rw [b]::.rw [c]::σ) none K:=by
 refine DCalls.body (b:=false) T_ok Tryz.func117 rfl Tryz.ntmps117 Tryz.results117 rfl ?_ ?_
 ·refine aQ18 ?_
  exact⟨rfl,rfl,rfl⟩
 ·refine aQ18 ?_
  exact h
theorem recP_ok (a b c:AV) (σ:zaa) (K:zaa→Prop) (h:K (.rw [.lit (.slice none 0 0)]::.rw [i64 0]::.rw [i64 1]::σ)):DCalls Tryz.prog 117 [.ptr 0 0,.ptr 1 0,.ptr 2 0] (.rw [a]::.rw [b]::.rw [c]::σ) (some gu) K:=by
 refine DCalls.body (b:=true) T_ok Tryz.func117 rfl Tryz.ntmps117 Tryz.results117 rfl ?_ ?_
 ·refine aQ18 ?_
  exact⟨rfl,rfl,rfl⟩
 ·refine aQ18 ?_
  exact h
def readT:Tr:=(.br 0 (.br 1 (.br 2 (.br 3 (.br 4 (.br 5 (.br 6 .done .nil) .nil) .nil) (.br 4 (.br 3 (.br 5 (.br 6 .done .nil) .nil) .nil) .nil)) (.br 4 (.br 2 (.br 3 (.br 5 (.br 6 .done .nil) .nil) .nil) .nil) .nil)) (.br 2 (.br 1 (.br 3 (.br 4 (.br 5 (.br 6 .done .nil) .nil) .nil) (.br 4 (.br 3 (.br 5 (.br 6 .done .nil) .nil) .nil) .nil)) (.br 3 (.br 1 (.br 4 (.br 5 (.br 6 .done .nil) .nil) .nil) .nil) .nil)) .nil)) (.br 2 (.br 0 (.br 1 (.br 3 (.br 4 (.br 5 (.br 6 .done .nil) .nil) .nil) (.br 4 (.br 3 (.br 5 (.br 6 .done .nil) .nil) .nil) .nil)) (.br 3 (.br 1 (.br 4 (.br 5 (.br 6 .done .nil) .nil) .nil) .nil) .nil)) (.br 3 (.br 0 (.br 1 (.br 4 (.br 5 (.br 6 .done .nil) .nil) .nil) .nil) .nil) .nil)) .nil))
theorem read_ok (l:List Nd) (hl:l.length≤1000000):ACalls Tryz.prog 84 [.sl (l.flatMap nC) l.length] [] (readK l):=by
 refine ACalls.bodyD T_ok Tryz.func84 (by kernel_rfl) rfl Tryz.ntmps84 (congrArg Array.toList Tryz.results84) ?_
 rw [WD_none rfl]
 refine aQ18 ?_
 rw [WD_none rfl]
 refine aQ18 ?_
 have err : ∀ (e : Int) (σ : zaa), zaz l = e → e ≠ 0 → endQ 0 (.tup [.lit (.slice none 0 0), i64 0, i64 e]) σ (fun r σ' => readK l (.ret r) σ') := fun e σ h1 h2 =>
  zaP (by simp [AV.ren,renL,zae]) (by simp only [readK,h1,if_neg h2];exact⟨trivial,trivial⟩)
 by_cases hlen:120 < l.length
 ·rw [decide_eq_true (by omega:(120:Int) < l.length)]
  refine aQ18 ?_
  exact err 4 _ (by simp [zaz,hlen]) (by decide)
 rw [decide_eq_false (by omega:¬ (120:Int) < l.length)]
 refine aQ18 ?_
 refine(containsN_ok l hl).pure (by simp [renL,AV.ren,zat]) ?_
 rintro _ σ rfl
 refine⟨zak _ _,?_⟩
 refine aQ18 ?_
 cases hany:zbY l with
 | true =>
  refine aQ18 ?_
  exact err 4 _ (by simp [zaz,hany]) (by decide)
 | false =>
  refine aQ18 ?_
  rw [WD_some rfl]
  refine aQ18 ?_
  refine⟨by kernel_rfl,?_⟩
  refine aQ18 ?_
  repeat (with_reducible refine zbt ?_)
  rw [show List.replicate l.length (i64 0)=(List.replicate l.length (0:Int)).map i64 by simp,show [AV.sl (l.flatMap nC) l.length,.ref 3 0 l.length 1,i64 0]=rdC l 3 l.length 0 from rfl]
  refine ACalls.frame [4,3] (value_ok l (by omega) (l.length - 0) 0 1 (List.replicate l.length 0) 0 rfl (by omega) (by omega) (by omega) (by simp)) rfl (by decide) (by simp [zao,zar,zeB,zcN,-List.map_replicate]) (by simp [renL,AV.ren,zae]) ?_
  have kf:∀ es' d',zaH [Blk.rw [AV.lit (Value.slice none 0 0)],Blk.rw [i64 0],Blk.rw [i64 0],Blk.rw ((List.replicate l.length (0:Int)).map i64),Blk.rw (rdC l 3 l.length 0)] (rdS l es' d') [2,2,2,1,0] [2,2,2,1,0] 0 [Blk.rw [AV.lit (Value.slice none 0 0)],Blk.rw [i64 0],Blk.rw [i64 0],Blk.rw (es'.map i64),Blk.rw (rdC l 3 l.length d')]:=by
   intro es' d'
   simp [zaH,zar,zeB,zcN,-List.map_replicate]
  intro y σ1 hy
  unfold zhc at hy
  cases hv:vl l 0 with
  | none =>
   rw [hv] at hy
   obtain⟨rfl,es',d',-,rfl⟩:=hy
   refine⟨.pan gu,_,kf es' d',zgm _,?_⟩
   refine aQ18 ?_
   refine recP_ok _ _ _ _ _ ?_
   refine aQ18 ?_
   exact err 1 _ (by simp [zaz,hlen,hany,hv]) (by decide)
  | some r =>
   rw [hv] at hy
   obtain⟨rfl,rfl⟩:=hy
   have hrl:=za6 hv
   refine⟨.ret (i64 r.1),_,kf _ _,zae _ _,?_⟩
   refine aQ18 ?_
   refine⟨fun hne=>?_,fun heq=>?_⟩
   ·refine recN_ok _ _ _ _ _ ?_
    refine aQ18 ?_
    exact err 1 _ (by simp [zaz,hlen,hany,hv,show ¬ r.1=l.length by omega]) (by decide)
   have hd:max (0:Int) (1+r.2 - 1)=r.2:=by omega
   rw [hd]
   refine⟨fun hgt=>?_,fun hle=>?_⟩
   ·refine recN_ok _ _ _ _ _ ?_
    refine aQ18 ?_
    exact err 3 _ (by simp [zaz,hlen,hany,hv,show r.1=l.length by omega,show 32 < r.2 by omega]) (by decide)
   refine zjv readT ([.bot,.bot,.ptr 0 0,.ptr 1 0,.ptr 2 0,.bot,.bot,.bot,.bot,.bot,.bot,.bot,.bot,.bot,.bot,.bot,.bot,.bot,.bot,.bot,.bot,.bot,.bot,.bot,.bot,.bot,.bot,.bot,.bot,.bot]) [.rw [.ref 3 0 l.length 1],.rw [i64 r.2],.rw [i64 0],.rw ((updE l (List.replicate l.length 0) 0 r.1).map i64),.rw (rdC l 3 l.length r.2)] (by kernel_rfl) (by kernel_rfl) ?_ ?_
   ·unfold readT
    refine aQ18 ?_
    repeat' (with_reducible refine And.intro ?_ ?_)
    all_goals
     refine zbb ?_
     first|exact aQ20 trivial|refine aQ20 ?_
   refine aQ18 ?_
   refine recN_ok _ _ _ _ _ ?_
   refine aQ18 ?_
   have hne:zaz l=0:=by simp [zaz,hlen,hany,hv,show r.1=l.length by omega,show ¬ 32 < r.2 by omega]
   have hends:updE l (List.replicate l.length 0) 0 r.1=zdW l:=by
    apply List.ext_getElem?
    intro i
    simp only [updE,zdW,List.getElem?_mapIdx,List.getElem?_map,List.getElem?_replicate,show r.1=l.length by omega,List.getElem?_range']
    by_cases hi:i < l.length
    ·simp [hi]
    ·simp [hi,List.getElem?_eq_none]
   rw [hends]
   refine .inl ⟨[3],.tup [.ref 0 0 l.length 1,i64 r.2,i64 0],[.rw ((zdW l).map i64)],rfl,rfl,by decide,by simp [AV.ren,renL,zae],?_,?_⟩
   ·simp [zao,zar,zcN]
   ·simp only [readK,hne,if_true]
    exact⟨r,hv,by omega,by omega,by first | rfl | trivial,by first | rfl | trivial⟩
end Go.Proofs.YtcahoelfogjljaaGreatDoor
end

section
namespace Go.Proofs.YtcahoelfogjljaaGreatDoor
open Go Go.Eng
theorem all_N (l:List Nd):(l.flatMap nC).all AV.one=true:=by
 induction l with
 | nil=>rfl
 | cons a l ih=>rw [List.flatMap_cons,List.all_append,all_n,ih];rfl
theorem append_N {ts:Array TypeId} {t t1 e:TypeId} (h0:ts[0]?=some t) (h1:ts[1]?=some t1) (ht:T t=some (tySl e)) (ht1:T t1=some (tySl e)) (he:T e=some tyNd) {id n m:Nat} {l ys:List Nd} {x:AV} {σ:zaa} {KS:AV→zaa→Prop}
  (hc:σ[id]?=some (.rw (l.flatMap nC))) (hn:n=l.length) (hs:asrc σ 4 x=some (ys.flatMap nC,m)) (hm:m=ys.length) (g2:n+m≤1000000000)
  (hk:KS (.ref σ.length 0 (n+m) 4) (σ.set id .dead++[.rw ((l++ys).flatMap nC)])):zbn T ts (.ref id 0 n 4) x σ KS:=by
 have hd:adst σ 4 (.ref id 0 n 4)=some (l.flatMap nC,n,σ.set id .dead):=by
  simp only [adst,hc,zce]
  subst hn
  simp
  try (rw [List.take_of_length_le (by rw [zce];omega)])
 simp only [zbn,h0,h1,Option.bind_some,ht,ht1]
 simp only [tySl,he,show tyNd.size=4 from rfl,hs,hd]
 refine⟨fun k h=>(by cases h),fun h=>(by cases h),tyNd,rfl,?_⟩
 simp only [show tyNd.size=4 from rfl,hs,hd]
 refine⟨rfl,all_N ys,all_N l,by omega,by (show (n+m) * 40≤_);omega,?_⟩
 rw [List.flatMap_append] at hk
 exact hk
theorem asrc_N (σ:zaa) (l:List Nd):asrc σ 4 (.sl (l.flatMap nC) l.length)=some (l.flatMap nC,l.length):=by
 simp only [asrc,asl,zce,Nat.le_refl,if_true]
 rw [List.take_of_length_le (by rw [zce];omega)]
theorem bs_n_0 {σ:zaa} {KS:AV→zaa→Prop}:bs2 (some tyNd) 0 [] σ KS=KS (.ref σ.length 0 0 4) (σ++[.rw ([].flatMap nC)]):=by
 simp [bs2,tyNd,zbF,zbV]
theorem endQ_N {l:List Nd} {id:Nat} {σ:zaa} {K:AV→zaa→Prop} (hi:σ[id]?=some (.rw (l.flatMap nC))) (h:K (.sl (l.flatMap nC) l.length) []):endQ 0 (.ref id 0 l.length 4) σ K:=by
 refine zfI hi (by rw [zce];omega) (zat _ _) ?_
 rw [List.drop_zero,List.take_of_length_le (by rw [zce];omega)]
 exact h
theorem sl_N {t e:TypeId} (ht:T t=some (tySl e)) (he:T e=some tyNd) {l:List Nd} {lo hi:Int} {σ:zaa} {K:AV→Prop} (h1:0≤lo) (h2:lo≤hi) (h3:hi≤l.length) (hk:K (.sl (((l.take hi.toNat).drop lo.toNat).flatMap nC) (hi.toNat - lo.toNat))):zbg T t (.sl (l.flatMap nC) l.length) (some (i64 lo)) (some (i64 hi)) σ K:=by
 simp only [zbg,ht,tySl,bnd,i64]
 refine⟨tyNd,he,h1,h2,h3,by rw [zce];exact Nat.le_refl _,?_⟩
 simp only [show tyNd.size=4 from rfl]
 rw [zi5,flatN_take,← List.drop_take]
 exact hk
theorem cloneN_ok (l:List Nd) (h:l.length≤1000000):ACalls Tryz.prog 62 [.sl (l.flatMap nC) l.length] [] (fun y σ=>y=.ret (.sl (l.flatMap nC) l.length)∧σ=[]):=by
 refine ACalls.body T_ok Tryz.func62 (by kernel_rfl) rfl Tryz.ntmps62 (congrArg Array.toList Tryz.results62) ?_
 refine aQ21 ?_
 intro b hb
 cases b
 ·refine aQ21 ?_
  refine append_N rfl rfl T22 T22 T51 (l:=[]) (ys:=l) (m:=l.length) rfl rfl (asrc_N _ _) rfl (by omega) ?_
  refine aQ21 ?_
  exact endQ_N (l:=l) rfl ⟨rfl,rfl⟩
 ·have hl:l=[]:=by
   have:=congrArg List.length (hb rfl)
   rw [zce] at this
   exact List.eq_nil_of_length_eq_zero (by simp only [List.length_nil] at this;omega)
  subst hl
  refine aQ21 ?_
  exact zdL ⟨rfl,rfl⟩
theorem zjL (l:List Nd) (hl:l.length≤1000000):ACalls Tryz.prog 47 [.sl (l.flatMap nC) l.length] [] (fun y σ=>y=.ret (i64 (zaz l))∧σ=[]):=by
 refine ACalls.body T_ok Tryz.func47 (by kernel_rfl) rfl Tryz.ntmps47 (congrArg Array.toList Tryz.results47) ?_
 refine aQ21 ?_
 refine(read_ok l hl).mono ?_
 intro y σ hy
 unfold readK at hy
 by_cases h0:zaz l=0
 ·rw [if_pos h0] at hy
  obtain⟨r,hv,h1,h2,rfl,rfl⟩:=hy
  refine aQ21 ?_
  exact za5 ⟨by rw [h0],rfl⟩
 ·rw [if_neg h0] at hy
  obtain⟨rfl,rfl⟩:=hy
  refine aQ21 ?_
  exact za5 ⟨rfl,rfl⟩
def deepOf (l:List Nd):Int:=if zaz l=0 then (match vl l 0 with | some r=>(r.2:Int) | none=>0) else 0
def okAt (l:List Nd) (p:Int):Bool:=decide (zaz l=0∧0≤p∧p < l.length)
def zih (l:List Nd) (p:Int):AEnd→zaa→Prop:=fun y σ =>
 if zaz l=0 then y=.ret (.tup [.ref 0 0 l.length 1,bl (okAt l p)])∧σ=[.rw ((zdW l).map i64)]
 else y=.ret (.tup [.lit (.slice none 0 0),bl false])∧σ=[]
theorem zjM (l:List Nd) (p:Int) (hl:l.length≤1000000):ACalls Tryz.prog 60 [.sl (l.flatMap nC) l.length,i64 p] [] (zih l p):=by
 refine ACalls.body T_ok Tryz.func60 (by kernel_rfl) rfl Tryz.ntmps60 (congrArg Array.toList Tryz.results60) ?_
 refine aQ21 ?_
 refine(read_ok l hl).mono ?_
 intro y σ hy
 unfold readK at hy
 by_cases h0:zaz l=0
 ·rw [if_pos h0] at hy
  obtain⟨r,hv,h1,h2,rfl,rfl⟩:=hy
  refine aQ21 ?_
  by_cases hp0:0≤p
  ·rw [decide_eq_true hp0]
   refine aQ21 ?_
   have e:decide (p < l.length)=okAt l p:=decide_eq_decide.2 (by simp [h0,hp0])
   rw [e]
   exact zaO (by simp only [zih,if_pos h0];exact⟨trivial,trivial⟩)
  ·rw [decide_eq_false hp0]
   refine aQ21 ?_
   have e:false=okAt l p:=(decide_eq_false (by omega)).symm
   rw [e]
   exact zaO (by simp only [zih,if_pos h0];exact⟨trivial,trivial⟩)
 ·rw [if_neg h0] at hy
  obtain⟨rfl,rfl⟩:=hy
  refine aQ21 ?_
  rw [decide_eq_false h0]
  refine aQ21 ?_
  exact zaO (by simp only [zih,if_neg h0];exact⟨trivial,trivial⟩)
def Inside (l:List Nd) (a e:Nat):Prop:=∀ p,a≤p→p < e→∃ r,vl l p=some r∧r.1≤e
theorem ze6 {l:List Nd} {mp:Bool} {a:Nat} (ih:∀ a' r,a < a'→vl l a'=some r→Inside l a' r.1):∀ (c:Nat) (last:Option (List UInt8)) (e d:Nat) (r:Nat × Nat),a < e→e≤l.length→zbu (vl l) l mp c last e d=some r→Inside l e r.1
 | 0,last,e,d,r,ha,he,h=>by
  simp only [zbu,Option.some.injEq] at h
  subst h
  exact fun p h1 h2=>by omega
 | c+1,last,e,d,r,ha,he,h=>by
  cases mp with
  | true =>
   rw [zcL] at h
   split at h
   ·rename_i k hk
    split at h
    ·rename_i hc
     split at h
     ·rename_i r' hr'
      have h1:=za6 hr'
      have h2:=zcK (fun e r h=>za6 h) c _ _ _ _ h1.2 h
      intro p hp1 hp2
      by_cases hpe:p=e
      ·subst hpe
       obtain⟨_,g1,g2⟩:=zbc hk
       exact⟨_,vl_text g1 g2 hc.1,by show p+1≤r.1;omega⟩
      ·by_cases hpr:p < r'.1
       ·obtain⟨r2,q1,q2⟩:=ih (e+1) r' (by omega) hr' p (by omega) hpr
        exact⟨r2,q1,by omega⟩
       ·exact ze6 ih c _ _ _ _ (by omega) h1.2 h p (by omega) hp2
     ·cases h
    ·cases h
   ·cases h
  | false =>
   rw [zci] at h
   split at h
   ·rename_i r' hr'
    have h1:=za6 hr'
    have h2:=zcK (fun e r h=>za6 h) c _ _ _ _ h1.2 h
    intro p hp1 hp2
    by_cases hpr:p < r'.1
    ·obtain⟨r2,q1,q2⟩:=ih e r' ha hr' p hp1 hpr
     exact⟨r2,q1,by omega⟩
    ·exact ze6 ih c _ _ _ _ (by omega) h1.2 h p (by omega) hp2
   ·cases h
theorem zjN {l:List Nd} {p:Nat} {r:Nat × Nat} (h:vl l p=some r):∃ n q,zbm l p=some n∧zbu (vl l) l (decide (n.kind=5)) n.kids.toNat none (p+1) 0=some q∧r=(q.1,q.2+1):=by
 rw [zdD] at h
 cases hn:zbm l p with
 | none=>rw [hn] at h;cases h
 | some n =>
  rw [hn] at h
  simp only [Option.map_eq_some_iff] at h
  obtain⟨q,h1,h2⟩:=h
  exact⟨n,q,rfl,h1,h2.symm⟩
theorem vl_inside {l:List Nd}:∀ (m a:Nat) (r:Nat × Nat),l.length - a=m→vl l a=some r→Inside l a r.1:=by
 intro m
 induction m using Nat.strongRecOn with
 | _ m ih =>
  intro a r hm h p hp1 hp2
  have hr:=za6 h
  by_cases hpa:p=a
  ·subst hpa;exact⟨r,h,Nat.le_refl _⟩
  ·obtain⟨n,q,h1,h2,rfl⟩:=zjN h
   exact ze6 (a:=a) (fun a' r' ha hr'=>ih (l.length - a') (by have:=za6 hr';omega) a' r' rfl hr') _ _ _ _ _ (by omega) (by omega) h2 p (by omega) hp2
theorem zcW {l:List Nd} (h:zaz l=0):l.length≤120∧zbY l=false∧∃ d,vl l 0=some (l.length,d)∧d≤32:=by
 unfold zaz at h
 split at h
 ·cases h
 ·rename_i hb
  split at h
  ·rename_i r hr
   split at h
   ·rename_i hl
    split at h
    ·cases h
    ·obtain⟨a,b⟩:=r
     dsimp only at *
     subst hl
     refine⟨by omega,?_,b,hr,by omega⟩
     cases ha:zbY l with
     | false=>rfl
     | true=>exact absurd (.inr ha) hb
   ·cases h
  ·cases h
theorem zhd {l:List Nd} (h:zaz l=0) {p:Nat} (hp:p < l.length):∃ r,vl l p=some r∧zdV l p=r.1∧p < r.1∧r.1≤l.length:=by
 obtain⟨_,_,d,hv,_⟩:=zcW h
 obtain⟨r,h1,h2⟩:=vl_inside _ 0 _ rfl hv p (Nat.zero_le _) hp
 exact⟨r,h1,by simp only [zdV,h1],(za6 h1).1,(za6 h1).2⟩
def zaC (l:List Nd) (p:Int):List Nd:=if okAt l p then (l.take (zdV l p.toNat).toNat).drop p.toNat else []
theorem zii {l:List Nd} {k:Nat} (h:k < l.length):(zdW l).getD k 0=zdV l k:=by
 simp [zdW,h]
theorem zij (l:List Nd):(zdW l).length=l.length:=by simp [zdW]
theorem Sub_ok (l:List Nd) (p:Int) (hl:l.length≤1000000):ACalls Tryz.prog 29 [.sl (l.flatMap nC) l.length,i64 p] [] (fun y σ=>y=.ret (.sl ((zaC l p).flatMap nC) (zaC l p).length)∧σ=[]):=by
 refine ACalls.body T_ok Tryz.func29 (by kernel_rfl) rfl Tryz.ntmps29 (congrArg Array.toList Tryz.results29) ?_
 refine aQ21 ?_
 refine(zjM l p hl).mono ?_
 intro y σ hy
 unfold zih at hy
 by_cases h0:zaz l=0
 ·rw [if_pos h0] at hy
  obtain⟨rfl,rfl⟩:=hy
  cases hok:okAt l p with
  | false =>
   refine aQ21 ?_
   have e:zaC l p=[]:=by simp [zaC,hok]
   rw [e]
   exact zdL ⟨rfl,rfl⟩
  | true =>
   refine aQ21 ?_
   have hp:0≤p∧p < l.length:=by
    simp only [okAt,decide_eq_true_eq] at hok
    exact hok.2
   obtain⟨r,hr1,hr2,hr3,hr4⟩:=zhd h0 (p:=p.toNat) (by omega)
   have hsub:zaC l p=(l.take r.1).drop p.toNat:=by simp [zaC,hok,hr2]
   refine⟨by omega,by omega,by rw [zij];omega,?_⟩
   rw [zii (by omega),hr2]
   refine sl_N T22 T51 (by omega) (by omega) (by omega) ?_
   rw [show (r.1:Int).toNat=r.1 from rfl,← hsub]
   refine aQ21 ?_
   have hlen:r.1 - p.toNat=(zaC l p).length:=by rw [hsub];simp;omega
   rw [hlen]
   refine(cloneN_ok (zaC l p) (by rw [← hlen];omega)).pure (by simp [renL,AV.ren,zat]) ?_
   rintro _ σ ⟨rfl,rfl⟩
   refine⟨by simp [AEnd.noid,AV.ren,zat],?_⟩
   refine aQ21 ?_
   exact zaP (by simp [AV.ren,zat]) ⟨rfl,rfl⟩
 ·rw [if_neg h0] at hy
  obtain⟨rfl,rfl⟩:=hy
  refine aQ21 ?_
  have e:zaC l p=[]:=by simp [zaC,okAt,h0]
  rw [e]
  exact zdL ⟨rfl,rfl⟩
end Go.Proofs.YtcahoelfogjljaaGreatDoor
end

section
namespace Go.Proofs.YtcahoelfogjljaaGreatDoor
open Go Go.Eng
def bK (mp:Bool):Nat:=if mp then 1 else 0
def eAt (l:List Nd) (mp:Bool) (p:Nat):Nat→Nat
 | 0=>p+1
 | k+1=>(zdV l (eAt l mp p k+bK mp)).toNat
def depAt (l:List Nd) (p:Nat):Nat:=match vl l p with
 | some r=>r.2
 | none=>0
def dAt (l:List Nd) (mp:Bool) (p:Nat):Nat→Nat
 | 0=>0
 | k+1=>max (dAt l mp p k) (depAt l (eAt l mp p k+bK mp))
def keyT (l:List Nd) (mp:Bool) (p k:Nat):List UInt8:=(l.getD (eAt l mp p k) n0d).text
theorem zaJ {l:List Nd} {p:Nat} {n:Nd} (h:zbm l p=some n):l.getD p n0d=n:=by
 obtain⟨h1,h2,_⟩:=zbc h
 rw [List.getD_eq_getElem?_getD,h2];rfl
theorem kid_step {l:List Nd} {mp:Bool} {p k c:Nat} {q:Nat × Nat} (hk:k < c) (h:zbu (vl l) l mp (c - k) (zc7 mp k (keyT l mp p (k - 1))) (eAt l mp p k) (dAt l mp p k)=some q) :
  ∃ r,vl l (eAt l mp p k+bK mp)=some r∧eAt l mp p (k+1)=r.1∧(mp=true→∃ n,zbm l (eAt l mp p k)=some n∧n.kind=3∧n.text=keyT l mp p k∧(0 < k→leB n.text (keyT l mp p (k - 1))=false)) ∧
   zbu (vl l) l mp (c - (k+1)) (zc7 mp (k+1) (keyT l mp p k)) (eAt l mp p (k+1)) (dAt l mp p (k+1))=some q:=by
 rw [show c - k=(c - (k+1))+1 by omega] at h
 cases mp with
 | true =>
  rw [zcL] at h
  cases hn:zbm l (eAt l true p k) with
  | none=>rw [hn] at h;cases h
  | some n =>
   rw [hn] at h
   dsimp only at h
   by_cases hc:n.kind=3∧aftB (zc7 true k (keyT l true p (k - 1))) n.text=true
   rotate_left
   ·rw [if_neg hc] at h;cases h
   rw [if_pos hc] at h
   cases hv:vl l (eAt l true p k+1) with
   | none=>rw [hv] at h;cases h
   | some r =>
    rw [hv] at h
    dsimp only at h
    have he:eAt l true p (k+1)=r.1:=by simp only [eAt,bK,if_true,zdV,hv,Int.toNat_natCast]
    have hd:dAt l true p (k+1)=max (dAt l true p k) r.2:=by simp only [dAt,bK,if_true,depAt,hv]
    have hkt:n.text=keyT l true p k:=by rw [keyT,zaJ hn]
    refine⟨r,by simpa [bK] using hv,he,fun _=>⟨n,rfl,hc.1,hkt,fun h0=>?_⟩,?_⟩
    ·have:=hc.2
     simp only [zc7,Bool.true_and,h0,decide_true,if_true,aftB,Bool.not_eq_true'] at this
     exact this
    ·rw [he,hd]
     simp only [zc7,Bool.true_and,Nat.zero_lt_succ,decide_true,if_true,← hkt]
     exact h
 | false =>
  rw [zci] at h
  cases hv:vl l (eAt l false p k) with
  | none=>rw [hv] at h;cases h
  | some r =>
   rw [hv] at h
   dsimp only at h
   have he:eAt l false p (k+1)=r.1:=by simp [eAt,bK,zdV,hv]
   have hd:dAt l false p (k+1)=max (dAt l false p k) r.2:=by simp [dAt,bK,depAt,hv]
   refine⟨r,by simpa [bK] using hv,he,fun h=>(by cases h),?_⟩
   rw [he,hd]
   simp only [zc7,Bool.false_and,Bool.false_eq_true,if_false] at h ⊢
   exact h
structure Kids (l:List Nd) (p:Nat) (n:Nd) (r:Nat × Nat):Prop where
 node:zbm l p=some n
 val:vl l p=some r
 inv:∀ k,k≤n.kids.toNat→p+1+k≤eAt l (decide (n.kind=5)) p k∧eAt l (decide (n.kind=5)) p k≤r.1∧zbu (vl l) l (decide (n.kind=5)) (n.kids.toNat - k) (zc7 (decide (n.kind=5)) k (keyT l (decide (n.kind=5)) p (k - 1))) (eAt l (decide (n.kind=5)) p k) (dAt l (decide (n.kind=5)) p k)=some (r.1,r.2 - 1)
 deep:1≤r.2
theorem zcm {l:List Nd} {p:Nat} {r:Nat × Nat} (h:vl l p=some r):∃ n,Kids l p n r:=by
 obtain⟨n,q,h1,h2,rfl⟩:=zjN h
 refine⟨n,h1,h,?_,by simp⟩
 intro k
 induction k with
 | zero =>
  intro _
  have:=zcK (fun e r h=>za6 h) _ _ _ _ _ (by have:=(zbc h1).1;omega) h2
  exact⟨Nat.le_refl _,this.1,by simpa [zc7,eAt,dAt] using h2⟩
 | succ k ih =>
  intro hk
  obtain⟨i1,i2,i3⟩:=ih (by omega)
  obtain⟨r',g1,g2,g3,g4⟩:=kid_step (by omega) i3
  have hr:=za6 g1
  have:=zcK (fun e r h=>za6 h) _ _ _ _ _ (by rw [g2];exact hr.2) g4
  refine⟨by rw [g2];omega,this.1,g4⟩
theorem Kids.kid {l:List Nd} {p:Nat} {n:Nd} {r:Nat × Nat} (h:Kids l p n r) {k:Nat} (hk:k < n.kids.toNat) :
  ∃ r',vl l (eAt l (decide (n.kind=5)) p k+bK (decide (n.kind=5)))=some r'∧eAt l (decide (n.kind=5)) p (k+1)=r'.1∧(n.kind=5→∃ m,zbm l (eAt l (decide (n.kind=5)) p k)=some m∧m.kind=3∧m.text=keyT l (decide (n.kind=5)) p k∧(0 < k→leB m.text (keyT l (decide (n.kind=5)) p (k - 1))=false)):=by
 obtain⟨r',g1,g2,g3,_⟩:=kid_step hk (h.inv k (by omega)).2.2
 exact⟨r',g1,g2,fun h5=>g3 (decide_eq_true h5)⟩
theorem Kids.ends {l:List Nd} {p:Nat} {n:Nd} {r:Nat × Nat} (h:Kids l p n r):eAt l (decide (n.kind=5)) p n.kids.toNat=r.1∧dAt l (decide (n.kind=5)) p n.kids.toNat=r.2 - 1:=by
 have:=(h.inv n.kids.toNat (Nat.le_refl _)).2.2
 rw [Nat.sub_self] at this
 simp only [zbu,Option.some.injEq,Prod.mk.injEq] at this
 exact this
theorem Kids.few {l:List Nd} {p:Nat} {n:Nd} {r:Nat × Nat} (h:Kids l p n r):p+1+n.kids.toNat≤r.1∧r.1≤l.length∧0≤n.kids∧p < l.length:=by
 obtain⟨h1,h2,_⟩:=h.inv n.kids.toNat (Nat.le_refl _)
 exact⟨by omega,(za6 h.val).2,zgR (zbc h.node).2.2,(zbc h.node).1⟩
theorem kids_ok (l:List Nd) (es:List Int) (n:Nat) (p:Int):ACalls Tryz.prog 61 [.sl (l.flatMap nC) l.length,.ref 0 0 n 1,i64 p] [.rw (es.map i64)] (fun y σ=>y=.ret (.fn (.func 91) [] [.ptr 3 0,.ptr 1 0,.ptr 2 0])∧σ=[.rw (es.map i64),.rw [.sl (l.flatMap nC) l.length],.rw [.ref 0 0 n 1],.rw [i64 p]]):=by
 refine ACalls.body T_ok Tryz.func61 (by kernel_rfl) rfl Tryz.ntmps61 (congrArg Array.toList Tryz.results61) ?_
 refine aQ18 ?_
 exact zaO ⟨rfl,rfl⟩
theorem kids1_ok {l:List Nd} {p:Nat} {n:Nd} {r:Nat × Nat} (hK:Kids l p n r) (hlen:l.length≤120) (m:Nat) (hm:m≤n.kids.toNat) (id a b c e:Nat) (S:Nat→zaa) (E:zaa)
  (ha:∀ k,rd (S k) a=some [i64 p]) (hb:∀ k,rd (S k) b=some [.sl (l.flatMap nC) l.length]) (hc:∀ k,rd (S k) c=some [.ref e 0 l.length 1]) (he:∀ k,rd (S k) e=some ((zdW l).map i64))
  (hY : ∀ k, k < m → AYield Tryz.prog id [i64 k, i64 ((eAt l (decide (n.kind = 5)) p k + bK (decide (n.kind = 5)) : Nat) : Int)] (S k) (fun x σ' => x = .ret (bl true) ∧ σ' = S (k + 1)))
  (hE : m < n.kids.toNat → AYield Tryz.prog id [i64 m, i64 ((eAt l (decide (n.kind = 5)) p m + bK (decide (n.kind = 5)) : Nat) : Int)] (S m) (fun x σ' => x = .ret (bl false) ∧ σ' = E)) :
  ACalls Tryz.prog 91 [.yl id, .ptr a 0, .ptr b 0, .ptr c 0] (S 0) (fun x σ' => x = .ret (.tup []) ∧ σ' = if m < n.kids.toNat then E else S n.kids.toNat) := by
 obtain⟨f1,f2,f3,f4⟩:=hK.few
 have hg:l.getD p n0d=n:=zaJ hK.node
 refine ACalls.body T_ok Tryz.func91 (by kernel_rfl) rfl Tryz.ntmps91 (congrArg Array.toList Tryz.results91) ?_
 try simp -implicitDefEqProofs only [LM6,eq_self,ha,hb,hc,he,TB,SB,Int.reduceToNat,Nat.reduceAdd,Nat.reduceEqDiff,Nat.reduceLT,Nat.reduceMod,Nat.reducePow,Nat.reduceSub,if_true,reduceIte]
 repeat (with_reducible refine zbt ?_)
 try simp -implicitDefEqProofs only [LM6,eq_self,ha,hb,hc,he,hg,TB,SB,Int.reduceToNat,Nat.reduceAdd,Nat.reduceEqDiff,Nat.reduceLT,Nat.reduceMod,Nat.reducePow,Nat.reduceSub,if_true,reduceIte]
 obtain⟨ct,hct⟩:∃ ct,n.kids.toNat=ct:=⟨_,rfl⟩
 have hkc:n.kids=ct:=by omega
 obtain⟨mp,hmp⟩:∃ mp,decide (n.kind=5)=mp:=⟨_,rfl⟩
 have hkid:=@Kids.kid l p n r hK
 have hinv:=hK.inv
 rw [hct] at hm hE hkid hinv f1 ⊢
 rw [hmp] at hY hE hkid hinv
 rw [hkc]
 rw [zaN]
 refine⟨Nat,fun k=>k≤m,fun k=>[.yl id,.ptr a 0,.ptr b 0,.ptr c 0,.bot,i64 ((eAt l mp p k:Nat):Int),.bot,.bot,.bot,.bot,.bot,.bot,.bot,i64 ct,i64 k,.bot,.bot,.bot,.bot,.bot,.bot,.bot,.bot,.bot,.bot,.bot,.bot,.bot,.bot,.bot,.bot,.bot,.bot,.bot,.bot],S,fun k=>m - k,0,Nat.zero_le _,zbb ?_,?_⟩
 ·refine aQ20 ?_
  exact⟨.inr rfl,.inr rfl⟩
 ·intro k hk
  try simp -implicitDefEqProofs only [LM6,eq_self,ha,hb,hc,he,hg,TB,SB,Int.reduceToNat,Nat.reduceAdd,Nat.reduceEqDiff,Nat.reduceLT,Nat.reduceMod,Nat.reducePow,Nat.reduceSub,if_true,reduceIte]
  refine⟨fun hlt=>?_,fun hge=>?_⟩
  ·obtain⟨r',g1,g2,g3⟩:=hkid (k:=k) (by omega)
   have hr':=za6 g1
   have go:∀ Q:AEnd→zaa→Prop,(k < m→Q (.ret (bl true)) (S (k+1)))→(k=m→Q (.ret (bl false)) E)→AYield Tryz.prog id [i64 k,i64 ((eAt l mp p k+bK mp:Nat):Int)] (S k) Q:=by
    intro Q q1 q2
    by_cases hkm:k < m
    ·refine(hY k hkm).mono ?_
     rintro _ _ ⟨rfl,rfl⟩
     exact q1 hkm
    ·obtain rfl:k=m:=by omega
     refine(hE (by omega)).mono ?_
     rintro _ _ ⟨rfl,rfl⟩
     exact q2 rfl
   have done : k = m → (k < ct → endQ (S 0).length (.tup []) E (fun r σ' => AEnd.ret r = .ret (.tup []) ∧ σ' = if m < ct then E else S ct)) := fun hkm _ => zaO (by rw [if_pos (by omega)]; exact ⟨rfl, rfl⟩)
   repeat (with_reducible refine zbt ?_)
   try simp -implicitDefEqProofs only [LM6,eq_self,ha,hb,hc,he,hg,TB,SB,Int.reduceToNat,Nat.reduceAdd,Nat.reduceEqDiff,Nat.reduceLT,Nat.reduceMod,Nat.reducePow,Nat.reduceSub,if_true,reduceIte]
   repeat (with_reducible refine zbt ?_)
   try simp -implicitDefEqProofs only [LM6,eq_self,ha,hb,hc,he,hg,TB,SB,Int.reduceToNat,Nat.reduceAdd,Nat.reduceEqDiff,Nat.reduceLT,Nat.reduceMod,Nat.reducePow,Nat.reduceSub,if_true,reduceIte]
   refine⟨fun h5=>?_,fun h5=>?_⟩
   ·have hmt:mp=true:=by rw [← hmp];exact decide_eq_true h5
    have eb:((eAt l mp p k:Nat):Int)+1=((eAt l mp p k+bK mp:Nat):Int):=by simp [hmt,bK]
    repeat (with_reducible refine zbt ?_)
    rw [eb]
    refine go _ (fun hkm=>?_) (fun hkm=>?_)
    ·try simp -implicitDefEqProofs only [LM6,eq_self,ha,hb,hc,he,hg,TB,SB,Int.reduceToNat,Nat.reduceAdd,Nat.reduceEqDiff,Nat.reduceLT,Nat.reduceMod,Nat.reducePow,Nat.reduceSub,if_true,reduceIte]
     have e4:(zdW l).getD (eAt l mp p k+bK mp) 0=((eAt l mp p (k+1):Nat):Int):=by
      rw [zii (by omega),zdV,g1,g2]
     refine⟨by omega,by omega,?_⟩
     refine⟨by rw [zij];omega,?_⟩
     rw [e4]
     repeat (with_reducible refine zbt ?_)
     rw [zac]
     refine⟨k+1,by omega,(by show m - (k+1) < m - k;omega),zbb ?_⟩
     refine aQ20 ?_
     exact .inr rfl
    ·try simp -implicitDefEqProofs only [LM6,eq_self,ha,hb,hc,he,hg,TB,SB,Int.reduceToNat,Nat.reduceAdd,Nat.reduceEqDiff,Nat.reduceLT,Nat.reduceMod,Nat.reducePow,Nat.reduceSub,if_true,reduceIte]
     rw [if_pos (by omega)]
     exact zaO ⟨rfl,rfl⟩
   ·have hmt:mp=false:=by rw [← hmp];exact decide_eq_false h5
    have eb:((eAt l mp p k:Nat):Int)=((eAt l mp p k+bK mp:Nat):Int):=by simp [hmt,bK]
    rw [eb]
    refine go _ (fun hkm=>?_) (fun hkm=>?_)
    ·try simp -implicitDefEqProofs only [LM6,eq_self,ha,hb,hc,he,hg,TB,SB,Int.reduceToNat,Nat.reduceAdd,Nat.reduceEqDiff,Nat.reduceLT,Nat.reduceMod,Nat.reducePow,Nat.reduceSub,if_true,reduceIte]
     have e4:(zdW l).getD (eAt l mp p k+bK mp) 0=((eAt l mp p (k+1):Nat):Int):=by
      rw [zii (by omega),zdV,g1,g2]
     refine⟨by omega,by omega,?_⟩
     refine⟨by rw [zij];omega,?_⟩
     rw [e4]
     repeat (with_reducible refine zbt ?_)
     rw [zac]
     refine⟨k+1,by omega,(by show m - (k+1) < m - k;omega),zbb ?_⟩
     refine aQ20 ?_
     exact .inr rfl
    ·try simp -implicitDefEqProofs only [LM6,eq_self,ha,hb,hc,he,hg,TB,SB,Int.reduceToNat,Nat.reduceAdd,Nat.reduceEqDiff,Nat.reduceLT,Nat.reduceMod,Nat.reducePow,Nat.reduceSub,if_true,reduceIte]
     rw [if_pos (by omega)]
     exact zaO ⟨rfl,rfl⟩
  ·obtain rfl:k=ct:=by omega
   obtain rfl:m=k:=by omega
   refine aQ18 ?_
   rw [if_neg (by omega)]
   exact zaO ⟨rfl,rfl⟩
end Go.Proofs.YtcahoelfogjljaaGreatDoor
end

section
namespace Go.Proofs.YtcahoelfogjljaaGreatDoor
open Go Go.Eng
theorem zec {l:List Nd} {p:Int} (h:okAt l p=true):zaz l=0∧0≤p∧p < l.length:=by
 simpa only [okAt,decide_eq_true_eq] using h
def kidP (l:List Nd) (p:Nat):List Nat:=(List.range (l.getD p n0d).kids.toNat).map fun k=>eAt l (decide ((l.getD p n0d).kind=5)) p k+bK (decide ((l.getD p n0d).kind=5))
def zaA (l:List Nd) (p:Int):List Int:=if okAt l p then (kidP l p.toNat).map (Int.ofNat) else []
theorem kids_frame {l:List Nd} {p:Int} {B C:Blk} {K:AEnd→zaa→Prop} (hk:K (.ret (.fn (.func 91) [] [.ptr 5 0,.ptr 3 0,.ptr 4 0])) [.rw ((zdW l).map i64),B,C,.rw [.sl (l.flatMap nC) l.length],.rw [.ref 0 0 l.length 1],.rw [i64 p]]) :
  ACalls Tryz.prog 61 [.sl (l.flatMap nC) l.length,.ref 0 0 l.length 1,i64 p] [.rw ((zdW l).map i64),B,C] K:=by
 refine ACalls.frame [0] (kids_ok l (zdW l) l.length p) rfl (by decide) (by simp [zao,zar,zcN]) aQ4 ?_
 rintro _ _ ⟨rfl,rfl⟩
 refine⟨_,_,?_,?_,hk⟩
 ·show zaH _ _ [0,4,4,1,2,3] [0,4,4,1,2,3] 0 _
  simp [zaH,zar,zcN,renL,AV.ren,zat,zae]
 ·show AEnd.ren [0,4,4,1,2,3] _ _
  simp [AEnd.ren,AV.ren,renL]
theorem fill_step {α:Type} {z d:α} {kl:List α} {c k:Nat} (hl:kl.length=c) (hk:k < c):(kl.take k++List.replicate (c - k) z).set k (kl.getD k d)=kl.take (k+1)++List.replicate (c - (k+1)) z:=by
 have hkl:k < kl.length:=by omega
 rw [List.set_append_right _ _ (by simp;omega),List.length_take,Nat.min_eq_left (by omega),Nat.sub_self,show c - k=(c - (k+1))+1 by omega,List.replicate_succ,List.set_cons_zero]
 rw [List.take_succ_eq_append_getElem hkl,List.append_assoc]
 simp [hkl]
abbrev kS (l:List Nd) (p:Int) (O C:Blk) (X:Blk):zaa:=[.rw ((zdW l).map i64),O,C,.rw [.sl (l.flatMap nC) l.length],.rw [.ref 0 0 l.length 1],.rw [i64 p],X]
theorem kids_full {l:List Nd} {p:Nat} {n:Nd} {r:Nat × Nat} (hK:Kids l p n r) (hlen:l.length≤120) (O:Nat→Blk) {C X:Blk} {K:AEnd→zaa→Prop}
  (hY : ∀ k, k < n.kids.toNat → AYield Tryz.prog 6 [i64 k, i64 ((eAt l (decide (n.kind = 5)) p k + bK (decide (n.kind = 5)) : Nat) : Int)] (kS l p (O k) C X) (fun x σ' => x = .ret (bl true) ∧ σ' = kS l p (O (k + 1)) C X))
  (hk:K (.ret (.tup [])) (kS l p (O n.kids.toNat) C X)) :
  ACalls Tryz.prog 91 [.yl 6,.ptr 5 0,.ptr 3 0,.ptr 4 0] (kS l p (O 0) C X) K:=by
 refine(kids1_ok hK hlen n.kids.toNat (Nat.le_refl _) 6 5 3 4 0 (fun k=>kS l p (O k) C X) [] (fun _=>rfl) (fun _=>rfl) (fun _=>rfl) (fun _=>rfl) hY (fun h=>absurd h (Nat.lt_irrefl _))).mono ?_
 rintro _ _ ⟨rfl,rfl⟩
 rw [if_neg (Nat.lt_irrefl _)]
 exact hk
theorem Kids_ok (l:List Nd) (p:Int) (hl:l.length≤1000000):ACalls Tryz.prog 28 [.sl (l.flatMap nC) l.length,i64 p] [] (fun y σ=>y=.ret (.sl ((zaA l p).map i64) (zaA l p).length)∧σ=[]):=by
 refine ACalls.body T_ok Tryz.func28 (by kernel_rfl) rfl Tryz.ntmps28 (congrArg Array.toList Tryz.results28) ?_
 refine aQ18 ?_
 refine(zjM l p hl).mono ?_
 intro y σ hy
 unfold zih at hy
 by_cases h0:zaz l=0
 rotate_left
 ·rw [if_neg h0] at hy
  obtain⟨rfl,rfl⟩:=hy
  refine aQ18 ?_
  have e:zaA l p=[]:=by simp [zaA,okAt,h0]
  rw [e]
  exact zdL ⟨rfl,rfl⟩
 rw [if_pos h0] at hy
 obtain⟨rfl,rfl⟩:=hy
 cases hok:okAt l p with
 | false =>
  refine aQ18 ?_
  have e:zaA l p=[]:=by simp [zaA,hok]
  rw [e]
  exact zdL ⟨rfl,rfl⟩
 | true =>
  obtain⟨_,hp0,hp1⟩:=zec hok
  obtain⟨r,hr1,hr2,hr3,hr4⟩:=zhd h0 (p:=p.toNat) (by omega)
  obtain⟨n,hK⟩:=zcm hr1
  have hl120:=(zcW h0).1
  obtain⟨f1,f2,f3,f4⟩:=hK.few
  have hg:l.getD p.toNat n0d=n:=zaJ hK.node
  have hkids:zaA l p=(List.range n.kids.toNat).map fun k=>((eAt l (decide (n.kind=5)) p.toNat k+bK (decide (n.kind=5)):Nat):Int):=by
   rw [zaA,if_pos hok,kidP,hg,List.map_map]
   rfl
  have hpz:p=((p.toNat:Nat):Int):=by omega
  try simp -implicitDefEqProofs only [LM6,eq_self,hg,TB,SB,Int.reduceToNat,Nat.reduceAdd,Nat.reduceEqDiff,Nat.reduceLT,Nat.reduceMod,Nat.reducePow,Nat.reduceSub,if_true,reduceIte]
  repeat (with_reducible refine zbt ?_)
  rw [show List.replicate n.kids.toNat (i64 0)=(List.replicate n.kids.toNat (0:Int)).map i64 by simp]
  refine kids_frame ?_
  refine aQ18 ?_
  refine⟨by kernel_rfl,?_⟩
  obtain⟨kl,hkl⟩:∃ kl,zaA l p=kl:=⟨_,rfl⟩
  have hlk:kl.length=n.kids.toNat:=by rw [← hkl,hkids];simp
  obtain⟨q,hq⟩:∃ q,p.toNat=q:=⟨_,rfl⟩
  rw [hq] at hpz hK hkids hg
  rw [hpz]
  refine kids_full hK hl120 (fun k=>.rw ((kl.take k++List.replicate (n.kids.toNat - k) 0).map i64)) (fun k hk=>?_) ?_
  ·refine AYield.of T_ok rfl rfl rfl rfl ?_
   refine aQ18 ?_
   refine⟨_,_,_,rfl,?_⟩
   refine aQ18 ?_
   refine⟨by omega,by omega,by simp;omega,?_⟩
   have hset:=fill_step (z:=(0:Int)) (d:=0) hlk hk
   have hget:kl.getD k 0=((eAt l (decide (n.kind=5)) q k+bK (decide (n.kind=5)):Nat):Int):=by
    rw [← hkl,hkids];simp [hk]
   rw [hget] at hset
   rw [hset]
   refine⟨_,_,_,_,rfl,rfl,?_⟩
   rfl
  ·refine⟨_,_,_,_,_,_,rfl,by simp,?_⟩
   refine aQ18 ?_
   rw [List.take_of_length_le (by omega),Nat.sub_self,List.replicate_zero,List.append_nil,← hpz,hkl,← hlk]
   refine zfI (id:=1) rfl (by simp) (zcN _ _) ?_
   rw [List.drop_zero,List.take_of_length_le (by simp)]
   exact⟨rfl,rfl⟩
end Go.Proofs.YtcahoelfogjljaaGreatDoor
end

section
namespace Go.Proofs.YtcahoelfogjljaaGreatDoor
open Go Go.Eng
def zbd (l:List Nd) (p:Int):List (List UInt8):=if okAt l p && decide ((l.getD p.toNat n0d).kind=5) then (List.range (l.getD p.toNat n0d).kids.toNat).map (keyT l true p.toNat) else []
theorem place1 {l:List Nd} {p:Int} {B:Blk} {K:AEnd→zaa→Prop} (hl:l.length≤1000000) (h1:zaz l=0→K (.ret (.tup [.ref 1 0 l.length 1,bl (okAt l p)])) [B,.rw ((zdW l).map i64)]) (h2:zaz l≠0→K (.ret (.tup [.lit (.slice none 0 0),bl false])) [B]) :
  ACalls Tryz.prog 60 [.sl (l.flatMap nC) l.length,i64 p] [B] K:=by
 refine ACalls.frame [] (zjM l p hl) rfl (by decide) (by simp [zao]) aQ4 ?_
 intro y σ hy
 unfold zih at hy
 by_cases h0:zaz l=0
 ·rw [if_pos h0] at hy
  obtain⟨rfl,rfl⟩:=hy
  refine⟨_,_,?_,?_,h1 h0⟩
  ·show zaH _ _ [1,0] [1,0] 0 _
   simp [zaH,zar,zcN]
  ·show AEnd.ren [1,0] _ _
   simp [AEnd.ren,AV.ren,renL,zak]
 ·rw [if_neg h0] at hy
  obtain⟨rfl,rfl⟩:=hy
  refine⟨_,_,?_,?_,h2 h0⟩
  ·show zaH _ _ [0] [0] 0 _
   simp [zaH]
  ·show AEnd.ren [0] _ _
   simp [AEnd.ren,AV.ren,renL,zak]
theorem kids_frame1 {l:List Nd} {p:Int} {A B C:Blk} {K:AEnd→zaa→Prop}
  (hk:K (.ret (.fn (.func 91) [] [.ptr 6 0,.ptr 4 0,.ptr 5 0])) [A,.rw ((zdW l).map i64),B,C,.rw [.sl (l.flatMap nC) l.length],.rw [.ref 1 0 l.length 1],.rw [i64 p]]) :
  ACalls Tryz.prog 61 [.sl (l.flatMap nC) l.length,.ref 1 0 l.length 1,i64 p] [A,.rw ((zdW l).map i64),B,C] K:=by
 refine ACalls.frame [1] (kids_ok l (zdW l) l.length p) rfl (by decide) (by simp [zao,zar,zcN]) aQ4 ?_
 rintro _ _ ⟨rfl,rfl⟩
 refine⟨_,_,?_,?_,hk⟩
 ·show zaH _ _ [4,0,4,4,1,2,3] [4,0,4,4,1,2,3] 0 _
  simp [zaH,zar,zcN,renL,AV.ren,zat,zae]
 ·show AEnd.ren [4,0,4,4,1,2,3] _ _
  simp [AEnd.ren,AV.ren,renL]
abbrev kS1 (l:List Nd) (p:Int) (A O C:Blk) (X:Blk):zaa:=[A,.rw ((zdW l).map i64),O,C,.rw [.sl (l.flatMap nC) l.length],.rw [.ref 1 0 l.length 1],.rw [i64 p],X]
theorem kids_full1 {l:List Nd} {p:Nat} {n:Nd} {r:Nat × Nat} (hK:Kids l p n r) (hlen:l.length≤120) (O:Nat→Blk) {A C X:Blk} {K:AEnd→zaa→Prop}
  (hY : ∀ k, k < n.kids.toNat → AYield Tryz.prog 7 [i64 k, i64 ((eAt l (decide (n.kind = 5)) p k + bK (decide (n.kind = 5)) : Nat) : Int)] (kS1 l p A (O k) C X) (fun x σ' => x = .ret (bl true) ∧ σ' = kS1 l p A (O (k + 1)) C X))
  (hk:K (.ret (.tup [])) (kS1 l p A (O n.kids.toNat) C X)) :
  ACalls Tryz.prog 91 [.yl 7,.ptr 6 0,.ptr 4 0,.ptr 5 0] (kS1 l p A (O 0) C X) K:=by
 refine(kids1_ok hK hlen n.kids.toNat (Nat.le_refl _) 7 6 4 5 1 (fun k=>kS1 l p A (O k) C X) [] (fun _=>rfl) (fun _=>rfl) (fun _=>rfl) (fun _=>rfl) hY (fun h=>absurd h (Nat.lt_irrefl _))).mono ?_
 rintro _ _ ⟨rfl,rfl⟩
 rw [if_neg (Nat.lt_irrefl _)]
 exact hk
theorem zjJ {σ:zaa} {KS:AV→zaa→Prop} (l c:Int):mk2 (some tyStr) l c σ KS=(0≤l∧l≤c∧c≤9223372036854775807∧c * (16:Nat)≤281474976710656∧KS (.ref σ.length 0 l.toNat 1) (σ++[.rw (List.replicate l.toNat (str []))])):=mk2_one zcl _ _
theorem zfo {K:AV→Prop} (id off len:Nat) (n:Int):ia3 (some tyStr) (.ref id off len 1) n K=(0≤n∧n < len∧K (.ptr id (off+n.toNat))):=zjB zcl _ _ _ _
theorem zhv (l:List (List UInt8)) (k:Nat) (x:List UInt8):(l.map str).set k (str x)=(l.set k x).map str:=by rw [List.map_set]
theorem zaX (q:List Nat) (l:List (List UInt8)):renL q (l.map str)=some (l.map str):=zas str zah q l
theorem Keys_ok (l:List Nd) (p:Int) (hl:l.length≤1000000):ACalls Tryz.prog 123 [.sl (l.flatMap nC) l.length,i64 p] [] (fun y σ=>y=.ret (.sl ((zbd l p).map str) (zbd l p).length)∧σ=[]):=by
 refine ACalls.body T_ok Tryz.func123 (by kernel_rfl) rfl Tryz.ntmps123 (congrArg Array.toList Tryz.results123) ?_
 refine aQ22 ?_
 have none : ∀ σ : zaa, zbd l p = [] → endQ 0 (.lit (.slice none 0 0)) σ (fun r σ' => AEnd.ret r = .ret (.sl ((zbd l p).map str) (zbd l p).length) ∧ σ' = []) := fun σ h => by
  rw [h];exact zdL ⟨rfl,rfl⟩
 refine place1 hl (fun h0=>?_) (fun h0=>?_)
 rotate_left
 ·refine aQ22 ?_
  exact none _ (by simp [zbd,okAt,h0])
 cases hok:okAt l p with
 | false =>
  refine aQ22 ?_
  exact none _ (by simp [zbd,hok])
 | true =>
  obtain⟨_,hp0,hp1⟩:=zec hok
  obtain⟨r,hr1,hr2,hr3,hr4⟩:=zhd h0 (p:=p.toNat) (by omega)
  obtain⟨n,hK⟩:=zcm hr1
  have hl120:=(zcW h0).1
  obtain⟨f1,f2,f3,f4⟩:=hK.few
  have hg:l.getD p.toNat n0d=n:=zaJ hK.node
  try simp -implicitDefEqProofs only [LM6,eq_self,zjJ,zfo,zhv,hg,TB,SB,Int.reduceToNat,Nat.reduceAdd,Nat.reduceEqDiff,Nat.reduceLT,Nat.reduceMod,Nat.reducePow,Nat.reduceSub,if_true,reduceIte]
  repeat (with_reducible refine zbt ?_)
  try simp -implicitDefEqProofs only [LM6,eq_self,zjJ,zfo,zhv,hg,TB,SB,Int.reduceToNat,Nat.reduceAdd,Nat.reduceEqDiff,Nat.reduceLT,Nat.reduceMod,Nat.reducePow,Nat.reduceSub,if_true,reduceIte]
  refine⟨fun h5=>?_,fun h5=>?_⟩
  ·exact none _ (by simp only [zbd,hok,hg,h5,decide_false,Bool.and_false,Bool.false_eq_true,if_false])
  have hkeys:zbd l p=(List.range n.kids.toNat).map (keyT l true p.toNat):=by
   simp only [zbd,hok,hg,h5,decide_true,Bool.and_true,if_true]
  repeat (with_reducible refine zbt ?_)
  rw [show List.replicate n.kids.toNat (str [])=(List.replicate n.kids.toNat ([]:List UInt8)).map str by simp]
  refine kids_frame1 ?_
  refine aQ22 ?_
  refine⟨by kernel_rfl,?_⟩
  obtain⟨kl,hkl⟩:∃ kl,zbd l p=kl:=⟨_,rfl⟩
  have hlk:kl.length=n.kids.toNat:=by rw [← hkl,hkeys];simp
  have hpz:p=((p.toNat:Nat):Int):=by omega
  obtain⟨q,hq⟩:∃ q,p.toNat=q:=⟨_,rfl⟩
  rw [hq] at hpz hK hkeys hg
  rw [hpz]
  refine kids_full1 hK hl120 (fun k=>.rw ((kl.take k++List.replicate (n.kids.toNat - k) []).map str)) (fun k hk=>?_) ?_
  ·refine AYield.of T_ok rfl rfl rfl rfl ?_
   refine aQ22 ?_
   refine⟨_,_,_,rfl,?_⟩
   refine aQ22 ?_
   refine zdz [9] (by kernel_rfl) (by kernel_rfl) (by kernel_rfl) ?_
   refine aQ22 ?_
   have hd5:decide (n.kind=5)=true:=decide_eq_true h5
   have e1:((eAt l (decide (n.kind=5)) q k+bK (decide (n.kind=5)):Nat):Int) - 1=((eAt l true q k:Nat):Int):=by rw [hd5];simp only [bK,if_true];omega
   have i1:=hK.inv k (by omega)
   rw [hd5] at i1
   obtain⟨r',g1,g2,g3⟩:=hK.kid hk
   rw [hd5] at g1
   have hr':=za6 g1
   have hset:=fill_step (z:=([]:List UInt8)) (d:=[]) hlk hk
   have hget:kl.getD k []=(l.getD (eAt l true q k) n0d).text:=by
    rw [← hkl,hkeys];simp [hk,keyT]
   rw [hget] at hset
   rw [e1,Int.toNat_natCast,hset]
   refine⟨by unfold inI;omega,by omega,by omega,by omega,by omega,by omega,by omega,by simp;omega,?_⟩
   refine⟨_,_,_,_,rfl,rfl,?_⟩
   rfl
  ·refine⟨_,_,_,_,_,_,rfl,by simp,?_⟩
   refine aQ22 ?_
   rw [List.take_of_length_le (by omega),Nat.sub_self,List.replicate_zero,List.append_nil,← hpz,hkl,← hlk]
   refine zfI (id:=2) rfl (by simp) (zaX _ _) ?_
   rw [List.drop_zero,List.take_of_length_le (by simp)]
   exact⟨rfl,rfl⟩
def findK (l:List Nd) (key:List UInt8):Option Nat:=if zaz l=0∧(l.getD 0 n0d).kind=5 then (List.range (l.getD 0 n0d).kids.toNat).find? fun k=>decide (keyT l true 0 k=key) else none
end Go.Proofs.YtcahoelfogjljaaGreatDoor
end

section
namespace Go.Proofs.YtcahoelfogjljaaGreatDoor
open Go Go.Eng
def slNs (l:List Nd):AV:=.sl (l.flatMap nC) l.length
theorem zdi (l:List Nd):(slNs l).one=true:=rfl
theorem zhx (q:List Nat) (l:List Nd):(slNs l).ren q=some (slNs l):=ren_slN q l _
theorem zaB (q:List Nat) (L:List (List Nd)):renL q (L.map slNs)=some (L.map slNs):=zas slNs zhx q L
theorem ia_Ns (e:TypeId) (L:List (List Nd)) (n:Nat) (k:Int) (K:AV→Prop):ia3 (some (tySl e)) (.sl (L.map slNs) n) k K=(0≤k∧k < n∧n≤L.length∧K (.rp ((L.map slNs).drop k.toNat))):=by
 simp [ia3,tySl]
theorem ldd_Ns (e:TypeId) (L:List (List Nd)) (k:Nat) (K:AV→Prop):ld2 (some (tySl e)) (some ((L.map slNs).drop k)) 0 K=(k < L.length∧K (slNs (L.getD k []))):=by
 by_cases h:k < L.length
 ·rw [← List.map_drop,List.drop_eq_getElem_cons h]
  simp [ld2,wfin,tySl,TD.agg,h]
  try (intro _;omega)
 ·rw [List.drop_eq_nil_of_le (by simp;omega)]
  simp [ld2,wfin,tySl,h]
end Go.Proofs.YtcahoelfogjljaaGreatDoor
end

section
namespace Go.Proofs.YtcahoelfogjljaaGreatDoor
open Go Go.Eng
set_option linter.defProp false in
def LB6:=And.intro @ia_sl_str (@ldd_str)
set_option linter.defProp false in
def LB7:=And.intro @bs_n_0 (And.intro @zjJ (And.intro @zfo (And.intro @zhv (And.intro @ia_Ns (@ldd_Ns)))))
theorem zam {eB:TypeId} {σ:zaa} {KS:AV→zaa→Prop}:wbox eB (.lit (.slice none 0 0)) σ KS=KS (.ptr σ.length 0) (σ++[.rw [.lit (.slice none 0 0)]]):=by
 simp [wbox,zc8,AV.cells,AV.one,Value.oneCell']
theorem zeC {σ:zaa} {id n:Nat} {l:List (List UInt8)} (h:σ[id]?=some (.rw (l.map str))) (hn:n=l.length):asrc σ 1 (.ref id 0 n 1)=some (l.map str,n):=by
 subst hn
 simp only [asrc,asl,rd,h,if_true,Option.bind_some,Nat.mul_one,Nat.zero_add,List.length_map,Nat.le_refl,List.drop_zero]
 rw [List.take_of_length_le (by simp)]
theorem zfQ {α:Type} (f:α→AV) (hf:∀ a,(f a).one=true) {ts:Array TypeId} {t t1 e:TypeId} {te:TI} {z:AV} {tx:TI} (h0:ts[0]?=some t) (h1:ts[1]?=some t1) (ht:T t=some (tySl e)) (ht1:T t1=some tx) (hx:(∀ k,tx.d≠.int k)∧tx.d≠.other) (he:T e=some te) (ho:one1 te z)
  {ys:List α} {m:Nat} {x:AV} {σ:zaa} {KS:AV→zaa→Prop} (hs:asrc σ 1 x=some (ys.map f,m)) (g1:m≤9223372036854775807) (g2:m * te.bytes≤140737488355328) (hk:KS (.ref σ.length 0 m 1) (σ++[.rw (ys.map f)])):zbn T ts (.lit (.slice none 0 0)) x σ KS:=by
 rw [append_nil h0 h1 ht ht1 hx he ho hs (zcR f hf ys)]
 exact⟨g1,g2,hk⟩
end Go.Proofs.YtcahoelfogjljaaGreatDoor
end

section
namespace Go.Proofs.YtcahoelfogjljaaGreatDoor
open Go Go.Eng
end Go.Proofs.YtcahoelfogjljaaGreatDoor
end

section
namespace Go.Proofs.YtcahoelfogjljaaGreatDoor
open Go Go.Eng
def o1:Nd:=⟨2,1,[],0⟩
def lv:List Nd:=[⟨4,0,[],2⟩,⟨2,1,[],0⟩,⟨0,0,[],0⟩]
def mv:List Nd:=[⟨5,0,[],2⟩,⟨3,0,[97],0⟩,⟨4,0,[],2⟩,⟨2,1,[],0⟩,⟨0,0,[],0⟩,⟨3,0,[98],0⟩,⟨2,1,[],0⟩]
theorem bd_n01 {K:AV→Prop} {t:TypeId} (ht:T t=some tyNd) (k j:Int):za1 T t [(0,i64 k),(1,i64 j)] K=K (nA ⟨k,j,[],0⟩):=by
 simp [za1,ht,tyNd,T3,T2,T49,T9,zbF,zaI,zb2,zb9,za7,zaD,tyStr,nA,nC]
 try rfl
theorem bs_str_2 (a b:List UInt8) (σ:zaa) (K:AV→zaa→Prop):bs2 (some tyStr) 2 [(0,str a),(1,str b)] σ K=K (.ref σ.length 0 2 1) (σ++[.rw ([a,b].map str)]):=by
 simp [bs2,tyStr,zbF,zbV,zdm,za7,List.range_succ,zbR,List.replicate]
theorem bs_sl_1 (e:TypeId) (c:List AV) (n:Nat) (σ:zaa) (K:AV→zaa→Prop):bs2 (some (tySl e)) 1 [(0,.sl c n)] σ K=K (.ref σ.length 0 1 1) (σ++[.rw [.sl c n]]):=by
 simp [bs2,tySl,zbF,zbV,AV.cells,AV.one,za7,List.range_succ,List.replicate]
theorem bs_str_1 (a:List UInt8) (σ:zaa) (K:AV→zaa→Prop):bs2 (some tyStr) 1 [(0,str a)] σ K=K (.ref σ.length 0 1 1) (σ++[.rw ([a].map str)]):=by
 simp [bs2,tyStr,zbF,zbV,zdm,za7,List.range_succ,zbR,List.replicate]
theorem zki {σ:zaa} {id n:Nat} {l:List (List UInt8)} (h:σ[id]?=some (.ro (l.map str))) (hn:n=l.length):frzA σ (.ref id 0 n 1) (.sl (l.map str) l.length):=by
 subst hn
 refine .inr ⟨_,h,by simp,?_⟩
 rw [List.drop_zero,List.take_of_length_le (by simp)]
theorem noid_N2 (a b:List Nd) (n m:Nat) (q:List Nat):renL q [.sl (a.flatMap nC) n,.sl (b.flatMap nC) m]=some [.sl (a.flatMap nC) n,.sl (b.flatMap nC) m]:=by simp only [renL,AV.ren,zat,Option.map_some,bind,Option.bind,pure]
theorem zdX (a:List Nd) (n:Nat) (q:List Nat):renL q [.sl (a.flatMap nC) n]=some [.sl (a.flatMap nC) n]:=by simp only [renL,AV.ren,zat,Option.map_some,bind,Option.bind,pure]
theorem ze7 (a:List Nd) (n:Nat) (k:Int) (q:List Nat):renL q [.sl (a.flatMap nC) n,i64 k]=some [.sl (a.flatMap nC) n,i64 k]:=by simp only [renL,AV.ren,zat,zae,Option.map_some,bind,Option.bind,pure]
end Go.Proofs.YtcahoelfogjljaaGreatDoor
end

section
namespace Go.Proofs.YtcahoelfogjljaaGreatDoor
open Go Go.Eng
set_option linter.defProp false in
def LB8:=And.intro @ia_sl_i64 (@ldd_i64)
set_option linter.defProp false in
def LB9:=And.intro (fun {K}=>@bd_n01 K _ T51) (And.intro @bs_str_2 (And.intro @bs_sl_1 (@bs_str_1)))
set_option linter.defProp false in
def LM0:=And.intro LB1 (And.intro LB2 (And.intro LB3 (And.intro LB4 (And.intro LB6 (And.intro LB7 (And.intro LB8 (LB9)))))))
def fewB (l:List Nd):Bool:=decide (l.length≤130) && (l.all fun n=>decide (n.text.length≤130))
theorem few_long {l:List Nd} {k:Nat} (hk:k < l.length) (h:130 < (l.getD k n0d).text.length):fewB l=false:=by
 rw [fewB,Bool.and_eq_false_iff]
 refine .inr ?_
 rw [List.all_eq_false]
 refine⟨l.getD k n0d,?_,by simpa using h⟩
 rw [List.getD_eq_getElem?_getD,List.getElem?_eq_getElem hk]
 exact List.getElem_mem _
theorem few_end {l:List Nd} {k:Nat} (h:k=l.length∨130 < l.length) (hj:∀ j,j < k→(l.getD j n0d).text.length≤130):fewB l=decide ((l.length:Int)≤130):=by
 rw [fewB]
 by_cases hl:l.length≤130
 ·rw [decide_eq_true hl,decide_eq_true (by omega),Bool.true_and,List.all_eq_true]
  intro n hn
  obtain⟨j,hjl,rfl⟩:=List.getElem_of_mem hn
  have:=hj j (by omega)
  rw [List.getD_eq_getElem?_getD,List.getElem?_eq_getElem hjl] at this
  simpa using this
 ·rw [decide_eq_false hl,decide_eq_false (by omega),Bool.false_and]
theorem Few_ok (l:List Nd) (hl:l.length≤9223372036854775807):ACalls Tryz.prog 9 [.sl (l.flatMap nC) l.length] [] (fun y _=>y=.ret (bl (fewB l))):=by
 refine ACalls.body T_ok Tryz.func9 (by kernel_rfl) rfl Tryz.ntmps9 (congrArg Array.toList Tryz.results9) ?_
 refine aQ23 ?_
 rw [zaN]
 refine⟨Nat,fun k=>k≤l.length∧k≤131∧∀ j,j < k→(l.getD j n0d).text.length≤130,fun k=>[.sl (l.flatMap nC) l.length,.bot,bl false,i64 k,.bot,.bot,.bot,.bot,.bot,.bot,.bot,.bot,.bot,.bot,.bot,.bot,.bot,.bot,.bot,.bot,.bot,.bot,.bot,.bot],fun _=>[],fun k=>l.length - k,0,⟨Nat.zero_le _,by omega,fun j h=>absurd h (by omega)⟩,zbb ?_,?_⟩
 ·refine aQ20 ?_
  try exact .inr rfl
 ·rintro k ⟨hk,hk1,hj⟩
  refine aQ23 ?_
  by_cases hlt:k < l.length
  ·rw [decide_eq_true (by omega:(k:Int) < l.length)]
   refine aQ23 ?_
   refine⟨fun hlt2=>?_,fun hlt2=>?_⟩
   ·repeat (with_reducible refine zbt ?_)
    refine⟨fun hg=>?_,fun hg=>?_⟩
    ·refine aQ23 ?_
     exact zaE (by rw [few_long hlt (by omega)])
    ·refine aQ23 ?_
     repeat (with_reducible refine zbt ?_)
     rw [zac]
     refine⟨k+1,⟨by omega,by omega,fun j h=>?_⟩,by (show l.length - (k+1) < l.length - k);omega,zbb ?_⟩
     ·by_cases e:j=k
      ·subst e;omega
      ·exact hj j (by omega)
     ·refine aQ20 ?_
      try exact .inr rfl
   ·refine aQ23 ?_
    exact zaE (by rw [few_end (.inr (by omega)) hj])
  ·rw [decide_eq_false (by omega:¬ (k:Int) < l.length)]
   refine aQ23 ?_
   exact zaE (by rw [few_end (.inl (by omega)) hj])
theorem few_le {l:List Nd} (h:fewB l=true):l.length≤130:=by
 rw [fewB,Bool.and_eq_true,decide_eq_true_eq] at h
 exact h.1
end Go.Proofs.YtcahoelfogjljaaGreatDoor
end

section
namespace Go.Proofs.YtcahoelfogjljaaGreatDoor
open Go Go.Eng
structure Part (l m:List Nd) (o:Nat):Prop where
 le:o+m.length≤l.length
 at':∀ q,q < m.length→m[q]?=l[o+q]?
theorem Part.node {l m:List Nd} {o q:Nat} (h:Part l m o) (hq:q < m.length):zbm m q=zbm l (o+q):=by
 simp only [zbm,h.at' q hq]
structure Alk (l m:List Nd) (o q:Nat):Prop where
 fwd:∀ r,vl m q=some r→vl l (o+q)=some (o+r.1,r.2)
 back:∀ r,vl l (o+q)=some r→r.1≤o+m.length→vl m q=some (r.1 - o,r.2)
theorem kids_to {l m:List Nd} {o:Nat} (hp:Part l m o) {mp:Bool} {N:Nat} (ih:∀ q,N≤q→q≤m.length→Alk l m o q):∀ (c:Nat) (last:Option (List UInt8)) (e d:Nat) (r:Nat × Nat),N≤e→e≤m.length→zbu (vl m) m mp c last e d=some r→zbu (vl l) l mp c last (o+e) d=some (o+r.1,r.2)
 | 0,last,e,d,r,h1,h2,h=>by
  simp only [zbu,Option.some.injEq] at h ⊢
  subst h
  rfl
 | c+1,last,e,d,r,h1,h2,h=>by
  cases mp with
  | true =>
   rw [zcL] at h ⊢
   split at h
   ·rename_i k hk
    have hlt:=(zbc hk).1
    rw [← hp.node hlt,hk]
    dsimp only
    split at h
    ·rename_i hc
     rw [if_pos hc]
     split at h
     ·rename_i r' hr'
      have g:=za6 hr'
      rw [show o+e+1=o+(e+1) by omega,(ih (e+1) (by omega) (by omega)).fwd _ hr']
      exact kids_to hp ih c _ _ _ _ (by omega) (by omega) h
     ·cases h
    ·cases h
   ·cases h
  | false =>
   rw [zci] at h ⊢
   split at h
   ·rename_i r' hr'
    have g:=za6 hr'
    rw [(ih e (by omega) (by omega)).fwd _ hr']
    exact kids_to hp ih c _ _ _ _ (by omega) (by omega) h
   ·cases h
theorem zik {l m:List Nd} {o:Nat} (hp:Part l m o) {mp:Bool} {N:Nat} (ih:∀ q,N≤q→q≤m.length→Alk l m o q):∀ (c:Nat) (last:Option (List UInt8)) (e d:Nat) (r:Nat × Nat),N≤e→e≤m.length→zbu (vl l) l mp c last (o+e) d=some r→r.1≤o+m.length→zbu (vl m) m mp c last e d=some (r.1 - o,r.2)
 | 0,last,e,d,r,h1,h2,h,hr=>by
  simp only [zbu,Option.some.injEq] at h ⊢
  subst h
  simp
 | c+1,last,e,d,r,h1,h2,h,hr=>by
  cases mp with
  | true =>
   rw [zcL] at h ⊢
   split at h
   ·rename_i k hk
    split at h
    ·rename_i hc
     split at h
     ·rename_i r' hr'
      have g:=za6 hr'
      have g2:=zcK (fun e r h=>za6 h) c _ _ _ _ g.2 h
      rw [hp.node (by omega),hk]
      dsimp only
      rw [if_pos hc,(ih (e+1) (by omega) (by omega)).back r' (by rw [← hr'];congr 1) (by omega)]
      refine zik hp ih c _ _ _ _ (by dsimp only;omega) (by dsimp only;omega) ?_ hr
      rw [show o+(r'.1 - o)=r'.1 by omega]
      exact h
     ·cases h
    ·cases h
   ·cases h
  | false =>
   rw [zci] at h ⊢
   split at h
   ·rename_i r' hr'
    have g:=za6 hr'
    have g2:=zcK (fun e r h=>za6 h) c _ _ _ _ g.2 h
    rw [(ih e (by omega) (by omega)).back r' hr' (by omega)]
    refine zik hp ih c _ _ _ _ (by dsimp only;omega) (by dsimp only;omega) ?_ hr
    rw [show o+(r'.1 - o)=r'.1 by omega]
    exact h
   ·cases h
theorem part_vl {l m:List Nd} {o:Nat} (hp:Part l m o):∀ (n q:Nat),m.length - q=n→q≤m.length→Alk l m o q:=by
 intro n
 induction n using Nat.strongRecOn with
 | _ n ih =>
  intro q hn hq
  by_cases hlt:q < m.length
  ·have ih':∀ q',q+1≤q'→q'≤m.length→Alk l m o q':=fun q' h1 h2=>ih (m.length - q') (by omega) q' rfl h2
   constructor
   ·intro r h
    rw [zdD] at h ⊢
    rw [← hp.node hlt]
    split at h
    ·rename_i k hk
     rw [Option.map_eq_some_iff] at h
     obtain⟨x,h1,rfl⟩:=h
     rw [show o+q+1=o+(q+1) by omega,kids_to hp ih' _ _ _ _ _ (Nat.le_refl _) (by omega) h1]
     rfl
    ·cases h
   ·intro r h hr
    rw [zdD] at h ⊢
    rw [hp.node hlt]
    split at h
    ·rename_i k hk
     rw [Option.map_eq_some_iff] at h
     obtain⟨x,h1,rfl⟩:=h
     rw [show o+q+1=o+(q+1) by omega] at h1
     rw [zik hp ih' _ _ _ _ _ (Nat.le_refl _) (by omega) h1 hr]
     rfl
    ·cases h
  ·obtain rfl:q=m.length:=by omega
   constructor
   ·intro r h
    have:=za6 h
    omega
   ·intro r h hr
    have:=za6 h
    omega
theorem part_to {l m:List Nd} {o q:Nat} (hp:Part l m o) {r:Nat × Nat} (h:vl m q=some r):vl l (o+q)=some (o+r.1,r.2) :=
 (part_vl hp _ q rfl (by have:=za6 h;omega)).fwd r h
theorem part_back {l m:List Nd} {o q:Nat} (hp:Part l m o) {r:Nat × Nat} (h:vl l (o+q)=some r) (hr:r.1≤o+m.length):vl m q=some (r.1 - o,r.2) :=
 (part_vl hp _ q rfl (by have:=za6 h;omega)).back r h hr
theorem part_sub {l:List Nd} {p e:Nat} (h1:p≤e) (h2:e≤l.length):Part l ((l.take e).drop p) p:=by
 constructor
 ·simp;omega
 ·intro q hq
  simp only [List.length_drop,List.length_take] at hq
  rw [List.getElem?_drop,List.getElem?_take_of_lt (by omega)]
theorem long_part {l m:List Nd} (h:zbY l=false) (hm:∀ x∈m,x∈l):zbY m=false:=by
 simp only [zbY,List.any_eq_false] at h ⊢
 exact fun x hx=>h x (hm x hx)
theorem zdj {l:List Nd} {p:Nat} (h:zaz l=0) (hp:p < l.length):okAt l p=true:=by
 simp only [okAt,decide_eq_true_eq]
 exact⟨h,by omega,by omega⟩
theorem zed {l:List Nd} {p:Nat} {r:Nat × Nat} (h:zaz l=0) (hp:p < l.length) (hv:vl l p=some r):zaC l p=(l.take r.1).drop p:=by
 rw [zaC,if_pos (zdj h hp)]
 simp only [Int.toNat_natCast,zdV,hv]
theorem sub_val {l:List Nd} {p:Nat} {r:Nat × Nat} (h:zaz l=0) (hp:p < l.length) (hv:vl l p=some r) (hd:r.2≤32):zaz (zaC l p)=0∧deepOf (zaC l p)=r.2∧(zaC l p).length=r.1 - p∧vl (zaC l p) 0=some (r.1 - p,r.2):=by
 obtain⟨h120,hlong,_⟩:=zcW h
 have g:=za6 hv
 have hP:=part_sub (l:=l) (p:=p) (e:=r.1) (by omega) g.2
 have hlen:(zaC l p).length=r.1 - p:=by rw [zed h hp hv];simp;omega
 have hv0:vl (zaC l p) 0=some (r.1 - p,r.2):=by
  rw [zed h hp hv]
  exact part_back hP (q:=0) hv (by have:=hlen;rw [zed h hp hv] at this;omega)
 have hl:zbY (zaC l p)=false:=long_part hlong (fun x hx=>by rw [zed h hp hv] at hx;exact List.mem_of_mem_take (List.mem_of_mem_drop hx))
 have he:zaz (zaC l p)=0:=by
  rw [zaz,if_neg (by rw [hl];simp;omega),hv0]
  dsimp only
  rw [if_pos hlen.symm,if_neg (by omega)]
 refine⟨he,?_,hlen,hv0⟩
 rw [deepOf,if_pos he,hv0]
end Go.Proofs.YtcahoelfogjljaaGreatDoor
end

