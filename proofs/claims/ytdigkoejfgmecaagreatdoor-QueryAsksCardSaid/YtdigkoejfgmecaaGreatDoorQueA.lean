/-
  Nodes, values, and what is checked of them. No condition.
-/
import Derived.Test.YtdigkoejfgmecaaGreatDoorEngX
import Derived.Lib.LaidTab
import Derived.Lib.ItoaNum
import Derived.Test.YtdigkoejfgmecaaGreatDoorRows
import Derived.Test.YtdigkoejfgmecaaGreatDoorLib
set_option linter.unusedSimpArgs false
set_option linter.unusedVariables false
set_option linter.unusedSectionVars false
section
namespace Go.Eng
open Go
theorem aQ1 {P:Prop} (e:P:=by first | rfl | simp [renL,AV.ren,zcs,zam str zaj,zcO,zbY,zbt,zac,zay,zaj]):P:=e
theorem aQ2 {P:Prop} (e:P:=by simp [renL,AV.ren,zac,zai]):P:=e
theorem aQ17 {P Q:Prop} (h:Q) (e:P=Q:=by first|(simp -implicitDefEqProofs only [LM8,eq_self,TB,SB,Int.reduceToNat,Nat.reduceAdd,Nat.reduceEqDiff,Nat.reduceLT,Nat.reduceMod,Nat.reducePow,Nat.reduceSub,if_true,reduceIte];first|done|exact rfl)|exact rfl):P:=e ▸ h
theorem aQ18 {P Q:Prop} (h:Q) (e:P=Q:=by first|(simp only [FB,AV.ren,Nat.reduceAdd,reduceCtorEq];first|done|exact rfl)|exact rfl):P:=e ▸ h
theorem aQ19 {P Q:Prop} (h:Q) (e:P=Q:=by first|(simp only [LB2,List.getElem?_cons_zero,true_and,and_true,or_true,true_or,reduceCtorEq,false_or];first|done|exact rfl)|exact rfl):P:=e ▸ h
theorem aQ20 {P Q:Prop} (h:Q) (e:P=Q:=by first|(simp -implicitDefEqProofs only [LM8,eq_self,bs_n_0,TB,SB,Int.reduceToNat,Nat.reduceAdd,Nat.reduceEqDiff,Nat.reduceLT,Nat.reduceMod,Nat.reducePow,Nat.reduceSub,if_true,reduceIte];first|done|exact rfl)|exact rfl):P:=e ▸ h
theorem aQ21 {P Q:Prop} (h:Q) (e:P=Q:=by first|(simp -implicitDefEqProofs only [LM8,eq_self,mk_str0,zgG,zjy,TB,SB,Int.reduceToNat,Nat.reduceAdd,Nat.reduceEqDiff,Nat.reduceLT,Nat.reduceMod,Nat.reducePow,Nat.reduceSub,if_true,reduceIte];first|done|exact rfl)|exact rfl):P:=e ▸ h
theorem aQ22 {P Q:Prop} (h:Q) (e:P=Q:=by first|(simp -implicitDefEqProofs only [LM8,eq_self,mk_str0,zgG,zjy,dza,TB,SB,Int.reduceToNat,Nat.reduceAdd,Nat.reduceEqDiff,Nat.reduceLT,Nat.reduceMod,Nat.reducePow,Nat.reduceSub,if_true,reduceIte];first|done|exact rfl)|exact rfl):P:=e ▸ h
theorem aQ23 {P Q:Prop} (h:Q) (e:P=Q:=by first|(simp -implicitDefEqProofs only [LM5,eq_self,TB,SB,Int.reduceToNat,Nat.reduceAdd,Nat.reduceEqDiff,Nat.reduceLT,Nat.reduceMod,Nat.reducePow,Nat.reduceSub,if_true,reduceIte];first|done|exact rfl)|exact rfl):P:=e ▸ h
end Go.Eng
end

section
namespace Go.Proofs.YtdigkoejfgmecaaGreatDoor
open Go Go.Eng
set_option linter.defProp false in
def LB0:=And.intro @Wop_panic (And.intro @wpan_ifc (And.intro @one_sl (And.intro @Bool.not_true (And.intro @Bool.not_false (And.intro @Int.toNat_natCast (@decide_true))))))
def nilS:AV:=.lit (.slice none 0 0)
def tyNd:TI:=⟨.struct [(64,0),(2,1),(9,2),(3,3)],4,40,[.int .i64 0,.int .i64 0,.string ⟨#[]⟩,.int .i64 0],true⟩
def tyRd:TI:=⟨.struct [(23,0),(31,1),(3,2)],3,56,[.slice none 0 0,.slice none 0 0,.int .i64 0],false⟩
def tySn:TI:=⟨.struct [(3,0),(3,1),(4,2),(31,3),(31,4)],5,72,[.int .i64 0,.int .i64 0,.bool false,.slice none 0 0,.slice none 0 0],false⟩
def tyGu:TI:=⟨.struct [],0,0,[],false⟩
def tyPr:TI:=⟨.struct [(9,0),(3,1),(3,2)],3,32,[.string ⟨#[]⟩,.int .i64 0,.int .i64 0],false⟩
def tyPf:TI:=⟨.struct [(3,0),(27,1)],2,16,[.int .i64 0,.int .i64 0],true⟩
def tyMb:TI:=⟨.struct [(9,0),(23,1)],2,40,[.string ⟨#[]⟩,.slice none 0 0],false⟩
def tyPt:TI:=⟨.struct [(9,0),(3,1)],2,24,[.string ⟨#[]⟩,.int .i64 0],true⟩
def tyRV:TI:=⟨.struct [(17,0),(192,1),(193,2)],3,24,[.pointer none,.pointer none,.int .u64 0],false⟩
def tyQ:TI:=⟨.struct [(35,0),(9,1),(23,2),(3,3)],4,56,[.int .i64 0,.string ⟨#[]⟩,.slice none 0 0,.int .i64 0],false⟩
def tyFd:TI:=⟨.struct [(22,0),(9,1),(4,2),(43,3),(3,4)],5,80,[.slice none 0 0,.string ⟨#[]⟩,.bool false,.slice none 0 0,.int .i64 0],false⟩
def tyLk:TI:=⟨.struct [(22,0),(23,1),(109,2)],10,112,[.slice none 0 0,.slice none 0 0,.nilFunc,.nilFunc,.nilFunc,.nilFunc,.nilFunc,.nilFunc,.nilFunc,.nilFunc],false⟩
def tyDc:TI:=⟨.struct [(9,0),(23,1)],2,40,[.string ⟨#[]⟩,.slice none 0 0],false⟩
def tyRw:TI:=⟨.struct [(52,0),(23,2),(3,3)],4,72,[.string ⟨#[]⟩,.slice none 0 0,.slice none 0 0,.int .i64 0],false⟩
def tyRs:TI:=⟨.struct [(80,0),(4,1)],2,32,[.slice none 0 0,.bool false],false⟩
def T:Tab:=tabOf [(3,zaC),(2,zaC),(4,zeS),(131,tyU64),(9,zbf),(43,tySl 9),(31,tySl 3),(64,zaC),(27,zaC),(66,tyNd),(23,tySl 66),(40,tySl 23),(122,tyRd),(113,tySn),(135,tyMap 9 3),(208,tyGu),(219,tySl 66),(216,tySl 219),(20,tyI),(5,tyU8),(287,tySl 5),(184,tyU64),(322,zf6 5),(150,tyPr),(190,zf6 150),(147,tyPf),(153,zf6 147),(154,zf6 27),(103,tyI),(271,tyMb),(267,tySl 271),(278,tyMap 9 66),(143,tyPt),(96,tySl 143),(250,tyPt),(35,zaC),(37,tyQ),(22,tySl 37),(45,tyFd),(204,tySl 250),(198,tyI),(234,tyI),(237,tyI),(195,tyRV),(200,tyU8),(1,tyFn),(182,tyU32),(301,zhY 24 5 tyU8),(207,tyGu),(138,tyFn),(137,tyFn),(108,tyFn),(70,tyFn),(109,zhY 8 70 tyFn),(111,tyLk),(68,zf6 111),(116,tyFn),(26,tyFn),(78,tyFn),(52,tyDc),(46,tySl 52),(85,tyRw),(80,tySl 85),(82,tyRs),(79,zf6 82),(167,tyI),(88,tyFn)]
theorem T_ok:zaD Tryz.prog T:=tabOf_ok (by kernel_rfl)
theorem T3:T 3=some (zaC):=rfl
theorem T2:T 2=some (zaC):=rfl
theorem T4:T 4=some (zeS):=rfl
theorem T131:T 131=some (tyU64):=rfl
theorem T9:T 9=some (zbf):=rfl
theorem T43:T 43=some (tySl 9):=rfl
theorem T31:T 31=some (tySl 3):=rfl
theorem T64:T 64=some (zaC):=rfl
theorem T27:T 27=some (zaC):=rfl
theorem T66:T 66=some (tyNd):=rfl
theorem T23:T 23=some (tySl 66):=rfl
theorem T40:T 40=some (tySl 23):=rfl
theorem T122:T 122=some (tyRd):=rfl
theorem T113:T 113=some (tySn):=rfl
theorem T135:T 135=some (tyMap 9 3):=rfl
theorem T208:T 208=some (tyGu):=rfl
theorem T219:T 219=some (tySl 66):=rfl
theorem T216:T 216=some (tySl 219):=rfl
theorem T20:T 20=some (tyI):=rfl
theorem T5:T 5=some (tyU8):=rfl
theorem T287:T 287=some (tySl 5):=rfl
theorem T184:T 184=some (tyU64):=rfl
theorem T322:T 322=some (zf6 5):=rfl
theorem T150:T 150=some (tyPr):=rfl
theorem T190:T 190=some (zf6 150):=rfl
theorem T147:T 147=some (tyPf):=rfl
theorem T153:T 153=some (zf6 147):=rfl
theorem T154:T 154=some (zf6 27):=rfl
theorem T103:T 103=some (tyI):=rfl
theorem T271:T 271=some (tyMb):=rfl
theorem T267:T 267=some (tySl 271):=rfl
theorem T278:T 278=some (tyMap 9 66):=rfl
theorem T143:T 143=some (tyPt):=rfl
theorem T96:T 96=some (tySl 143):=rfl
theorem T250:T 250=some (tyPt):=rfl
theorem T35:T 35=some (zaC):=rfl
theorem T37:T 37=some (tyQ):=rfl
theorem T22:T 22=some (tySl 37):=rfl
theorem T45:T 45=some (tyFd):=rfl
theorem T204:T 204=some (tySl 250):=rfl
theorem T198:T 198=some (tyI):=rfl
theorem T234:T 234=some (tyI):=rfl
theorem T237:T 237=some (tyI):=rfl
theorem T195:T 195=some (tyRV):=rfl
theorem T200:T 200=some (tyU8):=rfl
theorem T1:T 1=some (tyFn):=rfl
theorem T182:T 182=some (tyU32):=rfl
theorem T301:T 301=some (zhY 24 5 tyU8):=rfl
theorem T207:T 207=some (tyGu):=rfl
theorem T138:T 138=some (tyFn):=rfl
theorem T137:T 137=some (tyFn):=rfl
theorem T108:T 108=some (tyFn):=rfl
theorem T70:T 70=some (tyFn):=rfl
theorem T109:T 109=some (zhY 8 70 tyFn):=rfl
theorem T111:T 111=some (tyLk):=rfl
theorem T68:T 68=some (zf6 111):=rfl
theorem T116:T 116=some (tyFn):=rfl
theorem T26:T 26=some (tyFn):=rfl
theorem T78:T 78=some (tyFn):=rfl
theorem T52:T 52=some (tyDc):=rfl
theorem T46:T 46=some (tySl 52):=rfl
theorem T85:T 85=some (tyRw):=rfl
theorem T80:T 80=some (tySl 85):=rfl
theorem T82:T 82=some (tyRs):=rfl
theorem T79:T 79=some (zf6 82):=rfl
theorem T167:T 167=some (tyI):=rfl
theorem T88:T 88=some (tyFn):=rfl
set_option linter.defProp false in
def TB:=And.intro T3 (And.intro T2 (And.intro T4 (And.intro T131 (And.intro T9 (And.intro T43 (And.intro T31 (And.intro T64 (And.intro T27 (And.intro T66 (And.intro T23 (And.intro T40 (And.intro T122 (And.intro T113 (And.intro T135 (And.intro T208 (And.intro T219 (And.intro T216 (And.intro T20 (And.intro T5 (And.intro T287 (And.intro T184 (And.intro T322 (And.intro T150 (And.intro T190 (And.intro T147 (And.intro T153 (And.intro T154 (And.intro T103 (And.intro T271 (And.intro T267 (And.intro T278 (And.intro T143 (And.intro T96 (And.intro T250 (And.intro T35 (And.intro T37 (And.intro T22 (And.intro T45 (And.intro T204 (And.intro T198 (And.intro T234 (And.intro T237 (And.intro T195 (And.intro T200 (And.intro T1 (And.intro T182 (And.intro T301 (And.intro T207 (And.intro T138 (And.intro T137 (And.intro T108 (And.intro T70 (And.intro T109 (And.intro T111 (And.intro T68 (And.intro T116 (And.intro T26 (And.intro T78 (And.intro T52 (And.intro T46 (And.intro T85 (And.intro T80 (And.intro T82 (And.intro T79 (And.intro T167 (T88))))))))))))))))))))))))))))))))))))))))))))))))))))))))))))))))))
def powT:List Value:=Go.Lib.pow10Tab.map (Value.int .u64)
def rtypeV (g t:Nat):Value:=.iface 229 (.agg #[.pointer (some ⟨g,t,none⟩)])
instance globs:Globs:=⟨fun g=>match g with
 | 0=>some [rtypeV 7 103]
 | 4=>some powT
 | _=>none,[],[1],[3,2]⟩
structure Nd where
 kind:Int
 num:Int
 text:List UInt8
 kids:Int
 deriving DecidableEq
def n0d:Nd:=⟨0,0,[],0⟩
def nC (n:Nd):List AV:=[i64 n.kind,i64 n.num,str n.text,i64 n.kids]
def nA (n:Nd):AV:=.agg (nC n)
def nV (n:Nd):List Value:=[.int .i64 n.kind,.int .i64 n.num,.string ⟨n.text.toArray⟩,.int .i64 n.kids]
theorem zcE (n:Int):(i64 n).one=true:=rfl
theorem one_bl' (b:Bool):(bl b).one=true:=rfl
theorem one_sl (cs:List AV) (n:Nat):(AV.sl cs n).one=true:=rfl
theorem one_ref (id off n sz:Nat):(AV.ref id off n sz).one=true:=rfl
theorem zcT (n:Int):(i64 n).cells=[i64 n]:=rfl
theorem cells_bl' (b:Bool):(bl b).cells=[bl b]:=rfl
theorem zfa (b:List UInt8):(str b).cells=[str b]:=rfl
theorem zjz (cs:List AV) (n:Nat):(AV.sl cs n).cells=[AV.sl cs n]:=rfl
theorem cells_ref (id off n sz:Nat):(AV.ref id off n sz).cells=[AV.ref id off n sz]:=rfl
section
variable {a b n : Nd} {σ : zaa} {K : AV → Prop} {KS : AV → zaa → Prop} {t : TypeId} {id : Nat}
theorem all_n:(nC n).all AV.one=true:=by
 simp only [nC,List.all_cons,zcE,zeT,List.all_nil,Bool.and_self]
theorem len_nC:(nC n).length=4:=rfl
theorem box_n {eB:TypeId}:wbox eB (nA n) σ KS=KS (.ptr σ.length 0) (σ++[.rw (nC n)]):=by
 simp only [wbox,nA,AV.cells,all_n,true_and,show zdo (nC n)=false from rfl,Bool.false_eq_true,if_false]
theorem ld_n:ld2 (some tyNd) (some (nC n)) 0 K=K (nA n):=by
 simp [ld2,wfin,tyNd,TD.agg,nA,nC]
theorem fa_n0 (ht:T t=some tyNd):zag T t (.ptr id 0) 0 K=K (.ptr id 0):=by simp [zag,ht,tyNd,T64,zaC]
theorem fa_n1 (ht:T t=some tyNd):zag T t (.ptr id 0) 1 K=K (.ptr id 1):=by simp [zag,ht,tyNd,T2,zaC]
theorem fa_n2 (ht:T t=some tyNd):zag T t (.ptr id 0) 2 K=K (.ptr id 2):=by simp [zag,ht,tyNd,T9,zbf]
theorem fa_n3 (ht:T t=some tyNd):zag T t (.ptr id 0) 3 K=K (.ptr id 3):=by simp [zag,ht,tyNd,T3,zaC]
theorem ld_n0:ld2 (some zaC) (some (nC n)) 0 K=K (i64 n.kind):=by simp [ld2,wfin,zaC,TD.agg,nC]
theorem ld_n1:ld2 (some zaC) (some (nC n)) 1 K=K (i64 n.num):=by simp [ld2,wfin,zaC,TD.agg,nC]
theorem ld_n2:ld2 (some zbf) (some (nC n)) 2 K=K (str n.text):=by simp [ld2,wfin,zbf,TD.agg,nC]
theorem ld_n3:ld2 (some zaC) (some (nC n)) 3 K=K (i64 n.kids):=by simp [ld2,wfin,zaC,TD.agg,nC]
theorem st_n:st2 (some tyNd) (some (.rw (nC a))) id 0 (nA b) σ KS=KS (.lit undef) (σ.set id (.rw (nC b))):=by
 have h1:=@all_n b
 have h2:za0 (nC a) 0 (nC b)=nC b:=rfl
 simp only [st2,tyNd,nA,AV.cells,len_nC,h1,h2,true_and,Nat.zero_add,Nat.le_refl]
theorem st_n3 (k:Int):st2 (some zaC) (some (.rw (nC a))) id 3 (i64 k) σ KS=KS (.lit undef) (σ.set id (.rw (nC ⟨a.kind,a.num,a.text,k⟩))):=by
 simp [st2,zaC,nC,AV.cells,AV.one,Value.oneCell',za0,i64]
theorem al_n (e:TypeId):al1 T e (some tyNd) σ KS=KS (.ptr σ.length 0) (σ++[.rw (nC n0d)]):=by
 simp [al1,tyNd,zaE,nC,n0d,i64,str]
theorem bd_n0 (ht:T t=some tyNd) (k:Int):zaY T t [(0,i64 k)] K=K (nA ⟨k,0,[],0⟩):=by
 simp [zaY,ht,tyNd,T3,T2,T64,T9,zbo,zaE,zcT,zcE,za0,zaC,zbf,nA,nC]
 try rfl
theorem bd_n02 (ht:T t=some tyNd) (k:Int) (j:List UInt8):zaY T t [(0,i64 k),(2,str j)] K=K (nA ⟨k,0,j,0⟩):=by
 simp [zaY,ht,tyNd,T3,T2,T64,T9,zbo,zaE,zcT,zcE,zfa,zeT,za0,zaC,zbf,nA,nC]
 try rfl
theorem bd_gu (ht:T t=some tyGu):zaY T t [] K=K (.agg []):=by
 simp [zaY,ht,tyGu,zbo,zaE]
theorem mkI2_gu (x:AV):mkI2 (some tyGu) t x K=K (.ifc t x):=mkI2_some rfl _ _
theorem fit_1 {t:TypeId} {ti:TI} {v:Value} (ht:T t=some ti) (h:scB ti.d v=true):fitE T 1 t [v]:=by
 simp only [fitE,ht]
 rcases zdr h with ⟨k,n,e,rfl⟩ | ⟨b,e,rfl⟩ | ⟨s,e,rfl⟩ <;> simp only [e] <;> exact⟨_,rfl,by simp [scB]⟩
theorem fit_n (n:Nd):fitE T 2 66 (nV n):=by
 rw [fitE]
 simp only [T66,tyNd]
 refine⟨trivial,rfl,rfl,?_⟩
 intro f hf
 simp only [List.mem_cons,List.not_mem_nil,or_false] at hf
 rcases hf with rfl | rfl | rfl | rfl
 ·exact⟨⟨_,T64⟩,fit_1 T64 rfl⟩
 ·exact⟨⟨_,T2⟩,fit_1 T2 rfl⟩
 ·exact⟨⟨_,T9⟩,fit_1 T9 rfl⟩
 ·exact⟨⟨_,T3⟩,fit_1 T3 rfl⟩
theorem nV_inj {a b:Nd} (h:nV a=nV b):a=b:=by
 obtain⟨a1,a2,a3,a4⟩:=a
 obtain⟨b1,b2,b3,b4⟩:=b
 simp only [nV,List.cons.injEq,Value.int.injEq,true_and,Value.string.injEq,ByteArray.mk.injEq,and_true] at h
 obtain⟨rfl,rfl,h,rfl⟩:=h
 simp at h
 rw [h]
theorem eqP_n (a b:Nd):eqP T 66 (nC a) (nC b) (2,nV a,nV b,decide (a=b)) :=
 ⟨rfl,rfl,(by show 2≤100;omega),⟨tyNd,T66,rfl⟩,fit_n a,fit_n b,by simp only [decide_eq_true_eq];exact⟨fun h=>by rw [h],fun h=>nV_inj h⟩⟩
theorem eqP_val {a b:Nd} {q:Nat × List Value × List Value × Bool} (h:eqP T 66 (nC a) (nC b) q):q.2.2.2=decide (a=b):=by
 obtain⟨h1,h2,_,_,_,_,h3⟩:=h
 have lits:∀ {l r:List Value},zaE l=zaE r→l=r:=by
  intro l
  induction l with
  | nil=>intro r h;cases r with | nil=>rfl | cons _ _=>cases h
  | cons x l ih =>
   intro r h
   cases r with
   | nil=>cases h
   | cons y r =>
    simp only [zaE,List.map_cons,List.cons.injEq,AV.lit.injEq] at h
    rw [h.1,ih h.2]
 have e1:=lits (l:=nV a) h1
 have e2:=lits (l:=nV b) h2
 rw [Bool.eq_iff_iff,h3,← e1,← e2,decide_eq_true_eq]
 exact⟨nV_inj,fun h=>by rw [h]⟩
theorem bin_n_eql:wbin T .eql 66 (nA a) (nA b) K=K (bl (decide (a=b))):=by
 apply propext
 constructor
 ·rintro⟨q,hq,hk⟩
  rw [← eqP_val hq]
  exact hk
 ·exact fun hk=>⟨_,eqP_n a b,hk⟩
theorem bin_n_neq:wbin T .neq 66 (nA a) (nA b) K=K (bl (!decide (a=b))):=by
 apply propext
 constructor
 ·rintro⟨q,hq,hk⟩
  rw [← eqP_val hq]
  exact hk
 ·exact fun hk=>⟨_,eqP_n a b,hk⟩
theorem set_n1 (k:Int):(nC a).set 1 (i64 k)=nC ⟨a.kind,k,a.text,a.kids⟩:=rfl
theorem set_n2 (k:List UInt8):(nC a).set 2 (str k)=nC ⟨a.kind,a.num,k,a.kids⟩:=rfl
theorem set_n3 (k:Int):(nC a).set 3 (i64 k)=nC ⟨a.kind,a.num,a.text,k⟩:=rfl
end
def wantN (n:Nd):Nd :=
 if n.kind=1 then (if n.num=1 then ⟨1,1,[],0⟩ else ⟨1,0,[],0⟩)
 else if n.kind=2 then ⟨2,n.num,[],0⟩
 else if n.kind=3 then ⟨3,0,n.text,0⟩
 else if n.kind=4∨n.kind=5 then ⟨n.kind,0,[],max n.kids 0⟩
 else ⟨n.kind,0,[],0⟩
def zb3 (n:Nd):Bool:=decide (0≤n.kind) && decide (n.kind≤5) && decide (n=wantN n)
theorem alone_ok (n:Nd):ACalls Tryz.prog 156 [nA n] [] (fun y _=>y=.ret (bl (zb3 n))):=by
 refine ACalls.body T_ok Tryz.func156 (by kernel_rfl) rfl Tryz.ntmps156 (congrArg Array.toList Tryz.results156) ?_
 try simp -implicitDefEqProofs only [LB0,zjz,box_n,ld_n,fa_n0 T66,fa_n1 T66,fa_n2 T66,fa_n3 T66,ld_n0,ld_n1,ld_n2,ld_n3,st_n,st_n3,al_n,bd_n0 T66,bd_n02 T66,bd_gu T208,mkI2_gu,bin_n_eql,bin_n_neq,set_n1,set_n2,set_n3,len_nC,eq_self,TB,SB,Int.reduceToNat,Nat.reduceAdd,Nat.reduceEqDiff,Nat.reduceLT,Nat.reduceMod,Nat.reducePow,Nat.reduceSub,if_true,reduceIte]
 have fin:∀ (b:Bool) (σ:zaa),b=zb3 n→endQ 0 (bl b) σ (fun r _=>AEnd.ret r=AEnd.ret (bl (zb3 n))):=fun b σ h=>zaq (by rw [h])
 refine⟨fun h=>fin _ _ ?_,fun h0=>⟨fun h=>⟨fun h'=>fin _ _ ?_,fun h'=>fin _ _ ?_⟩,fun h1=>⟨fun h=>fin _ _ ?_,fun h2=>⟨fun h=>fin _ _ ?_,fun h3=>⟨fun h=>⟨fun h'=>fin _ _ ?_,fun h'=>absurd h h'⟩,fun h4=>⟨fun h=>fin _ _ ?_,fun h5=>fin _ _ ?_⟩⟩⟩⟩⟩⟩
 rotate_right
 ·have:(decide (0≤n.kind) && decide (n.kind≤5))=false:=by
   rw [Bool.and_eq_false_iff,decide_eq_false_iff_not,decide_eq_false_iff_not]
   omega
  simp only [zb3,this,Bool.false_and]
 all_goals (simp only [zb3,wantN])
 all_goals (simp [h, *])
theorem zca (l:List Nd):(l.flatMap nC).length=l.length * 4:=by
 induction l with
 | nil=>rfl
 | cons a l ih=>rw [List.flatMap_cons,List.length_append,ih];simp [nC];omega
theorem ziU (l:List Nd) (k:Nat):(l.flatMap nC).drop (k * 4)=(l.drop k).flatMap nC:=by
 induction l generalizing k with
 | nil=>simp
 | cons a l ih =>
  cases k with
  | zero=>simp
  | succ k =>
   rw [List.flatMap_cons,List.drop_succ_cons,← ih,Nat.succ_mul,show k * 4+4=4+k * 4 by omega,List.drop_append]
   simp [nC]
theorem flatN_take (l:List Nd) (k:Nat):(l.flatMap nC).take (k * 4)=(l.take k).flatMap nC:=by
 induction l generalizing k with
 | nil=>simp
 | cons a l ih =>
  cases k with
  | zero=>simp
  | succ k =>
   rw [List.flatMap_cons,List.take_succ_cons,List.flatMap_cons,← ih,Nat.succ_mul,show k * 4+4=4+k * 4 by omega,List.take_append]
   simp only [show (nC a).length=4 from rfl,Nat.add_sub_cancel_left]
   rw [List.take_of_length_le (by simp only [show (nC a).length=4 from rfl];omega)]
section
variable {l : List Nd} {σ : zaa} {K : AV → Prop} {KS : AV → zaa → Prop} {t : TypeId} {id : Nat}
theorem ia_N (m:Nat) (k:Int):ia3 (some tyNd) (.sl (l.flatMap nC) m) k K=(0≤k∧k < m∧m * 4≤l.length * 4∧K (.rp ((l.drop k.toNat).flatMap nC))):=by
 have:=ziU l k.toNat
 simp only [ia3,tyNd,zca,this,Nat.zero_lt_succ,true_and]
theorem ld_N (k:Nat):ld2 (some tyNd) (some ((l.drop k).flatMap nC)) 0 K=(k < l.length∧K (nA (l.getD k n0d))):=by
 by_cases h:k < l.length
 ·rw [List.drop_eq_getElem_cons h,List.flatMap_cons]
  simp [ld2,wfin,tyNd,TD.agg,nC,nA,h]
  try (intro _;omega)
 ·rw [show l.drop k=[] from List.drop_eq_nil_of_le (by omega)]
  simp [ld2,wfin,tyNd,h]
theorem fa_N0 (ht:T t=some tyNd) (cs:List AV):zag T t (.rp cs) 0 K=K (.rp cs):=by simp [zag,ht,tyNd,T64,zaC]
theorem fa_N2 (ht:T t=some tyNd) (cs:List AV):zag T t (.rp cs) 2 K=K (.rp (cs.drop 2)):=by simp [zag,ht,tyNd,T9,zbf]
theorem fa_N3 (ht:T t=some tyNd) (cs:List AV):zag T t (.rp cs) 3 K=K (.rp (cs.drop 3)):=by simp [zag,ht,tyNd,T3,zaC]
theorem ldf_N0 (k:Nat):ld2 (some zaC) (some ((l.drop k).flatMap nC)) 0 K=(k < l.length∧K (i64 (l.getD k n0d).kind)):=by
 by_cases h:k < l.length
 ·rw [List.drop_eq_getElem_cons h,List.flatMap_cons]
  simp [ld2,wfin,zaC,TD.agg,nC,h]
  try (intro _;omega)
 ·rw [show l.drop k=[] from List.drop_eq_nil_of_le (by omega)]
  simp [ld2,wfin,zaC,h]
theorem ldf_N2 (k:Nat):ld2 (some zbf) (some (((l.drop k).flatMap nC).drop 2)) 0 K=(k < l.length∧K (str (l.getD k n0d).text)):=by
 by_cases h:k < l.length
 ·rw [List.drop_eq_getElem_cons h,List.flatMap_cons]
  simp [ld2,wfin,zbf,TD.agg,nC,h]
  try (intro _;omega)
 ·rw [show l.drop k=[] from List.drop_eq_nil_of_le (by omega)]
  simp [ld2,wfin,zbf,h]
theorem ldf_N3 (k:Nat):ld2 (some zaC) (some (((l.drop k).flatMap nC).drop 3)) 0 K=(k < l.length∧K (i64 (l.getD k n0d).kids)):=by
 by_cases h:k < l.length
 ·rw [List.drop_eq_getElem_cons h,List.flatMap_cons]
  simp [ld2,wfin,zaC,TD.agg,nC,h]
  try (intro _;omega)
 ·rw [show l.drop k=[] from List.drop_eq_nil_of_le (by omega)]
  simp [ld2,wfin,zaC,h]
def rdC (l:List Nd) (j n:Nat) (d:Int):List AV:=[.sl (l.flatMap nC) l.length,.ref j 0 n 1,i64 d]
theorem fa_r0 (ht:T t=some tyRd):zag T t (.ptr id 0) 0 K=K (.ptr id 0):=by simp [zag,ht,tyRd,T23,tySl]
theorem fa_r1 (ht:T t=some tyRd):zag T t (.ptr id 0) 1 K=K (.ptr id 1):=by simp [zag,ht,tyRd,T31,tySl]
theorem fa_r2 (ht:T t=some tyRd):zag T t (.ptr id 0) 2 K=K (.ptr id 2):=by simp [zag,ht,tyRd,T3,zaC]
theorem ld_r0 (e:TypeId) (j n:Nat) (d:Int):ld2 (some (tySl e)) (some (rdC l j n d)) 0 K=K (.sl (l.flatMap nC) l.length):=by simp [ld2,wfin,tySl,TD.agg,rdC]
theorem ld_r1 (e:TypeId) (j n:Nat) (d:Int):ld2 (some (tySl e)) (some (rdC l j n d)) 1 K=K (.ref j 0 n 1):=by simp [ld2,wfin,tySl,TD.agg,rdC]
theorem ld_r2 (j n:Nat) (d:Int):ld2 (some zaC) (some (rdC l j n d)) 2 K=K (i64 d):=by simp [ld2,wfin,zaC,TD.agg,rdC]
theorem al_r (e:TypeId):al1 T e (some tyRd) σ KS=KS (.ptr σ.length 0) (σ++[.rw [nilS,nilS,i64 0]]):=by
 simp [al1,tyRd,zaE,nilS,i64]
theorem bd_r (ht:T t=some tyRd) (cs:List AV) (m j n:Nat):zaY T t [(0,.sl cs m),(1,.ref j 0 n 1)] K=K (.agg [.sl cs m,.ref j 0 n 1,i64 0]):=by
 simp [zaY,ht,tyRd,T3,T31,T23,zbo,zaE,zjz,one_sl,cells_ref,one_ref,za0,zaC,tySl,i64]
theorem st_r (x y:AV) (cs:List AV) (m j n:Nat) (d:Int):st2 (some tyRd) (some (.rw [x,y,i64 0])) id 0 (.agg [.sl cs m,.ref j 0 n 1,i64 d]) σ KS=KS (.lit undef) (σ.set id (.rw [.sl cs m,.ref j 0 n 1,i64 d])):=by
 simp [st2,tyRd,AV.cells,one_sl,one_ref,zcE,za0]
end
theorem ia_ref_i64 (id off len:Nat) (n:Int) {K:AV→Prop}:ia3 (some zaC) (.ref id off len 1) n K=(0≤n∧n < len∧K (.ptr id (off+n.toNat))):=zjq zc4 _ _ _ _
theorem set_mapI (l:List Int) (k:Nat) (x:Int):(l.map i64).set k (i64 x)=(l.set k x).map i64:=by rw [List.map_set]
theorem bin_str_lss {t:TypeId} {K:AV→Prop} (a b:List UInt8):wbin T .lss t (str a) (str b) K=K (bl (Op.bytesLess a b)):=by simp [wbin,str,strV,bl]
theorem bin_str_leq {t:TypeId} {K:AV→Prop} (a b:List UInt8):wbin T .leq t (str a) (str b) K=K (bl (Op.bytesLess a b || decide (a=b))):=by simp [wbin,str,strV,bl]
theorem bin_str_geq {t:TypeId} {K:AV→Prop} (a b:List UInt8):wbin T .geq t (str a) (str b) K=K (bl (!Op.bytesLess a b)):=by simp [wbin,str,strV,bl]
theorem zcF (q:List Nat) (n:Nd):renL q (nC n)=some (nC n):=by simp only [nC,renL,zac,zaj,Option.map,bind,Option.bind,pure]
theorem ziV (q:List Nat) (n:Nd):(nA n).ren q=some (nA n):=by simp only [nA,AV.ren,zcF,Option.map]
theorem renL_app (q:List Nat):∀ (l m:List AV),renL q l=some l→renL q m=some m→renL q (l++m)=some (l++m)
 | [],m,_,h=>h
 | a::l,m,h1,h2=>by
  simp only [renL,Option.bind_eq_some_iff,Option.map_eq_some_iff] at h1
  obtain⟨a',h3,l',h4,h5⟩:=h1
  simp only [List.cons.injEq] at h5
  obtain⟨rfl,rfl⟩:=h5
  simp only [List.cons_append,renL,h3,renL_app q l' m h4 h2,Option.bind_some,Option.map_some]
theorem zai (q:List Nat):∀ l:List Nd,renL q (l.flatMap nC)=some (l.flatMap nC)
 | []=>rfl
 | a::l=>by rw [List.flatMap_cons];exact renL_app q _ _ (zcF q a) (zai q l)
theorem ren_slN (q:List Nat) (l:List Nd) (n:Nat):(AV.sl (l.flatMap nC) n).ren q=some (.sl (l.flatMap nC) n):=by simp only [AV.ren,zai,Option.map]
theorem zey (q:List Nat) (l:List Nd) (j n:Nat) (d:Int):renL q (rdC l j n d)=(q[j]?).map fun j'=>rdC l j' n d:=by
 simp only [rdC,renL,AV.ren,zai,zac,Option.map_some,Option.bind_some]
 cases q[j]? <;> rfl
theorem retQ_pan (rs : List ResultVar) (KK : AEnd → zaa → Prop) (n0 : Nat) (r : AV) (env : Env) (σ : zaa) : retQ T n0 rs KK (.pan r) env σ = endQ n0 r σ (fun r σ' => KK (.pan r) σ') := rfl
theorem set_r2 (l:List Nd) (j n:Nat) (d k:Int):(rdC l j n d).set 2 (i64 k)=rdC l j n k:=rfl
theorem len_rdC (l:List Nd) (j n:Nat) (d:Int):(rdC l j n d).length=3:=rfl
theorem mk_i64 {σ:zaa} {KS:AV→zaa→Prop} (l c:Int):mk2 (some zaC) l c σ KS=(0≤l∧l≤c∧c≤9223372036854775807∧c * (8:Nat)≤281474976710656∧KS (.ref σ.length 0 l.toNat 1) (σ++[.rw (List.replicate l.toNat (i64 0))])):=mk2_one zc4 _ _
theorem setp_2 (env:Env) (t u:Tmp) (a b:AV):setp env [t,u] [a,b]=(env.set t a).set u b:=rfl
theorem zcn (q:List Nat) (l:List Int):renL q (l.map i64)=some (l.map i64):=zam i64 zac q l
def leB (a b:List UInt8):Bool:=Op.bytesLess a b || decide (a=b)
def aftB (last:Option (List UInt8)) (t:List UInt8):Bool:=match last with
 | some s=>!leB t s
 | none=>true
theorem zgH {n:Nd} (h:zb3 n=true):0≤n.kids:=by
 simp only [zb3,Bool.and_eq_true,decide_eq_true_eq] at h
 have:=congrArg Nd.kids h.2
 rw [wantN] at this
 split at this
 ·split at this <;> simp only at this <;> omega
 ·split at this
  ·simp only at this;omega
  ·split at this
   ·simp only at this;omega
   ·split at this <;> simp only at this <;> omega
def zbn (V:Nat→Option (Nat × Nat)) (l:List Nd) (mp:Bool):Nat→Option (List UInt8)→Nat→Nat→Option (Nat × Nat)
 | 0,_,e,d=>some (e,d)
 | c+1,last,e,d =>
  if mp then
   match l[e]? with
   | some k=>if zb3 k && decide (k.kind=3) && aftB last k.text then
     match V (e+1) with
     | some r=>zbn V l mp c (some k.text) r.1 (max d r.2)
     | none=>none
    else none
   | none=>none
  else
   match V e with
   | some r=>zbn V l mp c last r.1 (max d r.2)
   | none=>none
def val (l:List Nd):Nat→Nat→Option (Nat × Nat)
 | 0,_=>none
 | f+1,at'=>match l[at']? with
  | some n=>if zb3 n then (zbn (val l f) l (decide (n.kind=5)) n.kids.toNat none (at'+1) 0).map fun r=>(r.1,r.2+1) else none
  | none=>none
theorem zcG {V:Nat→Option (Nat × Nat)} {l:List Nd} {mp:Bool} (hV:∀ e r,V e=some r→e < r.1∧r.1≤l.length):∀ (c:Nat) (last:Option (List UInt8)) (e d:Nat) (r:Nat × Nat),e≤l.length→zbn V l mp c last e d=some r→e≤r.1∧r.1≤l.length∧d≤r.2
 | 0,last,e,d,r,he,h=>by
  simp only [zbn,Option.some.injEq] at h
  subst h
  exact⟨Nat.le_refl _,he,Nat.le_refl _⟩
 | c+1,last,e,d,r,he,h=>by
  simp only [zbn] at h
  split at h
  ·split at h
   ·split at h
    ·split at h
     ·rename_i r' hr'
      have h1:=hV _ _ hr'
      have h2:=zcG hV c _ _ _ _ h1.2 h
      exact⟨by omega,h2.2.1,by omega⟩
     ·cases h
    ·cases h
   ·cases h
  ·split at h
   ·rename_i r' hr'
    have h1:=hV _ _ hr'
    have h2:=zcG hV c _ _ _ _ h1.2 h
    exact⟨by omega,h2.2.1,by omega⟩
   ·cases h
theorem val_le {l:List Nd}:∀ (f at':Nat) (r:Nat × Nat),val l f at'=some r→at' < r.1∧r.1≤l.length
 | 0,_,_,h=>by cases h
 | f+1,at',r,h=>by
  simp only [val] at h
  split at h
  ·rename_i n hn
   have hlt:=(List.getElem?_eq_some_iff.1 hn).1
   split at h
   ·rw [Option.map_eq_some_iff] at h
    obtain⟨q,h1,rfl⟩:=h
    have:=zcG (val_le (l:=l) f) _ _ _ _ _ (by omega) h1
    exact⟨by omega,this.2.1⟩
   ·cases h
  ·cases h
theorem zdx {V V':Nat→Option (Nat × Nat)} {l:List Nd} {mp:Bool} (hV:∀ e r,V e=some r→e < r.1) (a:Nat) (h:∀ e,a≤e→V e=V' e):∀ (c:Nat) (last:Option (List UInt8)) (e d:Nat),a≤e→zbn V l mp c last e d=zbn V' l mp c last e d
 | 0,_,_,_,_=>rfl
 | c+1,last,e,d,he=>by
  simp only [zbn]
  rw [← h e he,← h (e+1) (by omega)]
  have i1:∀ r,V (e+1)=some r→∀ last,zbn V l mp c last r.1 (max d r.2)=zbn V' l mp c last r.1 (max d r.2):=fun r hr last=>zdx hV a h c _ _ _ (by have:=hV _ _ hr;omega)
  have i2:∀ r,V e=some r→∀ last,zbn V l mp c last r.1 (max d r.2)=zbn V' l mp c last r.1 (max d r.2):=fun r hr last=>zdx hV a h c _ _ _ (by have:=hV _ _ hr;omega)
  cases h1:V (e+1) with
  | none=>cases h2:V e with
   | none=>rfl
   | some r=>simp only [i2 r h2]
  | some r'=>cases h2:V e with
   | none=>simp only [i1 r' h1]
   | some r=>simp only [i1 r' h1,i2 r h2]
theorem val_fuel {l:List Nd}:∀ (f f' at':Nat),l.length≤at'+f→l.length≤at'+f'→val l f at'=val l f' at'
 | 0,0,_,_,_=>rfl
 | 0,f'+1,at',h,_=>by
  have:l[at']?=none:=List.getElem?_eq_none (by omega)
  simp only [val,this]
 | f+1,0,at',_,h=>by
  have:l[at']?=none:=List.getElem?_eq_none (by omega)
  simp only [val,this]
 | f+1,f'+1,at',h,h'=>by
  simp only [val]
  cases hn:l[at']? with
  | none=>rfl
  | some n =>
   simp only
   rw [zdx (fun e r hr=>(val_le f e r hr).1) (at'+1) (fun e he=>val_fuel f f' e (by omega) (by omega)) _ _ _ _ (Nat.le_refl _)]
def vl (l:List Nd) (at':Nat):Option (Nat × Nat):=val l (l.length - at') at'
theorem zaR {l:List Nd} {at':Nat} {r:Nat × Nat} (h:vl l at'=some r):at' < r.1∧r.1≤l.length:=val_le _ _ _ h
theorem vl_eq (l:List Nd) (at':Nat):vl l at'=match l[at']? with
  | some n=>if zb3 n then (zbn (vl l) l (decide (n.kind=5)) n.kids.toNat none (at'+1) 0).map fun r=>(r.1,r.2+1) else none
  | none=>none:=by
 unfold vl
 cases hn:l[at']? with
 | none =>
  have:=List.getElem?_eq_none_iff.1 hn
  rw [show l.length - at'=0 by omega]
  rfl
 | some n =>
  have hlt:=(List.getElem?_eq_some_iff.1 hn).1
  rw [show l.length - at'=(l.length - at' - 1)+1 by omega]
  simp only [val,hn]
  rw [zdx (fun e r hr=>(val_le _ e r hr).1) (at'+1) (fun e he=>val_fuel _ (l.length - e) e (by omega) (by omega)) _ _ _ _ (Nat.le_refl _)]
def zdD (l:List Nd) (p:Nat):Int:=match vl l p with
 | some r=>r.1
 | none=>0
theorem zjA {l:List Nd} {p:Nat} {k:Nd} (hk:l[p]?=some k) (ha:zb3 k=true) (h3:k.kind=3):vl l p=some (p+1,1):=by
 rw [vl_eq,hk]
 have hkids:k.kids=0:=by
  simp only [zb3,Bool.and_eq_true,decide_eq_true_eq] at ha
  have:=congrArg Nd.kids ha.2
  rw [wantN] at this
  simpa [h3] using this
 simp only [ha,if_true,hkids,Int.toNat_zero,zbn,Option.map_some]
def updE (l:List Nd) (es:List Int) (a b:Nat):List Int:=es.mapIdx fun p x=>if a≤p∧p < b then zdD l p else x
theorem zdc (l:List Nd) (es:List Int) (a b:Nat):(updE l es a b).length=es.length:=by simp [updE]
theorem updE_none (l:List Nd) (es:List Int) (a:Nat):updE l es a a=es:=by
 apply List.ext_getElem? ;intro i
 simp only [updE,List.getElem?_mapIdx]
 rw [show (fun x=>if a≤i∧i < a then zdD l i else x)=(fun x:Int=>x) by funext x;rw [if_neg (by omega)]]
 simp
theorem zgI (l:List Nd) (es:List Int) {a b c:Nat} (h1:a≤b) (h2:b≤c):updE l (updE l es a b) b c=updE l es a c:=by
 apply List.ext_getElem? ;intro i
 simp only [updE,List.getElem?_mapIdx,Option.map_map]
 congr 1
 funext x
 simp only [Function.comp]
 by_cases h3:a≤i∧i < b
 ·rw [if_neg (by omega),if_pos h3,if_pos (by omega)]
 ·by_cases h4:b≤i∧i < c
  ·rw [if_pos h4,if_pos (by omega)]
  ·rw [if_neg h4,if_neg h3,if_neg (by omega)]
theorem updE_set (l:List Nd) (es:List Int) {a b:Nat} (h1:a < b):(updE l es (a+1) b).set a (zdD l a)=updE l es a b:=by
 apply List.ext_getElem? ;intro i
 rw [List.getElem?_set,zdc]
 simp only [updE,List.getElem?_mapIdx]
 by_cases h:a=i
 ·subst h
  by_cases hl:a < es.length
  ·simp [hl,h1]
  ·simp [hl]
 ·rw [if_neg h]
  congr 1
  funext x
  by_cases h3:a+1≤i∧i < b
  ·rw [if_pos h3,if_pos (by omega)]
  ·rw [if_neg h3,if_neg (by omega)]
set_option linter.defProp false in
def LB1:=And.intro @zjz (And.intro @box_n (And.intro @ld_n (And.intro (fun {K} {id}=>@fa_n0 K _ id T66) (And.intro (fun {K} {id}=>@fa_n1 K _ id T66) (And.intro (fun {K} {id}=>@fa_n2 K _ id T66) (And.intro (fun {K} {id}=>@fa_n3 K _ id T66) (And.intro @ld_n0 (And.intro @ld_n1 (And.intro @ld_n2 (And.intro @ld_n3 (And.intro @st_n (And.intro @st_n3 (And.intro @al_n (And.intro (fun {K}=>@bd_n0 K _ T66) (And.intro (fun {K}=>@bd_n02 K _ T66) (And.intro (fun {K}=>@bd_gu K _ T208) (And.intro @mkI2_gu (And.intro @bin_n_eql (And.intro @bin_n_neq (And.intro @set_n1 (And.intro @set_n2 (And.intro @set_n3 (And.intro @len_nC (And.intro (fun {K} {id}=>@fa_r0 K _ id T122) (And.intro (fun {K} {id}=>@fa_r1 K _ id T122) (And.intro (fun {K} {id}=>@fa_r2 K _ id T122) (And.intro @ld_r0 (And.intro @ld_r1 (And.intro @ld_r2 (And.intro (fun {K}=>@bd_r K _ T122) (And.intro @st_r (And.intro @al_r (And.intro @ia_N (And.intro @ld_N (And.intro @ia_ref_i64 (And.intro @ld_i64m (And.intro @set_mapI (And.intro (fun {K}=>@fa_N0 K _ T66) (And.intro (fun {K}=>@fa_N2 K _ T66) (And.intro (fun {K}=>@fa_N3 K _ T66) (And.intro @ldf_N0 (And.intro @ldf_N2 (And.intro @ldf_N3 (And.intro @retQ_pan (And.intro @set_r2 (And.intro @len_rdC (And.intro @bin_str_lss (And.intro @bin_str_geq (And.intro @bin_str_leq (And.intro @recQ_ret (And.intro @recQ_pan (And.intro @mk_i64 (And.intro @setp_2 (And.intro @wres_nil (And.intro @wres_cell (And.intro @wres_tmp (And.intro @packR_1 (And.intro @packR_2 (And.intro @packR_3 (And.intro @retQ_wres (And.intro @endD_normal (And.intro @st_nilc (And.intro @st_slsc (And.intro @box_slc (And.intro @box_refc (And.intro @al_i64 (And.intro @al_sl (And.intro @st_slc (And.intro @ld_i64 (@ld_sl1))))))))))))))))))))))))))))))))))))))))))))))))))))))))))))))))))))))
set_option linter.defProp false in
def LM8:=And.intro LB0 (LB1)
def gu:AV:=.ifc 208 (.agg [])
theorem zgc (q:List Nat):gu.ren q=some gu:=rfl
def zbh (l:List Nd) (p:Nat):Option Nd:=match l[p]? with
 | some n=>if zb3 n then some n else none
 | none=>none
def zfH (l:List Nd) (p:Nat):AEnd:=match zbh l p with
 | some n=>.ret (nA n)
 | none=>.pan gu
abbrev rdS (l:List Nd) (es:List Int) (d:Int):zaa:=[.rw (rdC l 1 l.length d),.rw (es.map i64)]
theorem zfI {l:List Nd} {es:List Int} {d:Int} {r:AV} {junk:zaa} {K:AV→zaa→Prop} (hr:r.ren [0,1]=some r) (h:K r (rdS l es d)):endQ 2 r (.rw (rdC l 1 l.length d)::.rw (es.map i64)::junk) K:=by
 refine .inl ⟨[0,1],r,rdS l es d,rfl,rfl,by decide,hr,?_,h⟩
 simp [zaw,zar,zey,zcn]
theorem node_ok (l:List Nd) (es:List Int) (d:Int) (p:Nat) (hl:l.length≤1000) (hp:p≤1000):ACalls Tryz.prog 114 [.ptr 0 0,i64 p] (rdS l es d) (fun y σ=>y=zfH l p∧σ=rdS l es d):=by
 refine ACalls.body T_ok Tryz.func114 (by kernel_rfl) rfl Tryz.ntmps114 (congrArg Array.toList Tryz.results114) ?_
 refine aQ17 ?_
 by_cases h:l.length≤p
 ·rw [decide_eq_true (by omega:(l.length:Int)≤p)]
  refine aQ17 ?_
  have hn:zfH l p=.pan gu:=by
   simp only [zfH,zbh,List.getElem?_eq_none h]
  rw [hn]
  exact zfI (zgc _) ⟨rfl,rfl⟩
 ·rw [decide_eq_false (by omega:¬ (l.length:Int)≤p)]
  refine aQ17 ?_
  repeat (with_reducible refine zbg ?_)
  refine(alone_ok (l.getD p n0d)).pure aQ1 ?_
  rintro _ σ rfl
  refine⟨by first | rfl | simp [AEnd.noid,AV.ren,renL,zcs,zam str zaj,zcO,zbY,zbt,zac,zay,zaj],?_⟩
  refine aQ17 ?_
  have hg:l[p]?=some (l.getD p n0d):=by
   rw [List.getElem?_eq_getElem (by omega)]
   simp [show p < l.length by omega]
  cases ha:zb3 (l.getD p n0d) with
  | true =>
   refine aQ17 ?_
   repeat (with_reducible refine zbg ?_)
   have hn:zfH l p=.ret (nA (l.getD p n0d)):=by
    simp only [zfH,zbh,hg,ha,if_true]
   rw [hn]
   exact zfI (ziV _ _) ⟨rfl,rfl⟩
  | false =>
   refine aQ17 ?_
   have hn:zfH l p=.pan gu:=by
    simp only [zfH,zbh,hg,ha,Bool.false_eq_true,if_false]
   rw [hn]
   exact zfI (zgc _) ⟨rfl,rfl⟩
def keyK (l:List Nd) (es:List Int) (d:Int) (p:Nat) (first:Bool) (last:List UInt8):AEnd→zaa→Prop:=fun y σ =>
 match zbh l p with
 | some n=>if n.kind=3∧(first=true∨leB n.text last=false) then y=.ret (str n.text)∧σ=rdS l (es.set p (p+1)) d else y=.pan gu∧σ=rdS l es d
 | none=>y=.pan gu∧σ=rdS l es d
theorem za3 {l:List Nd} {p:Nat} {n:Nd} (h:zbh l p=some n):p < l.length∧l[p]?=some n∧zb3 n=true:=by
 unfold zbh at h
 split at h
 ·rename_i n' hn
  split at h
  ·rename_i ha
   cases h
   exact⟨(List.getElem?_eq_some_iff.1 hn).1,hn,ha⟩
  ·cases h
 ·cases h
theorem zjB {f:FuncId} {ags:List AV} {l:List Nd} {es:List Int} {d:Int} {n:Nd} {K K0:AEnd→zaa→Prop} (h:ACalls Tryz.prog f ags (rdS l es d) K0) (has:renL [0,1] ags=some ags)
  (hk:∀ y σ,K0 y σ→∃ es' d',σ=rdS l es' d'∧AEnd.ren [0,1,2] y y∧K y [.rw (rdC l 1 l.length d'),.rw (es'.map i64),.rw (nC n)]):ACalls Tryz.prog f ags [.rw (rdC l 1 l.length d),.rw (es.map i64),.rw (nC n)] K:=by
 refine ACalls.frame [0,1] h rfl (by decide) (by simp [zaw,zar,zey,zcn]) has ?_
 rintro y σ hy
 obtain⟨es',d',rfl,hr,hK⟩:=hk y σ hy
 refine⟨y,_,?_,hr,hK⟩
 show zbH _ _ [0,1,2] [0,1,2] 0 _
 simp [zbH,zar,zey,zcn,zcF]
theorem key_ok (l:List Nd) (es:List Int) (d:Int) (p:Nat) (first:Bool) (last:List UInt8) (hl:l.length≤1000) (hp:p≤1000) (he:es.length=l.length):ACalls Tryz.prog 115 [.ptr 0 0,i64 p,bl first,str last] (rdS l es d) (keyK l es d p first last):=by
 refine ACalls.body T_ok Tryz.func115 (by kernel_rfl) rfl Tryz.ntmps115 (congrArg Array.toList Tryz.results115) ?_
 refine aQ17 ?_
 refine(node_ok l es d p hl hp).mono ?_
 rintro y σ ⟨rfl,rfl⟩
 cases hn:zbh l p with
 | none =>
  have hnk:zfH l p=.pan gu:=by simp only [zfH,hn]
  rw [hnk]
  refine aQ17 ?_
  exact zas (by simp only [keyK,hn];exact⟨trivial,trivial⟩)
 | some n =>
  have hnk:zfH l p=.ret (nA n):=by simp only [zfH,hn]
  obtain⟨hlt,hget,ha⟩:=za3 hn
  rw [hnk]
  refine aQ17 ?_
  have bad : ¬ (n.kind = 3 ∧ (first = true ∨ leB n.text last = false)) → endQ 2 gu [.rw (rdC l 1 l.length d), .rw (es.map i64), .rw (nC n)] (fun r σ' => keyK l es d p first last (.pan r) σ') := fun hb =>
   zfI (zgc _) (by simp only [keyK,hn,if_neg hb];exact⟨trivial,trivial⟩)
  have good : (n.kind = 3 ∧ (first = true ∨ leB n.text last = false)) → endQ 2 (str n.text) [.rw (rdC l 1 l.length d), .rw ((es.set p (p + 1)).map i64), .rw (nC n)] (fun r σ' => keyK l es d p first last (.ret r) σ') := fun hb =>
   zfI (zaj _ _) (by simp only [keyK,hn,if_pos hb];exact⟨trivial,trivial⟩)
  by_cases h3:n.kind=3
  ·rw [decide_eq_true h3]
   refine aQ17 ?_
   cases first with
   | true =>
    refine aQ17 ?_
    repeat (with_reducible refine zbg ?_)
    exact good ⟨h3,.inl rfl⟩
   | false =>
    refine aQ17 ?_
    have e:(Op.bytesLess n.text last || decide (n.text=last))=leB n.text last:=rfl
    rw [e]
    cases hle:leB n.text last with
    | true =>
     refine aQ17 ?_
     exact bad (by simp [hle])
    | false =>
     refine aQ17 ?_
     repeat (with_reducible refine zbg ?_)
     exact good ⟨h3,.inr hle⟩
  ·rw [decide_eq_false h3]
   refine aQ17 ?_
   exact bad (fun h=>h3 h.1)
def zg0 (l:List Nd) (es:List Int) (d:Int) (p:Nat) (depth:Int):AEnd→zaa→Prop:=fun y σ =>
 match vl l p with
 | some r=>y=.ret (i64 r.1)∧σ=rdS l (updE l es p r.1) (max d (depth+r.2 - 1))
 | none=>y=.pan gu∧∃ es' d',es'.length=es.length∧σ=rdS l es' d'
def zgJ (d depth:Int) (dk:Nat):Int:=max (max d depth) (depth+dk)
def zc3 (mp:Bool) (k:Nat) (last:List UInt8):Option (List UInt8):=if mp && decide (0 < k) then some last else none
theorem zcH {V:Nat→Option (Nat × Nat)} {l:List Nd} {c:Nat} {last:Option (List UInt8)} {e d:Nat}:zbn V l true (c+1) last e d=match zbh l e with
  | some n=>if n.kind=3∧aftB last n.text=true then (match V (e+1) with | some r=>zbn V l true c (some n.text) r.1 (max d r.2) | none=>none) else none
  | none=>none:=by
 simp only [zbn,zbh,if_true]
 cases l[e]? with
 | none=>rfl
 | some n =>
  simp only
  cases zb3 n with
  | false=>simp
  | true =>
   simp only [reduceIte,Bool.true_and]
   by_cases h3:n.kind=3 <;> by_cases hb:aftB last n.text=true
   ·rw [if_pos (⟨h3,hb⟩:n.kind=3∧aftB last n.text=true)]
    simp only [h3,decide_true,hb,Bool.and_self,if_true]
    try (cases V (e+1) <;> rfl)
   ·rw [if_neg (fun h:n.kind=3∧aftB last n.text=true=>hb h.2)]
    simp [hb]
   ·rw [if_neg (fun h:n.kind=3∧aftB last n.text=true=>h3 h.1)]
    simp [h3]
   ·rw [if_neg (fun h:n.kind=3∧aftB last n.text=true=>h3 h.1)]
    simp [h3]
theorem zce {V:Nat→Option (Nat × Nat)} {l:List Nd} {c:Nat} {last:Option (List UInt8)} {e d:Nat}:zbn V l false (c+1) last e d=match V e with | some r=>zbn V l false c last r.1 (max d r.2) | none=>none:=by
 simp only [zbn,Bool.false_eq_true,if_false]
 try (cases V e <;> rfl)
theorem updE_key {l:List Nd} {es:List Int} {e:Nat} {k:Nd} (hk:zbh l e=some k) (h3:k.kind=3):es.set e ((e:Int)+1)=updE l es e (e+1):=by
 obtain⟨_,h1,h2⟩:=za3 hk
 have he:zdD l e=(e:Int)+1:=by
  simp only [zdD,zjA h1 h2 h3]
  omega
 have:=updE_set l es (a:=e) (b:=e+1) (by omega)
 rw [updE_none,he] at this
 exact this
theorem zdy {l:List Nd} {p:Nat}:vl l p=match zbh l p with
  | some n=>(zbn (vl l) l (decide (n.kind=5)) n.kids.toNat none (p+1) 0).map fun r=>(r.1,r.2+1)
  | none=>none:=by
 rw [vl_eq,zbh]
 cases l[p]? with
 | none=>rfl
 | some n=>cases h:zb3 n <;> simp [h]
theorem value_ok (l:List Nd) (hl:l.length≤120):∀ (m p:Nat) (depth:Int) (es:List Int) (d:Int),l.length - p=m→p≤l.length→0≤depth→depth≤p+1→es.length=l.length →
  ACalls Tryz.prog 73 [.ptr 0 0,i64 p,i64 depth] (rdS l es d) (zg0 l es d p depth):=by
 intro m
 induction m using Nat.strongRecOn with
 | _ m ih =>
 intro p depth es d hm hp hd0 hd he
 refine ACalls.body T_ok Tryz.func73 (by kernel_rfl) rfl Tryz.ntmps73 (congrArg Array.toList Tryz.results73) ?_
 refine aQ17 ?_
 refine(node_ok l es d p (by omega) (by omega)).mono ?_
 rintro y σ ⟨rfl,rfl⟩
 cases hn:zbh l p with
 | none =>
  have hnk:zfH l p=.pan gu:=by simp only [zfH,hn]
  rw [hnk]
  refine aQ17 ?_
  refine zas ?_
  simp only [zg0,zdy,hn]
  exact⟨trivial,es,d,rfl,rfl⟩
 | some n =>
  have hnk:zfH l p=.ret (nA n):=by simp only [zfH,hn]
  obtain⟨hlt,hget,ha⟩:=za3 hn
  rw [hnk]
  refine aQ17 ?_
  repeat (with_reducible refine zbg ?_)
  have hk0:=zgH ha
  obtain⟨c,hc⟩:∃ c,n.kids.toNat=c:=⟨_,rfl⟩
  have hkc:n.kids=c:=by omega
  obtain⟨mp,hmp⟩:∃ mp,decide (n.kind=5)=mp:=⟨_,rfl⟩
  obtain⟨R,hR⟩:∃ R,zbn (vl l) l mp c none (p+1) 0=R:=⟨_,rfl⟩
  have hvl:vl l p=R.map fun r=>(r.1,r.2+1):=by rw [zdy,hn];simp only [hmp,hc,hR]
  have fail : ∀ (es' : List Int) (d' : Int), es'.length = es.length → R = none → endQ 2 gu [.rw (rdC l 1 l.length d'), .rw (es'.map i64), .rw (nC n)] (fun r σ' => zg0 l es d p depth (.pan r) σ') := fun es' d' he' hRn =>
   zfI (zgc _) (by simp only [zg0,hvl,hRn,Option.map_none];exact⟨trivial,es',d',he',rfl⟩)
  rw [zaK]
  refine⟨Nat × List UInt8 × Nat × Nat,fun i=>i.1≤c∧p+1+i.1≤i.2.2.1∧i.2.2.1≤l.length∧R=zbn (vl l) l mp (c - i.1) (zc3 mp i.1 i.2.1) i.2.2.1 i.2.2.2,fun i=>[.ptr 0 0,i64 p,i64 depth,.bot,.bot,.bot,i64 0,.ptr 2 0,i64 i.2.2.1,str i.2.1,.bot,.bot,.bot,.bot,.bot,.bot,.bot,.bot,.bot,.bot,.bot,.bot,.bot,.bot,.bot,.bot,i64 c,i64 i.1,.bot,.bot,.bot,.bot,.bot,.bot,.bot,.bot,.bot,.bot,.bot,.bot,.bot,.bot,.bot,.bot,.bot,.bot,.bot,.bot,.bot,.bot,.bot,.bot,.bot,.bot,.bot],fun i=>[.rw (rdC l 1 l.length (zgJ d depth i.2.2.2)),.rw ((updE l es (p+1) i.2.2.1).map i64),.rw (nC n)],fun i=>c - i.1,(0,[],p+1,0),⟨Nat.zero_le _,(by show p+1+0≤p+1;omega),by (show p+1≤l.length);omega,by simp [zc3,hR]⟩,?_,?_⟩
  ·simp only [zgJ,updE_none]
   rw [show max (max d depth) (depth+(0:Nat))=max d depth by omega,hkc]
   refine zab (q:=[0,1,2]) rfl rfl (by decide) ?_ ?_
   ·refine aQ18 ?_
    try simp
   ·refine aQ18 ?_
    simp [zaw,zar,zey,zcn,zcF]
  rintro⟨k,last,e,dk⟩ ⟨hk,hpe,hel,hinv⟩
  dsimp only at hk hpe hel hinv ⊢
  refine aQ17 ?_
  refine⟨fun hlt=>⟨fun h5=>?_,fun h5=>?_⟩,fun hge=>?_⟩
  ·have hmpv:mp=true:=by rw [← hmp];exact decide_eq_true h5
   have hck:c - k=(c - k - 1)+1:=by omega
   rw [hmpv,hck,zcH] at hinv
   refine zjB (key_ok l (updE l es (p+1) e) (zgJ d depth dk) e (decide ((k:Int)=0)) last (by omega) (by omega) (by simp [zdc,he])) (by simp [renL,AV.ren,zac,zay,zaj]) ?_
   intro y σ hy
   unfold keyK at hy
   cases hne:zbh l e with
   | none =>
    rw [hne] at hy hinv
    obtain⟨rfl,rfl⟩:=hy
    refine⟨_,_,rfl,zgc _,?_⟩
    refine aQ17 ?_
    exact fail _ _ (by simp [zdc]) hinv
   | some k' =>
    rw [hne] at hy hinv
    dsimp only at hy hinv
    have hcond:aftB (zc3 true k last) k'.text=true ↔ (decide ((k:Int)=0)=true∨leB k'.text last=false):=by
     simp only [zc3,Bool.true_and,decide_eq_true_eq]
     by_cases hk0:k=0
     ·simp [hk0,aftB]
     ·have hkp:0 < k:=by omega
      simp only [hkp,if_true,aftB,Bool.not_eq_true',show ¬ (k:Int)=0 by omega,false_or]
    simp only [hcond] at hinv
    by_cases hb:k'.kind=3∧(decide ((k:Int)=0)=true∨leB k'.text last=false)
    rotate_left
    ·rw [if_neg hb] at hy hinv
     obtain⟨rfl,rfl⟩:=hy
     refine⟨_,_,rfl,zgc _,?_⟩
     refine aQ17 ?_
     exact fail _ _ (by simp [zdc]) hinv
    rw [if_pos hb] at hy hinv
    obtain⟨rfl,rfl⟩:=hy
    have hel':=(za3 hne).1
    have e0:=updE_key (es:=updE l es (p+1) e) hne hb.1
    rw [e0,zgI l es (by omega) (by omega)]
    refine⟨_,_,rfl,zaj _ _,?_⟩
    refine aQ17 ?_
    repeat (with_reducible refine zbg ?_)
    rw [show (e:Int)+1=((e+1:Nat):Int) from rfl]
    refine zjB (ih (l.length - (e+1)) (by omega) (e+1) (depth+1) (updE l es (p+1) (e+1)) (zgJ d depth dk) rfl (by omega) (by omega) (by omega) (by simp [zdc,he])) (by simp [renL,AV.ren,zac]) ?_
    intro y σ hy
    unfold zg0 at hy
    cases hv:vl l (e+1) with
    | none =>
     rw [hv] at hy
     obtain⟨rfl,es',d',he',rfl⟩:=hy
     refine⟨es',d',rfl,zgc _,?_⟩
     refine aQ17 ?_
     exact fail _ _ (by rw [he'];simp [zdc]) (by rw [hv] at hinv;dsimp only at hinv;rw [hinv])
    | some r =>
     rw [hv] at hy
     obtain⟨rfl,rfl⟩:=hy
     have hrl:=zaR hv
     refine⟨_,_,rfl,zac _ _,?_⟩
     refine aQ17 ?_
     repeat (with_reducible refine zbg ?_)
     rw [zad]
     refine⟨(k+1,k'.text,r.1,max dk r.2),⟨by (show k+1≤c);omega,by (show p+1+(k+1)≤r.1);omega,hrl.2,?_⟩,by (show c - (k+1) < c - k);omega,?_⟩
     ·dsimp only
      rw [hv] at hinv;dsimp only at hinv;rw [hinv]
      simp only [zc3,hmpv,show c - k - 1=c - (k+1) by omega]
      try simp
     ·have e1:max (zgJ d depth dk) (depth+1+(r.2:Int) - 1)=zgJ d depth (max dk r.2):=by simp only [zgJ];omega
      have e2:updE l (updE l es (p+1) (e+1)) (e+1) r.1=updE l es (p+1) r.1:=by exact zgI l es (by omega) (by omega)
      rw [e1,e2]
      refine zab (q:=[0,1,2]) rfl rfl (by decide) ?_ ?_
      ·refine aQ18 ?_
       try simp
      ·refine aQ18 ?_
       simp [zaw,zar,zey,zcn,zcF]
  ·have hmpv:mp=false:=by rw [← hmp];exact decide_eq_false h5
   have hck:c - k=(c - k - 1)+1:=by omega
   rw [hmpv,hck,zce] at hinv
   repeat (with_reducible refine zbg ?_)
   refine zjB (ih (l.length - (e)) (by omega) (e) (depth+1) (updE l es (p+1) e) (zgJ d depth dk) rfl (by omega) (by omega) (by omega) (by simp [zdc,he])) (by simp [renL,AV.ren,zac]) ?_
   intro y σ hy
   unfold zg0 at hy
   cases hv:vl l (e) with
   | none =>
    rw [hv] at hy
    obtain⟨rfl,es',d',he',rfl⟩:=hy
    refine⟨es',d',rfl,zgc _,?_⟩
    refine aQ17 ?_
    exact fail _ _ (by rw [he'];simp [zdc]) (by rw [hv] at hinv;dsimp only at hinv;rw [hinv])
   | some r =>
    rw [hv] at hy
    obtain⟨rfl,rfl⟩:=hy
    have hrl:=zaR hv
    refine⟨_,_,rfl,zac _ _,?_⟩
    refine aQ17 ?_
    repeat (with_reducible refine zbg ?_)
    rw [zad]
    refine⟨(k+1,last,r.1,max dk r.2),⟨by (show k+1≤c);omega,by (show p+1+(k+1)≤r.1);omega,hrl.2,?_⟩,by (show c - (k+1) < c - k);omega,?_⟩
    ·dsimp only
     rw [hv] at hinv;dsimp only at hinv;rw [hinv]
     simp only [zc3,hmpv,show c - k - 1=c - (k+1) by omega]
     try simp
    ·have e1:max (zgJ d depth dk) (depth+1+(r.2:Int) - 1)=zgJ d depth (max dk r.2):=by simp only [zgJ];omega
     have e2:updE l (updE l es (p+1) e) (e) r.1=updE l es (p+1) r.1:=by exact zgI l es (by omega) (by omega)
     rw [e1,e2]
     refine zab (q:=[0,1,2]) rfl rfl (by decide) ?_ ?_
     ·refine aQ18 ?_
      try simp
     ·refine aQ18 ?_
      simp [zaw,zar,zey,zcn,zcF]
  ·have hck:c - k=0:=by omega
   rw [hck] at hinv
   simp only [zbn] at hinv
   have hend:zdD l p=e:=by simp only [zdD,hvl,hinv,Option.map_some]
   refine aQ17 ?_
   repeat (with_reducible refine zbg ?_)
   have e1:=updE_set l es (a:=p) (b:=e) (by omega)
   rw [hend] at e1
   refine⟨by simp [zdc];omega,?_⟩
   rw [e1]
   refine zfI (zac _ _) ?_
   simp only [zg0,hvl,hinv,Option.map_some]
   have e2:zgJ d depth dk=max d (depth+((dk+1:Nat):Int) - 1):=by simp only [zgJ];omega
   rw [e2]
   exact⟨trivial,rfl⟩
set_option linter.defProp false in
def LB2:=And.intro @leI_nil (And.intro @leI_bot (And.intro @leI_same (@leI_cons)))
theorem long1_ok (n:Nd):ACalls Tryz.prog 71 [nA n] [] (fun y _=>y=.ret (bl (decide (120 < n.text.length)))):=by
 refine ACalls.body T_ok Tryz.func71 (by kernel_rfl) rfl Tryz.ntmps71 (congrArg Array.toList Tryz.results71) ?_
 refine aQ17 ?_
 refine zaq ?_
 rw [show decide ((120:Int) < n.text.length)=decide (120 < n.text.length) from decide_eq_decide.2 (by omega)]
theorem indexN_ok (l:List Nd) (hl:l.length≤1000000):ACalls Tryz.prog 113 [.sl (l.flatMap nC) l.length,.fn (.func 71) [] []] [] (fun y _=>∃ k:Int,y=.ret (i64 k)∧(0≤k ↔ ∃ n∈l,120 < n.text.length)):=by
 refine ACalls.body T_ok Tryz.func113 (by kernel_rfl) rfl Tryz.ntmps113 (congrArg Array.toList Tryz.results113) ?_
 refine aQ17 ?_
 rw [zaK]
 refine⟨Nat,fun k=>k≤l.length∧∀ n∈l.take k,¬ 120 < n.text.length,fun k=>[.sl (l.flatMap nC) l.length,.fn (.func 71) [] [],.bot,.bot,i64 0,.bot,.sl (l.flatMap nC) l.length,i64 l.length,i64 k,.bot,.bot,.bot,.bot,.bot,.bot,.bot,.bot,.bot,.bot],fun _=>[],fun k=>l.length - k,0,⟨Nat.zero_le _,by simp⟩,?_,?_⟩
 ·refine zab (q:=[]) rfl rfl (by decide) ?_ ?_
  ·refine aQ18 ?_
   simp [zai,AV.ren,renL]
  ·first|exact aQ18 trivial|refine aQ18 ?_
 ·rintro k ⟨hk,hno⟩
  refine aQ17 ?_
  refine⟨fun hlt=>?_,fun hge=>?_⟩
  ·repeat (with_reducible refine zbg ?_)
   have hlk:k < l.length:=by omega
   have hg:l.getD k n0d=l[k]:=by simp [hlk]
   refine(long1_ok (l.getD k n0d)).pure aQ1 ?_
   rintro _ σ rfl
   refine⟨by first | rfl | simp [AEnd.noid,AV.ren,renL,zcs,zam str zaj,zcO,zbY,zbt,zac,zay,zaj],?_⟩
   refine aQ17 ?_
   refine⟨fun hlong=>?_,fun hlong=>?_⟩
   ·exact zap ⟨k,rfl,fun _=>⟨l.getD k n0d,by rw [hg];exact List.getElem_mem _,hlong⟩,fun _=>by omega⟩
   ·repeat (with_reducible refine zbg ?_)
    rw [zad]
    refine⟨k+1,⟨by omega,?_⟩,by (show l.length - (k+1) < l.length - k);omega,zab (q:=[]) rfl rfl (by decide) ?_ ?_⟩
    ·intro n hn
     rw [List.take_succ_eq_append_getElem hlk,List.mem_append,List.mem_singleton] at hn
     rcases hn with hn | rfl
     ·exact hno n hn
     ·rw [← hg];exact hlong
    ·refine aQ18 ?_
     simp [zai,AV.ren,renL]
    ·first|exact aQ18 trivial|refine aQ18 ?_
  ·refine aQ17 ?_
   refine zap ⟨-1,rfl,fun h=>by omega,?_⟩
   rintro⟨n,hn,h⟩
   rw [List.take_of_length_le (by omega)] at hno
   exact absurd h (hno n hn)
def zck (l:List Nd):Bool:=l.any fun n=>decide (120 < n.text.length)
theorem containsN_ok (l:List Nd) (hl:l.length≤1000000):ACalls Tryz.prog 70 [.sl (l.flatMap nC) l.length,.fn (.func 71) [] []] [] (fun y _=>y=.ret (bl (zck l))):=by
 refine ACalls.body T_ok Tryz.func70 (by kernel_rfl) rfl Tryz.ntmps70 (congrArg Array.toList Tryz.results70) ?_
 refine aQ17 ?_
 refine(indexN_ok l hl).pure (by simp [renL,AV.ren,zai]) ?_
 rintro _ σ ⟨k,rfl,hk⟩
 refine⟨zac _ _,?_⟩
 refine aQ17 ?_
 have e:decide (0≤k)=zck l:=by
  rw [Bool.eq_iff_iff,decide_eq_true_eq,hk,zck,List.any_eq_true]
  simp
 rw [e]
 exact zaq rfl
def zau (l:List Nd):Int :=
 if 120 < l.length∨zck l=true then 4 else
 match vl l 0 with
 | some r=>if r.1=l.length then (if 32 < r.2 then 3 else 0) else 1
 | none=>1
def zdP (l:List Nd):List Int:=(List.range l.length).map (zdD l)
def readK (l:List Nd):AEnd→zaa→Prop:=fun y σ =>
 if zau l=0 then ∃ r,vl l 0=some r∧r.1=l.length∧r.2≤32∧y=.ret (.tup [.ref 0 0 l.length 1,i64 r.2,i64 0])∧σ=[.rw ((zdP l).map i64)]
 else y=.ret (.tup [.lit (.slice none 0 0),i64 0,i64 (zau l)])∧σ=[]
theorem recN_ok (a b c:AV) (σ:zaa) (K:zaa→Prop) (h:K (.rw [a]::.rw [b]::.rw [c]::σ)):DCalls Tryz.prog 72 [.ptr 0 0,.ptr 1 0,.ptr 2 0] (.rw [a]::.rw [b]::.rw [c]::σ) none K:=by
 refine DCalls.body (b:=false) T_ok Tryz.func72 rfl Tryz.ntmps72 Tryz.results72 rfl ?_ ?_
 ·refine aQ17 ?_
  exact⟨rfl,rfl,rfl⟩
 ·refine aQ17 ?_
  exact h
theorem recP_ok (a b c:AV) (σ:zaa) (K:zaa→Prop) (h:K (.rw [.lit (.slice none 0 0)]::.rw [i64 0]::.rw [i64 1]::σ)):DCalls Tryz.prog 72 [.ptr 0 0,.ptr 1 0,.ptr 2 0] (.rw [a]::.rw [b]::.rw [c]::σ) (some gu) K:=by
 refine DCalls.body (b:=true) T_ok Tryz.func72 rfl Tryz.ntmps72 Tryz.results72 rfl ?_ ?_
 ·refine aQ17 ?_
  exact⟨rfl,rfl,rfl⟩
 ·refine aQ17 ?_
  exact h
def readT:Tr:=(.br 0 (.br 1 (.br 2 (.br 3 (.br 4 (.br 5 (.br 6 .done .nil) .nil) .nil) (.br 4 (.br 3 (.br 5 (.br 6 .done .nil) .nil) .nil) .nil)) (.br 4 (.br 2 (.br 3 (.br 5 (.br 6 .done .nil) .nil) .nil) .nil) .nil)) (.br 2 (.br 1 (.br 3 (.br 4 (.br 5 (.br 6 .done .nil) .nil) .nil) (.br 4 (.br 3 (.br 5 (.br 6 .done .nil) .nil) .nil) .nil)) (.br 3 (.br 1 (.br 4 (.br 5 (.br 6 .done .nil) .nil) .nil) .nil) .nil)) .nil)) (.br 2 (.br 0 (.br 1 (.br 3 (.br 4 (.br 5 (.br 6 .done .nil) .nil) .nil) (.br 4 (.br 3 (.br 5 (.br 6 .done .nil) .nil) .nil) .nil)) (.br 3 (.br 1 (.br 4 (.br 5 (.br 6 .done .nil) .nil) .nil) .nil) .nil)) (.br 3 (.br 0 (.br 1 (.br 4 (.br 5 (.br 6 .done .nil) .nil) .nil) .nil) .nil) .nil)) .nil))
theorem read_ok (l:List Nd) (hl:l.length≤1000000):ACalls Tryz.prog 37 [.sl (l.flatMap nC) l.length] [] (readK l):=by
 refine ACalls.bodyD T_ok Tryz.func37 (by kernel_rfl) rfl Tryz.ntmps37 (congrArg Array.toList Tryz.results37) ?_
 rw [WD_none rfl]
 refine aQ17 ?_
 rw [WD_none rfl]
 refine aQ17 ?_
 have err : ∀ (e : Int) (σ : zaa), zau l = e → e ≠ 0 → endQ 0 (.tup [.lit (.slice none 0 0), i64 0, i64 e]) σ (fun r σ' => readK l (.ret r) σ') := fun e σ h1 h2 =>
  zaF (by simp [AV.ren,renL,zac]) (by simp only [readK,h1,if_neg h2];exact⟨trivial,trivial⟩)
 by_cases hlen:120 < l.length
 ·rw [decide_eq_true (by omega:(120:Int) < l.length)]
  refine aQ17 ?_
  exact err 4 _ (by simp [zau,hlen]) (by decide)
 rw [decide_eq_false (by omega:¬ (120:Int) < l.length)]
 refine aQ17 ?_
 refine(containsN_ok l hl).pure (by simp [renL,AV.ren,zai]) ?_
 rintro _ σ rfl
 refine⟨zay _ _,?_⟩
 refine aQ17 ?_
 cases hany:zck l with
 | true =>
  refine aQ17 ?_
  exact err 4 _ (by simp [zau,hany]) (by decide)
 | false =>
  refine aQ17 ?_
  rw [WD_some rfl]
  refine aQ17 ?_
  refine⟨by kernel_rfl,?_⟩
  refine aQ17 ?_
  repeat (with_reducible refine zbg ?_)
  rw [show List.replicate l.length (i64 0)=(List.replicate l.length (0:Int)).map i64 by simp,show [AV.sl (l.flatMap nC) l.length,.ref 3 0 l.length 1,i64 0]=rdC l 3 l.length 0 from rfl]
  refine ACalls.frame [4,3] (value_ok l (by omega) (l.length - 0) 0 1 (List.replicate l.length 0) 0 rfl (by omega) (by omega) (by omega) (by simp)) rfl (by decide) (by simp [zaw,zar,zey,zcn,-List.map_replicate]) (by simp [renL,AV.ren,zac]) ?_
  have kf:∀ es' d',zbH [Blk.rw [AV.lit (Value.slice none 0 0)],Blk.rw [i64 0],Blk.rw [i64 0],Blk.rw ((List.replicate l.length (0:Int)).map i64),Blk.rw (rdC l 3 l.length 0)] (rdS l es' d') [2,2,2,1,0] [2,2,2,1,0] 0 [Blk.rw [AV.lit (Value.slice none 0 0)],Blk.rw [i64 0],Blk.rw [i64 0],Blk.rw (es'.map i64),Blk.rw (rdC l 3 l.length d')]:=by
   intro es' d'
   simp [zbH,zar,zey,zcn,-List.map_replicate]
  intro y σ1 hy
  unfold zg0 at hy
  cases hv:vl l 0 with
  | none =>
   rw [hv] at hy
   obtain⟨rfl,es',d',-,rfl⟩:=hy
   refine⟨.pan gu,_,kf es' d',zgc _,?_⟩
   refine aQ17 ?_
   refine recP_ok _ _ _ _ _ ?_
   refine aQ17 ?_
   exact err 1 _ (by simp [zau,hlen,hany,hv]) (by decide)
  | some r =>
   rw [hv] at hy
   obtain⟨rfl,rfl⟩:=hy
   have hrl:=zaR hv
   refine⟨.ret (i64 r.1),_,kf _ _,zac _ _,?_⟩
   refine aQ17 ?_
   refine⟨fun hne=>?_,fun heq=>?_⟩
   ·refine recN_ok _ _ _ _ _ ?_
    refine aQ17 ?_
    exact err 1 _ (by simp [zau,hlen,hany,hv,show ¬ r.1=l.length by omega]) (by decide)
   have hd:max (0:Int) (1+r.2 - 1)=r.2:=by omega
   rw [hd]
   refine⟨fun hgt=>?_,fun hle=>?_⟩
   ·refine recN_ok _ _ _ _ _ ?_
    refine aQ17 ?_
    exact err 3 _ (by simp [zau,hlen,hany,hv,show r.1=l.length by omega,show 32 < r.2 by omega]) (by decide)
   refine zjk readT ([.bot,.bot,.ptr 0 0,.ptr 1 0,.ptr 2 0,.bot,.bot,.bot,.bot,.bot,.bot,.bot,.bot,.bot,.bot,.bot,.bot,.bot,.bot,.bot,.bot,.bot,.bot,.bot,.bot,.bot,.bot,.bot,.bot,.bot]) [.rw [.ref 3 0 l.length 1],.rw [i64 r.2],.rw [i64 0],.rw ((updE l (List.replicate l.length 0) 0 r.1).map i64),.rw (rdC l 3 l.length r.2)] (by kernel_rfl) (by kernel_rfl) ?_ ?_
   ·unfold readT
    refine aQ17 ?_
    repeat' (with_reducible refine And.intro ?_ ?_)
    all_goals
     refine zbI ?_
     first|exact aQ19 trivial|refine aQ19 ?_
   refine aQ17 ?_
   refine recN_ok _ _ _ _ _ ?_
   refine aQ17 ?_
   have hne:zau l=0:=by simp [zau,hlen,hany,hv,show r.1=l.length by omega,show ¬ 32 < r.2 by omega]
   have hends:updE l (List.replicate l.length 0) 0 r.1=zdP l:=by
    apply List.ext_getElem?
    intro i
    simp only [updE,zdP,List.getElem?_mapIdx,List.getElem?_map,List.getElem?_replicate,show r.1=l.length by omega,List.getElem?_range']
    by_cases hi:i < l.length
    ·simp [hi]
    ·simp [hi,List.getElem?_eq_none]
   rw [hends]
   refine .inl ⟨[3],.tup [.ref 0 0 l.length 1,i64 r.2,i64 0],[.rw ((zdP l).map i64)],rfl,rfl,by decide,by simp [AV.ren,renL,zac],?_,?_⟩
   ·simp [zaw,zar,zcn]
   ·simp only [readK,hne,if_true]
    exact⟨r,hv,by omega,by omega,by first | rfl | trivial,by first | rfl | trivial⟩
theorem all_N (l:List Nd):(l.flatMap nC).all AV.one=true:=by
 induction l with
 | nil=>rfl
 | cons a l ih=>rw [List.flatMap_cons,List.all_append,all_n,ih];rfl
theorem append_N {ts:Array TypeId} {t t1 e:TypeId} (h0:ts[0]?=some t) (h1:ts[1]?=some t1) (ht:T t=some (tySl e)) (ht1:T t1=some (tySl e)) (he:T e=some tyNd) {id n m:Nat} {l ys:List Nd} {x:AV} {σ:zaa} {KS:AV→zaa→Prop}
  (hc:σ[id]?=some (.rw (l.flatMap nC))) (hn:n=l.length) (hs:asrc σ 4 x=some (ys.flatMap nC,m)) (hm:m=ys.length) (g2:n+m≤1000000000)
  (hk:KS (.ref σ.length 0 (n+m) 4) (σ.set id .dead++[.rw ((l++ys).flatMap nC)])):zbA T ts (.ref id 0 n 4) x σ KS:=by
 have hd:adst σ 4 (.ref id 0 n 4)=some (l.flatMap nC,n,σ.set id .dead):=by
  simp only [adst,hc,zca]
  subst hn
  simp
  try (rw [List.take_of_length_le (by rw [zca];omega)])
 simp only [zbA,h0,h1,Option.bind_some,ht,ht1]
 simp only [tySl,he,show tyNd.size=4 from rfl,hs,hd]
 refine⟨fun k h=>(by cases h),fun h=>(by cases h),tyNd,rfl,?_⟩
 simp only [show tyNd.size=4 from rfl,hs,hd]
 refine⟨rfl,all_N ys,all_N l,by omega,by (show (n+m) * 40≤_);omega,?_⟩
 rw [List.flatMap_append] at hk
 exact hk
theorem asrc_N (σ:zaa) (l:List Nd):asrc σ 4 (.sl (l.flatMap nC) l.length)=some (l.flatMap nC,l.length):=by
 simp only [asrc,asl,zca,Nat.le_refl,if_true]
 rw [List.take_of_length_le (by rw [zca];omega)]
theorem bs_n_0 {σ:zaa} {KS:AV→zaa→Prop}:bs2 (some tyNd) 0 [] σ KS=KS (.ref σ.length 0 0 4) (σ++[.rw ([].flatMap nC)]):=by
 simp [bs2,tyNd,zbo,zbz]
theorem endQ_N {l:List Nd} {id:Nat} {σ:zaa} {K:AV→zaa→Prop} (hi:σ[id]?=some (.rw (l.flatMap nC))) (h:K (.sl (l.flatMap nC) l.length) []):endQ 0 (.ref id 0 l.length 4) σ K:=by
 refine zfC hi (by rw [zca];omega) (zai _ _) ?_
 rw [List.drop_zero,List.take_of_length_le (by rw [zca];omega)]
 exact h
theorem sl_N {t e:TypeId} (ht:T t=some (tySl e)) (he:T e=some tyNd) {l:List Nd} {lo hi:Int} {σ:zaa} {K:AV→Prop} (h1:0≤lo) (h2:lo≤hi) (h3:hi≤l.length) (hk:K (.sl (((l.take hi.toNat).drop lo.toNat).flatMap nC) (hi.toNat - lo.toNat))):zbi T t (.sl (l.flatMap nC) l.length) (some (i64 lo)) (some (i64 hi)) σ K:=by
 simp only [zbi,ht,tySl,bnd,i64]
 refine⟨tyNd,he,h1,h2,h3,by rw [zca];exact Nat.le_refl _,?_⟩
 simp only [show tyNd.size=4 from rfl]
 rw [ziU,flatN_take,← List.drop_take]
 exact hk
theorem cloneN_ok (l:List Nd) (h:l.length≤1000000):ACalls Tryz.prog 46 [.sl (l.flatMap nC) l.length] [] (fun y σ=>y=.ret (.sl (l.flatMap nC) l.length)∧σ=[]):=by
 refine ACalls.body T_ok Tryz.func46 (by kernel_rfl) rfl Tryz.ntmps46 (congrArg Array.toList Tryz.results46) ?_
 refine aQ20 ?_
 intro b hb
 cases b
 ·refine aQ20 ?_
  refine append_N rfl rfl T23 T23 T66 (l:=[]) (ys:=l) (m:=l.length) rfl rfl (asrc_N _ _) rfl (by omega) ?_
  refine aQ20 ?_
  exact endQ_N (l:=l) rfl ⟨rfl,rfl⟩
 ·have hl:l=[]:=by
   have:=congrArg List.length (hb rfl)
   rw [zca] at this
   exact List.eq_nil_of_length_eq_zero (by simp only [List.length_nil] at this;omega)
  subst hl
  refine aQ20 ?_
  exact zdK ⟨rfl,rfl⟩
theorem zhh (l:List Nd) (hl:l.length≤1000000):ACalls Tryz.prog 18 [.sl (l.flatMap nC) l.length] [] (fun y σ=>y=.ret (i64 (zau l))∧σ=[]):=by
 refine ACalls.body T_ok Tryz.func18 (by kernel_rfl) rfl Tryz.ntmps18 (congrArg Array.toList Tryz.results18) ?_
 refine aQ20 ?_
 refine(read_ok l hl).mono ?_
 intro y σ hy
 unfold readK at hy
 by_cases h0:zau l=0
 ·rw [if_pos h0] at hy
  obtain⟨r,hv,h1,h2,rfl,rfl⟩:=hy
  refine aQ20 ?_
  exact zap ⟨by rw [h0],rfl⟩
 ·rw [if_neg h0] at hy
  obtain⟨rfl,rfl⟩:=hy
  refine aQ20 ?_
  exact zap ⟨rfl,rfl⟩
def deepOf (l:List Nd):Int:=if zau l=0 then (match vl l 0 with | some r=>(r.2:Int) | none=>0) else 0
def okAt (l:List Nd) (p:Int):Bool:=decide (zau l=0∧0≤p∧p < l.length)
def zh7 (l:List Nd) (p:Int):AEnd→zaa→Prop:=fun y σ =>
 if zau l=0 then y=.ret (.tup [.ref 0 0 l.length 1,bl (okAt l p)])∧σ=[.rw ((zdP l).map i64)]
 else y=.ret (.tup [.lit (.slice none 0 0),bl false])∧σ=[]
theorem zjC (l:List Nd) (p:Int) (hl:l.length≤1000000):ACalls Tryz.prog 48 [.sl (l.flatMap nC) l.length,i64 p] [] (zh7 l p):=by
 refine ACalls.body T_ok Tryz.func48 (by kernel_rfl) rfl Tryz.ntmps48 (congrArg Array.toList Tryz.results48) ?_
 refine aQ20 ?_
 refine(read_ok l hl).mono ?_
 intro y σ hy
 unfold readK at hy
 by_cases h0:zau l=0
 ·rw [if_pos h0] at hy
  obtain⟨r,hv,h1,h2,rfl,rfl⟩:=hy
  refine aQ20 ?_
  by_cases hp0:0≤p
  ·rw [decide_eq_true hp0]
   refine aQ20 ?_
   have e:decide (p < l.length)=okAt l p:=decide_eq_decide.2 (by simp [h0,hp0])
   rw [e]
   exact zas (by simp only [zh7,if_pos h0];exact⟨trivial,trivial⟩)
  ·rw [decide_eq_false hp0]
   refine aQ20 ?_
   have e:false=okAt l p:=(decide_eq_false (by omega)).symm
   rw [e]
   exact zas (by simp only [zh7,if_pos h0];exact⟨trivial,trivial⟩)
 ·rw [if_neg h0] at hy
  obtain⟨rfl,rfl⟩:=hy
  refine aQ20 ?_
  rw [decide_eq_false h0]
  refine aQ20 ?_
  exact zas (by simp only [zh7,if_neg h0];exact⟨trivial,trivial⟩)
def Inside (l:List Nd) (a e:Nat):Prop:=∀ p,a≤p→p < e→∃ r,vl l p=some r∧r.1≤e
theorem zeW {l:List Nd} {mp:Bool} {a:Nat} (ih:∀ a' r,a < a'→vl l a'=some r→Inside l a' r.1):∀ (c:Nat) (last:Option (List UInt8)) (e d:Nat) (r:Nat × Nat),a < e→e≤l.length→zbn (vl l) l mp c last e d=some r→Inside l e r.1
 | 0,last,e,d,r,ha,he,h=>by
  simp only [zbn,Option.some.injEq] at h
  subst h
  exact fun p h1 h2=>by omega
 | c+1,last,e,d,r,ha,he,h=>by
  cases mp with
  | true =>
   rw [zcH] at h
   split at h
   ·rename_i k hk
    split at h
    ·rename_i hc
     split at h
     ·rename_i r' hr'
      have h1:=zaR hr'
      have h2:=zcG (fun e r h=>zaR h) c _ _ _ _ h1.2 h
      intro p hp1 hp2
      by_cases hpe:p=e
      ·subst hpe
       obtain⟨_,g1,g2⟩:=za3 hk
       exact⟨_,zjA g1 g2 hc.1,by show p+1≤r.1;omega⟩
      ·by_cases hpr:p < r'.1
       ·obtain⟨r2,q1,q2⟩:=ih (e+1) r' (by omega) hr' p (by omega) hpr
        exact⟨r2,q1,by omega⟩
       ·exact zeW ih c _ _ _ _ (by omega) h1.2 h p (by omega) hp2
     ·cases h
    ·cases h
   ·cases h
  | false =>
   rw [zce] at h
   split at h
   ·rename_i r' hr'
    have h1:=zaR hr'
    have h2:=zcG (fun e r h=>zaR h) c _ _ _ _ h1.2 h
    intro p hp1 hp2
    by_cases hpr:p < r'.1
    ·obtain⟨r2,q1,q2⟩:=ih e r' ha hr' p hp1 hpr
     exact⟨r2,q1,by omega⟩
    ·exact zeW ih c _ _ _ _ (by omega) h1.2 h p (by omega) hp2
   ·cases h
theorem zjD {l:List Nd} {p:Nat} {r:Nat × Nat} (h:vl l p=some r):∃ n q,zbh l p=some n∧zbn (vl l) l (decide (n.kind=5)) n.kids.toNat none (p+1) 0=some q∧r=(q.1,q.2+1):=by
 rw [zdy] at h
 cases hn:zbh l p with
 | none=>rw [hn] at h;cases h
 | some n =>
  rw [hn] at h
  simp only [Option.map_eq_some_iff] at h
  obtain⟨q,h1,h2⟩:=h
  exact⟨n,q,rfl,h1,h2.symm⟩
theorem vl_inside {l:List Nd}:∀ (m a:Nat) (r:Nat × Nat),l.length - a=m→vl l a=some r→Inside l a r.1:=by
 intro m
 induction m using Nat.strongRecOn with
 | _ m ih =>
  intro a r hm h p hp1 hp2
  have hr:=zaR h
  by_cases hpa:p=a
  ·subst hpa;exact⟨r,h,Nat.le_refl _⟩
  ·obtain⟨n,q,h1,h2,rfl⟩:=zjD h
   exact zeW (a:=a) (fun a' r' ha hr'=>ih (l.length - a') (by have:=zaR hr';omega) a' r' rfl hr') _ _ _ _ _ (by omega) (by omega) h2 p (by omega) hp2
theorem zcU {l:List Nd} (h:zau l=0):l.length≤120∧zck l=false∧∃ d,vl l 0=some (l.length,d)∧d≤32:=by
 unfold zau at h
 split at h
 ·cases h
 ·rename_i hb
  split at h
  ·rename_i r hr
   split at h
   ·rename_i hl
    split at h
    ·cases h
    ·obtain⟨a,b⟩:=r
     dsimp only at *
     subst hl
     refine⟨by omega,?_,b,hr,by omega⟩
     cases ha:zck l with
     | false=>rfl
     | true=>exact absurd (.inr ha) hb
   ·cases h
  ·cases h
theorem zg1 {l:List Nd} (h:zau l=0) {p:Nat} (hp:p < l.length):∃ r,vl l p=some r∧zdD l p=r.1∧p < r.1∧r.1≤l.length:=by
 obtain⟨_,_,d,hv,_⟩:=zcU h
 obtain⟨r,h1,h2⟩:=vl_inside _ 0 _ rfl hv p (Nat.zero_le _) hp
 exact⟨r,h1,by simp only [zdD,h1],(zaR h1).1,(zaR h1).2⟩
def zaz (l:List Nd) (p:Int):List Nd:=if okAt l p then (l.take (zdD l p.toNat).toNat).drop p.toNat else []
theorem zh8 {l:List Nd} {k:Nat} (h:k < l.length):(zdP l).getD k 0=zdD l k:=by
 simp [zdP,h]
theorem zh9 (l:List Nd):(zdP l).length=l.length:=by simp [zdP]
theorem Sub_ok (l:List Nd) (p:Int) (hl:l.length≤1000000):ACalls Tryz.prog 52 [.sl (l.flatMap nC) l.length,i64 p] [] (fun y σ=>y=.ret (.sl ((zaz l p).flatMap nC) (zaz l p).length)∧σ=[]):=by
 refine ACalls.body T_ok Tryz.func52 (by kernel_rfl) rfl Tryz.ntmps52 (congrArg Array.toList Tryz.results52) ?_
 refine aQ20 ?_
 refine(zjC l p hl).mono ?_
 intro y σ hy
 unfold zh7 at hy
 by_cases h0:zau l=0
 ·rw [if_pos h0] at hy
  obtain⟨rfl,rfl⟩:=hy
  cases hok:okAt l p with
  | false =>
   refine aQ20 ?_
   have e:zaz l p=[]:=by simp [zaz,hok]
   rw [e]
   exact zdK ⟨rfl,rfl⟩
  | true =>
   refine aQ20 ?_
   have hp:0≤p∧p < l.length:=by
    simp only [okAt,decide_eq_true_eq] at hok
    exact hok.2
   obtain⟨r,hr1,hr2,hr3,hr4⟩:=zg1 h0 (p:=p.toNat) (by omega)
   have hsub:zaz l p=(l.take r.1).drop p.toNat:=by simp [zaz,hok,hr2]
   refine⟨by omega,by omega,by rw [zh9];omega,?_⟩
   rw [zh8 (by omega),hr2]
   refine sl_N T23 T66 (by omega) (by omega) (by omega) ?_
   rw [show (r.1:Int).toNat=r.1 from rfl,← hsub]
   refine aQ20 ?_
   have hlen:r.1 - p.toNat=(zaz l p).length:=by rw [hsub];simp;omega
   rw [hlen]
   refine(cloneN_ok (zaz l p) (by rw [← hlen];omega)).pure (by simp [renL,AV.ren,zai]) ?_
   rintro _ σ ⟨rfl,rfl⟩
   refine⟨by simp [AEnd.noid,AV.ren,zai],?_⟩
   refine aQ20 ?_
   exact zaF (by simp [AV.ren,zai]) ⟨rfl,rfl⟩
 ·rw [if_neg h0] at hy
  obtain⟨rfl,rfl⟩:=hy
  refine aQ20 ?_
  have e:zaz l p=[]:=by simp [zaz,okAt,h0]
  rw [e]
  exact zdK ⟨rfl,rfl⟩
theorem Same_ok (a b:List Nd) (ha:a.length≤1000000000000):ACalls Tryz.prog 24 [.sl (a.flatMap nC) a.length,.sl (b.flatMap nC) b.length] [] (fun y σ=>y=.ret (bl (decide (a=b)))∧σ=[]):=by
 refine ACalls.body T_ok Tryz.func24 (by kernel_rfl) rfl Tryz.ntmps24 (congrArg Array.toList Tryz.results24) ?_
 refine aQ20 ?_
 refine⟨fun hne=>?_,fun heq=>?_⟩
 ·refine zaq ⟨?_,rfl⟩
  rw [decide_eq_false (fun h=>hne (by rw [h]))]
 have hl:a.length=b.length:=by omega
 rw [zaK]
 refine⟨Nat,fun k=>k≤a.length∧∀ i,i < k→a.getD i n0d=b.getD i n0d,fun k=>[.sl (a.flatMap nC) a.length,.sl (b.flatMap nC) b.length,.bot,.bot,bl false,.bot,.bot,.bot,.bot,.bot,.bot,.bot,i64 a.length,i64 k,.bot,.bot,.bot,.bot,.bot,.bot,.bot,.bot,.bot,.bot,.bot,.bot],fun _=>[],fun k=>a.length - k,0,⟨Nat.zero_le _,fun i hi=>by omega⟩,?_,?_⟩
 ·refine zab (q:=[]) rfl rfl (by decide) ?_ ?_
  ·refine aQ18 ?_
   simp [zai,AV.ren,renL]
  ·first|exact aQ18 trivial|refine aQ18 ?_
 ·rintro k ⟨hk,hsame⟩
  refine aQ20 ?_
  refine⟨fun hlt=>?_,fun hge=>?_⟩
  ·refine zcw (by kernel_rfl) (by kernel_rfl) ?_
   refine aQ20 ?_
   repeat (with_reducible refine zbg ?_)
   refine⟨fun hne=>?_,fun heq=>?_⟩
   ·refine zaq ⟨?_,rfl⟩
    rw [decide_eq_false (by rintro rfl;exact hne rfl)]
   ·repeat (with_reducible refine zbg ?_)
    rw [zad]
    refine⟨k+1,⟨by omega,fun i hi=>?_⟩,by omega,zab (q:=[]) rfl rfl (by decide) ?_ ?_⟩
    ·rcases Nat.lt_succ_iff_lt_or_eq.1 hi with h | rfl
     ·exact hsame i h
     ·simpa using heq
    ·refine aQ18 ?_
     simp [zai,AV.ren,renL]
    ·first|exact aQ18 trivial|refine aQ18 ?_
  ·obtain rfl:k=a.length:=by omega
   refine aQ20 ?_
   refine zaq ⟨?_,rfl⟩
   rw [decide_eq_true (List.ext_getElem hl fun i h1 h2=>by have:=hsame i h1;simpa [h1,h2] using this)]
def bK (mp:Bool):Nat:=if mp then 1 else 0
def eAt (l:List Nd) (mp:Bool) (p:Nat):Nat→Nat
 | 0=>p+1
 | k+1=>(zdD l (eAt l mp p k+bK mp)).toNat
def depAt (l:List Nd) (p:Nat):Nat:=match vl l p with
 | some r=>r.2
 | none=>0
def dAt (l:List Nd) (mp:Bool) (p:Nat):Nat→Nat
 | 0=>0
 | k+1=>max (dAt l mp p k) (depAt l (eAt l mp p k+bK mp))
def keyT (l:List Nd) (mp:Bool) (p k:Nat):List UInt8:=(l.getD (eAt l mp p k) n0d).text
theorem zav {l:List Nd} {p:Nat} {n:Nd} (h:zbh l p=some n):l.getD p n0d=n:=by
 obtain⟨h1,h2,_⟩:=za3 h
 rw [List.getD_eq_getElem?_getD,h2];rfl
theorem kid_step {l:List Nd} {mp:Bool} {p k c:Nat} {q:Nat × Nat} (hk:k < c) (h:zbn (vl l) l mp (c - k) (zc3 mp k (keyT l mp p (k - 1))) (eAt l mp p k) (dAt l mp p k)=some q) :
  ∃ r,vl l (eAt l mp p k+bK mp)=some r∧eAt l mp p (k+1)=r.1∧(mp=true→∃ n,zbh l (eAt l mp p k)=some n∧n.kind=3∧n.text=keyT l mp p k∧(0 < k→leB n.text (keyT l mp p (k - 1))=false)) ∧
   zbn (vl l) l mp (c - (k+1)) (zc3 mp (k+1) (keyT l mp p k)) (eAt l mp p (k+1)) (dAt l mp p (k+1))=some q:=by
 rw [show c - k=(c - (k+1))+1 by omega] at h
 cases mp with
 | true =>
  rw [zcH] at h
  cases hn:zbh l (eAt l true p k) with
  | none=>rw [hn] at h;cases h
  | some n =>
   rw [hn] at h
   dsimp only at h
   by_cases hc:n.kind=3∧aftB (zc3 true k (keyT l true p (k - 1))) n.text=true
   rotate_left
   ·rw [if_neg hc] at h;cases h
   rw [if_pos hc] at h
   cases hv:vl l (eAt l true p k+1) with
   | none=>rw [hv] at h;cases h
   | some r =>
    rw [hv] at h
    dsimp only at h
    have he:eAt l true p (k+1)=r.1:=by simp only [eAt,bK,if_true,zdD,hv,Int.toNat_natCast]
    have hd:dAt l true p (k+1)=max (dAt l true p k) r.2:=by simp only [dAt,bK,if_true,depAt,hv]
    have hkt:n.text=keyT l true p k:=by rw [keyT,zav hn]
    refine⟨r,by simpa [bK] using hv,he,fun _=>⟨n,rfl,hc.1,hkt,fun h0=>?_⟩,?_⟩
    ·have:=hc.2
     simp only [zc3,Bool.true_and,h0,decide_true,if_true,aftB,Bool.not_eq_true'] at this
     exact this
    ·rw [he,hd]
     simp only [zc3,Bool.true_and,Nat.zero_lt_succ,decide_true,if_true,← hkt]
     exact h
 | false =>
  rw [zce] at h
  cases hv:vl l (eAt l false p k) with
  | none=>rw [hv] at h;cases h
  | some r =>
   rw [hv] at h
   dsimp only at h
   have he:eAt l false p (k+1)=r.1:=by simp [eAt,bK,zdD,hv]
   have hd:dAt l false p (k+1)=max (dAt l false p k) r.2:=by simp [dAt,bK,depAt,hv]
   refine⟨r,by simpa [bK] using hv,he,fun h=>(by cases h),?_⟩
   rw [he,hd]
   simp only [zc3,Bool.false_and,Bool.false_eq_true,if_false] at h ⊢
   exact h
structure Kids (l:List Nd) (p:Nat) (n:Nd) (r:Nat × Nat):Prop where
 node:zbh l p=some n
 val:vl l p=some r
 inv:∀ k,k≤n.kids.toNat→p+1+k≤eAt l (decide (n.kind=5)) p k∧eAt l (decide (n.kind=5)) p k≤r.1∧zbn (vl l) l (decide (n.kind=5)) (n.kids.toNat - k) (zc3 (decide (n.kind=5)) k (keyT l (decide (n.kind=5)) p (k - 1))) (eAt l (decide (n.kind=5)) p k) (dAt l (decide (n.kind=5)) p k)=some (r.1,r.2 - 1)
 deep:1≤r.2
theorem zbN {l:List Nd} {p:Nat} {r:Nat × Nat} (h:vl l p=some r):∃ n,Kids l p n r:=by
 obtain⟨n,q,h1,h2,rfl⟩:=zjD h
 refine⟨n,h1,h,?_,by simp⟩
 intro k
 induction k with
 | zero =>
  intro _
  have:=zcG (fun e r h=>zaR h) _ _ _ _ _ (by have:=(za3 h1).1;omega) h2
  exact⟨Nat.le_refl _,this.1,by simpa [zc3,eAt,dAt] using h2⟩
 | succ k ih =>
  intro hk
  obtain⟨i1,i2,i3⟩:=ih (by omega)
  obtain⟨r',g1,g2,g3,g4⟩:=kid_step (by omega) i3
  have hr:=zaR g1
  have:=zcG (fun e r h=>zaR h) _ _ _ _ _ (by rw [g2];exact hr.2) g4
  refine⟨by rw [g2];omega,this.1,g4⟩
theorem Kids.kid {l:List Nd} {p:Nat} {n:Nd} {r:Nat × Nat} (h:Kids l p n r) {k:Nat} (hk:k < n.kids.toNat) :
  ∃ r',vl l (eAt l (decide (n.kind=5)) p k+bK (decide (n.kind=5)))=some r'∧eAt l (decide (n.kind=5)) p (k+1)=r'.1∧(n.kind=5→∃ m,zbh l (eAt l (decide (n.kind=5)) p k)=some m∧m.kind=3∧m.text=keyT l (decide (n.kind=5)) p k∧(0 < k→leB m.text (keyT l (decide (n.kind=5)) p (k - 1))=false)):=by
 obtain⟨r',g1,g2,g3,_⟩:=kid_step hk (h.inv k (by omega)).2.2
 exact⟨r',g1,g2,fun h5=>g3 (decide_eq_true h5)⟩
theorem Kids.ends {l:List Nd} {p:Nat} {n:Nd} {r:Nat × Nat} (h:Kids l p n r):eAt l (decide (n.kind=5)) p n.kids.toNat=r.1∧dAt l (decide (n.kind=5)) p n.kids.toNat=r.2 - 1:=by
 have:=(h.inv n.kids.toNat (Nat.le_refl _)).2.2
 rw [Nat.sub_self] at this
 simp only [zbn,Option.some.injEq,Prod.mk.injEq] at this
 exact this
theorem Kids.few {l:List Nd} {p:Nat} {n:Nd} {r:Nat × Nat} (h:Kids l p n r):p+1+n.kids.toNat≤r.1∧r.1≤l.length∧0≤n.kids∧p < l.length:=by
 obtain⟨h1,h2,_⟩:=h.inv n.kids.toNat (Nat.le_refl _)
 exact⟨by omega,(zaR h.val).2,zgH (za3 h.node).2.2,(za3 h.node).1⟩
theorem kids_ok (l:List Nd) (es:List Int) (n:Nat) (p:Int):ACalls Tryz.prog 49 [.sl (l.flatMap nC) l.length,.ref 0 0 n 1,i64 p] [.rw (es.map i64)] (fun y σ=>y=.ret (.fn (.func 89) [] [.ptr 3 0,.ptr 1 0,.ptr 2 0])∧σ=[.rw (es.map i64),.rw [.sl (l.flatMap nC) l.length],.rw [.ref 0 0 n 1],.rw [i64 p]]):=by
 refine ACalls.body T_ok Tryz.func49 (by kernel_rfl) rfl Tryz.ntmps49 (congrArg Array.toList Tryz.results49) ?_
 refine aQ17 ?_
 exact zas ⟨rfl,rfl⟩
theorem kids1_ok {l:List Nd} {p:Nat} {n:Nd} {r:Nat × Nat} (hK:Kids l p n r) (hlen:l.length≤120) (m:Nat) (hm:m≤n.kids.toNat) (id a b c e:Nat) (S:Nat→zaa) (E:zaa)
  (ha:∀ k,rd (S k) a=some [i64 p]) (hb:∀ k,rd (S k) b=some [.sl (l.flatMap nC) l.length]) (hc:∀ k,rd (S k) c=some [.ref e 0 l.length 1]) (he:∀ k,rd (S k) e=some ((zdP l).map i64))
  (hY : ∀ k, k < m → AYield Tryz.prog id [i64 k, i64 ((eAt l (decide (n.kind = 5)) p k + bK (decide (n.kind = 5)) : Nat) : Int)] (S k) (fun x σ' => x = .ret (bl true) ∧ σ' = S (k + 1)))
  (hE : m < n.kids.toNat → AYield Tryz.prog id [i64 m, i64 ((eAt l (decide (n.kind = 5)) p m + bK (decide (n.kind = 5)) : Nat) : Int)] (S m) (fun x σ' => x = .ret (bl false) ∧ σ' = E)) :
  ACalls Tryz.prog 89 [.yl id, .ptr a 0, .ptr b 0, .ptr c 0] (S 0) (fun x σ' => x = .ret (.tup []) ∧ σ' = if m < n.kids.toNat then E else S n.kids.toNat) := by
 obtain⟨f1,f2,f3,f4⟩:=hK.few
 have hg:l.getD p n0d=n:=zav hK.node
 refine ACalls.body T_ok Tryz.func89 (by kernel_rfl) rfl Tryz.ntmps89 (congrArg Array.toList Tryz.results89) ?_
 try simp -implicitDefEqProofs only [LM8,eq_self,ha,hb,hc,he,TB,SB,Int.reduceToNat,Nat.reduceAdd,Nat.reduceEqDiff,Nat.reduceLT,Nat.reduceMod,Nat.reducePow,Nat.reduceSub,if_true,reduceIte]
 repeat (with_reducible refine zbg ?_)
 try simp -implicitDefEqProofs only [LM8,eq_self,ha,hb,hc,he,hg,TB,SB,Int.reduceToNat,Nat.reduceAdd,Nat.reduceEqDiff,Nat.reduceLT,Nat.reduceMod,Nat.reducePow,Nat.reduceSub,if_true,reduceIte]
 obtain⟨ct,hct⟩:∃ ct,n.kids.toNat=ct:=⟨_,rfl⟩
 have hkc:n.kids=ct:=by omega
 obtain⟨mp,hmp⟩:∃ mp,decide (n.kind=5)=mp:=⟨_,rfl⟩
 have hkid:=@Kids.kid l p n r hK
 have hinv:=hK.inv
 rw [hct] at hm hE hkid hinv f1 ⊢
 rw [hmp] at hY hE hkid hinv
 rw [hkc]
 rw [zaK]
 refine⟨Nat,fun k=>k≤m,fun k=>[.yl id,.ptr a 0,.ptr b 0,.ptr c 0,.bot,i64 ((eAt l mp p k:Nat):Int),.bot,.bot,.bot,.bot,.bot,.bot,.bot,i64 ct,i64 k,.bot,.bot,.bot,.bot,.bot,.bot,.bot,.bot,.bot,.bot,.bot,.bot,.bot,.bot,.bot,.bot,.bot,.bot,.bot,.bot],S,fun k=>m - k,0,Nat.zero_le _,zbI ?_,?_⟩
 ·refine aQ19 ?_
  exact⟨.inr rfl,.inr rfl⟩
 ·intro k hk
  try simp -implicitDefEqProofs only [LM8,eq_self,ha,hb,hc,he,hg,TB,SB,Int.reduceToNat,Nat.reduceAdd,Nat.reduceEqDiff,Nat.reduceLT,Nat.reduceMod,Nat.reducePow,Nat.reduceSub,if_true,reduceIte]
  refine⟨fun hlt=>?_,fun hge=>?_⟩
  ·obtain⟨r',g1,g2,g3⟩:=hkid (k:=k) (by omega)
   have hr':=zaR g1
   have go:∀ Q:AEnd→zaa→Prop,(k < m→Q (.ret (bl true)) (S (k+1)))→(k=m→Q (.ret (bl false)) E)→AYield Tryz.prog id [i64 k,i64 ((eAt l mp p k+bK mp:Nat):Int)] (S k) Q:=by
    intro Q q1 q2
    by_cases hkm:k < m
    ·refine(hY k hkm).mono ?_
     rintro _ _ ⟨rfl,rfl⟩
     exact q1 hkm
    ·obtain rfl:k=m:=by omega
     refine(hE (by omega)).mono ?_
     rintro _ _ ⟨rfl,rfl⟩
     exact q2 rfl
   have done : k = m → (k < ct → endQ (S 0).length (.tup []) E (fun r σ' => AEnd.ret r = .ret (.tup []) ∧ σ' = if m < ct then E else S ct)) := fun hkm _ => zas (by rw [if_pos (by omega)]; exact ⟨rfl, rfl⟩)
   repeat (with_reducible refine zbg ?_)
   try simp -implicitDefEqProofs only [LM8,eq_self,ha,hb,hc,he,hg,TB,SB,Int.reduceToNat,Nat.reduceAdd,Nat.reduceEqDiff,Nat.reduceLT,Nat.reduceMod,Nat.reducePow,Nat.reduceSub,if_true,reduceIte]
   repeat (with_reducible refine zbg ?_)
   try simp -implicitDefEqProofs only [LM8,eq_self,ha,hb,hc,he,hg,TB,SB,Int.reduceToNat,Nat.reduceAdd,Nat.reduceEqDiff,Nat.reduceLT,Nat.reduceMod,Nat.reducePow,Nat.reduceSub,if_true,reduceIte]
   refine⟨fun h5=>?_,fun h5=>?_⟩
   ·have hmt:mp=true:=by rw [← hmp];exact decide_eq_true h5
    have eb:((eAt l mp p k:Nat):Int)+1=((eAt l mp p k+bK mp:Nat):Int):=by simp [hmt,bK]
    repeat (with_reducible refine zbg ?_)
    rw [eb]
    refine go _ (fun hkm=>?_) (fun hkm=>?_)
    ·try simp -implicitDefEqProofs only [LM8,eq_self,ha,hb,hc,he,hg,TB,SB,Int.reduceToNat,Nat.reduceAdd,Nat.reduceEqDiff,Nat.reduceLT,Nat.reduceMod,Nat.reducePow,Nat.reduceSub,if_true,reduceIte]
     have e4:(zdP l).getD (eAt l mp p k+bK mp) 0=((eAt l mp p (k+1):Nat):Int):=by
      rw [zh8 (by omega),zdD,g1,g2]
     refine⟨by omega,by omega,?_⟩
     refine⟨by rw [zh9];omega,?_⟩
     rw [e4]
     repeat (with_reducible refine zbg ?_)
     rw [zad]
     refine⟨k+1,by omega,(by show m - (k+1) < m - k;omega),zbI ?_⟩
     refine aQ19 ?_
     exact .inr rfl
    ·try simp -implicitDefEqProofs only [LM8,eq_self,ha,hb,hc,he,hg,TB,SB,Int.reduceToNat,Nat.reduceAdd,Nat.reduceEqDiff,Nat.reduceLT,Nat.reduceMod,Nat.reducePow,Nat.reduceSub,if_true,reduceIte]
     rw [if_pos (by omega)]
     exact zas ⟨rfl,rfl⟩
   ·have hmt:mp=false:=by rw [← hmp];exact decide_eq_false h5
    have eb:((eAt l mp p k:Nat):Int)=((eAt l mp p k+bK mp:Nat):Int):=by simp [hmt,bK]
    rw [eb]
    refine go _ (fun hkm=>?_) (fun hkm=>?_)
    ·try simp -implicitDefEqProofs only [LM8,eq_self,ha,hb,hc,he,hg,TB,SB,Int.reduceToNat,Nat.reduceAdd,Nat.reduceEqDiff,Nat.reduceLT,Nat.reduceMod,Nat.reducePow,Nat.reduceSub,if_true,reduceIte]
     have e4:(zdP l).getD (eAt l mp p k+bK mp) 0=((eAt l mp p (k+1):Nat):Int):=by
      rw [zh8 (by omega),zdD,g1,g2]
     refine⟨by omega,by omega,?_⟩
     refine⟨by rw [zh9];omega,?_⟩
     rw [e4]
     repeat (with_reducible refine zbg ?_)
     rw [zad]
     refine⟨k+1,by omega,(by show m - (k+1) < m - k;omega),zbI ?_⟩
     refine aQ19 ?_
     exact .inr rfl
    ·try simp -implicitDefEqProofs only [LM8,eq_self,ha,hb,hc,he,hg,TB,SB,Int.reduceToNat,Nat.reduceAdd,Nat.reduceEqDiff,Nat.reduceLT,Nat.reduceMod,Nat.reducePow,Nat.reduceSub,if_true,reduceIte]
     rw [if_pos (by omega)]
     exact zas ⟨rfl,rfl⟩
  ·obtain rfl:k=ct:=by omega
   obtain rfl:m=k:=by omega
   refine aQ17 ?_
   rw [if_neg (by omega)]
   exact zas ⟨rfl,rfl⟩
theorem zd9 {l:List Nd} {p:Int} (h:okAt l p=true):zau l=0∧0≤p∧p < l.length:=by
 simpa only [okAt,decide_eq_true_eq] using h
def kidP (l:List Nd) (p:Nat):List Nat:=(List.range (l.getD p n0d).kids.toNat).map fun k=>eAt l (decide ((l.getD p n0d).kind=5)) p k+bK (decide ((l.getD p n0d).kind=5))
def zax (l:List Nd) (p:Int):List Int:=if okAt l p then (kidP l p.toNat).map (Int.ofNat) else []
theorem kids_frame {l:List Nd} {p:Int} {B C:Blk} {K:AEnd→zaa→Prop} (hk:K (.ret (.fn (.func 89) [] [.ptr 5 0,.ptr 3 0,.ptr 4 0])) [.rw ((zdP l).map i64),B,C,.rw [.sl (l.flatMap nC) l.length],.rw [.ref 0 0 l.length 1],.rw [i64 p]]) :
  ACalls Tryz.prog 49 [.sl (l.flatMap nC) l.length,.ref 0 0 l.length 1,i64 p] [.rw ((zdP l).map i64),B,C] K:=by
 refine ACalls.frame [0] (kids_ok l (zdP l) l.length p) rfl (by decide) (by simp [zaw,zar,zcn]) aQ2 ?_
 rintro _ _ ⟨rfl,rfl⟩
 refine⟨_,_,?_,?_,hk⟩
 ·show zbH _ _ [0,4,4,1,2,3] [0,4,4,1,2,3] 0 _
  simp [zbH,zar,zcn,renL,AV.ren,zai,zac]
 ·show AEnd.ren [0,4,4,1,2,3] _ _
  simp [AEnd.ren,AV.ren,renL]
theorem fill_step {α:Type} {z d:α} {kl:List α} {c k:Nat} (hl:kl.length=c) (hk:k < c):(kl.take k++List.replicate (c - k) z).set k (kl.getD k d)=kl.take (k+1)++List.replicate (c - (k+1)) z:=by
 have hkl:k < kl.length:=by omega
 rw [List.set_append_right _ _ (by simp;omega),List.length_take,Nat.min_eq_left (by omega),Nat.sub_self,show c - k=(c - (k+1))+1 by omega,List.replicate_succ,List.set_cons_zero]
 rw [List.take_succ_eq_append_getElem hkl,List.append_assoc]
 simp [hkl]
abbrev kS (l:List Nd) (p:Int) (O C:Blk) (X:Blk):zaa:=[.rw ((zdP l).map i64),O,C,.rw [.sl (l.flatMap nC) l.length],.rw [.ref 0 0 l.length 1],.rw [i64 p],X]
theorem kids_full {l:List Nd} {p:Nat} {n:Nd} {r:Nat × Nat} (hK:Kids l p n r) (hlen:l.length≤120) (O:Nat→Blk) {C X:Blk} {K:AEnd→zaa→Prop}
  (hY : ∀ k, k < n.kids.toNat → AYield Tryz.prog 6 [i64 k, i64 ((eAt l (decide (n.kind = 5)) p k + bK (decide (n.kind = 5)) : Nat) : Int)] (kS l p (O k) C X) (fun x σ' => x = .ret (bl true) ∧ σ' = kS l p (O (k + 1)) C X))
  (hk:K (.ret (.tup [])) (kS l p (O n.kids.toNat) C X)) :
  ACalls Tryz.prog 89 [.yl 6,.ptr 5 0,.ptr 3 0,.ptr 4 0] (kS l p (O 0) C X) K:=by
 refine(kids1_ok hK hlen n.kids.toNat (Nat.le_refl _) 6 5 3 4 0 (fun k=>kS l p (O k) C X) [] (fun _=>rfl) (fun _=>rfl) (fun _=>rfl) (fun _=>rfl) hY (fun h=>absurd h (Nat.lt_irrefl _))).mono ?_
 rintro _ _ ⟨rfl,rfl⟩
 rw [if_neg (Nat.lt_irrefl _)]
 exact hk
theorem zjE (l:List Nd) (p:Int) (hl:l.length≤1000000):ACalls Tryz.prog 100 [.sl (l.flatMap nC) l.length,i64 p] [] (fun y σ=>y=.ret (.sl ((zax l p).map i64) (zax l p).length)∧σ=[]):=by
 refine ACalls.body T_ok Tryz.func100 (by kernel_rfl) rfl Tryz.ntmps100 (congrArg Array.toList Tryz.results100) ?_
 refine aQ17 ?_
 refine(zjC l p hl).mono ?_
 intro y σ hy
 unfold zh7 at hy
 by_cases h0:zau l=0
 rotate_left
 ·rw [if_neg h0] at hy
  obtain⟨rfl,rfl⟩:=hy
  refine aQ17 ?_
  have e:zax l p=[]:=by simp [zax,okAt,h0]
  rw [e]
  exact zdK ⟨rfl,rfl⟩
 rw [if_pos h0] at hy
 obtain⟨rfl,rfl⟩:=hy
 cases hok:okAt l p with
 | false =>
  refine aQ17 ?_
  have e:zax l p=[]:=by simp [zax,hok]
  rw [e]
  exact zdK ⟨rfl,rfl⟩
 | true =>
  obtain⟨_,hp0,hp1⟩:=zd9 hok
  obtain⟨r,hr1,hr2,hr3,hr4⟩:=zg1 h0 (p:=p.toNat) (by omega)
  obtain⟨n,hK⟩:=zbN hr1
  have hl120:=(zcU h0).1
  obtain⟨f1,f2,f3,f4⟩:=hK.few
  have hg:l.getD p.toNat n0d=n:=zav hK.node
  have hkids:zax l p=(List.range n.kids.toNat).map fun k=>((eAt l (decide (n.kind=5)) p.toNat k+bK (decide (n.kind=5)):Nat):Int):=by
   rw [zax,if_pos hok,kidP,hg,List.map_map]
   rfl
  have hpz:p=((p.toNat:Nat):Int):=by omega
  have dza:=hg
  try simp -implicitDefEqProofs only [LM8,eq_self,dza,TB,SB,Int.reduceToNat,Nat.reduceAdd,Nat.reduceEqDiff,Nat.reduceLT,Nat.reduceMod,Nat.reducePow,Nat.reduceSub,if_true,reduceIte]
  repeat (with_reducible refine zbg ?_)
  rw [show List.replicate n.kids.toNat (i64 0)=(List.replicate n.kids.toNat (0:Int)).map i64 by simp]
  refine kids_frame ?_
  refine aQ17 ?_
  refine⟨by kernel_rfl,?_⟩
  obtain⟨kl,hkl⟩:∃ kl,zax l p=kl:=⟨_,rfl⟩
  have hlk:kl.length=n.kids.toNat:=by rw [← hkl,hkids];simp
  obtain⟨q,hq⟩:∃ q,p.toNat=q:=⟨_,rfl⟩
  rw [hq] at hpz hK hkids hg
  rw [hpz]
  refine kids_full hK hl120 (fun k=>.rw ((kl.take k++List.replicate (n.kids.toNat - k) 0).map i64)) (fun k hk=>?_) ?_
  ·refine AYield.of T_ok rfl rfl rfl rfl ?_
   refine aQ17 ?_
   refine⟨_,_,_,rfl,?_⟩
   refine aQ17 ?_
   refine⟨by omega,by omega,by simp;omega,?_⟩
   have hset:=fill_step (z:=(0:Int)) (d:=0) hlk hk
   have hget:kl.getD k 0=((eAt l (decide (n.kind=5)) q k+bK (decide (n.kind=5)):Nat):Int):=by
    rw [← hkl,hkids];simp [hk]
   rw [hget] at hset
   rw [hset]
   refine⟨_,_,_,_,rfl,rfl,?_⟩
   rfl
  ·refine⟨_,_,_,_,_,_,rfl,by simp,?_⟩
   refine aQ17 ?_
   rw [List.take_of_length_le (by omega),Nat.sub_self,List.replicate_zero,List.append_nil,← hpz,hkl,← hlk]
   refine zfC (id:=1) rfl (by simp) (zcn _ _) ?_
   rw [List.drop_zero,List.take_of_length_le (by simp)]
   exact⟨rfl,rfl⟩
def za4 (l:List Nd) (p:Int):List (List UInt8):=if okAt l p && decide ((l.getD p.toNat n0d).kind=5) then (List.range (l.getD p.toNat n0d).kids.toNat).map (keyT l true p.toNat) else []
theorem place1 {l:List Nd} {p:Int} {B:Blk} {K:AEnd→zaa→Prop} (hl:l.length≤1000000) (h1:zau l=0→K (.ret (.tup [.ref 1 0 l.length 1,bl (okAt l p)])) [B,.rw ((zdP l).map i64)]) (h2:zau l≠0→K (.ret (.tup [.lit (.slice none 0 0),bl false])) [B]) :
  ACalls Tryz.prog 48 [.sl (l.flatMap nC) l.length,i64 p] [B] K:=by
 refine ACalls.frame [] (zjC l p hl) rfl (by decide) (by simp [zaw]) aQ2 ?_
 intro y σ hy
 unfold zh7 at hy
 by_cases h0:zau l=0
 ·rw [if_pos h0] at hy
  obtain⟨rfl,rfl⟩:=hy
  refine⟨_,_,?_,?_,h1 h0⟩
  ·show zbH _ _ [1,0] [1,0] 0 _
   simp [zbH,zar,zcn]
  ·show AEnd.ren [1,0] _ _
   simp [AEnd.ren,AV.ren,renL,zay]
 ·rw [if_neg h0] at hy
  obtain⟨rfl,rfl⟩:=hy
  refine⟨_,_,?_,?_,h2 h0⟩
  ·show zbH _ _ [0] [0] 0 _
   simp [zbH]
  ·show AEnd.ren [0] _ _
   simp [AEnd.ren,AV.ren,renL,zay]
theorem kids_frame1 {l:List Nd} {p:Int} {A B C:Blk} {K:AEnd→zaa→Prop}
  (hk:K (.ret (.fn (.func 89) [] [.ptr 6 0,.ptr 4 0,.ptr 5 0])) [A,.rw ((zdP l).map i64),B,C,.rw [.sl (l.flatMap nC) l.length],.rw [.ref 1 0 l.length 1],.rw [i64 p]]) :
  ACalls Tryz.prog 49 [.sl (l.flatMap nC) l.length,.ref 1 0 l.length 1,i64 p] [A,.rw ((zdP l).map i64),B,C] K:=by
 refine ACalls.frame [1] (kids_ok l (zdP l) l.length p) rfl (by decide) (by simp [zaw,zar,zcn]) aQ2 ?_
 rintro _ _ ⟨rfl,rfl⟩
 refine⟨_,_,?_,?_,hk⟩
 ·show zbH _ _ [4,0,4,4,1,2,3] [4,0,4,4,1,2,3] 0 _
  simp [zbH,zar,zcn,renL,AV.ren,zai,zac]
 ·show AEnd.ren [4,0,4,4,1,2,3] _ _
  simp [AEnd.ren,AV.ren,renL]
abbrev kS1 (l:List Nd) (p:Int) (A O C:Blk) (X:Blk):zaa:=[A,.rw ((zdP l).map i64),O,C,.rw [.sl (l.flatMap nC) l.length],.rw [.ref 1 0 l.length 1],.rw [i64 p],X]
theorem kids_full1 {l:List Nd} {p:Nat} {n:Nd} {r:Nat × Nat} (hK:Kids l p n r) (hlen:l.length≤120) (O:Nat→Blk) {A C X:Blk} {K:AEnd→zaa→Prop}
  (hY : ∀ k, k < n.kids.toNat → AYield Tryz.prog 7 [i64 k, i64 ((eAt l (decide (n.kind = 5)) p k + bK (decide (n.kind = 5)) : Nat) : Int)] (kS1 l p A (O k) C X) (fun x σ' => x = .ret (bl true) ∧ σ' = kS1 l p A (O (k + 1)) C X))
  (hk:K (.ret (.tup [])) (kS1 l p A (O n.kids.toNat) C X)) :
  ACalls Tryz.prog 89 [.yl 7,.ptr 6 0,.ptr 4 0,.ptr 5 0] (kS1 l p A (O 0) C X) K:=by
 refine(kids1_ok hK hlen n.kids.toNat (Nat.le_refl _) 7 6 4 5 1 (fun k=>kS1 l p A (O k) C X) [] (fun _=>rfl) (fun _=>rfl) (fun _=>rfl) (fun _=>rfl) hY (fun h=>absurd h (Nat.lt_irrefl _))).mono ?_
 rintro _ _ ⟨rfl,rfl⟩
 rw [if_neg (Nat.lt_irrefl _)]
 exact hk
theorem mk_str0 {σ:zaa} {KS:AV→zaa→Prop} (l c:Int):mk2 (some zbf) l c σ KS=(0≤l∧l≤c∧c≤9223372036854775807∧c * (16:Nat)≤281474976710656∧KS (.ref σ.length 0 l.toNat 1) (σ++[.rw (List.replicate l.toNat (str []))])):=mk2_one zgB _ _
theorem zgG {K:AV→Prop} (id off len:Nat) (n:Int):ia3 (some zbf) (.ref id off len 1) n K=(0≤n∧n < len∧K (.ptr id (off+n.toNat))):=zjq zgB _ _ _ _
theorem zjy (l:List (List UInt8)) (k:Nat) (x:List UInt8):(l.map str).set k (str x)=(l.set k x).map str:=by rw [List.map_set]
theorem zkb (q:List Nat) (l:List (List UInt8)):renL q (l.map str)=some (l.map str):=zam str zaj q l
theorem Keys_ok (l:List Nd) (p:Int) (hl:l.length≤1000000):ACalls Tryz.prog 27 [.sl (l.flatMap nC) l.length,i64 p] [] (fun y σ=>y=.ret (.sl ((za4 l p).map str) (za4 l p).length)∧σ=[]):=by
 refine ACalls.body T_ok Tryz.func27 (by kernel_rfl) rfl Tryz.ntmps27 (congrArg Array.toList Tryz.results27) ?_
 refine aQ21 ?_
 have none : ∀ σ : zaa, za4 l p = [] → endQ 0 (.lit (.slice none 0 0)) σ (fun r σ' => AEnd.ret r = .ret (.sl ((za4 l p).map str) (za4 l p).length) ∧ σ' = []) := fun σ h => by
  rw [h];exact zdK ⟨rfl,rfl⟩
 refine place1 hl (fun h0=>?_) (fun h0=>?_)
 rotate_left
 ·refine aQ21 ?_
  exact none _ (by simp [za4,okAt,h0])
 cases hok:okAt l p with
 | false =>
  refine aQ21 ?_
  exact none _ (by simp [za4,hok])
 | true =>
  obtain⟨_,hp0,hp1⟩:=zd9 hok
  obtain⟨r,hr1,hr2,hr3,hr4⟩:=zg1 h0 (p:=p.toNat) (by omega)
  obtain⟨n,hK⟩:=zbN hr1
  have hl120:=(zcU h0).1
  obtain⟨f1,f2,f3,f4⟩:=hK.few
  have hg:l.getD p.toNat n0d=n:=zav hK.node
  have dza:=hg
  refine aQ22 ?_
  repeat (with_reducible refine zbg ?_)
  have dza:=hg
  refine aQ22 ?_
  refine⟨fun h5=>?_,fun h5=>?_⟩
  ·exact none _ (by simp only [za4,hok,hg,h5,decide_false,Bool.and_false,Bool.false_eq_true,if_false])
  have hkeys:za4 l p=(List.range n.kids.toNat).map (keyT l true p.toNat):=by
   simp only [za4,hok,hg,h5,decide_true,Bool.and_true,if_true]
  repeat (with_reducible refine zbg ?_)
  rw [show List.replicate n.kids.toNat (str [])=(List.replicate n.kids.toNat ([]:List UInt8)).map str by simp]
  refine kids_frame1 ?_
  refine aQ21 ?_
  refine⟨by kernel_rfl,?_⟩
  obtain⟨kl,hkl⟩:∃ kl,za4 l p=kl:=⟨_,rfl⟩
  have hlk:kl.length=n.kids.toNat:=by rw [← hkl,hkeys];simp
  have hpz:p=((p.toNat:Nat):Int):=by omega
  obtain⟨q,hq⟩:∃ q,p.toNat=q:=⟨_,rfl⟩
  rw [hq] at hpz hK hkeys hg
  rw [hpz]
  refine kids_full1 hK hl120 (fun k=>.rw ((kl.take k++List.replicate (n.kids.toNat - k) []).map str)) (fun k hk=>?_) ?_
  ·refine AYield.of T_ok rfl rfl rfl rfl ?_
   refine aQ21 ?_
   refine⟨_,_,_,rfl,?_⟩
   refine aQ21 ?_
   refine zeu [9] (by kernel_rfl) (by kernel_rfl) (by kernel_rfl) ?_
   refine aQ21 ?_
   have hd5:decide (n.kind=5)=true:=decide_eq_true h5
   have e1:((eAt l (decide (n.kind=5)) q k+bK (decide (n.kind=5)):Nat):Int) - 1=((eAt l true q k:Nat):Int):=by rw [hd5];simp only [bK,if_true];omega
   have i1:=hK.inv k (by omega)
   rw [hd5] at i1
   obtain⟨r',g1,g2,g3⟩:=hK.kid hk
   rw [hd5] at g1
   have hr':=zaR g1
   have hset:=fill_step (z:=([]:List UInt8)) (d:=[]) hlk hk
   have hget:kl.getD k []=(l.getD (eAt l true q k) n0d).text:=by
    rw [← hkl,hkeys];simp [hk,keyT]
   rw [hget] at hset
   rw [e1,Int.toNat_natCast,hset]
   refine⟨by unfold inI;omega,by omega,by omega,by omega,by omega,by omega,by omega,by simp;omega,?_⟩
   refine⟨_,_,_,_,rfl,rfl,?_⟩
   rfl
  ·refine⟨_,_,_,_,_,_,rfl,by simp,?_⟩
   refine aQ21 ?_
   rw [List.take_of_length_le (by omega),Nat.sub_self,List.replicate_zero,List.append_nil,← hpz,hkl,← hlk]
   refine zfC (id:=2) rfl (by simp) (zkb _ _) ?_
   rw [List.drop_zero,List.take_of_length_le (by simp)]
   exact⟨rfl,rfl⟩
def findK (l:List Nd) (key:List UInt8):Option Nat:=if zau l=0∧(l.getD 0 n0d).kind=5 then (List.range (l.getD 0 n0d).kids.toNat).find? fun k=>decide (keyT l true 0 k=key) else none
set_option linter.defProp false in
def LB3:=And.intro @bs_n_0 (And.intro @mk_str0 (And.intro @zgG (@zjy)))
def slNs (l:List Nd):AV:=.sl (l.flatMap nC) l.length
theorem zbC (l:List Nd):(slNs l).one=true:=rfl
theorem zgd (q:List Nat) (l:List Nd):(slNs l).ren q=some (slNs l):=ren_slN q l _
theorem zal (q:List Nat) (L:List (List Nd)):renL q (L.map slNs)=some (L.map slNs):=zam slNs zgd q L
theorem ia_Ns (e:TypeId) (L:List (List Nd)) (n:Nat) (k:Int) (K:AV→Prop):ia3 (some (tySl e)) (.sl (L.map slNs) n) k K=(0≤k∧k < n∧n≤L.length∧K (.rp ((L.map slNs).drop k.toNat))):=by
 simp [ia3,tySl]
theorem ldd_Ns (e:TypeId) (L:List (List Nd)) (k:Nat) (K:AV→Prop):ld2 (some (tySl e)) (some ((L.map slNs).drop k)) 0 K=(k < L.length∧K (slNs (L.getD k []))):=by
 by_cases h:k < L.length
 ·rw [← List.map_drop,List.drop_eq_getElem_cons h]
  simp [ld2,wfin,tySl,TD.agg,h]
  try (intro _;omega)
 ·rw [List.drop_eq_nil_of_le (by simp;omega)]
  simp [ld2,wfin,tySl,h]
set_option linter.defProp false in
def LB4:=And.intro @ia_Ns (And.intro @ldd_Ns (And.intro @ia_sl_str (@ldd_str)))
set_option linter.defProp false in
def LM0:=And.intro LB0 (And.intro LB1 (And.intro LB3 (LB4)))
theorem asrc_ref {σ:zaa} {id n:Nat} {l:List (List UInt8)} (h:σ[id]?=some (.rw (l.map str))) (hn:n=l.length):asrc σ 1 (.ref id 0 n 1)=some (l.map str,n):=by
 subst hn
 simp only [asrc,asl,rd,h,if_true,Option.bind_some,Nat.mul_one,Nat.zero_add,List.length_map,Nat.le_refl,List.drop_zero]
 rw [List.take_of_length_le (by simp)]
theorem append_nilK {α:Type} (f:α→AV) (hf:∀ a,(f a).one=true) {ts:Array TypeId} {t t1 e:TypeId} {te:TI} {z:AV} {tx:TI} (h0:ts[0]?=some t) (h1:ts[1]?=some t1) (ht:T t=some (tySl e)) (ht1:T t1=some tx) (hx:(∀ k,tx.d≠.int k)∧tx.d≠.other) (he:T e=some te) (ho:one1 te z)
  {ys:List α} {m:Nat} {x:AV} {σ:zaa} {KS:AV→zaa→Prop} (hs:asrc σ 1 x=some (ys.map f,m)) (g1:m≤9223372036854775807) (g2:m * te.bytes≤140737488355328) (hk:KS (.ref σ.length 0 m 1) (σ++[.rw (ys.map f)])):zbA T ts (.lit (.slice none 0 0)) x σ KS:=by
 rw [append_nil h0 h1 ht ht1 hx he ho hs (zfD f hf ys)]
 exact⟨g1,g2,hk⟩
end Go.Proofs.YtdigkoejfgmecaaGreatDoor
end

section
namespace Go.Proofs.YtdigkoejfgmecaaGreatDoor
open Go Go.Eng
def o1:Nd:=⟨2,1,[],0⟩
def lv:List Nd:=[⟨4,0,[],2⟩,⟨2,1,[],0⟩,⟨0,0,[],0⟩]
def mv:List Nd:=[⟨5,0,[],2⟩,⟨3,0,[97],0⟩,⟨4,0,[],2⟩,⟨2,1,[],0⟩,⟨0,0,[],0⟩,⟨3,0,[98],0⟩,⟨2,1,[],0⟩]
theorem bd_n01 {K:AV→Prop} {t:TypeId} (ht:T t=some tyNd) (k j:Int):zaY T t [(0,i64 k),(1,i64 j)] K=K (nA ⟨k,j,[],0⟩):=by
 simp [zaY,ht,tyNd,T3,T2,T64,T9,zbo,zaE,zcT,zcE,za0,zaC,zbf,nA,nC]
 try rfl
theorem bs_sl_2 (e:TypeId) (a b:AV) (ha:a.one=true) (hb:b.one=true) (ca:a.cells=[a]) (cb:b.cells=[b]) (σ:zaa) (K:AV→zaa→Prop):bs2 (some (tySl e)) 2 [(0,a),(1,b)] σ K=K (.ref σ.length 0 2 1) (σ++[.rw [a,b]]):=by
 simp [bs2,tySl,zbo,zbz,ca,cb,ha,hb,za0,List.range_succ,List.replicate]
theorem bs_sl_1 (e:TypeId) (c:List AV) (n:Nat) (σ:zaa) (K:AV→zaa→Prop):bs2 (some (tySl e)) 1 [(0,.sl c n)] σ K=K (.ref σ.length 0 1 1) (σ++[.rw [.sl c n]]):=by
 simp [bs2,tySl,zbo,zbz,AV.cells,AV.one,za0,List.range_succ,List.replicate]
theorem bs_str_1 (a:List UInt8) (σ:zaa) (K:AV→zaa→Prop):bs2 (some zbf) 1 [(0,str a)] σ K=K (.ref σ.length 0 1 1) (σ++[.rw ([a].map str)]):=by
 simp [bs2,zbf,zbo,zbz,zfa,za0,List.range_succ,zeT,List.replicate]
theorem frz_Ns {σ:zaa} {id n:Nat} {L:List (List Nd)} (h:σ[id]?=some (.ro (L.map slNs))) (hn:n=L.length):frzA σ (.ref id 0 n 1) (.sl (L.map slNs) L.length):=by
 subst hn
 refine .inr ⟨_,h,by simp,?_⟩
 rw [List.drop_zero,List.take_of_length_le (by simp)]
theorem frz_Ss {σ:zaa} {id n:Nat} {l:List (List UInt8)} (h:σ[id]?=some (.ro (l.map str))) (hn:n=l.length):frzA σ (.ref id 0 n 1) (.sl (l.map str) l.length):=by
 subst hn
 refine .inr ⟨_,h,by simp,?_⟩
 rw [List.drop_zero,List.take_of_length_le (by simp)]
theorem noid_N2 (a b:List Nd) (n m:Nat) (q:List Nat):renL q [.sl (a.flatMap nC) n,.sl (b.flatMap nC) m]=some [.sl (a.flatMap nC) n,.sl (b.flatMap nC) m]:=by simp only [renL,AV.ren,zai,Option.map_some,bind,Option.bind,pure]
theorem zdz (a:List Nd) (n:Nat) (q:List Nat):renL q [.sl (a.flatMap nC) n]=some [.sl (a.flatMap nC) n]:=by simp only [renL,AV.ren,zai,Option.map_some,bind,Option.bind,pure]
theorem zfJ (a:List Nd) (n:Nat) (k:Int) (q:List Nat):renL q [.sl (a.flatMap nC) n,i64 k]=some [.sl (a.flatMap nC) n,i64 k]:=by simp only [renL,AV.ren,zai,zac,Option.map_some,bind,Option.bind,pure]
theorem noid_Ns (L:List (List Nd)) (n:Nat) (q:List Nat):renL q [.sl (L.map slNs) n]=some [.sl (L.map slNs) n]:=by simp [renL,AV.ren,zal]
set_option linter.defProp false in
def LB5:=And.intro @ia_sl_i64 (@ldd_i64)
set_option linter.defProp false in
def LB6:=And.intro (fun {K}=>@bd_n01 K _ T66) (And.intro @bs_sl_1 (@bs_str_1))
set_option linter.defProp false in
def LM5:=And.intro LM0 (And.intro LB5 (LB6))
def fewB (l:List Nd):Bool:=decide (l.length≤130) && (l.all fun n=>decide (n.text.length≤130))
theorem few_long {l:List Nd} {k:Nat} (hk:k < l.length) (h:130 < (l.getD k n0d).text.length):fewB l=false:=by
 rw [fewB,Bool.and_eq_false_iff]
 refine .inr ?_
 rw [List.all_eq_false]
 refine⟨l.getD k n0d,?_,by simpa using h⟩
 rw [List.getD_eq_getElem?_getD,List.getElem?_eq_getElem hk]
 exact List.getElem_mem _
theorem few_end {l:List Nd} {k:Nat} (h:k=l.length∨130 < l.length) (hj:∀ j,j < k→(l.getD j n0d).text.length≤130):fewB l=decide ((l.length:Int)≤130):=by
 rw [fewB]
 by_cases hl:l.length≤130
 ·rw [decide_eq_true hl,decide_eq_true (by omega),Bool.true_and,List.all_eq_true]
  intro n hn
  obtain⟨j,hjl,rfl⟩:=List.getElem_of_mem hn
  have:=hj j (by omega)
  rw [List.getD_eq_getElem?_getD,List.getElem?_eq_getElem hjl] at this
  simpa using this
 ·rw [decide_eq_false hl,decide_eq_false (by omega),Bool.false_and]
theorem Few_ok (l:List Nd) (hl:l.length≤9223372036854775807):ACalls Tryz.prog 9 [.sl (l.flatMap nC) l.length] [] (fun y _=>y=.ret (bl (fewB l))):=by
 refine ACalls.body T_ok Tryz.func9 (by kernel_rfl) rfl Tryz.ntmps9 (congrArg Array.toList Tryz.results9) ?_
 refine aQ23 ?_
 rw [zaK]
 refine⟨Nat,fun k=>k≤l.length∧k≤131∧∀ j,j < k→(l.getD j n0d).text.length≤130,fun k=>[.sl (l.flatMap nC) l.length,.bot,bl false,i64 k,.bot,.bot,.bot,.bot,.bot,.bot,.bot,.bot,.bot,.bot,.bot,.bot,.bot,.bot,.bot,.bot,.bot,.bot,.bot,.bot],fun _=>[],fun k=>l.length - k,0,⟨Nat.zero_le _,by omega,fun j h=>absurd h (by omega)⟩,zbI ?_,?_⟩
 ·refine aQ19 ?_
  try exact .inr rfl
 ·rintro k ⟨hk,hk1,hj⟩
  refine aQ23 ?_
  by_cases hlt:k < l.length
  ·rw [decide_eq_true (by omega:(k:Int) < l.length)]
   refine aQ23 ?_
   refine⟨fun hlt2=>?_,fun hlt2=>?_⟩
   ·repeat (with_reducible refine zbg ?_)
    refine⟨fun hg=>?_,fun hg=>?_⟩
    ·refine aQ23 ?_
     exact zaq (by rw [few_long hlt (by omega)])
    ·refine aQ23 ?_
     repeat (with_reducible refine zbg ?_)
     rw [zad]
     refine⟨k+1,⟨by omega,by omega,fun j h=>?_⟩,by (show l.length - (k+1) < l.length - k);omega,zbI ?_⟩
     ·by_cases e:j=k
      ·subst e;omega
      ·exact hj j (by omega)
     ·refine aQ19 ?_
      try exact .inr rfl
   ·refine aQ23 ?_
    exact zaq (by rw [few_end (.inr (by omega)) hj])
  ·rw [decide_eq_false (by omega:¬ (k:Int) < l.length)]
   refine aQ23 ?_
   exact zaq (by rw [few_end (.inl (by omega)) hj])
theorem few_le {l:List Nd} (h:fewB l=true):l.length≤130:=by
 rw [fewB,Bool.and_eq_true,decide_eq_true_eq] at h
 exact h.1
structure Part (l m:List Nd) (o:Nat):Prop where
 le:o+m.length≤l.length
 at':∀ q,q < m.length→m[q]?=l[o+q]?
theorem Part.node {l m:List Nd} {o q:Nat} (h:Part l m o) (hq:q < m.length):zbh m q=zbh l (o+q):=by
 simp only [zbh,h.at' q hq]
structure Alk (l m:List Nd) (o q:Nat):Prop where
 fwd:∀ r,vl m q=some r→vl l (o+q)=some (o+r.1,r.2)
 back:∀ r,vl l (o+q)=some r→r.1≤o+m.length→vl m q=some (r.1 - o,r.2)
theorem kids_to {l m:List Nd} {o:Nat} (hp:Part l m o) {mp:Bool} {N:Nat} (ih:∀ q,N≤q→q≤m.length→Alk l m o q):∀ (c:Nat) (last:Option (List UInt8)) (e d:Nat) (r:Nat × Nat),N≤e→e≤m.length→zbn (vl m) m mp c last e d=some r→zbn (vl l) l mp c last (o+e) d=some (o+r.1,r.2)
 | 0,last,e,d,r,h1,h2,h=>by
  simp only [zbn,Option.some.injEq] at h ⊢
  subst h
  rfl
 | c+1,last,e,d,r,h1,h2,h=>by
  cases mp with
  | true =>
   rw [zcH] at h ⊢
   split at h
   ·rename_i k hk
    have hlt:=(za3 hk).1
    rw [← hp.node hlt,hk]
    dsimp only
    split at h
    ·rename_i hc
     rw [if_pos hc]
     split at h
     ·rename_i r' hr'
      have g:=zaR hr'
      rw [show o+e+1=o+(e+1) by omega,(ih (e+1) (by omega) (by omega)).fwd _ hr']
      exact kids_to hp ih c _ _ _ _ (by omega) (by omega) h
     ·cases h
    ·cases h
   ·cases h
  | false =>
   rw [zce] at h ⊢
   split at h
   ·rename_i r' hr'
    have g:=zaR hr'
    rw [(ih e (by omega) (by omega)).fwd _ hr']
    exact kids_to hp ih c _ _ _ _ (by omega) (by omega) h
   ·cases h
theorem zia {l m:List Nd} {o:Nat} (hp:Part l m o) {mp:Bool} {N:Nat} (ih:∀ q,N≤q→q≤m.length→Alk l m o q):∀ (c:Nat) (last:Option (List UInt8)) (e d:Nat) (r:Nat × Nat),N≤e→e≤m.length→zbn (vl l) l mp c last (o+e) d=some r→r.1≤o+m.length→zbn (vl m) m mp c last e d=some (r.1 - o,r.2)
 | 0,last,e,d,r,h1,h2,h,hr=>by
  simp only [zbn,Option.some.injEq] at h ⊢
  subst h
  simp
 | c+1,last,e,d,r,h1,h2,h,hr=>by
  cases mp with
  | true =>
   rw [zcH] at h ⊢
   split at h
   ·rename_i k hk
    split at h
    ·rename_i hc
     split at h
     ·rename_i r' hr'
      have g:=zaR hr'
      have g2:=zcG (fun e r h=>zaR h) c _ _ _ _ g.2 h
      rw [hp.node (by omega),hk]
      dsimp only
      rw [if_pos hc,(ih (e+1) (by omega) (by omega)).back r' (by rw [← hr'];congr 1) (by omega)]
      refine zia hp ih c _ _ _ _ (by dsimp only;omega) (by dsimp only;omega) ?_ hr
      rw [show o+(r'.1 - o)=r'.1 by omega]
      exact h
     ·cases h
    ·cases h
   ·cases h
  | false =>
   rw [zce] at h ⊢
   split at h
   ·rename_i r' hr'
    have g:=zaR hr'
    have g2:=zcG (fun e r h=>zaR h) c _ _ _ _ g.2 h
    rw [(ih e (by omega) (by omega)).back r' hr' (by omega)]
    refine zia hp ih c _ _ _ _ (by dsimp only;omega) (by dsimp only;omega) ?_ hr
    rw [show o+(r'.1 - o)=r'.1 by omega]
    exact h
   ·cases h
theorem part_vl {l m:List Nd} {o:Nat} (hp:Part l m o):∀ (n q:Nat),m.length - q=n→q≤m.length→Alk l m o q:=by
 intro n
 induction n using Nat.strongRecOn with
 | _ n ih =>
  intro q hn hq
  by_cases hlt:q < m.length
  ·have ih':∀ q',q+1≤q'→q'≤m.length→Alk l m o q':=fun q' h1 h2=>ih (m.length - q') (by omega) q' rfl h2
   constructor
   ·intro r h
    rw [zdy] at h ⊢
    rw [← hp.node hlt]
    split at h
    ·rename_i k hk
     rw [Option.map_eq_some_iff] at h
     obtain⟨x,h1,rfl⟩:=h
     rw [show o+q+1=o+(q+1) by omega,kids_to hp ih' _ _ _ _ _ (Nat.le_refl _) (by omega) h1]
     rfl
    ·cases h
   ·intro r h hr
    rw [zdy] at h ⊢
    rw [hp.node hlt]
    split at h
    ·rename_i k hk
     rw [Option.map_eq_some_iff] at h
     obtain⟨x,h1,rfl⟩:=h
     rw [show o+q+1=o+(q+1) by omega] at h1
     rw [zia hp ih' _ _ _ _ _ (Nat.le_refl _) (by omega) h1 hr]
     rfl
    ·cases h
  ·obtain rfl:q=m.length:=by omega
   constructor
   ·intro r h
    have:=zaR h
    omega
   ·intro r h hr
    have:=zaR h
    omega
theorem part_to {l m:List Nd} {o q:Nat} (hp:Part l m o) {r:Nat × Nat} (h:vl m q=some r):vl l (o+q)=some (o+r.1,r.2) :=
 (part_vl hp _ q rfl (by have:=zaR h;omega)).fwd r h
theorem zeX {l m:List Nd} {o q:Nat} (hp:Part l m o) {r:Nat × Nat} (h:vl l (o+q)=some r) (hr:r.1≤o+m.length):vl m q=some (r.1 - o,r.2) :=
 (part_vl hp _ q rfl (by have:=zaR h;omega)).back r h hr
theorem zge {l:List Nd} {p e:Nat} (h1:p≤e) (h2:e≤l.length):Part l ((l.take e).drop p) p:=by
 constructor
 ·simp;omega
 ·intro q hq
  simp only [List.length_drop,List.length_take] at hq
  rw [List.getElem?_drop,List.getElem?_take_of_lt (by omega)]
theorem long_part {l m:List Nd} (h:zck l=false) (hm:∀ x∈m,x∈l):zck m=false:=by
 simp only [zck,List.any_eq_false] at h ⊢
 exact fun x hx=>h x (hm x hx)
theorem zdd {l:List Nd} {p:Nat} (h:zau l=0) (hp:p < l.length):okAt l p=true:=by
 simp only [okAt,decide_eq_true_eq]
 exact⟨h,by omega,by omega⟩
theorem zdL {l:List Nd} {p:Nat} {r:Nat × Nat} (h:zau l=0) (hp:p < l.length) (hv:vl l p=some r):zaz l p=(l.take r.1).drop p:=by
 rw [zaz,if_pos (zdd h hp)]
 simp only [Int.toNat_natCast,zdD,hv]
theorem sub_val {l:List Nd} {p:Nat} {r:Nat × Nat} (h:zau l=0) (hp:p < l.length) (hv:vl l p=some r) (hd:r.2≤32):zau (zaz l p)=0∧deepOf (zaz l p)=r.2∧(zaz l p).length=r.1 - p∧vl (zaz l p) 0=some (r.1 - p,r.2):=by
 obtain⟨h120,hlong,_⟩:=zcU h
 have g:=zaR hv
 have hP:=zge (l:=l) (p:=p) (e:=r.1) (by omega) g.2
 have hlen:(zaz l p).length=r.1 - p:=by rw [zdL h hp hv];simp;omega
 have hv0:vl (zaz l p) 0=some (r.1 - p,r.2):=by
  rw [zdL h hp hv]
  exact zeX hP (q:=0) hv (by have:=hlen;rw [zdL h hp hv] at this;omega)
 have hl:zck (zaz l p)=false:=long_part hlong (fun x hx=>by rw [zdL h hp hv] at hx;exact List.mem_of_mem_take (List.mem_of_mem_drop hx))
 have he:zau (zaz l p)=0:=by
  rw [zau,if_neg (by rw [hl];simp;omega),hv0]
  dsimp only
  rw [if_pos hlen.symm,if_neg (by omega)]
 refine⟨he,?_,hlen,hv0⟩
 rw [deepOf,if_pos he,hv0]
end Go.Proofs.YtdigkoejfgmecaaGreatDoor
end

