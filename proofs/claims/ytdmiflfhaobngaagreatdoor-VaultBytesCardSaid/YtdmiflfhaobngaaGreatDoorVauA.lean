/-
  What the functions of octet and of sha answer, each by a function on lists of bytes. No condition.
-/
import Derived.Test.YtdmiflfhaobngaaGreatDoorEngC
import Derived.Test.YtdmiflfhaobngaaGreatDoorRows
set_option linter.unusedSimpArgs false
set_option linter.unusedVariables false
set_option linter.unusedSectionVars false
section
namespace Go.Proofs.YtdmiflfhaobngaaGreatDoor
open Go Go.Eng
def firstL:List (BitVec 32):=[0x6a09e667#32,0xbb67ae85#32,0x3c6ef372#32,0xa54ff53a#32,0x510e527f#32,0x9b05688c#32,0x1f83d9ab#32,0x5be0cd19#32]
def firstV:Vc (BitVec 32) 8:=⟨firstL,rfl⟩
def kL:List (BitVec 32):=[
 0x428a2f98#32,0x71374491#32,0xb5c0fbcf#32,0xe9b5dba5#32,0x3956c25b#32,0x59f111f1#32,0x923f82a4#32,0xab1c5ed5#32,
 0xd807aa98#32,0x12835b01#32,0x243185be#32,0x550c7dc3#32,0x72be5d74#32,0x80deb1fe#32,0x9bdc06a7#32,0xc19bf174#32,
 0xe49b69c1#32,0xefbe4786#32,0x0fc19dc6#32,0x240ca1cc#32,0x2de92c6f#32,0x4a7484aa#32,0x5cb0a9dc#32,0x76f988da#32,
 0x983e5152#32,0xa831c66d#32,0xb00327c8#32,0xbf597fc7#32,0xc6e00bf3#32,0xd5a79147#32,0x06ca6351#32,0x14292967#32,
 0x27b70a85#32,0x2e1b2138#32,0x4d2c6dfc#32,0x53380d13#32,0x650a7354#32,0x766a0abb#32,0x81c2c92e#32,0x92722c85#32,
 0xa2bfe8a1#32,0xa81a664b#32,0xc24b8b70#32,0xc76c51a3#32,0xd192e819#32,0xd6990624#32,0xf40e3585#32,0x106aa070#32,
 0x19a4c116#32,0x1e376c08#32,0x2748774c#32,0x34b0bcb5#32,0x391c0cb3#32,0x4ed8aa4a#32,0x5b9cca4f#32,0x682e6ff3#32,
 0x748f82ee#32,0x78a5636f#32,0x84c87814#32,0x8cc70208#32,0x90befffa#32,0xa4506ceb#32,0xbef9a3f7#32,0xc67178f2#32]
def zi0 (x:BitVec 32):Value:=.int .u32 (x.toNat:Int)
def zdC:TI:=⟨.struct [(146,0),(9,8),(3,9)],10,56,[.int .u32 0,.int .u32 0,.int .u32 0,.int .u32 0,.int .u32 0,.int .u32 0,.int .u32 0,.int .u32 0,.string ⟨#[]⟩,.int .i64 0],false⟩
def nilS:AV:=.lit (.slice none 0 0)
def tyNd:TI:=⟨.struct [(133,0),(2,1),(9,2),(3,3)],4,40,[.int .i64 0,.int .i64 0,.string ⟨#[]⟩,.int .i64 0],true⟩
def tyGu:TI:=⟨.struct [],0,0,[],false⟩
def tyWr:TI:=⟨.struct [(125,0),(126,2),(3,3),(128,4)],10,112,[.pointer none,.slice none 0 0,.slice none 0 0,.int .i64 0,.nilFunc,.nilFunc,.nilFunc,.nilFunc,.nilFunc,.nilFunc],false⟩
def tyCr:TI:=⟨.struct [(9,0),(3,1),(126,2),(165,3)],4,72,[.string ⟨#[]⟩,.int .i64 0,.slice none 0 0,.slice none 0 0],false⟩
def tyOp:TI:=⟨.struct [(3,0),(9,1)],2,24,[.int .i64 0,.string ⟨#[]⟩],true⟩
def tyVo:TI:=⟨.struct [(3,0),(9,1),(9,2)],3,40,[.int .i64 0,.string ⟨#[]⟩,.string ⟨#[]⟩],true⟩
def tySe:TI:=⟨.struct [(126,0),(3,1),(4,2)],3,40,[.slice none 0 0,.int .i64 0,.bool false],false⟩
def tyIt:TI:=⟨.struct [(9,0),(9,1)],2,32,[.string ⟨#[]⟩,.string ⟨#[]⟩],true⟩
def tySv:TI:=⟨.struct [(22,0),(22,1),(9,2),(3,3)],4,72,[.slice none 0 0,.slice none 0 0,.string ⟨#[]⟩,.int .i64 0],false⟩
def tyS9:TI:=⟨.struct [(32,0),(32,1),(9,2),(3,3)],4,72,[.slice none 0 0,.slice none 0 0,.string ⟨#[]⟩,.int .i64 0],false⟩
def tyFa:TI:=⟨.struct [(29,0)],1,8,[.int .i64 0],true⟩
def T:Tab:=tabOf [(3,zbB),(4,zfs),(5,tyU8),(9,tyStr),(68,tySl 9),(86,zhE),(139,zhE),(113,zcx),(114,tySl 113),(88,tySl 5),(146,zcm 8 113 zcx),(169,zcm 64 113 zcx),(98,zfG 148),(148,zdC),(123,zfG 125),(125,tyBld 123 88),(29,zbB),(164,zfG 5),(2,zbB),(133,zbB),(135,tyNd),(126,tySl 135),(20,tyI),(127,tyFn),(128,zcm 6 127 tyFn),(130,tyWr),(119,zfG 130),(167,tyCr),(179,zfG 167),(219,tyOp),(165,tySl 219),(182,tyGu),(143,tySl 68),(66,tyVo),(25,tySl 66),(141,tySe),(77,tyVo),(38,tySl 77),(74,tyIt),(22,tySl 74),(78,tyIt),(32,tySl 78),(24,tySv),(104,zfG 24),(34,tyS9),(106,tyFa),(108,tyFn),(109,zcm 4 108 tyFn),(156,tyFn),(63,tySl 25)]
theorem T_ok:za5 Tryz.prog T:=tabOf_ok (by kernel_rfl)
theorem T3:T 3=some (zbB):=rfl
theorem T4:T 4=some (zfs):=rfl
theorem T5:T 5=some (tyU8):=rfl
theorem T9:T 9=some (tyStr):=rfl
theorem T68:T 68=some (tySl 9):=rfl
theorem T86:T 86=some (zhE):=rfl
theorem T139:T 139=some (zhE):=rfl
theorem T113:T 113=some (zcx):=rfl
theorem T114:T 114=some (tySl 113):=rfl
theorem T88:T 88=some (tySl 5):=rfl
theorem T146:T 146=some (zcm 8 113 zcx):=rfl
theorem T169:T 169=some (zcm 64 113 zcx):=rfl
theorem T98:T 98=some (zfG 148):=rfl
theorem T148:T 148=some (zdC):=rfl
theorem T123:T 123=some (zfG 125):=rfl
theorem T125:T 125=some (tyBld 123 88):=rfl
theorem T29:T 29=some (zbB):=rfl
theorem T164:T 164=some (zfG 5):=rfl
theorem T2:T 2=some (zbB):=rfl
theorem T133:T 133=some (zbB):=rfl
theorem T135:T 135=some (tyNd):=rfl
theorem T126:T 126=some (tySl 135):=rfl
theorem T20:T 20=some (tyI):=rfl
theorem T127:T 127=some (tyFn):=rfl
theorem T128:T 128=some (zcm 6 127 tyFn):=rfl
theorem T130:T 130=some (tyWr):=rfl
theorem T119:T 119=some (zfG 130):=rfl
theorem T167:T 167=some (tyCr):=rfl
theorem T179:T 179=some (zfG 167):=rfl
theorem T219:T 219=some (tyOp):=rfl
theorem T165:T 165=some (tySl 219):=rfl
theorem T182:T 182=some (tyGu):=rfl
theorem T143:T 143=some (tySl 68):=rfl
theorem T66:T 66=some (tyVo):=rfl
theorem T25:T 25=some (tySl 66):=rfl
theorem T141:T 141=some (tySe):=rfl
theorem T77:T 77=some (tyVo):=rfl
theorem T38:T 38=some (tySl 77):=rfl
theorem T74:T 74=some (tyIt):=rfl
theorem T22:T 22=some (tySl 74):=rfl
theorem T78:T 78=some (tyIt):=rfl
theorem T32:T 32=some (tySl 78):=rfl
theorem T24:T 24=some (tySv):=rfl
theorem T104:T 104=some (zfG 24):=rfl
theorem T34:T 34=some (tyS9):=rfl
theorem T106:T 106=some (tyFa):=rfl
theorem T108:T 108=some (tyFn):=rfl
theorem T109:T 109=some (zcm 4 108 tyFn):=rfl
theorem T156:T 156=some (tyFn):=rfl
theorem T63:T 63=some (tySl 25):=rfl
set_option linter.defProp false in
def TB:=And.intro T3 (And.intro T4 (And.intro T5 (And.intro T9 (And.intro T68 (And.intro T86 (And.intro T139 (And.intro T113 (And.intro T114 (And.intro T88 (And.intro T146 (And.intro T169 (And.intro T98 (And.intro T148 (And.intro T123 (And.intro T125 (And.intro T29 (And.intro T164 (And.intro T2 (And.intro T133 (And.intro T135 (And.intro T126 (And.intro T20 (And.intro T127 (And.intro T128 (And.intro T130 (And.intro T119 (And.intro T167 (And.intro T179 (And.intro T219 (And.intro T165 (And.intro T182 (And.intro T143 (And.intro T66 (And.intro T25 (And.intro T141 (And.intro T77 (And.intro T38 (And.intro T74 (And.intro T22 (And.intro T78 (And.intro T32 (And.intro T24 (And.intro T104 (And.intro T34 (And.intro T106 (And.intro T108 (And.intro T109 (And.intro T156 (T63)))))))))))))))))))))))))))))))))))))))))))))))))
instance globs:Globs:=⟨fun g=>match g with
 | 0=>some (firstL.map zi0)
 | 1=>some (kL.map zi0)
 | _=>none,[],[2],[]⟩
theorem zbj (env:Env):za4 env (.global 0)=.rp (firstV.l.map u32):=by
 rw [zhX (cs:=firstL.map zi0) rfl,List.map_map];rfl
theorem gl_k (env:Env):za4 env (.global 1)=.rp (kL.map u32):=by
 rw [zhX (cs:=kL.map zi0) rfl,List.map_map];rfl
structure Nd where
 kind:Int
 num:Int
 text:List UInt8
 kids:Int
 deriving DecidableEq
def n0d:Nd:=⟨0,0,[],0⟩
def nC (n:Nd):List AV:=[i64 n.kind,i64 n.num,str n.text,i64 n.kids]
def nA (n:Nd):AV:=.agg (nC n)
theorem zb1 (n:Int):(i64 n).one=true:=rfl
theorem one_bl' (b:Bool):(bl b).one=true:=rfl
theorem one_sl (cs:List AV) (n:Nat):(AV.sl cs n).one=true:=rfl
theorem one_ref (id off n sz:Nat):(AV.ref id off n sz).one=true:=rfl
theorem zb8 (n:Int):(i64 n).cells=[i64 n]:=rfl
theorem cells_bl' (b:Bool):(bl b).cells=[bl b]:=rfl
theorem zbT (b:List UInt8):(str b).cells=[str b]:=rfl
theorem cells_sl (cs:List AV) (n:Nat):(AV.sl cs n).cells=[AV.sl cs n]:=rfl
theorem cells_ref (id off n sz:Nat):(AV.ref id off n sz).cells=[AV.ref id off n sz]:=rfl
section
variable {a b n : Nd} {σ : zag} {K : AV → Prop} {KS : AV → zag → Prop} {t : TypeId} {id : Nat}
theorem all_n:(nC n).all AV.one=true:=by
 simp only [nC,List.all_cons,zb1,zad,List.all_nil,Bool.and_self]
theorem len_nC:(nC n).length=4:=rfl
theorem box_n {eB:TypeId}:wbox eB (nA n) σ KS=KS (.ptr σ.length 0) (σ++[.rw (nC n)]):=by
 simp only [wbox,nA,AV.cells,all_n,true_and,show zdb (nC n)=false from rfl,Bool.false_eq_true,if_false]
theorem ld_n:ld2 (some tyNd) (some (nC n)) 0 K=K (nA n):=by
 simp [ld2,wfin,tyNd,TD.agg,nA,nC]
theorem fa_n0 (ht:T t=some tyNd):zap T t (.ptr id 0) 0 K=K (.ptr id 0):=by simp [zap,ht,tyNd,T133,zbB]
theorem fa_n1 (ht:T t=some tyNd):zap T t (.ptr id 0) 1 K=K (.ptr id 1):=by simp [zap,ht,tyNd,T2,zbB]
theorem fa_n2 (ht:T t=some tyNd):zap T t (.ptr id 0) 2 K=K (.ptr id 2):=by simp [zap,ht,tyNd,T9,tyStr]
theorem ld_n0:ld2 (some zbB) (some (nC n)) 0 K=K (i64 n.kind):=by simp [ld2,wfin,zbB,TD.agg,nC]
theorem ld_n1:ld2 (some zbB) (some (nC n)) 1 K=K (i64 n.num):=by simp [ld2,wfin,zbB,TD.agg,nC]
theorem ld_n2:ld2 (some tyStr) (some (nC n)) 2 K=K (str n.text):=by simp [ld2,wfin,tyStr,TD.agg,nC]
theorem st_n:st2 (some tyNd) (some (.rw (nC a))) id 0 (nA b) σ KS=KS (.lit undef) (σ.set id (.rw (nC b))):=by
 have h1:=@all_n b
 have h2:zbc (nC a) 0 (nC b)=nC b:=rfl
 simp only [st2,tyNd,nA,AV.cells,len_nC,h1,h2,true_and,Nat.zero_add,Nat.le_refl]
theorem al_n (e:TypeId):al1 T e (some tyNd) σ KS=KS (.ptr σ.length 0) (σ++[.rw (nC n0d)]):=by
 simp [al1,tyNd,zaK,nC,n0d,i64,str]
theorem bd_n0 (ht:T t=some tyNd) (k:Int):zaQ T t [(0,i64 k)] K=K (nA ⟨k,0,[],0⟩):=by
 simp [zaQ,ht,tyNd,T3,T2,T133,T9,zbs,zaK,zb8,zb1,zbc,zbB,tyStr,nA,nC]
 try rfl
theorem zai (ht:T t=some tyNd) (k:Int) (j:List UInt8):zaQ T t [(0,i64 k),(2,str j)] K=K (nA ⟨k,0,j,0⟩):=by
 simp [zaQ,ht,tyNd,T3,T2,T133,T9,zbs,zaK,zb8,zb1,zbT,zad,zbc,zbB,tyStr,nA,nC]
 try rfl
theorem zbo (ht:T t=some tyGu):zaQ T t [] K=K (.agg []):=by
 simp [zaQ,ht,tyGu,zbs,zaK]
theorem mkI2_gu (x:AV):mkI2 (some tyGu) t x K=K (.ifc t x):=zhh rfl _ _
theorem zhF {t:TypeId} {ti:TI} {v:Value} (ht:T t=some ti) (h:scB ti.d v=true):fitE T 1 t [v]:=by
 simp only [fitE,ht]
 rcases zdu h with ⟨k,n,e,rfl⟩ | ⟨b,e,rfl⟩ | ⟨s,e,rfl⟩ <;> simp only [e] <;> exact⟨_,rfl,by simp [scB]⟩
theorem set_n1 (k:Int):(nC a).set 1 (i64 k)=nC ⟨a.kind,k,a.text,a.kids⟩:=rfl
theorem set_n2 (k:List UInt8):(nC a).set 2 (str k)=nC ⟨a.kind,a.num,k,a.kids⟩:=rfl
end
def zcP (n:Int):Nat:=(min (max n 0) 8).toNat
theorem clamp8_le (n:Int):zcP n≤8:=by unfold zcP;omega
theorem within_ok (n:Int):ACalls Tryz.prog 76 [i64 n] [] (fun x _=>x=.ret (i64 (zcP n))):=by
 refine ACalls.body T_ok Tryz.func76 (by kernel_rfl) rfl Tryz.ntmps76 (congrArg Array.toList Tryz.results76) ?_
 try simp -implicitDefEqProofs only [zbj,gl_k,TB,SB,Int.reduceToNat,Nat.reduceAdd,Nat.reduceEqDiff,Nat.reduceLT,Nat.reduceMod,Nat.reducePow,Nat.reduceSub,if_true,reduceIte]
 refine zeu ?_
 rw [show ((zcP n:Nat):Int)=min (max n 0) 8 by unfold zcP;omega]
def rol (x:BitVec 32) (n:Int):BitVec 32:=x <<< (BitVec.ofInt 32 n &&& 31#32).toNat ||| x >>> (32#32 - (BitVec.ofInt 32 n &&& 31#32)).toNat
theorem zfu (x:BitVec 32) (n:Int):ACalls Tryz.prog 127 [u32 x,i64 n] [] (fun y _=>y=.ret (u32 (rol x n))):=by
 refine ACalls.body T_ok Tryz.func127 (by kernel_rfl) rfl Tryz.ntmps127 (congrArg Array.toList Tryz.results127) ?_
 try simp -implicitDefEqProofs only [zbj,gl_k,TB,SB,Int.reduceToNat,Nat.reduceAdd,Nat.reduceEqDiff,Nat.reduceLT,Nat.reduceMod,Nat.reducePow,Nat.reduceSub,if_true,reduceIte]
 exact endQ_u32 rfl
theorem text_ok (l:List UInt8):ACalls Tryz.prog 77 [.sl (l.map u8) l.length] [] (fun x _=>x=.ret (str l)):=by
 refine ACalls.body T_ok Tryz.func77 (by kernel_rfl) rfl Tryz.ntmps77 (congrArg Array.toList Tryz.results77) ?_
 try simp -implicitDefEqProofs only [zbj,gl_k,TB,SB,Int.reduceToNat,Nat.reduceAdd,Nat.reduceEqDiff,Nat.reduceLT,Nat.reduceMod,Nat.reducePow,Nat.reduceSub,if_true,reduceIte]
 exact zcO rfl
theorem text_ref {l:List UInt8} {id:Nat} {σ:zag} {K:AEnd→zag→Prop} (hr:rd σ id=some (l.map u8)) (hk:K (.ret (str l)) σ):ACalls Tryz.prog 77 [.ref id 0 l.length 1] σ K :=
 (text_ok l).lend ⟨.inr (.inl ⟨id,0,l.length,1,l.map u8,rfl,hr,by simp,zaf u8 zaL _ _,by rw [List.drop_zero,List.take_of_length_le (by simp)]⟩),trivial⟩ (by
  rintro _ σ' rfl
  exact⟨trivial,hk⟩)
def zb9 (x:BitVec 64) (i:Nat):UInt8:=UInt8.ofBitVec ((x >>> (8 * i)).setWidth 8)
def lowL (x:BitVec 64) (n:Nat):List UInt8:=(List.range n).map (zb9 x)
def bigL (x:BitVec 64) (n:Nat):List UInt8:=(lowL x n).reverse
def zdi (x:BitVec 64) (m k:Nat):List UInt8:=(List.range m).map fun j=>if m - 1 - j < k then zb9 x (m - 1 - j) else 0
theorem bigRow_zero (x:BitVec 64) (m:Nat):zdi x m 0=List.replicate m 0:=by
 apply List.ext_getElem <;> simp [zdi]
theorem bigRow_succ (x:BitVec 64) (m k:Nat) (h:k < m):(zdi x m k).set (m - 1 - k) (zb9 x k)=zdi x m (k+1):=by
 apply List.ext_getElem
 ·simp [zdi]
 ·intro i h1 h2
  simp [zdi] at h1 h2
  rw [List.getElem_set]
  simp only [zdi,List.getElem_map,List.getElem_range]
  by_cases hi:m - 1 - k=i
  ·subst hi
   rw [if_pos rfl,if_pos (by omega),show m - 1 - (m - 1 - k)=k by omega]
  ·rw [if_neg hi]
   by_cases h3:m - 1 - i < k
   ·rw [if_pos h3,if_pos (by omega)]
   ·rw [if_neg h3,if_neg (by omega)]
theorem bigRow_all (x:BitVec 64) (m:Nat):zdi x m m=bigL x m:=by
 apply List.ext_getElem
 ·simp [zdi,bigL,lowL]
 ·intro i h1 h2
  simp [zdi] at h1
  simp [zdi,bigL,lowL]
  intro h;omega
theorem zi1 (x:BitVec 64) (n:Int):ACalls Tryz.prog 47 [u64 x,i64 n] [] (fun y _=>y=.ret (str (bigL x (zcP n)))):=by
 refine ACalls.body T_ok Tryz.func47 (by kernel_rfl) rfl Tryz.ntmps47 (congrArg Array.toList Tryz.results47) ?_
 try simp -implicitDefEqProofs only [zbj,gl_k,TB,SB,Int.reduceToNat,Nat.reduceAdd,Nat.reduceEqDiff,Nat.reduceLT,Nat.reduceMod,Nat.reducePow,Nat.reduceSub,if_true,reduceIte]
 refine(within_ok n).pure rfl ?_
 rintro _ σ rfl
 refine⟨rfl,?_⟩
 try simp -implicitDefEqProofs only [zbj,gl_k,TB,SB,Int.reduceToNat,Nat.reduceAdd,Nat.reduceEqDiff,Nat.reduceLT,Nat.reduceMod,Nat.reducePow,Nat.reduceSub,if_true,reduceIte]
 have hm:=clamp8_le n
 repeat (with_reducible refine zaW ?_)
 rw [za9]
 generalize zcP n=m at *
 refine⟨Nat,fun k=>k≤m,fun k=>[u64 x,i64 m,.bot,.bot,.bot,.ref 0 0 m 1,.bot,.bot,.bot,.bot,.bot,i64 m,i64 k,.bot,.bot,.bot,.bot,.bot,.bot,.bot,.bot,.bot,.bot,.bot,.bot,.bot,.bot,.bot,.bot],fun k=>[.rw ((zdi x m k).map u8)],fun k=>m - k,0,Nat.zero_le _,?_,?_⟩
 ·refine zal (q:=[0]) rfl rfl (by decide) ?_ ?_
  ·try simp only [FB,AV.ren,Nat.reduceAdd,reduceCtorEq]
   try simp
  ·try simp only [FB,AV.ren,Nat.reduceAdd,reduceCtorEq]
   simp [bigRow_zero]
 ·intro k hk
  try simp -implicitDefEqProofs only [zbj,gl_k,TB,SB,Int.reduceToNat,Nat.reduceAdd,Nat.reduceEqDiff,Nat.reduceLT,Nat.reduceMod,Nat.reducePow,Nat.reduceSub,if_true,reduceIte]
  have hl:(zdi x m k).length=m:=by simp [zdi]
  refine⟨fun hlt=>?_,fun hge=>?_⟩
  ·rw [List.length_map,hl]
   repeat (with_reducible refine zaW ?_)
   rw [zan]
   refine⟨k+1,by omega,by omega,zal (q:=[0]) rfl rfl (by decide) ?_ ?_⟩
   ·try simp only [FB,AV.ren,Nat.reduceAdd,reduceCtorEq]
    try simp
   ·try simp only [FB,AV.ren,Nat.reduceAdd,reduceCtorEq]
    rw [← bigRow_succ x m k (by omega),List.map_set]
    congr 2
    ·omega
  ·obtain rfl:k=m:=by omega
   have e:AV.ref 0 0 k 1=AV.ref 0 0 (zdi x k k).length 1:=by rw [hl]
   rw [e]
   refine text_ref (l:=zdi x k k) rfl ?_
   try simp -implicitDefEqProofs only [zbj,gl_k,TB,SB,Int.reduceToNat,Nat.reduceAdd,Nat.reduceEqDiff,Nat.reduceLT,Nat.reduceMod,Nat.reducePow,Nat.reduceSub,if_true,reduceIte]
   refine zcO ?_
   rw [bigRow_all]
def zcQ (n:BitVec 64) (b:UInt8):BitVec 64:=n <<< 8 ||| b.toBitVec.setWidth 64
def zaG (l:List UInt8):BitVec 64:=l.foldl zcQ 0#64
theorem take_snoc (l:List UInt8) (k:Nat) (h:k < l.length):l.take (k+1)=l.take k++[l.getD k 0]:=by
 rw [List.take_succ_eq_append_getElem h]
 simp [h]
theorem zgB (l:List UInt8) (k:Nat) (h:k < l.length):zaG (l.take (k+1))=zcQ (zaG (l.take k)) (l.getD k 0):=by
 rw [take_snoc l k h,zaG,List.foldl_append]
 rfl
theorem zdn (l:List UInt8) (hl:l.length≤9223372036854775807):ACalls Tryz.prog 52 [str l] [] (fun y _=>y=.ret (u64 (zaG l))):=by
 refine ACalls.body T_ok Tryz.func52 (by kernel_rfl) rfl Tryz.ntmps52 (congrArg Array.toList Tryz.results52) ?_
 try simp -implicitDefEqProofs only [zbj,gl_k,TB,SB,Int.reduceToNat,Nat.reduceAdd,Nat.reduceEqDiff,Nat.reduceLT,Nat.reduceMod,Nat.reducePow,Nat.reduceSub,if_true,reduceIte]
 rw [za9]
 refine⟨Nat,fun k=>k≤l.length,fun k=>[str l,.bot,.bot,u64 (zaG (l.take k)),.bot,.bot,i64 l.length,i64 k,.bot,.bot,.bot,.bot,.bot,.bot,.bot,.bot,.bot,.bot,.bot],fun _=>[],fun k=>l.length - k,0,Nat.zero_le _,?_,?_⟩
 ·refine zal (q:=[]) rfl rfl (by decide) ?_ ?_
  ·try simp only [FB,AV.ren,Nat.reduceAdd,reduceCtorEq]
   simp [zaG]
  ·try simp only [FB,AV.ren,Nat.reduceAdd,reduceCtorEq]
 ·intro k hk
  try simp -implicitDefEqProofs only [zbj,gl_k,TB,SB,Int.reduceToNat,Nat.reduceAdd,Nat.reduceEqDiff,Nat.reduceLT,Nat.reduceMod,Nat.reducePow,Nat.reduceSub,if_true,reduceIte]
  refine⟨fun hlt=>?_,fun hge=>?_⟩
  ·repeat (with_reducible refine zaW ?_)
   rw [zan]
   refine⟨k+1,by omega,by omega,zal (q:=[]) rfl rfl (by decide) ?_ ?_⟩
   ·try simp only [FB,AV.ren,Nat.reduceAdd,reduceCtorEq]
    rw [zgB l k (by omega)]
    simp [zcQ]
   ·try simp only [FB,AV.ren,Nat.reduceAdd,reduceCtorEq]
  ·obtain rfl:k=l.length:=by omega
   try simp -implicitDefEqProofs only [zbj,gl_k,TB,SB,Int.reduceToNat,Nat.reduceAdd,Nat.reduceEqDiff,Nat.reduceLT,Nat.reduceMod,Nat.reducePow,Nat.reduceSub,if_true,reduceIte]
   refine endQ_u64 ?_
   simp
theorem blocks_ok (s:List UInt8):ACalls Tryz.prog 89 [str s] [] (fun x σ=>x=.ret (.fn (.func 113) [] [.ptr 0 0])∧σ=[.rw [str s]]):=by
 refine ACalls.body T_ok Tryz.func89 (by kernel_rfl) rfl Tryz.ntmps89 (congrArg Array.toList Tryz.results89) ?_
 try simp -implicitDefEqProofs only [zbj,gl_k,TB,SB,Int.reduceToNat,Nat.reduceAdd,Nat.reduceEqDiff,Nat.reduceLT,Nat.reduceMod,Nat.reducePow,Nat.reduceSub,if_true,reduceIte]
 exact zbi ⟨rfl,rfl⟩
def mk8 (a b c d e f g h:BitVec 32):Vc (BitVec 32) 8:=⟨[a,b,c,d,e,f,g,h],rfl⟩
theorem zec (a b c d e f g h:BitVec 32) (K:AV→Prop):zaQ T 146 [(0,u32 a),(1,u32 b),(2,u32 c),(3,u32 d),(4,u32 e),(5,u32 f),(6,u32 g),(7,u32 h)] K=K (.agg ((mk8 a b c d e f g h).l.map u32)):=by
 simp only [zaQ,T146,zcm,T113]
 simp [zbs,zcx,zaK,u32,AV.cells,AV.one,Value.oneCell',zbc,mk8,List.replicate]
def stepV (v:Vc (BitVec 32) 8) (kw:BitVec 32):Vc (BitVec 32) 8 :=
 let a:=v.l.getD 0 0#32
 let b:=v.l.getD 1 0#32
 let c:=v.l.getD 2 0#32
 let e:=v.l.getD 4 0#32
 let f:=v.l.getD 5 0#32
 let g:=v.l.getD 6 0#32
 let t:=v.l.getD 7 0#32+(rol e (-6) ^^^ rol e (-11) ^^^ rol e (-25))+(e &&& f ^^^ ~~~e &&& g)+kw
 let u:=(rol a (-2) ^^^ rol a (-13) ^^^ rol a (-22))+(a &&& b ^^^ a &&& c ^^^ b &&& c)
 mk8 (t+u) a b c (v.l.getD 3 0#32+t) e f g
theorem step_ok (v:Vc (BitVec 32) 8) (kw:BitVec 32):ACalls Tryz.prog 115 [.agg (v.l.map u32),u32 kw] [] (fun x _=>x=.ret (.agg ((stepV v kw).l.map u32))):=by
 refine ACalls.body T_ok Tryz.func115 (by kernel_rfl) rfl Tryz.ntmps115 (congrArg Array.toList Tryz.results115) ?_
 have hl:=v.h
 try simp -implicitDefEqProofs only [zbj,gl_k,zec,TB,SB,Int.reduceToNat,Nat.reduceAdd,Nat.reduceEqDiff,Nat.reduceLT,Nat.reduceMod,Nat.reducePow,Nat.reduceSub,if_true,reduceIte]
 refine zcb (by kernel_rfl) (by kernel_rfl) ?_
 try simp -implicitDefEqProofs only [zbj,gl_k,zec,TB,SB,Int.reduceToNat,Nat.reduceAdd,Nat.reduceEqDiff,Nat.reduceLT,Nat.reduceMod,Nat.reducePow,Nat.reduceSub,if_true,reduceIte]
 repeat (with_reducible refine zaW ?_)
 try simp -implicitDefEqProofs only [zbj,gl_k,zec,TB,SB,Int.reduceToNat,Nat.reduceAdd,Nat.reduceEqDiff,Nat.reduceLT,Nat.reduceMod,Nat.reducePow,Nat.reduceSub,if_true,reduceIte]
 refine zcb (by kernel_rfl) (by kernel_rfl) ?_
 try simp -implicitDefEqProofs only [zbj,gl_k,zec,TB,SB,Int.reduceToNat,Nat.reduceAdd,Nat.reduceEqDiff,Nat.reduceLT,Nat.reduceMod,Nat.reducePow,Nat.reduceSub,if_true,reduceIte]
 repeat (with_reducible refine zaW ?_)
 refine zbt (zfu _ _) rfl rfl ?_
 try simp -implicitDefEqProofs only [zbj,gl_k,zec,TB,SB,Int.reduceToNat,Nat.reduceAdd,Nat.reduceEqDiff,Nat.reduceLT,Nat.reduceMod,Nat.reducePow,Nat.reduceSub,if_true,reduceIte]
 refine zbt (zfu _ _) rfl rfl ?_
 try simp -implicitDefEqProofs only [zbj,gl_k,zec,TB,SB,Int.reduceToNat,Nat.reduceAdd,Nat.reduceEqDiff,Nat.reduceLT,Nat.reduceMod,Nat.reducePow,Nat.reduceSub,if_true,reduceIte]
 refine zbt (zfu _ _) rfl rfl ?_
 try simp -implicitDefEqProofs only [zbj,gl_k,zec,TB,SB,Int.reduceToNat,Nat.reduceAdd,Nat.reduceEqDiff,Nat.reduceLT,Nat.reduceMod,Nat.reducePow,Nat.reduceSub,if_true,reduceIte]
 refine(zfu _ _).pure rfl ?_
 rintro _ σ rfl
 refine⟨rfl,?_⟩
 try simp -implicitDefEqProofs only [zbj,gl_k,zec,TB,SB,Int.reduceToNat,Nat.reduceAdd,Nat.reduceEqDiff,Nat.reduceLT,Nat.reduceMod,Nat.reducePow,Nat.reduceSub,if_true,reduceIte]
 refine(zfu _ _).pure rfl ?_
 rintro _ σ rfl
 refine⟨rfl,?_⟩
 try simp -implicitDefEqProofs only [zbj,gl_k,zec,TB,SB,Int.reduceToNat,Nat.reduceAdd,Nat.reduceEqDiff,Nat.reduceLT,Nat.reduceMod,Nat.reducePow,Nat.reduceSub,if_true,reduceIte]
 refine(zfu _ _).pure rfl ?_
 rintro _ σ rfl
 refine⟨rfl,?_⟩
 try simp -implicitDefEqProofs only [zbj,gl_k,zec,TB,SB,Int.reduceToNat,Nat.reduceAdd,Nat.reduceEqDiff,Nat.reduceLT,Nat.reduceMod,Nat.reducePow,Nat.reduceSub,if_true,reduceIte]
 repeat (with_reducible refine zaW ?_)
 try simp -implicitDefEqProofs only [zbj,gl_k,zec,TB,SB,Int.reduceToNat,Nat.reduceAdd,Nat.reduceEqDiff,Nat.reduceLT,Nat.reduceMod,Nat.reducePow,Nat.reduceSub,if_true,reduceIte]
 repeat (with_reducible refine zaW ?_)
 try simp -implicitDefEqProofs only [zbj,gl_k,zec,TB,SB,Int.reduceToNat,Nat.reduceAdd,Nat.reduceEqDiff,Nat.reduceLT,Nat.reduceMod,Nat.reducePow,Nat.reduceSub,if_true,reduceIte]
 exact zgm rfl
end Go.Proofs.YtdmiflfhaobngaaGreatDoor
end

section
namespace Go.Proofs.YtdmiflfhaobngaaGreatDoor
open Go Go.Eng
set_option linter.defProp false in
def LB0:=And.intro @zbj (And.intro @gl_k (@zec))
def wordAt (b:List UInt8) (i:Nat):BitVec 32:=(zaG ((b.take (4 * i+4)).drop (4 * i))).setWidth 32
def longA (b:List UInt8):Nat→Vc (BitVec 32) 64
 | 0=>Vc.rep 64 0#32
 | i+1=>(longA b i).set i (wordAt b i)
def lowS (x:BitVec 32):BitVec 32:=rol x (-7) ^^^ rol x (-18) ^^^ x >>> 3
def highS (y:BitVec 32):BitVec 32:=rol y (-17) ^^^ rol y (-19) ^^^ y >>> 10
def longF (w:Vc (BitVec 32) 64) (i:Nat):BitVec 32:=w.l.getD (i - 16) 0#32+lowS (w.l.getD (i - 15) 0#32)+w.l.getD (i - 7) 0#32+highS (w.l.getD (i - 2) 0#32)
def zfI (b:List UInt8):Nat→Vc (BitVec 32) 64
 | 0=>longA b 16
 | j+1=>(zfI b j).set (16+j) (longF (zfI b j) (16+j))
theorem long_ok (b:List UInt8) (hb:b.length=64):ACalls Tryz.prog 114 [str b] [] (fun x _=>x=.ret (.agg ((zfI b 48).l.map u32))):=by
 refine ACalls.body T_ok Tryz.func114 (by kernel_rfl) rfl Tryz.ntmps114 (congrArg Array.toList Tryz.results114) ?_
 try simp -implicitDefEqProofs only [LB0,zar T113,TB,SB,Int.reduceToNat,Nat.reduceAdd,Nat.reduceEqDiff,Nat.reduceLT,Nat.reduceMod,Nat.reducePow,Nat.reduceSub,if_true,reduceIte]
 rw [za9]
 refine⟨Nat,fun k=>k≤16,fun k=>[str b,.bot,.ptr 0 0,.ptr 1 0,.bot,.bot,.bot,.bot,.bot,.bot,i64 k,.bot,.bot,.bot,.bot,.bot,.bot,.bot,.bot,.bot,.bot,.bot,.bot,.bot,.bot,.bot,.bot,.bot,.bot,.bot,.bot,.bot,.bot,.bot,.bot,.bot,.bot,.bot,.bot,.bot,.bot,.bot,.bot,.bot,.bot,.bot,.bot,.bot,.bot,.bot,.bot,.bot,.bot,.bot,.bot,.bot,.bot,.bot,.bot,.bot,.bot,.bot,.bot,.bot,.bot,.bot,.bot,.bot,.bot],fun k=>[.rw ((Vc.rep 64 0#32).l.map u32),.rw ((longA b k).l.map u32)],fun k=>16 - k,0,Nat.zero_le _,?_,?_⟩
 ·refine zal (q:=[0,1]) rfl rfl (by decide) ?_ ?_
  ·try simp only [FB,AV.ren,Nat.reduceAdd,reduceCtorEq]
   try simp
  ·try simp only [FB,AV.ren,Nat.reduceAdd,reduceCtorEq]
   try rfl
 ·intro k hk
  have hl:=(longA b k).h
  try simp -implicitDefEqProofs only [LB0,zar T113,TB,SB,Int.reduceToNat,Nat.reduceAdd,Nat.reduceEqDiff,Nat.reduceLT,Nat.reduceMod,Nat.reducePow,Nat.reduceSub,if_true,reduceIte]
  refine⟨fun hlt=>?_,fun hge=>?_⟩
  ·repeat (with_reducible refine zaW ?_)
   have e:(4 * (k:Int)+4).toNat=4 * k+4:=by omega
   have e2:(4 * (k:Int)).toNat=4 * k:=by omega
   rw [e,e2]
   refine(zdn _ (by simp;omega)).pure rfl ?_
   rintro _ σ rfl
   refine⟨rfl,?_⟩
   try simp -implicitDefEqProofs only [LB0,zar T113,TB,SB,Int.reduceToNat,Nat.reduceAdd,Nat.reduceEqDiff,Nat.reduceLT,Nat.reduceMod,Nat.reducePow,Nat.reduceSub,if_true,reduceIte]
   repeat (with_reducible refine zaW ?_)
   rw [zan]
   refine⟨k+1,by omega,by omega,zal (q:=[0,1]) rfl rfl (by decide) ?_ ?_⟩
   ·try simp only [FB,AV.ren,Nat.reduceAdd,reduceCtorEq]
    try simp
   ·try simp only [FB,AV.ren,Nat.reduceAdd,reduceCtorEq]
    try rfl
  ·obtain rfl:k=16:=by omega
   try simp -implicitDefEqProofs only [LB0,zar T113,TB,SB,Int.reduceToNat,Nat.reduceAdd,Nat.reduceEqDiff,Nat.reduceLT,Nat.reduceMod,Nat.reducePow,Nat.reduceSub,if_true,reduceIte]
   rw [za9]
   refine⟨Nat,fun j=>j≤48,fun j=>[str b,.bot,.ptr 0 0,.ptr 1 0,.bot,i64 ((16+j:Nat):Int),.bot,.bot,.bot,.bot,.bot,.bot,.bot,.bot,.bot,.bot,.bot,.bot,.bot,.bot,.bot,.bot,.bot,.bot,.bot,.bot,.bot,.bot,.bot,.bot,.bot,.bot,.bot,.bot,.bot,.bot,.bot,.bot,.bot,.bot,.bot,.bot,.bot,.bot,.bot,.bot,.bot,.bot,.bot,.bot,.bot,.bot,.bot,.bot,.bot,.bot,.bot,.bot,.bot,.bot,.bot,.bot,.bot,.bot,.bot,.bot,.bot,.bot,.bot],fun j=>[.rw ((Vc.rep 64 0#32).l.map u32),.rw ((zfI b j).l.map u32)],fun j=>48 - j,0,Nat.zero_le _,?_,?_⟩
   ·refine zal (q:=[0,1]) rfl rfl (by decide) ?_ ?_
    ·try simp only [FB,AV.ren,Nat.reduceAdd,reduceCtorEq]
     try simp
    ·try simp only [FB,AV.ren,Nat.reduceAdd,reduceCtorEq]
     try rfl
   ·intro j hj
    have hlj:=(zfI b j).h
    try simp -implicitDefEqProofs only [LB0,zar T113,TB,SB,Int.reduceToNat,Nat.reduceAdd,Nat.reduceEqDiff,Nat.reduceLT,Nat.reduceMod,Nat.reducePow,Nat.reduceSub,if_true,reduceIte]
    refine⟨fun hlt=>?_,fun hge=>?_⟩
    ·refine zcb (by kernel_rfl) (by kernel_rfl) ?_
     try simp -implicitDefEqProofs only [LB0,zar T113,TB,SB,Int.reduceToNat,Nat.reduceAdd,Nat.reduceEqDiff,Nat.reduceLT,Nat.reduceMod,Nat.reducePow,Nat.reduceSub,if_true,reduceIte]
     repeat (with_reducible refine zaW ?_)
     try simp -implicitDefEqProofs only [LB0,zar T113,TB,SB,Int.reduceToNat,Nat.reduceAdd,Nat.reduceEqDiff,Nat.reduceLT,Nat.reduceMod,Nat.reducePow,Nat.reduceSub,if_true,reduceIte]
     rw [show ((16+j:Nat):Int) - 15=((16+j - 15:Nat):Int) by omega,show ((16+j:Nat):Int) - 2=((16+j - 2:Nat):Int) by omega]
     simp only [Int.toNat_natCast]
     refine(zfu _ _).pure rfl ?_
     rintro _ σ rfl
     refine⟨rfl,?_⟩
     try simp -implicitDefEqProofs only [LB0,zar T113,TB,SB,Int.reduceToNat,Nat.reduceAdd,Nat.reduceEqDiff,Nat.reduceLT,Nat.reduceMod,Nat.reducePow,Nat.reduceSub,if_true,reduceIte]
     refine(zfu _ _).pure rfl ?_
     rintro _ σ rfl
     refine⟨rfl,?_⟩
     try simp -implicitDefEqProofs only [LB0,zar T113,TB,SB,Int.reduceToNat,Nat.reduceAdd,Nat.reduceEqDiff,Nat.reduceLT,Nat.reduceMod,Nat.reducePow,Nat.reduceSub,if_true,reduceIte]
     refine(zfu _ _).pure rfl ?_
     rintro _ σ rfl
     refine⟨rfl,?_⟩
     try simp -implicitDefEqProofs only [LB0,zar T113,TB,SB,Int.reduceToNat,Nat.reduceAdd,Nat.reduceEqDiff,Nat.reduceLT,Nat.reduceMod,Nat.reducePow,Nat.reduceSub,if_true,reduceIte]
     refine(zfu _ _).pure rfl ?_
     rintro _ σ rfl
     refine⟨rfl,?_⟩
     try simp -implicitDefEqProofs only [LB0,zar T113,TB,SB,Int.reduceToNat,Nat.reduceAdd,Nat.reduceEqDiff,Nat.reduceLT,Nat.reduceMod,Nat.reducePow,Nat.reduceSub,if_true,reduceIte]
     refine zbg [15] (by kernel_rfl) (by kernel_rfl) (by kernel_rfl) ?_
     try simp -implicitDefEqProofs only [LB0,zar T113,TB,SB,Int.reduceToNat,Nat.reduceAdd,Nat.reduceEqDiff,Nat.reduceLT,Nat.reduceMod,Nat.reducePow,Nat.reduceSub,if_true,reduceIte]
     repeat (with_reducible refine zaW ?_)
     try simp -implicitDefEqProofs only [LB0,zar T113,TB,SB,Int.reduceToNat,Nat.reduceAdd,Nat.reduceEqDiff,Nat.reduceLT,Nat.reduceMod,Nat.reducePow,Nat.reduceSub,if_true,reduceIte]
     repeat (with_reducible refine zaW ?_)
     rw [zan]
     refine⟨j+1,by omega,by omega,zal (q:=[0,1]) rfl rfl (by decide) ?_ ?_⟩
     ·try simp only [FB,AV.ren,Nat.reduceAdd,reduceCtorEq]
      try simp
      try omega
     ·try simp only [FB,AV.ren,Nat.reduceAdd,reduceCtorEq]
      simp only [zfI,longF,lowS,highS]
      rw [show (((16+j:Nat):Int)).toNat=16+j by omega,show (((16+j:Nat):Int) - 16).toNat=16+j - 16 by omega,show (((16+j:Nat):Int) - 7).toNat=16+j - 7 by omega]
    ·obtain rfl:j=48:=by omega
     try simp -implicitDefEqProofs only [LB0,zar T113,TB,SB,Int.reduceToNat,Nat.reduceAdd,Nat.reduceEqDiff,Nat.reduceLT,Nat.reduceMod,Nat.reducePow,Nat.reduceSub,if_true,reduceIte]
     exact zgm rfl
def foldV (v:Vc (BitVec 32) 8) (w:Vc (BitVec 32) 64):Nat→Vc (BitVec 32) 8
 | 0=>v
 | k+1=>stepV (foldV v w k) (kL.getD k 0#32+w.l.getD k 0#32)
def addV (y v:Vc (BitVec 32) 8):Nat→Vc (BitVec 32) 8
 | 0=>y
 | k+1=>(addV y v k).set k ((addV y v k).l.getD k 0#32+v.l.getD k 0#32)
def zh0:Tr:=(.br 0 (.br 1 (.br 2 (.br 3 (.br 4 (.br 5 (.br 6 .done .nil) .nil) .nil) (.br 4 (.br 3 (.br 5 (.br 6 .done .nil) .nil) .nil) .nil)) (.br 3 (.br 2 (.br 4 (.br 5 (.br 6 .done .nil) .nil) .nil) (.br 4 (.br 2 (.br 5 (.br 6 .done .nil) .nil) (.br 5 (.br 2 (.br 6 .done .nil) .nil) .nil)) .nil)) (.br 4 (.br 2 (.br 3 (.br 5 (.br 6 .done .nil) .nil) .nil) (.br 3 (.br 2 (.br 5 (.br 6 .done .nil) .nil) (.br 5 (.br 2 (.br 6 .done .nil) .nil) .nil)) .nil)) .nil))) (.br 2 (.br 1 (.br 3 (.br 4 (.br 5 (.br 6 .done .nil) .nil) .nil) (.br 4 (.br 3 (.br 5 (.br 6 .done .nil) .nil) .nil) .nil)) (.br 3 (.br 1 (.br 4 (.br 5 (.br 6 .done .nil) .nil) .nil) (.br 4 (.br 1 (.br 5 (.br 6 .done .nil) .nil) .nil) .nil)) (.br 4 (.br 1 (.br 3 (.br 5 (.br 6 .done .nil) .nil) .nil) (.br 3 (.br 1 (.br 5 (.br 6 .done .nil) .nil) .nil) .nil)) .nil))) (.br 3 (.br 1 (.br 2 (.br 4 (.br 5 (.br 6 .done .nil) .nil) .nil) (.br 4 (.br 2 (.br 5 (.br 6 .done .nil) .nil) (.br 5 (.br 2 (.br 6 .done .nil) .nil) .nil)) .nil)) (.br 2 (.br 1 (.br 4 (.br 5 (.br 6 .done .nil) .nil) .nil) (.br 4 (.br 1 (.br 5 (.br 6 .done .nil) .nil) .nil) .nil)) (.br 4 (.br 1 (.br 2 (.br 5 (.br 6 .done .nil) .nil) (.br 5 (.br 2 (.br 6 .done .nil) .nil) .nil)) (.br 2 (.br 1 (.br 5 (.br 6 .done .nil) .nil) .nil) .nil)) .nil))) (.br 4 (.br 1 (.br 2 (.br 3 (.br 5 (.br 6 .done .nil) .nil) .nil) (.br 3 (.br 2 (.br 5 (.br 6 .done .nil) .nil) (.br 5 (.br 2 (.br 6 .done .nil) .nil) .nil)) .nil)) (.br 2 (.br 1 (.br 3 (.br 5 (.br 6 .done .nil) .nil) .nil) (.br 3 (.br 1 (.br 5 (.br 6 .done .nil) .nil) .nil) .nil)) (.br 3 (.br 1 (.br 2 (.br 5 (.br 6 .done .nil) .nil) (.br 5 (.br 2 (.br 6 .done .nil) .nil) .nil)) (.br 2 (.br 1 (.br 5 (.br 6 .done .nil) .nil) .nil) .nil)) .nil))) .nil)))) (.br 2 (.br 0 (.br 1 (.br 3 (.br 4 (.br 5 (.br 6 .done .nil) .nil) .nil) (.br 4 (.br 3 (.br 5 (.br 6 .done .nil) .nil) .nil) .nil)) (.br 3 (.br 1 (.br 4 (.br 5 (.br 6 .done .nil) .nil) .nil) (.br 4 (.br 1 (.br 5 (.br 6 .done .nil) .nil) .nil) .nil)) (.br 4 (.br 1 (.br 3 (.br 5 (.br 6 .done .nil) .nil) .nil) (.br 3 (.br 1 (.br 5 (.br 6 .done .nil) .nil) .nil) .nil)) .nil))) (.br 3 (.br 0 (.br 1 (.br 4 (.br 5 (.br 6 .done .nil) .nil) .nil) (.br 4 (.br 1 (.br 5 (.br 6 .done .nil) .nil) .nil) .nil)) (.br 4 (.br 0 (.br 1 (.br 5 (.br 6 .done .nil) .nil) .nil) .nil) .nil)) (.br 4 (.br 0 (.br 1 (.br 3 (.br 5 (.br 6 .done .nil) .nil) .nil) (.br 3 (.br 1 (.br 5 (.br 6 .done .nil) .nil) .nil) .nil)) (.br 3 (.br 0 (.br 1 (.br 5 (.br 6 .done .nil) .nil) .nil) .nil) .nil)) .nil))) (.br 3 (.br 0 (.br 1 (.br 2 (.br 4 (.br 5 (.br 6 .done .nil) .nil) .nil) (.br 4 (.br 2 (.br 5 (.br 6 .done .nil) .nil) (.br 5 (.br 2 (.br 6 .done .nil) .nil) .nil)) .nil)) (.br 2 (.br 1 (.br 4 (.br 5 (.br 6 .done .nil) .nil) .nil) (.br 4 (.br 1 (.br 5 (.br 6 .done .nil) .nil) .nil) .nil)) (.br 4 (.br 1 (.br 2 (.br 5 (.br 6 .done .nil) .nil) (.br 5 (.br 2 (.br 6 .done .nil) .nil) .nil)) (.br 2 (.br 1 (.br 5 (.br 6 .done .nil) .nil) .nil) .nil)) .nil))) (.br 2 (.br 0 (.br 1 (.br 4 (.br 5 (.br 6 .done .nil) .nil) .nil) (.br 4 (.br 1 (.br 5 (.br 6 .done .nil) .nil) .nil) .nil)) (.br 4 (.br 0 (.br 1 (.br 5 (.br 6 .done .nil) .nil) .nil) .nil) .nil)) (.br 4 (.br 0 (.br 1 (.br 2 (.br 5 (.br 6 .done .nil) .nil) (.br 5 (.br 2 (.br 6 .done .nil) .nil) .nil)) (.br 2 (.br 1 (.br 5 (.br 6 .done .nil) .nil) .nil) .nil)) (.br 2 (.br 0 (.br 1 (.br 5 (.br 6 .done .nil) .nil) .nil) .nil) .nil)) .nil))) (.br 4 (.br 0 (.br 1 (.br 2 (.br 3 (.br 5 (.br 6 .done .nil) .nil) .nil) (.br 3 (.br 2 (.br 5 (.br 6 .done .nil) .nil) (.br 5 (.br 2 (.br 6 .done .nil) .nil) .nil)) .nil)) (.br 2 (.br 1 (.br 3 (.br 5 (.br 6 .done .nil) .nil) .nil) (.br 3 (.br 1 (.br 5 (.br 6 .done .nil) .nil) .nil) .nil)) (.br 3 (.br 1 (.br 2 (.br 5 (.br 6 .done .nil) .nil) (.br 5 (.br 2 (.br 6 .done .nil) .nil) .nil)) (.br 2 (.br 1 (.br 5 (.br 6 .done .nil) .nil) .nil) .nil)) .nil))) (.br 2 (.br 0 (.br 1 (.br 3 (.br 5 (.br 6 .done .nil) .nil) .nil) (.br 3 (.br 1 (.br 5 (.br 6 .done .nil) .nil) .nil) .nil)) (.br 3 (.br 0 (.br 1 (.br 5 (.br 6 .done .nil) .nil) .nil) .nil) .nil)) (.br 3 (.br 0 (.br 1 (.br 2 (.br 5 (.br 6 .done .nil) .nil) (.br 5 (.br 2 (.br 6 .done .nil) .nil) .nil)) (.br 2 (.br 1 (.br 5 (.br 6 .done .nil) .nil) .nil) .nil)) (.br 2 (.br 0 (.br 1 (.br 5 (.br 6 .done .nil) .nil) .nil) .nil) .nil)) .nil))) .nil))))
def behindV (v:Vc (BitVec 32) 8) (b:List UInt8):Vc (BitVec 32) 8:=addV (foldV v (zfI b 48) 64) v 8
theorem behind_ok (v:Vc (BitVec 32) 8) (b:List UInt8) (hb:b.length=64):ACalls Tryz.prog 90 [.agg (v.l.map u32),str b] [] (fun x _=>x=.ret (.agg ((behindV v b).l.map u32))):=by
 refine ACalls.body T_ok Tryz.func90 (by kernel_rfl) rfl Tryz.ntmps90 (congrArg Array.toList Tryz.results90) ?_
 try simp -implicitDefEqProofs only [LB0,zar T113,TB,SB,Int.reduceToNat,Nat.reduceAdd,Nat.reduceEqDiff,Nat.reduceLT,Nat.reduceMod,Nat.reducePow,Nat.reduceSub,if_true,reduceIte]
 have hc:∀ (σ:zag) (K:AEnd→zag→Prop),K (.ret (.agg ((zfI b 48).l.map u32))) σ→ACalls Tryz.prog 114 [str b] σ K:=fun σ K hk=>(long_ok b hb).pure rfl (by
  rintro _ σ' rfl
  exact⟨by simp [AEnd.noid,AV.ren,zaw],hk⟩)
 refine W_drawT zh0 ([.bot,str b,.ptr 0 0,.bot,.ptr 1 0,.ptr 2 0,.ptr 3 0,.bot,.bot,.bot,.bot,.bot,.bot,.bot,.bot,.bot,.bot,.bot,.bot,.bot,.bot,.bot,.bot,.bot,.bot,.bot,.bot,.bot,.bot,.bot,.bot,.bot,.bot,.bot,.bot,.bot,.bot,.bot]) [.rw (v.l.map u32),.rw ((Vc.rep 8 0#32).l.map u32),.rw ((zfI b 48).l.map u32),.rw (v.l.map u32)] (by kernel_rfl) (by kernel_rfl) ?_ ?_
 ·unfold zh0
  try simp -implicitDefEqProofs only [LB0,zar T113,TB,SB,Int.reduceToNat,Nat.reduceAdd,Nat.reduceEqDiff,Nat.reduceLT,Nat.reduceMod,Nat.reducePow,Nat.reduceSub,if_true,reduceIte]
  repeat' (first | (with_reducible refine And.intro ?_ ?_) | (refine hc _ _ ?_;try simp -implicitDefEqProofs only [LB0,zar T113,TB,SB,Int.reduceToNat,Nat.reduceAdd,Nat.reduceEqDiff,Nat.reduceLT,Nat.reduceMod,Nat.reducePow,Nat.reduceSub,if_true,reduceIte]))
  all_goals first
   | (refine zal (q:=[0,1,2,3]) rfl rfl (by decide) ?_ ?_ <;> ((try simp only [FB,AV.ren,Nat.reduceAdd,reduceCtorEq]);done))
   | (refine zal (q:=[0,1,3,2]) rfl rfl (by decide) ?_ ?_ <;> ((try simp only [FB,AV.ren,Nat.reduceAdd,reduceCtorEq]);done))
 ·have hkl:kL.length=64:=rfl
  try simp -implicitDefEqProofs only [LB0,zar T113,TB,SB,Int.reduceToNat,Nat.reduceAdd,Nat.reduceEqDiff,Nat.reduceLT,Nat.reduceMod,Nat.reducePow,Nat.reduceSub,if_true,reduceIte]
  rw [za9]
  refine⟨Nat,fun k=>k≤64,fun k=>[.bot,.bot,.ptr 0 0,.bot,.ptr 1 0,.ptr 2 0,.ptr 3 0,.bot,.bot,.bot,.bot,.bot,i64 k,.bot,.bot,.bot,.bot,.bot,.bot,.bot,.bot,.bot,.bot,.bot,.bot,.bot,.bot,.bot,.bot,.bot,.bot,.bot,.bot,.bot,.bot,.bot,.bot,.bot],fun k=>[.rw (v.l.map u32),.rw ((Vc.rep 8 0#32).l.map u32),.rw ((zfI b 48).l.map u32),.rw ((foldV v (zfI b 48) k).l.map u32)],fun k=>64 - k,0,Nat.zero_le _,?_,?_⟩
  ·refine zal (q:=[0,1,2,3]) rfl rfl (by decide) ?_ ?_
   ·try simp only [FB,AV.ren,Nat.reduceAdd,reduceCtorEq]
    try simp
   ·try simp only [FB,AV.ren,Nat.reduceAdd,reduceCtorEq]
    try rfl
  ·intro k hk
   have hlw:=(zfI b 48).h
   try simp -implicitDefEqProofs only [LB0,zar T113,TB,SB,Int.reduceToNat,Nat.reduceAdd,Nat.reduceEqDiff,Nat.reduceLT,Nat.reduceMod,Nat.reducePow,Nat.reduceSub,if_true,reduceIte]
   refine⟨fun hlt=>?_,fun hge=>?_⟩
   ·refine zbg [9] (by kernel_rfl) (by kernel_rfl) (by kernel_rfl) ?_
    try simp -implicitDefEqProofs only [LB0,zar T113,TB,SB,Int.reduceToNat,Nat.reduceAdd,Nat.reduceEqDiff,Nat.reduceLT,Nat.reduceMod,Nat.reducePow,Nat.reduceSub,if_true,reduceIte]
    repeat (with_reducible refine zaW ?_)
    refine zbt (step_ok _ _) (by first | rfl | simp [renL,AV.ren,zaw,zaf str zae,zaL,zaB,zaA,zaj,zax,zae]) (by first | rfl | simp [AEnd.noid,AV.ren,renL,zaw,zaL,zaB,zaA,zaj,zax,zae]) ?_
    try simp -implicitDefEqProofs only [LB0,zar T113,TB,SB,Int.reduceToNat,Nat.reduceAdd,Nat.reduceEqDiff,Nat.reduceLT,Nat.reduceMod,Nat.reducePow,Nat.reduceSub,if_true,reduceIte]
    repeat (with_reducible refine zaW ?_)
    rw [zan]
    refine⟨k+1,by omega,by omega,zal (q:=[0,1,2,3]) rfl rfl (by decide) ?_ ?_⟩
    ·try simp only [FB,AV.ren,Nat.reduceAdd,reduceCtorEq]
     try simp
    ·try simp only [FB,AV.ren,Nat.reduceAdd,reduceCtorEq]
     try rfl
   ·obtain rfl:k=64:=by omega
    try simp -implicitDefEqProofs only [LB0,zar T113,TB,SB,Int.reduceToNat,Nat.reduceAdd,Nat.reduceEqDiff,Nat.reduceLT,Nat.reduceMod,Nat.reducePow,Nat.reduceSub,if_true,reduceIte]
    rw [za9]
    refine⟨Nat,fun k=>k≤8,fun k=>[.bot,.bot,.ptr 0 0,.bot,.ptr 1 0,.bot,.ptr 3 0,.bot,.bot,.bot,.bot,.bot,.bot,.bot,.bot,.bot,.bot,.bot,.bot,.bot,.bot,.bot,.bot,.bot,.bot,i64 k,.bot,.bot,.bot,.bot,.bot,.bot,.bot,.bot,.bot,.bot,.bot,.bot],fun k=>[.rw (v.l.map u32),.rw ((Vc.rep 8 0#32).l.map u32),.rw ((zfI b 48).l.map u32),.rw ((addV (foldV v (zfI b 48) 64) v k).l.map u32)],fun k=>8 - k,0,Nat.zero_le _,?_,?_⟩
    ·refine zal (q:=[0,1,2,3]) rfl rfl (by decide) ?_ ?_
     ·try simp only [FB,AV.ren,Nat.reduceAdd,reduceCtorEq]
      try simp
     ·try simp only [FB,AV.ren,Nat.reduceAdd,reduceCtorEq]
      try rfl
    ·intro k hk
     have hlv:=v.h
     have hly:=(addV (foldV v (zfI b 48) 64) v k).h
     try simp -implicitDefEqProofs only [LB0,zar T113,TB,SB,Int.reduceToNat,Nat.reduceAdd,Nat.reduceEqDiff,Nat.reduceLT,Nat.reduceMod,Nat.reducePow,Nat.reduceSub,if_true,reduceIte]
     refine⟨fun hlt=>?_,fun hge=>?_⟩
     ·refine zbg [8] (by kernel_rfl) (by kernel_rfl) (by kernel_rfl) ?_
      try simp -implicitDefEqProofs only [LB0,zar T113,TB,SB,Int.reduceToNat,Nat.reduceAdd,Nat.reduceEqDiff,Nat.reduceLT,Nat.reduceMod,Nat.reducePow,Nat.reduceSub,if_true,reduceIte]
      repeat (with_reducible refine zaW ?_)
      try simp -implicitDefEqProofs only [LB0,zar T113,TB,SB,Int.reduceToNat,Nat.reduceAdd,Nat.reduceEqDiff,Nat.reduceLT,Nat.reduceMod,Nat.reducePow,Nat.reduceSub,if_true,reduceIte]
      repeat (with_reducible refine zaW ?_)
      rw [zan]
      refine⟨k+1,by omega,by omega,zal (q:=[0,1,2,3]) rfl rfl (by decide) ?_ ?_⟩
      ·try simp only [FB,AV.ren,Nat.reduceAdd,reduceCtorEq]
       try simp
      ·try simp only [FB,AV.ren,Nat.reduceAdd,reduceCtorEq]
       try rfl
     ·obtain rfl:k=8:=by omega
      try simp -implicitDefEqProofs only [LB0,zar T113,TB,SB,Int.reduceToNat,Nat.reduceAdd,Nat.reduceEqDiff,Nat.reduceLT,Nat.reduceMod,Nat.reducePow,Nat.reduceSub,if_true,reduceIte]
      exact zgm rfl
def be4 (x:BitVec 32):List UInt8:=bigL (x.setWidth 64) 4
theorem zh1 (x:BitVec 32):(be4 x).length=4:=by simp [be4,bigL,lowL]
def zir (v:Vc (BitVec 32) 8):Nat→List UInt8
 | 0=>[]
 | k+1=>zir v k++be4 (v.l.getD k 0#32)
theorem zeZ (v:Vc (BitVec 32) 8):∀ k,(zir v k).length=4 * k
 | 0=>rfl
 | k+1=>by simp only [zir,List.length_append,zeZ v k,zh1];omega
theorem text8_ok (v:Vc (BitVec 32) 8):ACalls Tryz.prog 93 [.agg (v.l.map u32)] [] (fun x _=>x=.ret (str (zir v 8))):=by
 refine ACalls.body T_ok Tryz.func93 (by kernel_rfl) rfl Tryz.ntmps93 (congrArg Array.toList Tryz.results93) ?_
 try simp -implicitDefEqProofs only [LB0,zar T113,TB,SB,Int.reduceToNat,Nat.reduceAdd,Nat.reduceEqDiff,Nat.reduceLT,Nat.reduceMod,Nat.reducePow,Nat.reduceSub,if_true,reduceIte]
 rw [za9]
 refine⟨Nat,fun k=>k≤8,fun k=>[.bot,.bot,.bot,str (zir v k),.bot,.bot,.agg (v.l.map u32),i64 k,.bot,.bot,.bot,.bot,.bot,.bot,.bot,.bot,.bot],fun k=>[.rw (v.l.map u32)],fun k=>8 - k,0,Nat.zero_le _,?_,?_⟩
 ·refine zal (q:=[0]) rfl rfl (by decide) ?_ ?_
  ·try simp only [FB,AV.ren,Nat.reduceAdd,reduceCtorEq]
   try simp [zir]
  ·try simp only [FB,AV.ren,Nat.reduceAdd,reduceCtorEq]
   try rfl
 ·intro k hk
  have hlv:=v.h
  have hlt:=zeZ v k
  try simp -implicitDefEqProofs only [LB0,zar T113,TB,SB,Int.reduceToNat,Nat.reduceAdd,Nat.reduceEqDiff,Nat.reduceLT,Nat.reduceMod,Nat.reducePow,Nat.reduceSub,if_true,reduceIte]
  refine⟨fun hlt=>?_,fun hge=>?_⟩
  ·repeat (with_reducible refine zaW ?_)
   try simp -implicitDefEqProofs only [LB0,zar T113,TB,SB,Int.reduceToNat,Nat.reduceAdd,Nat.reduceEqDiff,Nat.reduceLT,Nat.reduceMod,Nat.reducePow,Nat.reduceSub,if_true,reduceIte]
   repeat (with_reducible refine zaW ?_)
   refine(zi1 _ _).pure rfl ?_
   rintro _ σ rfl
   refine⟨rfl,?_⟩
   try simp -implicitDefEqProofs only [LB0,zar T113,TB,SB,Int.reduceToNat,Nat.reduceAdd,Nat.reduceEqDiff,Nat.reduceLT,Nat.reduceMod,Nat.reducePow,Nat.reduceSub,if_true,reduceIte]
   rw [show zcP 4=4 from rfl,Int.toNat_natCast]
   have hbl:=zh1 (v.l.getD k 0#32)
   unfold be4 at hbl
   repeat (with_reducible refine zaW ?_)
   rw [zan]
   refine⟨k+1,by omega,by omega,zal (q:=[0]) rfl rfl (by decide) ?_ ?_⟩
   ·try simp only [FB,AV.ren,Nat.reduceAdd,reduceCtorEq]
    try simp
    exact .inr (by simp [zir,be4])
   ·try simp only [FB,AV.ren,Nat.reduceAdd,reduceCtorEq]
    try rfl
  ·obtain rfl:k=8:=by omega
   try simp -implicitDefEqProofs only [LB0,zar T113,TB,SB,Int.reduceToNat,Nat.reduceAdd,Nat.reduceEqDiff,Nat.reduceLT,Nat.reduceMod,Nat.reducePow,Nat.reduceSub,if_true,reduceIte]
   exact zcO rfl
end Go.Proofs.YtdmiflfhaobngaaGreatDoor
end

section
namespace Go.Proofs.YtdmiflfhaobngaaGreatDoor
open Go Go.Eng
set_option linter.defProp false in
def LB1:=And.intro @leI_nil (And.intro @leI_bot (And.intro @leI_same (@leI_cons)))
set_option linter.defProp false in
def LB2:=And.intro @bren_ro (@bren_rt)
set_option linter.defProp false in
def LB3:=And.intro @zbm (And.intro @bren_dead (@bren_lp))
set_option linter.defProp false in
def LB4:=And.intro @zae (And.intro @zaj (@zax))
set_option linter.defProp false in
def LB5:=And.intro @zaw (And.intro @zaL (And.intro @zaB (@zaA)))
set_option linter.defProp false in
def LM5:=And.intro LB2 (And.intro LB3 (And.intro LB4 (LB5)))
def stC (v:Vc (BitVec 32) 8) (r:List UInt8) (n:Int):List AV:=v.l.map u32++[str r,i64 n]
theorem zbz (q:List Nat) (v:Vc (BitVec 32) 8) (r:List UInt8) (n:Int):renL q (stC v r n)=some (stC v r n):=by
 have h:∀ (l m:List AV),renL q l=some l→renL q m=some m→renL q (l++m)=some (l++m):=by
  intro l
  induction l with
  | nil=>intro m _ h;simpa using h
  | cons a l ih =>
   intro m h1 h2
   simp only [renL,Option.bind_eq_some_iff,Option.map_eq_some_iff] at h1
   obtain⟨a',e1,l',e2,e3⟩:=h1
   injection e3 with e4 e5
   subst e4 e5
   simp only [List.cons_append,renL,e1,ih m e2 h2,Option.bind_some,Option.map_some]
 exact h _ _ (zaw q _) rfl
theorem fS0 (id:Nat) (K:AV→Prop):zap T 148 (.ptr id 0) 0 K=K (.ptr id 0):=by
 simp [zap,T148,zdC,T146,zcm,zcx]
theorem fS1 (id:Nat) (K:AV→Prop):zap T 148 (.ptr id 0) 1 K=K (.ptr id 8):=by
 simp [zap,T148,zdC,T9,tyStr]
theorem fS2 (id:Nat) (K:AV→Prop):zap T 148 (.ptr id 0) 2 K=K (.ptr id 9):=by
 simp [zap,T148,zdC,T3,zbB]
theorem ldS0 (v:Vc (BitVec 32) 8) (r:List UInt8) (n:Int) (K:AV→Prop):ld2 (some (zcm 8 113 zcx)) (some (stC v r n)) 0 K=K (.agg (v.l.map u32)):=ld_arr32a _ _ _
theorem ldS1 (v:Vc (BitVec 32) 8) (r:List UInt8) (n:Int) (K:AV→Prop):ld2 (some tyStr) (some (stC v r n)) 8 K=K (str r):=by
 have h:=v.h
 simp [ld2,wfin,tyStr,TD.agg,stC,List.drop_append,h]
theorem ldS2 (v:Vc (BitVec 32) 8) (r:List UInt8) (n:Int) (K:AV→Prop):ld2 (some zbB) (some (stC v r n)) 9 K=K (i64 n):=by
 have h:=v.h
 simp [ld2,wfin,zbB,TD.agg,stC,List.drop_append,h]
theorem ldS (v:Vc (BitVec 32) 8) (r:List UInt8) (n:Int) (K:AV→Prop):ld2 (some zdC) (some (stC v r n)) 0 K=K (.agg (stC v r n)):=by
 have h:=v.h
 have e:(stC v r n).length=10:=by simp [stC,h]
 simp only [ld2,wfin,zdC,TD.agg,List.drop_zero,e,Nat.le_refl,true_and,if_true]
 rw [List.take_of_length_le (by omega)]
theorem stS0 (v v':Vc (BitVec 32) 8) (r:List UInt8) (n:Int) (id:Nat) (σ:zag) (K:AV→zag→Prop):st2 (some (zcm 8 113 zcx)) (some (.rw (stC v r n))) id 0 (.agg (v'.l.map u32)) σ K=K (.lit undef) (σ.set id (.rw (stC v' r n))):=st_arr32a _ _ _ _ _
theorem all_stC (v:Vc (BitVec 32) 8) (r:List UInt8) (n:Int):(stC v r n).all AV.one=true:=by
 simp only [stC,List.all_append,zfH,Bool.true_and];rfl
theorem stS (v v':Vc (BitVec 32) 8) (r r':List UInt8) (n n':Int) (id:Nat) (σ:zag) (K:AV→zag→Prop):st2 (some zdC) (some (.rw (stC v r n))) id 0 (.agg (stC v' r' n')) σ K=K (.lit undef) (σ.set id (.rw (stC v' r' n'))):=by
 have e:∀ v r n,(stC v r n).length=10:=fun v r n=>by simp [stC,v.h]
 have:=zhg (stC v r n) (stC v' r' n') [] [] (by rw [e,e])
 simp only [List.nil_append,List.length_nil,List.append_nil] at this
 simp only [st2,AV.cells,e,zdC,all_stC,true_and,this,Nat.zero_add,Nat.le_refl]
theorem alS (e0:TypeId) (σ:zag) (K:AV→zag→Prop):al1 T e0 (some zdC) σ K=K (.ptr σ.length 0) (σ++[.rw (stC (Vc.rep 8 0#32) [] 0)]):=by
 rfl
theorem zcH (v:Vc (BitVec 32) 8) (K:AV→Prop):zaQ T 148 [(0,.agg (v.l.map u32))] K=K (.agg (stC v [] 0)):=by
 obtain⟨l,h⟩:=v
 match l,h with
 | [a,b,c,d,e,f,g,i],h =>
  simp only [zaQ,T148,zdC,T146,T9,T3]
  simp [zbs,zcm,zcx,zaK,u32,AV.cells,AV.one,Value.oneCell',zbc,stC,str,i64,T146]
  intro _
  exact⟨by rw [T9];rfl,by rw [T3];rfl⟩
theorem boxS {eB:TypeId} (v:Vc (BitVec 32) 8) (r:List UInt8) (n:Int) (σ:zag) (K:AV→zag→Prop):wbox eB (.agg (stC v r n)) σ K=K (.ptr σ.length 0) (σ++[.rw (stC v r n)]):=by
 simp only [wbox,AV.cells,all_stC,true_and,show zdb (stC v r n)=false from by cases v;rename_i l h;cases l <;> first | rfl | (simp at h),Bool.false_eq_true,if_false]
theorem lenS (v:Vc (BitVec 32) 8) (r:List UInt8) (n:Int):(stC v r n).length=10:=by simp [stC,v.h]
theorem zed (v:Vc (BitVec 32) 8) (r r':List UInt8) (n:Int):(stC v r n).set 8 (str r')=stC v r' n:=by
 have h:=v.h
 simp only [stC]
 rw [List.set_append_right _ _ (by simp [h])]
 simp [h]
theorem zee (v:Vc (BitVec 32) 8) (r:List UInt8) (n n':Int):(stC v r n).set 9 (i64 n')=stC v r n':=by
 have h:=v.h
 simp only [stC]
 rw [List.set_append_right _ _ (by simp [h])]
 simp [h]
theorem endQ_st {v:Vc (BitVec 32) 8} {r:List UInt8} {n:Int} {x y:AV} {rest:zag} {K:AV→zag→Prop} (h1:x.ren [0]=some y) (hxy:x=y) (h:K x [.rw (stC v r n)]):endQ 1 y (.rw (stC v r n)::rest) K :=
 .inl ⟨[0],x,[.rw (stC v r n)],rfl,rfl,by decide,h1,by simp [zao,Blk.ren,zbz],h⟩
theorem new_ok:ACalls Tryz.prog 59 [] [] (fun x σ=>x=.ret (.ptr 0 0)∧σ=[.rw (stC firstV [] 0)]):=by
 refine ACalls.body T_ok Tryz.func59 (by kernel_rfl) rfl Tryz.ntmps59 (congrArg Array.toList Tryz.results59) ?_
 try simp -implicitDefEqProofs only [LB0,zar T113,lenS,zed,zee,fS0,fS1,fS2,ldS0,ldS1,ldS2,ldS,stS0,stS,alS,zcH,boxS,TB,SB,Int.reduceToNat,Nat.reduceAdd,Nat.reduceEqDiff,Nat.reduceLT,Nat.reduceMod,Nat.reducePow,Nat.reduceSub,if_true,reduceIte]
 exact zbi ⟨rfl,rfl⟩
theorem clone_ok (v:Vc (BitVec 32) 8) (r:List UInt8) (n:Int):ACalls Tryz.prog 91 [.ptr 0 0] [.rw (stC v r n)] (fun x σ=>x=.ret (.ptr 1 0)∧σ=[.rw (stC v r n),.rw (stC v r n)]):=by
 refine ACalls.body T_ok Tryz.func91 (by kernel_rfl) rfl Tryz.ntmps91 (congrArg Array.toList Tryz.results91) ?_
 try simp -implicitDefEqProofs only [LB0,zar T113,lenS,zed,zee,fS0,fS1,fS2,ldS0,ldS1,ldS2,ldS,stS0,stS,alS,zcH,boxS,TB,SB,Int.reduceToNat,Nat.reduceAdd,Nat.reduceEqDiff,Nat.reduceLT,Nat.reduceMod,Nat.reducePow,Nat.reduceSub,if_true,reduceIte]
 exact zbi ⟨rfl,rfl⟩
def blk (s:List UInt8) (i:Nat):List UInt8:=(s.take ((i+1) * 64)).drop (i * 64)
theorem blocks1_ok (s : List UInt8) (hs : s.length ≤ 1000000000000) (id p : Nat) (S : Nat → zag) (hS : ∀ i, rd (S i) p = some [str s]) (hY : ∀ i, i < s.length / 64 → AYield Tryz.prog id [str (blk s i)] (S i) (fun x σ' => x = .ret (bl true) ∧ σ' = S (i + 1))) :
  ACalls Tryz.prog 113 [.yl id, .ptr p 0] (S 0) (fun x σ' => x = .ret (.tup []) ∧ σ' = S (s.length / 64)) := by
 refine ACalls.body T_ok Tryz.func113 (by kernel_rfl) rfl Tryz.ntmps113 (congrArg Array.toList Tryz.results113) ?_
 try simp -implicitDefEqProofs only [LB0,zar T113,lenS,zed,zee,fS0,fS1,fS2,ldS0,ldS1,ldS2,ldS,stS0,stS,alS,zcH,boxS,hS 0,TB,SB,Int.reduceToNat,Nat.reduceAdd,Nat.reduceEqDiff,Nat.reduceLT,Nat.reduceMod,Nat.reducePow,Nat.reduceSub,if_true,reduceIte]
 rw [show ((s.length:Int).tdiv 64)=((s.length / 64:Nat):Int) from rfl]
 repeat (with_reducible refine zaW ?_)
 rw [za9]
 refine⟨Nat,fun k=>k≤s.length / 64,fun k=>[.yl id,.ptr p 0,.bot,.bot,.bot,.bot,i64 ((s.length / 64:Nat):Int),i64 k,.bot,.bot,.bot,.bot,.bot,.bot,.bot,.bot,.bot,.bot,.bot,.bot,.bot],S,fun k=>s.length / 64 - k,0,Nat.zero_le _,zdA ?_,?_⟩
 ·try simp only [LB1,List.getElem?_cons_zero,true_and,and_true,or_true,true_or,reduceCtorEq,false_or]
  exact .inr rfl
 ·intro k hk
  try simp -implicitDefEqProofs only [LB0,zar T113,lenS,zed,zee,fS0,fS1,fS2,ldS0,ldS1,ldS2,ldS,stS0,stS,alS,zcH,boxS,hS k,TB,SB,Int.reduceToNat,Nat.reduceAdd,Nat.reduceEqDiff,Nat.reduceLT,Nat.reduceMod,Nat.reducePow,Nat.reduceSub,if_true,reduceIte]
  refine⟨fun hlt=>?_,fun hge=>?_⟩
  ·have hk':k < s.length / 64:=by omega
   repeat (with_reducible refine zaW ?_)
   have e:List.drop ((k:Int) * 64).toNat (List.take (((k:Int)+1) * 64).toNat s)=blk s k:=by
    rw [blk]
    congr 2 <;> omega
   rw [e]
   refine(hY k hk').mono ?_
   rintro _ σ' ⟨rfl, rfl⟩
   try simp -implicitDefEqProofs only [LB0,zar T113,lenS,zed,zee,fS0,fS1,fS2,ldS0,ldS1,ldS2,ldS,stS0,stS,alS,zcH,boxS,TB,SB,Int.reduceToNat,Nat.reduceAdd,Nat.reduceEqDiff,Nat.reduceLT,Nat.reduceMod,Nat.reducePow,Nat.reduceSub,if_true,reduceIte]
   repeat (with_reducible refine zaW ?_)
   rw [zan]
   refine⟨k+1,by omega,by omega,zdA ?_⟩
   try simp only [LB1,List.getElem?_cons_zero,true_and,and_true,or_true,true_or,reduceCtorEq,false_or]
   exact .inr rfl
  ·obtain rfl:k=s.length / 64:=by omega
   try simp -implicitDefEqProofs only [LB0,zar T113,lenS,zed,zee,fS0,fS1,fS2,ldS0,ldS1,ldS2,ldS,stS0,stS,alS,zcH,boxS,TB,SB,Int.reduceToNat,Nat.reduceAdd,Nat.reduceEqDiff,Nat.reduceLT,Nat.reduceMod,Nat.reducePow,Nat.reduceSub,if_true,reduceIte]
   exact zbi ⟨rfl,rfl⟩
def zcW (v:Vc (BitVec 32) 8) (s:List UInt8):Nat→Vc (BitVec 32) 8
 | 0=>v
 | k+1=>behindV (zcW v s k) (blk s k)
def zc7 (v:Vc (BitVec 32) 8) (s:List UInt8):Vc (BitVec 32) 8:=zcW v s (s.length / 64)
def left (s:List UInt8):List UInt8:=s.drop (s.length / 64 * 64)
theorem blk_length (s:List UInt8) (k:Nat) (h:k < s.length / 64):(blk s k).length=64:=by
 simp only [blk,List.length_drop,List.length_take];omega
theorem zcs (env:Env) (t:Tmp) (a:AV):setp env [t] [a]=env.set t a:=rfl
theorem write_loop {v:Vc (BitVec 32) 8} {r t:List UInt8} {m:Int} {env:List AV} {ps:Array Tmp} {A B:Code} {K:AEnd→zag→Prop} (ht:t.length≤1000000000000)
  (hY : ∀ k, k < t.length / 64 → AYield Tryz.prog 3 [str (blk t k)] [.rw (stC (zcW v t k) r m), .rw [.ptr 0 0], .rw [str t], .lp .ready none env ps A B] (fun x σ' => x = .ret (bl true) ∧ σ' = [.rw (stC (zcW v t (k + 1)) r m), .rw [.ptr 0 0], .rw [str t], .lp .ready none env ps A B]))
  (hK:K (.ret (.tup [])) [.rw (stC (zc7 v t) r m),.rw [.ptr 0 0],.rw [str t],.lp .ready none env ps A B]) :
  ACalls Tryz.prog 113 [.yl 3,.ptr 2 0] [.rw (stC v r m),.rw [.ptr 0 0],.rw [str t],.lp .ready none env ps A B] K :=
 (blocks1_ok t ht 3 2 (fun k=>[.rw (stC (zcW v t k) r m),.rw [.ptr 0 0],.rw [str t],.lp .ready none env ps A B]) (fun _=>rfl) hY).mono (by
  rintro _ _ ⟨rfl,rfl⟩
  exact hK)
theorem write_ok (v:Vc (BitVec 32) 8) (r:List UInt8) (n:Int) (s:List UInt8) (hr:r.length < 64) (hs:s.length≤100000000000) (hn:0≤n∧n≤100000000000):ACalls Tryz.prog 60 [.ptr 0 0,str s] [.rw (stC v r n)] (fun x σ=>x=.ret (.tup [])∧σ=[.rw (stC (zc7 v (r++s)) (left (r++s)) (n+s.length))]):=by
 refine ACalls.body T_ok Tryz.func60 (by kernel_rfl) rfl Tryz.ntmps60 (congrArg Array.toList Tryz.results60) ?_
 try simp -implicitDefEqProofs only [LB0,zar T113,lenS,zed,zee,fS0,fS1,fS2,ldS0,ldS1,ldS2,ldS,stS0,stS,alS,zcH,boxS,zcs,TB,SB,Int.reduceToNat,Nat.reduceAdd,Nat.reduceEqDiff,Nat.reduceLT,Nat.reduceMod,Nat.reducePow,Nat.reduceSub,if_true,reduceIte]
 repeat (with_reducible refine zaW ?_)
 try simp -implicitDefEqProofs only [LB0,zar T113,lenS,zed,zee,fS0,fS1,fS2,ldS0,ldS1,ldS2,ldS,stS0,stS,alS,zcH,boxS,zcs,TB,SB,Int.reduceToNat,Nat.reduceAdd,Nat.reduceEqDiff,Nat.reduceLT,Nat.reduceMod,Nat.reducePow,Nat.reduceSub,if_true,reduceIte]
 repeat (with_reducible refine zaW ?_)
 refine⟨fun h0=>?_,fun h0=>?_⟩
 all_goals obtain⟨t,ht⟩:∃ t,t=r++s:=⟨_,rfl⟩
 all_goals have htl:t.length≤200000000000:=by rw [ht,List.length_append];omega
 all_goals first
  | (have h1:r=[]:=List.eq_nil_of_length_eq_zero (by omega)
     rw [← ht,show str s=str t by rw [ht,h1];rfl])
  | (repeat (with_reducible refine zaW ?_)
     rw [← ht])
 all_goals
  refine ACalls.frame ([]) (blocks_ok t) rfl (by decide) (by simp [LM5,zao,zas,renL,AV.ren,AEnd.ren,zbz,List.getElem?_cons_zero,List.getElem?_cons_succ]) (by first | rfl | simp [LM5,zao,zas,renL,AV.ren,AEnd.ren,zbz,List.getElem?_cons_zero,List.getElem?_cons_succ]) ?_
  rintro _ _ ⟨rfl,rfl⟩
  refine⟨.ret (.fn (.func 113) [] [.ptr 2 0]),[.rw (stC v r (n+(s.length:Int))),.rw [.ptr 0 0],.rw [str t]],(by show zas _ _ ([1,1,0]) ([1,1,0]) 0 _;simp [LM5,zao,zas,renL,AV.ren,AEnd.ren,zbz,List.getElem?_cons_zero,List.getElem?_cons_succ]),(by show AEnd.ren ([1,1,0]) _ _;first | rfl | simp [LM5,zao,zas,renL,AV.ren,AEnd.ren,zbz,List.getElem?_cons_zero,List.getElem?_cons_succ]),?_⟩
  try simp -implicitDefEqProofs only [LB0,zar T113,lenS,zed,zee,fS0,fS1,fS2,ldS0,ldS1,ldS2,ldS,stS0,stS,alS,zcH,boxS,zcs,TB,SB,Int.reduceToNat,Nat.reduceAdd,Nat.reduceEqDiff,Nat.reduceLT,Nat.reduceMod,Nat.reducePow,Nat.reduceSub,if_true,reduceIte]
  refine⟨by kernel_rfl,?_⟩
  refine write_loop (by omega) (fun k hk=>?_) ?_
  ·refine AYield.of T_ok rfl rfl rfl rfl ?_
   try simp -implicitDefEqProofs only [LB0,zar T113,lenS,zed,zee,fS0,fS1,fS2,ldS0,ldS1,ldS2,ldS,stS0,stS,alS,zcH,boxS,zcs,TB,SB,Int.reduceToNat,Nat.reduceAdd,Nat.reduceEqDiff,Nat.reduceLT,Nat.reduceMod,Nat.reducePow,Nat.reduceSub,if_true,reduceIte]
   refine⟨_,_,_,rfl,?_⟩
   try simp -implicitDefEqProofs only [LB0,zar T113,lenS,zed,zee,fS0,fS1,fS2,ldS0,ldS1,ldS2,ldS,stS0,stS,alS,zcH,boxS,zcs,TB,SB,Int.reduceToNat,Nat.reduceAdd,Nat.reduceEqDiff,Nat.reduceLT,Nat.reduceMod,Nat.reducePow,Nat.reduceSub,if_true,reduceIte]
   refine zbg [9] (by kernel_rfl) (by kernel_rfl) (by kernel_rfl) ?_
   try simp -implicitDefEqProofs only [LB0,zar T113,lenS,zed,zee,fS0,fS1,fS2,ldS0,ldS1,ldS2,ldS,stS0,stS,alS,zcH,boxS,zcs,TB,SB,Int.reduceToNat,Nat.reduceAdd,Nat.reduceEqDiff,Nat.reduceLT,Nat.reduceMod,Nat.reducePow,Nat.reduceSub,if_true,reduceIte]
   refine zbt (behind_ok _ _ (blk_length t k hk)) (by first | rfl | simp [renL,AV.ren,zaw,zaf str zae,zaL,zaB,zaA,zaj,zax,zae]) (by first | rfl | simp [AEnd.noid,AV.ren,renL,zaw,zaL,zaB,zaA,zaj,zax,zae]) ?_
   try simp -implicitDefEqProofs only [LB0,zar T113,lenS,zed,zee,fS0,fS1,fS2,ldS0,ldS1,ldS2,ldS,stS0,stS,alS,zcH,boxS,zcs,TB,SB,Int.reduceToNat,Nat.reduceAdd,Nat.reduceEqDiff,Nat.reduceLT,Nat.reduceMod,Nat.reducePow,Nat.reduceSub,if_true,reduceIte]
   refine⟨_,_,_,_,rfl,rfl,?_⟩
   rfl
  ·refine⟨_,_,_,_,_,_,rfl,by simp,?_⟩
   try simp -implicitDefEqProofs only [LB0,zar T113,lenS,zed,zee,fS0,fS1,fS2,ldS0,ldS1,ldS2,ldS,stS0,stS,alS,zcH,boxS,zcs,TB,SB,Int.reduceToNat,Nat.reduceAdd,Nat.reduceEqDiff,Nat.reduceLT,Nat.reduceMod,Nat.reducePow,Nat.reduceSub,if_true,reduceIte]
   refine zbg [9] (by kernel_rfl) (by kernel_rfl) (by kernel_rfl) ?_
   try simp -implicitDefEqProofs only [LB0,zar T113,lenS,zed,zee,fS0,fS1,fS2,ldS0,ldS1,ldS2,ldS,stS0,stS,alS,zcH,boxS,zcs,TB,SB,Int.reduceToNat,Nat.reduceAdd,Nat.reduceEqDiff,Nat.reduceLT,Nat.reduceMod,Nat.reducePow,Nat.reduceSub,if_true,reduceIte]
   rw [show ((t.length:Int).tdiv 64)=((t.length / 64:Nat):Int) from rfl]
   repeat (with_reducible refine zaW ?_)
   rw [show (((t.length / 64:Nat):Int) * 64).toNat=t.length / 64 * 64 by omega]
   exact endQ_st rfl rfl ⟨rfl,rfl⟩
def pw (m:Nat):List UInt8:=bigL (8#64 * BitVec.ofInt 64 m) 8
theorem pw_length (m:Nat):(pw m).length=8:=by simp [pw,bigL,lowL]
def padL (n:Int):List UInt8:=if n < 0 then [] else (128::List.replicate ((64 - (n.toNat % 64+9) % 64) % 64) 0)++pw n.toNat
def padTree:Tr:=(.br 0 (.br 1 (.br 2 (.br 3 (.br 4 (.br 5 (.br 6 (.br 7 (.br 8 (.br 9 .done .nil) .nil) .nil) .nil) .nil) .nil) (.br 4 (.br 3 (.br 5 (.br 6 (.br 7 (.br 8 (.br 9 .done .nil) .nil) .nil) .nil) .nil) (.br 5 (.br 3 (.br 6 (.br 7 (.br 8 (.br 9 .done .nil) .nil) .nil) .nil) (.br 6 (.br 3 (.br 7 (.br 8 (.br 9 .done .nil) .nil) .nil) (.br 7 (.br 3 (.br 8 (.br 9 .done .nil) .nil) .nil) .nil)) .nil)) .nil)) .nil)) (.br 4 (.br 2 (.br 3 (.br 5 (.br 6 (.br 7 (.br 8 (.br 9 .done .nil) .nil) .nil) .nil) .nil) (.br 5 (.br 3 (.br 6 (.br 7 (.br 8 (.br 9 .done .nil) .nil) .nil) .nil) (.br 6 (.br 3 (.br 7 (.br 8 (.br 9 .done .nil) .nil) .nil) (.br 7 (.br 3 (.br 8 (.br 9 .done .nil) .nil) .nil) .nil)) .nil)) .nil)) (.br 5 (.br 2 (.br 3 (.br 6 (.br 7 (.br 8 (.br 9 .done .nil) .nil) .nil) .nil) (.br 6 (.br 3 (.br 7 (.br 8 (.br 9 .done .nil) .nil) .nil) (.br 7 (.br 3 (.br 8 (.br 9 .done .nil) .nil) .nil) .nil)) .nil)) (.br 6 (.br 2 (.br 3 (.br 7 (.br 8 (.br 9 .done .nil) .nil) .nil) (.br 7 (.br 3 (.br 8 (.br 9 .done .nil) .nil) .nil) .nil)) (.br 7 (.br 2 (.br 3 (.br 8 (.br 9 .done .nil) .nil) .nil) .nil) .nil)) .nil)) .nil)) .nil)) (.br 4 (.br 1 (.br 2 (.br 3 (.br 5 (.br 6 (.br 7 (.br 8 (.br 9 .done .nil) .nil) .nil) .nil) .nil) (.br 5 (.br 3 (.br 6 (.br 7 (.br 8 (.br 9 .done .nil) .nil) .nil) .nil) (.br 6 (.br 3 (.br 7 (.br 8 (.br 9 .done .nil) .nil) .nil) (.br 7 (.br 3 (.br 8 (.br 9 .done .nil) .nil) .nil) .nil)) .nil)) .nil)) (.br 5 (.br 2 (.br 3 (.br 6 (.br 7 (.br 8 (.br 9 .done .nil) .nil) .nil) .nil) (.br 6 (.br 3 (.br 7 (.br 8 (.br 9 .done .nil) .nil) .nil) (.br 7 (.br 3 (.br 8 (.br 9 .done .nil) .nil) .nil) .nil)) .nil)) (.br 6 (.br 2 (.br 3 (.br 7 (.br 8 (.br 9 .done .nil) .nil) .nil) (.br 7 (.br 3 (.br 8 (.br 9 .done .nil) .nil) .nil) .nil)) (.br 7 (.br 2 (.br 3 (.br 8 (.br 9 .done .nil) .nil) .nil) .nil) .nil)) .nil)) .nil)) (.br 5 (.br 1 (.br 2 (.br 3 (.br 6 (.br 7 (.br 8 (.br 9 .done .nil) .nil) .nil) .nil) (.br 6 (.br 3 (.br 7 (.br 8 (.br 9 .done .nil) .nil) .nil) (.br 7 (.br 3 (.br 8 (.br 9 .done .nil) .nil) .nil) .nil)) .nil)) (.br 6 (.br 2 (.br 3 (.br 7 (.br 8 (.br 9 .done .nil) .nil) .nil) (.br 7 (.br 3 (.br 8 (.br 9 .done .nil) .nil) .nil) .nil)) (.br 7 (.br 2 (.br 3 (.br 8 (.br 9 .done .nil) .nil) .nil) .nil) .nil)) .nil)) (.br 6 (.br 1 (.br 2 (.br 3 (.br 7 (.br 8 (.br 9 .done .nil) .nil) .nil) (.br 7 (.br 3 (.br 8 (.br 9 .done .nil) .nil) .nil) .nil)) (.br 7 (.br 2 (.br 3 (.br 8 (.br 9 .done .nil) .nil) .nil) .nil) .nil)) (.br 7 (.br 1 (.br 2 (.br 3 (.br 8 (.br 9 .done .nil) .nil) .nil) .nil) .nil) .nil)) .nil)) .nil)) .nil)) (.br 4 (.br 0 (.br 1 (.br 2 (.br 3 (.br 5 (.br 6 (.br 7 (.br 8 (.br 9 .done .nil) .nil) .nil) .nil) .nil) (.br 5 (.br 3 (.br 6 (.br 7 (.br 8 (.br 9 .done .nil) .nil) .nil) .nil) (.br 6 (.br 3 (.br 7 (.br 8 (.br 9 .done .nil) .nil) .nil) (.br 7 (.br 3 (.br 8 (.br 9 .done .nil) .nil) .nil) .nil)) .nil)) .nil)) (.br 5 (.br 2 (.br 3 (.br 6 (.br 7 (.br 8 (.br 9 .done .nil) .nil) .nil) .nil) (.br 6 (.br 3 (.br 7 (.br 8 (.br 9 .done .nil) .nil) .nil) (.br 7 (.br 3 (.br 8 (.br 9 .done .nil) .nil) .nil) .nil)) .nil)) (.br 6 (.br 2 (.br 3 (.br 7 (.br 8 (.br 9 .done .nil) .nil) .nil) (.br 7 (.br 3 (.br 8 (.br 9 .done .nil) .nil) .nil) .nil)) (.br 7 (.br 2 (.br 3 (.br 8 (.br 9 .done .nil) .nil) .nil) .nil) .nil)) .nil)) .nil)) (.br 5 (.br 1 (.br 2 (.br 3 (.br 6 (.br 7 (.br 8 (.br 9 .done .nil) .nil) .nil) .nil) (.br 6 (.br 3 (.br 7 (.br 8 (.br 9 .done .nil) .nil) .nil) (.br 7 (.br 3 (.br 8 (.br 9 .done .nil) .nil) .nil) .nil)) .nil)) (.br 6 (.br 2 (.br 3 (.br 7 (.br 8 (.br 9 .done .nil) .nil) .nil) (.br 7 (.br 3 (.br 8 (.br 9 .done .nil) .nil) .nil) .nil)) (.br 7 (.br 2 (.br 3 (.br 8 (.br 9 .done .nil) .nil) .nil) .nil) .nil)) .nil)) (.br 6 (.br 1 (.br 2 (.br 3 (.br 7 (.br 8 (.br 9 .done .nil) .nil) .nil) (.br 7 (.br 3 (.br 8 (.br 9 .done .nil) .nil) .nil) .nil)) (.br 7 (.br 2 (.br 3 (.br 8 (.br 9 .done .nil) .nil) .nil) .nil) .nil)) (.br 7 (.br 1 (.br 2 (.br 3 (.br 8 (.br 9 .done .nil) .nil) .nil) .nil) .nil) .nil)) .nil)) .nil)) (.br 5 (.br 0 (.br 1 (.br 2 (.br 3 (.br 6 (.br 7 (.br 8 (.br 9 .done .nil) .nil) .nil) .nil) (.br 6 (.br 3 (.br 7 (.br 8 (.br 9 .done .nil) .nil) .nil) (.br 7 (.br 3 (.br 8 (.br 9 .done .nil) .nil) .nil) .nil)) .nil)) (.br 6 (.br 2 (.br 3 (.br 7 (.br 8 (.br 9 .done .nil) .nil) .nil) (.br 7 (.br 3 (.br 8 (.br 9 .done .nil) .nil) .nil) .nil)) (.br 7 (.br 2 (.br 3 (.br 8 (.br 9 .done .nil) .nil) .nil) .nil) .nil)) .nil)) (.br 6 (.br 1 (.br 2 (.br 3 (.br 7 (.br 8 (.br 9 .done .nil) .nil) .nil) (.br 7 (.br 3 (.br 8 (.br 9 .done .nil) .nil) .nil) .nil)) (.br 7 (.br 2 (.br 3 (.br 8 (.br 9 .done .nil) .nil) .nil) .nil) .nil)) (.br 7 (.br 1 (.br 2 (.br 3 (.br 8 (.br 9 .done .nil) .nil) .nil) .nil) .nil) .nil)) .nil)) (.br 6 (.br 0 (.br 1 (.br 2 (.br 3 (.br 7 (.br 8 (.br 9 .done .nil) .nil) .nil) (.br 7 (.br 3 (.br 8 (.br 9 .done .nil) .nil) .nil) .nil)) (.br 7 (.br 2 (.br 3 (.br 8 (.br 9 .done .nil) .nil) .nil) .nil) .nil)) (.br 7 (.br 1 (.br 2 (.br 3 (.br 8 (.br 9 .done .nil) .nil) .nil) .nil) .nil) .nil)) (.br 7 (.br 0 (.br 1 (.br 2 (.br 3 (.br 8 (.br 9 .done .nil) .nil) .nil) .nil) .nil) .nil) .nil)) .nil)) .nil)) .nil))
theorem pad_ok (n:Int) (hm:inI n):ACalls Tryz.prog 92 [i64 n] [] (fun x _=>x=.ret (str (padL n))):=by
 refine ACalls.body T_ok Tryz.func92 (by kernel_rfl) rfl Tryz.ntmps92 (congrArg Array.toList Tryz.results92) ?_
 try simp -implicitDefEqProofs only [LB0,zar T113,lenS,zed,zee,fS0,fS1,fS2,ldS0,ldS1,ldS2,ldS,stS0,stS,alS,zcH,boxS,zcs,TB,SB,Int.reduceToNat,Nat.reduceAdd,Nat.reduceEqDiff,Nat.reduceLT,Nat.reduceMod,Nat.reducePow,Nat.reduceSub,if_true,reduceIte]
 repeat (with_reducible refine zaW ?_)
 refine⟨fun h=>?_,fun h=>?_⟩
 ·refine zcO ?_
  rw [padL,if_pos h]
 ·obtain⟨m,rfl⟩:∃ m:Nat,n=m:=⟨n.toNat,by omega⟩
  rw [show ((m:Int).tmod 64)=((m % 64:Nat):Int) from rfl]
  rw [show (((m % 64:Nat):Int)+9).tmod 64=(((m % 64+9) % 64:Nat):Int) from rfl]
  rw [show (64 - (((m % 64+9) % 64:Nat):Int))=((64 - (m % 64+9) % 64:Nat):Int) by omega]
  rw [show (((64 - (m % 64+9) % 64:Nat):Int)).tmod 64=(((64 - (m % 64+9) % 64) % 64:Nat):Int) from rfl]
  repeat (with_reducible refine zaW ?_)
  have hz:(64 - (m % 64+9) % 64) % 64 < 64:=by omega
  generalize hzz:(64 - (m % 64+9) % 64) % 64=z at *
  have hc:∀ (σ:zag) (K:AEnd→zag→Prop),K (.ret (str (pw m))) σ→ACalls Tryz.prog 47 [u64 (8#64 * BitVec.ofInt 64 m),i64 8] σ K:=fun σ K hk=>(zi1 _ 8).pure rfl (by
   rintro _ σ' rfl
   exact⟨rfl,hk⟩)
  refine W_drawT padTree ([.bot,.bot,str ((128::List.replicate z 0)++pw m),.bot,.bot,.bot,.bot,.bot,.bot,.bot,.bot,.bot,.bot,.bot,.bot,.bot,.bot,.bot,.bot,.bot,.bot]) [] (by kernel_rfl) (by kernel_rfl) ?_ ?_
  ·have hpl:=pw_length m
   have hrz:List.replicate z (u8 0)=(List.replicate z (0:UInt8)).map u8:=by simp
   unfold padTree
   try simp -implicitDefEqProofs only [LB0,zar T113,lenS,zed,zee,fS0,fS1,fS2,ldS0,ldS1,ldS2,ldS,stS0,stS,alS,zcH,boxS,zcs,hrz,Int.toNat_natCast,List.drop_zero,List.take_replicate,Nat.min_self,List.length_replicate,Nat.le_refl,TB,SB,Int.reduceToNat,Nat.reduceAdd,Nat.reduceEqDiff,Nat.reduceLT,Nat.reduceMod,Nat.reducePow,Nat.reduceSub,if_true,reduceIte]
   repeat' (first | (with_reducible refine And.intro ?_ ?_) | (refine hc _ _ ?_;try simp -implicitDefEqProofs only [LB0,zar T113,lenS,zed,zee,fS0,fS1,fS2,ldS0,ldS1,ldS2,ldS,stS0,stS,alS,zcH,boxS,zcs,hrz,Int.toNat_natCast,List.drop_zero,List.take_replicate,Nat.min_self,List.length_replicate,Nat.le_refl,TB,SB,Int.reduceToNat,Nat.reduceAdd,Nat.reduceEqDiff,Nat.reduceLT,Nat.reduceMod,Nat.reducePow,Nat.reduceSub,if_true,reduceIte]))
   all_goals try (first | omega | (simp only [List.length_append,List.length_cons,List.length_nil,List.length_replicate,hpl];omega))
   all_goals
    refine zal (q:=[]) rfl rfl (by decide) ?_ ?_
   all_goals try simp only [FB,AV.ren,Nat.reduceAdd,reduceCtorEq]
   all_goals done
  ·try simp -implicitDefEqProofs only [LB0,zar T113,lenS,zed,zee,fS0,fS1,fS2,ldS0,ldS1,ldS2,ldS,stS0,stS,alS,zcH,boxS,zcs,TB,SB,Int.reduceToNat,Nat.reduceAdd,Nat.reduceEqDiff,Nat.reduceLT,Nat.reduceMod,Nat.reducePow,Nat.reduceSub,if_true,reduceIte]
   refine zcO ?_
   rw [padL,if_neg h,Int.toNat_natCast,hzz]
   simp
end Go.Proofs.YtdmiflfhaobngaaGreatDoor
end

section
namespace Go.Proofs.YtdmiflfhaobngaaGreatDoor
open Go Go.Eng
set_option linter.defProp false in
def LB6:=And.intro @lenS (And.intro @zed (And.intro @zee (And.intro @fS0 (And.intro @fS1 (And.intro @fS2 (And.intro @ldS0 (And.intro @ldS1 (And.intro @ldS2 (And.intro @ldS (And.intro @stS0 (And.intro @stS (And.intro @alS (And.intro @zcH (And.intro @boxS (@zcs)))))))))))))))
theorem padL_length (n:Int):(padL n).length≤136:=by
 unfold padL
 split
 ·simp
 ·simp only [List.length_append,List.length_cons,List.length_replicate,pw_length]
  omega
theorem left_length (s:List UInt8):(left s).length < 64:=by
 simp only [left,List.length_drop];omega
def sumOf (v:Vc (BitVec 32) 8) (r:List UInt8) (n:Int):List UInt8:=zir (zc7 v (r++padL n)) 8
theorem sum_ok (v:Vc (BitVec 32) 8) (r:List UInt8) (n:Int) (hr:r.length < 64) (hn:0≤n∧n≤100000000000):ACalls Tryz.prog 61 [.ptr 0 0] [.rw (stC v r n)] (fun x σ=>x=.ret (str (sumOf v r n))∧σ=[.rw (stC v r n)]):=by
 refine ACalls.body T_ok Tryz.func61 (by kernel_rfl) rfl Tryz.ntmps61 (congrArg Array.toList Tryz.results61) ?_
 try simp -implicitDefEqProofs only [LB0,LB6,zar T113,TB,SB,Int.reduceToNat,Nat.reduceAdd,Nat.reduceEqDiff,Nat.reduceLT,Nat.reduceMod,Nat.reducePow,Nat.reduceSub,if_true,reduceIte]
 refine ACalls.frame ([0]) (clone_ok v r n) rfl (by decide) (by simp [LM5,zao,zas,renL,AV.ren,AEnd.ren,zbz,List.getElem?_cons_zero,List.getElem?_cons_succ]) (by first | rfl | simp [LM5,zao,zas,renL,AV.ren,AEnd.ren,zbz,List.getElem?_cons_zero,List.getElem?_cons_succ]) ?_
 rintro _ _ ⟨rfl,rfl⟩
 refine⟨.ret (.ptr 1 0),[.rw (stC v r n),.rw (stC v r n)],(by show zas _ _ ([0,1]) ([0,1]) 0 _;simp [LM5,zao,zas,renL,AV.ren,AEnd.ren,zbz,List.getElem?_cons_zero,List.getElem?_cons_succ]),(by show AEnd.ren ([0,1]) _ _;first | rfl | simp [LM5,zao,zas,renL,AV.ren,AEnd.ren,zbz,List.getElem?_cons_zero,List.getElem?_cons_succ]),?_⟩
 try simp -implicitDefEqProofs only [LB0,LB6,zar T113,TB,SB,Int.reduceToNat,Nat.reduceAdd,Nat.reduceEqDiff,Nat.reduceLT,Nat.reduceMod,Nat.reducePow,Nat.reduceSub,if_true,reduceIte]
 refine(pad_ok n (by unfold inI;omega)).pure rfl ?_
 rintro _ σ rfl
 refine⟨rfl,?_⟩
 try simp -implicitDefEqProofs only [LB0,LB6,zar T113,TB,SB,Int.reduceToNat,Nat.reduceAdd,Nat.reduceEqDiff,Nat.reduceLT,Nat.reduceMod,Nat.reducePow,Nat.reduceSub,if_true,reduceIte]
 have hp:=padL_length n
 refine ACalls.frame ([1]) (write_ok v r n (padL n) hr (by omega) hn) rfl (by decide) (by simp [LM5,zao,zas,renL,AV.ren,AEnd.ren,zbz,List.getElem?_cons_zero,List.getElem?_cons_succ]) (by first | rfl | simp [LM5,zao,zas,renL,AV.ren,AEnd.ren,zbz,List.getElem?_cons_zero,List.getElem?_cons_succ]) ?_
 rintro _ _ ⟨rfl,rfl⟩
 refine⟨.ret (.tup []),[.rw (stC v r n),.rw (stC (zc7 v (r++padL n)) (left (r++padL n)) (n+(padL n).length))],(by show zas _ _ ([1,0]) ([1,0]) 0 _;simp [LM5,zao,zas,renL,AV.ren,AEnd.ren,zbz,List.getElem?_cons_zero,List.getElem?_cons_succ]),(by show AEnd.ren ([1,0]) _ _;first | rfl | simp [LM5,zao,zas,renL,AV.ren,AEnd.ren,zbz,List.getElem?_cons_zero,List.getElem?_cons_succ]),?_⟩
 try simp -implicitDefEqProofs only [LB0,LB6,zar T113,TB,SB,Int.reduceToNat,Nat.reduceAdd,Nat.reduceEqDiff,Nat.reduceLT,Nat.reduceMod,Nat.reducePow,Nat.reduceSub,if_true,reduceIte]
 refine(text8_ok _).pure (by first | rfl | simp [renL,AV.ren,zaw,zaf str zae,zaL,zaB,zaA,zaj,zax,zae]) ?_
 rintro _ σ rfl
 refine⟨by first | rfl | simp [AEnd.noid,AV.ren,renL,zaw,zaf str zae,zaL,zaB,zaA,zaj,zax,zae],?_⟩
 try simp -implicitDefEqProofs only [LB0,LB6,zar T113,TB,SB,Int.reduceToNat,Nat.reduceAdd,Nat.reduceEqDiff,Nat.reduceLT,Nat.reduceMod,Nat.reducePow,Nat.reduceSub,if_true,reduceIte]
 exact endQ_st rfl rfl ⟨rfl,rfl⟩
def shaL (s:List UInt8):List UInt8:=sumOf (zc7 firstV s) (left s) s.length
theorem shaSum_ok (s:List UInt8) (hs:s.length≤100000000000):ACalls Tryz.prog 33 [str s] [] (fun x _=>x=.ret (str (shaL s))):=by
 refine ACalls.body T_ok Tryz.func33 (by kernel_rfl) rfl Tryz.ntmps33 (congrArg Array.toList Tryz.results33) ?_
 try simp -implicitDefEqProofs only [LB0,LB6,zar T113,TB,SB,Int.reduceToNat,Nat.reduceAdd,Nat.reduceEqDiff,Nat.reduceLT,Nat.reduceMod,Nat.reducePow,Nat.reduceSub,if_true,reduceIte]
 refine ACalls.frame ([]) (new_ok) rfl (by decide) (by simp [LM5,zao,zas,renL,AV.ren,AEnd.ren,zbz,List.getElem?_cons_zero,List.getElem?_cons_succ]) (by first | rfl | simp [LM5,zao,zas,renL,AV.ren,AEnd.ren,zbz,List.getElem?_cons_zero,List.getElem?_cons_succ]) ?_
 rintro _ _ ⟨rfl,rfl⟩
 refine⟨.ret (.ptr 0 0),[.rw (stC firstV [] 0)],(by show zas _ _ ([0]) ([0]) 0 _;simp [LM5,zao,zas,renL,AV.ren,AEnd.ren,zbz,List.getElem?_cons_zero,List.getElem?_cons_succ]),(by show AEnd.ren ([0]) _ _;first | rfl | simp [LM5,zao,zas,renL,AV.ren,AEnd.ren,zbz,List.getElem?_cons_zero,List.getElem?_cons_succ]),?_⟩
 try simp -implicitDefEqProofs only [LB0,LB6,zar T113,TB,SB,Int.reduceToNat,Nat.reduceAdd,Nat.reduceEqDiff,Nat.reduceLT,Nat.reduceMod,Nat.reducePow,Nat.reduceSub,if_true,reduceIte]
 refine ACalls.frame ([0]) (write_ok firstV [] 0 s (by simp) hs (by omega)) rfl (by decide) (by simp [LM5,zao,zas,renL,AV.ren,AEnd.ren,zbz,List.getElem?_cons_zero,List.getElem?_cons_succ]) (by first | rfl | simp [LM5,zao,zas,renL,AV.ren,AEnd.ren,zbz,List.getElem?_cons_zero,List.getElem?_cons_succ]) ?_
 rintro _ _ ⟨rfl,rfl⟩
 refine⟨.ret (.tup []),[.rw (stC (zc7 firstV ([]++s)) (left ([]++s)) (0+s.length))],(by show zas _ _ ([0]) ([0]) 0 _;simp [LM5,zao,zas,renL,AV.ren,AEnd.ren,zbz,List.getElem?_cons_zero,List.getElem?_cons_succ]),(by show AEnd.ren ([0]) _ _;first | rfl | simp [LM5,zao,zas,renL,AV.ren,AEnd.ren,zbz,List.getElem?_cons_zero,List.getElem?_cons_succ]),?_⟩
 try simp -implicitDefEqProofs only [LB0,LB6,zar T113,TB,SB,Int.reduceToNat,Nat.reduceAdd,Nat.reduceEqDiff,Nat.reduceLT,Nat.reduceMod,Nat.reducePow,Nat.reduceSub,if_true,reduceIte]
 refine ACalls.frame ([0]) (sum_ok (zc7 firstV s) (left s) (0+(s.length:Int)) (left_length _) (by omega)) rfl (by decide) (by simp [LM5,zao,zas,renL,AV.ren,AEnd.ren,zbz,List.getElem?_cons_zero,List.getElem?_cons_succ]) (by first | rfl | simp [LM5,zao,zas,renL,AV.ren,AEnd.ren,zbz,List.getElem?_cons_zero,List.getElem?_cons_succ]) ?_
 rintro _ _ ⟨rfl,rfl⟩
 refine⟨.ret (str (sumOf (zc7 firstV s) (left s) (0+s.length))),[.rw (stC (zc7 firstV s) (left s) (0+s.length))],(by show zas _ _ ([0]) ([0]) 0 _;simp [LM5,zao,zas,renL,AV.ren,AEnd.ren,zbz,List.getElem?_cons_zero,List.getElem?_cons_succ]),(by show AEnd.ren ([0]) _ _;first | rfl | simp [LM5,zao,zas,renL,AV.ren,AEnd.ren,zbz,List.getElem?_cons_zero,List.getElem?_cons_succ]),?_⟩
 try simp -implicitDefEqProofs only [LB0,LB6,zar T113,TB,SB,Int.reduceToNat,Nat.reduceAdd,Nat.reduceEqDiff,Nat.reduceLT,Nat.reduceMod,Nat.reducePow,Nat.reduceSub,if_true,reduceIte]
 refine zcO ?_
 simp only [shaL,Int.zero_add]
end Go.Proofs.YtdmiflfhaobngaaGreatDoor
end

