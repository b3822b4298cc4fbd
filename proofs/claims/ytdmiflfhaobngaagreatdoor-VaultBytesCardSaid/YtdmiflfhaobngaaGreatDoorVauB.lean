/-
  What the functions of sha answer, each by a function on lists of bytes. No condition.
-/
import Derived.Test.YtdmiflfhaobngaaGreatDoorVauA
set_option linter.unusedSimpArgs false
set_option linter.unusedVariables false
set_option linter.unusedSectionVars false
section
namespace Go.Proofs.YtdmiflfhaobngaaGreatDoor
open Go Go.Eng
def difS (a b:List UInt8) (k:Nat):UInt8:=(List.range k).foldl (fun d i=>d ||| (a.getD i 0 ^^^ b.getD i 0)) 0
theorem difS_succ (a b:List UInt8) (k:Nat):difS a b (k+1)=difS a b k ||| (a.getD k 0 ^^^ b.getD k 0):=by
 simp [difS,List.range_succ]
theorem or_zero_iff (x y:UInt8):x ||| y=0 ↔ x=0∧y=0:=by
 rw [← UInt8.toBitVec_inj,← UInt8.toBitVec_inj,← UInt8.toBitVec_inj,UInt8.toBitVec_or]
 exact BitVec.or_eq_zero_iff
theorem xor_zero_iff (x y:UInt8):x ^^^ y=0 ↔ x=y:=by
 rw [← UInt8.toBitVec_inj,← UInt8.toBitVec_inj,UInt8.toBitVec_xor]
 exact BitVec.xor_eq_zero_iff
theorem difS_zero (a b:List UInt8):∀ k,difS a b k=0 ↔ ∀ i,i < k→a.getD i 0=b.getD i 0
 | 0=>by simp [difS]
 | k+1=>by
  rw [difS_succ,or_zero_iff,difS_zero a b k,xor_zero_iff]
  constructor
  ·rintro⟨h1,h2⟩ i hi
   rcases Nat.lt_succ_iff_lt_or_eq.1 hi with h | rfl
   ·exact h1 i h
   ·exact h2
  ·exact fun h=>⟨fun i hi=>h i (by omega),h k (by omega)⟩
theorem difS_all (a b:List UInt8) (h:a.length=b.length):decide (difS a b a.length=0)=decide (a=b):=by
 rw [decide_eq_decide,difS_zero]
 constructor
 ·intro hh
  apply List.ext_getElem h
  intro i h1 h2
  have:=hh i h1
  simpa [h1,h2] using this
 ·rintro rfl _ _;rfl
theorem equal_ok (a b:List UInt8) (ha:a.length≤281474976710656):ACalls Tryz.prog 45 [str a,str b] [] (fun y _=>y=.ret (bl (decide (a=b)))):=by
 refine ACalls.body T_ok Tryz.func45 (by kernel_rfl) rfl Tryz.ntmps45 (congrArg Array.toList Tryz.results45) ?_
 try simp -implicitDefEqProofs only [LB0,zar T113,TB,SB,Int.reduceToNat,Nat.reduceAdd,Nat.reduceEqDiff,Nat.reduceLT,Nat.reduceMod,Nat.reducePow,Nat.reduceSub,if_true,reduceIte]
 refine⟨fun hne=>?_,fun heq=>?_⟩
 ·try simp -implicitDefEqProofs only [LB0,zar T113,TB,SB,Int.reduceToNat,Nat.reduceAdd,Nat.reduceEqDiff,Nat.reduceLT,Nat.reduceMod,Nat.reducePow,Nat.reduceSub,if_true,reduceIte]
  refine zaI ?_
  rw [decide_eq_false (fun h=>hne (by rw [h]))]
 have hl:a.length=b.length:=by omega
 try simp -implicitDefEqProofs only [LB0,zar T113,TB,SB,Int.reduceToNat,Nat.reduceAdd,Nat.reduceEqDiff,Nat.reduceLT,Nat.reduceMod,Nat.reducePow,Nat.reduceSub,if_true,reduceIte]
 rw [za9]
 refine⟨Nat,fun k=>k≤a.length,fun k=>[str a,str b,.bot,.bot,bl false,u8 (difS a b k),.bot,.bot,.bot,.bot,.bot,.bot,.bot,i64 a.length,i64 k,.bot,.bot,.bot,.bot,.bot,.bot,.bot,.bot,.bot,.bot,.bot,.bot,.bot,.bot],fun _=>[],fun k=>a.length - k,0,Nat.zero_le _,?_,?_⟩
 ·refine zal (q:=[]) rfl rfl (by decide) ?_ ?_
  ·try simp only [FB,AV.ren,Nat.reduceAdd,reduceCtorEq]
   try simp [difS]
  ·try simp only [FB,AV.ren,Nat.reduceAdd,reduceCtorEq]
 ·intro k hk
  try simp -implicitDefEqProofs only [LB0,zar T113,TB,SB,Int.reduceToNat,Nat.reduceAdd,Nat.reduceEqDiff,Nat.reduceLT,Nat.reduceMod,Nat.reducePow,Nat.reduceSub,if_true,reduceIte]
  refine⟨fun hlt=>?_,fun hge=>?_⟩
  ·refine zcb (by kernel_rfl) (by kernel_rfl) ?_
   try simp -implicitDefEqProofs only [LB0,zar T113,TB,SB,Int.reduceToNat,Nat.reduceAdd,Nat.reduceEqDiff,Nat.reduceLT,Nat.reduceMod,Nat.reducePow,Nat.reduceSub,if_true,reduceIte]
   repeat (with_reducible refine zaW ?_)
   rw [zan]
   refine⟨k+1,by omega,by omega,zal (q:=[]) rfl rfl (by decide) ?_ ?_⟩
   ·try simp only [FB,AV.ren,Nat.reduceAdd,reduceCtorEq]
    rw [difS_succ]
    simp
   ·try simp only [FB,AV.ren,Nat.reduceAdd,reduceCtorEq]
  ·obtain rfl:k=a.length:=by omega
   try simp -implicitDefEqProofs only [LB0,zar T113,TB,SB,Int.reduceToNat,Nat.reduceAdd,Nat.reduceEqDiff,Nat.reduceLT,Nat.reduceMod,Nat.reducePow,Nat.reduceSub,if_true,reduceIte]
   refine zaI ?_
   rw [← difS_all a b hl]
   rfl
theorem zh2 (n:BitVec 64) (b:UInt8):zcQ n b=n * 256#64+b.toBitVec.setWidth 64:=by
 apply BitVec.eq_of_toNat_eq
 have hb:b.toBitVec.toNat < 256:=b.toBitVec.isLt
 have h1:(n <<< 8).toNat=(n.toNat * 256) % 2 ^ 64:=by rw [BitVec.toNat_shiftLeft,Nat.shiftLeft_eq]
 have h2:(b.toBitVec.setWidth 64).toNat=b.toBitVec.toNat:=by rw [BitVec.toNat_setWidth];omega
 have h3:((n.toNat * 256) % 2 ^ 64)=2 ^ 8 * (n.toNat % 2 ^ 56):=by omega
 rw [zcQ,BitVec.toNat_or,h1,h2,BitVec.toNat_add,BitVec.toNat_mul,h2,h3,← Nat.two_pow_add_eq_or_of_lt (by omega)]
 simp only [BitVec.toNat_ofNat]
 omega
theorem bigL_succ (x:BitVec 64) (k:Nat):bigL x (k+1)=zb9 x k::bigL x k:=by simp [bigL,lowL,List.range_succ]
theorem byte_mod (x:BitVec 64):BitVec.setWidth 8 (x % 256#64)=BitVec.setWidth 8 x:=by
 apply BitVec.eq_of_toNat_eq
 rw [BitVec.toNat_setWidth,BitVec.toNat_umod,BitVec.toNat_setWidth,show (256#64).toNat=256 from rfl]
 omega
theorem shift_div (x:BitVec 64) (k:Nat):x >>> (8 * k) / 256#64=x >>> (8 * (k+1)):=by
 apply BitVec.eq_of_toNat_eq
 simp only [BitVec.toNat_udiv,BitVec.toNat_ushiftRight,Nat.shiftRight_eq_div_pow,BitVec.toNat_ofNat]
 rw [Nat.div_div_eq_div_mul,show 8 * (k+1)=8 * k+8 by omega,Nat.pow_add]
theorem rbig_ok (x:BitVec 64) (n:Int):ACalls Tryz.prog 56 [u64 x,i64 n] [] (fun y _=>y=.ret (str (bigL x (zcP n)))):=by
 refine ACalls.body T_ok Tryz.func56 (by kernel_rfl) rfl Tryz.ntmps56 (congrArg Array.toList Tryz.results56) ?_
 try simp -implicitDefEqProofs only [LB0,zar T113,TB,SB,Int.reduceToNat,Nat.reduceAdd,Nat.reduceEqDiff,Nat.reduceLT,Nat.reduceMod,Nat.reducePow,Nat.reduceSub,if_true,reduceIte]
 rw [za9]
 have hc:=clamp8_le n
 refine⟨Nat,fun k=>k≤zcP n,fun k=>[u64 (x >>> (8 * k)),i64 n,.bot,.bot,.bot,str (bigL x k),i64 k,.bot,.bot,.bot,.bot,.bot,.bot,.bot,.bot,.bot,.bot,.bot,.bot,.bot,.bot,.bot,.bot,.bot,.bot,.bot],fun _=>[],fun k=>zcP n - k,0,Nat.zero_le _,?_,?_⟩
 ·refine zal (q:=[]) rfl rfl (by decide) ?_ ?_
  ·try simp only [FB,AV.ren,Nat.reduceAdd,reduceCtorEq]
   try simp [bigL,lowL]
  ·try simp only [FB,AV.ren,Nat.reduceAdd,reduceCtorEq]
 ·intro k hk
  try simp -implicitDefEqProofs only [LB0,zar T113,TB,SB,Int.reduceToNat,Nat.reduceAdd,Nat.reduceEqDiff,Nat.reduceLT,Nat.reduceMod,Nat.reducePow,Nat.reduceSub,if_true,reduceIte]
  have hcn:zcP n=(min (max n 0) 8).toNat:=rfl
  by_cases h1:(k:Int) < n
  ·rw [decide_eq_true h1]
   try simp -implicitDefEqProofs only [LB0,zar T113,TB,SB,Int.reduceToNat,Nat.reduceAdd,Nat.reduceEqDiff,Nat.reduceLT,Nat.reduceMod,Nat.reducePow,Nat.reduceSub,if_true,reduceIte]
   refine⟨fun hlt=>?_,fun hge=>?_⟩
   ·have hbl:(bigL x k).length=k:=by simp [bigL,lowL]
    repeat (with_reducible refine zaW ?_)
    rw [zan]
    refine⟨k+1,by omega,by omega,zal (q:=[]) rfl rfl (by decide) ?_ ?_⟩
    ·try simp only [FB,AV.ren,Nat.reduceAdd,reduceCtorEq]
     simp [bigL_succ,byte_mod,shift_div]
     exact .inr rfl
    ·try simp only [FB,AV.ren,Nat.reduceAdd,reduceCtorEq]
   ·obtain rfl:k=zcP n:=by omega
    try simp -implicitDefEqProofs only [LB0,zar T113,TB,SB,Int.reduceToNat,Nat.reduceAdd,Nat.reduceEqDiff,Nat.reduceLT,Nat.reduceMod,Nat.reducePow,Nat.reduceSub,if_true,reduceIte]
    exact zcO rfl
  ·rw [decide_eq_false h1]
   try simp -implicitDefEqProofs only [LB0,zar T113,TB,SB,Int.reduceToNat,Nat.reduceAdd,Nat.reduceEqDiff,Nat.reduceLT,Nat.reduceMod,Nat.reducePow,Nat.reduceSub,if_true,reduceIte]
   obtain rfl:k=zcP n:=by omega
   exact zcO rfl
theorem zhj (l:List UInt8) (hl:l.length≤9223372036854775807):ACalls Tryz.prog 58 [str l] [] (fun y _=>y=.ret (u64 (zaG l))):=by
 refine ACalls.body T_ok Tryz.func58 (by kernel_rfl) rfl Tryz.ntmps58 (congrArg Array.toList Tryz.results58) ?_
 try simp -implicitDefEqProofs only [LB0,zar T113,TB,SB,Int.reduceToNat,Nat.reduceAdd,Nat.reduceEqDiff,Nat.reduceLT,Nat.reduceMod,Nat.reducePow,Nat.reduceSub,if_true,reduceIte]
 rw [za9]
 refine⟨Nat,fun k=>k≤l.length,fun k=>[str l,.bot,.bot,u64 (zaG (l.take k)),i64 k,.bot,.bot,.bot,.bot,.bot,.bot,.bot,.bot,.bot,.bot,.bot,.bot,.bot,.bot],fun _=>[],fun k=>l.length - k,0,Nat.zero_le _,?_,?_⟩
 ·refine zal (q:=[]) rfl rfl (by decide) ?_ ?_
  ·try simp only [FB,AV.ren,Nat.reduceAdd,reduceCtorEq]
   try simp [zaG]
  ·try simp only [FB,AV.ren,Nat.reduceAdd,reduceCtorEq]
 ·intro k hk
  try simp -implicitDefEqProofs only [LB0,zar T113,TB,SB,Int.reduceToNat,Nat.reduceAdd,Nat.reduceEqDiff,Nat.reduceLT,Nat.reduceMod,Nat.reducePow,Nat.reduceSub,if_true,reduceIte]
  refine⟨fun hlt=>?_,fun hge=>?_⟩
  ·repeat (with_reducible refine zaW ?_)
   rw [zan]
   refine⟨k+1,by omega,by omega,zal (q:=[]) rfl rfl (by decide) ?_ ?_⟩
   ·try simp only [FB,AV.ren,Nat.reduceAdd,reduceCtorEq]
    rw [zgB l k (by omega)]
    simp [zh2]
   ·try simp only [FB,AV.ren,Nat.reduceAdd,reduceCtorEq]
  ·obtain rfl:k=l.length:=by omega
   try simp -implicitDefEqProofs only [LB0,zar T113,TB,SB,Int.reduceToNat,Nat.reduceAdd,Nat.reduceEqDiff,Nat.reduceLT,Nat.reduceMod,Nat.reducePow,Nat.reduceSub,if_true,reduceIte]
   refine endQ_u64 ?_
   rw [List.take_length]
end Go.Proofs.YtdmiflfhaobngaaGreatDoor
end

section
namespace Go.Proofs.YtdmiflfhaobngaaGreatDoor
open Go Go.Eng
end Go.Proofs.YtdmiflfhaobngaaGreatDoor
end

section
namespace Go.Proofs.YtdmiflfhaobngaaGreatDoor
open Go Go.Eng
end Go.Proofs.YtdmiflfhaobngaaGreatDoor
end

section
namespace Go.Proofs.YtdmiflfhaobngaaGreatDoor
open Go Go.Eng
theorem blk_left (a u:List UInt8) (q i:Nat) (ha:a.length=64 * q) (hi:i < q):blk (a++u) i=blk a i:=by
 simp only [blk]
 rw [List.take_append_of_le_length (by omega)]
theorem blk_right (a u:List UInt8) (q j:Nat) (ha:a.length=64 * q):blk (a++u) (q+j)=blk u j:=by
 simp only [blk,List.drop_take]
 rw [List.drop_append,List.drop_eq_nil_of_le (by omega),List.nil_append,show (q+j+1) * 64 - (q+j) * 64=(j+1) * 64 - j * 64 by omega,show (q+j) * 64 - a.length=j * 64 by omega]
theorem ze0 (v:Vc (BitVec 32) 8) (a u:List UInt8) (q:Nat) (ha:a.length=64 * q):∀ k,k≤q→zcW v (a++u) k=zcW v a k
 | 0,_=>rfl
 | k+1,h=>by simp only [zcW,ze0 v a u q ha k (by omega),blk_left a u q k ha (by omega)]
theorem zf7 (v:Vc (BitVec 32) 8) (a u:List UInt8) (q:Nat) (ha:a.length=64 * q):∀ j,zcW v (a++u) (q+j)=zcW (zcW v a q) u j
 | 0=>ze0 v a u q ha q (Nat.le_refl _)
 | j+1=>by
  rw [show q+(j+1)=(q+j)+1 by omega]
  simp only [zcW,zf7 v a u q ha j,blk_right a u q j ha]
theorem absorb_append (v:Vc (BitVec 32) 8) (s t:List UInt8):zc7 v (s++t)=zc7 (zc7 v s) (left s++t):=by
 obtain⟨q,hq⟩:∃ q,s.length / 64=q:=⟨_,rfl⟩
 have hs:s=s.take (64 * q)++left s:=by
  rw [left,hq,Nat.mul_comm q 64,List.take_append_drop]
 have ha:(s.take (64 * q)).length=64 * q:=by rw [List.length_take];omega
 have e1:(s++t)=s.take (64 * q)++(left s++t):=by rw [← List.append_assoc,← hs]
 have hl:(left s).length=s.length - 64 * q:=by rw [left,hq,List.length_drop,Nat.mul_comm]
 have e2:(s++t).length / 64=q+(left s++t).length / 64:=by
  rw [List.length_append,List.length_append,hl];omega
 have e3:zc7 v s=zcW v (s.take (64 * q)) q:=by
  rw [zc7,hq]
  conv=>lhs;rw [hs]
  exact ze0 v _ _ q ha q (Nat.le_refl _)
 rw [zc7,e2,e1,zf7 v _ _ q ha,← e3]
 rfl
def shaR (s:List UInt8):List UInt8:=zir (zc7 firstV (s++padL s.length)) 8
theorem sumOf_shaR (s:List UInt8):sumOf (zc7 firstV s) (left s) s.length=shaR s:=by
 rw [sumOf,shaR,absorb_append firstV s (padL s.length)]
theorem shaL_shaR (s:List UInt8):shaL s=shaR s:=sumOf_shaR s
end Go.Proofs.YtdmiflfhaobngaaGreatDoor
end

section
namespace Go.Proofs.YtdmiflfhaobngaaGreatDoor
open Go Go.Eng
theorem shaT_ok (s:List UInt8) (hs:s.length≤100000000000):ACalls Tryz.prog 33 [str s] [] (fun x _=>x=.ret (str (shaR s))):=by
 rw [← shaL_shaR]
 exact shaSum_ok s hs
theorem zfJ (s:List UInt8):(shaR s).length=32:=zeZ _ 8
end Go.Proofs.YtdmiflfhaobngaaGreatDoor
end

