/-
  What the document reads; its paths. No condition.
-/
import Derived.Test.YtcahoelfogjljaaGreatDoorTerJ
set_option linter.unusedSimpArgs false
set_option linter.unusedVariables false
set_option linter.unusedSectionVars false
section
namespace Go.Proofs.YtcahoelfogjljaaGreatDoor
open Go Go.Eng
end Go.Proofs.YtcahoelfogjljaaGreatDoor
end

section
namespace Go.Proofs.YtcahoelfogjljaaGreatDoor
open Go Go.Eng
end Go.Proofs.YtcahoelfogjljaaGreatDoor
end

section
namespace Go.Proofs.YtcahoelfogjljaaGreatDoor
open Go Go.Eng
theorem zis {T:Tab} {t:TypeId} {K:AV→Prop} (x y:UInt8):wbin T .gtr t (u8 x) (u8 y) K=K (bl (decide ((y.toNat:Int) < x.toNat))):=by
 simp [wbin,u8,bl,zdE,cmpV]
def zit (d:List UInt8):Int:=match numD d with
 | some u=>(u:Int)
 | none=>-1
theorem digV_take {d:List UInt8} {k:Nat} (h:k < d.length):digV 0 (d.take (k+1))=10 * digV 0 (d.take k)+((d.getD k 0).toNat - 48):=by
 have gen:∀ (a:List UInt8) (n:Nat) (c:UInt8),digV n (a++[c])=10 * digV n a+(c.toNat - 48):=by
  intro a
  induction a with
  | nil=>intro n c;rw [List.nil_append,ze9,zdM,zdM]
  | cons x a ih=>intro n c;rw [List.cons_append,ze9,ih,ze9]
 rw [zbT 0 h,gen]
theorem digV_lt (d:List UInt8) (k:Nat) (hd:∀ j,j < k→isDg (d.getD j 0)=true) (hk:k≤d.length):digV 0 (d.take k) < 10 ^ k:=by
 induction k with
 | zero=>rw [List.take_zero,zdM];decide
 | succ k ih =>
  have:=ih (fun j hj=>hd j (by omega)) (by omega)
  have h9:=isDg_iff.1 (hd k (by omega))
  rw [digV_take (by omega),Nat.pow_succ]
  omega
theorem ziu (d:List UInt8):ACalls Tryz.prog 72 [str d] [] (fun y _=>y=.ret (i64 (zit d))):=by
 have hno:zin d=false→zit d=-1:=fun h=>by rw [zit,numD,if_neg (by rw [h];decide)]
 have hnb:¬ (d≠[]∧d.length≤3∧¬ (1 < d.length∧d.head?=some 48))→zin d=false:=fun h=>by rw [zin,decide_eq_false h,Bool.false_and]
 refine ACalls.body T_ok Tryz.func72 (by kernel_rfl) rfl Tryz.ntmps72 (congrArg Array.toList Tryz.results72) ?_
 by_cases h0:d=[]
 ·try simp -implicitDefEqProofs only [LM2,eq_self,Nat.zero_mul,lzS,bx_P,decide_eq_true h0,TB,SB,Int.reduceToNat,Nat.reduceAdd,Nat.reduceEqDiff,Nat.reduceLT,Nat.reduceMod,Nat.reducePow,Nat.reduceSub,if_true,reduceIte]
  exact za5 (by rw [hno (hnb (fun h=>h.1 h0))])
 have e0:=decide_eq_false h0
 have hp:=List.length_pos_iff.2 h0
 by_cases h3:3 < (d.length:Int)
 ·try simp -implicitDefEqProofs only [LM2,eq_self,Nat.zero_mul,lzS,bx_P,e0,decide_eq_true h3,TB,SB,Int.reduceToNat,Nat.reduceAdd,Nat.reduceEqDiff,Nat.reduceLT,Nat.reduceMod,Nat.reducePow,Nat.reduceSub,if_true,reduceIte]
  exact za5 (by rw [hno (hnb (fun h=>by omega))])
 have e3:=decide_eq_false h3
 have hh:d.head?=some (d.getD 0 0):=by
  cases d with
  | nil=>exact absurd rfl h0
  | cons c r=>rfl
 have hd0:(1 < (d.length:Int)∧d.getD 0 0=UInt8.ofNat 48) ↔ (1 < d.length∧d.head?=some 48):=by
  rw [hh]
  exact⟨fun h=>⟨by omega,congrArg some h.2⟩,fun h=>⟨by omega,Option.some.inj h.2⟩⟩
 by_cases h1:1 < d.length∧d.head?=some 48
 ·obtain⟨g1,g2⟩:=hd0.2 h1
  try simp -implicitDefEqProofs only [LM2,eq_self,Nat.zero_mul,lzS,bx_P,e0,e3,decide_eq_true g1,TB,SB,Int.reduceToNat,Nat.reduceAdd,Nat.reduceEqDiff,Nat.reduceLT,Nat.reduceMod,Nat.reducePow,Nat.reduceSub,if_true,reduceIte]
  refine⟨by decide,by omega,fun _=>?_,fun h=>absurd g2 h⟩
  exact za5 (by rw [hno (hnb (fun h=>h.2.2 h1))])
 have goal:∀ K:AEnd→zaa→Prop,K (.ret (i64 (zit d))) []→True:=fun _ _=>trivial
 have hb:zin d=d.all isDg:=by rw [zin,decide_eq_true (show d≠[]∧d.length≤3∧¬ (1 < d.length∧d.head?=some 48) from ⟨h0,by omega,h1⟩),Bool.true_and]
 by_cases g1:1 < (d.length:Int)
 case' pos =>
  have g2:¬ d.getD 0 0=UInt8.ofNat 48:=fun e=>h1 (hd0.1 ⟨g1,e⟩)
  try simp -implicitDefEqProofs only [LM2,eq_self,Nat.zero_mul,lzS,bx_P,e0,e3,decide_eq_true g1,TB,SB,Int.reduceToNat,Nat.reduceAdd,Nat.reduceEqDiff,Nat.reduceLT,Nat.reduceMod,Nat.reducePow,Nat.reduceSub,if_true,reduceIte]
  refine⟨by decide,by omega,fun h=>absurd h g2,fun _=>?_⟩
 case' neg =>
  try simp -implicitDefEqProofs only [LM2,eq_self,Nat.zero_mul,lzS,bx_P,e0,e3,decide_eq_false g1,TB,SB,Int.reduceToNat,Nat.reduceAdd,Nat.reduceEqDiff,Nat.reduceLT,Nat.reduceMod,Nat.reducePow,Nat.reduceSub,if_true,reduceIte]
 all_goals
  rw [zaN]
  refine⟨Nat,fun k=>k≤d.length∧∀ j,j < k→isDg (d.getD j 0)=true,fun k=>[str d,.bot,i64 0,i64 (digV 0 (d.take k):Nat),i64 k,.bot,.bot,.bot,.bot,.bot,.bot,.bot,.bot,.bot,.bot,.bot,.bot,.bot,.bot,.bot,.bot,.bot,.bot,.bot,.bot,.bot,.bot,.bot,.bot,.bot,.bot,.bot,.bot,.bot,.bot,.bot,.bot,.bot,.bot,.bot,.bot,.bot,.bot,.bot,.bot,.bot,.bot],fun _=>[],fun k=>d.length - k,0,⟨Nat.zero_le _,fun j h=>absurd h (Nat.not_lt_zero _)⟩,zab (q:=[]) rfl rfl (by decide) ?_ ?_,?_⟩
  ·refine aQ19 ?_
   exact⟨.inr (by rw [List.take_zero,zdM];rfl),.inr rfl⟩
  ·first|exact aQ19 trivial|refine aQ19 ?_
  rintro k ⟨hk,hj⟩
  have h10:=digV_lt d k hj hk
  have h1000:10 ^ k≤10 ^ 3:=Nat.pow_le_pow_right (by decide) (by omega)
  by_cases hlt:k < d.length
  ·have dl:decide ((k:Int) < (d.length:Int))=true:=decide_eq_true (by omega)
   have e48:((UInt8.ofNat 48).toNat:Int)=48:=rfl
   have e57:((UInt8.ofNat 57).toNat:Int)=57:=rfl
   have hall:¬ isDg (d.getD k 0)=true→d.all isDg=false:=fun hn=>by
    cases ha:d.all isDg with
    | false=>rfl
    | true =>
     rw [List.all_eq_true] at ha
     exact absurd (ha (d.getD k 0) (by rw [List.getD_eq_getElem?_getD,List.getElem?_eq_getElem hlt];exact List.getElem_mem hlt)) hn
   by_cases c1:((d.getD k 0).toNat:Int) < (UInt8.ofNat 48).toNat
   ·have dc:=decide_eq_true c1
    try simp -implicitDefEqProofs only [LM2,eq_self,Nat.zero_mul,lzS,bx_P,dl,TB,SB,Int.reduceToNat,Nat.reduceAdd,Nat.reduceEqDiff,Nat.reduceLT,Nat.reduceMod,Nat.reducePow,Nat.reduceSub,if_true,reduceIte]
    refine⟨by omega,by omega,?_⟩
    rw [dc]
    refine aQ30 ?_
    exact za5 (by rw [hno (by rw [hb];exact hall (fun h=>by have:=isDg_iff.1 h;omega))])
   have dc:=decide_eq_false c1
   by_cases c2:((UInt8.ofNat 57).toNat:Int) < (d.getD k 0).toNat
   ·have dc2:=decide_eq_true c2
    try simp -implicitDefEqProofs only [LM2,eq_self,Nat.zero_mul,lzS,bx_P,dl,TB,SB,Int.reduceToNat,Nat.reduceAdd,Nat.reduceEqDiff,Nat.reduceLT,Nat.reduceMod,Nat.reducePow,Nat.reduceSub,if_true,reduceIte]
    refine⟨by omega,by omega,?_⟩
    rw [dc]
    try simp -implicitDefEqProofs only [LM2,eq_self,Nat.zero_mul,lzS,bx_P,zis,dc2,TB,SB,Int.reduceToNat,Nat.reduceAdd,Nat.reduceEqDiff,Nat.reduceLT,Nat.reduceMod,Nat.reducePow,Nat.reduceSub,if_true,reduceIte]
    refine⟨by omega,by omega,?_⟩
    exact za5 (by rw [hno (by rw [hb];exact hall (fun h=>by have:=isDg_iff.1 h;omega))])
   have dc2:=decide_eq_false c2
   try simp -implicitDefEqProofs only [LM2,eq_self,Nat.zero_mul,lzS,bx_P,dl,TB,SB,Int.reduceToNat,Nat.reduceAdd,Nat.reduceEqDiff,Nat.reduceLT,Nat.reduceMod,Nat.reducePow,Nat.reduceSub,if_true,reduceIte]
   refine⟨by omega,by omega,?_⟩
   rw [dc]
   try simp -implicitDefEqProofs only [LM2,eq_self,Nat.zero_mul,lzS,bx_P,zis,dc2,TB,SB,Int.reduceToNat,Nat.reduceAdd,Nat.reduceEqDiff,Nat.reduceLT,Nat.reduceMod,Nat.reducePow,Nat.reduceSub,if_true,reduceIte]
   have hc:isDg (d.getD k 0)=true:=isDg_iff.2 (by omega)
   have hs:((d.getD k 0 - UInt8.ofNat 48).toNat:Int)=(((d.getD k 0).toNat - 48:Nat):Int):=by
    rw [UInt8.toNat_sub_of_le _ _ (by rw [UInt8.le_iff_toNat_le];omega)]
    rfl
   have ht:=digV_take hlt
   have h9:=isDg_iff.1 hc
   rw [hs]
   refine⟨by omega,by omega,by unfold inI;omega,by omega,by omega,by unfold inI;omega,by unfold inI;omega,?_⟩
   rw [zac]
   refine⟨k+1,⟨by omega,fun j h=>?_⟩,by (show d.length - (k+1) < d.length - k);omega,zab (q:=[]) rfl rfl (by decide) ?_ ?_⟩
   ·rcases Nat.lt_succ_iff_lt_or_eq.1 h with h | rfl
    ·exact hj j h
    ·exact hc
   ·skip
    refine aQ19 ?_
    exact⟨.inr (by rw [ht];omega),.inr (by omega)⟩
   ·skip
    first|exact aQ19 trivial|refine aQ19 ?_
  ·obtain rfl:k=d.length:=by omega
   have dl:decide ((d.length:Int) < (d.length:Int))=false:=decide_eq_false (by omega)
   try simp -implicitDefEqProofs only [LM2,eq_self,Nat.zero_mul,lzS,bx_P,dl,TB,SB,Int.reduceToNat,Nat.reduceAdd,Nat.reduceEqDiff,Nat.reduceLT,Nat.reduceMod,Nat.reducePow,Nat.reduceSub,if_true,reduceIte]
   refine za5 ?_
   have ha:d.all isDg=true:=List.all_eq_true.2 fun c hc=>by
    obtain⟨j,hj2,rfl⟩:=List.getElem_of_mem hc
    have:=hj j hj2
    rwa [List.getD_eq_getElem?_getD,List.getElem?_eq_getElem hj2] at this
   rw [zit,numD,hb,ha,if_pos rfl,List.take_length]
end Go.Proofs.YtcahoelfogjljaaGreatDoor
end

section
namespace Go.Proofs.YtcahoelfogjljaaGreatDoor
open Go Go.Eng
theorem rt_app {σ:zaa} {KS:AV→zaa→Prop} {id n:Nat} {l:List Pt} {y:Pt} {x:AV} (hc:σ[id]?=some (.rw (l.flatMap ptC))) (hn:n=l.length) (hx:asrc σ 2 x=some ([y].flatMap ptC,1)) (g:l.length≤1000000) (hk:KS (.ref σ.length 0 (n+1) 2) (σ.set id .dead++[.rw ((l++[y]).flatMap ptC)])):zbn T #[59,59] (.ref id 0 n 2) x σ KS:=by
 subst hn
 exact ptF.app rfl rfl T59 T59 (zcS _) T116 rfl rfl hc hx rfl (by omega) (by simp only [tyPt];omega) hk
theorem clL_91 (r:List UInt8):clL (91::r)=clL r+1:=by rw [clL,runL,if_pos (by decide)];rfl
theorem zjf (s:List UInt8) (a k:Nat):(s.take (a+k)).drop a=(s.drop a).take k:=by rw [List.drop_take,Nat.add_sub_cancel_left]
theorem rnumI_neg (d:List UInt8):(zit d < 0)=(numD d=none):=by
 unfold zit
 cases numD d with
 | none=>simp
 | some u=>simp
theorem zjg (s:List UInt8) (p k:Nat):(s.drop p).getD k 0=s.getD (p+k) 0:=by
 simp [List.getD_eq_getElem?_getD,List.getElem?_drop]
theorem rpath_ok (s:List UInt8) (hs:s.length≤9223372036854775807):ACalls Tryz.prog 35 [str s] [] (fun y _=>y=.ret (.tup [slP (zbz s).1,i64 (zbz s).2])):=by
 obtain⟨X,hX⟩:∃ X,X=zbz s:=⟨_,rfl⟩
 rw [← hX]
 refine ACalls.body T_ok Tryz.func35 (by kernel_rfl) rfl Tryz.ntmps35 (congrArg Array.toList Tryz.results35) ?_
 by_cases h0:120 < (s.length:Int)
 ·have d0:=decide_eq_true h0
  try simp -implicitDefEqProofs only [LM2,eq_self,Nat.zero_mul,lzS,bx_P,d0,TB,SB,Int.reduceToNat,Nat.reduceAdd,Nat.reduceEqDiff,Nat.reduceLT,Nat.reduceMod,Nat.reducePow,Nat.reduceSub,if_true,reduceIte]
  exact zio (l:=[]) [] zhf (by rw [hX,zbz,if_pos (by omega)])
 have d0:=decide_eq_false h0
 have hX2:X=match zel [] s with | some l=>(l,0) | none=>([],9):=by
  rw [hX,zbz,if_neg (by omega),zel]
  cases hp:parP s.length true s with
  | none=>simp [hp]
  | some l=>simp [hp]
 try simp -implicitDefEqProofs only [LM2,eq_self,Nat.zero_mul,lzS,bx_P,d0,TB,SB,Int.reduceToNat,Nat.reduceAdd,Nat.reduceEqDiff,Nat.reduceLT,Nat.reduceMod,Nat.reducePow,Nat.reduceSub,if_true,reduceIte]
 rw [zaN]
 refine⟨List Pt × Nat,fun x=>zel [] s=zel x.1 (s.drop x.2)∧x.2≤s.length∧x.1.length≤x.2∧x.1.isEmpty=decide (x.2=0),fun x=>[str s,.bot,.lit (.slice none 0 0),i64 0,.ref 0 0 x.1.length 2,i64 x.2,.bot,.bot,.bot,.bot,.bot,.bot,.bot,.bot,.bot,.bot,.bot,.bot,.bot,.bot,.bot,.bot,.bot,.bot,.bot,.bot,.bot,.bot,.bot,.bot,.bot,.bot,.bot,.bot,.bot,.bot,.bot,.bot,.bot,.bot,.bot,.bot,.bot,.bot,.bot,.bot,.bot,.bot,.bot,.bot,.bot,.bot,.bot,.bot,.bot,.bot,.bot,.bot,.bot,.bot,.bot,.bot,.bot,.bot,.bot,.bot,.bot,.bot,.bot,.bot,.bot,.bot,.bot,.bot,.bot,.bot,.bot,.bot,.bot,.bot,.bot,.bot,.bot,.bot,.bot,.bot,.bot,.bot,.bot,.bot,.bot],fun x=>[.rw (x.1.flatMap ptC)],fun x=>s.length - x.2,([],0),⟨rfl,Nat.zero_le _,Nat.zero_le _,rfl⟩,zbI 4 2 rfl (zab (q:=[0]) rfl rfl (by decide) ?_ ?_),?_⟩
 ·refine aQ19 ?_
  try exact .inr rfl
 ·simp [zao,Blk.ren,renL]
 rintro⟨l,p⟩ ⟨hc,hp,hl,he⟩
 dsimp only at hc hp hl he ⊢
 by_cases hlt:p < s.length
 rotate_left
 ·obtain rfl:p=s.length:=by omega
  have dl:decide ((s.length:Int) < (s.length:Int))=false:=decide_eq_false (by omega)
  try simp -implicitDefEqProofs only [LM2,eq_self,Nat.zero_mul,lzS,bx_P,dl,TB,SB,Int.reduceToNat,Nat.reduceAdd,Nat.reduceEqDiff,Nat.reduceLT,Nat.reduceMod,Nat.reducePow,Nat.reduceSub,if_true,reduceIte]
  exact zio (l:=l) [0] (ptF.frz rfl rfl) (by rw [hX2,hc,List.drop_length,contP_nil])
 have dl:decide ((p:Int) < (s.length:Int))=true:=decide_eq_true (by omega)
 have hd:=drop_consP hlt
 try simp -implicitDefEqProofs only [LM2,eq_self,Nat.zero_mul,lzS,bx_P,dl,TB,SB,Int.reduceToNat,Nat.reduceAdd,Nat.reduceEqDiff,Nat.reduceLT,Nat.reduceMod,Nat.reducePow,Nat.reduceSub,if_true,reduceIte]
 refine⟨by omega,by omega,?_⟩
 rw [show UInt8.ofNat 91=91 from rfl]
 refine⟨fun h1=>?_,fun h1=>?_⟩
 ·rw [h1] at hd
  have hn:zdG (s.drop p) l.isEmpty=numV (s.drop (p+1)):=by rw [hd,zdG,if_pos rfl]
  have hcl:clL (s.drop p)=clL (s.drop (p+1))+1:=by rw [hd,clL_91]
  have hcr:=clL_le (s.drop (p+1))
  rw [List.length_drop] at hcr
  rw [zaN]
  refine⟨Nat,fun k=>k≤clL (s.drop p),fun k=>[str s,.bot,.lit (.slice none 0 0),i64 0,.ref 0 0 l.length 2,i64 p,i64 (p+k:Nat),.bot,.bot,.bot,.bot,.bot,.bot,.bot,.bot,.bot,.bot,.bot,.bot,.bot,.bot,.bot,.bot,.bot,.bot,.bot,.bot,.bot,.bot,.bot,.bot,.bot,.bot,.bot,.bot,.bot,.bot,.bot,.bot,.bot,.bot,.bot,.bot,.bot,.bot,.bot,.bot,.bot,.bot,.bot,.bot,.bot,.bot,.bot,.bot,.bot,.bot,.bot,.bot,.bot,.bot,.bot,.bot,.bot,.bot,.bot,.bot,.bot,.bot,.bot,.bot,.bot,.bot,.bot,.bot,.bot,.bot,.bot,.bot,.bot,.bot,.bot,.bot,.bot,.bot,.bot,.bot,.bot,.bot,.bot,.bot],fun _=>[.rw (l.flatMap ptC)],fun k=>s.length - (p+k),0,Nat.zero_le _,zab (q:=[0]) rfl rfl (by decide) ?_ ?_,?_⟩
  ·refine aQ19 ?_
   try exact .inr rfl
  ·simp [zao,Blk.ren,zcp]
  intro k hk
  by_cases hin:p+k < s.length
  rotate_left
  ·have d1:decide (((p+k:Nat):Int) < (s.length:Int))=false:=decide_eq_false (by omega)
   have d2:decide (((p+k:Nat):Int)=(s.length:Int))=true:=decide_eq_true (by omega)
   try simp -implicitDefEqProofs only [LM2,eq_self,Nat.zero_mul,lzS,bx_P,d1,d2,TB,SB,Int.reduceToNat,Nat.reduceAdd,Nat.reduceEqDiff,Nat.reduceLT,Nat.reduceMod,Nat.reducePow,Nat.reduceSub,if_true,reduceIte]
   exact zio (l:=[]) [] zhf (by rw [hX2,hc,zgr (by rw [hn,numV,if_neg (by rw [List.length_drop];omega)]) (by rw [hd];exact List.cons_ne_nil _ _)])
  have d1:decide (((p+k:Nat):Int) < (s.length:Int))=true:=decide_eq_true (by omega)
  have d2:decide (((p+k:Nat):Int)=(s.length:Int))=false:=decide_eq_false (by omega)
  have hst:=zgp (fun c=>c != 93) (s.drop p) k hk (by rw [List.length_drop];omega)
  rw [zjg] at hst
  by_cases hkc:k < clL (s.drop p)
  ·have h93:¬ s.getD (p+k) 0=UInt8.ofNat 93:=fun e=>by
    rw [show runL (fun c=>c != 93) (s.drop p)=clL (s.drop p) from rfl,decide_eq_true hkc,e] at hst
    exact absurd hst (by decide)
   try simp -implicitDefEqProofs only [LM2,eq_self,Nat.zero_mul,lzS,bx_P,d1,TB,SB,Int.reduceToNat,Nat.reduceAdd,Nat.reduceEqDiff,Nat.reduceLT,Nat.reduceMod,Nat.reducePow,Nat.reduceSub,if_true,reduceIte]
   refine⟨by omega,by omega,?_⟩
   refine⟨fun _=>⟨by unfold inI;omega,?_⟩,fun h=>absurd h h93⟩
   rw [zac]
   refine⟨k+1,hkc,by (show s.length - (p+(k+1)) < s.length - (p+k));omega,zab (q:=[0]) rfl rfl (by decide) ?_ ?_⟩
   ·refine aQ19 ?_
    exact .inr (by omega)
   ·simp [zao,Blk.ren,zcp]
  ·have h93:s.getD (p+k) 0=UInt8.ofNat 93:=by
    rw [show runL (fun c=>c != 93) (s.drop p)=clL (s.drop p) from rfl,decide_eq_false hkc] at hst
    simpa using hst
   try simp -implicitDefEqProofs only [LM2,eq_self,Nat.zero_mul,lzS,bx_P,d1,TB,SB,Int.reduceToNat,Nat.reduceAdd,Nat.reduceEqDiff,Nat.reduceLT,Nat.reduceMod,Nat.reducePow,Nat.reduceSub,if_true,reduceIte]
   refine⟨by omega,by omega,?_⟩
   refine⟨fun h=>absurd h93 h,fun _=>?_⟩
   rw [d2]
   refine aQ30 ?_
   refine⟨by unfold inI;omega,by omega,by omega,by omega,?_⟩
   obtain⟨c,hce⟩:∃ c,c=clL (s.drop (p+1)):=⟨_,rfl⟩
   rw [← hce] at hcl hcr
   have hk1:p+k=(p+1)+c:=by omega
   have hdt:(s.take (p+k)).drop ((p:Int)+1).toNat=(s.drop (p+1)).take c:=by
    rw [show ((p:Int)+1).toNat=p+1 by omega,hk1,zjf]
   rw [hdt]
   refine(ziu _).pure (by simp [renL,zah]) ?_
   rintro _ σ rfl
   refine⟨zae _ _,?_⟩
   have hnv:numV (s.drop (p+1))=(numD ((s.drop (p+1)).take c)).map fun (u:Nat)=>((⟨[],(u:Int)⟩:Pt),s.drop (p+k+1)):=by
    rw [numV,← hce,if_pos (by rw [List.length_drop];omega),List.drop_drop,show p+1+(c+1)=p+k+1 by omega]
   have hrn:=rnumI_neg ((s.drop (p+1)).take c)
   cases hnd:numD ((s.drop (p+1)).take c) with
   | none =>
    have dn:decide (zit ((s.drop (p+1)).take c) < 0)=true:=decide_eq_true (by rw [hrn];exact hnd)
    try simp -implicitDefEqProofs only [LM2,eq_self,Nat.zero_mul,lzS,bx_P,dn,TB,SB,Int.reduceToNat,Nat.reduceAdd,Nat.reduceEqDiff,Nat.reduceLT,Nat.reduceMod,Nat.reducePow,Nat.reduceSub,if_true,reduceIte]
    refine zio (l:=[]) [] zhf ?_
    rw [hX2,hc,zgr (by rw [hn,hnv,hnd];rfl) (by rw [hd];exact List.cons_ne_nil _ _)]
   | some u =>
    have dn:decide (zit ((s.drop (p+1)).take c) < 0)=false:=decide_eq_false (by rw [hrn,hnd];simp)
    try simp -implicitDefEqProofs only [LM2,eq_self,Nat.zero_mul,lzS,bx_P,dn,TB,SB,Int.reduceToNat,Nat.reduceAdd,Nat.reduceEqDiff,Nat.reduceLT,Nat.reduceMod,Nat.reducePow,Nat.reduceSub,if_true,reduceIte]
    refine⟨by unfold inI;omega,by omega,by omega,by omega,?_⟩
    rw [hdt]
    refine(ziu _).pure (by simp [renL,zah]) ?_
    rintro _ σ rfl
    refine⟨zae _ _,?_⟩
    rw [show zit ((s.drop (p+1)).take c)=(u:Int) by rw [zit,hnd]]
    refine aQ31 ?_
    refine rt_app (l:=l) (y:=⟨[],u⟩) rfl rfl rfl (by omega) ?_
    refine aQ30 ?_
    have hns:zdG (s.drop p) l.isEmpty=some (⟨[],(u:Int)⟩,s.drop (p+k+1)):=by rw [hn,hnv,hnd];rfl
    refine⟨by unfold inI;omega,?_⟩
    rw [zac]
    refine⟨(l++[⟨[],u⟩],p+k+1),⟨?_,by (show p+k+1≤s.length);omega,by (show (l++[_]).length≤p+k+1);rw [List.length_append,List.length_cons,List.length_nil];omega,?_⟩,by (show s.length - (p+k+1) < s.length - p);omega,?_⟩
    ·show zel [] s=zel (l++[⟨[],u⟩]) (s.drop (p+k+1))
     rw [hc,zg0 hns (by rw [hd];exact List.cons_ne_nil _ _)]
    ·show (l++[_]).isEmpty=decide (p+k+1=0)
     rw [decide_eq_false (by omega)]
     cases l <;> rfl
    refine zab (q:=[2]) rfl rfl (by decide) ?_ ?_
    ·refine aQ19 ?_
     exact⟨by rw [List.length_append,List.length_cons,List.length_nil],.inr (by omega)⟩
    ·refine aQ32 ?_
     simp [zcp]
 ·have hb:∃ b,b≤s.length∧p≤b∧True:=⟨p,hp,Nat.le_refl _,trivial⟩
  by_cases hp0:0 < (p:Int)
  case' pos =>
   have hem:l.isEmpty=false:=by rw [he];exact decide_eq_false (by omega)
   refine⟨fun _=>⟨by omega,by omega,fun h2=>?_,fun h2=>⟨by unfold inI;omega,?_⟩⟩,fun h=>absurd hp0 h⟩
   ·refine zio (l:=[]) [] zhf ?_
    rw [hX2,hc,zgr (by rw [hd,zdG,if_neg h1,hem,if_neg (by decide),if_neg (show ¬ s.getD p 0=46 from h2)]) (by rw [hd];exact List.cons_ne_nil _ _)]
   have hnx:zdG (s.drop p) l.isEmpty=zgY (s.drop (p+1)):=by rw [hd,zdG,if_neg h1,hem,if_neg (by decide),if_pos (show s.getD p 0=46 from h2)]
   rw [show (p:Int)+1=((p+1:Nat):Int) by omega]
   obtain⟨b,hbe⟩:∃ b,b=p+1:=⟨_,rfl⟩
   rw [← hbe] at hnx ⊢
   have hb1:b≤s.length:=by omega
   have hb2:p≤b:=by omega
  case' neg =>
   have hem:l.isEmpty=true:=by rw [he];exact decide_eq_true (by omega)
   refine⟨fun h=>absurd h hp0,fun _=>?_⟩
   have hnx0:zdG (s.drop p) l.isEmpty=zgY (s.drop p):=by rw [hem,hd,zdG,if_neg h1,if_pos rfl]
   obtain⟨b,hbe⟩:∃ b,b=p:=⟨_,rfl⟩
   have hnx:zdG (s.drop p) l.isEmpty=zgY (s.drop b):=by rw [hbe];exact hnx0
   rw [← hbe]
   have hb1:b≤s.length:=by omega
   have hb2:p≤b:=by omega
  all_goals
   have hmle:=nmL_le (s.drop b)
   rw [List.length_drop] at hmle
   rw [zaN]
   refine⟨Nat,fun k=>k≤nmL (s.drop b),fun k=>[str s,.bot,.lit (.slice none 0 0),i64 0,.ref 0 0 l.length 2,i64 b,.bot,i64 (b+k:Nat),.bot,.bot,.bot,.bot,.bot,.bot,.bot,.bot,.bot,.bot,.bot,.bot,.bot,.bot,.bot,.bot,.bot,.bot,.bot,.bot,.bot,.bot,.bot,.bot,.bot,.bot,.bot,.bot,.bot,.bot,.bot,.bot,.bot,.bot,.bot,.bot,.bot,.bot,.bot,.bot,.bot,.bot,.bot,.bot,.bot,.bot,.bot,.bot,.bot,.bot,.bot,.bot,.bot,.bot,.bot,.bot,.bot,.bot,.bot,.bot,.bot,.bot,.bot,.bot,.bot,.bot,.bot,.bot,.bot,.bot,.bot,.bot,.bot,.bot,.bot,.bot,.bot,.bot,.bot,.bot,.bot,.bot,.bot],fun _=>[.rw (l.flatMap ptC)],fun k=>s.length - (b+k),0,Nat.zero_le _,zab (q:=[0]) rfl rfl (by decide) ?_ ?_,?_⟩
   ·refine aQ19 ?_
    try exact .inr rfl
   ·simp [zao,Blk.ren,zcp]
   intro k hk
   have stop:¬ (b+k < s.length∧k < nmL (s.drop b))→k=nmL (s.drop b):=fun h=>by omega
   by_cases hin:b+k < s.length
   case' neg =>
    have d1:decide (((b+k:Nat):Int) < (s.length:Int))=false:=decide_eq_false (by omega)
    have hke:k=nmL (s.drop b):=by omega
    try simp -implicitDefEqProofs only [LM2,eq_self,Nat.zero_mul,lzS,bx_P,d1,TB,SB,Int.reduceToNat,Nat.reduceAdd,Nat.reduceEqDiff,Nat.reduceLT,Nat.reduceMod,Nat.reducePow,Nat.reduceSub,if_true,reduceIte]
   case' pos =>
    have d1:decide (((b+k:Nat):Int) < (s.length:Int))=true:=decide_eq_true (by omega)
    have hst:=zgp isNm (s.drop b) k hk (by rw [List.length_drop];omega)
    rw [zjg] at hst
    try simp -implicitDefEqProofs only [LM2,eq_self,Nat.zero_mul,lzS,bx_P,d1,TB,SB,Int.reduceToNat,Nat.reduceAdd,Nat.reduceEqDiff,Nat.reduceLT,Nat.reduceMod,Nat.reducePow,Nat.reduceSub,if_true,reduceIte]
    refine⟨by omega,by omega,?_⟩
    refine(named_ok _).pure (by simp [renL,zb7]) ?_
    rintro _ σ rfl
    refine⟨zak _ _,?_⟩
    rw [hst]
    by_cases hkc:k < nmL (s.drop b)
    case pos =>
     rw [show decide (k < runL isNm (s.drop b))=true from decide_eq_true hkc]
     refine aQ30 ?_
     refine⟨by unfold inI;omega,?_⟩
     rw [zac]
     refine⟨k+1,hkc,by (show s.length - (b+(k+1)) < s.length - (b+k));omega,zab (q:=[0]) rfl rfl (by decide) ?_ ?_⟩
     ·refine aQ19 ?_
      exact .inr (by omega)
     ·simp [zao,Blk.ren,zcp]
    case' neg =>
     rw [show decide (k < runL isNm (s.drop b))=false from decide_eq_false hkc]
     have hke:k=nmL (s.drop b):=by omega
     first|exact aQ30 trivial|refine aQ30 ?_
   all_goals
    refine⟨fun h0=>?_,fun h0=>⟨by omega,by omega,by omega,?_⟩⟩
    ·refine zio (l:=[]) [] zhf ?_
     rw [hX2,hc,zgr (by rw [hnx,zgY,if_neg (by omega)]) (by rw [hd];exact List.cons_ne_nil _ _)]
    rw [zjf]
    refine aQ31 ?_
    refine rt_app (l:=l) (y:=⟨(s.drop b).take k,-1⟩) rfl rfl rfl (by omega) ?_
    refine aQ30 ?_
    have hns:zdG (s.drop p) l.isEmpty=some (⟨(s.drop b).take k,-1⟩,s.drop (b+k)):=by
     rw [hnx,zgY,← hke,if_pos (by omega),List.drop_drop]
    rw [zac]
    refine⟨(l++[⟨(s.drop b).take k,-1⟩],b+k),⟨?_,by (show b+k≤s.length);omega,by (show (l++[_]).length≤b+k);rw [List.length_append,List.length_cons,List.length_nil];omega,?_⟩,by (dsimp only;omega),?_⟩
    ·show zel [] s=zel (l++[⟨(s.drop b).take k,-1⟩]) (s.drop (b+k))
     rw [hc,zg0 hns (by rw [hd];exact List.cons_ne_nil _ _)]
    ·show (l++[_]).isEmpty=decide (b+k=0)
     rw [decide_eq_false (by omega)]
     cases l <;> rfl
    refine zab (q:=[2]) rfl rfl (by decide) ?_ ?_
    ·refine aQ19 ?_
     first | exact⟨by rw [List.length_append,List.length_cons,List.length_nil],.inr rfl⟩ | (rw [List.length_append,List.length_cons,List.length_nil])
    ·refine aQ32 ?_
     simp [zcp]
end Go.Proofs.YtcahoelfogjljaaGreatDoor
end

