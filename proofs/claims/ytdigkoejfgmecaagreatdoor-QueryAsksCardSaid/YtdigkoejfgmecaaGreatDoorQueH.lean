/-
  What stands at a path, the document's way. No condition.
-/
import Derived.Test.YtdigkoejfgmecaaGreatDoorQueG
set_option linter.unusedSimpArgs false
set_option linter.unusedVariables false
set_option linter.unusedSectionVars false
section
namespace Go.Eng
open Go
theorem aQ13 {P:Prop} (e:P:=by simp [renL,AV.ren,zai,zch]):P:=e
theorem aQ66 {P Q:Prop} (h:Q) (e:P=Q:=by first|(simp -implicitDefEqProofs only [LM3,eq_self,Nat.zero_mul,lzS,bx_P,dza,dzb,dzc,TB,SB,Int.reduceToNat,Nat.reduceAdd,Nat.reduceEqDiff,Nat.reduceLT,Nat.reduceMod,Nat.reducePow,Nat.reduceSub,if_true,reduceIte];first|done|exact rfl)|exact rfl):P:=e ▸ h
theorem aQ67 {P Q:Prop} (h:Q) (e:P=Q:=by first|(simp -implicitDefEqProofs only [LM3,eq_self,Nat.zero_mul,lzS,bx_P,bin_u8_gtrP,dza,TB,SB,Int.reduceToNat,Nat.reduceAdd,Nat.reduceEqDiff,Nat.reduceLT,Nat.reduceMod,Nat.reducePow,Nat.reduceSub,if_true,reduceIte];first|done|exact rfl)|exact rfl):P:=e ▸ h
theorem aQ68 {P Q:Prop} (h:Q) (e:P=Q:=by first|(simp -implicitDefEqProofs only [LM4,eq_self,zat,TB,SB,Int.reduceToNat,Nat.reduceAdd,Nat.reduceEqDiff,Nat.reduceLT,Nat.reduceMod,Nat.reducePow,Nat.reduceSub,if_true,reduceIte];first|done|exact rfl)|exact rfl):P:=e ▸ h
theorem aQ69 {P Q:Prop} (h:Q) (e:P=Q:=by first|(simp -implicitDefEqProofs only [LM4,eq_self,zat,dza,TB,SB,Int.reduceToNat,Nat.reduceAdd,Nat.reduceEqDiff,Nat.reduceLT,Nat.reduceMod,Nat.reducePow,Nat.reduceSub,if_true,reduceIte];first|done|exact rfl)|exact rfl):P:=e ▸ h
theorem aQ70 {P Q:Prop} (h:Q) (e:P=Q:=by first|(simp -implicitDefEqProofs only [LM5,LB8,LB13,LB14,LB15,eq_self,zat,bx_P,lzS,fp_R0,fp_R1,TB,SB,Int.reduceToNat,Nat.reduceAdd,Nat.reduceEqDiff,Nat.reduceLT,Nat.reduceMod,Nat.reducePow,Nat.reduceSub,if_true,reduceIte];first|done|exact rfl)|exact rfl):P:=e ▸ h
theorem aQ71 {P Q:Prop} (h:Q) (e:P=Q:=by first|(simp -implicitDefEqProofs only [LM5,LB8,LB13,LB14,LB15,eq_self,zat,bx_P,lzS,fp_R0,fp_R1,dza,TB,SB,Int.reduceToNat,Nat.reduceAdd,Nat.reduceEqDiff,Nat.reduceLT,Nat.reduceMod,Nat.reducePow,Nat.reduceSub,if_true,reduceIte];first|done|exact rfl)|exact rfl):P:=e ▸ h
theorem aQ72 {P Q:Prop} (h:Q) (e:P=Q:=by first|(simp -implicitDefEqProofs only [LM5,LB8,LB13,LB14,LB15,eq_self,zat,bx_P,lzS,fp_R0,fp_R1,dza,dzb,TB,SB,Int.reduceToNat,Nat.reduceAdd,Nat.reduceEqDiff,Nat.reduceLT,Nat.reduceMod,Nat.reducePow,Nat.reduceSub,if_true,reduceIte];first|done|exact rfl)|exact rfl):P:=e ▸ h
theorem aQ73 {P Q:Prop} (h:Q) (e:P=Q:=by first|(simp [zaw,zar,zbr,renL,zaj,zac];first|done|exact rfl)|exact rfl):P:=e ▸ h
theorem aQ74 {P Q:Prop} (h:Q) (e:P=Q:=by first|(simp -implicitDefEqProofs only [LM7,eq_self,zat,lzS,TB,SB,Int.reduceToNat,Nat.reduceAdd,Nat.reduceEqDiff,Nat.reduceLT,Nat.reduceMod,Nat.reducePow,Nat.reduceSub,if_true,reduceIte];first|done|exact rfl)|exact rfl):P:=e ▸ h
theorem aQ75 {P Q:Prop} (h:Q) (e:P=Q:=by first|(simp -implicitDefEqProofs only [LM7,eq_self,zat,lzS,dza,TB,SB,Int.reduceToNat,Nat.reduceAdd,Nat.reduceEqDiff,Nat.reduceLT,Nat.reduceMod,Nat.reducePow,Nat.reduceSub,if_true,reduceIte];first|done|exact rfl)|exact rfl):P:=e ▸ h
theorem aQ76 {P Q:Prop} (h:Q) (e:P=Q:=by first|(simp -implicitDefEqProofs only [LM5,LB13,eq_self,lzS,zbk,TB,SB,Int.reduceToNat,Nat.reduceAdd,Nat.reduceEqDiff,Nat.reduceLT,Nat.reduceMod,Nat.reducePow,Nat.reduceSub,if_true,reduceIte];first|done|exact rfl)|exact rfl):P:=e ▸ h
theorem aQ77 {P Q:Prop} (h:Q) (e:P=Q:=by first|(simp -implicitDefEqProofs only [LM5,LB13,eq_self,lzS,zbk,dza,TB,SB,Int.reduceToNat,Nat.reduceAdd,Nat.reduceEqDiff,Nat.reduceLT,Nat.reduceMod,Nat.reducePow,Nat.reduceSub,if_true,reduceIte];first|done|exact rfl)|exact rfl):P:=e ▸ h
theorem aQ78 {P Q:Prop} (h:Q) (e:P=Q:=by first|(simp -implicitDefEqProofs only [LM4,eq_self,lzS,zbk,zat,TB,SB,Int.reduceToNat,Nat.reduceAdd,Nat.reduceEqDiff,Nat.reduceLT,Nat.reduceMod,Nat.reducePow,Nat.reduceSub,if_true,reduceIte];first|done|exact rfl)|exact rfl):P:=e ▸ h
theorem aQ79 {P Q:Prop} (h:Q) (e:P=Q:=by first|(simp -implicitDefEqProofs only [LM4,eq_self,lzS,zbk,zat,dza,TB,SB,Int.reduceToNat,Nat.reduceAdd,Nat.reduceEqDiff,Nat.reduceLT,Nat.reduceMod,Nat.reducePow,Nat.reduceSub,if_true,reduceIte];first|done|exact rfl)|exact rfl):P:=e ▸ h
theorem aQ80 {P Q:Prop} (h:Q) (e:P=Q:=by first|(simp -implicitDefEqProofs only [LM4,eq_self,lzS,zbk,zat,slNs,TB,SB,Int.reduceToNat,Nat.reduceAdd,Nat.reduceEqDiff,Nat.reduceLT,Nat.reduceMod,Nat.reducePow,Nat.reduceSub,if_true,reduceIte];first|done|exact rfl)|exact rfl):P:=e ▸ h
end Go.Eng
end

section
namespace Go.Proofs.YtdigkoejfgmecaaGreatDoor
open Go Go.Eng
theorem bin_u8_gtrP {T:Tab} {t:TypeId} {K:AV→Prop} (x y:UInt8):wbin T .gtr t (u8 x) (u8 y) K=K (bl (decide ((y.toNat:Int) < x.toNat))):=by
 simp [wbin,u8,bl,zdT,Eng.cmpV]
def ziv (d:List UInt8):Int:=match numD d with
 | some u=>(u:Int)
 | none=>-1
theorem digV_take {d:List UInt8} {k:Nat} (h:k < d.length):digV 0 (d.take (k+1))=10 * digV 0 (d.take k)+((d.getD k 0).toNat - 48):=by
 have gen:∀ (a:List UInt8) (n:Nat) (c:UInt8),digV n (a++[c])=10 * digV n a+(c.toNat - 48):=by
  intro a
  induction a with
  | nil=>intro n c;rw [List.nil_append,zeY,zdM,zdM]
  | cons x a ih=>intro n c;rw [List.cons_append,zeY,ih,zeY]
 rw [zbR 0 h,gen]
theorem digV_lt (d:List UInt8) (k:Nat) (hd:∀ j,j < k→isDg (d.getD j 0)=true) (hk:k≤d.length):digV 0 (d.take k) < 10 ^ k:=by
 induction k with
 | zero=>rw [List.take_zero,zdM];decide
 | succ k ih =>
  have:=ih (fun j hj=>hd j (by omega)) (by omega)
  have h9:=isDg_iff.1 (hd k (by omega))
  rw [digV_take (by omega),Nat.pow_succ]
  omega
theorem ziw (d:List UInt8):ACalls Tryz.prog 191 [str d] [] (fun y _=>y=.ret (i64 (ziv d))):=by
 have hno:zib d=false→ziv d=-1:=fun h=>by rw [ziv,numD,if_neg (by rw [h];decide)]
 have hnb:¬ (d≠[]∧d.length≤3∧¬ (1 < d.length∧d.head?=some 48))→zib d=false:=fun h=>by rw [zib,decide_eq_false h,Bool.false_and]
 refine ACalls.body T_ok Tryz.func191 (by kernel_rfl) rfl Tryz.ntmps191 (congrArg Array.toList Tryz.results191) ?_
 by_cases h0:d=[]
 ·have dza:=decide_eq_true h0
  refine aQ26 ?_
  exact zap (by rw [hno (hnb (fun h=>h.1 h0))])
 have e0:=decide_eq_false h0
 have hp:=List.length_pos_iff.2 h0
 by_cases h3:3 < (d.length:Int)
 ·have dza:=e0
  have dzb:=decide_eq_true h3
  refine aQ30 ?_
  exact zap (by rw [hno (hnb (fun h=>by omega))])
 have e3:=decide_eq_false h3
 have hh:d.head?=some (d.getD 0 0):=by
  cases d with
  | nil=>exact absurd rfl h0
  | cons c r=>rfl
 have hd0:(1 < (d.length:Int)∧d.getD 0 0=UInt8.ofNat 48) ↔ (1 < d.length∧d.head?=some 48):=by
  rw [hh]
  exact⟨fun h=>⟨by omega,congrArg some h.2⟩,fun h=>⟨by omega,Option.some.inj h.2⟩⟩
 by_cases h1:1 < d.length∧d.head?=some 48
 ·obtain⟨g1,g2⟩:=hd0.2 h1
  have dza:=e0
  have dzb:=e3
  have dzc:=decide_eq_true g1
  refine aQ66 ?_
  refine⟨by decide,by omega,fun _=>?_,fun h=>absurd g2 h⟩
  exact zap (by rw [hno (hnb (fun h=>h.2.2 h1))])
 have goal:∀ K:AEnd→zaa→Prop,K (.ret (i64 (ziv d))) []→True:=fun _ _=>trivial
 have hb:zib d=d.all isDg:=by rw [zib,decide_eq_true (show d≠[]∧d.length≤3∧¬ (1 < d.length∧d.head?=some 48) from ⟨h0,by omega,h1⟩),Bool.true_and]
 by_cases g1:1 < (d.length:Int)
 case' pos =>
  have g2:¬ d.getD 0 0=UInt8.ofNat 48:=fun e=>h1 (hd0.1 ⟨g1,e⟩)
  have dza:=e0
  have dzb:=e3
  have dzc:=decide_eq_true g1
  refine aQ66 ?_
  refine⟨by decide,by omega,fun h=>absurd h g2,fun _=>?_⟩
 case' neg =>
  have dza:=e0
  have dzb:=e3
  have dzc:=decide_eq_false g1
  first|exact aQ66 trivial|refine aQ66 ?_
 all_goals
  rw [zaK]
  refine⟨Nat,fun k=>k≤d.length∧∀ j,j < k→isDg (d.getD j 0)=true,fun k=>[str d,.bot,i64 0,i64 (digV 0 (d.take k):Nat),i64 k,.bot,.bot,.bot,.bot,.bot,.bot,.bot,.bot,.bot,.bot,.bot,.bot,.bot,.bot,.bot,.bot,.bot,.bot,.bot,.bot,.bot,.bot,.bot,.bot,.bot,.bot,.bot,.bot,.bot,.bot,.bot,.bot,.bot,.bot,.bot,.bot,.bot,.bot,.bot,.bot,.bot,.bot],fun _=>[],fun k=>d.length - k,0,⟨Nat.zero_le _,fun j h=>absurd h (Nat.not_lt_zero _)⟩,zab (q:=[]) rfl rfl (by decide) ?_ ?_,?_⟩
  ·refine aQ18 ?_
   exact⟨.inr (by rw [List.take_zero,zdM];rfl),.inr rfl⟩
  ·first|exact aQ18 trivial|refine aQ18 ?_
  rintro k ⟨hk,hj⟩
  have h10:=digV_lt d k hj hk
  have h1000:10 ^ k≤10 ^ 3:=Nat.pow_le_pow_right (by decide) (by omega)
  by_cases hlt:k < d.length
  ·have dl:decide ((k:Int) < (d.length:Int))=true:=decide_eq_true (by omega)
   have e48:((UInt8.ofNat 48).toNat:Int)=48:=rfl
   have e57:((UInt8.ofNat 57).toNat:Int)=57:=rfl
   have hall:¬ isDg (d.getD k 0)=true→d.all isDg=false:=fun hn=>by
    cases ha:d.all isDg with
    | false=>rfl
    | true =>
     rw [List.all_eq_true] at ha
     exact absurd (ha (d.getD k 0) (by rw [List.getD_eq_getElem?_getD,List.getElem?_eq_getElem hlt];exact List.getElem_mem hlt)) hn
   by_cases c1:((d.getD k 0).toNat:Int) < (UInt8.ofNat 48).toNat
   ·have dc:=decide_eq_true c1
    have dza:=dl
    refine aQ26 ?_
    refine⟨by omega,by omega,?_⟩
    rw [dc]
    refine aQ25 ?_
    exact zap (by rw [hno (by rw [hb];exact hall (fun h=>by have:=isDg_iff.1 h;omega))])
   have dc:=decide_eq_false c1
   by_cases c2:((UInt8.ofNat 57).toNat:Int) < (d.getD k 0).toNat
   ·have dc2:=decide_eq_true c2
    have dza:=dl
    refine aQ26 ?_
    refine⟨by omega,by omega,?_⟩
    rw [dc]
    have dza:=dc2
    refine aQ67 ?_
    refine⟨by omega,by omega,?_⟩
    exact zap (by rw [hno (by rw [hb];exact hall (fun h=>by have:=isDg_iff.1 h;omega))])
   have dc2:=decide_eq_false c2
   have dza:=dl
   refine aQ26 ?_
   refine⟨by omega,by omega,?_⟩
   rw [dc]
   have dza:=dc2
   refine aQ67 ?_
   have hc:isDg (d.getD k 0)=true:=isDg_iff.2 (by omega)
   have hs:((d.getD k 0 - UInt8.ofNat 48).toNat:Int)=(((d.getD k 0).toNat - 48:Nat):Int):=by
    rw [UInt8.toNat_sub_of_le _ _ (by rw [UInt8.le_iff_toNat_le];omega)]
    rfl
   have ht:=digV_take hlt
   have h9:=isDg_iff.1 hc
   rw [hs]
   refine⟨by omega,by omega,by unfold inI;omega,by omega,by omega,by unfold inI;omega,by unfold inI;omega,?_⟩
   rw [zad]
   refine⟨k+1,⟨by omega,fun j h=>?_⟩,by (show d.length - (k+1) < d.length - k);omega,zab (q:=[]) rfl rfl (by decide) ?_ ?_⟩
   ·rcases Nat.lt_succ_iff_lt_or_eq.1 h with h | rfl
    ·exact hj j h
    ·exact hc
   ·skip
    refine aQ18 ?_
    exact⟨.inr (by rw [ht];omega),.inr (by omega)⟩
   ·skip
    first|exact aQ18 trivial|refine aQ18 ?_
  ·obtain rfl:k=d.length:=by omega
   have dl:decide ((d.length:Int) < (d.length:Int))=false:=decide_eq_false (by omega)
   have dza:=dl
   refine aQ26 ?_
   refine zap ?_
   have ha:d.all isDg=true:=List.all_eq_true.2 fun c hc=>by
    obtain⟨j,hj2,rfl⟩:=List.getElem_of_mem hc
    have:=hj j hj2
    rwa [List.getD_eq_getElem?_getD,List.getElem?_eq_getElem hj2] at this
   rw [ziv,numD,hb,ha,if_pos rfl,List.take_length]
theorem rt_app {σ:zaa} {KS:AV→zaa→Prop} {id n:Nat} {l:List Pt} {y:Pt} {x:AV} (hc:σ[id]?=some (.rw (l.flatMap ptC))) (hn:n=l.length) (hx:asrc σ 2 x=some ([y].flatMap ptC,1)) (g:l.length≤1000000) (hk:KS (.ref σ.length 0 (n+1) 2) (σ.set id .dead++[.rw ((l++[y]).flatMap ptC)])):zbA T #[204,204] (.ref id 0 n 2) x σ KS:=by
 subst hn
 exact ptF.app rfl rfl T204 T204 (zc5 _) T250 rfl rfl hc hx rfl (by omega) (by simp only [tyPt];omega) hk
theorem clL_91 (r:List UInt8):clL (91::r)=clL r+1:=by rw [clL,runL,if_pos (by decide)];rfl
theorem zi7 (s:List UInt8) (a k:Nat):(s.take (a+k)).drop a=(s.drop a).take k:=by rw [List.drop_take,Nat.add_sub_cancel_left]
theorem rnumI_neg (d:List UInt8):(ziv d < 0)=(numD d=none):=by
 unfold ziv
 cases numD d with
 | none=>simp
 | some u=>simp
theorem zi8 (s:List UInt8) (p k:Nat):(s.drop p).getD k 0=s.getD (p+k) 0:=by
 simp [List.getD_eq_getElem?_getD,List.getElem?_drop]
theorem rpath_ok (s:List UInt8) (hs:s.length≤9223372036854775807):ACalls Tryz.prog 154 [str s] [] (fun y _=>y=.ret (.tup [slP (zcI s).1,i64 (zcI s).2])):=by
 obtain⟨X,hX⟩:∃ X,X=zcI s:=⟨_,rfl⟩
 rw [← hX]
 refine ACalls.body T_ok Tryz.func154 (by kernel_rfl) rfl Tryz.ntmps154 (congrArg Array.toList Tryz.results154) ?_
 by_cases h0:120 < (s.length:Int)
 ·have d0:=decide_eq_true h0
  have dza:=d0
  refine aQ26 ?_
  exact zic (l:=[]) [] zg2 (by rw [hX,zcI,if_pos (by omega)])
 have d0:=decide_eq_false h0
 have hX2:X=match zeg [] s with | some l=>(l,0) | none=>([],9):=by
  rw [hX,zcI,if_neg (by omega),zeg]
  cases hp:parP s.length true s with
  | none=>simp [hp]
  | some l=>simp [hp]
 have dza:=d0
 refine aQ26 ?_
 rw [zaK]
 refine⟨List Pt × Nat,fun x=>zeg [] s=zeg x.1 (s.drop x.2)∧x.2≤s.length∧x.1.length≤x.2∧x.1.isEmpty=decide (x.2=0),fun x=>[str s,.bot,.lit (.slice none 0 0),i64 0,.ref 0 0 x.1.length 2,i64 x.2,.bot,.bot,.bot,.bot,.bot,.bot,.bot,.bot,.bot,.bot,.bot,.bot,.bot,.bot,.bot,.bot,.bot,.bot,.bot,.bot,.bot,.bot,.bot,.bot,.bot,.bot,.bot,.bot,.bot,.bot,.bot,.bot,.bot,.bot,.bot,.bot,.bot,.bot,.bot,.bot,.bot,.bot,.bot,.bot,.bot,.bot,.bot,.bot,.bot,.bot,.bot,.bot,.bot,.bot,.bot,.bot,.bot,.bot,.bot,.bot,.bot,.bot,.bot,.bot,.bot,.bot,.bot,.bot,.bot,.bot,.bot,.bot,.bot,.bot,.bot,.bot,.bot,.bot,.bot,.bot,.bot,.bot,.bot,.bot,.bot],fun x=>[.rw (x.1.flatMap ptC)],fun x=>s.length - x.2,([],0),⟨rfl,Nat.zero_le _,Nat.zero_le _,rfl⟩,zbv 4 2 rfl (zab (q:=[0]) rfl rfl (by decide) ?_ ?_),?_⟩
 ·refine aQ18 ?_
  try exact .inr rfl
 ·simp [zaw,Blk.ren,renL]
 rintro⟨l,p⟩ ⟨hc,hp,hl,he⟩
 dsimp only at hc hp hl he ⊢
 by_cases hlt:p < s.length
 rotate_left
 ·obtain rfl:p=s.length:=by omega
  have dl:decide ((s.length:Int) < (s.length:Int))=false:=decide_eq_false (by omega)
  have dza:=dl
  refine aQ26 ?_
  exact zic (l:=l) [0] (ptF.frz rfl rfl) (by rw [hX2,hc,List.drop_length,contP_nil])
 have dl:decide ((p:Int) < (s.length:Int))=true:=decide_eq_true (by omega)
 have hd:=drop_consP hlt
 have dza:=dl
 refine aQ26 ?_
 refine⟨by omega,by omega,?_⟩
 rw [show UInt8.ofNat 91=91 from rfl]
 refine⟨fun h1=>?_,fun h1=>?_⟩
 ·rw [h1] at hd
  have hn:zdE (s.drop p) l.isEmpty=numV (s.drop (p+1)):=by rw [hd,zdE,if_pos rfl]
  have hcl:clL (s.drop p)=clL (s.drop (p+1))+1:=by rw [hd,clL_91]
  have hcr:=clL_le (s.drop (p+1))
  rw [List.length_drop] at hcr
  rw [zaK]
  refine⟨Nat,fun k=>k≤clL (s.drop p),fun k=>[str s,.bot,.lit (.slice none 0 0),i64 0,.ref 0 0 l.length 2,i64 p,i64 (p+k:Nat),.bot,.bot,.bot,.bot,.bot,.bot,.bot,.bot,.bot,.bot,.bot,.bot,.bot,.bot,.bot,.bot,.bot,.bot,.bot,.bot,.bot,.bot,.bot,.bot,.bot,.bot,.bot,.bot,.bot,.bot,.bot,.bot,.bot,.bot,.bot,.bot,.bot,.bot,.bot,.bot,.bot,.bot,.bot,.bot,.bot,.bot,.bot,.bot,.bot,.bot,.bot,.bot,.bot,.bot,.bot,.bot,.bot,.bot,.bot,.bot,.bot,.bot,.bot,.bot,.bot,.bot,.bot,.bot,.bot,.bot,.bot,.bot,.bot,.bot,.bot,.bot,.bot,.bot,.bot,.bot,.bot,.bot,.bot,.bot],fun _=>[.rw (l.flatMap ptC)],fun k=>s.length - (p+k),0,Nat.zero_le _,zab (q:=[0]) rfl rfl (by decide) ?_ ?_,?_⟩
  ·refine aQ18 ?_
   try exact .inr rfl
  ·simp [zaw,Blk.ren,zch]
  intro k hk
  by_cases hin:p+k < s.length
  rotate_left
  ·have d1:decide (((p+k:Nat):Int) < (s.length:Int))=false:=decide_eq_false (by omega)
   have d2:decide (((p+k:Nat):Int)=(s.length:Int))=true:=decide_eq_true (by omega)
   have dza:=d1
   have dzb:=d2
   refine aQ30 ?_
   exact zic (l:=[]) [] zg2 (by rw [hX2,hc,zgg (by rw [hn,numV,if_neg (by rw [List.length_drop];omega)]) (by rw [hd];exact List.cons_ne_nil _ _)])
  have d1:decide (((p+k:Nat):Int) < (s.length:Int))=true:=decide_eq_true (by omega)
  have d2:decide (((p+k:Nat):Int)=(s.length:Int))=false:=decide_eq_false (by omega)
  have hst:=zgf (fun c=>c != 93) (s.drop p) k hk (by rw [List.length_drop];omega)
  rw [zi8] at hst
  by_cases hkc:k < clL (s.drop p)
  ·have h93:¬ s.getD (p+k) 0=UInt8.ofNat 93:=fun e=>by
    rw [show runL (fun c=>c != 93) (s.drop p)=clL (s.drop p) from rfl,decide_eq_true hkc,e] at hst
    exact absurd hst (by decide)
   have dza:=d1
   refine aQ26 ?_
   refine⟨by omega,by omega,?_⟩
   refine⟨fun _=>⟨by unfold inI;omega,?_⟩,fun h=>absurd h h93⟩
   rw [zad]
   refine⟨k+1,hkc,by (show s.length - (p+(k+1)) < s.length - (p+k));omega,zab (q:=[0]) rfl rfl (by decide) ?_ ?_⟩
   ·refine aQ18 ?_
    exact .inr (by omega)
   ·simp [zaw,Blk.ren,zch]
  ·have h93:s.getD (p+k) 0=UInt8.ofNat 93:=by
    rw [show runL (fun c=>c != 93) (s.drop p)=clL (s.drop p) from rfl,decide_eq_false hkc] at hst
    simpa using hst
   have dza:=d1
   refine aQ26 ?_
   refine⟨by omega,by omega,?_⟩
   refine⟨fun h=>absurd h93 h,fun _=>?_⟩
   rw [d2]
   refine aQ25 ?_
   refine⟨by unfold inI;omega,by omega,by omega,by omega,?_⟩
   obtain⟨c,hce⟩:∃ c,c=clL (s.drop (p+1)):=⟨_,rfl⟩
   rw [← hce] at hcl hcr
   have hk1:p+k=(p+1)+c:=by omega
   have hdt:(s.take (p+k)).drop ((p:Int)+1).toNat=(s.drop (p+1)).take c:=by
    rw [show ((p:Int)+1).toNat=p+1 by omega,hk1,zi7]
   rw [hdt]
   refine(ziw _).pure (by simp [renL,zaj]) ?_
   rintro _ σ rfl
   refine⟨zac _ _,?_⟩
   have hnv:numV (s.drop (p+1))=(numD ((s.drop (p+1)).take c)).map fun (u:Nat)=>((⟨[],(u:Int)⟩:Pt),s.drop (p+k+1)):=by
    rw [numV,← hce,if_pos (by rw [List.length_drop];omega),List.drop_drop,show p+1+(c+1)=p+k+1 by omega]
   have hrn:=rnumI_neg ((s.drop (p+1)).take c)
   cases hnd:numD ((s.drop (p+1)).take c) with
   | none =>
    have dn:decide (ziv ((s.drop (p+1)).take c) < 0)=true:=decide_eq_true (by rw [hrn];exact hnd)
    have dza:=dn
    refine aQ26 ?_
    refine zic (l:=[]) [] zg2 ?_
    rw [hX2,hc,zgg (by rw [hn,hnv,hnd];rfl) (by rw [hd];exact List.cons_ne_nil _ _)]
   | some u =>
    have dn:decide (ziv ((s.drop (p+1)).take c) < 0)=false:=decide_eq_false (by rw [hrn,hnd];simp)
    have dza:=dn
    refine aQ26 ?_
    refine⟨by unfold inI;omega,by omega,by omega,by omega,?_⟩
    rw [hdt]
    refine(ziw _).pure (by simp [renL,zaj]) ?_
    rintro _ σ rfl
    refine⟨zac _ _,?_⟩
    rw [show ziv ((s.drop (p+1)).take c)=(u:Int) by rw [ziv,hnd]]
    refine aQ28 ?_
    refine rt_app (l:=l) (y:=⟨[],u⟩) rfl rfl rfl (by omega) ?_
    refine aQ25 ?_
    have hns:zdE (s.drop p) l.isEmpty=some (⟨[],(u:Int)⟩,s.drop (p+k+1)):=by rw [hn,hnv,hnd];rfl
    refine⟨by unfold inI;omega,?_⟩
    rw [zad]
    refine⟨(l++[⟨[],u⟩],p+k+1),⟨?_,by (show p+k+1≤s.length);omega,by (show (l++[_]).length≤p+k+1);rw [List.length_append,List.length_cons,List.length_nil];omega,?_⟩,by (show s.length - (p+k+1) < s.length - p);omega,?_⟩
    ·show zeg [] s=zeg (l++[⟨[],u⟩]) (s.drop (p+k+1))
     rw [hc,zgP hns (by rw [hd];exact List.cons_ne_nil _ _)]
    ·show (l++[_]).isEmpty=decide (p+k+1=0)
     rw [decide_eq_false (by omega)]
     cases l <;> rfl
    refine zab (q:=[2]) rfl rfl (by decide) ?_ ?_
    ·refine aQ18 ?_
     exact⟨by rw [List.length_append,List.length_cons,List.length_nil],.inr (by omega)⟩
    ·refine aQ29 ?_
     simp [zch]
 ·have hb:∃ b,b≤s.length∧p≤b∧True:=⟨p,hp,Nat.le_refl _,trivial⟩
  by_cases hp0:0 < (p:Int)
  case' pos =>
   have hem:l.isEmpty=false:=by rw [he];exact decide_eq_false (by omega)
   refine⟨fun _=>⟨by omega,by omega,fun h2=>?_,fun h2=>⟨by unfold inI;omega,?_⟩⟩,fun h=>absurd hp0 h⟩
   ·refine zic (l:=[]) [] zg2 ?_
    rw [hX2,hc,zgg (by rw [hd,zdE,if_neg h1,hem,if_neg (by decide),if_neg (show ¬ s.getD p 0=46 from h2)]) (by rw [hd];exact List.cons_ne_nil _ _)]
   have hnx:zdE (s.drop p) l.isEmpty=zgN (s.drop (p+1)):=by rw [hd,zdE,if_neg h1,hem,if_neg (by decide),if_pos (show s.getD p 0=46 from h2)]
   rw [show (p:Int)+1=((p+1:Nat):Int) by omega]
   obtain⟨b,hbe⟩:∃ b,b=p+1:=⟨_,rfl⟩
   rw [← hbe] at hnx ⊢
   have hb1:b≤s.length:=by omega
   have hb2:p≤b:=by omega
  case' neg =>
   have hem:l.isEmpty=true:=by rw [he];exact decide_eq_true (by omega)
   refine⟨fun h=>absurd h hp0,fun _=>?_⟩
   have hnx0:zdE (s.drop p) l.isEmpty=zgN (s.drop p):=by rw [hem,hd,zdE,if_neg h1,if_pos rfl]
   obtain⟨b,hbe⟩:∃ b,b=p:=⟨_,rfl⟩
   have hnx:zdE (s.drop p) l.isEmpty=zgN (s.drop b):=by rw [hbe];exact hnx0
   rw [← hbe]
   have hb1:b≤s.length:=by omega
   have hb2:p≤b:=by omega
  all_goals
   have hmle:=nmL_le (s.drop b)
   rw [List.length_drop] at hmle
   rw [zaK]
   refine⟨Nat,fun k=>k≤nmL (s.drop b),fun k=>[str s,.bot,.lit (.slice none 0 0),i64 0,.ref 0 0 l.length 2,i64 b,.bot,i64 (b+k:Nat),.bot,.bot,.bot,.bot,.bot,.bot,.bot,.bot,.bot,.bot,.bot,.bot,.bot,.bot,.bot,.bot,.bot,.bot,.bot,.bot,.bot,.bot,.bot,.bot,.bot,.bot,.bot,.bot,.bot,.bot,.bot,.bot,.bot,.bot,.bot,.bot,.bot,.bot,.bot,.bot,.bot,.bot,.bot,.bot,.bot,.bot,.bot,.bot,.bot,.bot,.bot,.bot,.bot,.bot,.bot,.bot,.bot,.bot,.bot,.bot,.bot,.bot,.bot,.bot,.bot,.bot,.bot,.bot,.bot,.bot,.bot,.bot,.bot,.bot,.bot,.bot,.bot,.bot,.bot,.bot,.bot,.bot,.bot],fun _=>[.rw (l.flatMap ptC)],fun k=>s.length - (b+k),0,Nat.zero_le _,zab (q:=[0]) rfl rfl (by decide) ?_ ?_,?_⟩
   ·refine aQ18 ?_
    try exact .inr rfl
   ·simp [zaw,Blk.ren,zch]
   intro k hk
   have stop:¬ (b+k < s.length∧k < nmL (s.drop b))→k=nmL (s.drop b):=fun h=>by omega
   by_cases hin:b+k < s.length
   case' neg =>
    have d1:decide (((b+k:Nat):Int) < (s.length:Int))=false:=decide_eq_false (by omega)
    have hke:k=nmL (s.drop b):=by omega
    have dza:=d1
    first|exact aQ26 trivial|refine aQ26 ?_
   case' pos =>
    have d1:decide (((b+k:Nat):Int) < (s.length:Int))=true:=decide_eq_true (by omega)
    have hst:=zgf isNm (s.drop b) k hk (by rw [List.length_drop];omega)
    rw [zi8] at hst
    have dza:=d1
    refine aQ26 ?_
    refine⟨by omega,by omega,?_⟩
    refine(named_ok _).pure (by simp [renL,zcO]) ?_
    rintro _ σ rfl
    refine⟨zay _ _,?_⟩
    rw [hst]
    by_cases hkc:k < nmL (s.drop b)
    case pos =>
     rw [show decide (k < runL isNm (s.drop b))=true from decide_eq_true hkc]
     refine aQ25 ?_
     refine⟨by unfold inI;omega,?_⟩
     rw [zad]
     refine⟨k+1,hkc,by (show s.length - (b+(k+1)) < s.length - (b+k));omega,zab (q:=[0]) rfl rfl (by decide) ?_ ?_⟩
     ·refine aQ18 ?_
      exact .inr (by omega)
     ·simp [zaw,Blk.ren,zch]
    case' neg =>
     rw [show decide (k < runL isNm (s.drop b))=false from decide_eq_false hkc]
     have hke:k=nmL (s.drop b):=by omega
     first|exact aQ25 trivial|refine aQ25 ?_
   all_goals
    refine⟨fun h0=>?_,fun h0=>⟨by omega,by omega,by omega,?_⟩⟩
    ·refine zic (l:=[]) [] zg2 ?_
     rw [hX2,hc,zgg (by rw [hnx,zgN,if_neg (by omega)]) (by rw [hd];exact List.cons_ne_nil _ _)]
    rw [zi7]
    refine aQ28 ?_
    refine rt_app (l:=l) (y:=⟨(s.drop b).take k,-1⟩) rfl rfl rfl (by omega) ?_
    refine aQ25 ?_
    have hns:zdE (s.drop p) l.isEmpty=some (⟨(s.drop b).take k,-1⟩,s.drop (b+k)):=by
     rw [hnx,zgN,← hke,if_pos (by omega),List.drop_drop]
    rw [zad]
    refine⟨(l++[⟨(s.drop b).take k,-1⟩],b+k),⟨?_,by (show b+k≤s.length);omega,by (show (l++[_]).length≤b+k);rw [List.length_append,List.length_cons,List.length_nil];omega,?_⟩,by (dsimp only;omega),?_⟩
    ·show zeg [] s=zeg (l++[⟨(s.drop b).take k,-1⟩]) (s.drop (b+k))
     rw [hc,zgP hns (by rw [hd];exact List.cons_ne_nil _ _)]
    ·show (l++[_]).isEmpty=decide (b+k=0)
     rw [decide_eq_false (by omega)]
     cases l <;> rfl
    refine zab (q:=[2]) rfl rfl (by decide) ?_ ?_
    ·refine aQ18 ?_
     first | exact⟨by rw [List.length_append,List.length_cons,List.length_nil],.inr rfl⟩ | (rw [List.length_append,List.length_cons,List.length_nil])
    ·refine aQ29 ?_
     simp [zch]
def Inner (l:List Nd) (a e d:Nat):Prop:=∀ p,a≤p→p < e→∃ r,vl l p=some r∧r.1≤e∧r.2≤d
theorem zfP {l:List Nd} {mp:Bool} {a:Nat} (ih:∀ a' r,a < a'→vl l a'=some r→Inner l a' r.1 r.2):∀ (c:Nat) (last:Option (List UInt8)) (e d:Nat) (r:Nat × Nat),a < e→e≤l.length→zbn (vl l) l mp c last e d=some r→Inner l e r.1 (r.2+1)
 | 0,last,e,d,r,ha,he,h=>by
  simp only [zbn,Option.some.injEq] at h
  subst h
  exact fun p h1 h2=>by omega
 | c+1,last,e,d,r,ha,he,h=>by
  cases mp with
  | true =>
   rw [zcH] at h
   split at h
   ·rename_i k hk
    split at h
    ·rename_i hc
     split at h
     ·rename_i r' hr'
      have h1:=zaR hr'
      have h2:=zcG (fun e r h=>zaR h) c _ _ _ _ h1.2 h
      intro p hp1 hp2
      by_cases hpe:p=e
      ·subst hpe
       obtain⟨_,g1,g2⟩:=za3 hk
       exact⟨_,zjA g1 g2 hc.1,by show p+1≤r.1;omega,by show 1≤r.2+1;omega⟩
      ·by_cases hpr:p < r'.1
       ·obtain⟨r2,q1,q2,q3⟩:=ih (e+1) r' (by omega) hr' p (by omega) hpr
        exact⟨r2,q1,by omega,by omega⟩
       ·exact zfP ih c _ _ _ _ (by omega) h1.2 h p (by omega) hp2
     ·cases h
    ·cases h
   ·cases h
  | false =>
   rw [zce] at h
   split at h
   ·rename_i r' hr'
    have h1:=zaR hr'
    have h2:=zcG (fun e r h=>zaR h) c _ _ _ _ h1.2 h
    intro p hp1 hp2
    by_cases hpr:p < r'.1
    ·obtain⟨r2,q1,q2,q3⟩:=ih e r' ha hr' p hp1 hpr
     exact⟨r2,q1,by omega,by omega⟩
    ·exact zfP ih c _ _ _ _ (by omega) h1.2 h p (by omega) hp2
   ·cases h
theorem vl_inner {l:List Nd}:∀ (m a:Nat) (r:Nat × Nat),l.length - a=m→vl l a=some r→Inner l a r.1 r.2:=by
 intro m
 induction m using Nat.strongRecOn with
 | _ m ih =>
  intro a r hm h p hp1 hp2
  have hr:=zaR h
  by_cases hpa:p=a
  ·subst hpa;exact⟨r,h,Nat.le_refl _,Nat.le_refl _⟩
  ·obtain⟨n,q,h1,h2,rfl⟩:=zjD h
   exact zfP (a:=a) (fun a' r' ha hr'=>ih (l.length - a') (by have:=zaR hr';omega) a' r' rfl hr') _ _ _ _ _ (by omega) (by omega) h2 p (by omega) hp2
theorem za9 {l:List Nd} (h:zau l=0) {p:Nat} (hp:p < l.length):∃ r,vl l p=some r∧r.2≤32∧p < r.1∧r.1≤l.length:=by
 obtain⟨_,_,d,hv,hd⟩:=zcU h
 obtain⟨r,h1,h2,h3⟩:=vl_inner _ 0 _ rfl hv p (Nat.zero_le _) hp
 exact⟨r,h1,by omega,(zaR h1).1,h2⟩
theorem zeB {v:List Nd} {p:Nat} (h:zau v=0) (hp:p < v.length):zau (zaz v p)=0:=by
 obtain⟨r,h1,h2,_,_⟩:=za9 h hp
 exact(sub_val h hp h1 h2).1
theorem zcK {v:List Nd} {q:Nat} {r:Nat × Nat} (h:zau v=0) (hq:q < v.length) (hv:vl v q=some r):Part v (zaz v q) q∧(zaz v q).length=r.1 - q∧q < r.1∧r.1≤v.length:=by
 have g:=zaR hv
 rw [zdL h hq hv]
 exact⟨zge (by omega) g.2,by rw [List.length_drop,List.length_take];omega,by omega,g.2⟩
theorem zjT {v:List Nd} {q:Nat} {n:Nd} {r:Nat × Nat} (h:zau v=0) (hq:q < v.length) (hK:Kids v q n r):∀ k,k≤n.kids.toNat→q+eAt (zaz v q) (decide (n.kind=5)) 0 k=eAt v (decide (n.kind=5)) q k
 | 0,_=>by simp only [eAt];try omega
 | k+1,hk=>by
  obtain⟨hp,hl,g1,g2⟩:=zcK h hq hK.val
  have ih:=zjT h hq hK k (by omega)
  obtain⟨r',a1,a2,_⟩:=hK.kid (k:=k) (by omega)
  have a3:=(hK.inv (k+1) hk).2.1
  have e:=zeX hp (q:=eAt (zaz v q) (decide (n.kind=5)) 0 k+bK (decide (n.kind=5))) (r:=r') (by rw [← Nat.add_assoc,ih];exact a1) (by omega)
  have g3:=zaR a1
  have e2:eAt (zaz v q) (decide (n.kind=5)) 0 (k+1)=r'.1 - q:=by
   rw [eAt,zdD,e]
   simp only [Int.toNat_natCast]
  rw [e2,a2]
  have:=(hK.inv k (by omega)).1
  omega
theorem zjU {v:List Nd} {q:Nat} (h:zau v=0) (hq:q < v.length):(zaz v q).getD 0 n0d=v.getD q n0d:=by
 obtain⟨r,h1,_,_,_⟩:=za9 h hq
 obtain⟨hp,hl,g1,g2⟩:=zcK h hq h1
 have:=hp.at' 0 (by omega)
 rw [List.getD_eq_getElem?_getD,this,List.getD_eq_getElem?_getD,Nat.add_zero]
theorem part_kids {v:List Nd} {q:Nat} (h:zau v=0) (hq:q < v.length):zax v q=(zax (zaz v q) 0).map fun z=>(q:Int)+z:=by
 obtain⟨r,h1,h2,_,_⟩:=za9 h hq
 obtain⟨n,hK⟩:=zbN h1
 obtain⟨hp,hl,g1,g2⟩:=zcK h hq h1
 have hn:v.getD q n0d=n:=zav hK.node
 have hu:=zjU h hq
 rw [hn] at hu
 have hs:=zeB h hq
 rw [zax,if_pos (zdd h hq),zax,if_pos (show okAt (zaz v q) 0=true from zdd (p:=0) hs (by omega))]
 rw [kidP,kidP,Int.toNat_natCast,hn]
 rw [show (Int.toNat 0)=0 from rfl,hu]
 rw [List.map_map,List.map_map,List.map_map]
 refine List.map_congr_left fun k hk=>?_
 rw [List.mem_range] at hk
 have:=zjT h hq hK k (by omega)
 simp only [Function.comp_apply,Int.ofNat_eq_natCast]
 rw [← this]
 omega
theorem part_keys {v:List Nd} {q:Nat} (h:zau v=0) (hq:q < v.length):za4 v q=za4 (zaz v q) 0:=by
 obtain⟨r,h1,h2,_,_⟩:=za9 h hq
 obtain⟨n,hK⟩:=zbN h1
 obtain⟨hp,hl,g1,g2⟩:=zcK h hq h1
 have hn:v.getD q n0d=n:=zav hK.node
 have hu:=zjU h hq
 rw [hn] at hu
 have hs:=zeB h hq
 have o1:=zdd h hq
 have o2:=zdd (p:=0) hs (by omega)
 unfold za4
 rw [o1,show okAt (zaz v q) 0=true from o2,Int.toNat_natCast,hn,show (Int.toNat 0)=0 from rfl,hu]
 by_cases h5:n.kind=5
 ·rw [decide_eq_true h5]
  simp only [Bool.and_self,if_true]
  refine List.map_congr_left fun k hk=>?_
  rw [List.mem_range] at hk
  have e:=zjT h hq hK k (by omega)
  rw [decide_eq_true h5] at e
  have i1:=(hK.inv (k+1) (by omega)).2.1
  obtain⟨r',a1,a2,_⟩:=hK.kid (k:=k) hk
  have g3:=zaR a1
  rw [decide_eq_true h5] at i1 a1 a2 g3
  unfold keyT
  rw [← e,List.getD_eq_getElem?_getD,List.getD_eq_getElem?_getD,hp.at' _ (by omega)]
 ·rw [decide_eq_false h5]
  simp
theorem zix {v:List Nd} {q n:Nat} (h:zau v=0) (hq:q < v.length) (hn:n < (zaz v q).length):zaz v ((q+n:Nat):Int)=zaz (zaz v q) n:=by
 obtain⟨r,h1,h2,_,_⟩:=za9 h hq
 obtain⟨hp,hl,g1,g2⟩:=zcK h hq h1
 have hs:=zeB h hq
 obtain⟨r',b1,b2,b3,b4⟩:=za9 hs hn
 have c1:=part_to hp b1
 rw [zdL hs hn b1,zdL h (by omega) c1,zdL h hq h1]
 have g3:=zaR c1
 have e1:((v.take r.1).drop q).take r'.1=(v.take (q+r'.1)).drop q:=by
  rw [List.take_drop,List.take_take,Nat.min_eq_left (by omega)]
 rw [e1,List.drop_drop]
theorem zgl {v:List Nd} {q:Nat} (h:zau v=0) (hq:q < v.length) (x:Pt):zaZ v q x=(zaZ (zaz v q) 0 x).map fun z=>(q:Int)+z:=by
 have hk:=part_kids h hq
 have hy:=part_keys h hq
 have hd:kdOf v q=kdOf (zaz v q) 0:=by unfold kdOf;rw [zjU h hq]
 have hlen:(zax v q).length=(zax (zaz v q) 0).length:=by rw [hk,List.length_map]
 have get:∀ i:Nat,i < (zax v q).length→(zax v q).getD i 0=(q:Int)+(zax (zaz v q) 0).getD i 0:=fun i hi=>by
  rw [hk,List.getD_eq_getElem?_getD,List.getElem?_map,List.getD_eq_getElem?_getD,List.getElem?_eq_getElem (by omega)]
  rfl
 have hkk:=zgh v q
 rw [hy] at hkk
 unfold zaZ
 rw [show ((0:Nat):Int)=0 from rfl] 
 rw [hd,hy,hlen]
 by_cases c1:kdOf (zaz v q) 0=4∧0≤x.pos∧x.pos < ((zax (zaz v q) 0).length:Int)
 ·rw [if_pos c1,if_pos c1,get _ (by omega)]
  rfl
 ·rw [if_neg c1,if_neg c1]
  by_cases c2:kdOf (zaz v q) 0=5∧x.pos < 0∧bsF (za4 (zaz v q) 0) x.key=true
  ·rw [if_pos c2,if_pos c2]
   have hb:=c2.2.2
   unfold bsF at hb
   rw [Bool.and_eq_true] at hb
   have:=of_decide_eq_true hb.1
   rw [get _ (by omega)]
   rfl
  ·rw [if_neg c2,if_neg c2]
   rfl
theorem fm_congr {α β:Type} {f g:α→Option β}:∀ {l:List α},(∀ a∈l,f a=g a)→l.filterMap f=l.filterMap g
 | [],_=>rfl
 | a::l,h=>by
  rw [List.filterMap_cons,List.filterMap_cons,h a (List.mem_cons_self ..),fm_congr fun b hb=>h b (List.mem_cons_of_mem _ hb)]
theorem zjV {α β:Type} {f g:α→List β}:∀ {l:List α},(∀ a∈l,f a=g a)→l.flatMap f=l.flatMap g
 | [],_=>rfl
 | a::l,h=>by
  rw [List.flatMap_cons,List.flatMap_cons,h a (List.mem_cons_self ..),zjV fun b hb=>h b (List.mem_cons_of_mem _ hb)]
def zjW (v:List Nd) (q:Int) (l:List Pt):List Int:=l.foldl (fun ps x=>zci v x ps) [q]
theorem ziy (v:List Nd):∀ (l:List Pt) (ps:List Int),l.foldl (fun ps x=>zci v x ps) ps=ps.flatMap fun q=>zjW v q l
 | [],ps=>by simp [zjW]
 | x::l,ps=>by
  rw [List.foldl_cons,ziy v l]
  have e:(fun q=>zjW v q (x::l))=fun q=>(zci v x [q]).flatMap fun q=>zjW v q l:=by
   funext q
   rw [zjW,List.foldl_cons,ziy v l]
  rw [e]
  unfold zci
  rw [List.flatMap_assoc]
  simp
theorem from_cons (v:List Nd) (q:Nat) (x:Pt) (l:List Pt):zjW v q (x::l)=(zbO v q x).flatMap fun q=>zjW v q l:=by
 rw [zjW,List.foldl_cons,ziy v l]
 simp [zci]
theorem part_spread {v:List Nd} {q:Nat} (h:zau v=0) (hq:q < v.length) (x:Pt):zbO v q x=(zbO (zaz v q) 0 x).map fun z=>(q:Int)+z:=by
 have hs:=zeB h hq
 have hpos:=(za1 hs).1
 have hk:=part_kids h hq
 have hd:kdOf v q=kdOf (zaz v q) 0:=by unfold kdOf;rw [zjU h hq]
 have hf:=zgl h hq x
 unfold zbO zeG
 rw [hd]
 by_cases c:kdOf (zaz v q) 0=4∧x.pos < 0
 ·rw [if_pos c,if_pos c,hk]
  unfold zaT
  rw [List.filterMap_map,List.map_filterMap]
  refine fm_congr fun z hz=>?_
  obtain⟨m,rfl,hm⟩:=zdf hz
  have hl:q+m < v.length:=by
   obtain⟨r,h1,_,_,_⟩:=za9 h hq
   obtain⟨_,hl,_,g2⟩:=zcK h hq h1
   omega
  simp only [Function.comp_apply]
  rw [show ((q:Int)+(m:Int)).toNat=q+m by omega,Int.toNat_natCast,zgl h hl x,zgl hs hm x]
  rw [zix h hq hm,Option.map_map]
  congr 1
  funext z
  simp only [Function.comp_apply]
  omega
 ·rw [if_neg c,if_neg c]
  unfold zaT
  simp only [List.filterMap_cons,List.filterMap_nil,Int.toNat_natCast]
  rw [hf]
  cases zaZ (zaz v q) 0 x <;> rfl
def EA (u:List Nd):List Pt→List (List Nd)
 | []=>[u]
 | x::l=>(zbO u 0 x).flatMap fun n=>EA (zaz u n) l
theorem from_EA {v:List Nd} (h:zau v=0):∀ (l:List Pt) (q:Nat),q < v.length→(zjW v q l).map (fun z=>zaz v z)=EA (zaz v q) l
 | [],q,_=>rfl
 | x::l,q,hq=>by
  rw [from_cons,EA,part_spread h hq,List.flatMap_map,List.map_flatMap]
  refine zjV fun z hz=>?_
  obtain⟨m,rfl,hm⟩:=zi0 hz
  have hl:q+m < v.length:=by
   obtain⟨r,h1,_,_,_⟩:=za9 h hq
   obtain⟨_,hl,_,g2⟩:=zcK h hq h1
   omega
  rw [show ((q:Int)+(m:Int))=((q+m:Nat):Int) by omega,from_EA h l (q+m) hl,zix h hq hm]
theorem sub_whole {v:List Nd} (h:zau v=0):zaz v 0=v:=by
 obtain⟨h1,h2⟩:=za1 h
 obtain⟨_,_,d,hv,_⟩:=zcU h
 rw [show (0:Int)=((0:Nat):Int) from rfl,zdL h h1 hv]
 simp
theorem each_EA {v:List Nd} (h:zau v=0) (l:List Pt):(zbP v l).map (fun z=>zaz v z)=EA v l:=by
 have:=from_EA h l 0 (za1 h).1
 rw [show ((0:Nat):Int)=0 from rfl,sub_whole h] at this
 exact this
theorem EA_row {u:List Nd} {x:Pt} {l:List Pt} (h:zau u=0) (h4:kdOf u 0=4) (hx:x.pos < 0):EA u (x::l)=(zax u 0).flatMap fun n=>if kdOf (zaz u n) 0=4 then [] else EA (zaz u n) (x::l):=by
 have e:zbO u 0 x=(zax u 0).flatMap fun n=>(zaZ u n.toNat x).toList:=by
  unfold zbO zeG zaT
  rw [if_pos ⟨h4,hx⟩]
  induction zax u 0 with
  | nil=>rfl
  | cons a L ih=>rw [List.filterMap_cons,List.flatMap_cons,← ih];cases zaZ u a.toNat x <;> rfl
 rw [EA,e,List.flatMap_assoc]
 refine zjV fun z hz=>?_
 obtain⟨m,rfl,hm⟩:=zdf hz
 have hs:=zeB h hm
 rw [Int.toNat_natCast,zgl h hm x]
 by_cases c:kdOf (zaz u m) 0=4
 ·rw [if_pos c]
  have hn:zaZ (zaz u m) 0 x=none:=by
   unfold zaZ
   rw [if_neg (fun h=>by omega),if_neg (fun h=>by omega)]
  rw [hn]
  rfl
 ·rw [if_neg c,EA]
  have e2:zbO (zaz u m) 0 x=(zaZ (zaz u m) 0 x).toList:=by
   unfold zbO zeG zaT
   rw [if_neg (fun h=>c h.1)]
   simp only [List.filterMap_cons,List.filterMap_nil]
   rw [show ((0:Nat):Int).toNat=0 from rfl]
   cases zaZ (zaz u m) 0 x <;> rfl
  rw [e2]
  cases hf:zaZ (zaz u m) 0 x with
  | none=>rfl
  | some n =>
   obtain⟨k,rfl,hk⟩:=zjI hf
   simp only [Option.map_some,Option.toList_some,List.flatMap_cons,List.flatMap_nil,List.append_nil]
   rw [show ((m:Int)+(k:Int))=((m+k:Nat):Int) by omega,zix h hm hk]
theorem EA_one {u:List Nd} {x:Pt} {l:List Pt} (hc:¬ (kdOf u 0=4∧x.pos < 0)):EA u (x::l)=match zaZ u 0 x with
  | some n=>EA (zaz u n) l
  | none=>[]:=by
 rw [EA]
 have e2:zbO u 0 x=(zaZ u 0 x).toList:=by
  unfold zbO zeG zaT
  rw [if_neg hc]
  simp only [List.filterMap_cons,List.filterMap_nil]
  rw [show ((0:Nat):Int).toNat=0 from rfl]
  cases zaZ u 0 x <;> rfl
 rw [e2]
 cases zaZ u 0 x with
 | none=>rfl
 | some n=>simp
theorem rsub_ok (v:List Nd) (q:Nat) (h:zau v=0) (hq:q < v.length):ACalls Tryz.prog 223 [.sl (v.flatMap nC) v.length,i64 q] [] (fun y _=>y=.ret (.sl ((zaz v q).flatMap nC) (zaz v q).length)):=by
 obtain⟨r,hr1,_,_,_⟩:=za9 h hq
 have hle:=(za1 h).2
 obtain⟨hp,hl,g1,g2⟩:=zcK h hq hr1
 have hsub:=zdL h hq hr1
 refine ACalls.body T_ok Tryz.func223 (by kernel_rfl) rfl Tryz.ntmps223 (congrArg Array.toList Tryz.results223) ?_
 refine aQ68 ?_
 refine(zcf v (by omega) q (by omega) hr1).pure aQ10 ?_
 rintro _ σ rfl
 refine⟨zbw _ _ _ _ _ _,?_⟩
 refine aQ68 ?_
 refine sl_N T23 T66 (by omega) (by omega) (by omega) ?_
 rw [show (r.1:Int).toNat=r.1 from rfl,Int.toNat_natCast,← hsub]
 refine aQ68 ?_
 rw [hl]
 exact zaF (by simp [AV.ren,zai]) rfl
theorem zjX {v:List Nd} (h:zau v=0):kidZ v 0 (v.getD 0 n0d).kids.toNat=zax v 0:=by
 rw [zax,if_pos (show okAt v 0=true from zdd (p:=0) h (za1 h).1),kidZ,kidP,List.map_map]
 rfl
theorem keyZ_in {v:List Nd} {r:Nat × Nat} (h:zau v=0) (hv:vl v 0=some r):∀ z∈keyZ v 0 (v.getD 0 n0d).kids.toNat,∃ m:Nat,z=m∧m < v.length:=by
 intro z hz
 unfold keyZ at hz
 split at hz
 ·rename_i h5
  obtain⟨k,hk,rfl⟩:=List.mem_map.1 hz
  rw [List.mem_range] at hk
  obtain⟨n,hK⟩:=zbN hv
  have hn:v.getD 0 n0d=n:=zav hK.node
  rw [hn] at hk h5
  obtain⟨r',a1,a2,_⟩:=hK.kid (k:=k) hk
  have g:=zaR a1
  rw [decide_eq_true h5] at g
  exact⟨_,rfl,by omega⟩
 ·cases hz
def zg7 (v:List Nd) (l:List Int):List (List UInt8):=l.map fun z=>(v.getD z.toNat n0d).text
theorem keysT_take {v:List Nd} {l:List Int} {k:Nat} (h:k < l.length):zg7 v (l.take (k+1))=zg7 v (l.take k)++[(v.getD (l.getD k 0).toNat n0d).text]:=by
 rw [zbR 0 h,zg7,zg7,List.map_append]
 rfl
theorem rparts_ok (v:List Nd) (h:zau v=0):ACalls Tryz.prog 221 [.sl (v.flatMap nC) v.length] [] (fun y _=>∃ ks:List (List UInt8),y=.ret (.tup [.sl (ks.map str) ks.length,.sl ((ze1 v).map slNs) (ze1 v).length])):=by
 obtain⟨h0,h120⟩:=za1 h
 obtain⟨r,hr1,_,_,_⟩:=za9 h h0
 have hki:=keyZ_in h hr1
 have hkz:=zjX h
 have hsv:ze1 v=zbq v (zax v 0) (zax v 0).length:=by rw [zbq,List.take_length];rfl
 have hkl:=zde v 0 (by omega)
 have hkm:=fun q=>@zdf v 0 q
 have hsl:(keyZ v 0 (v.getD 0 n0d).kids.toNat).length≤1000000:=by
  have hc:(v.getD 0 n0d).kids.toNat=(zax v 0).length:=by rw [← hkz];simp [kidZ]
  unfold keyZ
  split
  ·rw [List.length_map,List.length_range];omega
  ·simp
 refine ACalls.body T_ok Tryz.func221 (by kernel_rfl) rfl Tryz.ntmps221 (congrArg Array.toList Tryz.results221) ?_
 refine aQ68 ?_
 refine(zcf v (by omega) 0 (by omega) hr1).pure aQ10 ?_
 rintro _ σ rfl
 refine⟨zbw _ _ _ _ _ _,?_⟩
 rw [hkz,hsv]
 clear hkz hsv
 generalize zax v 0=ps at hkl hkm ⊢
 generalize keyZ v 0 (v.getD 0 n0d).kids.toNat=ss at hki hsl ⊢
 refine aQ68 ?_
 rw [zaK]
 refine⟨Nat,fun j=>j≤ps.length,fun j=>[.sl (v.flatMap nC) v.length,.bot,.bot,.bot,.ptr 0 0,.lit (.slice none 0 0),.ref 1 0 (zbq v ps j).length 1,i64 j,.bot,.bot,.bot,.bot,.bot,.bot,.bot,.bot,.bot,.bot,.bot,.bot,.bot,.bot,.bot,.bot,.bot,.bot,.bot,.bot,.bot,.bot,.bot,.bot,.bot,.bot,.bot,.bot,.bot,.bot,.bot,.bot,.bot,.bot,.bot,.bot,.bot,.bot,.bot,.bot,.bot],fun j=>[.rw (sC r.1 r.2 false (slI ps) (slI ss)),.rw ((zbq v ps j).map slNs)],fun j=>ps.length - j,0,Nat.zero_le _,zbv 6 1 rfl (zab (q:=[0,1]) rfl rfl (by decide) ?_ ?_),?_⟩
 ·refine aQ18 ?_
  simp [zai,AV.ren,zbq]
 ·refine aQ18 ?_
  simp [zaw,zar,zbr,renL,zbq]
 intro j hj
 have hj:j≤ps.length:=hj
 dsimp only
 by_cases jlt:j < ps.length
 ·have dj:decide ((j:Int) < (ps.length:Int))=true:=decide_eq_true (by omega)
  have hst:=ziq (v:=v) jlt
  have hln:(zbq v ps j).length=j:=by unfold zbq;rw [List.length_map,List.length_take];omega
  obtain⟨n,hn1,hn2⟩:=hkm (ps.getD j 0) (by rw [List.getD_eq_getElem?_getD,List.getElem?_eq_getElem jlt];exact List.getElem_mem jlt)
  have dza:=dj
  refine aQ69 ?_
  refine⟨by omega,by omega,jlt,?_⟩
  rw [hn1] at hst ⊢
  refine(rsub_ok v n h hn2).pure aQ5 ?_
  rintro _ σ rfl
  refine⟨by simp [AEnd.noid,AV.ren,zai],?_⟩
  refine aQ68 ?_
  refine zaG slNs zbC rfl rfl T40 T40 (zc5 _) T23 (Go.Eng.one_sl _) (l:=zbq v ps j) (ys:=[zaz v n]) (m:=1) rfl rfl rfl (by omega) (by simp only [tySl];omega) ?_
  refine aQ68 ?_
  refine⟨by unfold inI;omega,?_⟩
  rw [zad]
  refine⟨j+1,by (show j+1≤ps.length);omega,by (show ps.length - (j+1) < ps.length - j);omega,?_⟩
  rw [hst,List.length_append]
  refine zab (q:=[0,3]) rfl rfl (by decide) ?_ ?_
  ·refine aQ18 ?_
   simp [zai,AV.ren]
  ·refine aQ18 ?_
   simp [-List.map_append,zaw,zar,zbr,zal]
 obtain rfl:j=ps.length:=by omega
 have dj:decide ((ps.length:Int) < (ps.length:Int))=false:=decide_eq_false (by omega)
 have dza:=dj
 refine aQ69 ?_
 generalize zbq v ps ps.length=L
 rw [zaK]
 refine⟨Nat,fun k=>k≤ss.length,fun k=>[.sl (v.flatMap nC) v.length,.bot,.bot,.bot,.ptr 0 0,.ref 2 0 (zg7 v (ss.take k)).length 1,.ref 1 0 L.length 1,.bot,i64 k,.bot,.bot,.bot,.bot,.bot,.bot,.bot,.bot,.bot,.bot,.bot,.bot,.bot,.bot,.bot,.bot,.bot,.bot,.bot,.bot,.bot,.bot,.bot,.bot,.bot,.bot,.bot,.bot,.bot,.bot,.bot,.bot,.bot,.bot,.bot,.bot,.bot,.bot,.bot,.bot],fun k=>[.rw (sC r.1 r.2 false (slI ps) (slI ss)),.rw (L.map slNs),.rw ((zg7 v (ss.take k)).map str)],fun k=>ss.length - k,0,Nat.zero_le _,zbv 5 1 rfl (zab (q:=[0,1,2]) rfl rfl (by decide) ?_ ?_),?_⟩
 ·refine aQ18 ?_
  simp [zai,AV.ren,zg7]
 ·refine aQ18 ?_
  simp [zaw,zar,zbr,zal,renL,zg7]
 intro k hk
 have hk:k≤ss.length:=hk
 dsimp only
 by_cases klt:k < ss.length
 rotate_left
 ·obtain rfl:k=ss.length:=by omega
  have dk:decide ((ss.length:Int) < (ss.length:Int))=false:=decide_eq_false (by omega)
  rw [List.take_length]
  have dza:=dk
  refine aQ69 ?_
  generalize zg7 v ss=ks
  exact zaX [1,2] (.tup [.sl (ks.map str) ks.length,.sl (L.map slNs) L.length]) ⟨_,rfl,_,_,rfl,frz_Ss (l:=ks) rfl rfl,_,_,rfl,zdB rfl,rfl⟩ ⟨[],_,[],rfl,rfl,by decide,by simp [AV.ren,renL,zkb,zal],trivial,⟨ks,rfl⟩⟩
 have dk:decide ((k:Int) < (ss.length:Int))=true:=decide_eq_true (by omega)
 have hkt:=keysT_take (v:=v) klt
 obtain⟨n,hn1,hn2⟩:=hki (ss.getD k 0) (by rw [List.getD_eq_getElem?_getD,List.getElem?_eq_getElem klt];exact List.getElem_mem klt)
 have hkl2:(zg7 v (ss.take k)).length=k:=by rw [zg7,List.length_map,List.length_take];omega
 have dza:=dk
 refine aQ69 ?_
 refine⟨by omega,by omega,klt,by omega,by omega,Nat.le_refl _,by omega,?_⟩
 refine zaG str zeT rfl rfl T43 T43 (zc5 _) T9 zgB (l:=zg7 v (ss.take k)) (ys:=[(v.getD (ss.getD k 0).toNat n0d).text]) (m:=1) rfl rfl (asrc_ref (l:=[(v.getD (ss.getD k 0).toNat n0d).text]) rfl rfl) (by omega) (by simp only [zbf];omega) ?_
 refine aQ68 ?_
 refine⟨by unfold inI;omega,?_⟩
 rw [zad]
 refine⟨k+1,by (show k+1≤ss.length);omega,by (show ss.length - (k+1) < ss.length - k);omega,?_⟩
 rw [hkt,List.length_append]
 refine zab (q:=[0,1,4]) rfl rfl (by decide) ?_ ?_
 ·refine aQ18 ?_
  simp [zai,AV.ren]
 ·refine aQ18 ?_
  simp [-List.map_append,zaw,zar,zbr,zal,zkb]
theorem leB_lt (t s:List UInt8):(leB t s=false)=(s < t):=by
 rw [eq_iff_iff]
 simp only [leB,Bool.or_eq_false_iff,decide_eq_false_iff_not,Go.Proofs.bytesLess_eq]
 rw [← not_or,← List.le_iff_lt_or_eq,List.not_le]
theorem keys_lt {v:List Nd} {q:Nat} {n:Nd} {r:Nat × Nat} (hK:Kids v q n r) (h5:n.kind=5) {i:Nat}:∀ j,i < j→j < n.kids.toNat→keyT v true q i < keyT v true q j
 | 0,h,_=>absurd h (Nat.not_lt_zero _)
 | j+1,h,hj=>by
  obtain⟨_,_,_,g3⟩:=hK.kid (k:=j+1) hj
  obtain⟨m,_,_,g4,g5⟩:=g3 h5
  have g6:=g5 (by omega)
  rw [g4,decide_eq_true h5,leB_lt,Nat.add_sub_cancel] at g6
  by_cases e:i=j
  ·rw [e]
   exact g6
  ·exact List.lt_trans (keys_lt hK h5 j (by omega) (by omega)) g6
theorem bsI_hit (L:List (List UInt8)) (key:List UInt8) (k:Nat) (hk:L.getD k []=key) (hs:∀ i j,i < j→j < L.length→L.getD i [] < L.getD j []) (hkl:k < L.length):∀ (n i j:Nat),j - i≤n→i≤k→k≤j→j≤L.length→(j=L.length→True)→bsI L key n i j=k
 | 0,i,j,hn,hi,hj,_,_=>by
  rw [bsI]
  omega
 | n+1,i,j,hn,hi,hj,hl,_=>by
  rw [bsI]
  split
  ·rename_i hij
   rw [Go.Proofs.bytesLess_eq]
   by_cases hm:(i+j) / 2 < k
   ·have:=hs _ k hm hkl
    rw [hk] at this
    rw [decide_eq_true this,if_pos rfl]
    exact bsI_hit L key k hk hs hkl n _ _ (by omega) (by omega) hj hl (fun _=>trivial)
   ·have:¬ L.getD ((i+j) / 2) [] < key:=by
     rw [← hk]
     by_cases e:(i+j) / 2=k
     ·rw [e]
      exact List.lt_irrefl _
     ·intro h
      exact absurd (List.lt_trans h (hs k _ (by omega) (by omega))) (List.lt_irrefl _)
    rw [decide_eq_false this,if_neg (by decide)]
    exact bsI_hit L key k hk hs hkl n _ _ (by omega) hi (by omega) (by omega) (fun _=>trivial)
  ·omega
theorem bsV_hit {L:List (List UInt8)} {key:List UInt8} {k:Nat} (hk:L.getD k []=key) (hs:∀ i j,i < j→j < L.length→L.getD i [] < L.getD j []) (hkl:k < L.length):bsV L key=k∧bsF L key=true:=by
 have h:bsV L key=k:=bsI_hit L key k hk hs hkl _ _ _ (by omega) (Nat.zero_le _) (by omega) (Nat.le_refl _) (fun _=>trivial)
 refine⟨h,?_⟩
 rw [bsF,h,hk,decide_eq_true hkl,decide_eq_true rfl]
 rfl
theorem keys_eq {v:List Nd} {q:Nat} {n:Nd} {r:Nat × Nat} (h0:zau v=0) (hK:Kids v q n r):za4 v q=if n.kind=5 then (List.range n.kids.toNat).map (keyT v true q) else []:=by
 have hq:=(hK.few).2.2.2
 have hg:v.getD q n0d=n:=zav hK.node
 unfold za4
 rw [zdd h0 hq,Int.toNat_natCast,hg,Bool.true_and]
 by_cases h5:n.kind=5
 ·rw [decide_eq_true h5,if_pos rfl,if_pos h5]
 ·rw [decide_eq_false h5,if_neg (by decide),if_neg h5]
theorem keys_len {v:List Nd} {q:Nat} {n:Nd} {r:Nat × Nat} (h0:zau v=0) (hK:Kids v q n r) (h5:n.kind=5):(za4 v q).length=n.kids.toNat:=by
 rw [keys_eq h0 hK,if_pos h5]
 simp
theorem keys_at {v:List Nd} {q:Nat} {n:Nd} {r:Nat × Nat} (h0:zau v=0) (hK:Kids v q n r) (h5:n.kind=5) {k:Nat} (hk:k < n.kids.toNat):(za4 v q).getD k []=keyT v true q k:=by
 rw [keys_eq h0 hK,if_pos h5,List.getD_eq_getElem?_getD,List.getElem?_map,List.getElem?_range hk]
 rfl
theorem find_in {v:List Nd} {r:Nat × Nat} {n:Nd} {x:Pt} (h:zau v=0) (hK:Kids v 0 n r) (h5:n.kind=5) (hx:x.pos < 0) {k:Nat} (hk:k < n.kids.toNat) (he:keyT v true 0 k=x.key):zaZ v 0 x=some ((zax v 0).getD k 0):=by
 have hn:v.getD 0 n0d=n:=zav hK.node
 have hl:(za4 v 0).length=n.kids.toNat:=keys_len h hK h5
 have hat:∀ k,k < n.kids.toNat→(za4 v 0).getD k []=keyT v true 0 k:=fun k hk=>keys_at h hK h5 hk
 have hb:=bsV_hit (L:=za4 v 0) (key:=x.key) (k:=k) (by rw [hat k hk];exact he) (fun i j h1 h2=>by
  rw [hat i (by omega),hat j (by omega)]
  exact keys_lt hK h5 j h1 (by omega)) (by omega)
 unfold zaZ kdOf
 rw [hn,if_neg (fun h=>by omega),if_pos ⟨h5,hx,hb.2⟩]
 rw [show ((0:Nat):Int)=0 from rfl,hb.1]
theorem find_out {v:List Nd} {r:Nat × Nat} {n:Nd} {x:Pt} (h:zau v=0) (hK:Kids v 0 n r) (hx:x.pos < 0) (hno:∀ k,k < n.kids.toNat→n.kind=5→keyT v true 0 k≠x.key):zaZ v 0 x=none:=by
 have hn:v.getD 0 n0d=n:=zav hK.node
 unfold zaZ kdOf
 rw [hn,if_neg (fun h=>by omega),if_neg]
 rintro⟨h5,_,hb⟩
 have hl:(za4 v 0).length=n.kids.toNat:=keys_len h hK h5
 have hat:∀ k,k < n.kids.toNat→(za4 v 0).getD k []=keyT v true 0 k:=fun k hk=>keys_at h hK h5 hk
 unfold bsF at hb
 rw [Bool.and_eq_true,show ((0:Nat):Int)=0 from rfl] at hb
 have h1:=of_decide_eq_true hb.1
 have h2:=of_decide_eq_true hb.2
 exact hno (bsV (za4 v 0) x.key) (by omega) h5 (by rw [← hat (bsV (za4 v 0) x.key) (by omega),h2])
section
variable {σ : zaa} {K : AV → Prop} {KS : AV → zaa → Prop} {id : Nat}
theorem fp_R0 (o:Nat):zag T 250 (.ptr id o) 0 K=K (.ptr id (o+0)):=fzP T250 rfl rfl T9 (by decide) id o
theorem fp_R1 (o:Nat):zag T 250 (.ptr id o) 1 K=K (.ptr id (o+1)):=fzP T250 rfl rfl T3 (by decide) id o
end
theorem rkid_ok (v:List Nd) (x:Pt) (h:zau v=0) (hx:inI x.pos):ACalls Tryz.prog 222 [.sl (v.flatMap nC) v.length,.agg [str x.key,i64 x.pos]] [] (fun y _=>y=.ret (i64 ((zaZ v 0 x).getD (-1)))):=by
 obtain⟨h0,h120⟩:=za1 h
 obtain⟨r,hr1,_,_,_⟩:=za9 h h0
 obtain⟨n,hK⟩:=zbN hr1
 have hn:v.getD 0 n0d=n:=zav hK.node
 have hki:=keyZ_in h hr1
 have hkz:=zjX h
 have hkl:=zde v 0 (by omega)
 have hfew:=hK.few
 have hc:n.kids.toNat=(zax v 0).length:=by rw [← hn,← hkz];simp [kidZ]
 refine ACalls.body T_ok Tryz.func222 (by kernel_rfl) rfl Tryz.ntmps222 (congrArg Array.toList Tryz.results222) ?_
 refine aQ70 ?_
 refine(zcf v (by omega) 0 (by omega) hr1).pure aQ10 ?_
 rintro _ σ rfl
 refine⟨zbw _ _ _ _ _ _,?_⟩
 have hss:n.kind=5→(keyZ v 0 n.kids.toNat).length=n.kids.toNat:=fun h5=>by
  rw [keyZ,hn,if_pos h5];simp
 have h5of:0 < (keyZ v 0 n.kids.toNat).length→n.kind=5:=fun h9=>by
  by_cases h5:n.kind=5
  ·exact h5
  ·rw [keyZ,hn,if_neg h5] at h9
   exact absurd h9 (by simp)
 have hget:n.kind=5→∀ k,k < n.kids.toNat→(keyZ v 0 n.kids.toNat).getD k 0=((eAt v true 0 k:Nat):Int):=fun h5 k hk=>by
  rw [keyZ,hn,if_pos h5,List.getD_eq_getElem?_getD,List.getElem?_map,List.getElem?_range hk]
  rfl
 have hkd:kdOf v 0=n.kind:=by rw [kdOf,hn]
 rw [hkz,hn]
 refine aQ70 ?_
 by_cases hA:0≤x.pos
 ·have hnone:¬ (n.kind=4∧x.pos < (zax v 0).length)→(x.pos < 0→∀ k,k < n.kids.toNat→n.kind=5→keyT v true 0 k≠x.key)→zaZ v 0 x=none:=fun hc4 _=>by
   unfold zaZ
   rw [hkd,show ((0:Nat):Int)=0 from rfl,if_neg (fun h=>hc4 ⟨h.1,h.2.2⟩),if_neg (fun h=>by omega)]
  have dza:=decide_eq_true hA
  refine aQ71 ?_
  refine⟨by omega,by omega,Nat.le_refl _,?_⟩
  rw [zfk (t:=0) h0,hn]
  by_cases h4:n.kind=4
  ·by_cases hlt:x.pos < ((zax v 0).length:Int)
   ·have dza:=decide_eq_true h4
    have dzb:=decide_eq_true hlt
    refine aQ72 ?_
    have hf:zaZ v 0 x=some ((zax v 0).getD x.pos.toNat 0):=by
     unfold zaZ
     rw [hkd,show ((0:Nat):Int)=0 from rfl,if_pos ⟨h4,hA,hlt⟩]
    rw [hf]
    exact⟨by omega,by omega,by omega,zap rfl⟩
   ·have hnone:=hnone (fun h=>hlt h.2)
    have dza:=decide_eq_true h4
    have dzb:=decide_eq_false hlt
    refine aQ72 ?_
    rw [zaK]
    refine⟨Nat,fun k=>k≤(keyZ v 0 n.kids.toNat).length∧(x.pos < 0→∀ j,j < k→n.kind=5→keyT v true 0 j≠x.key),fun k=>[.sl (v.flatMap nC) v.length,.bot,.bot,.ptr 0 0,.bot,.ptr 1 0,i64 k,.bot,.bot,.bot,.bot,.bot,.bot,.bot,.bot,.bot,.bot,.bot,.bot,.bot,.bot,.bot,.bot,.bot,.bot,.bot,.bot,.bot,.bot,.bot,.bot,.bot,.bot,.bot,.bot,.bot,.bot,.bot,.bot,.bot,.bot,.bot,.bot,.bot,.bot,.bot,.bot,.bot,.bot,.bot,.bot,.bot,.bot,.bot,.bot,.bot,.bot,.bot,.bot,.bot,.bot,.bot],fun _=>[.rw [str x.key,i64 x.pos],.rw (sC r.1 r.2 false (slI (zax v 0)) (slI (keyZ v 0 n.kids.toNat)))],fun k=>(keyZ v 0 n.kids.toNat).length - k,0,⟨Nat.zero_le _,fun _ j hj=>absurd hj (Nat.not_lt_zero _)⟩,zab (q:=[0,1]) rfl rfl (by decide) ?_ ?_,?_⟩
    ·refine aQ18 ?_
     simp [zai,AV.ren]
    ·refine aQ18 ?_
     exact aQ73 trivial
    rintro k ⟨hk,hno⟩
    have hk:k≤(keyZ v 0 n.kids.toNat).length:=hk
    dsimp only
    by_cases klt:k < (keyZ v 0 n.kids.toNat).length
    rotate_left
    ·have dk:decide ((k:Int) < ((keyZ v 0 n.kids.toNat).length:Int))=false:=decide_eq_false (by omega)
     have dza:=dk
     refine aQ71 ?_
     have hf:zaZ v 0 x=none:=hnone (fun hx j hj h5=>hno hx j (by have:=hss h5;omega) h5)
     rw [hf]
     exact zap rfl
    have dk:decide ((k:Int) < ((keyZ v 0 n.kids.toNat).length:Int))=true:=decide_eq_true (by omega)
    have h5:n.kind=5:=h5of (by omega)
    have hlen:=hss h5
    have hz:=hget h5 k (by omega)
    obtain⟨r',a1,a2,_⟩:=hK.kid (k:=k) (by omega)
    have g:=zaR a1
    rw [decide_eq_true h5] at g a1
    have dza:=dk
    refine aQ71 ?_
    refine zcw (by kernel_rfl) (by kernel_rfl) ?_
    by_cases hx0:x.pos < 0
    rotate_left
    ·have dza:=decide_eq_false hx0
     refine aQ71 ?_
     refine⟨by unfold inI;omega,?_⟩
     rw [zad]
     refine⟨k+1,⟨by (show k+1≤(keyZ v 0 n.kids.toNat).length);omega,fun h=>absurd h hx0⟩,by (show (keyZ v 0 n.kids.toNat).length - (k+1) < (keyZ v 0 n.kids.toNat).length - k);omega,zab (q:=[0,1]) rfl rfl (by decide) ?_ ?_⟩
     ·refine aQ18 ?_
      simp [zai,AV.ren]
     ·refine aQ18 ?_
      exact aQ73 trivial
    have dza:=decide_eq_true hx0
    refine aQ71 ?_
    have htx:(v.getD (eAt v true 0 k) n0d).text=keyT v true 0 k:=rfl
    rw [hz,Int.toNat_natCast]
    refine⟨by omega,by omega,klt,by omega,by omega,Nat.le_refl _,by omega,fun he=>⟨by omega,by omega,by omega,?_⟩,fun he=>⟨by unfold inI;omega,?_⟩⟩
    ·rw [find_in h hK h5 hx0 (k:=k) (by omega) (by rw [← htx];exact he)]
     exact zap rfl
    rw [zad]
    refine⟨k+1,⟨by (show k+1≤(keyZ v 0 n.kids.toNat).length);omega,fun hx j hj h5=>?_⟩,by (show (keyZ v 0 n.kids.toNat).length - (k+1) < (keyZ v 0 n.kids.toNat).length - k);omega,zab (q:=[0,1]) rfl rfl (by decide) ?_ ?_⟩
    ·rcases Nat.lt_succ_iff_lt_or_eq.1 hj with h3 | rfl
     ·exact hno hx j h3 h5
     ·rw [← htx];exact he
    ·refine aQ18 ?_
     simp [zai,AV.ren]
    ·refine aQ18 ?_
     exact aQ73 trivial
  ·have hnone:=hnone (fun h=>h4 h.1)
   have dza:=decide_eq_false h4
   refine aQ71 ?_
   rw [zaK]
   refine⟨Nat,fun k=>k≤(keyZ v 0 n.kids.toNat).length∧(x.pos < 0→∀ j,j < k→n.kind=5→keyT v true 0 j≠x.key),fun k=>[.sl (v.flatMap nC) v.length,.bot,.bot,.ptr 0 0,.bot,.ptr 1 0,i64 k,.bot,.bot,.bot,.bot,.bot,.bot,.bot,.bot,.bot,.bot,.bot,.bot,.bot,.bot,.bot,.bot,.bot,.bot,.bot,.bot,.bot,.bot,.bot,.bot,.bot,.bot,.bot,.bot,.bot,.bot,.bot,.bot,.bot,.bot,.bot,.bot,.bot,.bot,.bot,.bot,.bot,.bot,.bot,.bot,.bot,.bot,.bot,.bot,.bot,.bot,.bot,.bot,.bot,.bot,.bot],fun _=>[.rw [str x.key,i64 x.pos],.rw (sC r.1 r.2 false (slI (zax v 0)) (slI (keyZ v 0 n.kids.toNat)))],fun k=>(keyZ v 0 n.kids.toNat).length - k,0,⟨Nat.zero_le _,fun _ j hj=>absurd hj (Nat.not_lt_zero _)⟩,zab (q:=[0,1]) rfl rfl (by decide) ?_ ?_,?_⟩
   ·refine aQ18 ?_
    simp [zai,AV.ren]
   ·refine aQ18 ?_
    exact aQ73 trivial
   rintro k ⟨hk,hno⟩
   have hk:k≤(keyZ v 0 n.kids.toNat).length:=hk
   dsimp only
   by_cases klt:k < (keyZ v 0 n.kids.toNat).length
   rotate_left
   ·have dk:decide ((k:Int) < ((keyZ v 0 n.kids.toNat).length:Int))=false:=decide_eq_false (by omega)
    have dza:=dk
    refine aQ71 ?_
    have hf:zaZ v 0 x=none:=hnone (fun hx j hj h5=>hno hx j (by have:=hss h5;omega) h5)
    rw [hf]
    exact zap rfl
   have dk:decide ((k:Int) < ((keyZ v 0 n.kids.toNat).length:Int))=true:=decide_eq_true (by omega)
   have h5:n.kind=5:=h5of (by omega)
   have hlen:=hss h5
   have hz:=hget h5 k (by omega)
   obtain⟨r',a1,a2,_⟩:=hK.kid (k:=k) (by omega)
   have g:=zaR a1
   rw [decide_eq_true h5] at g a1
   have dza:=dk
   refine aQ71 ?_
   refine zcw (by kernel_rfl) (by kernel_rfl) ?_
   by_cases hx0:x.pos < 0
   rotate_left
   ·have dza:=decide_eq_false hx0
    refine aQ71 ?_
    refine⟨by unfold inI;omega,?_⟩
    rw [zad]
    refine⟨k+1,⟨by (show k+1≤(keyZ v 0 n.kids.toNat).length);omega,fun h=>absurd h hx0⟩,by (show (keyZ v 0 n.kids.toNat).length - (k+1) < (keyZ v 0 n.kids.toNat).length - k);omega,zab (q:=[0,1]) rfl rfl (by decide) ?_ ?_⟩
    ·refine aQ18 ?_
     simp [zai,AV.ren]
    ·refine aQ18 ?_
     exact aQ73 trivial
   have dza:=decide_eq_true hx0
   refine aQ71 ?_
   have htx:(v.getD (eAt v true 0 k) n0d).text=keyT v true 0 k:=rfl
   rw [hz,Int.toNat_natCast]
   refine⟨by omega,by omega,klt,by omega,by omega,Nat.le_refl _,by omega,fun he=>⟨by omega,by omega,by omega,?_⟩,fun he=>⟨by unfold inI;omega,?_⟩⟩
   ·rw [find_in h hK h5 hx0 (k:=k) (by omega) (by rw [← htx];exact he)]
    exact zap rfl
   rw [zad]
   refine⟨k+1,⟨by (show k+1≤(keyZ v 0 n.kids.toNat).length);omega,fun hx j hj h5=>?_⟩,by (show (keyZ v 0 n.kids.toNat).length - (k+1) < (keyZ v 0 n.kids.toNat).length - k);omega,zab (q:=[0,1]) rfl rfl (by decide) ?_ ?_⟩
   ·rcases Nat.lt_succ_iff_lt_or_eq.1 hj with h3 | rfl
    ·exact hno hx j h3 h5
    ·rw [← htx];exact he
   ·refine aQ18 ?_
    simp [zai,AV.ren]
   ·refine aQ18 ?_
    exact aQ73 trivial
 ·have hnone:(x.pos < 0→∀ k,k < n.kids.toNat→n.kind=5→keyT v true 0 k≠x.key)→zaZ v 0 x=none:=fun h9=>find_out h hK (by omega) (h9 (by omega))
  have dza:=decide_eq_false hA
  refine aQ71 ?_
  rw [zaK]
  refine⟨Nat,fun k=>k≤(keyZ v 0 n.kids.toNat).length∧(x.pos < 0→∀ j,j < k→n.kind=5→keyT v true 0 j≠x.key),fun k=>[.sl (v.flatMap nC) v.length,.bot,.bot,.ptr 0 0,.bot,.ptr 1 0,i64 k,.bot,.bot,.bot,.bot,.bot,.bot,.bot,.bot,.bot,.bot,.bot,.bot,.bot,.bot,.bot,.bot,.bot,.bot,.bot,.bot,.bot,.bot,.bot,.bot,.bot,.bot,.bot,.bot,.bot,.bot,.bot,.bot,.bot,.bot,.bot,.bot,.bot,.bot,.bot,.bot,.bot,.bot,.bot,.bot,.bot,.bot,.bot,.bot,.bot,.bot,.bot,.bot,.bot,.bot,.bot],fun _=>[.rw [str x.key,i64 x.pos],.rw (sC r.1 r.2 false (slI (zax v 0)) (slI (keyZ v 0 n.kids.toNat)))],fun k=>(keyZ v 0 n.kids.toNat).length - k,0,⟨Nat.zero_le _,fun _ j hj=>absurd hj (Nat.not_lt_zero _)⟩,zab (q:=[0,1]) rfl rfl (by decide) ?_ ?_,?_⟩
  ·refine aQ18 ?_
   simp [zai,AV.ren]
  ·refine aQ18 ?_
   exact aQ73 trivial
  rintro k ⟨hk,hno⟩
  have hk:k≤(keyZ v 0 n.kids.toNat).length:=hk
  dsimp only
  by_cases klt:k < (keyZ v 0 n.kids.toNat).length
  rotate_left
  ·have dk:decide ((k:Int) < ((keyZ v 0 n.kids.toNat).length:Int))=false:=decide_eq_false (by omega)
   have dza:=dk
   refine aQ71 ?_
   have hf:zaZ v 0 x=none:=hnone (fun hx j hj h5=>hno hx j (by have:=hss h5;omega) h5)
   rw [hf]
   exact zap rfl
  have dk:decide ((k:Int) < ((keyZ v 0 n.kids.toNat).length:Int))=true:=decide_eq_true (by omega)
  have h5:n.kind=5:=h5of (by omega)
  have hlen:=hss h5
  have hz:=hget h5 k (by omega)
  obtain⟨r',a1,a2,_⟩:=hK.kid (k:=k) (by omega)
  have g:=zaR a1
  rw [decide_eq_true h5] at g a1
  have dza:=dk
  refine aQ71 ?_
  refine zcw (by kernel_rfl) (by kernel_rfl) ?_
  by_cases hx0:x.pos < 0
  rotate_left
  ·have dza:=decide_eq_false hx0
   refine aQ71 ?_
   refine⟨by unfold inI;omega,?_⟩
   rw [zad]
   refine⟨k+1,⟨by (show k+1≤(keyZ v 0 n.kids.toNat).length);omega,fun h=>absurd h hx0⟩,by (show (keyZ v 0 n.kids.toNat).length - (k+1) < (keyZ v 0 n.kids.toNat).length - k);omega,zab (q:=[0,1]) rfl rfl (by decide) ?_ ?_⟩
   ·refine aQ18 ?_
    simp [zai,AV.ren]
   ·refine aQ18 ?_
    exact aQ73 trivial
  have dza:=decide_eq_true hx0
  refine aQ71 ?_
  have htx:(v.getD (eAt v true 0 k) n0d).text=keyT v true 0 k:=rfl
  rw [hz,Int.toNat_natCast]
  refine⟨by omega,by omega,klt,by omega,by omega,Nat.le_refl _,by omega,fun he=>⟨by omega,by omega,by omega,?_⟩,fun he=>⟨by unfold inI;omega,?_⟩⟩
  ·rw [find_in h hK h5 hx0 (k:=k) (by omega) (by rw [← htx];exact he)]
   exact zap rfl
  rw [zad]
  refine⟨k+1,⟨by (show k+1≤(keyZ v 0 n.kids.toNat).length);omega,fun hx j hj h5=>?_⟩,by (show (keyZ v 0 n.kids.toNat).length - (k+1) < (keyZ v 0 n.kids.toNat).length - k);omega,zab (q:=[0,1]) rfl rfl (by decide) ?_ ?_⟩
  ·rcases Nat.lt_succ_iff_lt_or_eq.1 hj with h3 | rfl
   ·exact hno hx j h3 h5
   ·rw [← htx];exact he
  ·refine aQ18 ?_
   simp [zai,AV.ren]
  ·refine aQ18 ?_
   exact aQ73 trivial
set_option linter.defProp false in
def LM7:=And.intro LM5 (And.intro LB8 (And.intro LB9 (And.intro LB13 (And.intro LB14 (LB15)))))
theorem flat_P (l:List Pt):(l.flatMap ptC).length=l.length * 2:=by
 induction l with
 | nil=>rfl
 | cons a l ih=>rw [List.flatMap_cons,List.length_append,ih,List.length_cons];show 2+_=_;omega
theorem cutP {t e:TypeId} (ht:T t=some (tySl e)) (he:T e=some tyPt) {x:Pt} {l:List Pt} {σ:zaa} {K:AV→Prop} (hk:K (.sl (l.flatMap ptC) l.length)):zbi T t (.sl ((x::l).flatMap ptC) (l.length+1)) (some (i64 1)) none σ K:=by
 have hf:=flat_P l
 have e1:((ptC x++l.flatMap ptC).drop 2).take (l.length * 2)=l.flatMap ptC:=by
  rw [List.drop_left' (show (ptC x).length=2 from rfl),List.take_of_length_le (by omega)]
 simp only [zbi,ht,tySl,bnd,i64]
 refine⟨_,he,by omega,by omega,by omega,by rw [flat_P,List.length_cons];simp [tyPt],?_⟩
 simpa [tyPt,e1] using hk
theorem EA_len {v:List Nd} (h:zau v=0) (l:List Pt):(EA v l).length≤120:=by
 rw [← each_EA h,List.length_map]
 have h1:=zfc h l l.length (Nat.le_refl _)
 rw [List.take_length] at h1
 have:=(za1 h).2
 omega
theorem kid_small {v u:List Nd} (h:zau v=0) (hu:u∈ze1 v):zau u=0∧u.length < v.length:=by
 obtain⟨z,hz,rfl⟩:=List.mem_map.1 hu
 obtain⟨m,rfl,hm⟩:=zdf hz
 refine⟨zeB h hm,?_⟩
 have hpos:0 < m:=by
  rw [zax,if_pos (show okAt v 0=true from zdd (p:=0) h (za1 h).1)] at hz
  obtain⟨y,hy,e⟩:=List.mem_map.1 hz
  obtain⟨k,hk,rfl⟩:=List.mem_map.1 hy
  rw [List.mem_range] at hk
  obtain⟨r,hr1,_,_,_⟩:=za9 h (za1 h).1
  obtain⟨n,hK⟩:=zbN hr1
  have hn:v.getD 0 n0d=n:=zav hK.node
  rw [show ((0:Int).toNat)=0 from rfl,hn] at hk e
  have i1:=(hK.inv k (by omega)).1
  simp only [Int.ofNat_eq_natCast] at e
  omega
 obtain⟨r,h1,_,_,_⟩:=za9 h hm
 obtain⟨_,hl,g1,g2⟩:=zcK h hm h1
 omega
def rowE (l:List Pt) (u:List Nd):List (List Nd):=if kdOf u 0=4 then [] else EA u l
theorem rowE_eq {u:List Nd} {x:Pt} {l:List Pt} (h:zau u=0) (h4:kdOf u 0=4) (hx:x.pos < 0):EA u (x::l)=(ze1 u).flatMap (rowE (x::l)):=by
 rw [EA_row h h4 hx,ze1,List.flatMap_map]
 rfl
theorem rowE_take {l:List Pt} {K:List (List Nd)} {k:Nat} (h:k < K.length):(K.take (k+1)).flatMap (rowE l)=(K.take k).flatMap (rowE l)++rowE l (K.getD k []):=by
 rw [zbR [] h,List.flatMap_append,List.flatMap_cons,List.flatMap_nil,List.append_nil]
theorem rowE_le {l:List Pt} {K:List (List Nd)} (k:Nat):((K.take k).flatMap (rowE l)).length≤(K.flatMap (rowE l)).length:=by
 conv=>rhs;rw [← List.take_append_drop k K,List.flatMap_append,List.length_append]
 omega
theorem ldw_P {x:Pt} {l:List Pt} {K:AV→Prop}:ld2 (some tyPt) (some ((x::l).flatMap ptC)) 0 K=K (.agg [str x.key,i64 x.pos]):=by
 have:=ld_P (K:=K) (x::l) 0
 simpa [ptC] using this
theorem zhq:∀ (m:Nat) (v:List Nd) (l:List Pt),v.length+l.length≤m→zau v=0→(∀ x∈l,inI x.pos)→l.length≤1000000→ACalls Tryz.prog 187 [.sl (v.flatMap nC) v.length,.sl (l.flatMap ptC) l.length] [] (fun y _=>y=.ret (.sl ((EA v l).map slNs) (EA v l).length))
 | 0,v,l,hm,h,_,_=>absurd (za1 h).1 (by omega)
 | m+1,v,[],hm,h,hi,hl=>by
  refine ACalls.body T_ok Tryz.func187 (by kernel_rfl) rfl Tryz.ntmps187 (congrArg Array.toList Tryz.results187) ?_
  refine aQ74 ?_
  rw [show EA v []=[v] from rfl]
  exact⟨fun _=>zaX [0] (.sl ([v].map slNs) [v].length) (zdB (L:=[v]) rfl) ⟨[],_,[],rfl,rfl,by decide,by simp [AV.ren,renL,zgd],trivial,rfl⟩,fun h=>absurd rfl h⟩
 | m+1,v,x::l,hm,h,hi,hl=>by
  obtain⟨h0,h120⟩:=za1 h
  have hx:=hi x (List.mem_cons_self ..)
  have hkd:kdOf v 0=(v.getD 0 n0d).kind:=rfl
  rw [List.length_cons] at hm hl
  refine ACalls.body T_ok Tryz.func187 (by kernel_rfl) rfl Tryz.ntmps187 (congrArg Array.toList Tryz.results187) ?_
  refine aQ74 ?_
  refine⟨fun h=>absurd h (by omega),fun _=>⟨by omega,by omega,Nat.le_refl _,?_⟩⟩
  rw [show (List.drop 1 ((x::l).flatMap ptC))=i64 x.pos::l.flatMap ptC from rfl,zdQ]
  by_cases hp:x.pos < 0
  rotate_left
  ·have hc:¬ (kdOf v 0=4∧x.pos < 0):=fun h=>hp h.2
   have dza:=decide_eq_false hp
   refine aQ75 ?_
   refine⟨by omega,by omega,Nat.le_refl _,?_⟩
   rw [ldw_P]
   refine aQ74 ?_
   refine(rkid_ok v x h hx).pure aQ11 ?_
   rintro _ σ rfl
   refine⟨zac _ _,?_⟩
   rw [EA_one (fun h=>hc h)]
   cases hf:zaZ v 0 x with
   | none =>
    refine aQ74 ?_
    exact⟨fun _=>zdK rfl,fun h=>absurd (by decide) h⟩
   | some z =>
    obtain⟨q,rfl,hq⟩:=zjI hf
    have hneg:decide ((q:Int) < 0)=false:=decide_eq_false (by omega)
    simp only [Option.getD_some]
    have dza:=hneg
    refine aQ75 ?_
    refine zcw (by kernel_rfl) (by kernel_rfl) ?_
    refine aQ74 ?_
    refine zcg (rsub_ok v q h hq) aQ10 (by simp [AEnd.noid,AV.ren,zai]) ?_
    refine aQ74 ?_
    refine cutP T204 T250 ?_
    refine aQ74 ?_
    have hsl:=zgR v q
    refine zcg (zhq m (zaz v q) l (by omega) (zeB h hq) (fun y hy=>hi y (List.mem_cons_of_mem _ hy)) (by omega)) aQ13 (by simp [AEnd.noid,AV.ren,zal]) ?_
    refine aQ74 ?_
    exact zaF (by simp [AV.ren,zal]) rfl
  have dza:=decide_eq_true hp
  refine aQ75 ?_
  refine⟨by omega,by omega,Nat.le_refl _,?_⟩
  rw [zfk (t:=0) h0]
  by_cases h4:(v.getD 0 n0d).kind=4
  rotate_left
  ·have hc:¬ (kdOf v 0=4∧x.pos < 0):=fun h=>h4 h.1
   have dza:=decide_eq_false h4
   refine aQ75 ?_
   refine⟨by omega,by omega,Nat.le_refl _,?_⟩
   rw [ldw_P]
   refine aQ74 ?_
   refine(rkid_ok v x h hx).pure aQ11 ?_
   rintro _ σ rfl
   refine⟨zac _ _,?_⟩
   rw [EA_one (fun h=>hc h)]
   cases hf:zaZ v 0 x with
   | none =>
    refine aQ74 ?_
    exact⟨fun _=>zdK rfl,fun h=>absurd (by decide) h⟩
   | some z =>
    obtain⟨q,rfl,hq⟩:=zjI hf
    have hneg:decide ((q:Int) < 0)=false:=decide_eq_false (by omega)
    simp only [Option.getD_some]
    have dza:=hneg
    refine aQ75 ?_
    refine zcw (by kernel_rfl) (by kernel_rfl) ?_
    refine aQ74 ?_
    refine zcg (rsub_ok v q h hq) aQ10 (by simp [AEnd.noid,AV.ren,zai]) ?_
    refine aQ74 ?_
    refine cutP T204 T250 ?_
    refine aQ74 ?_
    have hsl:=zgR v q
    refine zcg (zhq m (zaz v q) l (by omega) (zeB h hq) (fun y hy=>hi y (List.mem_cons_of_mem _ hy)) (by omega)) aQ13 (by simp [AEnd.noid,AV.ren,zal]) ?_
    refine aQ74 ?_
    exact zaF (by simp [AV.ren,zal]) rfl
  have dza:=decide_eq_true h4
  refine aQ75 ?_
  refine(rparts_ok v h).pure (by simp [renL,AV.ren,zai]) ?_
  rintro _ σ ⟨ks,rfl⟩
  refine⟨by simp [AEnd.noid,AV.ren,renL,zkb,zal],?_⟩
  have hall:=EA_len h (x::l)
  rw [rowE_eq h (by rw [hkd];exact h4) hp] at hall ⊢
  have hks:=fun u=>@kid_small v u h
  have hkf:=zjM v
  generalize ze1 v=K at hall hks hkf ⊢
  refine aQ74 ?_
  rw [zaK]
  refine⟨Nat,fun k=>k≤K.length,fun k=>[.bot,.sl ((x::l).flatMap ptC) (l.length+1),.bot,.bot,.bot,.ref 0 0 ((K.take k).flatMap (rowE (x::l))).length 1,.bot,.sl (K.map slNs) K.length,i64 k,.bot,.bot,.bot,.bot,.bot,.bot,.bot,.bot,.bot,.bot,.bot,.bot,.bot,.bot,.bot,.bot,.bot,.bot,.bot,.bot,.bot,.bot,.bot,.bot,.bot,.bot,.bot,.bot,.bot,.bot,.bot,.bot,.bot,.bot,.bot,.bot,.bot,.bot,.bot,.bot,.bot,.bot,.bot,.bot,.bot,.bot,.bot,.bot,.bot,.bot,.bot,.bot,.bot,.bot,.bot,.bot,.bot,.bot,.bot],fun k=>[.rw (((K.take k).flatMap (rowE (x::l))).map slNs)],fun k=>K.length - k,0,Nat.zero_le _,zbv 5 1 rfl (zab (q:=[0]) rfl rfl (by decide) ?_ ?_),?_⟩
  ·refine aQ18 ?_
   simp [-List.flatMap_cons,zal,AV.ren,zch]
  ·refine aQ18 ?_
   simp [zaw,zar,renL]
  intro k hk
  have hk:k≤K.length:=hk
  dsimp only
  by_cases klt:k < K.length
  rotate_left
  ·obtain rfl:k=K.length:=by omega
   have dk:decide ((K.length:Int) < (K.length:Int))=false:=decide_eq_false (by omega)
   rw [List.take_length]
   have dza:=dk
   refine aQ75 ?_
   generalize K.flatMap (rowE (x::l))=L
   exact zaX [0] (.sl (L.map slNs) L.length) (zdB rfl) ⟨[],_,[],rfl,rfl,by decide,by simp [AV.ren,zal],trivial,rfl⟩
  have dk:decide ((k:Int) < (K.length:Int))=true:=decide_eq_true (by omega)
  have hrt:=rowE_take (l:=x::l) klt
  have hrl:=rowE_le (l:=x::l) (K:=K) (k+1)
  obtain⟨u0,u1⟩:=hks (K.getD k []) (by rw [List.getD_eq_getElem?_getD,List.getElem?_eq_getElem klt];exact List.getElem_mem klt)
  obtain⟨u,hu⟩:∃ u,u=K.getD k []:=⟨_,rfl⟩
  rw [← hu] at hrt u0 u1
  have upos:=(za1 u0).1
  have dza:=dk
  refine aQ75 ?_
  refine⟨by omega,by omega,Nat.le_refl _,klt,?_⟩
  rw [← hu]
  try simp -implicitDefEqProofs only [LM7,eq_self,zat,lzS,slNs,TB,SB,Int.reduceToNat,Nat.reduceAdd,Nat.reduceEqDiff,Nat.reduceLT,Nat.reduceMod,Nat.reducePow,Nat.reduceSub,if_true,reduceIte]
  refine⟨by omega,by omega,Nat.le_refl _,?_⟩
  rw [zfk (t:=0) upos]
  by_cases hu4:(u.getD 0 n0d).kind=4
  ·have hre:rowE (x::l) u=[]:=by rw [rowE,if_pos (show kdOf u 0=4 from hu4)]
   rw [hre,List.append_nil] at hrt
   have dza:=decide_eq_true hu4
   refine aQ75 ?_
   refine⟨by unfold inI;omega,?_⟩
   rw [zad]
   refine⟨k+1,by (show k+1≤K.length);omega,by (show K.length - (k+1) < K.length - k);omega,?_⟩
   rw [hrt]
   refine zab (q:=[0]) rfl rfl (by decide) ?_ ?_
   ·refine aQ18 ?_
    simp [-List.flatMap_cons,zal,AV.ren,zch]
   ·refine aQ18 ?_
    simp [zaw,zar,zal]
  ·have hre:rowE (x::l) u=EA u (x::l):=by rw [rowE,if_neg (show ¬ kdOf u 0=4 from hu4)]
   rw [hre] at hrt
   rw [hrt,List.length_append] at hrl
   have dza:=decide_eq_false hu4
   refine aQ75 ?_
   refine⟨by omega,by omega,Nat.le_refl _,klt,?_⟩
   rw [← hu]
   refine(zhq m u (x::l) (by rw [List.length_cons];omega) u0 hi (by rw [List.length_cons];omega)).pure (by simp [-List.flatMap_cons,renL,AV.ren,zgd,zai,zch]) ?_
   rintro _ σ rfl
   refine⟨by simp [AEnd.noid,AV.ren,zal],?_⟩
   generalize EA u (x::l)=Y at hrt hrl ⊢
   refine aQ74 ?_
   refine zaG slNs zbC rfl rfl T40 T40 (zc5 _) T23 (Go.Eng.one_sl _) (l:=(K.take k).flatMap (rowE (x::l))) (ys:=Y) (m:=Y.length) rfl rfl (zfh _) (by omega) (by simp only [tySl];omega) ?_
   refine aQ74 ?_
   refine⟨by unfold inI;omega,?_⟩
   rw [zad]
   refine⟨k+1,by (show k+1≤K.length);omega,by (show K.length - (k+1) < K.length - k);omega,?_⟩
   rw [hrt,List.length_append]
   refine zab (q:=[1]) rfl rfl (by decide) ?_ ?_
   ·refine aQ18 ?_
    simp [-List.flatMap_cons,zal,AV.ren,zch]
   ·refine aQ18 ?_
    exact aQ39 trivial
theorem steps_in {s:List UInt8} {l:List Pt} (h:zcI s=(l,0)):(∀ x∈l,inI x.pos)∧l.length≤120:=by
 obtain⟨_,h1,_⟩:=ziZ h
 rw [List.all_eq_true] at h1
 refine⟨fun x hx=>?_,?_⟩
 ·have:=h1 x hx
  simp only [okP,Bool.or_eq_true,Bool.and_eq_true,decide_eq_true_eq] at this
  unfold inI
  rcases this with h2 | h2
  ·omega
  ·omega
 ·have:=pathV_len s
  rw [h] at this
  exact this
theorem rbegin_ok (v:List Nd) (s:List UInt8) (hv:v.length≤1000) (hs:s.length≤1000000000):ACalls Tryz.prog 186 [.sl (v.flatMap nC) v.length,str s] [] (fun y _=>y=.ret (.tup [slP (zaU v s).1,i64 (zaU v s).2])):=by
 refine ACalls.body T_ok Tryz.func186 (by kernel_rfl) rfl Tryz.ntmps186 (congrArg Array.toList Tryz.results186) ?_
 refine aQ76 ?_
 refine(ze0 v hv).pure (by simp [renL,AV.ren,zai]) ?_
 rintro _ σ rfl
 refine⟨zac _ _,?_⟩
 by_cases h1:zau v=0
 rotate_left
 ·have dza:=decide_eq_false h1
  refine aQ77 ?_
  have e:zaU v s=([],zau v):=by rw [zaU,if_neg h1]
  rw [e]
  exact zaX [] (.tup [.sl (([]:List Pt).flatMap ptC) 0,i64 (zau v)]) ⟨_,rfl,_,_,rfl,.inr ⟨rfl,rfl⟩,_,_,rfl,.inl rfl,rfl⟩ ⟨[],_,[],rfl,rfl,by decide,by simp [AV.ren,renL,slP,zac],trivial,rfl⟩
 rw [h1]
 refine aQ76 ?_
 refine(rpath_ok s (by omega)).pure (by simp [renL,zaj]) ?_
 rintro _ σ rfl
 refine⟨by simp [AEnd.noid,AV.ren,renL,zez,zac],?_⟩
 refine aQ76 ?_
 have e:zaU v s=zcI s:=by rw [zaU,if_pos h1]
 rw [e]
 exact zaF (by simp [AV.ren,renL,zez,zac]) rfl
theorem rEach_ok (v:List Nd) (s:List UInt8) (hv:v.length≤1000) (hs:s.length≤1000000000):ACalls Tryz.prog 151 [.sl (v.flatMap nC) v.length,str s] [] (fun y _=>y=.ret (.tup [.sl ((za2 v s).1.map slNs) (za2 v s).1.length,i64 (za2 v s).2])):=by
 have hok:=@zdA v s
 have hin:=fun h=>@steps_in s (zcI s).1 h
 refine ACalls.body T_ok Tryz.func151 (by kernel_rfl) rfl Tryz.ntmps151 (congrArg Array.toList Tryz.results151) ?_
 refine aQ76 ?_
 refine(rbegin_ok v s hv hs).pure aQ12 ?_
 rintro _ σ rfl
 refine⟨by simp [AEnd.noid,AV.ren,renL,zez,zac],?_⟩
 by_cases h1:(zaU v s).2=0
 rotate_left
 ·have e:za2 v s=([],(zaU v s).2):=by rw [za2,if_neg h1]
  rw [e]
  have dza:=decide_eq_false h1
  refine aQ77 ?_
  exact zaX [] (.tup [.sl (([]:List (List Nd)).map slNs) 0,i64 (zaU v s).2]) ⟨_,rfl,_,_,rfl,.inr ⟨rfl,rfl⟩,_,_,rfl,.inl rfl,rfl⟩ ⟨[],_,[],rfl,rfl,by decide,zcp [] 0 _ _,trivial,rfl⟩
 obtain⟨he,hst⟩:=hok h1
 rw [hst] at h1
 obtain⟨i1,i2⟩:=hin (Prod.ext rfl h1)
 have e:za2 v s=(EA v (zcI s).1,0):=by rw [za2,hst,if_pos h1,each_EA he]
 rw [e,hst]
 generalize (zcI s).1=l at i1 i2 ⊢
 have dza:=decide_eq_true h1
 try simp -implicitDefEqProofs only [LM5,LB13,eq_self,lzS,zbk,dza,slP,TB,SB,Int.reduceToNat,Nat.reduceAdd,Nat.reduceEqDiff,Nat.reduceLT,Nat.reduceMod,Nat.reducePow,Nat.reduceSub,if_true,reduceIte]
 refine(zhq (v.length+l.length) v l (Nat.le_refl _) he i1 (by omega)).pure aQ13 ?_
 rintro _ σ rfl
 refine⟨by simp [AEnd.noid,AV.ren,zal],?_⟩
 refine aQ76 ?_
 exact zaF (zcp _ _ _ _) rfl
theorem zi9 (v:List Nd) (hv:0 < v.length) (h2:v.length≤1000000000):ACalls Tryz.prog 188 [.sl (v.flatMap nC) v.length] [] (fun y _=>y=.ret (bl (zaV v))):=by
 refine ACalls.body T_ok Tryz.func188 (by kernel_rfl) rfl Tryz.ntmps188 (congrArg Array.toList Tryz.results188) ?_
 refine aQ76 ?_
 refine⟨by omega,by omega,?_⟩
 rw [zfk (t:=0) hv]
 refine aQ76 ?_
 by_cases h4:(v.getD 0 n0d).kind=4
 ·rw [decide_eq_true h4]
  refine aQ76 ?_
  have e:zaV v=false:=by unfold zaV;rw [h4];rfl
  rw [e]
  exact⟨Nat.le_refl _,zaq rfl⟩
 ·rw [decide_eq_false h4]
  refine aQ76 ?_
  refine⟨Nat.le_refl _,by omega,by omega,Nat.le_refl _,?_⟩
  rw [zfk (t:=0) hv]
  refine aQ76 ?_
  have e:zaV v=!decide ((v.getD 0 n0d).kind=5):=by
   unfold zaV
   rw [decide_eq_true (show (v.getD 0 n0d).kind≠4 from h4),Bool.true_and,← decide_not]
  rw [e]
  exact zaq rfl
theorem each_err {v x:List Nd} {s:List UInt8} (h:x∈(za2 v s).1):zau x=0:=by
 unfold za2 at h
 split at h
 ·rename_i h0
  have he:=(zdA h0).1
  obtain⟨q,hq,rfl⟩:=List.mem_map.1 h
  rw [← List.take_length (l:=(zaU v s).1)] at hq
  obtain⟨n,rfl,hn⟩:=zdi (za1 he).1 (Nat.le_refl _) hq
  exact zeB he hn
 ·cases h
theorem rElements_ok (v:List Nd) (s:List UInt8) (hv:v.length≤1000) (hs:s.length≤1000000000):ACalls Tryz.prog 152 [.sl (v.flatMap nC) v.length,str s] [] (fun y _=>y=.ret (.tup [.sl ((zc8 v s).map slNs) (zc8 v s).length,i64 (za2 v s).2])):=by
 have hmem:=fun x=>@each_err v x s
 have hfew:=zgk v s
 obtain⟨E,hE⟩:∃ E,E=zc8 v s:=⟨_,rfl⟩
 rw [← hE]
 unfold zc8 at hE
 have hnone:(za2 v s).2≠0→(za2 v s).1=[]:=by
  intro h
  unfold za2 at h ⊢
  split
  ·rename_i h0;rw [if_pos h0] at h;exact absurd rfl h
  ·rfl
 refine ACalls.body T_ok Tryz.func152 (by kernel_rfl) rfl Tryz.ntmps152 (congrArg Array.toList Tryz.results152) ?_
 refine aQ78 ?_
 refine(rEach_ok v s hv hs).pure aQ7 ?_
 rintro _ σ rfl
 refine⟨zcp _ _ _ _,?_⟩
 generalize za2 v s=X at hmem hfew hE hnone ⊢
 obtain⟨l,e⟩:=X
 dsimp only at hmem hfew hE hnone ⊢
 by_cases he:e=0
 rotate_left
 ·have dza:=decide_eq_false he
  refine aQ79 ?_
  rw [hnone he] at hE
  subst hE
  exact zaX [] (.tup [.sl (([]:List (List Nd)).map slNs) 0,i64 e]) ⟨_,rfl,_,_,rfl,.inr ⟨rfl,rfl⟩,_,_,rfl,.inl rfl,rfl⟩ ⟨[],_,[],rfl,rfl,by decide,zcp [] 0 e _,trivial,rfl⟩
 subst he
 refine aQ78 ?_
 rw [zaK]
 refine⟨Nat,fun k=>k≤l.length,fun k=>[.bot,.bot,.bot,.bot,.bot,.bot,.sl (l.map slNs) l.length,.bot,.ref 0 0 (zeA (l.take k)).length 1,i64 k,.bot,.bot,.bot,.bot,.bot,.bot,.bot,.bot,.bot,.bot,.bot,.bot,.bot,.bot,.bot,.bot,.bot,.bot,.bot,.bot,.bot,.bot,.bot,.bot,.bot,.bot,.bot,.bot,.bot,.bot,.bot,.bot,.bot,.bot,.bot,.bot,.bot,.bot,.bot,.bot,.bot,.bot,.bot,.bot,.bot,.bot,.bot,.bot,.bot,.bot,.bot,.bot,.bot,.bot,.bot,.bot,.bot,.bot,.bot,.bot,.bot,.bot,.bot,.bot,.bot,.bot,.bot,.bot,.bot,.bot,.bot,.bot,.bot,.bot,.bot,.bot,.bot,.bot],fun k=>[.rw ((zeA (l.take k)).map slNs)],fun k=>l.length - k,0,Nat.zero_le _,zbv 8 1 rfl (zab (q:=[0]) rfl rfl (by decide) ?_ ?_),?_⟩
 ·refine aQ18 ?_
  simp [zal,AV.ren,zeA]
 ·refine aQ18 ?_
  simp [zaw,zar,renL,zeA]
 intro k hk
 have hk:k≤l.length:=hk
 dsimp only
 by_cases hlt:k < l.length
 rotate_left
 ·obtain rfl:k=l.length:=by omega
  have dk:decide ((l.length:Int) < (l.length:Int))=false:=decide_eq_false (by omega)
  rw [List.take_length]
  have dza:=dk
  refine aQ79 ?_
  rw [← hE]
  exact zaX [0] (.tup [.sl (E.map slNs) E.length,i64 0]) ⟨_,rfl,_,_,rfl,zdB rfl,_,_,rfl,.inl rfl,rfl⟩ ⟨[],_,[],rfl,rfl,by decide,by simp [AV.ren,renL,zal,zac],trivial,rfl⟩
 have dk:decide ((k:Int) < (l.length:Int))=true:=decide_eq_true (by omega)
 have hst:=zir hlt
 have hle:=elem_le l k hk
 obtain⟨x,hx⟩:∃ x,x=l.getD k []:=⟨_,rfl⟩
 have he:=hmem (l.getD k []) (by rw [List.getD_eq_getElem?_getD,List.getElem?_eq_getElem hlt];exact List.getElem_mem hlt)
 rw [← hx] at hst he
 obtain⟨x0,x120⟩:=za1 he
 have dza:=dk
 refine aQ79 ?_
 refine⟨by omega,by omega,Nat.le_refl _,hlt,?_⟩
 rw [← hx]
 refine(zi9 x x0 (by omega)).pure (by simp [renL,AV.ren,zai]) ?_
 rintro _ σ rfl
 refine⟨zay _ _,?_⟩
 have hk4:zaV x=true→(x.getD 0 n0d).kind≠4:=by
  intro h h4;unfold zaV at h;rw [h4] at h;exact absurd h (by decide)
 have hkf:=zjN x
 cases hp:zaV x with
 | true =>
  have h4:=hk4 hp
  have hX:zfl x=[x]:=by rw [zfl,if_neg h4];simp [zb4,hp]
  rw [hX] at hst
  refine aQ80 ?_
  refine⟨by omega,by omega,Nat.le_refl _,hlt,?_⟩
  rw [← hx]
  refine aQ80 ?_
  refine zaG slNs zbC rfl rfl T40 T40 (zc5 _) T23 (Go.Eng.one_sl _) (l:=zeA (l.take k)) (ys:=[x]) (m:=1) rfl rfl rfl (by omega) (by simp only [tySl];omega) ?_
  refine aQ78 ?_
  refine⟨by omega,by omega,Nat.le_refl _,hlt,?_⟩
  rw [← hx]
  refine aQ80 ?_
  refine⟨by omega,by omega,Nat.le_refl _,?_⟩
  rw [zfk (t:=0) x0]
  have dza:=decide_eq_false h4
  refine aQ79 ?_
  refine⟨by unfold inI;omega,?_⟩
  rw [zad]
  refine⟨k+1,by (show k+1≤l.length);omega,by (show l.length - (k+1) < l.length - k);omega,?_⟩
  rw [hst,List.length_append]
  refine zab (q:=[2]) rfl rfl (by decide) ?_ ?_
  ·refine aQ18 ?_
   simp [zal,AV.ren]
  ·refine aQ18 ?_
   exact aQ39 trivial
 | false =>
  refine aQ78 ?_
  refine⟨by omega,by omega,Nat.le_refl _,hlt,?_⟩
  rw [← hx]
  refine aQ80 ?_
  refine⟨by omega,by omega,Nat.le_refl _,?_⟩
  rw [zfk (t:=0) x0]
  by_cases h4:(x.getD 0 n0d).kind=4
  rotate_left
  ·have hX:zfl x=[]:=by rw [zfl,if_neg h4];simp [zb4,hp]
   rw [hX,List.append_nil] at hst
   have dza:=decide_eq_false h4
   refine aQ79 ?_
   refine⟨by unfold inI;omega,?_⟩
   rw [zad]
   refine⟨k+1,by (show k+1≤l.length);omega,by (show l.length - (k+1) < l.length - k);omega,?_⟩
   rw [hst]
   refine zab (q:=[0]) rfl rfl (by decide) ?_ ?_
   ·refine aQ18 ?_
    simp [zal,AV.ren]
   ·refine aQ18 ?_
    exact aQ39 trivial
  have hX:zfl x=zb4 zaV (zbq x (zax x 0) (zax x 0).length):=by rw [zfl,if_pos h4,zbq,List.take_length];rfl
  obtain⟨r,hr1,_,_,_⟩:=za9 he x0
  have hkz:=zjX he
  have hkl:=zde x 0 (by omega)
  have hkm:=fun q=>@zdf x 0 q
  have dza:=decide_eq_true h4
  refine aQ79 ?_
  refine⟨by omega,by omega,Nat.le_refl _,hlt,?_⟩
  rw [← hx,show slNs x=.sl (x.flatMap nC) x.length from rfl]
  refine(zcf x (by omega) 0 (by omega) hr1).pure aQ10 ?_
  rintro _ σ rfl
  refine⟨zbw _ _ _ _ _ _,?_⟩
  rw [hkz]
  rw [hX] at hst hkf
  clear hkz hX
  generalize zax x 0=ps at hkl hkm hst hkf ⊢
  generalize keyZ x 0 (x.getD 0 n0d).kids.toNat=ss
  obtain⟨B,hB⟩:∃ B,B=zeA (l.take k):=⟨_,rfl⟩
  rw [← hB] at hst hle
  try simp -implicitDefEqProofs only [LM4,eq_self,lzS,zbk,zat,← hB,TB,SB,Int.reduceToNat,Nat.reduceAdd,Nat.reduceEqDiff,Nat.reduceLT,Nat.reduceMod,Nat.reducePow,Nat.reduceSub,if_true,reduceIte]
  rw [zaK]
  refine⟨Nat,fun j=>j≤ps.length,fun j=>[.bot,.bot,.bot,.bot,.bot,.bot,.sl (l.map slNs) l.length,.bot,.ref 0 0 (B++zb4 zaV (zbq x ps j)).length 1,i64 k,.ptr 1 0,i64 j,.bot,.bot,.bot,.bot,.bot,.bot,.bot,.bot,.bot,.bot,.bot,.bot,.bot,.bot,.bot,.bot,.bot,.bot,.bot,.bot,.bot,.bot,.bot,.bot,.bot,.bot,.bot,.bot,.bot,.bot,.bot,.bot,.bot,.bot,.bot,.bot,.bot,.bot,.bot,.bot,.bot,.bot,.bot,.bot,.bot,.bot,.bot,.bot,.bot,.bot,.bot,.bot,.bot,.bot,.bot,.bot,.bot,.bot,.bot,.bot,.bot,.bot,.bot,.bot,.bot,.bot,.bot,.bot,.bot,.bot,.bot,.bot,.bot,.bot,.bot,.bot],fun j=>[.rw ((B++zb4 zaV (zbq x ps j)).map slNs),.rw (sC r.1 r.2 false (slI ps) (slI ss))],fun j=>ps.length - j,0,Nat.zero_le _,zab (q:=[0,1]) rfl rfl (by decide) ?_ ?_,?_⟩
  ·refine aQ18 ?_
   simp [zal,AV.ren,zbq,zb4]
  ·refine aQ18 ?_
   simp [zaw,zar,zbr,zal,zbq,zb4]
  intro j hj
  have hj:j≤ps.length:=hj
  dsimp only
  by_cases jlt:j < ps.length
  rotate_left
  ·obtain rfl:j=ps.length:=by omega
   have dj:decide ((ps.length:Int) < (ps.length:Int))=false:=decide_eq_false (by omega)
   rw [← hst]
   have dza:=dj
   refine aQ79 ?_
   refine⟨by unfold inI;omega,?_⟩
   rw [zad]
   refine⟨k+1,by (show k+1≤l.length);omega,by (show l.length - (k+1) < l.length - k);omega,?_⟩
   refine zab (q:=[0]) rfl rfl (by decide) ?_ ?_
   ·refine aQ18 ?_
    simp [zal,AV.ren]
   ·refine aQ18 ?_
    exact aQ39 trivial
  have dj:decide ((j:Int) < (ps.length:Int))=true:=decide_eq_true (by omega)
  have hsb:=ziq (v:=x) jlt
  have hln:(zb4 zaV (zbq x ps j)).length≤j:=Nat.le_trans (zho _ _) (by unfold zbq;rw [List.length_map,List.length_take];omega)
  obtain⟨n,hn1,hn2⟩:=hkm (ps.getD j 0) (by rw [List.getD_eq_getElem?_getD,List.getElem?_eq_getElem jlt];exact List.getElem_mem jlt)
  rw [hn1] at hsb
  obtain⟨r2,hr2,_,_,_⟩:=za9 he hn2
  obtain⟨hp2,hl2,g1,g2⟩:=zcK he hn2 hr2
  have hsub:=zdL he hn2 hr2
  have dza:=dj
  refine aQ79 ?_
  refine zcw (by kernel_rfl) (by kernel_rfl) ?_
  refine aQ80 ?_
  refine⟨by omega,by omega,Nat.le_refl _,hlt,by omega,by omega,jlt,?_⟩
  refine⟨by omega,by omega,Nat.le_refl _,hlt,by omega,by omega,jlt,?_⟩
  rw [← hx,hn1]
  refine zcg (zcf x (by omega) n (by omega) hr2) aQ10 (zbw _ _ _ _ _ _) ?_
  refine aQ78 ?_
  refine sl_N T23 T66 (by omega) (by omega) (by omega) ?_
  rw [show (r2.1:Int).toNat=r2.1 from rfl,Int.toNat_natCast,← hsub]
  refine aQ78 ?_
  rw [← hl2]
  refine(zi9 (zaz x n) (by omega) (by omega)).pure (by simp [renL,AV.ren,zai]) ?_
  rintro _ σ rfl
  refine⟨zay _ _,?_⟩
  have hpk:B++zb4 zaV (zbq x ps (j+1))=(B++zb4 zaV (zbq x ps j))++(if zaV (zaz x n) then [zaz x n] else []):=by
   rw [hsb,zb4,List.filter_append,List.append_assoc]
   cases hq:zaV (zaz x n) <;> simp [zb4,hq]
  cases hq:zaV (zaz x n) with
  | false =>
   rw [hq,if_neg (by decide),List.append_nil] at hpk
   refine aQ78 ?_
   refine⟨by unfold inI;omega,?_⟩
   rw [zad]
   refine⟨j+1,by (show j+1≤ps.length);omega,by (show ps.length - (j+1) < ps.length - j);omega,?_⟩
   rw [hpk]
   refine zab (q:=[0,1]) rfl rfl (by decide) ?_ ?_
   ·refine aQ18 ?_
    simp [zal,AV.ren]
   ·refine aQ18 ?_
    simp [-List.map_append,zaw,zar,zbr,zal]
  | true =>
   rw [hq,if_pos rfl] at hpk
   have hlen:(B++zb4 zaV (zbq x ps j)++[zaz x n]).length=(B++zb4 zaV (zbq x ps j)).length+1:=by simp only [List.length_append,List.length_singleton]
   refine aQ80 ?_
   refine zaG slNs zbC rfl rfl T40 T40 (zc5 _) T23 (Go.Eng.one_sl _) (l:=B++zb4 zaV (zbq x ps j)) (ys:=[zaz x n]) (m:=1) rfl rfl rfl (by rw [List.length_append];omega) (by simp only [tySl,List.length_append];omega) ?_
   refine aQ78 ?_
   refine⟨by unfold inI;omega,?_⟩
   rw [zad]
   refine⟨j+1,by (show j+1≤ps.length);omega,by (show ps.length - (j+1) < ps.length - j);omega,?_⟩
   rw [hpk,hlen]
   refine zab (q:=[3,1]) rfl rfl (by decide) ?_ ?_
   ·refine aQ18 ?_
    simp [zal,AV.ren]
   ·refine aQ18 ?_
    simp [-List.map_append,zaw,zar,zbr,zal]
end Go.Proofs.YtdigkoejfgmecaaGreatDoor
end

