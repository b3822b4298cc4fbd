/-
  Members put in order, objects. No condition.
-/
import Derived.Test.YtnghkomgefieoaaGreatDoorShrE
import Derived.Sort.Walk0
set_option linter.unusedSimpArgs false
set_option linter.unusedVariables false
set_option linter.unusedSectionVars false
section
namespace Go.Eng
open Go
theorem aQ52 {P Q:Prop} (h:Q) (e:P=Q:=by first|(simp -implicitDefEqProofs only [LM0,eq_self,zao,zag,zaf,zav,fm_0,fm_1,bx_mb,ld_mb0,ld_mb1,ia_mb,ld_mbR,st_mbR,TB,SB,Int.reduceToNat,Nat.reduceAdd,Nat.reduceEqDiff,Nat.reduceLT,Nat.reduceMod,Nat.reducePow,Nat.reduceSub,if_true,reduceIte];first|done|exact rfl)|exact rfl):P:=e ▸ h
theorem aQ53 {P Q:Prop} (h:Q) (e:P=Q:=by first|(simp -implicitDefEqProofs only [LM0,LB18,eq_self,zao,zag,zaf,zav,Nat.zero_mul,TB,SB,Int.reduceToNat,Nat.reduceAdd,Nat.reduceEqDiff,Nat.reduceLT,Nat.reduceMod,Nat.reducePow,Nat.reduceSub,if_true,reduceIte];first|done|exact rfl)|exact rfl):P:=e ▸ h
theorem aQ54 {P Q:Prop} (h:Q) (e:P=Q:=by first|(simp -implicitDefEqProofs only [LM0,LB18,eq_self,zao,zag,zaf,zav,Nat.zero_mul,bd_mb,bs_mb,ld_mp1,TB,SB,Int.reduceToNat,Nat.reduceAdd,Nat.reduceEqDiff,Nat.reduceLT,Nat.reduceMod,Nat.reducePow,Nat.reduceSub,if_true,reduceIte];first|done|exact rfl)|exact rfl):P:=e ▸ h
theorem aQ55 {P Q:Prop} (h:Q) (e:P=Q:=by first|(simp -implicitDefEqProofs only [LM7,eq_self,zao,zag,zaf,zav,Nat.zero_mul,TB,SB,Int.reduceToNat,Nat.reduceAdd,Nat.reduceEqDiff,Nat.reduceLT,Nat.reduceMod,Nat.reducePow,Nat.reduceSub,if_true,reduceIte];first|done|exact rfl)|exact rfl):P:=e ▸ h
theorem aQ56 {P Q:Prop} (h:Q) (e:P=Q:=by first|(simp -implicitDefEqProofs only [LM7,eq_self,zao,zag,zaf,zav,Nat.zero_mul,al_mb,st_mbW,al_mp1,st_mp1,TB,SB,Int.reduceToNat,Nat.reduceAdd,Nat.reduceEqDiff,Nat.reduceLT,Nat.reduceMod,Nat.reducePow,Nat.reduceSub,if_true,reduceIte];first|done|exact rfl)|exact rfl):P:=e ▸ h
end Go.Eng
end

section
namespace Go.Proofs.YtnghkomgefieoaaGreatDoor
open Go Go.Eng
theorem cmpB_lt:∀ (a b:List UInt8),(Lib.compareBytes a b < 0) ↔ Op.bytesLess a b=true
 | [],[]=>by simp [Lib.compareBytes,Op.bytesLess]
 | [],_::_=>by simp [Lib.compareBytes,Op.bytesLess]
 | _::_,[]=>by simp [Lib.compareBytes,Op.bytesLess]
 | a::s,b::t=>by
  have ih:=cmpB_lt s t
  rw [Lib.compareBytes,Op.bytesLess]
  by_cases h1:a < b
  ·simp [h1]
  ·rw [if_neg h1]
   by_cases h2:b < a
   ·rw [if_pos h2]
    have hne:(a == b)=false:=by
     rw [beq_eq_false_iff_ne]
     rintro rfl
     exact UInt8.lt_irrefl _ h2
    simp [h1,hne]
   ·rw [if_neg h2,ih]
    have he:a=b:=UInt8.le_antisymm (UInt8.not_lt.1 h2) (UInt8.not_lt.1 h1)
    subst he
    simp
def mbC (m:Mem):List AV:=[str m.1,slN m.2]
def mbA (m:Mem):AV:=.agg (mbC m)
def m0d:Mem:=([],[])
theorem mbF:RowF mbC 2:=⟨fun _=>rfl,fun _=>rfl,fun q m=>by simp [mbC,renL,zar,zaa]⟩
section
variable {σ : zab} {K : AV → Prop} {KS : AV → zab → Prop} {id : Nat}
theorem fm_0 (o:Nat):zat T 186 (.ptr id o) 0 K=K (.ptr id (o+0)):=fzP T186 rfl rfl T9 (by decide) id o
theorem fm_1 (o:Nat):zat T 186 (.ptr id o) 1 K=K (.ptr id (o+1)):=fzP T186 rfl rfl T22 (by decide) id o
theorem bx_mb (e:TypeId) (m:Mem):wbox e (mbA m) σ KS=KS (.ptr σ.length 0) (σ++[.rw (mbC m)]):=bxW rfl rfl e
theorem ld_mb0 (m:Mem):ld2 (some tyStr) (some (mbC m)) 0 K=K (str m.1):=lz0 rfl rfl _ _
theorem ld_mb1 (e:TypeId) (m:Mem):ld2 (some (tySl e)) (some (mbC m)) 1 K=K (slN m.2):=by rw [mbC,lzS];exact lz0 rfl rfl _ _
theorem ia_mb (id off len:Nat) (n:Int):ia3 (some tyMb) (.ref id off len 2) n K=(0≤n∧n < len∧K (.ptr id (off+n.toNat * 2))):=by simp [ia3,tyMb]
theorem flat_len (l:List Mem):(l.flatMap mbC).length=l.length * 2:=mbF.flen l
theorem ld_mbR (l:List Mem) (k:Nat):ld2 (some tyMb) (some (l.flatMap mbC)) (k * 2) K=(k < l.length∧K (mbA (l.getD k m0d))):=by
 have h:=mbF.ld (K:=K) (ti:=tyMb) rfl (by decide) rfl m0d l k
 rw [← mbF.fdrop] at h
 rw [mbA,← h]
 simp [ld2]
theorem st_mbR (l:List Mem) (k:Nat) (m:Mem) (id:Nat):st2 (some tyMb) (some (.rw (l.flatMap mbC))) id (k * 2) (mbA m) σ KS=(k < l.length∧KS (.lit undef) (σ.set id (.rw ((l.set k m).flatMap mbC)))):=by
 have hp:∀ (l:List Mem) (k:Nat),k < l.length→za5 (l.flatMap mbC) (k * 2) (mbC m)=(l.set k m).flatMap mbC:=by
  intro l
  induction l with
  | nil=>intro k h;simp at h
  | cons a l ih =>
   intro k h
   cases k with
   | zero=>simp [za5,mbC]
   | succ k =>
    have:=ih k (by simpa using h)
    rw [show (k+1) * 2=k * 2+1+1 by omega]
    simp only [List.flatMap_cons,mbC,List.cons_append,List.nil_append,za5,List.set_cons_succ] at this ⊢
    rw [this]
 have ha:(mbC m).all AV.one=true:=rfl
 simp only [st2,mbA,AV.cells,show (mbC m).length=2 from rfl,show tyMb.size=2 from rfl,ha,true_and,flat_len]
 by_cases h:k < l.length
 ·rw [hp l k h]
  simp only [h,true_and]
  simp only [show (k * 2+2≤l.length * 2)=True from eq_true (by omega),true_and]
 ·simp only [h,false_and]
  simp only [show (k * 2+2≤l.length * 2)=False from eq_false (by omega),false_and]
end
def cmpM (a b:Mem):Int:=Lib.compareBytes a.1 b.1
theorem zht (q:List Nat) (m:Mem):(mbA m).ren q=some (mbA m):=by simp [mbA,AV.ren,mbF.ren]
theorem strCmp_ok (a b:List UInt8):ACalls Tryz.prog 126 [str a,str b] [] (fun y _=>y=.ret (i64 (Lib.compareBytes a b))):=by
 intro H w m vs hg hs hr
 refine .inl ⟨by kernel_rfl,?_⟩
 have hvs:vs=#[.string ⟨a.toArray⟩,.string ⟨b.toArray⟩]:=by
  apply Array.ext'
  simp only [reps] at hr
  obtain⟨v,r,e1,h1,v2,r2,e2,h2,e3⟩:=hr
  simp only [str,rep] at h1 h2
  rw [e1,e2,e3,h1,h2]
 subst hvs
 refine(Tryz.strings_Compare ⟨a.toArray⟩ ⟨b.toArray⟩ w).mono ?_
 rintro e w' ⟨rfl,rfl⟩
 exact⟨.ret (i64 (Lib.compareBytes a b)),m,[],hs,Ext.refl _ _ _,by simp only [zbK,i64,rep],rfl⟩
theorem zhu (a b:Mem):ACalls Tryz.prog 125 [mbA a,mbA b] [] (fun y _=>y=.ret (i64 (cmpM a b))):=by
 refine ACalls.body T_ok Tryz.func125 (by kernel_rfl) rfl Tryz.ntmps125 (congrArg Array.toList Tryz.results125) ?_
 refine aQ52 ?_
 refine(strCmp_ok a.1 b.1).pure aQ16 ?_
 rintro _ σ rfl
 refine⟨by first | rfl | simp [AEnd.noid,AV.ren,renL,zaP,zaG str zar,zba,zaZ,za3,zaq,zaU,zar],?_⟩
 refine aQ52 ?_
 exact zaz (zaq _ _) rfl
def zb6:AV:=.fn (.func 125) [] []
def posM (p:Mem→Bool) (S:List Mem):Nat→Nat
 | 0=>0
 | j+1=>if p (S.getD j m0d) then posM p S j else j+1
theorem posM_le (p:Mem→Bool) (S:List Mem):∀ j,posM p S j≤j
 | 0=>Nat.le_refl _
 | j+1=>by
  have:=posM_le p S j
  simp only [posM]
  split <;> omega
def insP (p:Mem→Bool) (x:Mem) (S:List Mem):List Mem:=S.take (posM p S S.length)++x::S.drop (posM p S S.length)
def ltM (x y:Mem):Bool:=decide (cmpM x y < 0)
def zec (L:List Mem):Nat→List Mem
 | 0=>[]
 | k+1=>insP (ltM (L.getD k m0d)) (L.getD k m0d) (zec L k)
theorem insP_length (p:Mem→Bool) (x:Mem) (S:List Mem):(insP p x S).length=S.length+1:=by
 have:=posM_le p S S.length
 simp [insP]
 omega
theorem zd7 (L:List Mem):∀ k,(zec L k).length=k
 | 0=>rfl
 | k+1=>by rw [zec,insP_length,zd7 L k]
def rowM (S:List Mem) (x:Mem) (t:List Mem) (j:Nat):List Mem:=S.take j++x::(S.drop j++t)
theorem zfi (S:List Mem) (x:Mem) (t:List Mem) {j:Nat} (h:j≤S.length):(rowM S x t j).length=S.length+1+t.length:=by simp [rowM];omega
theorem rowM_x (S:List Mem) (x:Mem) (t:List Mem) {j:Nat} (h:j≤S.length):(rowM S x t j).getD j m0d=x:=by
 rw [rowM,List.getD_eq_getElem?_getD,List.getElem?_append_right (by simp;omega)]
 simp [Nat.min_eq_left h]
theorem rowM_b (S:List Mem) (x:Mem) (t:List Mem) {j:Nat} (h:j < S.length):(rowM S x t (j+1)).getD j m0d=S.getD j m0d:=by
 rw [rowM,List.getD_eq_getElem?_getD,List.getElem?_append_left (by simp;omega),List.getElem?_take,if_pos (by omega),← List.getD_eq_getElem?_getD]
theorem rowM_swap (S:List Mem) (x:Mem) (t:List Mem) {j:Nat} (h:j < S.length):((rowM S x t (j+1)).set (j+1) (S.getD j m0d)).set j x=rowM S x t j:=by
 have e1:S.take (j+1)=S.take j++[S.getD j m0d]:=by
  rw [List.take_succ_eq_append_getElem h,List.getD_eq_getElem?_getD,List.getElem?_eq_getElem h]
  rfl
 have e2:S.drop j=S.getD j m0d::S.drop (j+1):=by
  rw [List.drop_eq_getElem_cons h,List.getD_eq_getElem?_getD,List.getElem?_eq_getElem h]
  rfl
 have hl:(S.take j).length=j:=by simp;omega
 rw [rowM,rowM,e1,e2]
 generalize S.take j=A at hl
 subst hl
 rw [List.append_assoc,List.set_append_right _ _ (by omega),List.set_append_right _ _ (by omega)]
 simp
theorem sortK_start (L:List Mem):zec L (min (0+1) L.length)++L.drop (0+1)=L:=by
 cases L with
 | nil=>rfl
 | cons a l=>simp [zec,insP,posM]
end Go.Proofs.YtnghkomgefieoaaGreatDoor
end

section
namespace Go.Proofs.YtnghkomgefieoaaGreatDoor
open Go Go.Eng
set_option linter.defProp false in
def LB18:=And.intro @ia_refN (And.intro @ld_hk (And.intro @len_hk (And.intro @set_hk (And.intro @fm_0 (And.intro @fm_1 (And.intro @bx_mb (And.intro @ld_mb0 (And.intro @ld_mb1 (And.intro @ia_mb (And.intro @ld_mbR (@st_mbR)))))))))))
def sortI (M:List Mem):List Mem:=zec M M.length
theorem sortI_length (M:List Mem):(sortI M).length=M.length:=zd7 M _
theorem zfI (A S:List Mem) (j:Nat):(A++S).getD (A.length+j) m0d=S.getD j m0d:=by
 rw [List.getD_eq_getElem?_getD,List.getElem?_append_right (by omega),Nat.add_sub_cancel_left,← List.getD_eq_getElem?_getD]
theorem zaW (l:List Mem):zah [.rw (l.flatMap mbC)] [0] [0] [.rw (l.flatMap mbC)]:=⟨.inr ⟨_,by rw [zaL,mbF.fren];rfl,rfl⟩,trivial⟩
def ziz (A M B:List Mem) (k:Nat):List Mem:=A++(zec M (min (k+1) M.length)++(M.drop (k+1)++B))
theorem misort_ok (A M B:List Mem) (hL:A.length+M.length+B.length≤1000000):ACalls Tryz.prog 145 [.ref 0 0 (A.length+M.length+B.length) 2,i64 A.length,i64 ((A.length+M.length:Nat):Int),zb6] [.rw ((A++(M++B)).flatMap mbC)] (fun y σ=>y=.ret (.tup [])∧σ=[.rw ((A++(sortI M++B)).flatMap mbC)]):=by
 unfold zb6
 refine ACalls.body T_ok Tryz.func145 (by kernel_rfl) rfl Tryz.ntmps145 (congrArg Array.toList Tryz.results145) ?_
 refine aQ53 ?_
 repeat (with_reducible refine And.intro aQ15 ?_)
 rw [za6]
 refine⟨Nat,fun k=>k+1≤max M.length 1,fun k=>[.ref 0 0 (A.length+M.length+B.length) 2,i64 A.length,i64 ((A.length+M.length:Nat):Int),.fn (.func 125) [] [],.bot,.bot,.bot,.bot,i64 ((A.length+k+1:Nat):Int),.bot,.bot,.bot,.bot,.bot,.bot,.bot,.bot,.bot,.bot,.bot,.bot,.bot,.bot,.bot,.bot,.bot,.bot,.bot,.bot,.bot,.bot,.bot,.bot,.bot,.bot,.bot,.bot,.bot,.bot,.bot,.bot,.bot,.bot,.bot,.bot,.bot,.bot,.bot,.bot,.bot,.bot,.bot,.bot],fun k=>[.rw ((ziz A M B k).flatMap mbC)],fun k=>M.length - k,0,by omega,zak (q:=[0]) rfl rfl (by decide) ?_ ?_,?_⟩
 ·refine aQ27 ?_
  exact⟨by simp [renL],.inr (by omega)⟩
 ·have hst:ziz A M B 0=A++(M++B):=by
   have:=sortK_start M
   rw [ziz,← List.append_assoc (zec M _),this]
  show zah _ _ _ [Blk.rw ((ziz A M B 0).flatMap mbC)]
  rw [hst]
  exact zaW _
 ·intro k hk
  refine aQ53 ?_
  refine⟨fun hlt=>?_,fun hge=>?_⟩
  rotate_left
  ·refine zau ⟨rfl,?_⟩
   rw [ziz,Nat.min_eq_right (by omega),List.drop_eq_nil_of_le (show M.length≤k+1 by omega),List.nil_append]
   rfl
  have hlt2:k+1 < M.length:=by omega
  obtain⟨S,hS⟩:∃ S,S=zec M (k+1):=⟨_,rfl⟩
  obtain⟨x,hx⟩:∃ x,x=M.getD (k+1) m0d:=⟨_,rfl⟩
  have hSl:S.length=k+1:=by rw [hS,zd7]
  obtain⟨t,ht⟩:∃ t,t=M.drop (k+2)++B:=⟨_,rfl⟩
  have htl:t.length=M.length - (k+2)+B.length:=by rw [ht,List.length_append,List.length_drop]
  obtain⟨S',hS'⟩:∃ S',S'=A++S:=⟨_,rfl⟩
  have hSl':S'.length=A.length+(k+1):=by rw [hS',List.length_append,hSl]
  have hrow:ziz A M B k=rowM S' x t (A.length+(k+1)):=by
   have e1:S'.take (A.length+(k+1))=S':=List.take_of_length_le (by omega)
   have e2:S'.drop (A.length+(k+1))=[]:=List.drop_eq_nil_of_le (by omega)
   have e3:M.drop (k+1)=x::M.drop (k+2):=by rw [List.drop_eq_getElem_cons hlt2,hx,List.getD_eq_getElem?_getD,List.getElem?_eq_getElem hlt2];rfl
   rw [ziz,Nat.min_eq_left (by omega),← hS,rowM,e1,e2,List.nil_append,e3,ht,hS']
   simp
  rw [hrow]
  have hrl:∀ j,j≤A.length+(k+1)→(rowM S' x t j).length=A.length+M.length+B.length:=fun j hj=>by rw [zfi _ _ _ (by omega)];omega
  rw [za6]
  refine⟨Nat,fun j=>j≤k+1∧posM (ltM x) S S.length=posM (ltM x) S j,fun j=>[.ref 0 0 (A.length+M.length+B.length) 2,i64 A.length,i64 ((A.length+M.length:Nat):Int),.fn (.func 125) [] [],.bot,.bot,.bot,.bot,i64 ((A.length+k+1:Nat):Int),i64 ((A.length+j:Nat):Int),.bot,.bot,.bot,.bot,.bot,.bot,.bot,.bot,.bot,.bot,.bot,.bot,.bot,.bot,.bot,.bot,.bot,.bot,.bot,.bot,.bot,.bot,.bot,.bot,.bot,.bot,.bot,.bot,.bot,.bot,.bot,.bot,.bot,.bot,.bot,.bot,.bot,.bot,.bot,.bot,.bot,.bot,.bot],fun j=>[.rw ((rowM S' x t (A.length+j)).flatMap mbC)],fun j=>j,k+1,⟨Nat.le_refl _,by rw [hSl]⟩,zak (q:=[0]) rfl rfl (by decide) ?_ ?_,?_⟩
  ·refine aQ27 ?_
   exact⟨by simp [renL],.inr (by omega)⟩
  ·exact zaW _
  ·rintro j ⟨hj,hp⟩
   refine aQ53 ?_
   refine zdG (by kernel_rfl) (by kernel_rfl) ?_
   refine aQ53 ?_
   have hdone:posM (ltM x) S S.length=j→rowM S' x t (A.length+j)=ziz A M B (k+1):=fun h=>by
    have e1:S'.take (A.length+j)=A++S.take j:=by rw [hS',List.take_append,List.take_of_length_le (by omega),Nat.add_sub_cancel_left]
    have e2:S'.drop (A.length+j)=S.drop j:=by rw [hS',List.drop_append,List.drop_eq_nil_of_le (by omega),List.nil_append,Nat.add_sub_cancel_left]
    rw [ziz,Nat.min_eq_left (by omega),zec,← hS,← hx,insP,h,rowM,e1,e2,ht]
    simp
   by_cases hj0:0 < j
   rotate_left
   ·obtain rfl:j=0:=by omega
    rw [decide_eq_false (by omega:¬ (A.length:Int) < ((A.length+0:Nat):Int))]
    refine aQ53 ?_
    have hd0:=hdone (by rw [hp];rfl)
    rw [Nat.add_zero] at hd0
    rw [hd0]
    repeat (with_reducible refine And.intro aQ15 ?_)
    rw [zam]
    refine⟨k+1,by omega,by (show M.length - (k+1) < M.length - k);omega,zak (q:=[0]) rfl rfl (by decide) ?_ ?_⟩
    ·refine aQ27 ?_
     exact⟨by simp [renL],.inr (by omega)⟩
    ·exact zaW _
   obtain⟨i,rfl⟩:∃ i,j=i+1:=⟨j - 1,by omega⟩
   have hrj:=hrl (A.length+(i+1)) (by omega)
   have hi1:((A.length+(i+1):Nat):Int) - 1=((A.length+i:Nat):Int):=by omega
   rw [decide_eq_true (by omega:(A.length:Int) < ((A.length+(i+1):Nat):Int))]
   try simp -implicitDefEqProofs only [LM0,LB18,eq_self,zao,zag,zaf,zav,Nat.zero_mul,hi1,TB,SB,Int.reduceToNat,Nat.reduceAdd,Nat.reduceEqDiff,Nat.reduceLT,Nat.reduceMod,Nat.reducePow,Nat.reduceSub,if_true,reduceIte]
   refine⟨by omega,by omega,by omega,by unfold inI;omega,by omega,by omega,by omega,?_⟩
   have eb:S'.getD (A.length+i) m0d=S.getD i m0d:=by rw [hS',zfI]
   have hsw:=rowM_swap S' x t (j:=A.length+i) (by omega)
   rw [eb] at hsw
   rw [show A.length+(i+1)=A.length+i+1 by omega,rowM_x S' x t (j:=A.length+i+1) (by omega),rowM_b _ _ _ (by omega),eb]
   refine zcM (zhu x (S.getD i m0d)) (by simp [renL,zht]) (zaq _ _) ?_
   refine aQ53 ?_
   refine⟨fun hneg=>?_,fun hpos=>?_⟩
   ·refine zif [15,1] (by kernel_rfl) (by kernel_rfl) (by kernel_rfl) ?_
    have hi2:((A.length+i+1:Nat):Int) - 1=((A.length+i:Nat):Int):=by omega
    have hrj':=hrl (A.length+i+1) (by omega)
    try simp -implicitDefEqProofs only [LM0,LB18,eq_self,zao,zag,zaf,zav,Nat.zero_mul,hi2,TB,SB,Int.reduceToNat,Nat.reduceAdd,Nat.reduceEqDiff,Nat.reduceLT,Nat.reduceMod,Nat.reducePow,Nat.reduceSub,if_true,reduceIte]
    refine⟨by unfold inI;omega,by unfold inI;omega,by omega,by omega,by omega,by omega,by omega,by omega,by omega,by omega,by omega,by omega,by omega,by rw [List.length_set];omega,by unfold inI;omega,?_⟩
    rw [zam,rowM_x _ _ _ (by omega),rowM_b _ _ _ (by omega),eb,hsw]
    refine⟨i,⟨by omega,by rw [hp,posM,if_pos (by simpa [ltM] using hneg)]⟩,(by show i < i+1;omega),zak (q:=[0]) rfl rfl (by decide) ?_ ?_⟩
    ·refine aQ27 ?_
     simp [renL]
    ·exact zaW _
   ·refine aQ53 ?_
    have hd1:=hdone (by rw [hp,posM,if_neg (by simpa [ltM] using hpos)])
    rw [show A.length+(i+1)=A.length+i+1 by omega] at hd1
    rw [hd1]
    repeat (with_reducible refine And.intro aQ15 ?_)
    rw [zam]
    refine⟨k+1,by omega,by (show M.length - (k+1) < M.length - k);omega,zak (q:=[0]) rfl rfl (by decide) ?_ ?_⟩
    ·refine aQ27 ?_
     exact⟨by simp [renL],.inr (by omega)⟩
    ·exact zaW _
def zhZ (N:Nat):Prop:=∀ L:List Mem,L.length≤N→ACalls Tryz.prog 124 [.ref 0 0 L.length 2,zb6] [.rw (L.flatMap mbC)] (fun y σ=>y=.ret (.tup [])∧σ=[.rw ((zaT L).flatMap mbC)])
theorem posM_app (p:Mem→Bool) (S:List Mem) (y:Mem):∀ j,j≤S.length→posM p (S++[y]) j=posM p S j
 | 0,_=>rfl
 | j+1,h=>by
  rw [posM,posM,posM_app p S y j (by omega),List.getD_eq_getElem?_getD,List.getElem?_append_left (by omega),← List.getD_eq_getElem?_getD]
theorem insP_app (p:Mem→Bool) (x:Mem) (S:List Mem) (y:Mem):insP p x (S++[y])=if p y then insP p x S++[y] else S++[y,x]:=by
 have hq:=posM_le p S S.length
 have e:posM p (S++[y]) (S++[y]).length=if p y then posM p S S.length else S.length+1:=by
  rw [List.length_append,List.length_cons,List.length_nil,Nat.zero_add,posM,posM_app p S y _ (Nat.le_refl _)]
  simp
 rw [insP,e]
 split
 ·rw [insP,List.take_append_of_le_length hq,List.drop_append_of_le_length hq]
  simp
 ·rw [List.take_of_length_le (by simp),List.drop_eq_nil_of_le (by simp)]
  simp
theorem ltM_lt (x y:Mem):ltM x y=decide (x.1 < y.1):=by
 rw [← Go.Proofs.bytesLess_eq,ltM]
 have:=cmpB_lt x.1 y.1
 unfold cmpM
 by_cases h:Op.bytesLess x.1 y.1=true
 ·rw [h,decide_eq_true (this.2 h)]
 ·rw [decide_eq_false (fun h'=>h (this.1 h')),Bool.eq_false_iff.2 h]
def Asc (S:List Mem):Prop:=S.Pairwise (fun a b=>¬ b.1 < a.1)
theorem zhv (x y:Mem) (h:ltM x y=true):∀ S:List Mem,insM x (S++[y])=insM x S++[y]
 | []=>by
  have:Op.bytesLess x.1 y.1=true:=by rw [Go.Proofs.bytesLess_eq,← ltM_lt];exact h
  simp [insM,this]
 | a::S=>by
  rw [List.cons_append,insM,insM,zhv x y h S]
  split <;> rfl
theorem insM_end (x:Mem):∀ S:List Mem,(∀ a∈S,¬ x.1 < a.1)→insM x S=S++[x]
 | [],_=>rfl
 | a::S,h=>by
  have:Op.bytesLess x.1 a.1=false:=by rw [Go.Proofs.bytesLess_eq];exact decide_eq_false (h a (by simp))
  rw [insM,this,insM_end x S (fun b hb=>h b (by simp [hb]))]
  rfl
theorem insP_M' (x:Mem):∀ R:List Mem,Asc R.reverse→insP (ltM x) x R.reverse=insM x R.reverse
 | [],_=>rfl
 | y::R,h=>by
  have ih:=insP_M' x R
  rw [List.reverse_cons] at h ⊢
  generalize R.reverse=S at ih h
  have h':=List.pairwise_append.1 h
  rw [insP_app]
  split
  ·rename_i hlt
   rw [ih h'.1,zhv x y hlt]
  ·rename_i hlt
   rw [ltM_lt] at hlt
   have hn:¬ x.1 < y.1:=fun hh=>hlt (decide_eq_true hh)
   rw [insM_end x (S++[y])]
   ·simp
   ·intro a ha
    rcases List.mem_append.1 ha with ha | ha
    ·intro hxa
     have hya:¬ y.1 < a.1:=h'.2.2 a ha y (by simp)
     exact hya (List.lt_of_le_of_lt (List.not_lt.1 hn) hxa)
    ·rw [List.mem_singleton.1 ha]
     exact hn
theorem insP_M (x:Mem) (S:List Mem) (h:Asc S):insP (ltM x) x S=insM x S:=by
 have:=insP_M' x S.reverse
 rw [List.reverse_reverse] at this
 exact this h
theorem ziA (x:Mem):∀ S:List Mem,Asc S→Asc (insM x S)
 | [],_=>by simp [insM,Asc]
 | a::S,h=>by
  have h':=List.pairwise_cons.1 h
  rw [insM,Go.Proofs.bytesLess_eq]
  split
  ·rename_i hlt
   have hlt':=of_decide_eq_true hlt
   refine List.pairwise_cons.2 ⟨fun b hb=>?_,h⟩
   rcases List.mem_cons.1 hb with rfl | hb
   ·exact List.not_lt.2 (List.le_of_lt hlt')
   ·exact List.not_lt.2 (List.le_trans (List.le_of_lt hlt') (List.not_lt.1 (h'.1 b hb)))
  ·rename_i hlt
   have hlt':¬ x.1 < a.1:=fun hh=>hlt (decide_eq_true hh)
   refine List.pairwise_cons.2 ⟨fun b hb=>?_,ziA x S h'.2⟩
   rcases List.mem_cons.1 ((zhs x S).mem_iff.1 hb) with rfl | hb
   ·exact hlt'
   ·exact h'.1 b hb
theorem zhw:∀ (l acc:List Mem),Asc acc→Asc (l.foldl (fun acc m=>insM m acc) acc)
 | [],_,h=>h
 | m::l,acc,h=>zhw l _ (ziA m acc h)
theorem zh0 (L:List Mem):∀ k,k≤L.length→zec L k=zaT (L.take k)
 | 0,_=>rfl
 | k+1,h=>by
  rw [zec,zh0 L k (by omega),insP_M _ _ (show Asc (zaT _) from zhw _ _ List.Pairwise.nil),List.getD_eq_getElem?_getD,List.getElem?_eq_getElem (by omega:k < L.length)]
  have e:L.take (k+1)=L.take k++[L[k]]:=List.take_succ_eq_append_getElem (by omega:k < L.length)
  rw [zaT,zaT,e,List.foldl_append]
  rfl
theorem sortI_M (L:List Mem):sortI L=zaT L:=by
 rw [sortI,zh0 L _ (Nat.le_refl _),List.take_length]
end Go.Proofs.YtnghkomgefieoaaGreatDoor
end

section
namespace Go.Proofs.YtnghkomgefieoaaGreatDoor
open Go Go.Eng
section
variable {σ : zab} {K : AV → Prop} {KS : AV → zab → Prop}
theorem bd_mb (a:List UInt8) (l:List Nd):zbg T 186 [(0,str a),(1,slN l)] K=K (mbA (a,l)):=by
 simp [zbg,T186,tyMb,T9,T22,zbZ,zaH,AV.cells,zce,za5,tyStr,tySl,mbA,mbC,str,slN]
 try rfl
theorem bs_mb (m:Mem):bs2 (some tyMb) 1 [(0,mbA m)] σ KS=KS (.ref σ.length 0 1 2) (σ++[.rw (([m]:List Mem).flatMap mbC)]):=by
 have h2:(slN m.2).one=true:=rfl
 simp [bs2,tyMb,zbZ,zb2,AV.cells,za5,List.range_succ,List.replicate,mbA,mbC,zce,h2]
theorem ld_mp1 (k v:TypeId) (x:AV):ld2 (some (zgr k v)) (some [x]) 0 K=K x:=by simp [ld2,wfin,zgr,TD.agg]
end
def OA (s:List UInt8) (p tw:Int):zab:=[.rw (rC s p tw),.rw [.ptr 0 0],.rw [nilS],mpS [] [],.rw [.mpt 3]]
def OB (s:List UInt8) (p tw:Int) (ms:List Mem) (zs:List Int):zab:=[.rw (rC s p tw),.rw [.ptr 0 0],.rw [.ref 5 0 ms.length 2],mpS (ksU ms) zs,.rw [.mpt 3],.rw (ms.flatMap mbC)]
def dead5:zab:=[.dead,.dead,.dead,.dead,.dead]
def dead6:zab:=[.dead,.dead,.dead,.dead,.dead,.dead]
def zhx (s:List UInt8) (p:Nat) (d:zab) (x:Except Nat (GO × Nat)):AEnd→zab→Prop:=fun y σ=>match x with
 | .ok x=>y=.ret (.tup [])∧σ=OB s ((p+x.2:Nat):Int) x.1.2.1 x.1.1 x.1.2.2
 | .error k=>y=.pan (flt ((p+k:Nat):Int) 2)∧σ=d
def loneOT:Tr:=(.br 0 (.br 1 (.br 2 (.br 3 (.br 4 (.br 5 (.br 6 (.br 7 .done .nil) .nil) .nil) .nil) .nil) .nil) (.br 2 (.br 1 (.br 3 (.br 4 (.br 5 (.br 6 (.br 7 .done .nil) .nil) .nil) .nil) .nil) (.br 3 (.br 1 (.br 4 (.br 5 (.br 6 (.br 7 .done .nil) .nil) .nil) .nil) .nil) .nil)) .nil)) (.br 1 (.br 0 (.br 2 (.br 3 (.br 4 (.br 5 (.br 6 (.br 7 .done .nil) .nil) .nil) .nil) .nil) .nil) (.br 2 (.br 0 (.br 3 (.br 4 (.br 5 (.br 6 (.br 7 .done .nil) .nil) .nil) .nil) .nil) (.br 3 (.br 0 (.br 4 (.br 5 (.br 6 (.br 7 .done .nil) .nil) .nil) .nil) (.br 4 (.br 0 (.br 5 (.br 6 (.br 7 .done .nil) .nil) .nil) (.br 5 (.br 0 (.br 6 (.br 7 .done .nil) .nil) .nil) .nil)) .nil)) .nil)) .nil)) (.br 2 (.br 0 (.br 1 (.br 3 (.br 4 (.br 5 (.br 6 (.br 7 .done .nil) .nil) .nil) .nil) .nil) (.br 3 (.br 1 (.br 4 (.br 5 (.br 6 (.br 7 .done .nil) .nil) .nil) .nil) .nil) .nil)) (.br 1 (.br 0 (.br 3 (.br 4 (.br 5 (.br 6 (.br 7 .done .nil) .nil) .nil) .nil) .nil) (.br 3 (.br 0 (.br 4 (.br 5 (.br 6 (.br 7 .done .nil) .nil) .nil) .nil) (.br 4 (.br 0 (.br 5 (.br 6 (.br 7 .done .nil) .nil) .nil) (.br 5 (.br 0 (.br 6 (.br 7 .done .nil) .nil) .nil) .nil)) .nil)) .nil)) (.br 3 (.br 0 (.br 1 (.br 4 (.br 5 (.br 6 (.br 7 .done .nil) .nil) .nil) .nil) .nil) (.br 1 (.br 0 (.br 4 (.br 5 (.br 6 (.br 7 .done .nil) .nil) .nil) .nil) (.br 4 (.br 0 (.br 5 (.br 6 (.br 7 .done .nil) .nil) .nil) (.br 5 (.br 0 (.br 6 (.br 7 .done .nil) .nil) .nil) .nil)) .nil)) .nil)) .nil))) .nil)))
theorem zac (q:List Nat):nilS.ren q=some nilS:=rfl
def OC (s:List UInt8) (p tw:Int) (ms:List Mem) (zs:List Int):zab:=[.rw (rC s p tw),.rw [.ptr 0 0],.rw [.ref 6 0 ms.length 2],mpS (ksU ms) zs,.rw [.mpt 3],.dead,.rw (ms.flatMap mbC)]
def zhy (s:List UInt8) (p:Nat) (d:zab) (x:Except Nat (GO × Nat)):AEnd→zab→Prop:=fun y σ=>match x with
 | .ok x=>y=.ret (.tup [])∧σ=OC s ((p+x.2:Nat):Int) x.1.2.1 x.1.1 x.1.2.2
 | .error k=>y=.pan (flt ((p+k:Nat):Int) 2)∧σ=d
theorem keepOA {x:List AV} {ks:List (List UInt8)} {zs:List Int} {s:List UInt8} {p tw:Int} {ms:List Mem} {n:Nat}:zah [.rw (rC s p tw),.rw [.ptr 0 0],.rw [.ref 6 0 n 2],mpS ks zs,.rw [.mpt 3],.rw x,.rw (ms.flatMap mbC)] [0,1,2,3,4,6] [0,1,2,3,4,6] [.rw (rC s p tw),.rw [.ptr 0 0],.rw [.ref 5 0 n 2],mpS ks zs,.rw [.mpt 3],.rw (ms.flatMap mbC)]:=by
 simp [zah,zaL,mbF.fren,zbq,zgd,renL,AV.ren]
theorem keepOB {x:List AV} {ks:List (List UInt8)} {zs:List Int} {s:List UInt8} {p tw:Int} {ms:List Mem} {n:Nat}:zah [.rw (rC s p tw),.rw [.ptr 0 0],.rw [.ref 7 0 n 2],mpS ks zs,.rw [.mpt 3],.dead,.rw x,.rw (ms.flatMap mbC)] [0,1,2,3,4,5,7] [0,1,2,3,4,5,7] [.rw (rC s p tw),.rw [.ptr 0 0],.rw [.ref 6 0 n 2],mpS ks zs,.rw [.mpt 3],.dead,.rw (ms.flatMap mbC)]:=by
 simp [zah,zaL,mbF.fren,zbq,zgd,renL,AV.ren]
theorem ksU_app (ms:List Mem) (m:Mem):ksU (ms++[m])=zgs (ksU ms) m.1:=by simp [ksU]
theorem zh1 {V:PV} {g:GO} {p:Nat} {l:List UInt8} (hq:quoL l=none):zcf V g p l=.error 0:=by
 rw [zcf,hq]
theorem zh2 {V:PV} {g:GO} {p c b:Nat} {l key:List UInt8} (hq:quoL l=some (key,c)) (hb:b=c+zax (l.drop c)) (h:(l.drop b).head?≠some 58):zcf V g p l=.error b:=by
 subst hb
 rw [zcf,hq]
 dsimp only
 rw [if_neg h]
theorem stepO_bad {V:PV} {g:GO} {p c b b2 k:Nat} {l key:List UInt8} (hq:quoL l=some (key,c)) (hb:b=c+zax (l.drop c)) (h:(l.drop b).head?=some 58) (hb2:b2=b+1+zax (l.drop (b+1))) (hx:V (twK g.1 g.2.1 p key) (p+b2) (l.drop b2)=.error k):zcf V g p l=.error (b2+k):=by
 subst hb hb2
 rw [zcf,hq]
 dsimp only
 rw [if_pos h,hx]
theorem ziB {V:PV} {g:GO} {p c b b2 c2:Nat} {l key:List UInt8} {x:List Nd × Int} (hq:quoL l=some (key,c)) (hb:b=c+zax (l.drop c)) (h:(l.drop b).head?=some 58) (hb2:b2=b+1+zax (l.drop (b+1))) (hx:V (twK g.1 g.2.1 p key) (p+b2) (l.drop b2)=.ok (x,c2)):zcf V g p l=.ok ((g.1++[(key,x.1)],x.2,zhk (ksU g.1) g.2.2 key p),b2+c2):=by
 subst hb hb2
 rw [zcf,hq]
 dsimp only
 rw [if_pos h,hx]
theorem loneA_ok (n:Nat) (s:List UInt8) (hs:s.length≤1000000000) (hV:ziU n s) (p:Nat) (tw:Int) (hp:p≤s.length) (hn:s.length - p≤n):ACalls Tryz.prog 121 [.ptr 1 0,.ptr 4 0,.ptr 2 0] (OA s p tw) (zhx s p dead5 (zcf (pvF n) ([],tw,[]) p (s.drop p))):=by
 have h:=pkey_ok s p tw [] [] rfl hs
 unfold keyK' mS at h
 unfold OA
 refine ACalls.body T_ok Tryz.func121 (by kernel_rfl) rfl Tryz.ntmps121 (congrArg Array.toList Tryz.results121) ?_
 refine aQ54 ?_
 cases hq:quoL (s.drop p) with
 | none =>
  rw [hq] at h
  dsimp only at h
  refine ACalls.frame ([0,3]) (h) rfl (by decide) (by simp [LM1,zah,zad,renL,AV.ren,AEnd.ren,mbF.fren,zaa,zae,List.getElem?_cons_zero,List.getElem?_cons_succ]) (by first | rfl | simp [LM1,zah,zad,renL,AV.ren,AEnd.ren,mbF.fren,zaa,zae,List.getElem?_cons_zero,List.getElem?_cons_succ]) ?_
  rintro _ _ ⟨rfl,rfl⟩
  refine⟨.pan (flt p 2),[.dead,.rw [.ptr 0 0],.rw [nilS],.dead,.rw [.mpt 3]],(by show zad _ _ ([0,2,2,1,2]) ([0,2,2,1,2]) 0 _;simp [LM1,zah,zad,renL,AV.ren,AEnd.ren,mbF.fren,zaa,zae,List.getElem?_cons_zero,List.getElem?_cons_succ]),(by show AEnd.ren ([0,2,2,1,2]) _ _;first | rfl | simp [LM1,zah,zad,renL,AV.ren,AEnd.ren,mbF.fren,zaa,zae,List.getElem?_cons_zero,List.getElem?_cons_succ]),?_⟩
  refine aQ54 ?_
  refine zbw (za9 _ _ _) ?_
  unfold zhx
  rw [zh1 hq]
  exact⟨rfl,rfl⟩
 | some x =>
  obtain⟨key,c⟩:=x
  have hc:=ziw hq
  rw [List.length_drop] at hc
  dsimp only at hc
  rw [hq] at h
  dsimp only at h
  obtain⟨tw2,htw2⟩:∃ t,t=(if key∈([]:List (List UInt8))∧tw < 0 then (p:Int) else tw):=⟨_,rfl⟩
  obtain⟨ks2,hks2⟩:∃ k,k=zgs [] key:=⟨_,rfl⟩
  obtain⟨zs2,hzs2⟩:∃ z,z=zhk [] [] key p:=⟨_,rfl⟩
  rw [← htw2,← hks2,← hzs2] at h
  refine ACalls.frame ([0,3]) (h) rfl (by decide) (by simp [LM1,zah,zad,renL,AV.ren,AEnd.ren,mbF.fren,zaa,zae,List.getElem?_cons_zero,List.getElem?_cons_succ]) (by first | rfl | simp [LM1,zah,zad,renL,AV.ren,AEnd.ren,mbF.fren,zaa,zae,List.getElem?_cons_zero,List.getElem?_cons_succ]) ?_
  rintro _ _ ⟨rfl,rfl⟩
  refine⟨.ret (str key),[.rw (rC s ((p+c:Nat):Int) tw2),.rw [.ptr 0 0],.rw [nilS],mpS ks2 zs2,.rw [.mpt 3]],(by show zad _ _ ([0,2,2,1,2]) ([0,2,2,1,2]) 0 _;simp [LM1,zah,zad,renL,AV.ren,AEnd.ren,mbF.fren,zaa,zae,List.getElem?_cons_zero,List.getElem?_cons_succ]),(by show AEnd.ren ([0,2,2,1,2]) _ _;first | rfl | simp [LM1,zah,zad,renL,AV.ren,AEnd.ren,mbF.fren,zaa,zae,List.getElem?_cons_zero,List.getElem?_cons_succ]),?_⟩
  refine aQ54 ?_
  obtain⟨b,hb⟩:∃ b,b=c+zax ((s.drop p).drop c):=⟨_,rfl⟩
  have hb':=hb
  rw [List.drop_drop] at hb'
  have hbl:=zbd (s.drop (p+c))
  rw [List.length_drop] at hbl
  have hsk:=zcr s (p+c) tw2 (by omega) hs
  rw [show p+c+zax (s.drop (p+c))=p+b by omega] at hsk
  unfold rS at hsk
  refine ACalls.frame ([0]) (hsk) rfl (by decide) (by simp [LM1,zah,zad,renL,AV.ren,AEnd.ren,mbF.fren,zaa,zae,List.getElem?_cons_zero,List.getElem?_cons_succ]) (by first | rfl | simp [LM1,zah,zad,renL,AV.ren,AEnd.ren,mbF.fren,zaa,zae,List.getElem?_cons_zero,List.getElem?_cons_succ]) ?_
  rintro _ _ ⟨rfl,rfl⟩
  refine⟨.ret (.tup []),[.rw (rC s ((p+b:Nat):Int) tw2),.rw [.ptr 0 0],.rw [nilS],mpS ks2 zs2,.rw [.mpt 3]],(by show zad _ _ ([0,1,1,1,1]) ([0,1,1,1,1]) 0 _;simp [LM1,zah,zad,renL,AV.ren,AEnd.ren,mbF.fren,zaa,zae,List.getElem?_cons_zero,List.getElem?_cons_succ]),(by show AEnd.ren ([0,1,1,1,1]) _ _;first | rfl | simp [LM1,zah,zad,renL,AV.ren,AEnd.ren,mbF.fren,zaa,zae,List.getElem?_cons_zero,List.getElem?_cons_succ]),?_⟩
  refine aQ54 ?_
  have hwt:=zhm s (p+b) tw2 58 (by omega) hs
  unfold ziS rS at hwt
  have hisAt:isAt s (p+b) 58=decide (((s.drop p).drop b).head?=some 58):=by rw [List.drop_drop];rfl
  by_cases h58:((s.drop p).drop b).head?=some 58
  rotate_left
  ·rw [hisAt,decide_eq_false h58] at hwt
   dsimp only at hwt
   refine ACalls.frame ([0]) (hwt) rfl (by decide) (by simp [LM1,zah,zad,renL,AV.ren,AEnd.ren,mbF.fren,zaa,zae,List.getElem?_cons_zero,List.getElem?_cons_succ]) (by first | rfl | simp [LM1,zah,zad,renL,AV.ren,AEnd.ren,mbF.fren,zaa,zae,List.getElem?_cons_zero,List.getElem?_cons_succ]) ?_
   rintro _ _ ⟨rfl,rfl⟩
   refine⟨.pan (flt ((p+b:Nat):Int) 2),[.dead,.rw [.ptr 0 0],.rw [nilS],mpS ks2 zs2,.rw [.mpt 3]],(by show zad _ _ ([0,1,1,1,1]) ([0,1,1,1,1]) 0 _;simp [LM1,zah,zad,renL,AV.ren,AEnd.ren,mbF.fren,zaa,zae,List.getElem?_cons_zero,List.getElem?_cons_succ]),(by show AEnd.ren ([0,1,1,1,1]) _ _;first | rfl | simp [LM1,zah,zad,renL,AV.ren,AEnd.ren,mbF.fren,zaa,zae,List.getElem?_cons_zero,List.getElem?_cons_succ]),?_⟩
   refine aQ54 ?_
   refine zbw (za9 _ _ _) ?_
   unfold zhx
   rw [zh2 hq hb h58]
   exact⟨rfl,rfl⟩
  rw [hisAt,decide_eq_true h58] at hwt
  dsimp only at hwt
  have hql:p+b < s.length:=by
   rcases Nat.lt_or_ge (p+b) s.length with h | h
   ·exact h
   ·rw [List.drop_drop,zbW h] at h58;cases h58
  refine ACalls.frame ([0]) (hwt) rfl (by decide) (by simp [LM1,zah,zad,renL,AV.ren,AEnd.ren,mbF.fren,zaa,zae,List.getElem?_cons_zero,List.getElem?_cons_succ]) (by first | rfl | simp [LM1,zah,zad,renL,AV.ren,AEnd.ren,mbF.fren,zaa,zae,List.getElem?_cons_zero,List.getElem?_cons_succ]) ?_
  rintro _ _ ⟨rfl,rfl⟩
  refine⟨.ret (.tup []),[.rw (rC s ((p+b+1:Nat):Int) tw2),.rw [.ptr 0 0],.rw [nilS],mpS ks2 zs2,.rw [.mpt 3]],(by show zad _ _ ([0,1,1,1,1]) ([0,1,1,1,1]) 0 _;simp [LM1,zah,zad,renL,AV.ren,AEnd.ren,mbF.fren,zaa,zae,List.getElem?_cons_zero,List.getElem?_cons_succ]),(by show AEnd.ren ([0,1,1,1,1]) _ _;first | rfl | simp [LM1,zah,zad,renL,AV.ren,AEnd.ren,mbF.fren,zaa,zae,List.getElem?_cons_zero,List.getElem?_cons_succ]),?_⟩
  refine aQ54 ?_
  obtain⟨b2,hb2⟩:∃ b2,b2=b+1+zax ((s.drop p).drop (b+1)):=⟨_,rfl⟩
  have hb2':=hb2
  rw [List.drop_drop] at hb2'
  have hbl2:=zbd (s.drop (p+b+1))
  rw [List.length_drop] at hbl2
  have hsk2:=zcr s (p+b+1) tw2 (by omega) hs
  rw [show p+b+1+zax (s.drop (p+b+1))=p+b2 by rw [hb2',Nat.add_assoc p b 1];omega] at hsk2
  have hbl3:p+b2≤s.length:=by rw [hb2',← Nat.add_assoc p b 1];omega
  unfold rS at hsk2
  refine ACalls.frame ([0]) (hsk2) rfl (by decide) (by simp [LM1,zah,zad,renL,AV.ren,AEnd.ren,mbF.fren,zaa,zae,List.getElem?_cons_zero,List.getElem?_cons_succ]) (by first | rfl | simp [LM1,zah,zad,renL,AV.ren,AEnd.ren,mbF.fren,zaa,zae,List.getElem?_cons_zero,List.getElem?_cons_succ]) ?_
  rintro _ _ ⟨rfl,rfl⟩
  refine⟨.ret (.tup []),[.rw (rC s ((p+b2:Nat):Int) tw2),.rw [.ptr 0 0],.rw [nilS],mpS ks2 zs2,.rw [.mpt 3]],(by show zad _ _ ([0,1,1,1,1]) ([0,1,1,1,1]) 0 _;simp [LM1,zah,zad,renL,AV.ren,AEnd.ren,mbF.fren,zaa,zae,List.getElem?_cons_zero,List.getElem?_cons_succ]),(by show AEnd.ren ([0,1,1,1,1]) _ _;first | rfl | simp [LM1,zah,zad,renL,AV.ren,AEnd.ren,mbF.fren,zaa,zae,List.getElem?_cons_zero,List.getElem?_cons_succ]),?_⟩
  refine aQ54 ?_
  have hv:=hV (p+b2) tw2 hbl3 (by omega)
  have hdd:s.drop (p+b2)=(s.drop p).drop b2:=by rw [List.drop_drop]
  rw [hdd] at hv
  have hg:=zca n tw2 (p+b2) ((s.drop p).drop b2)
  unfold outV rS at hv
  have htw3:twK (([],tw,[]):GO).1 (([],tw,[]):GO).2.1 p key=tw2:=htw2.symm
  refine zg7 loneOT (by kernel_rfl) (by kernel_rfl) ?_
  unfold loneOT
  refine aQ54 ?_
  cases hx:pvF n tw2 (p+b2) ((s.drop p).drop b2) with
  | error k =>
   rw [hx] at hv
   dsimp only at hv
   have hst:=stepO_bad (V:=pvF n) (g:=([],tw,[])) hq hb h58 hb2 (by rw [htw3];exact hx)
   repeat' with_reducible refine And.intro ?_ ?_
   all_goals
    refine ACalls.frame ([0]) (hv) rfl (by decide) (by simp [LM1,zah,zad,renL,AV.ren,AEnd.ren,mbF.fren,zaa,zae,List.getElem?_cons_zero,List.getElem?_cons_succ]) (by first | rfl | simp [LM1,zah,zad,renL,AV.ren,AEnd.ren,mbF.fren,zaa,zae,List.getElem?_cons_zero,List.getElem?_cons_succ]) ?_
    rintro _ _ ⟨rfl,rfl⟩
    refine⟨.pan (flt ((p+b2+k:Nat):Int) 2),[.dead,.rw [.ptr 0 0],.rw [nilS],mpS ks2 zs2,.rw [.mpt 3]],(by show zad _ _ ([0,1,1,1,1]) ([0,1,1,1,1]) 0 _;simp [LM1,zah,zad,renL,AV.ren,AEnd.ren,mbF.fren,zaa,zae,List.getElem?_cons_zero,List.getElem?_cons_succ]),(by show AEnd.ren ([0,1,1,1,1]) _ _;first | rfl | simp [LM1,zah,zad,renL,AV.ren,AEnd.ren,mbF.fren,zaa,zae,List.getElem?_cons_zero,List.getElem?_cons_succ]),?_⟩
    refine aQ54 ?_
    refine zbw (za9 _ _ _) ?_
    unfold zhx
    rw [hst]
    exact⟨by rw [Nat.add_assoc],rfl⟩
  | ok x =>
   rw [hx] at hv hg
   obtain⟨x,c2⟩:=x
   dsimp only at hv hg
   have hst:=ziB (V:=pvF n) (g:=([],tw,[])) hq hb h58 hb2 (by rw [htw3];exact hx)
   have hxl:x.1.length≤1000000000:=by rw [List.length_drop,List.length_drop] at hg;omega
   have fin:zhx s p dead5 (zcf (pvF n) ([],tw,[]) p (s.drop p)) (.ret (.tup [])) [.rw (rC s ((p+b2+c2:Nat):Int) x.2),.rw [.ptr 0 0],.rw [.ref 5 0 ([]++[(key,x.1)]:List Mem).length 2],mpS ks2 zs2,.rw [.mpt 3],.rw (([]++[(key,x.1)]:List Mem).flatMap mbC)]:=by
    unfold zhx
    rw [hst]
    refine⟨rfl,?_⟩
    dsimp only
    rw [OB,ksU_app,hks2,hzs2,Nat.add_assoc]
    try rfl
   have hl1:([]++[(key,x.1)]:List Mem).length=1:=by simp
   rw [hl1] at fin
   repeat' with_reducible refine And.intro ?_ ?_
   all_goals
    refine ACalls.frame ([0]) (hv) rfl (by decide) (by simp [LM1,zah,zad,renL,AV.ren,AEnd.ren,mbF.fren,zaa,zae,List.getElem?_cons_zero,List.getElem?_cons_succ]) (by first | rfl | simp [LM1,zah,zad,renL,AV.ren,AEnd.ren,mbF.fren,zaa,zae,List.getElem?_cons_zero,List.getElem?_cons_succ]) ?_
    rintro _ _ ⟨rfl,rfl⟩
    refine⟨.ret (slN x.1),[.rw (rC s ((p+b2+c2:Nat):Int) x.2),.rw [.ptr 0 0],.rw [nilS],mpS ks2 zs2,.rw [.mpt 3]],(by show zad _ _ ([0,1,1,1,1]) ([0,1,1,1,1]) 0 _;simp [LM1,zah,zad,renL,AV.ren,AEnd.ren,mbF.fren,zaa,zae,List.getElem?_cons_zero,List.getElem?_cons_succ]),(by show AEnd.ren ([0,1,1,1,1]) _ _;first | rfl | simp [LM1,zah,zad,renL,AV.ren,AEnd.ren,mbF.fren,zaa,zae,List.getElem?_cons_zero,List.getElem?_cons_succ]),?_⟩
    refine aQ54 ?_
    repeat' with_reducible refine And.intro ?_ ?_
   all_goals
    refine mbF.appN rfl rfl T182 T182 (zgq _) T186 rfl rfl (ys:=[(key,x.1)]) (m:=1) (by exact mbF.asrcR (l:=[(key,x.1)]) rfl) rfl (by omega) (by simp only [tyMb];omega) ?_
    refine aQ54 ?_
    refine zdM ?_
    refine aQ54 ?_
    exact zbN [0,1,2,3,4,6] (.tup []) _ rfl rfl (by decide) rfl keepOA fin
theorem loneB_ok (n:Nat) (s:List UInt8) (hs:s.length≤1000000000) (hV:ziU n s) (p:Nat) (tw:Int) (hp:p≤s.length) (hn:s.length - p≤n) (ms:List Mem) (zs:List Int) (hz:zs.length=(ksU ms).length) (hm:ms.length≤1000000000):ACalls Tryz.prog 121 [.ptr 1 0,.ptr 4 0,.ptr 2 0] (OB s p tw ms zs) (zhy s p dead6 (zcf (pvF n) (ms,tw,zs) p (s.drop p))):=by
 have h:=pkey_ok s p tw (ksU ms) zs hz hs
 unfold keyK' mS at h
 unfold OB
 refine ACalls.body T_ok Tryz.func121 (by kernel_rfl) rfl Tryz.ntmps121 (congrArg Array.toList Tryz.results121) ?_
 refine aQ54 ?_
 cases hq:quoL (s.drop p) with
 | none =>
  rw [hq] at h
  dsimp only at h
  refine ACalls.frame ([0,3]) (h) rfl (by decide) (by simp [LM1,zah,zad,renL,AV.ren,AEnd.ren,mbF.fren,zaa,zae,List.getElem?_cons_zero,List.getElem?_cons_succ]) (by first | rfl | simp [LM1,zah,zad,renL,AV.ren,AEnd.ren,mbF.fren,zaa,zae,List.getElem?_cons_zero,List.getElem?_cons_succ]) ?_
  rintro _ _ ⟨rfl,rfl⟩
  refine⟨.pan (flt p 2),[.dead,.rw [.ptr 0 0],.rw [.ref 5 0 ms.length 2],.dead,.rw [.mpt 3],.rw (ms.flatMap mbC)],(by show zad _ _ ([0,2,2,1,2,2]) ([0,2,2,1,2,2]) 0 _;simp [LM1,zah,zad,renL,AV.ren,AEnd.ren,mbF.fren,zaa,zae,List.getElem?_cons_zero,List.getElem?_cons_succ]),(by show AEnd.ren ([0,2,2,1,2,2]) _ _;first | rfl | simp [LM1,zah,zad,renL,AV.ren,AEnd.ren,mbF.fren,zaa,zae,List.getElem?_cons_zero,List.getElem?_cons_succ]),?_⟩
  refine aQ54 ?_
  refine zbw (za9 _ _ _) ?_
  unfold zhy
  rw [zh1 hq]
  exact⟨rfl,rfl⟩
 | some x =>
  obtain⟨key,c⟩:=x
  have hc:=ziw hq
  rw [List.length_drop] at hc
  dsimp only at hc
  rw [hq] at h
  dsimp only at h
  obtain⟨tw2,htw2⟩:∃ t,t=(if key∈(ksU ms)∧tw < 0 then (p:Int) else tw):=⟨_,rfl⟩
  obtain⟨ks2,hks2⟩:∃ k,k=zgs (ksU ms) key:=⟨_,rfl⟩
  obtain⟨zs2,hzs2⟩:∃ z,z=zhk (ksU ms) zs key p:=⟨_,rfl⟩
  rw [← htw2,← hks2,← hzs2] at h
  refine ACalls.frame ([0,3]) (h) rfl (by decide) (by simp [LM1,zah,zad,renL,AV.ren,AEnd.ren,mbF.fren,zaa,zae,List.getElem?_cons_zero,List.getElem?_cons_succ]) (by first | rfl | simp [LM1,zah,zad,renL,AV.ren,AEnd.ren,mbF.fren,zaa,zae,List.getElem?_cons_zero,List.getElem?_cons_succ]) ?_
  rintro _ _ ⟨rfl,rfl⟩
  refine⟨.ret (str key),[.rw (rC s ((p+c:Nat):Int) tw2),.rw [.ptr 0 0],.rw [.ref 5 0 ms.length 2],mpS ks2 zs2,.rw [.mpt 3],.rw (ms.flatMap mbC)],(by show zad _ _ ([0,2,2,1,2,2]) ([0,2,2,1,2,2]) 0 _;simp [LM1,zah,zad,renL,AV.ren,AEnd.ren,mbF.fren,zaa,zae,List.getElem?_cons_zero,List.getElem?_cons_succ]),(by show AEnd.ren ([0,2,2,1,2,2]) _ _;first | rfl | simp [LM1,zah,zad,renL,AV.ren,AEnd.ren,mbF.fren,zaa,zae,List.getElem?_cons_zero,List.getElem?_cons_succ]),?_⟩
  refine aQ54 ?_
  obtain⟨b,hb⟩:∃ b,b=c+zax ((s.drop p).drop c):=⟨_,rfl⟩
  have hb':=hb
  rw [List.drop_drop] at hb'
  have hbl:=zbd (s.drop (p+c))
  rw [List.length_drop] at hbl
  have hsk:=zcr s (p+c) tw2 (by omega) hs
  rw [show p+c+zax (s.drop (p+c))=p+b by omega] at hsk
  unfold rS at hsk
  refine ACalls.frame ([0]) (hsk) rfl (by decide) (by simp [LM1,zah,zad,renL,AV.ren,AEnd.ren,mbF.fren,zaa,zae,List.getElem?_cons_zero,List.getElem?_cons_succ]) (by first | rfl | simp [LM1,zah,zad,renL,AV.ren,AEnd.ren,mbF.fren,zaa,zae,List.getElem?_cons_zero,List.getElem?_cons_succ]) ?_
  rintro _ _ ⟨rfl,rfl⟩
  refine⟨.ret (.tup []),[.rw (rC s ((p+b:Nat):Int) tw2),.rw [.ptr 0 0],.rw [.ref 5 0 ms.length 2],mpS ks2 zs2,.rw [.mpt 3],.rw (ms.flatMap mbC)],(by show zad _ _ ([0,1,1,1,1,1]) ([0,1,1,1,1,1]) 0 _;simp [LM1,zah,zad,renL,AV.ren,AEnd.ren,mbF.fren,zaa,zae,List.getElem?_cons_zero,List.getElem?_cons_succ]),(by show AEnd.ren ([0,1,1,1,1,1]) _ _;first | rfl | simp [LM1,zah,zad,renL,AV.ren,AEnd.ren,mbF.fren,zaa,zae,List.getElem?_cons_zero,List.getElem?_cons_succ]),?_⟩
  refine aQ54 ?_
  have hwt:=zhm s (p+b) tw2 58 (by omega) hs
  unfold ziS rS at hwt
  have hisAt:isAt s (p+b) 58=decide (((s.drop p).drop b).head?=some 58):=by rw [List.drop_drop];rfl
  by_cases h58:((s.drop p).drop b).head?=some 58
  rotate_left
  ·rw [hisAt,decide_eq_false h58] at hwt
   dsimp only at hwt
   refine ACalls.frame ([0]) (hwt) rfl (by decide) (by simp [LM1,zah,zad,renL,AV.ren,AEnd.ren,mbF.fren,zaa,zae,List.getElem?_cons_zero,List.getElem?_cons_succ]) (by first | rfl | simp [LM1,zah,zad,renL,AV.ren,AEnd.ren,mbF.fren,zaa,zae,List.getElem?_cons_zero,List.getElem?_cons_succ]) ?_
   rintro _ _ ⟨rfl,rfl⟩
   refine⟨.pan (flt ((p+b:Nat):Int) 2),[.dead,.rw [.ptr 0 0],.rw [.ref 5 0 ms.length 2],mpS ks2 zs2,.rw [.mpt 3],.rw (ms.flatMap mbC)],(by show zad _ _ ([0,1,1,1,1,1]) ([0,1,1,1,1,1]) 0 _;simp [LM1,zah,zad,renL,AV.ren,AEnd.ren,mbF.fren,zaa,zae,List.getElem?_cons_zero,List.getElem?_cons_succ]),(by show AEnd.ren ([0,1,1,1,1,1]) _ _;first | rfl | simp [LM1,zah,zad,renL,AV.ren,AEnd.ren,mbF.fren,zaa,zae,List.getElem?_cons_zero,List.getElem?_cons_succ]),?_⟩
   refine aQ54 ?_
   refine zbw (za9 _ _ _) ?_
   unfold zhy
   rw [zh2 hq hb h58]
   exact⟨rfl,rfl⟩
  rw [hisAt,decide_eq_true h58] at hwt
  dsimp only at hwt
  have hql:p+b < s.length:=by
   rcases Nat.lt_or_ge (p+b) s.length with h | h
   ·exact h
   ·rw [List.drop_drop,zbW h] at h58;cases h58
  refine ACalls.frame ([0]) (hwt) rfl (by decide) (by simp [LM1,zah,zad,renL,AV.ren,AEnd.ren,mbF.fren,zaa,zae,List.getElem?_cons_zero,List.getElem?_cons_succ]) (by first | rfl | simp [LM1,zah,zad,renL,AV.ren,AEnd.ren,mbF.fren,zaa,zae,List.getElem?_cons_zero,List.getElem?_cons_succ]) ?_
  rintro _ _ ⟨rfl,rfl⟩
  refine⟨.ret (.tup []),[.rw (rC s ((p+b+1:Nat):Int) tw2),.rw [.ptr 0 0],.rw [.ref 5 0 ms.length 2],mpS ks2 zs2,.rw [.mpt 3],.rw (ms.flatMap mbC)],(by show zad _ _ ([0,1,1,1,1,1]) ([0,1,1,1,1,1]) 0 _;simp [LM1,zah,zad,renL,AV.ren,AEnd.ren,mbF.fren,zaa,zae,List.getElem?_cons_zero,List.getElem?_cons_succ]),(by show AEnd.ren ([0,1,1,1,1,1]) _ _;first | rfl | simp [LM1,zah,zad,renL,AV.ren,AEnd.ren,mbF.fren,zaa,zae,List.getElem?_cons_zero,List.getElem?_cons_succ]),?_⟩
  refine aQ54 ?_
  obtain⟨b2,hb2⟩:∃ b2,b2=b+1+zax ((s.drop p).drop (b+1)):=⟨_,rfl⟩
  have hb2':=hb2
  rw [List.drop_drop] at hb2'
  have hbl2:=zbd (s.drop (p+b+1))
  rw [List.length_drop] at hbl2
  have hsk2:=zcr s (p+b+1) tw2 (by omega) hs
  rw [show p+b+1+zax (s.drop (p+b+1))=p+b2 by rw [hb2',Nat.add_assoc p b 1];omega] at hsk2
  have hbl3:p+b2≤s.length:=by rw [hb2',← Nat.add_assoc p b 1];omega
  unfold rS at hsk2
  refine ACalls.frame ([0]) (hsk2) rfl (by decide) (by simp [LM1,zah,zad,renL,AV.ren,AEnd.ren,mbF.fren,zaa,zae,List.getElem?_cons_zero,List.getElem?_cons_succ]) (by first | rfl | simp [LM1,zah,zad,renL,AV.ren,AEnd.ren,mbF.fren,zaa,zae,List.getElem?_cons_zero,List.getElem?_cons_succ]) ?_
  rintro _ _ ⟨rfl,rfl⟩
  refine⟨.ret (.tup []),[.rw (rC s ((p+b2:Nat):Int) tw2),.rw [.ptr 0 0],.rw [.ref 5 0 ms.length 2],mpS ks2 zs2,.rw [.mpt 3],.rw (ms.flatMap mbC)],(by show zad _ _ ([0,1,1,1,1,1]) ([0,1,1,1,1,1]) 0 _;simp [LM1,zah,zad,renL,AV.ren,AEnd.ren,mbF.fren,zaa,zae,List.getElem?_cons_zero,List.getElem?_cons_succ]),(by show AEnd.ren ([0,1,1,1,1,1]) _ _;first | rfl | simp [LM1,zah,zad,renL,AV.ren,AEnd.ren,mbF.fren,zaa,zae,List.getElem?_cons_zero,List.getElem?_cons_succ]),?_⟩
  refine aQ54 ?_
  have hv:=hV (p+b2) tw2 hbl3 (by omega)
  have hdd:s.drop (p+b2)=(s.drop p).drop b2:=by rw [List.drop_drop]
  rw [hdd] at hv
  have hg:=zca n tw2 (p+b2) ((s.drop p).drop b2)
  unfold outV rS at hv
  have htw3:twK ((ms,tw,zs):GO).1 ((ms,tw,zs):GO).2.1 p key=tw2:=htw2.symm
  refine zg7 loneOT (by kernel_rfl) (by kernel_rfl) ?_
  unfold loneOT
  refine aQ54 ?_
  cases hx:pvF n tw2 (p+b2) ((s.drop p).drop b2) with
  | error k =>
   rw [hx] at hv
   dsimp only at hv
   have hst:=stepO_bad (V:=pvF n) (g:=(ms,tw,zs)) hq hb h58 hb2 (by rw [htw3];exact hx)
   repeat' with_reducible refine And.intro ?_ ?_
   all_goals
    refine ACalls.frame ([0]) (hv) rfl (by decide) (by simp [LM1,zah,zad,renL,AV.ren,AEnd.ren,mbF.fren,zaa,zae,List.getElem?_cons_zero,List.getElem?_cons_succ]) (by first | rfl | simp [LM1,zah,zad,renL,AV.ren,AEnd.ren,mbF.fren,zaa,zae,List.getElem?_cons_zero,List.getElem?_cons_succ]) ?_
    rintro _ _ ⟨rfl,rfl⟩
    refine⟨.pan (flt ((p+b2+k:Nat):Int) 2),[.dead,.rw [.ptr 0 0],.rw [.ref 5 0 ms.length 2],mpS ks2 zs2,.rw [.mpt 3],.rw (ms.flatMap mbC)],(by show zad _ _ ([0,1,1,1,1,1]) ([0,1,1,1,1,1]) 0 _;simp [LM1,zah,zad,renL,AV.ren,AEnd.ren,mbF.fren,zaa,zae,List.getElem?_cons_zero,List.getElem?_cons_succ]),(by show AEnd.ren ([0,1,1,1,1,1]) _ _;first | rfl | simp [LM1,zah,zad,renL,AV.ren,AEnd.ren,mbF.fren,zaa,zae,List.getElem?_cons_zero,List.getElem?_cons_succ]),?_⟩
    refine aQ54 ?_
    refine zbw (za9 _ _ _) ?_
    unfold zhy
    rw [hst]
    exact⟨by rw [Nat.add_assoc],rfl⟩
  | ok x =>
   rw [hx] at hv hg
   obtain⟨x,c2⟩:=x
   dsimp only at hv hg
   have hst:=ziB (V:=pvF n) (g:=(ms,tw,zs)) hq hb h58 hb2 (by rw [htw3];exact hx)
   have hxl:x.1.length≤1000000000:=by rw [List.length_drop,List.length_drop] at hg;omega
   have fin:zhy s p dead6 (zcf (pvF n) (ms,tw,zs) p (s.drop p)) (.ret (.tup [])) [.rw (rC s ((p+b2+c2:Nat):Int) x.2),.rw [.ptr 0 0],.rw [.ref 6 0 (ms++[(key,x.1)]:List Mem).length 2],mpS ks2 zs2,.rw [.mpt 3],.dead,.rw ((ms++[(key,x.1)]:List Mem).flatMap mbC)]:=by
    unfold zhy
    rw [hst]
    refine⟨rfl,?_⟩
    dsimp only
    rw [OC,ksU_app,hks2,hzs2,Nat.add_assoc]
    try rfl
   have hl1:(ms++[(key,x.1)]:List Mem).length=ms.length+1:=by simp
   rw [hl1] at fin
   repeat' with_reducible refine And.intro ?_ ?_
   all_goals
    refine ACalls.frame ([0]) (hv) rfl (by decide) (by simp [LM1,zah,zad,renL,AV.ren,AEnd.ren,mbF.fren,zaa,zae,List.getElem?_cons_zero,List.getElem?_cons_succ]) (by first | rfl | simp [LM1,zah,zad,renL,AV.ren,AEnd.ren,mbF.fren,zaa,zae,List.getElem?_cons_zero,List.getElem?_cons_succ]) ?_
    rintro _ _ ⟨rfl,rfl⟩
    refine⟨.ret (slN x.1),[.rw (rC s ((p+b2+c2:Nat):Int) x.2),.rw [.ptr 0 0],.rw [.ref 5 0 ms.length 2],mpS ks2 zs2,.rw [.mpt 3],.rw (ms.flatMap mbC)],(by show zad _ _ ([0,1,1,1,1,1]) ([0,1,1,1,1,1]) 0 _;simp [LM1,zah,zad,renL,AV.ren,AEnd.ren,mbF.fren,zaa,zae,List.getElem?_cons_zero,List.getElem?_cons_succ]),(by show AEnd.ren ([0,1,1,1,1,1]) _ _;first | rfl | simp [LM1,zah,zad,renL,AV.ren,AEnd.ren,mbF.fren,zaa,zae,List.getElem?_cons_zero,List.getElem?_cons_succ]),?_⟩
    refine aQ54 ?_
    repeat' with_reducible refine And.intro ?_ ?_
   all_goals
    refine mbF.app rfl rfl T182 T182 (zgq _) T186 rfl rfl (l:=ms) (ys:=[(key,x.1)]) rfl (m:=1) (by exact mbF.asrcR (l:=[(key,x.1)]) rfl) rfl (by omega) (by simp only [tyMb];omega) ?_
    refine aQ54 ?_
    refine zdM ?_
    refine aQ54 ?_
    exact zbN [0,1,2,3,4,5,7] (.tup []) _ rfl rfl (by decide) rfl keepOB fin
end Go.Proofs.YtnghkomgefieoaaGreatDoor
end

section
namespace Go.Proofs.YtnghkomgefieoaaGreatDoor
open Go Go.Eng
set_option linter.defProp false in
def LB19:=And.intro @bd_mb (And.intro @bs_mb (@ld_mp1))
set_option linter.defProp false in
def LM7:=And.intro LM0 (And.intro LB18 (LB19))
theorem stepO_zs {V:PV} {g g':GO} {p c:Nat} {l:List UInt8} (h:zcf V g p l=.ok (g',c)) (hz:g.2.2.length=(ksU g.1).length):g'.2.2.length=(ksU g'.1).length:=by
 rw [zcf] at h
 split at h
 ·cases h
 ·rename_i key c0 _
  dsimp only at h
  split at h
  ·split at h
   ·cases h
   ·injection h with h
    injection h with h1 h2
    subst h1
    dsimp only
    rw [ksU_app,zhk,zgs]
    dsimp only
    by_cases hm:key∈ksU g.1
    ·rw [if_pos hm,if_pos hm,List.length_set]
     exact hz
    ·rw [if_neg hm,if_neg hm]
     simp [hz]
  ·cases h
def OS (s:List UInt8) (p:Nat) (g:GO):zab:=if g.1.length=0 then OA s p g.2.1 else OB s p g.2.1 g.1 g.2.2
def ziV (s:List UInt8) (p:Nat) (x:Except Nat (GO × Nat)):AEnd→zab→Prop:=fun y σ=>match x with
 | .ok x=>y=.ret (.tup [])∧σ=OS s (p+x.2) x.1
 | .error k=>y=.pan (flt ((p+k:Nat):Int) 2)∧σ=dead5
theorem orows_ok (n:Nat) (s:List UInt8) (hs:s.length≤100000000) (hV:ziU n s) (p:Nat) (tw:Int) (hp:p < s.length) (hn:s.length - p≤n):ACalls Tryz.prog 119 [.ptr 0 0,u8 125,.fn (.func 121) [] [.ptr 1 0,.ptr 4 0,.ptr 2 0]] (OA s p tw) (ziV s (p+inW (s.drop p)) (zbl 125 (zcf (pvF n)) ((s.drop p).length+1) true ([],tw,[]) (p+inW (s.drop p)) (s.drop (p+inW (s.drop p))))):=by
 have hin:inW (s.drop p)=1+zax (s.drop (p+1)):=by rw [inW,List.drop_drop]
 have hb:=zbd (s.drop (p+1))
 rw [List.length_drop] at hb
 have hsk:=zcr s (p+1) tw (by omega) (by omega)
 rw [show p+1+zax (s.drop (p+1))=p+inW (s.drop p) by omega] at hsk
 unfold rS at hsk
 obtain⟨p',hp'⟩:∃ p',p'=p+inW (s.drop p):=⟨_,rfl⟩
 rw [← hp'] at hsk ⊢
 unfold OA
 refine ACalls.body T_ok Tryz.func119 (by kernel_rfl) rfl Tryz.ntmps119 (congrArg Array.toList Tryz.results119) ?_
 refine aQ55 ?_
 refine⟨by unfold inI;omega,?_⟩
 refine ACalls.frame ([0]) (hsk) rfl (by decide) (by simp [LM1,zah,zad,renL,AV.ren,AEnd.ren,zac,mbF.fren,zaa,zae,List.getElem?_cons_zero,List.getElem?_cons_succ]) (by first | rfl | simp [LM1,zah,zad,renL,AV.ren,AEnd.ren,zac,mbF.fren,zaa,zae,List.getElem?_cons_zero,List.getElem?_cons_succ]) ?_
 rintro _ _ ⟨rfl,rfl⟩
 refine⟨.ret (.tup []),[.rw (rC s p' tw),.rw [.ptr 0 0],.rw [nilS],mpS [] [],.rw [.mpt 3]],(by show zad _ _ ([0,1,1,1,1]) ([0,1,1,1,1]) 0 _;simp [LM1,zah,zad,renL,AV.ren,AEnd.ren,zac,mbF.fren,zaa,zae,List.getElem?_cons_zero,List.getElem?_cons_succ]),(by show AEnd.ren ([0,1,1,1,1]) _ _;first | rfl | simp [LM1,zah,zad,renL,AV.ren,AEnd.ren,zac,mbF.fren,zaa,zae,List.getElem?_cons_zero,List.getElem?_cons_succ]),?_⟩
 refine aQ55 ?_
 rw [za6]
 refine⟨Nat × Bool × GO × Nat,fun x=>p'≤x.2.2.2∧x.2.2.2≤s.length∧s.length - x.2.2.2 < x.1∧(x.2.1=true→x.2.2.1.1=[]∧x.2.2.1.2.2=[])∧x.2.2.1.1.length≤x.2.2.2∧(x.2.1=decide (x.2.2.1.1.length=0))∧x.2.2.1.2.2.length=(ksU x.2.2.1.1).length∧zbl 125 (zcf (pvF n)) ((s.drop p).length+1) true ([],tw,[]) p' (s.drop p')=shE (x.2.2.2 - p') (zbl 125 (zcf (pvF n)) x.1 x.2.1 x.2.2.1 x.2.2.2 (s.drop x.2.2.2)),fun x=>[.ptr 0 0,u8 125,.fn (.func 121) [] [.ptr 1 0,.ptr 4 0,.ptr 2 0],.bot,.bot,.bot,bl x.2.1,.bot,.bot,.bot,.bot,.bot,.bot,.bot,.bot,.bot,.bot,.bot,.bot,.bot,.bot,.bot,.bot,.bot,.bot,.bot,.bot,.bot,.bot,.bot,.bot,.bot,.bot,.bot,.bot,.bot,.bot],fun x=>if x.2.1 then OA s (x.2.2.2:Int) x.2.2.1.2.1 else OB s (x.2.2.2:Int) x.2.2.1.2.1 x.2.2.1.1 x.2.2.1.2.2,fun x=>x.1,((s.drop p).length+1,true,([],tw,[]),p'),⟨Nat.le_refl _,by dsimp only;omega,by dsimp only;rw [List.length_drop];omega,fun _=>⟨rfl,rfl⟩,Nat.zero_le _,rfl,rfl,by simp only [Nat.sub_self,shE_0]⟩,zak (q:=[0,1,2,3,4]) rfl rfl (by decide) ?_ ?_,?_⟩
 ·refine aQ27 ?_
  rfl
 ·simp only [if_true,OA]
  simp [zah,zaL,mbF.fren,zbq,zgd,zac,renL,AV.ren]
 ·rintro⟨i,first,⟨ms,tw',zs⟩,q⟩ ⟨i1,i2,i3,i4,i5,i7,i8,i6⟩
  dsimp only at i1 i2 i3 i4 i5 i7 i8 i6 ⊢
  obtain⟨i,rfl⟩:∃ j,i=j+1:=⟨i - 1,by omega⟩
  have his:=is_ok s q tw' 125 i2
  unfold rS at his
  have hisAt:isAt s q 125=decide ((s.drop q).head?=some 125):=rfl
  have hq0:1≤p':=by omega
  cases first with
  | true =>
   obtain⟨rfl,rfl⟩:=i4 rfl
   rw [if_pos rfl]
   unfold OA
   refine aQ55 ?_
   by_cases h93:(s.drop q).head?=some 125
   ·rw [hisAt,decide_eq_true h93] at his
    refine ACalls.frame ([0]) (his) rfl (by decide) (by simp [LM1,zah,zad,renL,AV.ren,AEnd.ren,zac,mbF.fren,zaa,zae,List.getElem?_cons_zero,List.getElem?_cons_succ]) (by first | rfl | simp [LM1,zah,zad,renL,AV.ren,AEnd.ren,zac,mbF.fren,zaa,zae,List.getElem?_cons_zero,List.getElem?_cons_succ]) ?_
    rintro _ _ ⟨rfl,rfl⟩
    refine⟨.ret (bl true),[.rw (rC s q tw'),.rw [.ptr 0 0],.rw [nilS],mpS [] [],.rw [.mpt 3]],(by show zad _ _ ([0,1,1,1,1]) ([0,1,1,1,1]) 0 _;simp [LM1,zah,zad,renL,AV.ren,AEnd.ren,zac,mbF.fren,zaa,zae,List.getElem?_cons_zero,List.getElem?_cons_succ]),(by show AEnd.ren ([0,1,1,1,1]) _ _;first | rfl | simp [LM1,zah,zad,renL,AV.ren,AEnd.ren,zac,mbF.fren,zaa,zae,List.getElem?_cons_zero,List.getElem?_cons_succ]),?_⟩
    refine aQ55 ?_
    refine⟨by unfold inI;omega,zau ?_⟩
    unfold ziV
    rw [i6,zfH h93]
    refine⟨rfl,?_⟩
    simp only [shE,OS]
    rw [if_pos (of_decide_eq_true i7.symm)]
    rw [OA,show p'+(q - p'+1)=q+1 by omega]
    rfl
   rw [hisAt,decide_eq_false h93] at his
   refine ACalls.frame ([0]) (his) rfl (by decide) (by simp [LM1,zah,zad,renL,AV.ren,AEnd.ren,zac,mbF.fren,zaa,zae,List.getElem?_cons_zero,List.getElem?_cons_succ]) (by first | rfl | simp [LM1,zah,zad,renL,AV.ren,AEnd.ren,zac,mbF.fren,zaa,zae,List.getElem?_cons_zero,List.getElem?_cons_succ]) ?_
   rintro _ _ ⟨rfl,rfl⟩
   refine⟨.ret (bl false),[.rw (rC s q tw'),.rw [.ptr 0 0],.rw [nilS],mpS [] [],.rw [.mpt 3]],(by show zad _ _ ([0,1,1,1,1]) ([0,1,1,1,1]) 0 _;simp [LM1,zah,zad,renL,AV.ren,AEnd.ren,zac,mbF.fren,zaa,zae,List.getElem?_cons_zero,List.getElem?_cons_succ]),(by show AEnd.ren ([0,1,1,1,1]) _ _;first | rfl | simp [LM1,zah,zad,renL,AV.ren,AEnd.ren,zac,mbF.fren,zaa,zae,List.getElem?_cons_zero,List.getElem?_cons_succ]),?_⟩
   refine aQ55 ?_
   obtain⟨r,hr⟩:∃ r,r=q+0:=⟨_,rfl⟩
   have hrl:r≤s.length:=by omega
   obtain rfl:r=q:=by omega
   have hl:=loneA_ok n s (by omega) hV r tw' hrl (by omega)
   have hg:=zdL (zca n) ([],tw',[]) r (s.drop r)
   unfold zhx OA dead5 at hl
   have hdr:(s.drop r).drop 0=s.drop r:=rfl
   cases hx:zcf (pvF n) ([],tw',[]) r (s.drop r) with
   | error k =>
    rw [hx] at hl
    refine ACalls.frame ([0,1,2,3,4]) (hl) rfl (by decide) (by simp [LM1,zah,zad,renL,AV.ren,AEnd.ren,zac,mbF.fren,zaa,zae,List.getElem?_cons_zero,List.getElem?_cons_succ]) (by first | rfl | simp [LM1,zah,zad,renL,AV.ren,AEnd.ren,zac,mbF.fren,zaa,zae,List.getElem?_cons_zero,List.getElem?_cons_succ]) ?_
    rintro _ _ ⟨rfl,rfl⟩
    refine⟨.pan (flt ((r+k:Nat):Int) 2),[.dead,.dead,.dead,.dead,.dead],(by show zad _ _ ([0,1,2,3,4]) ([0,1,2,3,4]) 0 _;simp [LM1,zah,zad,renL,AV.ren,AEnd.ren,zac,mbF.fren,zaa,zae,List.getElem?_cons_zero,List.getElem?_cons_succ]),(by show AEnd.ren ([0,1,2,3,4]) _ _;first | rfl | simp [LM1,zah,zad,renL,AV.ren,AEnd.ren,zac,mbF.fren,zaa,zae,List.getElem?_cons_zero,List.getElem?_cons_succ]),?_⟩
    refine aQ55 ?_
    refine zbw (za9 _ _ _) ?_
    unfold ziV
    rw [i6,zfG (w:=0) (k:=k) h93 rfl rfl (by rw [hdr];exact hx)]
    refine⟨?_,rfl⟩
    rw [show p'+(r - p'+(0+k))=r+k by omega]
   | ok x =>
    rw [hx] at hl hg
    obtain⟨⟨ms2,tw2,zs2⟩,c⟩:=x
    have hz2:=stepO_zs hx rfl
    simp only [zgv,List.length_drop] at hg
    dsimp only [OB,OC] at hl hz2
    refine ACalls.frame ([0,1,2,3,4]) (hl) rfl (by decide) (by simp [LM1,zah,zad,renL,AV.ren,AEnd.ren,zac,mbF.fren,zaa,zae,List.getElem?_cons_zero,List.getElem?_cons_succ]) (by first | rfl | simp [LM1,zah,zad,renL,AV.ren,AEnd.ren,zac,mbF.fren,zaa,zae,List.getElem?_cons_zero,List.getElem?_cons_succ]) ?_
    rintro _ _ ⟨rfl,rfl⟩
    refine⟨.ret (.tup []),[.rw (rC s ((r+c:Nat):Int) tw2),.rw [.ptr 0 0],.rw [.ref 5 0 ms2.length 2],mpS (ksU ms2) zs2,.rw [.mpt 3],.rw (ms2.flatMap mbC)],(by show zad _ _ ([0,1,2,3,4,5]) ([0,1,2,3,4,5]) 0 _;simp [LM1,zah,zad,renL,AV.ren,AEnd.ren,zac,mbF.fren,zaa,zae,List.getElem?_cons_zero,List.getElem?_cons_succ]),(by show AEnd.ren ([0,1,2,3,4,5]) _ _;first | rfl | simp [LM1,zah,zad,renL,AV.ren,AEnd.ren,zac,mbF.fren,zaa,zae,List.getElem?_cons_zero,List.getElem?_cons_succ]),?_⟩
    refine aQ55 ?_
    have hsk3:=zcr s (r+c) tw2 (by omega) (by omega)
    have hb3:=zbd (s.drop (r+c))
    rw [List.length_drop] at hb3
    unfold rS at hsk3
    refine ACalls.frame ([0]) (hsk3) rfl (by decide) (by simp [LM1,zah,zad,renL,AV.ren,AEnd.ren,zac,mbF.fren,zaa,zae,List.getElem?_cons_zero,List.getElem?_cons_succ]) (by first | rfl | simp [LM1,zah,zad,renL,AV.ren,AEnd.ren,zac,mbF.fren,zaa,zae,List.getElem?_cons_zero,List.getElem?_cons_succ]) ?_
    rintro _ _ ⟨rfl,rfl⟩
    refine⟨.ret (.tup []),[.rw (rC s ((r+c+zax (s.drop (r+c)):Nat):Int) tw2),.rw [.ptr 0 0],.rw [.ref 5 0 ms2.length 2],mpS (ksU ms2) zs2,.rw [.mpt 3],.rw (ms2.flatMap mbC)],(by show zad _ _ ([0,1,1,1,1,1]) ([0,1,1,1,1,1]) 0 _;simp [LM1,zah,zad,renL,AV.ren,AEnd.ren,zac,mbF.fren,zaa,zae,List.getElem?_cons_zero,List.getElem?_cons_succ]),(by show AEnd.ren ([0,1,1,1,1,1]) _ _;first | rfl | simp [LM1,zah,zad,renL,AV.ren,AEnd.ren,zac,mbF.fren,zaa,zae,List.getElem?_cons_zero,List.getElem?_cons_succ]),?_⟩
    refine aQ55 ?_
    rw [zam]
    refine⟨(i,false,(ms2,tw2,zs2),r+c+zax (s.drop (r+c))),⟨by dsimp only;omega,by dsimp only;omega,by dsimp only;omega,(by intro h;dsimp only at h;cases h),by dsimp only at hg ⊢;omega,(decide_eq_false (by dsimp only at hg ⊢;omega)).symm,hz2,?_⟩,(by show i < i+1;omega),?_⟩
    ·rw [i6,zd6 (w:=0) (c:=c) (g':=(ms2,tw2,zs2)) h93 rfl rfl (by rw [hdr];exact hx),ziy]
     rw [List.drop_drop,Nat.zero_add,List.drop_drop,show r+(c+zax (s.drop (r+c)))=r+c+zax (s.drop (r+c)) by omega,show r - p'+(c+zax (s.drop (r+c)))=r+c+zax (s.drop (r+c)) - p' by omega]
    ·dsimp only
     rw [if_neg (by decide)]
     try unfold OB
     refine zak (q:=[0,1,2,3,4,5]) rfl rfl (by decide) ?_ ?_
     ·refine aQ27 ?_
      try rfl
     ·simp [zah,zaL,mbF.fren,zbq,zgd,zac,renL,AV.ren]
  | false =>
   rw [if_neg (by decide)]
   unfold OB
   refine aQ55 ?_
   by_cases h93:(s.drop q).head?=some 125
   ·rw [hisAt,decide_eq_true h93] at his
    refine ACalls.frame ([0]) (his) rfl (by decide) (by simp [LM1,zah,zad,renL,AV.ren,AEnd.ren,zac,mbF.fren,zaa,zae,List.getElem?_cons_zero,List.getElem?_cons_succ]) (by first | rfl | simp [LM1,zah,zad,renL,AV.ren,AEnd.ren,zac,mbF.fren,zaa,zae,List.getElem?_cons_zero,List.getElem?_cons_succ]) ?_
    rintro _ _ ⟨rfl,rfl⟩
    refine⟨.ret (bl true),[.rw (rC s q tw'),.rw [.ptr 0 0],.rw [.ref 5 0 ms.length 2],mpS (ksU ms) zs,.rw [.mpt 3],.rw (ms.flatMap mbC)],(by show zad _ _ ([0,1,1,1,1,1]) ([0,1,1,1,1,1]) 0 _;simp [LM1,zah,zad,renL,AV.ren,AEnd.ren,zac,mbF.fren,zaa,zae,List.getElem?_cons_zero,List.getElem?_cons_succ]),(by show AEnd.ren ([0,1,1,1,1,1]) _ _;first | rfl | simp [LM1,zah,zad,renL,AV.ren,AEnd.ren,zac,mbF.fren,zaa,zae,List.getElem?_cons_zero,List.getElem?_cons_succ]),?_⟩
    refine aQ55 ?_
    refine⟨by unfold inI;omega,zau ?_⟩
    unfold ziV
    rw [i6,zfH h93]
    refine⟨rfl,?_⟩
    simp only [shE,OS]
    rw [if_neg (of_decide_eq_false i7.symm)]
    rw [OB,show p'+(q - p'+1)=q+1 by omega]
    rfl
   rw [hisAt,decide_eq_false h93] at his
   refine ACalls.frame ([0]) (his) rfl (by decide) (by simp [LM1,zah,zad,renL,AV.ren,AEnd.ren,zac,mbF.fren,zaa,zae,List.getElem?_cons_zero,List.getElem?_cons_succ]) (by first | rfl | simp [LM1,zah,zad,renL,AV.ren,AEnd.ren,zac,mbF.fren,zaa,zae,List.getElem?_cons_zero,List.getElem?_cons_succ]) ?_
   rintro _ _ ⟨rfl,rfl⟩
   refine⟨.ret (bl false),[.rw (rC s q tw'),.rw [.ptr 0 0],.rw [.ref 5 0 ms.length 2],mpS (ksU ms) zs,.rw [.mpt 3],.rw (ms.flatMap mbC)],(by show zad _ _ ([0,1,1,1,1,1]) ([0,1,1,1,1,1]) 0 _;simp [LM1,zah,zad,renL,AV.ren,AEnd.ren,zac,mbF.fren,zaa,zae,List.getElem?_cons_zero,List.getElem?_cons_succ]),(by show AEnd.ren ([0,1,1,1,1,1]) _ _;first | rfl | simp [LM1,zah,zad,renL,AV.ren,AEnd.ren,zac,mbF.fren,zaa,zae,List.getElem?_cons_zero,List.getElem?_cons_succ]),?_⟩
   refine aQ55 ?_
   have hwt:=zhm s q tw' 44 i2 (by omega)
   unfold ziS at hwt
   unfold rS at hwt
   have hisAt2:isAt s q 44=decide ((s.drop q).head?=some 44):=rfl
   by_cases h44:(s.drop q).head?=some 44
   rotate_left
   ·rw [hisAt2,decide_eq_false h44] at hwt
    refine ACalls.frame ([0]) (hwt) rfl (by decide) (by simp [LM1,zah,zad,renL,AV.ren,AEnd.ren,zac,mbF.fren,zaa,zae,List.getElem?_cons_zero,List.getElem?_cons_succ]) (by first | rfl | simp [LM1,zah,zad,renL,AV.ren,AEnd.ren,zac,mbF.fren,zaa,zae,List.getElem?_cons_zero,List.getElem?_cons_succ]) ?_
    rintro _ _ ⟨rfl,rfl⟩
    refine⟨.pan (flt q 2),[.dead,.rw [.ptr 0 0],.rw [.ref 5 0 ms.length 2],mpS (ksU ms) zs,.rw [.mpt 3],.rw (ms.flatMap mbC)],(by show zad _ _ ([0,1,1,1,1,1]) ([0,1,1,1,1,1]) 0 _;simp [LM1,zah,zad,renL,AV.ren,AEnd.ren,zac,mbF.fren,zaa,zae,List.getElem?_cons_zero,List.getElem?_cons_succ]),(by show AEnd.ren ([0,1,1,1,1,1]) _ _;first | rfl | simp [LM1,zah,zad,renL,AV.ren,AEnd.ren,zac,mbF.fren,zaa,zae,List.getElem?_cons_zero,List.getElem?_cons_succ]),?_⟩
    refine aQ55 ?_
    refine zbw (za9 _ _ _) ?_
    unfold ziV
    rw [i6,rowsG_no h93 h44]
    refine⟨?_,rfl⟩
    rw [show p'+(q - p'+0)=q by omega]
   have hql:q < s.length:=by
    rcases Nat.lt_or_ge q s.length with h | h
    ·exact h
    ·rw [zbW h] at h44;cases h44
   rw [hisAt2,decide_eq_true h44] at hwt
   refine ACalls.frame ([0]) (hwt) rfl (by decide) (by simp [LM1,zah,zad,renL,AV.ren,AEnd.ren,zac,mbF.fren,zaa,zae,List.getElem?_cons_zero,List.getElem?_cons_succ]) (by first | rfl | simp [LM1,zah,zad,renL,AV.ren,AEnd.ren,zac,mbF.fren,zaa,zae,List.getElem?_cons_zero,List.getElem?_cons_succ]) ?_
   rintro _ _ ⟨rfl,rfl⟩
   refine⟨.ret (.tup []),[.rw (rC s ((q+1:Nat):Int) tw'),.rw [.ptr 0 0],.rw [.ref 5 0 ms.length 2],mpS (ksU ms) zs,.rw [.mpt 3],.rw (ms.flatMap mbC)],(by show zad _ _ ([0,1,1,1,1,1]) ([0,1,1,1,1,1]) 0 _;simp [LM1,zah,zad,renL,AV.ren,AEnd.ren,zac,mbF.fren,zaa,zae,List.getElem?_cons_zero,List.getElem?_cons_succ]),(by show AEnd.ren ([0,1,1,1,1,1]) _ _;first | rfl | simp [LM1,zah,zad,renL,AV.ren,AEnd.ren,zac,mbF.fren,zaa,zae,List.getElem?_cons_zero,List.getElem?_cons_succ]),?_⟩
   refine aQ55 ?_
   have hsk2:=zcr s (q+1) tw' (by omega) (by omega)
   have hb2:=zbd (s.drop (q+1))
   rw [List.length_drop] at hb2
   have hwe:1+zax ((s.drop q).drop 1)=1+zax (s.drop (q+1)):=by rw [List.drop_drop]
   obtain⟨w,hw⟩:∃ w,w=1+zax (s.drop (q+1)):=⟨_,rfl⟩
   obtain⟨r,hr⟩:∃ r,r=q+w:=⟨_,rfl⟩
   have hrl:r≤s.length:=by omega
   rw [show q+1+zax (s.drop (q+1))=r by omega] at hsk2
   unfold rS at hsk2
   refine ACalls.frame ([0]) (hsk2) rfl (by decide) (by simp [LM1,zah,zad,renL,AV.ren,AEnd.ren,zac,mbF.fren,zaa,zae,List.getElem?_cons_zero,List.getElem?_cons_succ]) (by first | rfl | simp [LM1,zah,zad,renL,AV.ren,AEnd.ren,zac,mbF.fren,zaa,zae,List.getElem?_cons_zero,List.getElem?_cons_succ]) ?_
   rintro _ _ ⟨rfl,rfl⟩
   refine⟨.ret (.tup []),[.rw (rC s r tw'),.rw [.ptr 0 0],.rw [.ref 5 0 ms.length 2],mpS (ksU ms) zs,.rw [.mpt 3],.rw (ms.flatMap mbC)],(by show zad _ _ ([0,1,1,1,1,1]) ([0,1,1,1,1,1]) 0 _;simp [LM1,zah,zad,renL,AV.ren,AEnd.ren,zac,mbF.fren,zaa,zae,List.getElem?_cons_zero,List.getElem?_cons_succ]),(by show AEnd.ren ([0,1,1,1,1,1]) _ _;first | rfl | simp [LM1,zah,zad,renL,AV.ren,AEnd.ren,zac,mbF.fren,zaa,zae,List.getElem?_cons_zero,List.getElem?_cons_succ]),?_⟩
   refine aQ55 ?_
   have hl:=loneB_ok n s (by omega) hV r tw' hrl (by omega) ms zs i8 (by omega)
   have hg:=zdL (zca n) (ms,tw',zs) r (s.drop r)
   unfold zhy OB dead6 at hl
   have hdr:(s.drop q).drop w=s.drop r:=by rw [List.drop_drop,hr]
   cases hx:zcf (pvF n) (ms,tw',zs) r (s.drop r) with
   | error k =>
    rw [hx] at hl
    refine ACalls.frame ([0,1,2,3,4,5]) (hl) rfl (by decide) (by simp [LM1,zah,zad,renL,AV.ren,AEnd.ren,zac,mbF.fren,zaa,zae,List.getElem?_cons_zero,List.getElem?_cons_succ]) (by first | rfl | simp [LM1,zah,zad,renL,AV.ren,AEnd.ren,zac,mbF.fren,zaa,zae,List.getElem?_cons_zero,List.getElem?_cons_succ]) ?_
    rintro _ _ ⟨rfl,rfl⟩
    refine⟨.pan (flt ((r+k:Nat):Int) 2),[.dead,.dead,.dead,.dead,.dead,.dead],(by show zad _ _ ([0,1,2,3,4,5]) ([0,1,2,3,4,5]) 0 _;simp [LM1,zah,zad,renL,AV.ren,AEnd.ren,zac,mbF.fren,zaa,zae,List.getElem?_cons_zero,List.getElem?_cons_succ]),(by show AEnd.ren ([0,1,2,3,4,5]) _ _;first | rfl | simp [LM1,zah,zad,renL,AV.ren,AEnd.ren,zac,mbF.fren,zaa,zae,List.getElem?_cons_zero,List.getElem?_cons_succ]),?_⟩
    refine aQ55 ?_
    refine zbw (za9 _ _ _) ?_
    unfold ziV
    rw [i6,zfG (w:=w) (k:=k) h93 (by simp [h44]) (by rw [hw,← hwe];rfl) (by rw [hdr];rw [← hr];exact hx)]
    refine⟨?_,rfl⟩
    rw [show p'+(q - p'+(w+k))=r+k by omega]
   | ok x =>
    rw [hx] at hl hg
    obtain⟨⟨ms2,tw2,zs2⟩,c⟩:=x
    have hz2:=stepO_zs hx i8
    simp only [zgv,List.length_drop] at hg
    dsimp only [OB,OC] at hl hz2
    refine ACalls.frame ([0,1,2,3,4,5]) (hl) rfl (by decide) (by simp [LM1,zah,zad,renL,AV.ren,AEnd.ren,zac,mbF.fren,zaa,zae,List.getElem?_cons_zero,List.getElem?_cons_succ]) (by first | rfl | simp [LM1,zah,zad,renL,AV.ren,AEnd.ren,zac,mbF.fren,zaa,zae,List.getElem?_cons_zero,List.getElem?_cons_succ]) ?_
    rintro _ _ ⟨rfl,rfl⟩
    refine⟨.ret (.tup []),[.rw (rC s ((r+c:Nat):Int) tw2),.rw [.ptr 0 0],.rw [.ref 6 0 ms2.length 2],mpS (ksU ms2) zs2,.rw [.mpt 3],.dead,.rw (ms2.flatMap mbC)],(by show zad _ _ ([0,1,2,3,4,5,6]) ([0,1,2,3,4,5,6]) 0 _;simp [LM1,zah,zad,renL,AV.ren,AEnd.ren,zac,mbF.fren,zaa,zae,List.getElem?_cons_zero,List.getElem?_cons_succ]),(by show AEnd.ren ([0,1,2,3,4,5,6]) _ _;first | rfl | simp [LM1,zah,zad,renL,AV.ren,AEnd.ren,zac,mbF.fren,zaa,zae,List.getElem?_cons_zero,List.getElem?_cons_succ]),?_⟩
    refine aQ55 ?_
    have hsk3:=zcr s (r+c) tw2 (by omega) (by omega)
    have hb3:=zbd (s.drop (r+c))
    rw [List.length_drop] at hb3
    unfold rS at hsk3
    refine ACalls.frame ([0]) (hsk3) rfl (by decide) (by simp [LM1,zah,zad,renL,AV.ren,AEnd.ren,zac,mbF.fren,zaa,zae,List.getElem?_cons_zero,List.getElem?_cons_succ]) (by first | rfl | simp [LM1,zah,zad,renL,AV.ren,AEnd.ren,zac,mbF.fren,zaa,zae,List.getElem?_cons_zero,List.getElem?_cons_succ]) ?_
    rintro _ _ ⟨rfl,rfl⟩
    refine⟨.ret (.tup []),[.rw (rC s ((r+c+zax (s.drop (r+c)):Nat):Int) tw2),.rw [.ptr 0 0],.rw [.ref 6 0 ms2.length 2],mpS (ksU ms2) zs2,.rw [.mpt 3],.dead,.rw (ms2.flatMap mbC)],(by show zad _ _ ([0,1,1,1,1,1,1]) ([0,1,1,1,1,1,1]) 0 _;simp [LM1,zah,zad,renL,AV.ren,AEnd.ren,zac,mbF.fren,zaa,zae,List.getElem?_cons_zero,List.getElem?_cons_succ]),(by show AEnd.ren ([0,1,1,1,1,1,1]) _ _;first | rfl | simp [LM1,zah,zad,renL,AV.ren,AEnd.ren,zac,mbF.fren,zaa,zae,List.getElem?_cons_zero,List.getElem?_cons_succ]),?_⟩
    refine aQ55 ?_
    rw [zam]
    refine⟨(i,false,(ms2,tw2,zs2),r+c+zax (s.drop (r+c))),⟨by dsimp only;omega,by dsimp only;omega,by dsimp only;omega,(by intro h;dsimp only at h;cases h),by dsimp only at hg ⊢;omega,(decide_eq_false (by dsimp only at hg ⊢;omega)).symm,hz2,?_⟩,(by show i < i+1;omega),?_⟩
    ·rw [i6,zd6 (w:=w) (c:=c) (g':=(ms2,tw2,zs2)) h93 (by simp [h44]) (by rw [hw,← hwe];rfl) (by rw [hdr];rw [← hr];exact hx),ziy]
     rw [List.drop_drop,List.drop_drop,show q+(w+c)=r+c by omega,show q+(w+c+zax (s.drop (r+c)))=r+c+zax (s.drop (r+c)) by omega,show q - p'+(w+c+zax (s.drop (r+c)))=r+c+zax (s.drop (r+c)) - p' by omega]
    ·dsimp only
     rw [if_neg (by decide)]
     try unfold OB
     refine zak (q:=[0,1,2,3,4,6]) rfl rfl (by decide) ?_ ?_
     ·refine aQ27 ?_
      try rfl
     ·simp [zah,zaL,mbF.fren,zbq,zgd,zac,renL,AV.ren]
end Go.Proofs.YtnghkomgefieoaaGreatDoor
end

section
namespace Go.Proofs.YtnghkomgefieoaaGreatDoor
open Go Go.Eng
theorem misort_nil:ACalls Tryz.prog 145 [nilS,i64 0,i64 0,zb6] [] (fun y _=>y=.ret (.tup [])):=by
 unfold zb6
 refine ACalls.body T_ok Tryz.func145 (by kernel_rfl) rfl Tryz.ntmps145 (congrArg Array.toList Tryz.results145) ?_
 refine aQ55 ?_
 repeat (with_reducible refine And.intro aQ15 ?_)
 rw [za6]
 refine⟨Nat,fun k=>k=0,fun k=>[nilS,i64 0,i64 0,.fn (.func 125) [] [],.bot,.bot,.bot,.bot,i64 1,.bot,.bot,.bot,.bot,.bot,.bot,.bot,.bot,.bot,.bot,.bot,.bot,.bot,.bot,.bot,.bot,.bot,.bot,.bot,.bot,.bot,.bot,.bot,.bot,.bot,.bot,.bot,.bot,.bot,.bot,.bot,.bot,.bot,.bot,.bot,.bot,.bot,.bot,.bot,.bot,.bot,.bot,.bot,.bot],fun k=>[],fun k=>0,0,rfl,zak (q:=[]) rfl rfl (by decide) ?_ ?_,?_⟩
 ·refine aQ27 ?_
  try simp [renL,nilS,AV.ren]
 ·trivial
 ·rintro k rfl
  refine aQ55 ?_
  exact⟨fun h=>absurd h (by decide),fun _=>zau rfl⟩
theorem mstable_nil:ACalls Tryz.prog 141 [nilS,i64 0,zb6] [] (fun y _=>y=.ret (.tup [])):=by
 have h:=misort_nil
 unfold zb6 at h ⊢
 refine ACalls.body T_ok Tryz.func141 (by kernel_rfl) rfl Tryz.ntmps141 (congrArg Array.toList Tryz.results141) ?_
 refine aQ55 ?_
 rw [za6]
 refine⟨Nat,fun k=>k=0,fun k=>[nilS,i64 0,.fn (.func 125) [] [],.bot,.bot,.bot,i64 20,i64 0,i64 20,.bot,.bot,.bot,.bot,.bot,.bot,.bot,.bot,.bot,.bot,.bot,.bot,.bot,.bot,.bot,.bot,.bot,.bot,.bot,.bot,.bot,.bot,.bot,.bot,.bot,.bot,.bot,.bot,.bot,.bot,.bot,.bot,.bot,.bot,.bot,.bot,.bot,.bot,.bot,.bot,.bot,.bot,.bot,.bot,.bot,.bot,.bot,.bot,.bot,.bot,.bot,.bot,.bot,.bot],fun k=>[],fun k=>0,0,rfl,zak (q:=[]) rfl rfl (by decide) ?_ ?_,?_⟩
 ·refine aQ27 ?_
  try simp [renL,nilS,AV.ren]
 ·trivial
 ·rintro k rfl
  refine aQ55 ?_
  refine⟨fun h=>absurd h (by decide),fun _=>?_⟩
  refine(h).pure aQ16 ?_
  rintro _ σ rfl
  refine⟨by first | rfl | simp [AEnd.noid,AV.ren,renL,zaP,zaG str zar,zba,zaZ,za3,zaq,zaU,zar],?_⟩
  refine aQ55 ?_
  rw [za6]
  refine⟨Nat,fun k=>k=0,fun k=>[.bot,i64 0,.bot,.bot,.bot,.bot,i64 20,.bot,.bot,.bot,.bot,.bot,.bot,.bot,.bot,.bot,.bot,.bot,.bot,.bot,.bot,.bot,.bot,.bot,.bot,.bot,.bot,.bot,.bot,.bot,.bot,.bot,.bot,.bot,.bot,.bot,.bot,.bot,.bot,.bot,.bot,.bot,.bot,.bot,.bot,.bot,.bot,.bot,.bot,.bot,.bot,.bot,.bot,.bot,.bot,.bot,.bot,.bot,.bot,.bot,.bot,.bot,.bot],fun k=>[],fun k=>0,0,rfl,zak (q:=[]) rfl rfl (by decide) ?_ ?_,?_⟩
  ·first|exact aQ27 trivial|refine aQ27 ?_
  ·trivial
  ·rintro k rfl
   refine aQ55 ?_
   refine⟨fun h=>absurd h (by decide),fun _=>?_⟩
   exact zau rfl
theorem sort_nil:ACalls Tryz.prog 124 [nilS,zb6] [] (fun y _=>y=.ret (.tup [])):=by
 have h:=mstable_nil
 unfold zb6 at h ⊢
 refine ACalls.body T_ok Tryz.func124 (by kernel_rfl) rfl Tryz.ntmps124 (congrArg Array.toList Tryz.results124) ?_
 refine aQ55 ?_
 refine(h).pure aQ16 ?_
 rintro _ σ rfl
 refine⟨by first | rfl | simp [AEnd.noid,AV.ren,renL,zaP,zaG str zar,zba,zaZ,za3,zaq,zaU,zar],?_⟩
 refine aQ55 ?_
 exact zau rfl
section
variable {σ : zab} {K : AV → Prop} {KS : AV → zab → Prop}
theorem al_mb (e:TypeId):al1 T e (some tyMb) σ KS=KS (.ptr σ.length 0) (σ++[.rw [str [],nilS]]):=by
 simp [al1,tyMb,zaH,nilS,str]
theorem st_mbW (m:Mem) (a b:AV) (id:Nat):st2 (some tyMb) (some (.rw [a,b])) id 0 (mbA m) σ KS=KS (.lit undef) (σ.set id (.rw (mbC m))):=by
 have h2:(slN m.2).one=true:=rfl
 simp [st2,mbA,AV.cells,tyMb,za5,mbC,zce,h2]
theorem al_mp1 (e k v:TypeId):al1 T e (some (zgr k v)) σ KS=KS (.ptr σ.length 0) (σ++[.rw [.lit (.map none)]]):=rfl
theorem st_mp1 (k v:TypeId) (id j:Nat) (c:AV):st2 (some (zgr k v)) (some (.rw [c])) id 0 (.mpt j) σ KS=KS (.lit undef) (σ.set id (.rw [.mpt j])):=by
 simp [st2,zgr,AV.cells,AV.one,za5]
end
def outM (S:List Mem) (k:Nat):List Nd:=⟨5,0,[],S.length⟩::(S.take k).flatMap memR
theorem outM_len (S:List Mem) (k:Nat):(outM S k).length≤memW S+1:=by
 have h:S.flatMap memR=(S.take k).flatMap memR++(S.drop k).flatMap memR:=by rw [← List.flatMap_append,List.take_append_drop]
 rw [memW,h,List.length_append,outM,List.length_cons]
 omega
theorem outM_succ (S:List Mem) {k:Nat} (h:k < S.length):outM S (k+1)=outM S k++[⟨3,0,(S.getD k m0d).1,0⟩]++(S.getD k m0d).2:=by
 have e:S.take (k+1)=S.take k++[S[k]]:=List.take_succ_eq_append_getElem h
 rw [outM,outM,e,List.flatMap_append,List.getD_eq_getElem?_getD,List.getElem?_eq_getElem h]
 simp [memR]
theorem outM_all (ms:List Mem):outM (zaT ms) (zaT ms).length=objR ms:=by
 rw [outM,objR,List.take_length,(zgf ms).length_eq]
theorem object_ok (n:Nat) (s:List UInt8) (hs:s.length≤100000000) (N:Nat) (hS:zhZ N) (hN:s.length≤N * 5) (hV:ziU n s) (p:Nat) (tw:Int) (hp:p < s.length) (hn:s.length - p≤n):ACalls Tryz.prog 84 [.ptr 0 0] (rS s p tw) (outV s p (objV (pvF n) tw p (s.drop p))):=by
 have h:=orows_ok n s hs hV p tw hp hn
 unfold rS
 have hdd:(s.drop p).drop (inW (s.drop p))=s.drop (p+inW (s.drop p)):=by rw [List.drop_drop]
 refine ACalls.body T_ok Tryz.func84 (by kernel_rfl) rfl Tryz.ntmps84 (congrArg Array.toList Tryz.results84) ?_
 refine aQ56 ?_
 rw [show (AV.lit (.slice none 0 0))=nilS from rfl,show Blk.mpb [] []=mpS [] [] from rfl]
 cases hx:zbl 125 (zcf (pvF n)) ((s.drop p).length+1) true ([],tw,[]) (p+inW (s.drop p)) (s.drop (p+inW (s.drop p))) with
 | error k =>
  rw [hx] at h
  unfold ziV OA dead5 at h
  dsimp only at h
  refine ACalls.frame ([0,1,2,3,4]) (h) rfl (by decide) (by simp [LM1,zah,zad,renL,AV.ren,AEnd.ren,zac,mbF.fren,zaa,zae,List.getElem?_cons_zero,List.getElem?_cons_succ]) (by first | rfl | simp [LM1,zah,zad,renL,AV.ren,AEnd.ren,zac,mbF.fren,zaa,zae,List.getElem?_cons_zero,List.getElem?_cons_succ]) ?_
  rintro _ _ ⟨rfl,rfl⟩
  refine⟨.pan (flt ((p+inW (s.drop p)+k:Nat):Int) 2),[.dead,.dead,.dead,.dead,.dead],(by show zad _ _ ([0,1,2,3,4]) ([0,1,2,3,4]) 0 _;simp [LM1,zah,zad,renL,AV.ren,AEnd.ren,zac,mbF.fren,zaa,zae,List.getElem?_cons_zero,List.getElem?_cons_succ]),(by show AEnd.ren ([0,1,2,3,4]) _ _;first | rfl | simp [LM1,zah,zad,renL,AV.ren,AEnd.ren,zac,mbF.fren,zaa,zae,List.getElem?_cons_zero,List.getElem?_cons_succ]),?_⟩
  refine aQ56 ?_
  rw [show p+inW (s.drop p)+k=p+(inW (s.drop p)+k) by omega]
  refine zbR ?_
  rw [objV,hdd,hx]
 | ok x =>
  rw [hx] at h
  obtain⟨⟨ms,tw',zs⟩,c⟩:=x
  have hml:=members_le (n:=n) (tw:=tw) (p:=p) (l:=s.drop p) (by rw [hdd];exact hx)
  rw [List.length_drop] at hml
  dsimp only at hml
  unfold ziV OS at h
  dsimp only at h
  have fin:outV s p (objV (pvF n) tw p (s.drop p)) (.ret (slN (objR ms))) (rS s ((p+inW (s.drop p)+c:Nat):Int) tw'):=by
   rw [objV,hdd,hx]
   refine⟨rfl,?_⟩
   dsimp only
   rw [show p+inW (s.drop p)+c=p+(inW (s.drop p)+c) by omega]
  by_cases hk:ms.length=0
  ·rw [if_pos hk] at h
   obtain rfl:ms=[]:=List.length_eq_zero_iff.1 hk
   unfold OA at h
   refine ACalls.frame ([0,1,2,3,4]) (h) rfl (by decide) (by simp [LM1,zah,zad,renL,AV.ren,AEnd.ren,zac,mbF.fren,zaa,zae,List.getElem?_cons_zero,List.getElem?_cons_succ]) (by first | rfl | simp [LM1,zah,zad,renL,AV.ren,AEnd.ren,zac,mbF.fren,zaa,zae,List.getElem?_cons_zero,List.getElem?_cons_succ]) ?_
   rintro _ _ ⟨rfl,rfl⟩
   refine⟨.ret (.tup []),[.rw (rC s ((p+inW (s.drop p)+c:Nat):Int) tw'),.rw [.ptr 0 0],.rw [nilS],mpS [] [],.rw [.mpt 3]],(by show zad _ _ ([0,1,2,3,4]) ([0,1,2,3,4]) 0 _;simp [LM1,zah,zad,renL,AV.ren,AEnd.ren,zac,mbF.fren,zaa,zae,List.getElem?_cons_zero,List.getElem?_cons_succ]),(by show AEnd.ren ([0,1,2,3,4]) _ _;first | rfl | simp [LM1,zah,zad,renL,AV.ren,AEnd.ren,zac,mbF.fren,zaa,zae,List.getElem?_cons_zero,List.getElem?_cons_succ]),?_⟩
   refine aQ56 ?_
   have hso:=sort_nil
   unfold zb6 at hso
   refine(hso).pure aQ16 ?_
   rintro _ σ rfl
   refine⟨by first | rfl | simp [AEnd.noid,AV.ren,renL,zaP,zaG str zar,zba,zaZ,za3,zaq,zaU,zar],?_⟩
   refine aQ56 ?_
   unfold nilS
   refine aQ56 ?_
   rw [za6]
   refine⟨Nat,fun k=>k=0,fun k=>[.bot,.bot,.bot,.bot,.bot,.ref 1 0 1 4,.bot,.bot,.bot,.bot,.bot,.bot,.bot,.bot,.bot,.bot,.bot,.bot,.bot,i64 0,i64 0,.bot,.bot,.bot,.bot,.bot,.bot,.bot,.bot,.bot,.bot,.bot,.bot,.bot,.bot,.bot],fun k=>[.rw (rC s ((p+inW (s.drop p)+c:Nat):Int) tw'),.rw ((objR []).flatMap nC)],fun k=>0,0,rfl,zak (q:=[0,5]) rfl rfl (by decide) ?_ ?_,?_⟩
   ·first|exact aQ27 trivial|refine aQ27 ?_
   ·simp [zah,zaL,ndF.ren,zbq,renL,AV.ren,objR,zaT]
   ·rintro k rfl
    refine aQ56 ?_
    exact⟨fun h=>absurd h (by decide),fun _=>zhr (j:=0) (l:=objR []) rfl rfl fin⟩
  ·rw [if_neg hk] at h
   unfold OA OB at h
   refine ACalls.frame ([0,1,2,3,4]) (h) rfl (by decide) (by simp [LM1,zah,zad,renL,AV.ren,AEnd.ren,zac,mbF.fren,zaa,zae,List.getElem?_cons_zero,List.getElem?_cons_succ]) (by first | rfl | simp [LM1,zah,zad,renL,AV.ren,AEnd.ren,zac,mbF.fren,zaa,zae,List.getElem?_cons_zero,List.getElem?_cons_succ]) ?_
   rintro _ _ ⟨rfl,rfl⟩
   refine⟨.ret (.tup []),[.rw (rC s ((p+inW (s.drop p)+c:Nat):Int) tw'),.rw [.ptr 0 0],.rw [.ref 5 0 ms.length 2],mpS (ksU ms) zs,.rw [.mpt 3],.rw (ms.flatMap mbC)],(by show zad _ _ ([0,1,2,3,4,5]) ([0,1,2,3,4,5]) 0 _;simp [LM1,zah,zad,renL,AV.ren,AEnd.ren,zac,mbF.fren,zaa,zae,List.getElem?_cons_zero,List.getElem?_cons_succ]),(by show AEnd.ren ([0,1,2,3,4,5]) _ _;first | rfl | simp [LM1,zah,zad,renL,AV.ren,AEnd.ren,zac,mbF.fren,zaa,zae,List.getElem?_cons_zero,List.getElem?_cons_succ]),?_⟩
   refine aQ56 ?_
   have hso:=hS ms (by omega)
   unfold zb6 at hso
   refine ACalls.frame ([5]) (hso) rfl (by decide) (by simp [LM1,zah,zad,renL,AV.ren,AEnd.ren,zac,mbF.fren,zaa,zae,List.getElem?_cons_zero,List.getElem?_cons_succ]) (by first | rfl | simp [LM1,zah,zad,renL,AV.ren,AEnd.ren,zac,mbF.fren,zaa,zae,List.getElem?_cons_zero,List.getElem?_cons_succ]) ?_
   rintro _ _ ⟨rfl,rfl⟩
   refine⟨.ret (.tup []),[.rw (rC s ((p+inW (s.drop p)+c:Nat):Int) tw'),.rw [.ptr 0 0],.rw [.ref 5 0 ms.length 2],mpS (ksU ms) zs,.rw [.mpt 3],.rw ((zaT ms).flatMap mbC)],(by show zad _ _ ([1,1,1,1,1,0]) ([1,1,1,1,1,0]) 0 _;simp [LM1,zah,zad,renL,AV.ren,AEnd.ren,zac,mbF.fren,zaa,zae,List.getElem?_cons_zero,List.getElem?_cons_succ]),(by show AEnd.ren ([1,1,1,1,1,0]) _ _;first | rfl | simp [LM1,zah,zad,renL,AV.ren,AEnd.ren,zac,mbF.fren,zaa,zae,List.getElem?_cons_zero,List.getElem?_cons_succ]),?_⟩
   refine aQ56 ?_
   have hg:=zdK _ _ 4 125 _ (zdL (zca n)) ((s.drop p).length+1) true ([],tw,[]) (p+inW (s.drop p)) (s.drop (p+inW (s.drop p)))
   rw [hx] at hg
   have hw:memW ms≤s.length:=by
    simp only [zhF,List.length_drop] at hg
    have:memW []=0:=rfl
    omega
   rw [← memW_sort] at hw
   have hsl:(zaT ms).length=ms.length:=(zgf ms).length_eq
   rw [← outM_all] at fin
   generalize zaT ms=S at hw hsl fin
   rw [← hsl,show ([⟨5,0,[],(S.length:Int)⟩]:List Nd)=outM S 0 from rfl]
   rw [za6]
   refine⟨Nat,fun k=>k≤S.length,fun k=>[.bot,.bot,.bot,.bot,.bot,.ref 2 0 (outM S k).length 4,.bot,.bot,.bot,.bot,.bot,.bot,.bot,.bot,.bot,.bot,.bot,.bot,.ref 1 0 S.length 2,i64 S.length,i64 k,.bot,.bot,.bot,.bot,.bot,.bot,.bot,.bot,.bot,.bot,.bot,.bot,.bot,.bot,.bot],fun k=>[.rw (rC s ((p+inW (s.drop p)+c:Nat):Int) tw'),.rw (S.flatMap mbC),.rw ((outM S k).flatMap nC)],fun k=>S.length - k,0,Nat.zero_le _,zak (q:=[0,5,6]) rfl rfl (by decide) ?_ ?_,?_⟩
   ·refine aQ27 ?_
    exact⟨rfl,.inr rfl⟩
   ·simp [zah,zaL,ndF.fren,mbF.fren,zbq,renL,AV.ren]
   ·rintro k hk
    refine aQ56 ?_
    refine⟨fun hlt=>?_,fun hge=>?_⟩
    rotate_left
    ·obtain rfl:k=S.length:=by omega
     exact zhr (j:=1) (l:=outM S S.length) rfl rfl fin
    have hkl:k < S.length:=by omega
    have hsc:=outM_succ S hkl
    have hlen:=outM_len S (k+1)
    rw [hsc,List.length_append,List.length_append,List.length_singleton] at hlen
    refine⟨by omega,by omega,by omega,?_⟩
    refine ndF.app rfl rfl T22 T22 (zgq _) T43 rfl rfl (m:=1) (l:=outM S k) (ys:=[⟨3,0,(S.getD k m0d).1,0⟩]) rfl (by exact ndF.asrcR (l:=[⟨3,0,(S.getD k m0d).1,0⟩]) rfl) rfl (by omega) (by simp only [tyNd];omega) ?_
    refine aQ56 ?_
    obtain⟨O,hO⟩:∃ O,O=outM S k++[⟨3,0,(S.getD k m0d).1,0⟩]:=⟨_,rfl⟩
    have hOl:(outM S k).length+1=O.length:=by rw [hO];simp
    rw [hOl,← hO]
    rw [← hO] at hsc
    refine ndF.app rfl rfl T22 T22 (zgq _) T43 rfl rfl (l:=O) (ys:=(S.getD k m0d).2) rfl (ndF.asrc (S.getD k m0d).2) rfl (by omega) (by simp only [tyNd];omega) ?_
    refine aQ56 ?_
    repeat (with_reducible refine And.intro aQ15 ?_)
    rw [zam,← hsc]
    rw [show O.length+(S.getD k m0d).2.length=(outM S (k+1)).length by rw [hsc,List.length_append]]
    refine⟨k+1,by omega,by (show S.length - (k+1) < S.length - k);omega,zak (q:=[0,1,6]) rfl rfl (by decide) ?_ ?_⟩
    ·refine aQ27 ?_
     simp [renL]
    ·simp [zah,zaL,ndF.fren,mbF.fren,zbq,renL,AV.ren]
end Go.Proofs.YtnghkomgefieoaaGreatDoor
end

