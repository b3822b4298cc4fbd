/-
  Members put in order; what is shown is read back. No condition.
-/
import Derived.Test.YtnghkomgefieoaaGreatDoorShrI
set_option linter.unusedSimpArgs false
set_option linter.unusedVariables false
set_option linter.unusedSectionVars false
section
namespace Go.Eng
open Go
theorem aQ63 {P Q:Prop} (h:Q) (e:P=Q:=by first|(simp only [Option.map_some,List.length_append,List.length_cons,List.length_nil];first|done|exact rfl)|exact rfl):P:=e ▸ h
end Go.Eng
end

section
namespace Go.Proofs.YtnghkomgefieoaaGreatDoor
open Go Go.Eng
theorem sym_all:∀ n,SymOK n
 | 0=>fun X A B Y hn hA1 _ _ _ _=>absurd hn (by omega)
 | n+1=>fun X A B Y hn hA1 hB1 hA hB hL=>by
  by_cases h1:A.length=1
  ·obtain⟨x,rfl⟩:=List.length_eq_one_iff.1 h1
   exact msym1_ok X B Y x hB hL
  ·by_cases h2:B.length=1
   ·obtain⟨y,rfl⟩:=List.length_eq_one_iff.1 h2
    exact msym2_ok X A Y y hA (by omega) hL
   ·exact msym3_ok (sym_all n) X A B Y hn (by omega) (by omega) hA hB hL
def blkS (s:Nat) (L:List Mem):Nat→List Mem
 | 0=>[]
 | k+1=>blkS s L k++zaT ((L.drop (s * k)).take s)
theorem zfO (s:Nat) (L:List Mem):∀ k,s * k≤L.length→(blkS s L k).length=s * k
 | 0,_=>rfl
 | k+1,h=>by
  have h':s * (k+1)=s * k+s:=by rw [Nat.mul_add,Nat.mul_one]
  rw [blkS,List.length_append,zfO s L k (by omega),zcs,List.length_take,List.length_drop]
  omega
theorem blkS_add (s:Nat) (L:List Mem) (i:Nat):∀ j,blkS s L (i+j)=blkS s L i++blkS s (L.drop (s * i)) j
 | 0=>by simp [blkS]
 | j+1=>by
  rw [← Nat.add_assoc,blkS,blkS_add s L i j,blkS,List.drop_drop,Nat.mul_add,List.append_assoc]
theorem blkS_1 (s:Nat) (L:List Mem):blkS s L 1=zaT (L.take s):=by simp [blkS]
theorem blkS_2 (s:Nat) (L:List Mem):blkS s L 2=zaT (L.take s)++zaT ((L.drop s).take s):=by simp [blkS]
def allS (s:Nat) (L:List Mem):List Mem:=blkS s L (L.length / s+1)
theorem allS_len {s:Nat} (hs:0 < s) (L:List Mem):(allS s L).length=L.length:=by
 have h1:=Nat.div_add_mod L.length s
 have h2:=Nat.mod_lt L.length hs
 rw [allS,blkS,List.length_append,zfO s L _ (by omega),zcs,List.length_take,List.length_drop]
 omega
theorem zfP {s k:Nat} {L:List Mem} (h1:s * k≤L.length) (h2:L.length < s * (k+1)):allS s L=blkS s L k++zaT (L.drop (s * k)):=by
 have h':s * (k+1)=s * k+s:=by rw [Nat.mul_add,Nat.mul_one]
 have hk:L.length / s=k:=by
  rw [Nat.mul_comm] at h1
  rw [Nat.mul_comm] at h2
  exact Nat.div_eq_of_lt_le h1 h2
 rw [allS,hk,blkS,List.take_of_length_le (by rw [List.length_drop];omega)]
theorem allS_whole {s:Nat} {L:List Mem} (h:L.length≤s) (hs:0 < s):allS s L=zaT L:=by
 rcases Nat.lt_or_ge L.length s with h1 | h1
 ·rw [zfP (k:=0) (by omega) (by omega)]
  rfl
 ·have:L.length=s:=by omega
  rw [zfP (k:=1) (by omega) (by omega),blkS_1,List.drop_eq_nil_of_le (i:=s * 1) (by omega),List.take_of_length_le (by omega)]
  simp [zaT]
def zhG (s:Nat) (L:List Mem) (j:Nat):List Mem:=blkS s (L.drop (s * (2 * j))) (L.length / s+1 - 2 * j)
def midS (s:Nat) (L:List Mem) (j:Nat):List Mem:=blkS (2 * s) L j++zhG s L j
theorem midS_0 (s:Nat) (L:List Mem):midS s L 0=allS s L:=by
 rw [midS,zhG,allS,Nat.mul_zero,Nat.mul_zero,Nat.sub_zero,List.drop_zero]
 rfl
theorem sl_two (s:Nat) (M:List Mem):zaT (zaT (M.take s)++zaT ((M.drop s).take s))=zaT (M.take (2 * s)):=by
 rw [sortM_nest,Nat.two_mul,List.take_add]
theorem midS_step {s j:Nat} {L:List Mem} (hs:0 < s) (h:2 * s * (j+1)≤L.length):∃ A B Y,midS s L j=blkS (2 * s) L j++(A++(B++Y))∧midS s L (j+1)=blkS (2 * s) L j++(zaT (A++B)++Y)∧(blkS (2 * s) L j).length=2 * s * j∧A.length=s∧B.length=s∧Asc A∧Asc B:=by
 have e1:2 * s * (j+1)=2 * s * j+2 * s:=by rw [Nat.mul_add,Nat.mul_one]
 have e2:s * (2 * j)=2 * s * j:=by rw [Nat.mul_comm 2 s,Nat.mul_assoc]
 have e3:s * (2 * (j+1))=s * (2 * j)+s * 2:=by rw [Nat.mul_add 2,Nat.mul_one,Nat.mul_add]
 have hk:2 * (j+1)≤L.length / s:=by
  rw [Nat.le_div_iff_mul_le hs,Nat.mul_comm,e3]
  omega
 have er:zhG s L j=zaT ((L.drop (s * (2 * j))).take s)++(zaT (((L.drop (s * (2 * j))).drop s).take s)++zhG s L (j+1)):=by
  rw [zhG,show L.length / s+1 - 2 * j=2+(L.length / s+1 - 2 * (j+1)) by omega,blkS_add,List.drop_drop,← e3,zhG,blkS_2,List.append_assoc]
 refine⟨_,_,_,by rw [midS,er],?_,zfO _ _ _ (by omega),?_,?_,zb7 _,zb7 _⟩
 ·rw [midS,blkS,sl_two,e2,List.append_assoc]
 ·rw [zcs,List.length_take,List.length_drop]
  omega
 ·rw [zcs,List.length_take,List.length_drop,List.length_drop]
  omega
theorem midS_end {s j:Nat} {L:List Mem} (hs:0 < s) (h:2 * s * j≤L.length) (h2:L.length < 2 * s * (j+1)):(2 * s * j+s < L.length→∃ A B,midS s L j=blkS (2 * s) L j++(A++(B++[]))∧allS (2 * s) L=blkS (2 * s) L j++(zaT (A++B)++[])∧(blkS (2 * s) L j).length=2 * s * j∧A.length=s∧B.length=L.length - (2 * s * j+s)∧Asc A∧Asc B) ∧
  (¬ 2 * s * j+s < L.length→midS s L j=allS (2 * s) L):=by
 have e1:2 * s * (j+1)=2 * s * j+2 * s:=by rw [Nat.mul_add,Nat.mul_one]
 have e2:s * (2 * j)=2 * s * j:=by rw [Nat.mul_comm 2 s,Nat.mul_assoc]
 have e4:s * (2 * j+1)=2 * s * j+s:=by rw [Nat.mul_add,Nat.mul_one,e2]
 have e5:s * (2 * j+1+1)=2 * s * j+s+s:=by rw [Nat.mul_add,Nat.mul_one,e4]
 have ea:allS (2 * s) L=blkS (2 * s) L j++zaT (L.drop (2 * s * j)):=zfP h h2
 have hml:(L.drop (2 * s * j)).length=L.length - 2 * s * j:=List.length_drop
 constructor
 ·intro hm
  have hk:L.length / s=2 * j+1:=by
   refine Nat.div_eq_of_lt_le ?_ ?_
   ·rw [Nat.mul_comm,e4];omega
   ·rw [Nat.mul_comm,show s * (2 * j+1+1)=_ from e5];omega
  have er:zhG s L j=zaT ((L.drop (2 * s * j)).take s)++zaT (((L.drop (2 * s * j)).drop s).take s):=by
   rw [zhG,e2,hk,show 2 * j+1+1 - 2 * j=2 by omega,blkS_2]
  refine⟨_,_,by rw [midS,er,List.append_nil],?_,zfO _ _ _ h,?_,?_,zb7 _,zb7 _⟩
  ·rw [ea,sl_two,List.append_nil,List.take_of_length_le (by omega)]
  ·rw [zcs,List.length_take]
   omega
  ·rw [zcs,List.length_take,List.length_drop]
   omega
 ·intro hm
  rw [ea,midS]
  congr 1
  rcases Nat.lt_or_ge L.length (2 * s * j+s) with h3 | h3
  ·have hk:L.length / s=2 * j:=by
    refine Nat.div_eq_of_lt_le ?_ ?_
    ·rw [Nat.mul_comm,e2];omega
    ·rw [Nat.mul_comm,e4];omega
   rw [zhG,e2,hk,show 2 * j+1 - 2 * j=1 by omega,blkS_1,List.take_of_length_le (by omega)]
  ·have hk:L.length / s=2 * j+1:=by
    refine Nat.div_eq_of_lt_le ?_ ?_
    ·rw [Nat.mul_comm,e4];omega
    ·rw [Nat.mul_comm,show s * (2 * j+1+1)=_ from e5];omega
   rw [zhG,e2,hk,show 2 * j+1+1 - 2 * j=2 by omega,blkS_2,List.drop_eq_nil_of_le (i:=s) (by omega),List.take_of_length_le (by omega)]
   simp [zaT]
end Go.Proofs.YtnghkomgefieoaaGreatDoor
end

section
namespace Go.Proofs.YtnghkomgefieoaaGreatDoor
open Go Go.Eng
set_option maxRecDepth 20000 in
set_option maxHeartbeats 4000000 in
theorem mstableN_ok (L:List Mem) (hL:L.length≤1000000):ACalls Tryz.prog 141 [.ref 0 0 L.length 2,i64 L.length,zb6] [.rw (L.flatMap mbC)] (fun y σ=>y=.ret (.tup [])∧σ=[.rw ((zaT L).flatMap mbC)]):=by
 have mis:=misort_ok
 have sym:∀ (R R':List Mem) (a m b:Nat),(∃ X A B Y,R=X++(A++(B++Y))∧R'=X++(zaT (A++B)++Y)∧X.length=a∧X.length+A.length=m∧X.length+A.length+B.length=b∧1≤A.length∧1≤B.length∧Asc A∧Asc B∧X.length+A.length+B.length+Y.length=L.length)→ACalls Tryz.prog 146 [.ref 0 0 L.length 2,i64 a,i64 m,i64 b,zb6] [.rw (R.flatMap mbC)] (fun z σ=>z=.ret (.tup [])∧σ=[.rw (R'.flatMap mbC)]):=by
  rintro R R' a m b ⟨X,A,B,Y,rfl,rfl,rfl,rfl,rfl,hA1,hB1,hA,hB,hl⟩
  have:=sym_all _ X A B Y (Nat.le_refl _) hA1 hB1 hA hB (by omega)
  rw [hl] at this
  exact this
 unfold zb6 at mis sym ⊢
 refine ACalls.body T_ok Tryz.func141 (by kernel_rfl) rfl Tryz.ntmps141 (congrArg Array.toList Tryz.results141) ?_
 refine aQ61 ?_
 rw [za6]
 refine⟨Nat,fun k=>20 * k≤L.length,fun k=>[.ref 0 0 L.length 2,i64 L.length,.fn (.func 125) [] [],.bot,.bot,.bot,i64 20,i64 ((20 * k:Nat):Int),i64 ((20 * (k+1):Nat):Int),.bot,.bot,.bot,.bot,.bot,.bot,.bot,.bot,.bot,.bot,.bot,.bot,.bot,.bot,.bot,.bot,.bot,.bot,.bot,.bot,.bot,.bot,.bot,.bot,.bot,.bot,.bot,.bot,.bot,.bot,.bot,.bot,.bot,.bot,.bot,.bot,.bot,.bot,.bot,.bot,.bot,.bot,.bot,.bot,.bot,.bot,.bot,.bot,.bot,.bot,.bot,.bot,.bot,.bot],fun k=>[.rw ((blkS 20 L k++L.drop (20 * k)).flatMap mbC)],fun k=>L.length - 20 * k,0,by omega,zak (q:=[0]) rfl rfl (by decide) ?_ ?_,?_⟩
 ·refine aQ27 ?_
  try exact⟨by simp [renL],.inr rfl,.inr rfl⟩
 ·(show zah _ _ _ [Blk.rw ((blkS 20 L 0++L.drop (20 * 0)).flatMap mbC)])
  rw [Nat.mul_zero,List.drop_zero,blkS,List.nil_append]
  exact zaW _
 ·rintro k hk
  have hbl:=zfO 20 L k hk
  refine aQ61 ?_
  refine⟨fun hle=>?_,fun hgt=>?_⟩
  ·have hs:=mis (blkS 20 L k) ((L.drop (20 * k)).take 20) (L.drop (20 * (k+1))) (by rw [hbl,List.length_take,List.length_drop,List.length_drop];omega)
   have e1:(L.drop (20 * k)).take 20++L.drop (20 * (k+1))=L.drop (20 * k):=by
    rw [Nat.mul_add,Nat.mul_one,← List.drop_drop,List.take_append_drop]
   have e2:blkS 20 L k++(sortI ((L.drop (20 * k)).take 20)++L.drop (20 * (k+1)))=blkS 20 L (k+1)++L.drop (20 * (k+1)):=by
    rw [sortI_M,blkS,List.append_assoc]
   rw [e1,e2,hbl] at hs
   rw [show 20 * k+((L.drop (20 * k)).take 20).length+(L.drop (20 * (k+1))).length=L.length by rw [List.length_take,List.length_drop,List.length_drop];omega,show 20 * k+((L.drop (20 * k)).take 20).length=20 * (k+1) by rw [List.length_take,List.length_drop];omega] at hs
   generalize hR:blkS 20 L k++L.drop (20 * k)=R at hs ⊢
   generalize hR1:blkS 20 L (k+1)++L.drop (20 * (k+1))=R1 at hs
   refine ACalls.frame ([0]) (hs) rfl (by decide) (by simp [LM1,zah,zad,renL,AV.ren,AEnd.ren,zac,mbF.fren,zaa,zae,List.getElem?_cons_zero,List.getElem?_cons_succ]) (by first | rfl | simp [LM1,zah,zad,renL,AV.ren,AEnd.ren,zac,mbF.fren,zaa,zae,List.getElem?_cons_zero,List.getElem?_cons_succ]) ?_
   rintro _ _ ⟨rfl,rfl⟩
   refine⟨.ret (.tup []),[.rw (R1.flatMap mbC)],(by show zad _ _ ([0]) ([0]) 0 _;simp [LM1,zah,zad,renL,AV.ren,AEnd.ren,zac,mbF.fren,zaa,zae,List.getElem?_cons_zero,List.getElem?_cons_succ]),(by show AEnd.ren ([0]) _ _;first | rfl | simp [LM1,zah,zad,renL,AV.ren,AEnd.ren,zac,mbF.fren,zaa,zae,List.getElem?_cons_zero,List.getElem?_cons_succ]),?_⟩
   refine aQ61 ?_
   repeat (with_reducible refine And.intro aQ15 ?_)
   rw [zam]
   refine⟨k+1,by omega,by (show L.length - 20 * (k+1) < L.length - 20 * k);omega,zak (q:=[0]) rfl rfl (by decide) ?_ ?_⟩
   ·refine aQ27 ?_
    try exact⟨by simp [renL],.inr (by omega)⟩
   ·(show zah _ _ _ [Blk.rw ((blkS 20 L (k+1)++L.drop (20 * (k+1))).flatMap mbC)])
    rw [hR1]
    exact zaW _
  ·have hs:=mis (blkS 20 L k) (L.drop (20 * k)) [] (by rw [hbl,List.length_drop,List.length_nil];omega)
   have e2:blkS 20 L k++zaT (L.drop (20 * k))=allS 20 L:=(zfP hk (by omega)).symm
   rw [List.append_nil,List.append_nil,sortI_M,e2,hbl] at hs
   rw [show 20 * k+(L.drop (20 * k)).length+([]:List Mem).length=L.length by rw [List.length_drop,List.length_nil];omega,show 20 * k+(L.drop (20 * k)).length=L.length by rw [List.length_drop];omega] at hs
   generalize hR:blkS 20 L k++L.drop (20 * k)=R at hs ⊢
   refine ACalls.frame ([0]) (hs) rfl (by decide) (by simp [LM1,zah,zad,renL,AV.ren,AEnd.ren,zac,mbF.fren,zaa,zae,List.getElem?_cons_zero,List.getElem?_cons_succ]) (by first | rfl | simp [LM1,zah,zad,renL,AV.ren,AEnd.ren,zac,mbF.fren,zaa,zae,List.getElem?_cons_zero,List.getElem?_cons_succ]) ?_
   rintro _ _ ⟨rfl,rfl⟩
   refine⟨.ret (.tup []),[.rw ((allS 20 L).flatMap mbC)],(by show zad _ _ ([0]) ([0]) 0 _;simp [LM1,zah,zad,renL,AV.ren,AEnd.ren,zac,mbF.fren,zaa,zae,List.getElem?_cons_zero,List.getElem?_cons_succ]),(by show AEnd.ren ([0]) _ _;first | rfl | simp [LM1,zah,zad,renL,AV.ren,AEnd.ren,zac,mbF.fren,zaa,zae,List.getElem?_cons_zero,List.getElem?_cons_succ]),?_⟩
   refine aQ61 ?_
   rw [za6]
   refine⟨Nat,fun s=>20≤s∧s≤3000000,fun s=>[.ref 0 0 L.length 2,i64 L.length,.fn (.func 125) [] [],.bot,.bot,.bot,i64 s,.bot,.bot,.bot,.bot,.bot,.bot,.bot,.bot,.bot,.bot,.bot,.bot,.bot,.bot,.bot,.bot,.bot,.bot,.bot,.bot,.bot,.bot,.bot,.bot,.bot,.bot,.bot,.bot,.bot,.bot,.bot,.bot,.bot,.bot,.bot,.bot,.bot,.bot,.bot,.bot,.bot,.bot,.bot,.bot,.bot,.bot,.bot,.bot,.bot,.bot,.bot,.bot,.bot,.bot,.bot,.bot],fun s=>[.rw ((allS s L).flatMap mbC)],fun s=>L.length - s,20,⟨Nat.le_refl _,by decide⟩,zak (q:=[0]) rfl rfl (by decide) ?_ ?_,?_⟩
   ·refine aQ27 ?_
    try simp [renL]
   ·exact zaW _
   ·rintro s ⟨hs1,hs2⟩
    refine aQ61 ?_
    refine⟨fun hlt=>?_,fun hge=>?_⟩
    rotate_left
    ·refine zau ⟨rfl,?_⟩
     rw [allS_whole (by omega) (by omega)]
    repeat (with_reducible refine And.intro aQ15 ?_)
    rw [za6]
    refine⟨Nat,fun j=>2 * s * j≤L.length∧(midS s L j).length=L.length,fun j=>[.ref 0 0 L.length 2,i64 L.length,.fn (.func 125) [] [],.bot,.bot,.bot,i64 s,i64 ((2 * s * j:Nat):Int),i64 ((2 * s * (j+1):Nat):Int),.bot,.bot,.bot,.bot,.bot,.bot,.bot,.bot,.bot,.bot,.bot,.bot,.bot,.bot,.bot,.bot,.bot,.bot,.bot,.bot,.bot,.bot,.bot,.bot,.bot,.bot,.bot,.bot,.bot,.bot,.bot,.bot,.bot,.bot,.bot,.bot,.bot,.bot,.bot,.bot,.bot,.bot,.bot,.bot,.bot,.bot,.bot,.bot,.bot,.bot,.bot,.bot,.bot,.bot],fun j=>[.rw ((midS s L j).flatMap mbC)],fun j=>L.length - 2 * s * j,0,⟨by simp,by rw [midS_0,allS_len (by omega)]⟩,zak (q:=[0]) rfl rfl (by decide) ?_ ?_,?_⟩
    ·refine aQ27 ?_
     exact⟨by simp [renL],.inr (by simp),.inr (by rw [Nat.mul_one];omega)⟩
    ·(show zah _ _ _ [Blk.rw ((midS s L 0).flatMap mbC)])
     rw [midS_0]
     exact zaW _
    ·rintro j ⟨hj,hjl⟩
     obtain⟨a,ha⟩:∃ a,a=2 * s * j:=⟨_,rfl⟩
     have hb:2 * s * (j+1)=a+2 * s:=by rw [Nat.mul_add,Nat.mul_one,ha]
     have hend:=midS_end (s:=s) (j:=j) (L:=L) (by omega) hj
     have hstep:=midS_step (s:=s) (j:=j) (L:=L) (by omega)
     dsimp only at hj ⊢
     rw [hb] at hend hstep ⊢
     rw [← ha] at hj hend hstep ⊢
     refine aQ61 ?_
     refine⟨fun hle=>?_,fun hgt=>?_⟩
     ·obtain⟨A,B,Y,f1,f2,l1,l2,l3,hA,hB⟩:=hstep (by omega)
      have fl:=congrArg List.length f1
      have fl2:=congrArg List.length f2
      simp only [List.length_append,zcs] at fl fl2
      have hs:=sym (midS s L j) (midS s L (j+1)) a (a+s) (a+2 * s) ⟨_,A,B,Y,f1,f2,l1,by omega,by omega,by omega,by omega,hA,hB,by omega⟩
      try simp -implicitDefEqProofs only [LM9,eq_self,zao,zag,zaf,zav,Nat.zero_mul,show (a:Int)+(s:Int)=((a+s:Nat):Int) by omega,TB,SB,Int.reduceToNat,Nat.reduceAdd,Nat.reduceEqDiff,Nat.reduceLT,Nat.reduceMod,Nat.reducePow,Nat.reduceSub,if_true,reduceIte]
      repeat (with_reducible refine And.intro aQ15 ?_)
      generalize hR:midS s L j=R at hs ⊢
      generalize hR1:midS s L (j+1)=R1 at hs fl2
      refine ACalls.frame ([0]) (hs) rfl (by decide) (by simp [LM1,zah,zad,renL,AV.ren,AEnd.ren,zac,mbF.fren,zaa,zae,List.getElem?_cons_zero,List.getElem?_cons_succ]) (by first | rfl | simp [LM1,zah,zad,renL,AV.ren,AEnd.ren,zac,mbF.fren,zaa,zae,List.getElem?_cons_zero,List.getElem?_cons_succ]) ?_
      rintro _ _ ⟨rfl,rfl⟩
      refine⟨.ret (.tup []),[.rw (R1.flatMap mbC)],(by show zad _ _ ([0]) ([0]) 0 _;simp [LM1,zah,zad,renL,AV.ren,AEnd.ren,zac,mbF.fren,zaa,zae,List.getElem?_cons_zero,List.getElem?_cons_succ]),(by show AEnd.ren ([0]) _ _;first | rfl | simp [LM1,zah,zad,renL,AV.ren,AEnd.ren,zac,mbF.fren,zaa,zae,List.getElem?_cons_zero,List.getElem?_cons_succ]),?_⟩
      refine aQ61 ?_
      repeat (with_reducible refine And.intro aQ15 ?_)
      rw [zam]
      refine⟨j+1,⟨by rw [hb];omega,by rw [hR1];omega⟩,by (show L.length - 2 * s * (j+1) < L.length - 2 * s * j);rw [hb,← ha];omega,zak (q:=[0]) rfl rfl (by decide) ?_ ?_⟩
      ·have hb2:2 * s * (j+1+1)=a+2 * s+2 * s:=by rw [Nat.mul_add,Nat.mul_one,hb]
       rw [hb2,hb]
       refine aQ27 ?_
       try exact⟨by simp [renL],.inr (by omega)⟩
      ·(show zah _ _ _ [Blk.rw ((midS s L (j+1)).flatMap mbC)])
       rw [hR1]
       exact zaW _
     ·obtain⟨hm1,hm2⟩:=hend (by omega)
      refine⟨by unfold inI;omega,fun hlt2=>?_,fun hge2=>?_⟩
      ·obtain⟨A,B,f1,f2,l1,l2,l3,hA,hB⟩:=hm1 (by omega)
       have hs:=sym (midS s L j) (allS (2 * s) L) a (a+s) L.length ⟨_,A,B,[],f1,f2,l1,by omega,by omega,by omega,by omega,hA,hB,by rw [List.length_nil];omega⟩
       try simp -implicitDefEqProofs only [LM9,eq_self,zao,zag,zaf,zav,Nat.zero_mul,show (a:Int)+(s:Int)=((a+s:Nat):Int) by omega,TB,SB,Int.reduceToNat,Nat.reduceAdd,Nat.reduceEqDiff,Nat.reduceLT,Nat.reduceMod,Nat.reducePow,Nat.reduceSub,if_true,reduceIte]
       generalize hR:midS s L j=R at hs ⊢
       generalize hR1:allS (2 * s) L=R1 at hs
       refine ACalls.frame ([0]) (hs) rfl (by decide) (by simp [LM1,zah,zad,renL,AV.ren,AEnd.ren,zac,mbF.fren,zaa,zae,List.getElem?_cons_zero,List.getElem?_cons_succ]) (by first | rfl | simp [LM1,zah,zad,renL,AV.ren,AEnd.ren,zac,mbF.fren,zaa,zae,List.getElem?_cons_zero,List.getElem?_cons_succ]) ?_
       rintro _ _ ⟨rfl,rfl⟩
       refine⟨.ret (.tup []),[.rw (R1.flatMap mbC)],(by show zad _ _ ([0]) ([0]) 0 _;simp [LM1,zah,zad,renL,AV.ren,AEnd.ren,zac,mbF.fren,zaa,zae,List.getElem?_cons_zero,List.getElem?_cons_succ]),(by show AEnd.ren ([0]) _ _;first | rfl | simp [LM1,zah,zad,renL,AV.ren,AEnd.ren,zac,mbF.fren,zaa,zae,List.getElem?_cons_zero,List.getElem?_cons_succ]),?_⟩
       refine aQ61 ?_
       repeat (with_reducible refine And.intro aQ15 ?_)
       rw [zam]
       refine⟨2 * s,⟨by omega,by omega⟩,by (show L.length - 2 * s < L.length - s);omega,zak (q:=[0]) rfl rfl (by decide) ?_ ?_⟩
       ·refine aQ27 ?_
        try exact⟨by simp [renL],.inr (by omega)⟩
       ·(show zah _ _ _ [Blk.rw ((allS (2 * s) L).flatMap mbC)])
        rw [hR1]
        exact zaW _
      ·rw [hm2 (by omega)]
       refine aQ61 ?_
       repeat (with_reducible refine And.intro aQ15 ?_)
       rw [zam]
       refine⟨2 * s,⟨by omega,by omega⟩,by (show L.length - 2 * s < L.length - s);omega,zak (q:=[0]) rfl rfl (by decide) ?_ ?_⟩
       ·refine aQ27 ?_
        try exact⟨by simp [renL],.inr (by omega)⟩
       ·exact zaW _
theorem sortN:zhZ 1000000:=fun L hL=>by
 have h:=mstableN_ok L hL
 unfold zb6 at h ⊢
 refine ACalls.body T_ok Tryz.func124 (by kernel_rfl) rfl Tryz.ntmps124 (congrArg Array.toList Tryz.results124) ?_
 refine aQ61 ?_
 refine ACalls.frame ([0]) (h) rfl (by decide) (by simp [LM1,zah,zad,renL,AV.ren,AEnd.ren,zac,mbF.fren,zaa,zae,List.getElem?_cons_zero,List.getElem?_cons_succ]) (by first | rfl | simp [LM1,zah,zad,renL,AV.ren,AEnd.ren,zac,mbF.fren,zaa,zae,List.getElem?_cons_zero,List.getElem?_cons_succ]) ?_
 rintro _ _ ⟨rfl,rfl⟩
 refine⟨.ret (.tup []),[.rw ((zaT L).flatMap mbC)],(by show zad _ _ ([0]) ([0]) 0 _;simp [LM1,zah,zad,renL,AV.ren,AEnd.ren,zac,mbF.fren,zaa,zae,List.getElem?_cons_zero,List.getElem?_cons_succ]),(by show AEnd.ren ([0]) _ _;first | rfl | simp [LM1,zah,zad,renL,AV.ren,AEnd.ren,zac,mbF.fren,zaa,zae,List.getElem?_cons_zero,List.getElem?_cons_succ]),?_⟩
 refine aQ61 ?_
 exact zau ⟨rfl,rfl⟩
end Go.Proofs.YtnghkomgefieoaaGreatDoor
end

section
namespace Go.Proofs.YtnghkomgefieoaaGreatDoor
open Go Go.Eng
theorem dec_dg:∀ (u:Nat) (c:UInt8),c∈Go.Lib.decDigits u→isDg c=true:=by
 intro u
 induction u using Nat.strongRecOn with
 | _ u ih =>
  intro c hc
  rw [Go.Lib.decDigits] at hc
  rw [isDg_iff]
  split at hc
  ·rename_i h
   simp only [List.mem_cons,List.not_mem_nil,or_false] at hc
   subst hc
   rw [UInt8.toNat_ofNat']
   omega
  ·rcases List.mem_append.1 hc with hc | hc
   ·exact isDg_iff.1 (ih (u / 10) (by omega) c hc)
   ·simp only [List.mem_cons,List.not_mem_nil,or_false] at hc
    subst hc
    rw [UInt8.toNat_ofNat']
    omega
theorem digV_app:∀ (a b:List UInt8) (n:Nat),digV n (a++b)=digV (digV n a) b
 | [],_,_=>rfl
 | c::a,b,n=>digV_app a b (10 * n+(c.toNat - 48))
theorem dec_val:∀ u:Nat,digV 0 (Go.Lib.decDigits u)=u:=by
 intro u
 induction u using Nat.strongRecOn with
 | _ u ih =>
  rw [Go.Lib.decDigits]
  split
  ·rename_i h
   show 10 * 0+((UInt8.ofNat (48+u)).toNat - 48)=u
   rw [UInt8.toNat_ofNat']
   omega
  ·rw [digV_app,ih (u / 10) (by omega)]
   show 10 * (u / 10)+((UInt8.ofNat (48+u % 10)).toNat - 48)=u
   rw [UInt8.toNat_ofNat']
   omega
theorem dec_head:∀ u:Nat,0 < u→(Go.Lib.decDigits u).head?≠some 48:=by
 intro u
 induction u using Nat.strongRecOn with
 | _ u ih =>
  intro hu
  rw [Go.Lib.decDigits]
  split
  ·rename_i h
   intro e
   have e:=Option.some.inj e
   have:=congrArg UInt8.toNat e
   rw [UInt8.toNat_ofNat'] at this
   change (48+u) % 256=48 at this
   omega
  ·rename_i h
   have:=ih (u / 10) (by omega) (by omega)
   cases hd:Go.Lib.decDigits (u / 10) with
   | nil=>exact absurd hd (zhX _)
   | cons c t=>rw [hd] at this;exact this
theorem zhC {p:UInt8→Bool}:∀ (a b:List UInt8),(∀ c,c∈a→p c=true)→(∀ c,b.head?=some c→p c=false)→runL p (a++b)=a.length
 | [],b,_,hb=>by
  cases b with
  | nil=>rfl
  | cons c t=>simp [runL,hb c rfl]
 | c::a,b,ha,hb=>by
  rw [List.cons_append,runL,if_pos (ha c (List.mem_cons_self ..)),zhC a b (fun x hx=>ha x (List.mem_cons_of_mem _ hx)) hb,List.length_cons]
theorem dec_wide (u:Nat) (b:List UInt8) (hb:∀ c,b.head?=some c→isDg c=false):digW (Go.Lib.decDigits u++b)=(Go.Lib.decDigits u).length:=by
 unfold digW
 by_cases hu:u=0
 ·subst hu
  rw [show Go.Lib.decDigits 0=[48] by rw [Go.Lib.decDigits];rfl]
  rfl
 ·have h1:=dec_head u (by omega)
  have h2:(Go.Lib.decDigits u++b).head?≠some 48:=by
   cases hd:Go.Lib.decDigits u with
   | nil=>exact absurd hd (zhX _)
   | cons c t=>rw [hd] at h1;exact h1
  rw [if_neg h2]
  exact zhC _ _ (dec_dg u) hb
theorem dec_noneg (u:Nat) (b:List UInt8):zb5 (Go.Lib.decDigits u++b)=false:=by
 cases hd:Go.Lib.decDigits u with
 | nil=>exact absurd hd (zhX _)
 | cons c t =>
  have:=isDg_iff.1 (dec_dg u c (by rw [hd];exact List.mem_cons_self ..))
  refine decide_eq_false fun e=>?_
  rw [Option.some.inj (show some c=some 45 from e)] at this
  exact absurd this.1 (by decide)
theorem numPL_itoa {n:Int} (hn:inI n) (b:List UInt8) (hb:∀ c,b.head?=some c→isDg c=false):zcW (Go.Lib.itoa n++b)=some (n,(Go.Lib.itoa n).length):=by
 unfold inI at hn
 unfold Go.Lib.itoa
 split
 ·rename_i h
  have hneg:zb5 (45::Go.Lib.decDigits n.natAbs++b)=true:=rfl
  have hne:(Go.Lib.decDigits n.natAbs).length≠0:=fun e=>zhX _ (List.eq_nil_of_length_eq_zero e)
  unfold zcW
  dsimp only
  rw [hneg,if_pos rfl,List.cons_append,List.drop_succ_cons,List.drop_zero,dec_wide _ _ hb,if_neg hne,if_pos rfl,List.take_left,dec_val,if_pos (by omega),List.length_cons]
  exact congrArg some (Prod.ext (show -(n.natAbs:Int)=n by omega) (Nat.add_comm _ _))
 ·rename_i h
  have hneg:=dec_noneg n.toNat b
  have hne:(Go.Lib.decDigits n.toNat).length≠0:=fun e=>zhX _ (List.eq_nil_of_length_eq_zero e)
  unfold zcW
  dsimp only
  simp only [hneg,Bool.false_eq_true,if_false,List.drop_zero,Nat.zero_add]
  rw [dec_wide _ _ hb,if_neg hne,List.take_left,dec_val,if_pos (by omega)]
  exact congrArg some (Prod.ext (show (n.toNat:Int)=n by omega) rfl)
end Go.Proofs.YtnghkomgefieoaaGreatDoor
end

section
namespace Go.Proofs.YtnghkomgefieoaaGreatDoor
open Go Go.Eng
theorem hexV_D:∀ n,n < 16→hexV (hexD n)=some (UInt8.ofNat n):=by decide +kernel
theorem nib_all:∀ n,n < 256→((UInt8.ofNat (n / 16)) <<< 4 ||| UInt8.ofNat (n % 16))=UInt8.ofNat n:=by decide +kernel
theorem nib (c:UInt8):((UInt8.ofNat (c.toNat / 16)) <<< 4 ||| UInt8.ofNat (c.toNat % 16))=c:=by
 rw [nib_all c.toNat c.toNat_lt,UInt8.ofNat_toNat]
theorem esc_short {c:UInt8} (r:List UInt8) (h:c=34∨c=92):escV (c::r)=some (c,1):=by
 have hs:zeA c=some c:=by rw [zeA,if_pos (by rcases h with h | h <;> simp [h])]
 have hq:escQ (c::r)=(c,1,true):=by
  unfold escQ
  rw [if_neg (by simp),if_pos (by rw [List.getD_cons_zero,hs];rfl),List.getD_cons_zero,hs]
  rfl
 unfold escV
 rw [hq]
 rfl
theorem esc_hex (c:UInt8) (r:List UInt8):escV (117::48::48::hexD (c.toNat / 16)::hexD (c.toNat % 16)::r)=some (c,5):=by
 have hb:c.toNat < 256:=c.toNat_lt
 have hq:escQ (117::48::48::hexD (c.toNat / 16)::hexD (c.toNat % 16)::r)=(c,5,true):=by
  unfold escQ
  rw [if_neg (by simp),if_neg (by rw [List.getD_cons_zero];decide),if_neg (by simp),if_pos (show List.take 3 (117::48::48::hexD (c.toNat / 16)::hexD (c.toNat % 16)::r)=[117,48,48] from rfl)]
  simp only [List.getD_cons_succ,List.getD_cons_zero]
  rw [hexV_D _ (by omega),hexV_D _ (by omega)]
  show (((UInt8.ofNat (c.toNat / 16)) <<< 4 ||| UInt8.ofNat (c.toNat % 16)),5,true)=_
  rw [nib]
 unfold escV
 rw [hq]
 rfl
theorem qbL_quo (z:List UInt8):∀ s:List UInt8,qbL (quoT s++(34::z))=some (s,(quoT s).length+1)
 | []=>by
  show qbL (34::z)=_
  rw [zcE,if_neg (by decide),if_pos rfl]
  rfl
 | c::s=>by
  have ih:=qbL_quo z s
  rw [show quoT (c::s)=quoB c++quoT s from List.flatMap_cons ..,List.append_assoc]
  unfold quoB
  split
  ·rename_i h
   show qbL (92::c::(quoT s++34::z))=_
   rw [zcE,if_neg (by decide),if_neg (by decide),if_pos rfl,esc_short _ h]
   dsimp only
   rw [List.drop_succ_cons,List.drop_zero,ih]
   refine aQ63 ?_
   exact congrArg some (Prod.ext rfl (by dsimp only;omega))
  ·rename_i h
   split
   ·rename_i h2
    show qbL (c::(quoT s++34::z))=_
    rw [zcE,if_neg (by omega),if_neg (fun e=>h (.inl e)),if_neg (fun e=>h (.inr e)),ih]
    refine aQ63 ?_
    exact congrArg some (Prod.ext rfl (by dsimp only;omega))
   ·show qbL (92::117::48::48::hexD (c.toNat / 16)::hexD (c.toNat % 16)::(quoT s++34::z))=_
    rw [zcE,if_neg (by decide),if_neg (by decide),if_pos rfl,esc_hex]
    dsimp only
    simp only [List.drop_succ_cons,List.drop_zero]
    rw [ih]
    refine aQ63 ?_
    exact congrArg some (Prod.ext rfl (by dsimp only;omega))
theorem quoL_quo (s z:List UInt8):quoL (quoS s++z)=some (s,(quoS s).length):=by
 rw [quoS,List.cons_append,List.append_assoc]
 show (if (some (34:UInt8)=some 34) then (qbL (quoT s++(34::z))).map fun x=>(x.1,1+x.2) else none)=_
 rw [if_pos rfl,qbL_quo]
 refine aQ63 ?_
 exact congrArg some (Prod.ext rfl (by dsimp only;omega))
end Go.Proofs.YtnghkomgefieoaaGreatDoor
end

section
namespace Go.Proofs.YtnghkomgefieoaaGreatDoor
open Go Go.Eng
theorem zdP {w t:List UInt8} (hw:∀ c,c∈w→isBl c=true) (ht:∀ c,t.head?=some c→isBl c=false):zax (w++t)=w.length:=zhC w t hw ht
theorem zhD {t:List UInt8} (ht:∀ c,t.head?=some c→isBl c=false):zax t=0:=by
 have:=zdP (w:=[]) (t:=t) (fun c hc=>by cases hc) ht
 exact this
def HD (v:List UInt8):Prop:=∃ c t,v=c::t∧isBl c=false∧c≠93∧c≠125∧c≠44
theorem HD.skip {v z:List UInt8} (h:HD v):∀ c,(v++z).head?=some c→isBl c=false:=by
 obtain⟨c,t,rfl,h1,_⟩:=h
 intro x hx
 rw [← Option.some.inj (show some c=some x from hx)]
 exact h1
theorem HD.end {v z:List UInt8} {e:UInt8} (h:HD v) (he:e=93∨e=125∨e=44):¬ (v++z).head?=some e:=by
 obtain⟨c,t,rfl,_,h1,h2,h3⟩:=h
 intro hx
 have:=Option.some.inj (show some c=some e from hx)
 subst this
 rcases he with h | h | h
 ·exact h1 h
 ·exact h2 h
 ·exact h3 h
section
variable (I : Nat → List UInt8) (w1 w2 : List UInt8) (e : UInt8) (z : List UInt8)
def zbu:Nat→Nat→List UInt8
 | 0,_=>w2++e::z
 | c+1,j=>44::(w1++(I j++zbu c (j+1)))
def noDg (z:List UInt8):Prop:=∀ c,z.head?=some c→isDg c=false
variable {I w1 w2 e z} {γ : Type} {step : γ → Nat → List UInt8 → Except Nat (γ × Nat)} {G : Nat → γ → Prop} {k : Nat}
theorem tail_dg (hw2:∀ c,c∈w2→isBl c=true) (he:e=93∨e=125) (c j:Nat):noDg (zbu I w1 w2 e z c j):=by
 intro x hx
 cases c with
 | zero =>
  rw [zbu] at hx
  cases w2 with
  | nil =>
   rw [← Option.some.inj (show some e=some x from hx)]
   rcases he with rfl | rfl <;> decide
  | cons a t =>
   have ha:=hw2 a (List.mem_cons_self ..)
   rw [← Option.some.inj (show some a=some x from hx)]
   simp only [isBl,Bool.or_eq_true,beq_iff_eq] at ha
   rcases ha with ((rfl | rfl) | rfl) | rfl <;> decide
 | succ c =>
  rw [← Option.some.inj (show some (44:UInt8)=some x from hx)]
  decide
theorem zgi {n:Nat} {first:Bool} {g:γ} {p:Nat} {l:List UInt8} (h:l.head?=some e):zbl e step (n+1) first g p l=.ok (g,1):=by rw [zbl,if_pos h]
theorem rowsG_on {n w c b k' p:Nat} {first:Bool} {g g' g'':γ} {l:List UInt8} (h1:¬ l.head?=some e) (h2:first=true∨l.head?=some 44) (hw:w=if first then 0 else 1+zax (l.drop 1)) (h3:step g (p+w) (l.drop w)=.ok (g',c)) (hb:b=w+c+zax (l.drop (w+c))) (h4:zbl e step n false g' (p+b) (l.drop b)=.ok (g'',k')):zbl e step (n+1) first g p l=.ok (g'',b+k'):=by
 subst hw hb
 rw [zbl,if_neg h1,if_neg (by rcases h2 with h2 | h2 <;> simp [h2])]
 dsimp only
 rw [h3]
 dsimp only
 rw [h4]
theorem rows_gen (he:e=93∨e=125) (hw1:∀ c,c∈w1→isBl c=true) (hw2:∀ c,c∈w2→isBl c=true) (hI:∀ j,j < k→HD (I j))
  (hs:∀ j,j < k→∀ g pos z',G j g→noDg z'→∃ g',step g pos (I j++z')=.ok (g',(I j).length)∧G (j+1) g') :
  ∀ (c j fuel pos:Nat) (g:γ),j+c=k→c < fuel→G j g→∃ g' n,zbl e step fuel false g pos ((zbu I w1 w2 e z c j).drop (zax (zbu I w1 w2 e z c j)))=.ok (g',n)∧n+zax (zbu I w1 w2 e z c j)+z.length=(zbu I w1 w2 e z c j).length∧G k g':=by
 have hbe:isBl e=false:=by rcases he with rfl | rfl <;> decide
 have hne:e≠44:=by rcases he with rfl | rfl <;> decide
 intro c
 induction c with
 | zero =>
  intro j fuel pos g hj hf hg
  obtain⟨fuel,rfl⟩:∃ f,fuel=f+1:=⟨fuel - 1,by omega⟩
  have hsk:zax (w2++e::z)=w2.length:=zdP hw2 fun x hx=>by rw [← Option.some.inj (show some e=some x from hx)];exact hbe
  rw [zbu,hsk,List.drop_left]
  refine⟨g,1,zgi rfl,?_,by rwa [show k=j by omega]⟩
  rw [List.length_append,List.length_cons]
  omega
 | succ c ih =>
  intro j fuel pos g hj hf hg
  obtain⟨fuel,rfl⟩:∃ f,fuel=f+1:=⟨fuel - 1,by omega⟩
  have hsk:zax (zbu I w1 w2 e z (c+1) j)=0:=zhD fun x hx=>by rw [← Option.some.inj (show some (44:UInt8)=some x from hx)];decide
  rw [hsk,List.drop_zero,zbu]
  have hs1:zax ((44::(w1++(I j++zbu I w1 w2 e z c (j+1)))).drop 1)=w1.length:=zdP hw1 (hI j (by omega)).skip
  have hd:(44::(w1++(I j++zbu I w1 w2 e z c (j+1)))).drop (1+w1.length)=I j++zbu I w1 w2 e z c (j+1):=by
   rw [Nat.add_comm,List.drop_succ_cons,List.drop_left]
  have hd2:(44::(w1++(I j++zbu I w1 w2 e z c (j+1)))).drop (1+w1.length+(I j).length)=zbu I w1 w2 e z c (j+1):=by
   rw [← List.drop_drop,hd,List.drop_left]
  obtain⟨g',h1,h2⟩:=hs j (by omega) g (pos+(1+w1.length)) _ hg (tail_dg (I:=I) (w1:=w1) (z:=z) hw2 he c (j+1))
  obtain⟨g'',n,h3,h4,h5⟩:=ih (j+1) fuel (pos+(1+w1.length+(I j).length+zax (zbu I w1 w2 e z c (j+1)))) g' (by omega) (by omega) h2
  refine⟨g'',_,rowsG_on (fun h=>hne (Option.some.inj (show some (44:UInt8)=some e from h)).symm) (.inr rfl) (w:=1+w1.length) (by rw [hs1];rfl) (by rw [hd];exact h1) (b:=1+w1.length+(I j).length+zax (zbu I w1 w2 e z c (j+1))) (by rw [hd2]) (by rw [← List.drop_drop,hd2];exact h3),?_,h5⟩
  simp only [List.length_cons,List.length_append]
  omega
theorem rows_all (he:e=93∨e=125) (hw1:∀ c,c∈w1→isBl c=true) (hw2:∀ c,c∈w2→isBl c=true) (hI:∀ j,j < k→HD (I j))
  (hs:∀ j,j < k→∀ g pos z',G j g→noDg z'→∃ g',step g pos (I j++z')=.ok (g',(I j).length)∧G (j+1) g') (c fuel pos:Nat) (g:γ) (hc:1+c=k) (hf:c+1 < fuel) (hg:G 0 g) :
  ∃ g' n,zbl e step fuel true g pos (I 0++zbu I w1 w2 e z c 1)=.ok (g',n)∧n+z.length=(I 0).length+(zbu I w1 w2 e z c 1).length∧G k g':=by
 obtain⟨fuel,rfl⟩:∃ f,fuel=f+1:=⟨fuel - 1,by omega⟩
 have hd2:(I 0++zbu I w1 w2 e z c 1).drop (0+(I 0).length)=zbu I w1 w2 e z c 1:=by rw [Nat.zero_add,List.drop_left]
 obtain⟨g',h1,h2⟩:=hs 0 (by omega) g pos _ hg (tail_dg (I:=I) (w1:=w1) (z:=z) hw2 he c 1)
 obtain⟨g'',n,h3,h4,h5⟩:=rows_gen he hw1 hw2 hI hs c 1 fuel (pos+(0+(I 0).length+zax (zbu I w1 w2 e z c 1))) g' (by omega) (by omega) h2
 refine⟨g'',_,rowsG_on ((hI 0 (by omega)).end (by rcases he with h | h <;> simp [h])) (.inl rfl) (w:=0) rfl h1 (b:=0+(I 0).length+zax (zbu I w1 w2 e z c 1)) (by rw [hd2]) (by rw [← List.drop_drop,hd2];exact h3),?_,h5⟩
 omega
end
end Go.Proofs.YtnghkomgefieoaaGreatDoor
end

section
namespace Go.Proofs.YtnghkomgefieoaaGreatDoor
open Go Go.Eng
def seg (R:List Nd) (a e:Nat):List Nd:=(R.take e).drop a
theorem seg_app {R:List Nd} {a b e:Nat} (h1:a≤b) (h2:b≤e) (h3:e≤R.length):seg R a e=seg R a b++seg R b e:=by
 unfold seg
 have hb:R.take b=(R.take e).take b:=by rw [List.take_take,Nat.min_eq_left h2]
 rw [hb]
 conv=>lhs;rw [← List.take_append_drop b (R.take e)]
 rw [List.drop_append_of_le_length (by simp;omega)]
theorem zeT {R:List Nd} {a e:Nat} (h1:a < e) (h2:e≤R.length):seg R a e=R.getD a n0d::seg R (a+1) e:=by
 unfold seg
 rw [List.drop_eq_getElem_cons (by simp;omega),List.getElem_take,List.getD_eq_getElem?_getD,List.getElem?_eq_getElem (by omega)]
 rfl
theorem seg_nil (R:List Nd) (a:Nat):seg R a a=[]:=by
 unfold seg
 exact List.drop_eq_nil_of_le (by simp;omega)
theorem seg_flat {R:List Nd} (a:Nat→Nat):∀ k,(∀ j,j < k→a j≤a (j+1))→a k≤R.length→seg R (a 0) (a k)=(List.range k).flatMap fun j=>seg R (a j) (a (j+1)):=by
 intro k
 induction k with
 | zero=>intro _ _;rw [seg_nil];rfl
 | succ k ih =>
  intro h1 h2
  have mono:∀ i,i≤k→a 0≤a i:=by
   intro i
   induction i with
   | zero=>intro _;exact Nat.le_refl _
   | succ i ihi=>intro hi;exact Nat.le_trans (ihi (by omega)) (h1 i (by omega))
  have hk:=h1 k (by omega)
  rw [seg_app (mono k (Nat.le_refl _)) hk h2,ih (fun j hj=>h1 j (by omega)) (by omega),List.range_succ,List.flatMap_append]
  simp
def itH (cl:List UInt8) (E:Nat→Nat→List UInt8) (R:List Nd) (mp:Bool) (p o j:Nat):List UInt8:=(if mp then quoS (keyT R mp p j)++cl else [])++E (o+1) (eAt R mp p j+bK mp)
theorem kids_tail (m:Bool) (b:Nat) (cl:List UInt8) (E:Nat→Nat→List UInt8) (R:List Nd) (mp:Bool) (p o:Nat) (w2 z:List UInt8) (e:UInt8):∀ c j,0 < j→(List.range' j c).flatMap (zbc m b cl E R mp p o)++(w2++e::z)=zbu (itH cl E R mp p o) (apS m b (o+1)) w2 e z c j
 | 0,j,_=>rfl
 | c+1,j,h=>by
  rw [zbu,← kids_tail m b cl E R mp p o w2 z e c (j+1) (by omega),List.range'_succ,List.flatMap_cons,zbc,if_neg (by omega),itH]
  simp only [List.append_assoc,List.cons_append,List.nil_append]
theorem zh3 (m:Bool) (b:Nat) (cl:List UInt8) (E:Nat→Nat→List UInt8) (R:List Nd) (mp:Bool) (p o:Nat) (w2 z:List UInt8) (e:UInt8) (c:Nat):kidH m b cl E R mp p o (c+1)++(w2++e::z)=apS m b (o+1)++(itH cl E R mp p o 0++zbu (itH cl E R mp p o) (apS m b (o+1)) w2 e z c 1):=by
 rw [← kids_tail m b cl E R mp p o w2 z e c 1 (by omega),kidH,List.range_eq_range',List.range'_succ,List.flatMap_cons,zbc,if_pos rfl,itH]
 simp only [List.append_assoc,List.nil_append]
theorem zh4 (m:Bool) (b o:Nat):∀ c,c∈apS m b o→isBl c=true:=by
 intro c hc
 cases m with
 | false=>cases hc
 | true =>
  rcases List.mem_cons.1 hc with rfl | hc
  ·decide
  ·rw [List.eq_of_mem_replicate hc];decide
def RD (n:Nat) (T:List UInt8) (x:List Nd):Prop:=HD T∧∀ (tw:Int) (p:Nat) (z:List UInt8),noDg z→pvF n tw p (T++z)=.ok ((x,tw),T.length)
theorem listV_ok {V:PV} {tw tw':Int} {p c:Nat} {l:List UInt8} {xs:List (List Nd)} (h:zbl 93 (zd5 V) (l.length+1) true ([],tw) (p+inW l) (l.drop (inW l))=.ok ((xs,tw'),c)):zfD V tw p l=.ok ((zaF xs,tw'),inW l+c):=by
 rw [zfD,h]
theorem objV_ok {V:PV} {tw:Int} {p c:Nat} {l:List UInt8} {g:GO} (h:zbl 125 (zcf V) (l.length+1) true ([],tw,[]) (p+inW l) (l.drop (inW l))=.ok (g,c)):objV V tw p l=.ok ((objR g.1,g.2.1),inW l+c):=by
 rw [objV,h]
section
variable (n : Nat) (tw : Int) (p : Nat) (t : List UInt8)
theorem zd8 (c:UInt8):pvF (n+1) tw p (c::t)=if c=91 then zfD (pvF n) tw p (c::t) else if c=123 then objV (pvF n) tw p (c::t) else if c=34 then zio tw (c::t) else if c=45∨isDg c=true then zgu tw (c::t) else zgt tw (c::t):=by
 rw [pvF,if_neg (by simp)]
 rfl
end
theorem RD.list (m:Bool) (b:Nat) (cl:List UInt8) (n:Nat) (E:Nat→Nat→List UInt8) (R:List Nd) (p o k:Nat) (xs:Nat→List Nd) (hE:∀ j,j < k→RD n (E (o+1) (eAt R false p j+0)) (xs j)):RD (n+1) (91::(kidH m b cl E R false p o k++(endH m b o k++[93]))) (zaF ((List.range k).map xs)):=by
 refine⟨⟨91,_,rfl,by decide,by decide,by decide,by decide⟩,fun tw q z hz=>?_⟩
 rw [List.cons_append,zd8,if_pos rfl]
 cases k with
 | zero =>
  have hL:∀ l:List UInt8,l=91::93::z→zfD (pvF n) tw q l=.ok ((zaF [],tw),2):=fun l hl=>by
   subst hl
   have hw:inW (91::93::z)=1:=by
    unfold inW
    rw [List.drop_succ_cons,List.drop_zero,zhD (fun c hc=>by rw [← Option.some.inj (show some (93:UInt8)=some c from hc)];decide)]
   have h:=zgi (e:=93) (step:=zd5 (pvF n)) (n:=(91::93::z).length) (first:=true) (g:=(([]:List (List Nd)),tw)) (p:=q+1) (l:=93::z) rfl
   have:=listV_ok (V:=pvF n) (tw:=tw) (p:=q) (l:=91::93::z) (xs:=[]) (tw':=tw) (c:=1) (by rw [hw];exact h)
   rw [this,hw]
  have:=hL _ rfl
  exact this
 | succ c =>
  have hT:(kidH m b cl E R false p o (c+1)++(endH m b o (c+1)++[93]))++z=apS m b (o+1)++(itH cl E R false p o 0++zbu (itH cl E R false p o) (apS m b (o+1)) (apS m b o) 93 z c 1):=by
   rw [← zh3 m b cl E R false p o (apS m b o) z 93 c]
   simp [endH]
  have hit:∀ j,itH cl E R false p o j=E (o+1) (eAt R false p j+0):=fun j=>rfl
  have hI:∀ j,j < c+1→HD (itH cl E R false p o j):=fun j hj=>by rw [hit];exact(hE j hj).1
  have hlen:(kidH m b cl E R false p o (c+1)++(endH m b o (c+1)++[93])).length+z.length=(apS m b (o+1)).length+((itH cl E R false p o 0).length+(zbu (itH cl E R false p o) (apS m b (o+1)) (apS m b o) 93 z c 1).length):=by
   rw [← List.length_append,hT,List.length_append,List.length_append]
  rw [hT]
  have hw:inW (91::(apS m b (o+1)++(itH cl E R false p o 0++zbu (itH cl E R false p o) (apS m b (o+1)) (apS m b o) 93 z c 1)))=1+(apS m b (o+1)).length:=by
   unfold inW
   rw [List.drop_succ_cons,List.drop_zero,zdP (zh4 m b (o+1)) (hI 0 (by omega)).skip]
  have hd:(91::(apS m b (o+1)++(itH cl E R false p o 0++zbu (itH cl E R false p o) (apS m b (o+1)) (apS m b o) 93 z c 1))).drop (1+(apS m b (o+1)).length)=itH cl E R false p o 0++zbu (itH cl E R false p o) (apS m b (o+1)) (apS m b o) 93 z c 1:=by
   rw [Nat.add_comm,List.drop_succ_cons,List.drop_left]
  have tl:∀ c j,c≤(zbu (itH cl E R false p o) (apS m b (o+1)) (apS m b o) 93 z c j).length:=by
   intro c
   induction c with
   | zero=>intro j;exact Nat.zero_le _
   | succ c ih=>intro j;have:=ih (j+1);rw [zbu];simp only [List.length_cons,List.length_append];omega
  have tl1:=tl c 1
  obtain⟨g',n',h1,h2,h3⟩:=rows_all (G:=fun j (g:List (List Nd) × Int)=>g=((List.range j).map xs,tw)) (step:=zd5 (pvF n)) (z:=z) (e:=93) (.inl rfl) (zh4 m b (o+1)) (zh4 m b o) hI (fun j hj g pos z' hg hz'=>by
   subst hg
   refine⟨((List.range (j+1)).map xs,tw),?_,rfl⟩
   rw [zd5,hit,(hE j hj).2 tw pos z' hz',List.range_succ,List.map_append]
   rfl) c ((91::(apS m b (o+1)++(itH cl E R false p o 0++zbu (itH cl E R false p o) (apS m b (o+1)) (apS m b o) 93 z c 1))).length+1) (q+(1+(apS m b (o+1)).length)) ([],tw) (by omega) (by simp only [List.length_cons,List.length_append];omega) rfl
  subst h3
  rw [listV_ok (c:=n') (by rw [hw,hd];exact h1),hw]
  refine congrArg Except.ok (Prod.ext rfl ?_)
  dsimp only
  rw [List.length_cons]
  omega
end Go.Proofs.YtnghkomgefieoaaGreatDoor
end

section
namespace Go.Proofs.YtnghkomgefieoaaGreatDoor
open Go Go.Eng
theorem ksU_sub':∀ (ms:List Mem) (ks:List (List UInt8)) (x:List UInt8),x∈ms.foldl (fun ks m=>zgs ks m.1) ks→x∈ks∨∃ q,q∈ms∧q.1=x
 | [],_,_,h=>.inl h
 | a::ms,ks,x,h=>by
  rcases ksU_sub' ms (zgs ks a.1) x h with h | ⟨q,h1,h2⟩
  ·rw [zgs] at h
   split at h
   ·exact .inl h
   ·rcases List.mem_append.1 h with h | h
    ·exact .inl h
    ·exact .inr ⟨a,List.mem_cons_self ..,(List.mem_singleton.1 h).symm⟩
  ·exact .inr ⟨q,List.mem_cons_of_mem _ h1,h2⟩
theorem ksU_sub (ms:List Mem) (x:List UInt8) (h:x∈ksU ms):∃ q,q∈ms∧q.1=x:=by
 rcases ksU_sub' ms [] x h with h | h
 ·cases h
 ·exact h
def msH (key:Nat→List UInt8) (xs:Nat→List Nd) (j:Nat):List Mem:=(List.range j).map fun i=>(key i,xs i)
theorem msH_succ (key:Nat→List UInt8) (xs:Nat→List Nd) (j:Nat):msH key xs (j+1)=msH key xs j++[(key j,xs j)]:=by
 simp [msH,List.range_succ]
theorem msH_key {key:Nat→List UInt8} {xs:Nat→List Nd} {j:Nat} {q:Mem} (h:q∈msH key xs j):∃ i,i < j∧q.1=key i:=by
 rw [msH,List.mem_map] at h
 obtain⟨i,hi,rfl⟩:=h
 exact⟨i,List.mem_range.1 hi,rfl⟩
theorem msH_asc {key:Nat→List UInt8} {xs:Nat→List Nd} {k:Nat} (h:∀ i j,i < j→j < k→¬ key j < key i):Asc (msH key xs k):=by
 unfold Asc msH
 rw [List.pairwise_map]
 refine List.Pairwise.imp_of_mem (R:=fun i j=>i < j) ?_ List.pairwise_lt_range
 intro i j _ hj hij
 exact h i j hij (List.mem_range.1 hj)
theorem RD.obj (m:Bool) (b:Nat) (w:List UInt8) (hw0:∀ c,c∈w→isBl c=true) (n:Nat) (E:Nat→Nat→List UInt8) (R:List Nd) (p o k:Nat) (xs:Nat→List Nd) (hE:∀ j,j < k→RD n (E (o+1) (eAt R true p j+1)) (xs j))
  (hK:∀ i j,i < j→j < k→¬ keyT R true p j < keyT R true p i∧keyT R true p j≠keyT R true p i):RD (n+1) (123::(kidH m b (58::w) E R true p o k++(endH m b o k++[125]))) (⟨5,0,[],k⟩::(msH (keyT R true p) xs k).flatMap memR):=by
 have hobj:objR (msH (keyT R true p) xs k)=⟨5,0,[],k⟩::(msH (keyT R true p) xs k).flatMap memR:=by
  rw [objR,zbY (msH_asc fun i j h1 h2=>(hK i j h1 h2).1)]
  simp [msH]
 rw [← hobj]
 refine⟨⟨123,_,rfl,by decide,by decide,by decide,by decide⟩,fun tw q z hz=>?_⟩
 rw [List.cons_append,zd8,if_neg (by decide),if_pos rfl]
 cases k with
 | zero =>
  have hL:∀ l:List UInt8,l=123::125::z→objV (pvF n) tw q l=.ok ((objR [],tw),2):=fun l hl=>by
   subst hl
   have hw:inW (123::125::z)=1:=by
    unfold inW
    rw [List.drop_succ_cons,List.drop_zero,zhD (fun c hc=>by rw [← Option.some.inj (show some (125:UInt8)=some c from hc)];decide)]
   have h:=zgi (e:=125) (step:=zcf (pvF n)) (n:=(123::125::z).length) (first:=true) (g:=(([]:List Mem),tw,([]:List Int))) (p:=q+1) (l:=125::z) rfl
   have:=objV_ok (V:=pvF n) (tw:=tw) (p:=q) (l:=123::125::z) (g:=([],tw,[])) (c:=1) (by rw [hw];exact h)
   rw [this,hw]
  have:=hL _ rfl
  exact this
 | succ c =>
  have hT:(kidH m b (58::w) E R true p o (c+1)++(endH m b o (c+1)++[125]))++z=apS m b (o+1)++(itH (58::w) E R true p o 0++zbu (itH (58::w) E R true p o) (apS m b (o+1)) (apS m b o) 125 z c 1):=by
   rw [← zh3 m b (58::w) E R true p o (apS m b o) z 125 c]
   simp [endH]
  have hit:∀ j,itH (58::w) E R true p o j=(quoS (keyT R true p j)++58::w)++E (o+1) (eAt R true p j+1):=fun j=>rfl
  have hI:∀ j,j < c+1→HD (itH (58::w) E R true p o j):=fun j hj=>⟨34,_,rfl,by decide,by decide,by decide,by decide⟩
  have hlen:(kidH m b (58::w) E R true p o (c+1)++(endH m b o (c+1)++[125])).length+z.length=(apS m b (o+1)).length+((itH (58::w) E R true p o 0).length+(zbu (itH (58::w) E R true p o) (apS m b (o+1)) (apS m b o) 125 z c 1).length):=by
   rw [← List.length_append,hT,List.length_append,List.length_append]
  rw [hT]
  have hw:inW (123::(apS m b (o+1)++(itH (58::w) E R true p o 0++zbu (itH (58::w) E R true p o) (apS m b (o+1)) (apS m b o) 125 z c 1)))=1+(apS m b (o+1)).length:=by
   unfold inW
   rw [List.drop_succ_cons,List.drop_zero,zdP (zh4 m b (o+1)) (hI 0 (by omega)).skip]
  have hd:(123::(apS m b (o+1)++(itH (58::w) E R true p o 0++zbu (itH (58::w) E R true p o) (apS m b (o+1)) (apS m b o) 125 z c 1))).drop (1+(apS m b (o+1)).length)=itH (58::w) E R true p o 0++zbu (itH (58::w) E R true p o) (apS m b (o+1)) (apS m b o) 125 z c 1:=by
   rw [Nat.add_comm,List.drop_succ_cons,List.drop_left]
  have tl:∀ c j,c≤(zbu (itH (58::w) E R true p o) (apS m b (o+1)) (apS m b o) 125 z c j).length:=by
   intro c
   induction c with
   | zero=>intro j;exact Nat.zero_le _
   | succ c ih=>intro j;have:=ih (j+1);rw [zbu];simp only [List.length_cons,List.length_append];omega
  have tl1:=tl c 1
  obtain⟨g',n',h1,h2,h3⟩:=rows_all (G:=fun j (g:GO)=>g.1=msH (keyT R true p) xs j∧g.2.1=tw) (step:=zcf (pvF n)) (z:=z) (e:=125) (.inr rfl) (zh4 m b (o+1)) (zh4 m b o) hI (fun j hj g pos z' hg hz'=>by
   obtain⟨hg1,hg2⟩:=hg
   have htw:twK g.1 g.2.1 pos (keyT R true p j)=tw:=by
    rw [twK,if_neg,hg2]
    rintro⟨hx,_⟩
    obtain⟨q',hq1,hq2⟩:=ksU_sub _ _ hx
    rw [hg1] at hq1
    obtain⟨i,hi,hq3⟩:=msH_key hq1
    exact(hK i j hi hj).2 (by rw [← hq2,hq3])
   have hl:itH (58::w) E R true p o j++z'=quoS (keyT R true p j)++(58::(w++(E (o+1) (eAt R true p j+1)++z'))):=by
    rw [hit]
    simp only [List.append_assoc,List.cons_append]
   have hb0:(itH (58::w) E R true p o j++z').drop (quoS (keyT R true p j)).length=58::(w++(E (o+1) (eAt R true p j+1)++z')):=by rw [hl,List.drop_left]
   have hs0:zax (58::(w++(E (o+1) (eAt R true p j+1)++z')))=0:=zhD fun x hx=>by rw [← Option.some.inj (show some (58:UInt8)=some x from hx)];decide
   have hb1:(itH (58::w) E R true p o j++z').drop ((quoS (keyT R true p j)).length+1)=w++(E (o+1) (eAt R true p j+1)++z'):=by rw [← List.drop_drop,hb0,List.drop_succ_cons,List.drop_zero]
   have hs1:zax (w++(E (o+1) (eAt R true p j+1)++z'))=w.length:=zdP hw0 (hE j hj).1.skip
   have hb2:(itH (58::w) E R true p o j++z').drop ((quoS (keyT R true p j)).length+1+w.length)=E (o+1) (eAt R true p j+1)++z':=by rw [← List.drop_drop,hb1,List.drop_left]
   refine⟨(g.1++[(keyT R true p j,xs j)],tw,zhk (ksU g.1) g.2.2 (keyT R true p j) pos),(ziB (V:=pvF n) (g:=g) (p:=pos) (key:=keyT R true p j) (c:=(quoS (keyT R true p j)).length) (b:=(quoS (keyT R true p j)).length) (b2:=(quoS (keyT R true p j)).length+1+w.length) (x:=(xs j,tw)) (c2:=(E (o+1) (eAt R true p j+1)).length) (by rw [hl];exact quoL_quo _ _) (by rw [hb0,hs0,Nat.add_zero]) (by rw [hb0];rfl) (by rw [hb1,hs1]) (by rw [hb2,htw];exact(hE j hj).2 tw _ z' hz')).trans ?_,?_,rfl⟩
   ·refine congrArg Except.ok (Prod.ext rfl ?_)
    dsimp only
    rw [hit]
    simp only [List.length_append,List.length_cons]
    omega
   ·rw [msH_succ,← hg1]) c ((123::(apS m b (o+1)++(itH (58::w) E R true p o 0++zbu (itH (58::w) E R true p o) (apS m b (o+1)) (apS m b o) 125 z c 1))).length+1) (q+(1+(apS m b (o+1)).length)) ([],tw,[]) (by omega) (by simp only [List.length_cons,List.length_append];omega) ⟨rfl,rfl⟩
  rw [objV_ok (c:=n') (by rw [hw,hd];exact h1),hw,h3.1,h3.2]
  refine congrArg Except.ok (Prod.ext rfl ?_)
  dsimp only
  rw [List.length_cons]
  omega
end Go.Proofs.YtnghkomgefieoaaGreatDoor
end

section
namespace Go.Proofs.YtnghkomgefieoaaGreatDoor
open Go Go.Eng
theorem zbE {n:Nd} (h:zbt n=true):0≤n.kind∧n.kind≤5∧n=zhd n:=by
 simp only [zbt,Bool.and_eq_true,decide_eq_true_eq] at h
 exact⟨h.1.1,h.1.2,h.2⟩
theorem want0 {n:Nd} (h:zbt n=true) (hk:n.kind=0):n=⟨0,0,[],0⟩:=by
 obtain⟨_,_,e⟩:=zbE h
 rw [e,zhd,hk];rfl
theorem want1 {n:Nd} (h:zbt n=true) (hk:n.kind=1):n=⟨1,if n.num=1 then 1 else 0,[],0⟩:=by
 obtain⟨_,_,e⟩:=zbE h
 conv=>lhs;rw [e,zhd,if_pos hk]
 split <;> rfl
theorem want2 {n:Nd} (h:zbt n=true) (hk:n.kind=2):n=⟨2,n.num,[],0⟩:=by
 obtain⟨_,_,e⟩:=zbE h
 conv=>lhs;rw [e,zhd,if_neg (by omega),if_pos hk]
theorem want3 {n:Nd} (h:zbt n=true) (hk:n.kind=3):n=⟨3,0,n.text,0⟩:=by
 obtain⟨_,_,e⟩:=zbE h
 conv=>lhs;rw [e,zhd,if_neg (by omega),if_neg (by omega),if_pos hk]
theorem want45 {n:Nd} (h:zbt n=true) (hk:n.kind=4∨n.kind=5):n=⟨n.kind,0,[],n.kids.toNat⟩:=by
 obtain⟨_,_,e⟩:=zbE h
 have h0:=zf9 h
 conv=>lhs;rw [e,zhd,if_neg (by omega),if_neg (by omega),if_neg (by omega),if_pos hk]
 rw [Nd.mk.injEq]
 exact⟨rfl,rfl,rfl,by omega⟩
theorem zfQ:∀ (w z:List UInt8),zcX w (w++z)=w.length
 | [],_=>by rw [zcX];rfl
 | a::w,z=>by rw [List.cons_append,zcX,if_pos rfl,zfQ w z];rfl
theorem RD.word {n:Nat} {w:List UInt8} {x:Nd} (h:(w,x)=(wNull,⟨0,0,[],0⟩)∨(w,x)=(wFalse,⟨1,0,[],0⟩)∨(w,x)=(wTrue,⟨1,1,[],0⟩)):RD (n+1) w [x]:=by
 rcases h with h | h | h
 ·obtain⟨rfl,rfl⟩:=Prod.mk.inj h
  refine⟨⟨110,_,rfl,by decide,by decide,by decide,by decide⟩,fun tw p z hz=>?_⟩
  have hw:zeB wNull ⟨0,0,[],0⟩ tw (wNull++z)=.ok (([⟨0,0,[],0⟩],tw),wNull.length):=by rw [zeB,if_pos (zfQ _ _)]
  refine(zd8 n tw p ([117,108,108]++z) 110).trans ?_
  rw [if_neg (by decide),if_neg (by decide),if_neg (by decide),if_neg (by decide)]
  exact hw
 ·obtain⟨rfl,rfl⟩:=Prod.mk.inj h
  refine⟨⟨102,_,rfl,by decide,by decide,by decide,by decide⟩,fun tw p z hz=>?_⟩
  have hw:zeB wFalse ⟨1,0,[],0⟩ tw (wFalse++z)=.ok (([⟨1,0,[],0⟩],tw),wFalse.length):=by rw [zeB,if_pos (zfQ _ _)]
  refine(zd8 n tw p ([97,108,115,101]++z) 102).trans ?_
  rw [if_neg (by decide),if_neg (by decide),if_neg (by decide),if_neg (by decide)]
  exact hw
 ·obtain⟨rfl,rfl⟩:=Prod.mk.inj h
  refine⟨⟨116,_,rfl,by decide,by decide,by decide,by decide⟩,fun tw p z hz=>?_⟩
  have hw:zeB wTrue ⟨1,1,[],0⟩ tw (wTrue++z)=.ok (([⟨1,1,[],0⟩],tw),wTrue.length):=by rw [zeB,if_pos (zfQ _ _)]
  refine(zd8 n tw p ([114,117,101]++z) 116).trans ?_
  rw [if_neg (by decide),if_neg (by decide),if_neg (by decide),if_neg (by decide)]
  exact hw
theorem itoa_head (v:Int):∃ c t,Go.Lib.itoa v=c::t∧(c=45∨isDg c=true):=by
 unfold Go.Lib.itoa
 split
 ·exact⟨45,_,rfl,.inl rfl⟩
 ·cases hd:Go.Lib.decDigits v.toNat with
  | nil=>exact absurd hd (zhX _)
  | cons c t=>exact⟨c,t,rfl,.inr (dec_dg v.toNat c (by rw [hd];exact List.mem_cons_self ..))⟩
theorem num_ne {c:UInt8} (h:c=45∨isDg c=true):isBl c=false∧c≠93∧c≠125∧c≠44∧c≠91∧c≠123∧c≠34:=by
 rcases h with rfl | h
 ·decide
 ·rw [isDg_iff] at h
  have key:∀ d:UInt8,c=d→48≤d.toNat∧d.toNat≤57:=fun d e=>by rw [← e];exact h
  refine⟨?_,fun e=>absurd (key _ e) (by decide),fun e=>absurd (key _ e) (by decide),fun e=>absurd (key _ e) (by decide),fun e=>absurd (key _ e) (by decide),fun e=>absurd (key _ e) (by decide),fun e=>absurd (key _ e) (by decide)⟩
  cases hb:isBl c with
  | false=>rfl
  | true =>
   simp only [isBl,Bool.or_eq_true,beq_iff_eq] at hb
   rcases hb with ((e | e) | e) | e <;> exact absurd (key _ e) (by decide)
theorem RD.num {n:Nat} {v:Int} (hv:inI v):RD (n+1) (Go.Lib.itoa v) [⟨2,v,[],0⟩]:=by
 obtain⟨c,t,hc,hh⟩:=itoa_head v
 obtain⟨h1,h2,h3,h4,h5,h6,h7⟩:=num_ne hh
 refine⟨⟨c,t,hc,h1,h2,h3,h4⟩,fun tw p z hz=>?_⟩
 have hn:zgu tw (Go.Lib.itoa v++z)=.ok (([⟨2,v,[],0⟩],tw),(Go.Lib.itoa v).length):=by rw [zgu,numPL_itoa hv z hz]
 rw [← hn,hc,List.cons_append,zd8,if_neg h5,if_neg h6,if_neg h7,if_pos hh]
theorem RD.text (n:Nat) (s:List UInt8):RD (n+1) (quoS s) [⟨3,0,s,0⟩]:=by
 refine⟨⟨34,_,rfl,by decide,by decide,by decide,by decide⟩,fun tw p z hz=>?_⟩
 have hn:zio tw (quoS s++z)=.ok (([⟨3,0,s,0⟩],tw),(quoS s).length):=by rw [zio,quoL_quo]
 rw [← hn]
 refine(zd8 n tw p _ 34).trans ?_
 rw [if_neg (by decide),if_neg (by decide),if_pos rfl]
 rfl
theorem keys_up {R:List Nd} {p:Nat} {n:Nd} {r:Nat × Nat} (hK:Kids R p n r) (h5:n.kind=5):∀ i j,i < j→j < n.kids.toNat→keyT R true p i < keyT R true p j:=by
 have one:∀ j,j+1 < n.kids.toNat→keyT R true p j < keyT R true p (j+1):=fun j hj=>by
  obtain⟨r',_,_,h⟩:=hK.kid hj
  obtain⟨m,_,_,ht,hl⟩:=h h5
  rw [show decide (n.kind=5)=true from decide_eq_true h5] at ht hl
  have hl:=hl (by omega)
  rw [ht,Nat.add_sub_cancel,leB,Bool.or_eq_false_iff,Go.Proofs.bytesLess_eq] at hl
  have h1:=of_decide_eq_false hl.1
  have h2:=of_decide_eq_false hl.2
  rcases List.le_iff_lt_or_eq.1 (List.not_lt.1 h1) with g | g
  ·exact g
  ·exact absurd g.symm h2
 intro i j
 induction j with
 | zero=>intro h;omega
 | succ j ih =>
  intro h1 h2
  rcases Nat.lt_or_ge i j with h | h
  ·exact List.lt_trans (ih h (by omega)) (one j h2)
  ·obtain rfl:i=j:=by omega
   exact one i h2
theorem fm_congr {f g:Nat→List Nd} {l:List Nat} (h:∀ x,x∈l→f x=g x):l.flatMap f=l.flatMap g:=by
 rw [List.flatMap_def,List.flatMap_def,List.map_congr_left h]
theorem rd_all (m:Bool) (b:Nat) (w:List UInt8) (hw:∀ c,c∈w→isBl c=true) (R:List Nd) (hN:∀ n,n∈R→inI n.num):∀ (f p o:Nat) (r:Nat × Nat) (n:Nat),vl R p=some r→r.1 - p≤f→f≤n→RD n (shF m b (58::w) f R o p) (seg R p r.1):=by
 intro f
 induction f with
 | zero =>
  intro p o r n hv hf
  have:=zdh hv
  omega
 | succ f ih =>
  intro p o r n hv hf hn
  obtain⟨n,rfl⟩:∃ n',n=n'+1:=⟨n - 1,by omega⟩
  obtain⟨nd,hK⟩:=zhg hv
  have hnd:R.getD p n0d=nd:=zbU hK.node
  have g:=zdh hv
  obtain⟨hp,hnp,hal⟩:=zbj hK.node
  have hmem:nd∈R:=List.mem_of_getElem? hnp
  have ends:=hK.ends.1
  have leaf:nd.kids=0→seg R p r.1=[nd]:=fun h0=>by
   rw [h0] at ends
   have e1:p+1=r.1:=ends
   rw [zeT g.1 g.2,← e1,seg_nil,hnd]
  have hkid:∀ mp,decide (nd.kind=5)=mp→∀ j,j < nd.kids.toNat→∃ r',vl R (eAt R mp p j+bK mp)=some r'∧eAt R mp p (j+1)=r'.1∧eAt R mp p j+bK mp < eAt R mp p (j+1)∧RD n (shF m b (58::w) f R (o+1) (eAt R mp p j+bK mp)) (seg R (eAt R mp p j+bK mp) (eAt R mp p (j+1))):=fun mp hmp j hj=>by
   obtain⟨r',q1,q2,q3⟩:=hK.kid hj
   have i0:=hK.inv j (by omega)
   have i1:=hK.inv (j+1) hj
   rw [hmp] at q1 q2 i0 i1
   have g1:=zdh q1
   rw [q2] at i1
   refine⟨r',q1,q2,by omega,?_⟩
   rw [q2]
   exact ih _ (o+1) r' n q1 (by omega) (by omega)
  rw [shF,hnd]
  by_cases h0:nd.kind=0
  ·have e:=want0 hal h0
   rw [if_pos h0,leaf (by rw [e]),e]
   exact RD.word (.inl rfl)
  rw [if_neg h0]
  by_cases h1:nd.kind=1
  ·have e:=want1 hal h1
   rw [if_pos h1,leaf (by rw [e])]
   by_cases hb:nd.num=1
   ·rw [if_pos hb] at e
    rw [decide_eq_true hb,e]
    exact RD.word (.inr (.inr rfl))
   ·rw [if_neg hb] at e
    rw [decide_eq_false hb,e]
    exact RD.word (.inr (.inl rfl))
  rw [if_neg h1]
  by_cases h2:nd.kind=2
  ·have e:=want2 hal h2
   rw [if_pos h2,leaf (by rw [e])]
   have:=RD.num (n:=n) (hN nd hmem)
   rwa [← e] at this
  rw [if_neg h2]
  by_cases h3:nd.kind=3
  ·have e:=want3 hal h3
   rw [if_pos h3,leaf (by rw [e])]
   have:=RD.text n nd.text
   rwa [← e] at this
  rw [if_neg h3]
  by_cases h4:nd.kind=4
  ·have e:=want45 hal (.inl h4)
   have hk:=hkid false (decide_eq_false (by omega))
   rw [show decide (nd.kind=5)=false from decide_eq_false (by omega)] at ends
   rw [if_pos h4]
   have:=RD.list m b (58::w) n (shF m b (58::w) f R) R p o nd.kids.toNat (fun j=>seg R (eAt R false p j) (eAt R false p (j+1))) (fun j hj=>by obtain⟨r',_,_,_,h⟩:=hk j hj;exact h)
   have hs:seg R p r.1=zaF ((List.range nd.kids.toNat).map fun j=>seg R (eAt R false p j) (eAt R false p (j+1))):=by
    rw [zeT g.1 g.2,hnd,zaF,List.length_map,List.length_range,← List.flatMap_def,← seg_flat (eAt R false p) nd.kids.toNat (fun j hj=>by obtain⟨r',_,_,h,_⟩:=hk j hj;have:bK false=0:=rfl;omega) (by rw [ends];exact g.2),ends]
    rw [h4] at e
    rw [← e]
    rfl
   rw [hs]
   exact this
  ·have hk6:=(zbE hal).2.1
   have hk0:=(zbE hal).1
   have h5:nd.kind=5:=by omega
   have e:=want45 hal (.inr h5)
   have hk:=hkid true (decide_eq_true h5)
   rw [decide_eq_true h5] at ends
   rw [if_neg h4]
   have:=RD.obj m b w hw n (shF m b (58::w) f R) R p o nd.kids.toNat (fun j=>seg R (eAt R true p j+1) (eAt R true p (j+1))) (fun j hj=>by obtain⟨r',_,_,_,h⟩:=hk j hj;exact h) (fun i j h1 h2=>by
    have hu:=keys_up hK h5 i j h1 h2
    exact⟨fun h=>List.lt_irrefl _ (List.lt_trans h hu),fun h=>by rw [h] at hu;exact List.lt_irrefl _ hu⟩)
   have hs:seg R p r.1=⟨5,0,[],nd.kids.toNat⟩::(msH (keyT R true p) (fun j=>seg R (eAt R true p j+1) (eAt R true p (j+1))) nd.kids.toNat).flatMap memR:=by
    rw [zeT g.1 g.2,hnd]
    have hf:=seg_flat (R:=R) (eAt R true p) nd.kids.toNat (fun j hj=>by obtain⟨r',_,_,h,_⟩:=hk j hj;have:bK true=1:=rfl;omega) (by rw [ends];exact g.2)
    rw [ends] at hf
    rw [show seg R (p+1) r.1=_ from hf,msH,List.flatMap_map]
    rw [h5] at e
    refine List.cons_eq_cons.2 ⟨e,?_⟩
    refine fm_congr fun j hj=>?_
    have hj:=List.mem_range.1 hj
    obtain⟨r',q1,q2,q3,_⟩:=hk j hj
    have g1:=zdh q1
    obtain⟨r2,_,_,hx⟩:=hK.kid hj
    obtain⟨md,hm1,hm2,hm3,_⟩:=hx h5
    rw [show decide (nd.kind=5)=true from decide_eq_true h5] at hm1 hm3
    have em:=want3 (zbj hm1).2.2 hm2
    rw [hm3] at em
    rw [zeT (by have:bK true=1:=rfl;omega) (by rw [q2];exact g1.2),zbU hm1,em,memR]
   rw [hs]
   exact this
end Go.Proofs.YtnghkomgefieoaaGreatDoor
end

