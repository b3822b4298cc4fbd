/-
  The law's walk. No condition.
-/
import Derived.Test.YtdigkoejfgmecaaGreatDoorQueG
set_option linter.unusedSimpArgs false
set_option linter.unusedVariables false
set_option linter.unusedSectionVars false
section
namespace Go.Eng
open Go
theorem aQ37 {P Q:Prop} (h:Q) (e:P=Q:=by first|(simp -implicitDefEqProofs only [LM7,eq_self,Nat.zero_mul,zag,TB,SB,Int.reduceToNat,Nat.reduceAdd,Nat.reduceEqDiff,Nat.reduceLT,Nat.reduceMod,Nat.reducePow,Nat.reduceSub,if_true,reduceIte];first|done|exact rfl)|exact rfl):P:=e ▸ h
end Go.Eng
end

section
namespace Go.Proofs.YtdigkoejfgmecaaGreatDoor
open Go Go.Eng
set_option linter.defProp false in
def LB17:=And.intro @bs_Q0 (And.intro @bs_Qn (And.intro @bs_Qv (And.intro @bd_Qn (And.intro @bd_Qv (@bs_ss2)))))
set_option linter.defProp false in
def LM7:=And.intro LM3 (And.intro LB16 (LB17))
theorem ev_bad {l:List Qn} {d:List Nd} (h:(zcs l d).2≠0):(zcs l d).1=false:=by
 unfold zcs at h ⊢
 split
 ·split
  ·rename_i h1 h2
   rw [if_pos h1,if_pos h2] at h
   exact absurd rfl h
  ·rfl
 ·rfl
theorem ev_good {l:List Qn} {d:List Nd} (h:(zcs l d).2=0):chkB l=true∧zar d=0∧(zcs l d).1=evQ (zbI d) l:=by
 unfold zcs at h ⊢
 split at h
 ·split at h
  ·rename_i h1 h2
   exact⟨h1,h2,by rw [if_pos h1,if_pos h2]⟩
  ·rename_i h1 h2
   exact absurd h h2
 ·cases h
theorem apX {id n m:Nat} {l ys:List (Qn × Bool)} {x:AV} {σ:zaa} {KS:AV→zaa→Prop} (hc:σ[id]?=some (.rw (l.flatMap qX))) (hn:n=l.length) (hx:asrc σ 4 x=some (ys.flatMap qX,m)) (hm:m=ys.length) (hb:l.length+m≤1000000)
  (hk:KS (.ref σ.length 0 (n+m) 4) (σ.set id .dead++[.rw ((l++ys).flatMap qX)])):zbC T #[22,22] (.ref id 0 n 4) x σ KS:=by
 subst hn
 exact xF.app rfl rfl T22 T22 (zfy _) T37 rfl rfl hc hx hm (by omega) (by simp only [tyQ];omega) hk
theorem chk_not {a:List Qn} (h:chkB a=true) (hn:cnt a=some 1) (hl:a.length≤23):chkB (notQ::a)=true:=by
 obtain⟨_,h2,_⟩:=zdG h
 rw [chkB,zi0 hn,List.all_cons,List.length_cons,decide_eq_true (by omega),List.all_eq_true.2 h2]
 rfl
theorem chk_two {a b:List Qn} {q:Qn} (hq:mayB q=true) (hk:q.kids=2) (ha:chkB a=true) (hb:chkB b=true) (na:cnt a=some 1) (nb:cnt b=some 1) (hl:a.length+b.length≤23):chkB (q::(a++b))=true:=by
 obtain⟨_,h2,_⟩:=zdG ha
 obtain⟨_,h3,_⟩:=zdG hb
 rw [chkB,cnt_two hk na nb,List.all_cons,List.all_append,List.length_cons,List.length_append,decide_eq_true (by omega),List.all_eq_true.2 h2,List.all_eq_true.2 h3,hq]
 simp
theorem evl_ok {l:List Qn} {d:List Nd} (h:chkB l=true) (h0:zar d=0):zcs l d=(evQ (zbI d) l,0):=by rw [zcs,if_pos h,if_pos h0]
theorem goodN:zfh notQ:=⟨by decide,by decide⟩
theorem goodA:zfh andQ:=⟨by decide,by decide⟩
theorem goodO:zfh orQ:=⟨by decide,by decide⟩
set_option maxRecDepth 20000 in
set_option maxHeartbeats 8000000 in
theorem lawLogic (a b:List Qn) (p:List UInt8) (v w d:List Nd) (ha:∀ q∈a,q.val.length≤9223372036854775807) (hb:∀ q∈b,q.val.length≤9223372036854775807) (hv:v.length≤9223372036854775807) (hw:w.length≤9223372036854775807) (hd:d.length≤9223372036854775807):ACalls Tryz.prog 4 [.sl (a.flatMap qC) a.length,.sl (b.flatMap qC) b.length,str p,.sl (v.flatMap nC) v.length,.sl (w.flatMap nC) w.length,.sl (d.flatMap nC) d.length] [] (fun y _=>y=.ret (bl true)):=by
 have he:∀ σ:zaa,endQ 0 (bl true) σ (fun r _=>AEnd.ret r=.ret (bl true)):=fun σ=>zaL rfl
 refine ACalls.body T_ok Tryz.func4 (by kernel_rfl) rfl Tryz.ntmps4 (congrArg Array.toList Tryz.results4) ?_
 refine aQ37 ?_
 refine ACalls.pure works_ok rfl ?_
 rintro _ _ rfl
 refine⟨rfl,?_⟩
 refine aQ37 ?_
 refine(few22_ok a ha).pure (by simp [renL,AV.ren,qF.fren]) ?_
 rintro _ σ ⟨f1,rfl,g1⟩
 refine⟨zaC _ _,?_⟩
 cases f1 with
 | false =>
  refine aQ37 ?_
  exact he _
 | true =>
 refine aQ37 ?_
 refine(few22_ok b hb).pure (by simp [renL,AV.ren,qF.fren]) ?_
 rintro _ σ ⟨f2,rfl,g2⟩
 refine⟨zaC _ _,?_⟩
 cases f2 with
 | false =>
  refine aQ37 ?_
  exact he _
 | true =>
 refine aQ37 ?_
 refine(Few_ok v hv).pure (zeu _ _ _) ?_
 rintro _ σ rfl
 refine⟨zaC _ _,?_⟩
 cases hfv:fewB v with
 | false =>
  refine aQ37 ?_
  exact he _
 | true =>
 refine aQ37 ?_
 refine(Few_ok w hw).pure (zeu _ _ _) ?_
 rintro _ σ rfl
 refine⟨zaC _ _,?_⟩
 cases hfw:fewB w with
 | false =>
  refine aQ37 ?_
  exact he _
 | true =>
 refine aQ37 ?_
 refine(Few_ok d hd).pure (zeu _ _ _) ?_
 rintro _ σ rfl
 refine⟨zaC _ _,?_⟩
 cases hfd:fewB d with
 | false =>
  refine aQ37 ?_
  exact he _
 | true =>
 obtain⟨la,ga⟩:=good_of (g1 rfl)
 obtain⟨lb,gb⟩:=good_of (g2 rfl)
 have lv:=zi9 hfv
 have lw:=zi9 hfw
 have ld:=zi9 hfd
 by_cases c1:(a.length:Int) < 1
 ·try simp -implicitDefEqProofs only [LM7,eq_self,Nat.zero_mul,zag,decide_eq_true c1,TB,SB,Int.reduceToNat,Nat.reduceAdd,Nat.reduceEqDiff,Nat.reduceLT,Nat.reduceMod,Nat.reducePow,Nat.reduceSub,if_true,reduceIte]
  exact he _
 by_cases c2:(b.length:Int) < 1
 ·try simp -implicitDefEqProofs only [LM7,eq_self,Nat.zero_mul,zag,decide_eq_false c1,decide_eq_true c2,TB,SB,Int.reduceToNat,Nat.reduceAdd,Nat.reduceEqDiff,Nat.reduceLT,Nat.reduceMod,Nat.reducePow,Nat.reduceSub,if_true,reduceIte]
  exact he _
 by_cases c3:(20:Int) < (a.length:Int)+b.length
 ·try simp -implicitDefEqProofs only [LM7,eq_self,Nat.zero_mul,zag,decide_eq_false c1,decide_eq_false c2,decide_eq_true c3,TB,SB,Int.reduceToNat,Nat.reduceAdd,Nat.reduceEqDiff,Nat.reduceLT,Nat.reduceMod,Nat.reducePow,Nat.reduceSub,if_true,reduceIte]
  exact⟨by unfold inI;omega,he _⟩
 by_cases c4:(200:Int) < p.length
 ·try simp -implicitDefEqProofs only [LM7,eq_self,Nat.zero_mul,zag,decide_eq_false c1,decide_eq_false c2,decide_eq_false c3,decide_eq_true c4,TB,SB,Int.reduceToNat,Nat.reduceAdd,Nat.reduceEqDiff,Nat.reduceLT,Nat.reduceMod,Nat.reducePow,Nat.reduceSub,if_true,reduceIte]
  exact⟨by unfold inI;omega,he _⟩
 try simp -implicitDefEqProofs only [LM7,eq_self,Nat.zero_mul,zag,decide_eq_false c1,decide_eq_false c2,decide_eq_false c3,decide_eq_false c4,TB,SB,Int.reduceToNat,Nat.reduceAdd,Nat.reduceEqDiff,Nat.reduceLT,Nat.reduceMod,Nat.reducePow,Nat.reduceSub,if_true,reduceIte]
 refine⟨by unfold inI;omega,?_⟩
 refine(Eval_ok a d (by omega) ga ld).pure (by simp [renL,AV.ren,qF.fren,zap]) ?_
 rintro _ σ rfl
 refine⟨zfi _ _ _,?_⟩
 refine aQ37 ?_
 refine(Eval_ok b d (by omega) gb ld).pure (by simp [renL,AV.ren,qF.fren,zap]) ?_
 rintro _ σ rfl
 refine⟨zfi _ _ _,?_⟩
 by_cases e1:(zcs a d).2=0
 rotate_left
 ·rw [ev_bad e1]
  try simp -implicitDefEqProofs only [LM7,eq_self,Nat.zero_mul,zag,decide_eq_false e1,TB,SB,Int.reduceToNat,Nat.reduceAdd,Nat.reduceEqDiff,Nat.reduceLT,Nat.reduceMod,Nat.reducePow,Nat.reduceSub,if_true,reduceIte]
  exact he _
 by_cases e2:(zcs b d).2=0
 rotate_left
 ·rw [ev_bad e2,e1]
  try simp -implicitDefEqProofs only [LM7,eq_self,Nat.zero_mul,zag,decide_eq_false e2,TB,SB,Int.reduceToNat,Nat.reduceAdd,Nat.reduceEqDiff,Nat.reduceLT,Nat.reduceMod,Nat.reducePow,Nat.reduceSub,if_true,reduceIte]
  exact he _
 obtain⟨ka,h0,va⟩:=ev_good e1
 obtain⟨kb,_,vb⟩:=ev_good e2
 obtain⟨xa,ya,za⟩:=zdG ka
 obtain⟨xb,yb,zb⟩:=zdG kb
 have na:=za fun h=>by rw [h] at c1;exact c1 (by decide)
 have nb:=zb fun h=>by rw [h] at c2;exact c2 (by decide)
 rw [e1,e2,va,vb]
 refine aQ37 ?_
 refine apX (l:=[]) (ys:=[(notQ,true)]) rfl rfl (xF.asrcR (l:=[(notQ,true)]) rfl) rfl (by decide) ?_
 refine aQ37 ?_
 refine apX (l:=[(notQ,true)]) (ys:=zaH a) rfl rfl (asrcP a) (by rw [zaH,List.length_map]) (by (show 1+a.length≤1000000);omega) ?_
 refine aQ37 ?_
 refine evX (L:=[(notQ,true)]++zaH a) rfl ?_ ?_ ?_ ld ?_ ?_
 ·intro x hx hx2
  rcases List.mem_append.1 hx with h | h
  ·rw [List.mem_singleton] at h;rw [h];rfl
  ·rw [(zbe h).2] at hx2;cases hx2
 ·rw [List.length_append,zaH,List.length_map];(show 1+a.length≤1000000);omega
 ·intro x hx
  rcases List.mem_append.1 hx with h | h
  ·rw [List.mem_singleton] at h;rw [h];exact goodN
  ·exact ga _ (zbe h).1
 ·rw [List.length_append,zaH,List.length_map];rfl
 have q1:([(notQ,true)]++zaH a).map (·.1)=notQ::a:=by rw [List.map_append,zcQ];rfl
 have kn:=chk_not ka na (by omega)
 rw [q1,evl_ok kn h0,ev_not (zbI d) na]
 refine aQ37 ?_
 refine apX (l:=[]) (ys:=[(notQ,true)]) rfl rfl (xF.asrcR (l:=[(notQ,true)]) rfl) rfl (by decide) ?_
 refine aQ37 ?_
 refine apX (l:=[(notQ,true)]) (ys:=[(notQ,true)]) rfl rfl (xF.asrcR (l:=[(notQ,true)]) rfl) rfl (by decide) ?_
 refine aQ37 ?_
 refine apX (l:=[(notQ,true),(notQ,true)]) (ys:=zaH a) rfl rfl (asrcP a) (by rw [zaH,List.length_map]) (by (show 2+a.length≤1000000);omega) ?_
 refine aQ37 ?_
 refine evX (L:=[(notQ,true),(notQ,true)]++zaH a) rfl ?_ ?_ ?_ ld ?_ ?_
 ·intro x hx hx2
  rcases List.mem_append.1 hx with h | h
  ·have h:x=(notQ,true):=by simpa using h
   rw [h];rfl
  ·rw [(zbe h).2] at hx2;cases hx2
 ·rw [List.length_append,zaH,List.length_map];(show 2+a.length≤1000000);omega
 ·intro x hx
  rcases List.mem_append.1 hx with h | h
  ·have h:x=(notQ,true):=by simpa using h
   rw [h];exact goodN
  ·exact ga _ (zbe h).1
 ·rw [List.length_append,zaH,List.length_map];rfl
 have q2:([(notQ,true),(notQ,true)]++zaH a).map (·.1)=notQ::notQ::a:=by rw [List.map_append,zcQ];rfl
 have knn:=chk_not kn (zi0 na) (by rw [List.length_cons];omega)
 rw [q2,evl_ok knn h0,ev_not (zbI d) (zi0 na),ev_not (zbI d) na]
 refine aQ37 ?_
 refine apX (l:=[(andQ,true)]) (ys:=zaH a) rfl rfl (asrcP a) (by rw [zaH,List.length_map]) (by (show 1+a.length≤1000000);omega) ?_
 refine aQ37 ?_
 refine apX (l:=[(andQ,true)]++zaH a) (ys:=zaH b) rfl (by rw [List.length_append,zaH,List.length_map];rfl) (asrcP b) (by rw [zaH,List.length_map]) (by rw [List.length_append,zaH,List.length_map];(show 1+a.length+b.length≤1000000);omega) ?_
 refine aQ37 ?_
 refine evX (L:=[(andQ,true)]++zaH a++zaH b) rfl ?_ ?_ ?_ ld ?_ ?_
 ·intro x hx hx2
  rcases List.mem_append.1 hx with h | h
  ·rcases List.mem_append.1 h with h | h
   ·rw [List.mem_singleton] at h;rw [h];rfl
   ·rw [(zbe h).2] at hx2;cases hx2
  ·rw [(zbe h).2] at hx2;cases hx2
 ·rw [List.length_append,List.length_append,zaH,zaH,List.length_map,List.length_map];(show 1+a.length+b.length≤1000000);omega
 ·intro x hx
  rcases List.mem_append.1 hx with h | h
  ·rcases List.mem_append.1 h with h | h
   ·rw [List.mem_singleton] at h;rw [h];exact goodA
   ·exact ga _ (zbe h).1
  ·exact gb _ (zbe h).1
 ·rw [List.length_append,List.length_append,zaH,zaH,List.length_map,List.length_map];rfl
 have q3:([(andQ,true)]++zaH a++zaH b).map (·.1)=andQ::(a++b):=by rw [List.map_append,List.map_append,zcQ,zcQ];rfl
 rw [q3,evl_ok (chk_two (q:=andQ) (by decide) rfl ka kb na nb (by omega)) h0,ev_and (zbI d) na nb]
 refine aQ37 ?_
 refine apX (l:=[(orQ,true)]) (ys:=zaH a) rfl rfl (asrcP a) (by rw [zaH,List.length_map]) (by (show 1+a.length≤1000000);omega) ?_
 refine aQ37 ?_
 refine apX (l:=[(orQ,true)]++zaH a) (ys:=zaH b) rfl (by rw [List.length_append,zaH,List.length_map];rfl) (asrcP b) (by rw [zaH,List.length_map]) (by rw [List.length_append,zaH,List.length_map];(show 1+a.length+b.length≤1000000);omega) ?_
 refine aQ37 ?_
 refine evX (L:=[(orQ,true)]++zaH a++zaH b) rfl ?_ ?_ ?_ ld ?_ ?_
 ·intro x hx hx2
  rcases List.mem_append.1 hx with h | h
  ·rcases List.mem_append.1 h with h | h
   ·rw [List.mem_singleton] at h;rw [h];rfl
   ·rw [(zbe h).2] at hx2;cases hx2
  ·rw [(zbe h).2] at hx2;cases hx2
 ·rw [List.length_append,List.length_append,zaH,zaH,List.length_map,List.length_map];(show 1+a.length+b.length≤1000000);omega
 ·intro x hx
  rcases List.mem_append.1 hx with h | h
  ·rcases List.mem_append.1 h with h | h
   ·rw [List.mem_singleton] at h;rw [h];exact goodO
   ·exact ga _ (zbe h).1
  ·exact gb _ (zbe h).1
 ·rw [List.length_append,List.length_append,zaH,zaH,List.length_map,List.length_map];rfl
 have q4:([(orQ,true)]++zaH a++zaH b).map (·.1)=orQ::(a++b):=by rw [List.map_append,List.map_append,zcQ,zcQ];rfl
 rw [q4,evl_ok (chk_two (q:=orQ) (by decide) rfl ka kb na nb (by omega)) h0,ev_or (zbI d) na nb]
 generalize evQ (zbI d) a=X
 generalize evQ (zbI d) b=Y
 clear q1 q2 q3 q4 kn knn g1 g2 ka kb na nb e1 e2 va vb xa ya za xb yb zb c1 c2 c3
 have t1:(true == false)=false:=rfl
 have t2:(false == true)=false:=rfl
 cases X <;> cases Y
 all_goals
  try simp -implicitDefEqProofs only [LM7,eq_self,Nat.zero_mul,zag,t1,t2,Bool.and_true,Bool.true_and,Bool.and_false,Bool.false_and,Bool.or_true,Bool.true_or,Bool.false_or,Bool.or_false,TB,SB,Int.reduceToNat,Nat.reduceAdd,Nat.reduceEqDiff,Nat.reduceLT,Nat.reduceMod,Nat.reducePow,Nat.reduceSub,if_true,reduceIte]
 all_goals
  refine ACalls.frz [14] (l':=[.sl ([v,w].map slNs) [v,w].length]) ⟨_,_,rfl,frz_Ns (L:=[v,w]) rfl rfl,rfl⟩ ?_
  simp only [zcn,List.getElem?_cons_zero,List.getElem?_cons_succ,List.set_cons_zero,List.set_cons_succ]
  refine(List_ok [v,w] (show 2≤1000 by decide) (by simp only [List.flatten_cons,List.flatten_nil,List.length_append,List.length_nil];omega)).pure (by simp [renL,AV.ren,slNs,zap]) ?_
  rintro _ σ ⟨rfl,rfl⟩
  refine⟨by simp [AEnd.noid,AV.ren,renL,zap,zac],?_⟩
  have hcd:(chkd (zaG [v,w])).2=zar (zaG [v,w]):=rfl
  rw [hcd]
  by_cases k0:zar (zaG [v,w])=0
  rotate_left
  ·try simp -implicitDefEqProofs only [LM7,eq_self,Nat.zero_mul,zag,decide_eq_false k0,TB,SB,Int.reduceToNat,Nat.reduceAdd,Nat.reduceEqDiff,Nat.reduceLT,Nat.reduceMod,Nat.reducePow,Nat.reduceSub,if_true,reduceIte]
   exact he _
  rw [k0,chkd_zero k0]
  refine aQ37 ?_
  refine(zdX v (by omega)).pure (by simp [renL,AV.ren,zap]) ?_
  rintro _ σ ⟨rfl,rfl⟩
  refine⟨zac _ _,?_⟩
  by_cases v0:zar v=0
  rotate_left
  ·try simp -implicitDefEqProofs only [LM7,eq_self,Nat.zero_mul,zag,decide_eq_false v0,TB,SB,Int.reduceToNat,Nat.reduceAdd,Nat.reduceEqDiff,Nat.reduceLT,Nat.reduceMod,Nat.reducePow,Nat.reduceSub,if_true,reduceIte]
   exact he _
  rw [v0]
  refine aQ37 ?_
  refine(zdX w (by omega)).pure (by simp [renL,AV.ren,zap]) ?_
  rintro _ σ ⟨rfl,rfl⟩
  refine⟨zac _ _,?_⟩
  by_cases w0:zar w=0
  rotate_left
  ·try simp -implicitDefEqProofs only [LM7,eq_self,Nat.zero_mul,zag,decide_eq_false w0,TB,SB,Int.reduceToNat,Nat.reduceAdd,Nat.reduceEqDiff,Nat.reduceLT,Nat.reduceMod,Nat.reducePow,Nat.reduceSub,if_true,reduceIte]
   exact he _
  rw [w0]
  have hll:=zc5 k0
  refine aQ37 ?_
  obtain⟨x3,y3,e3,h3,h4,h5⟩:=ev_three d p v w k0 v0 w0 h0
  refine evX (L:=[(⟨1,p,zaG [v,w],0⟩,false)]) rfl (fun x hx h=>by rw [List.mem_singleton.1 hx] at h;cases h) (by (show 1≤1000000);decide) (fun x hx=>by rw [List.mem_singleton.1 hx];exact⟨by (show p.length≤1000000);omega,by (show (⟨1,p,zaG [v,w],0⟩:Qn).val.length≤1000000);dsimp only;omega⟩) ld rfl ?_
  rw [show ([(⟨1,p,zaG [v,w],0⟩,false)]:List (Qn × Bool)).map (·.1)=[⟨1,p,zaG [v,w],0⟩] from rfl,h3]
  refine aQ37 ?_
  refine evX (L:=[(⟨0,p,v,0⟩,false)]) rfl (fun x hx h=>by rw [List.mem_singleton.1 hx] at h;cases h) (by (show 1≤1000000);decide) (fun x hx=>by rw [List.mem_singleton.1 hx];exact⟨by (show p.length≤1000000);omega,by (show (⟨0,p,v,0⟩:Qn).val.length≤1000000);dsimp only;omega⟩) ld rfl ?_
  rw [show ([(⟨0,p,v,0⟩,false)]:List (Qn × Bool)).map (·.1)=[⟨0,p,v,0⟩] from rfl,h4]
  refine aQ37 ?_
  refine evX (L:=[(⟨0,p,w,0⟩,false)]) rfl (fun x hx h=>by rw [List.mem_singleton.1 hx] at h;cases h) (by (show 1≤1000000);decide) (fun x hx=>by rw [List.mem_singleton.1 hx];exact⟨by (show p.length≤1000000);omega,by (show (⟨0,p,w,0⟩:Qn).val.length≤1000000);dsimp only;omega⟩) ld rfl ?_
  rw [show ([(⟨0,p,w,0⟩,false)]:List (Qn × Bool)).map (·.1)=[⟨0,p,w,0⟩] from rfl,h5]
  cases x3 <;> cases y3
  all_goals
   try simp -implicitDefEqProofs only [LM7,eq_self,Nat.zero_mul,zag,t1,t2,Bool.and_true,Bool.true_and,Bool.and_false,Bool.false_and,Bool.or_true,Bool.true_or,Bool.false_or,Bool.or_false,TB,SB,Int.reduceToNat,Nat.reduceAdd,Nat.reduceEqDiff,Nat.reduceLT,Nat.reduceMod,Nat.reducePow,Nat.reduceSub,if_true,reduceIte]
   exact he _
end Go.Proofs.YtdigkoejfgmecaaGreatDoor
end

