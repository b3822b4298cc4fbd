/-
  A value's text, a line, lines, how long it is. No condition.
-/
import Derived.Test.YtnghkomgefieoaaGreatDoorShrC
set_option linter.unusedSimpArgs false
set_option linter.unusedVariables false
set_option linter.unusedSectionVars false
section
namespace Go.Eng
open Go
theorem aQ4 {a b:zab} {c:Nat} {d:zab} (p:List Nat) (e:zad a b p p c d:=by simp [LM3,zah,zad,renL,AV.ren,AEnd.ren,zan,zcF,List.getElem?_cons_zero,List.getElem?_cons_succ]):zad a b p p c d:=e
theorem aQ11 {a b:AEnd} (p:List Nat) (e:AEnd.ren p a b:=by first | rfl | simp [LM3,zah,zad,renL,AV.ren,AEnd.ren,zan,zcF,List.getElem?_cons_zero,List.getElem?_cons_succ]):AEnd.ren p a b:=e
theorem aQ20 {P:Prop} (e:P:=by first | omega | (simp only [List.length_append,List.length_cons,List.length_nil];omega)):P:=e
theorem aQ21 {P:Prop} (e:P:=by simp [AV.ren,renL,zar,zaq]):P:=e
theorem aQ43 {P Q:Prop} (h:Q) (e:P=Q:=by first|(simp only [quoS,List.length_cons,List.length_append,List.length_nil];first|done|exact rfl)|exact rfl):P:=e ▸ h
theorem aQ44 {P Q:Prop} (h:Q) (e:P=Q:=by first|(simp -implicitDefEqProofs only [LM4,eq_self,za2 (T:=T) 71 68 69 5 rfl,zag,zaf,zaJ,wf_n2,TB,SB,Int.reduceToNat,Nat.reduceAdd,Nat.reduceEqDiff,Nat.reduceLT,Nat.reduceMod,Nat.reducePow,Nat.reduceSub,if_true,reduceIte];first|done|exact rfl)|exact rfl):P:=e ▸ h
theorem aQ45 {P Q:Prop} (h:Q) (e:P=Q:=by first|(simp -implicitDefEqProofs only [LM4,eq_self,za2 (T:=T) 71 68 69 5 rfl,zag,zaf,zaJ,TB,SB,Int.reduceToNat,Nat.reduceAdd,Nat.reduceEqDiff,Nat.reduceLT,Nat.reduceMod,Nat.reducePow,Nat.reduceSub,if_true,reduceIte];first|done|exact rfl)|exact rfl):P:=e ▸ h
theorem aQ46 {P Q:Prop} (h:Q) (e:P=Q:=by first|(simp only [List.length_cons,List.length_append,List.length_nil];first|done|exact rfl)|exact rfl):P:=e ▸ h
theorem aQ47 {P Q:Prop} (h:Q) (e:P=Q:=by first|(simp -implicitDefEqProofs only [LM4,eq_self,za2 (T:=T) 71 68 69 5 rfl,zag,zaf,zaJ,bd_s1,bd_s2,st_ap,st_row,TB,SB,Int.reduceToNat,Nat.reduceAdd,Nat.reduceEqDiff,Nat.reduceLT,Nat.reduceMod,Nat.reducePow,Nat.reduceSub,if_true,reduceIte];first|done|exact rfl)|exact rfl):P:=e ▸ h
theorem aQ48 {P Q:Prop} (h:Q) (e:P=Q:=by first|(simp -implicitDefEqProofs only [LM4,LB15,eq_self,za2 (T:=T) 71 68 69 5 rfl,zag,zaf,zaJ,TB,SB,Int.reduceToNat,Nat.reduceAdd,Nat.reduceEqDiff,Nat.reduceLT,Nat.reduceMod,Nat.reducePow,Nat.reduceSub,if_true,reduceIte];first|done|exact rfl)|exact rfl):P:=e ▸ h
theorem aQ49 {P Q:Prop} (h:Q) (e:P=Q:=by first|(simp -implicitDefEqProofs only [LM6,eq_self,za2 (T:=T) 71 68 69 5 rfl,zag,zaf,zaJ,zao,TB,SB,Int.reduceToNat,Nat.reduceAdd,Nat.reduceEqDiff,Nat.reduceLT,Nat.reduceMod,Nat.reducePow,Nat.reduceSub,if_true,reduceIte];first|done|exact rfl)|exact rfl):P:=e ▸ h
end Go.Eng
end

section
namespace Go.Proofs.YtnghkomgefieoaaGreatDoor
open Go Go.Eng
set_option linter.defProp false in
def LB14:=And.intro @fa_h0 (And.intro @fa_h1 (And.intro @fa_h2 (And.intro @fa_h3 (And.intro @fa_h4 (And.intro @fa_h5 (And.intro @fa_h6 (And.intro @rd_w (And.intro @ld_h1 (And.intro @ld_h2 (And.intro @ld_h3 (And.intro @ld_h4 (And.intro @ld_h5 (And.intro @ld_h6 (And.intro @st_h2 (@st_h4)))))))))))))))
set_option linter.defProp false in
def LM4:=And.intro LB1 (And.intro LB2 (And.intro LB11 (LB14)))
section
variable (m : Bool) (b : Nat) (cl : List UInt8)
def zbc (E:Nat→Nat→List UInt8) (R:List Nd) (mp:Bool) (p o j:Nat):List UInt8:=(if j=0 then [] else [44])++(apS m b (o+1)++((if mp then quoS (keyT R mp p j)++cl else [])++E (o+1) (eAt R mp p j+bK mp)))
def kidH (E:Nat→Nat→List UInt8) (R:List Nd) (mp:Bool) (p o k:Nat):List UInt8:=(List.range k).flatMap (zbc m b cl E R mp p o)
def endH (o k:Nat):List UInt8:=if 0 < k then apS m b o else []
def shF:Nat→List Nd→Nat→Nat→List UInt8
 | 0,_,_,_=>[]
 | f+1,R,o,p =>
  let n:=R.getD p n0d
  if n.kind=0 then [110,117,108,108]
  else if n.kind=1 then Go.Lib.formatBool (decide (n.num=1))
  else if n.kind=2 then Go.Lib.itoa n.num
  else if n.kind=3 then quoS n.text
  else if n.kind=4 then 91::(kidH m b cl (shF f R) R false p o n.kids.toNat++(endH m b o n.kids.toNat++[93]))
  else 123::(kidH m b cl (shF f R) R true p o n.kids.toNat++(endH m b o n.kids.toNat++[125]))
theorem zcQ (E:Nat→Nat→List UInt8) (R:List Nd) (mp:Bool) (p o k:Nat):kidH m b cl E R mp p o (k+1)=kidH m b cl E R mp p o k++zbc m b cl E R mp p o k:=by
 simp [kidH,List.range_succ]
theorem kidH_le (E:Nat→Nat→List UInt8) (R:List Nd) (mp:Bool) (p o:Nat) {k c:Nat} (h:k≤c):(kidH m b cl E R mp p o k).length≤(kidH m b cl E R mp p o c).length:=by
 induction c with
 | zero=>obtain rfl:k=0:=by omega
         exact Nat.le_refl _
 | succ c ih =>
  rcases Nat.lt_or_ge c k with hc | hc
  ·obtain rfl:k=c+1:=by omega
   exact Nat.le_refl _
  ·rw [zcQ,List.length_append]
   have:=ih hc
   omega
end
def SValue (m:Bool) (b:Nat) (cl:List UInt8) (f:Nat) (R:List Nd):Prop:=∀ (p o:Nat) (r:Nat × Nat) (u:Bool) (acc:List UInt8),vl R p=some r→r.1 - p≤f→o+f≤1000000→acc.length+(shF m b cl f R o p).length≤100000000000 →
 ACalls Tryz.prog 34 [.ptr 0 0] [sbW 78 u 0 1 acc.length (sR m b cl R p o),sbB 5 acc] (fun x σ=>x=.ret (.tup [])∧σ=[sbW 78 true 0 2 (acc++shF m b cl f R o p).length (sR m b cl R r.1 o),.dead,sbB 5 (acc++shF m b cl f R o p)])
theorem wf_n2 {K:AV→Prop} (n:Nd):zfo T 43 (nA n) 2 K=K (str n.text):=by
 simp [zfo,ziW,TD.agg,T43,tyNd,nA,nC,T9,tyStr]
theorem zfh {l:List UInt8} {r:List AV} {k:Nat} {σ:zab} {x:AV} {K:AV→zab→Prop} (h0:σ[0]?=some (sbW 78 true 0 k l.length r)) (h2:σ[2]?=some (.rw [.ptr 0 0])) (hk:σ[k]?=some (sbB 5 l)) (hk1:2 < k) (hr:renL [0,1,2,k] r=some r) (hx:x.ren [0,1,2,k]=some x) (h:K x [sbW 78 true 0 3 l.length r,.dead,.rw [.ptr 0 0],sbB 5 l]):endQ 3 x σ K:=by
 refine zeE [0,1,2,k] x [sbW 78 true 0 3 l.length r,.dead,.rw [.ptr 0 0],sbB 5 l] rfl rfl ?_ hx ?_ h
 ·simp only [List.nodup_cons,List.mem_cons,List.not_mem_nil,or_false,not_or,List.nodup_nil,not_false_eq_true,and_true]
  omega
 refine⟨.inr ⟨_,?_,h0⟩,.inl rfl,.inr ⟨_,rfl,h2⟩,.inr ⟨_,zev _ _ _,hk⟩,trivial⟩
 rw [zex _ _ _ _ _ _ _ (by simp)]
 simp [hr]
section
variable {P : Program} {T : Tab} {ops : Array Oper} {σ σ1 : zab} {e i : Nat} {o : Oper} {r : List Oper} {env : Env} {K : Env → Prop}
theorem wv_q (hne:i≠e) (hg:o.guard=none) (v:AV) (h0:Qop P T o.op (zaR env) σ (fun r=>r=v)) (h1:Qop P T o.op (zaR env) σ1 (fun r=>r=v)) (h2:wv P T ops σ σ1 e (i+1) r (aput env o.dst v) K):wv P T ops σ σ1 e i (o::r) env K:=by
 have hy:∀ s,Qop P T o.op (zaR env) s (fun r=>r=v)→YA P T ops s o env v:=fun s h=>by
  unfold YA zcu
  rw [hg]
  exact h
 rw [wv,if_neg hne]
 exact⟨v,fun _=>hy _ h0,fun _=>hy _ h1,h2⟩
theorem wv_c (v : AV) (h : Wop P T o.op (zaR env) σ (fun v' σ' => v' = v ∧ σ' = σ1) (fun _ _ => False)) (h2 : wv P T ops σ σ1 e (e + 1) r (aput env o.dst v) K) : wv P T ops σ σ1 e e (o :: r) env K := by
 rw [wv,if_pos rfl]
 exact⟨v,h,h2⟩
theorem wv_n (h:K env):wv P T ops σ σ1 e i [] env K:=h
end
theorem zeS (m:Bool) (b:Nat) (cl:List UInt8) (f:Nat) (R:List Nd) (V:SValue m b cl f R) (hR:R.length≤1000000) (hcl:cl.length≤1000) (p o:Nat) (u:Bool) (acc:List UInt8) (r:Nat × Nat) (hv:vl R (p+1)=some r) (hf:r.1 - (p+1)≤f) (ho:o+f≤1000000) (hT:(R.getD p n0d).text.length≤1000000) (hl:acc.length+((quoS (R.getD p n0d).text++cl).length+(shF m b cl f R o (p+1)).length)≤100000000000) :
  ACalls Tryz.prog 51 [.ptr 2 0] [sbW 78 u 0 1 acc.length (sR m b cl R p o),sbB 5 acc,.rw [.ptr 0 0]] (fun x σ=>x=.ret (.tup [])∧σ=[sbW 78 true 0 3 (acc++((quoS (R.getD p n0d).text++cl)++shF m b cl f R o (p+1))).length (sR m b cl R r.1 o),.dead,.rw [.ptr 0 0],sbB 5 (acc++((quoS (R.getD p n0d).text++cl)++shF m b cl f R o (p+1)))]):=by
 have hpR:p < R.length:=by have:=zdh hv;omega
 have hn:=snext_ok u acc m b o cl R p hpR hR
 have hqs:(quoS (R.getD p n0d).text).length≤6000002:=by
  have:=zir (R.getD p n0d).text
  refine aQ43 ?_
  omega
 rw [List.length_append] at hl
 have hw:=zhp u acc (quoS (R.getD p n0d).text++cl) (sR m b cl R ((p+1:Nat):Int) o) cp_S rfl (by rw [List.length_append];omega)
 unfold wI wO at hw
 have hV:=V (p+1) o r true (acc++(quoS (R.getD p n0d).text++cl)) hv hf ho (by rw [List.length_append,List.length_append];omega)
 rw [List.append_assoc acc] at hV
 refine ACalls.body T_ok Tryz.func51 (by kernel_rfl) rfl Tryz.ntmps51 (congrArg Array.toList Tryz.results51) ?_
 refine aQ44 ?_
 refine W_drawV 4 12 [sbW 78 u 0 1 acc.length (sR m b cl R ((p+1:Nat):Int) o),sbB 5 acc,.rw [.ptr 0 0]] (by kernel_rfl) (by kernel_rfl) (by kernel_rfl) ?_
 simp only [List.take_succ_cons,List.take_zero,List.drop_succ_cons,List.drop_zero]
 refine wv_q (by decide) rfl (.ptr 0 0) ?_ ?_ ?_
 ·first|exact aQ44 trivial|refine aQ44 ?_
 ·first|exact aQ44 trivial|refine aQ44 ?_
 refine wv_q (by decide) rfl (.ptr 0 0) ?_ ?_ ?_
 ·first|exact aQ44 trivial|refine aQ44 ?_
 ·first|exact aQ44 trivial|refine aQ44 ?_
 refine wv_q (by decide) rfl (.ptr 0 0) ?_ ?_ ?_
 ·first|exact aQ44 trivial|refine aQ44 ?_
 ·first|exact aQ44 trivial|refine aQ44 ?_
 refine wv_q (by decide) rfl (.ptr 0 0) ?_ ?_ ?_
 ·first|exact aQ44 trivial|refine aQ44 ?_
 ·first|exact aQ44 trivial|refine aQ44 ?_
 refine wv_c (nA (R.getD p n0d)) ?_ ?_
 ·refine aQ44 ?_
  refine ACalls.frame ([0,1]) (hn) rfl (by decide) (by simp [LM3,zah,zad,renL,AV.ren,AEnd.ren,zan,List.getElem?_cons_zero,List.getElem?_cons_succ]) (by first | rfl | simp [LM3,zah,zad,renL,AV.ren,AEnd.ren,zan,List.getElem?_cons_zero,List.getElem?_cons_succ]) ?_
  rintro _ _ ⟨rfl,rfl⟩
  refine⟨.ret (nA (R.getD p n0d)),[sbW 78 u 0 1 acc.length (sR m b cl R ((p+1:Nat):Int) o),sbB 5 acc,.rw [.ptr 0 0]],(aQ3 ([0,1,2])),(aQ10 ([0,1,2])),?_⟩
  first|exact aQ44 trivial|refine aQ44 ?_
 refine wv_q (by decide) rfl (str (R.getD p n0d).text) ?_ ?_ ?_
 ·first|exact aQ44 trivial|refine aQ44 ?_
 ·first|exact aQ44 trivial|refine aQ44 ?_
 refine wv_q (by decide) rfl (str (quoS (R.getD p n0d).text)) ?_ ?_ ?_
 ·refine aQ44 ?_
  refine zcM (zgE _ (by omega)) (by simp [renL,zar]) (zar _ _) ?_
  try try simp -implicitDefEqProofs only [LM4,eq_self,za2 (T:=T) 71 68 69 5 rfl,zag,zaf,zaJ,wf_n2,TB,SB,Int.reduceToNat,Nat.reduceAdd,Nat.reduceEqDiff,Nat.reduceLT,Nat.reduceMod,Nat.reducePow,Nat.reduceSub,if_true,reduceIte]
 ·refine aQ44 ?_
  refine zcM (zgE _ (by omega)) (by simp [renL,zar]) (zar _ _) ?_
  try try simp -implicitDefEqProofs only [LM4,eq_self,za2 (T:=T) 71 68 69 5 rfl,zag,zaf,zaJ,wf_n2,TB,SB,Int.reduceToNat,Nat.reduceAdd,Nat.reduceEqDiff,Nat.reduceLT,Nat.reduceMod,Nat.reducePow,Nat.reduceSub,if_true,reduceIte]
 refine wv_q (by decide) rfl (.ptr 0 0) ?_ ?_ ?_
 ·first|exact aQ44 trivial|refine aQ44 ?_
 ·first|exact aQ44 trivial|refine aQ44 ?_
 refine wv_q (by decide) rfl (.ptr 0 0) ?_ ?_ ?_
 ·first|exact aQ44 trivial|refine aQ44 ?_
 ·first|exact aQ44 trivial|refine aQ44 ?_
 refine wv_q (by decide) rfl (.ptr 0 7) ?_ ?_ ?_
 ·first|exact aQ44 trivial|refine aQ44 ?_
 ·first|exact aQ44 trivial|refine aQ44 ?_
 refine wv_q (by decide) rfl (str cl) ?_ ?_ ?_
 ·first|exact aQ44 trivial|refine aQ44 ?_
 ·first|exact aQ44 trivial|refine aQ44 ?_
 refine wv_q (by decide) rfl (str (quoS (R.getD p n0d).text++cl)) ?_ ?_ ?_
 ·refine aQ44 ?_
  omega
 ·refine aQ44 ?_
  omega
 refine wv_n ?_
 refine aQ44 ?_
 refine ACalls.frame ([0,1]) (hw) rfl (by decide) (by simp [LM3,zah,zad,renL,AV.ren,AEnd.ren,zan,List.getElem?_cons_zero,List.getElem?_cons_succ]) (by first | rfl | simp [LM3,zah,zad,renL,AV.ren,AEnd.ren,zan,List.getElem?_cons_zero,List.getElem?_cons_succ]) ?_
 rintro _ _ ⟨rfl,rfl⟩
 refine⟨.ret (.tup [i64 (quoS (R.getD p n0d).text++cl).length,.lit .nilIface]),[sbW 78 true 0 3 (acc++(quoS (R.getD p n0d).text++cl)).length (sR m b cl R ((p+1:Nat):Int) o),.dead,.rw [.ptr 0 0],sbB 5 (acc++(quoS (R.getD p n0d).text++cl))],(aQ3 ([0,1,3,2])),(aQ10 ([0,1,3,2])),?_⟩
 refine aQ44 ?_
 refine ACalls.frame ([0,3]) (hV) rfl (by decide) (by simp [LM3,zah,zad,renL,AV.ren,AEnd.ren,zan,List.getElem?_cons_zero,List.getElem?_cons_succ]) (by first | rfl | simp [LM3,zah,zad,renL,AV.ren,AEnd.ren,zan,List.getElem?_cons_zero,List.getElem?_cons_succ]) ?_
 rintro _ _ ⟨rfl,rfl⟩
 refine⟨.ret (.tup []),[sbW 78 true 0 4 (acc++((quoS (R.getD p n0d).text++cl)++shF m b cl f R o (p+1))).length (sR m b cl R r.1 o),.dead,.rw [.ptr 0 0],.dead,sbB 5 (acc++((quoS (R.getD p n0d).text++cl)++shF m b cl f R o (p+1)))],(aQ3 ([0,3,3,1,2])),(aQ10 ([0,3,3,1,2])),?_⟩
 refine aQ44 ?_
 exact zfh (k:=4) rfl rfl rfl (by decide) (zan rfl _ _ _ _ _ _) rfl ⟨rfl,rfl⟩
end Go.Proofs.YtnghkomgefieoaaGreatDoor
end

section
namespace Go.Proofs.YtnghkomgefieoaaGreatDoor
open Go Go.Eng
theorem ze2 {tb e:TypeId} {k:Nat} {l:List UInt8} {r:List AV} {σ:zab} (h0:σ[0]?=some (sbW tb true 0 k l.length r)) (h2:σ[2]?=some (.rw [.ptr 0 0])) (hk:σ[k]?=some (sbB e l)) (hr:renL [0,1,2,k] r=some r):zah σ [0,1,2,k] [0,1,2,k] [sbW tb true 0 3 l.length r,.dead,.rw [.ptr 0 0],sbB e l]:=by
 refine⟨.inr ⟨_,?_,h0⟩,.inl rfl,.inr ⟨_,rfl,h2⟩,.inr ⟨_,zev _ _ _,hk⟩,trivial⟩
 rw [zex _ _ _ _ _ _ _ (by simp)]
 simp [hr]
theorem zis (b o:Nat) (hb:b≤8) (ho:o≤1000000):∀ m,(apS m b o).length≤8000001:=fun m=>by
 have:b * o≤8000000:=Nat.mul_le_mul hb ho
 unfold apS
 split
 ·simp
  omega
 ·simp
set_option maxHeartbeats 4000000 in
theorem slist_ok (m:Bool) (b:Nat) (hb:b≤8) (cl:List UInt8) (hcl:cl.length≤1000) (f:Nat) (R:List Nd) (V:SValue m b cl f R) (hR:R.length≤1000000) (hT:∀ n,n∈R→n.text.length≤1000000) (p o:Nat) (n:Nd) (r:Nat × Nat) (hK:Kids R p n r) (hkd:n.kind=4) (hf:r.1 - p≤f+1) (ho:o+(f+1)≤1000000) (u:Bool) (acc:List UInt8) (hl:acc.length+(91::(kidH m b cl (shF m b cl f R) R false p o n.kids.toNat++(endH m b o n.kids.toNat++[93]))).length≤100000000000) :
  ACalls Tryz.prog 50 [.ptr 0 0,i64 n.kids,str [91,93],.fn (.func 34) [.ptr 0 0] []] [sbW 78 u 0 1 acc.length (sR m b cl R ((p+1:Nat):Int) o),sbB 5 acc,.rw [.ptr 0 0]] (fun x σ=>x=.ret (.tup [])∧σ=[sbW 78 true 0 3 (acc++(91::(kidH m b cl (shF m b cl f R) R false p o n.kids.toNat++(endH m b o n.kids.toNat++[93])))).length (sR m b cl R r.1 o),.dead,.rw [.ptr 0 0],sbB 5 (acc++(91::(kidH m b cl (shF m b cl f R) R false p o n.kids.toNat++(endH m b o n.kids.toNat++[93]))))]):=by
 have few:=hK.few
 have kid:=@Kids.kid R p n r hK
 have inv:=hK.inv
 have ends:=hK.ends.1
 rw [show decide (n.kind=5)=false from decide_eq_false (by omega)] at kid inv ends
 have e0:eAt R false p 0=p+1:=rfl
 simp only [List.length_cons,List.length_append,List.length_nil] at hl
 have hle:=fun k (h:k≤n.kids.toNat)=>kidH_le m b cl (shF m b cl f R) R false p o h
 have hap:=zis b (o+1) hb (by omega) m
 have hb1:=zdo u acc 91 (sR m b cl R ((p+1:Nat):Int) o) cp_S rfl (fun q _ h=>zan h _ _ _ _ _ _) (by omega)
 unfold wI wO at hb1
 refine ACalls.body T_ok Tryz.func50 (by kernel_rfl) rfl Tryz.ntmps50 (congrArg Array.toList Tryz.results50) ?_
 refine aQ45 ?_
 refine zcd [5] (by kernel_rfl) (by kernel_rfl) (by kernel_rfl) ?_
 refine aQ45 ?_
 repeat (with_reducible refine And.intro aQ15 ?_)
 rw [show ([91,93]:List UInt8).getD 0 0=91 from rfl]
 refine ACalls.frame ([0,1]) (hb1) rfl (by decide) (by simp [LM3,zah,zad,renL,AV.ren,AEnd.ren,zan,List.getElem?_cons_zero,List.getElem?_cons_succ]) (by first | rfl | simp [LM3,zah,zad,renL,AV.ren,AEnd.ren,zan,List.getElem?_cons_zero,List.getElem?_cons_succ]) ?_
 rintro _ _ ⟨rfl,rfl⟩
 refine⟨.ret (.lit .nilIface),[sbW 78 true 0 3 (acc++[91]).length (sR m b cl R ((p+1:Nat):Int) o),.dead,.rw [.ptr 0 0],sbB 5 (acc++[91])],(aQ3 ([0,1,3,2])),(aQ10 ([0,1,3,2])),?_⟩
 refine aQ45 ?_
 try simp -implicitDefEqProofs only [LM4,eq_self,za2 (T:=T) 71 68 69 5 rfl,zag,zaf,zaJ,show (o:Int)+1=((o+1:Nat):Int) by omega,TB,SB,Int.reduceToNat,Nat.reduceAdd,Nat.reduceEqDiff,Nat.reduceLT,Nat.reduceMod,Nat.reducePow,Nat.reduceSub,if_true,reduceIte]
 repeat (with_reducible refine And.intro aQ15 ?_)
 have hA0:acc++[91]=(acc++(91::kidH m b cl (shF m b cl f R) R false p o 0)):=by simp [kidH]
 rw [hA0,← e0]
 rw [za6]
 refine⟨Nat,fun k=>k≤n.kids.toNat,fun k=>[.ptr 0 0,i64 n.kids,str [91,93],.fn (.func 34) [.ptr 0 0] [],.bot,.bot,.bot,.bot,.bot,.bot,.bot,.bot,.bot,.bot,.bot,.bot,.bot,.bot,.bot,.bot,.bot,.bot,i64 n.kids,i64 k,.bot,.bot,.bot,.bot,.bot,.bot,.bot,.bot,.bot,.bot,.bot,.bot,.bot,.bot,.bot,.bot,.bot,.bot,.bot,.bot,.bot,.bot,.bot,.bot,.bot,.bot,.bot,.bot,.bot,.bot,.bot,.bot,.bot,.bot,.bot,.bot],fun k=>[sbW 78 true 0 3 (acc++(91::kidH m b cl (shF m b cl f R) R false p o k)).length (sR m b cl R ((eAt R false p k:Nat):Int) ((o+1:Nat):Int)),.dead,.rw [.ptr 0 0],sbB 5 (acc++(91::kidH m b cl (shF m b cl f R) R false p o k))],fun k=>n.kids.toNat - k,0,Nat.zero_le _,zak (q:=[0,1,2,3]) rfl rfl (by decide) ?_ ?_,?_⟩
 ·refine aQ27 ?_
  exact⟨by simp [renL,AV.ren],.inr rfl⟩
 ·exact ze2 rfl rfl rfl (zan rfl _ _ _ _ _ _)
 ·intro k hk0
  dsimp only
  obtain⟨a,hA⟩:∃ a,a=(acc++(91::kidH m b cl (shF m b cl f R) R false p o k)):=⟨_,rfl⟩
  rw [← hA]
  have hal:a.length=acc.length+1+(kidH m b cl (shF m b cl f R) R false p o k).length:=by rw [hA,List.length_append,List.length_cons];omega
  have hlk:=hle k hk0
  have ik:=inv k hk0
  refine aQ45 ?_
  refine⟨fun hlt=>?_,fun hge=>?_⟩
  ·have hlx:k < n.kids.toNat:=by omega
   obtain⟨r',q1,q2,q3⟩:=kid hlx
   have i1:=inv (k+1) (by omega)
   have g1:=zdh q1
   have hlk1:=hle (k+1) (by omega)
   have hsucc:=zcQ m b cl (shF m b cl f R) R false p o k
   have hA1:∀ x,a++x=(acc++(91::kidH m b cl (shF m b cl f R) R false p o (k+1))) ↔ x=zbc m b cl (shF m b cl f R) R false p o k:=fun x=>by rw [hsucc,hA];simp
   have hpl:=congrArg List.length hsucc
   rw [List.length_append] at hpl
   simp only [bK,Bool.false_eq_true,if_false,if_true,Nat.add_zero] at q1 g1
   by_cases hk:k=0
   ·cases m with
    | false =>
     have hx:a++(shF false b cl f R (o+1) (eAt R false p k))=a++zbc false b cl (shF false b cl f R) R false p o k:=by simp [zbc,bK,hk,apS,keyT]
     have hxl:(a).length+(shF false b cl f R (o+1) (eAt R false p k)).length=a.length+(zbc false b cl (shF false b cl f R) R false p o k).length:=by rw [← List.length_append,hx,List.length_append]
     have hfin:=(hA1 _).2 rfl
     rw [← hx] at hfin
     refine⟨fun h=>absurd h (by omega),fun _=>?_⟩
     rw [show apV false=.fn (.func 32) [.ptr 0 0] [] from rfl]
     refine aQ45 ?_
     refine(zeQ _).mono ?_
     rintro _ _ ⟨rfl,rfl⟩
     refine aQ45 ?_
     have hv:=V (eAt R false p k) (o+1) r' true (a) q1 (by omega) (by omega) (by omega)
     rw [← q2] at hv
     refine ACalls.frame ([0,3]) (hv) rfl (by decide) (by simp [LM3,zah,zad,renL,AV.ren,AEnd.ren,zan,List.getElem?_cons_zero,List.getElem?_cons_succ]) (by first | rfl | simp [LM3,zah,zad,renL,AV.ren,AEnd.ren,zan,List.getElem?_cons_zero,List.getElem?_cons_succ]) ?_
     rintro _ _ ⟨rfl,rfl⟩
     refine⟨.ret (.tup []),[sbW 78 true 0 4 (a++(shF false b cl f R (o+1) (eAt R false p k))).length (sR false b cl R ((eAt R false p (k+1):Nat):Int) ((o+1:Nat):Int)),.dead,.rw [.ptr 0 0],.dead,sbB 5 (a++(shF false b cl f R (o+1) (eAt R false p k)))],(aQ3 ([0,3,3,1,2])),(aQ10 ([0,3,3,1,2])),?_⟩
     refine aQ45 ?_
     repeat (with_reducible refine And.intro aQ15 ?_)
     rw [zam]
     refine⟨k+1,by omega,by (show n.kids.toNat - (k+1) < n.kids.toNat - k);omega,zak (q:=[0,1,2,4]) rfl rfl (by decide) ?_ ?_⟩
     ·refine aQ27 ?_
      exact⟨by simp [renL,AV.ren],.inr (by omega)⟩
     ·try dsimp only
      rw [← hfin]
      exact ze2 rfl rfl rfl (zan rfl _ _ _ _ _ _)
    | true =>
     have hx:a++apS true b (o+1)++(shF true b cl f R (o+1) (eAt R false p k))=a++zbc true b cl (shF true b cl f R) R false p o k:=by simp [zbc,bK,hk,apS,keyT]
     have hxl:(a++apS true b (o+1)).length+(shF true b cl f R (o+1) (eAt R false p k)).length=a.length+(zbc true b cl (shF true b cl f R) R false p o k).length:=by rw [← List.length_append,hx,List.length_append]
     have hfin:=(hA1 _).2 rfl
     rw [← hx] at hfin
     refine⟨fun h=>absurd h (by omega),fun _=>?_⟩
     rw [show apV true=.fn (.func 35) [.ptr 0 0] [] from rfl]
     refine aQ45 ?_
     have hli:=zeR true (a) b (o+1) hb (by omega) cl R ((eAt R false p k:Nat):Int) aQ20
     refine ACalls.frame ([0,3]) (hli) rfl (by decide) (by simp [LM3,zah,zad,renL,AV.ren,AEnd.ren,zan,List.getElem?_cons_zero,List.getElem?_cons_succ]) (by first | rfl | simp [LM3,zah,zad,renL,AV.ren,AEnd.ren,zan,List.getElem?_cons_zero,List.getElem?_cons_succ]) ?_
     rintro _ _ ⟨rfl,rfl⟩
     refine⟨.ret (.tup []),[sbW 78 true 0 4 (a++apS true b (o+1)).length (sR true b cl R ((eAt R false p k:Nat):Int) ((o+1:Nat):Int)),.dead,.rw [.ptr 0 0],.dead,sbB 5 (a++apS true b (o+1))],(aQ3 ([0,3,3,1,2])),(aQ10 ([0,3,3,1,2])),?_⟩
     refine aQ45 ?_
     have hv:=V (eAt R false p k) (o+1) r' true (a++apS true b (o+1)) q1 (by omega) (by omega) (by omega)
     rw [← q2] at hv
     refine ACalls.frame ([0,4]) (hv) rfl (by decide) (by simp [LM3,zah,zad,renL,AV.ren,AEnd.ren,zan,List.getElem?_cons_zero,List.getElem?_cons_succ]) (by first | rfl | simp [LM3,zah,zad,renL,AV.ren,AEnd.ren,zan,List.getElem?_cons_zero,List.getElem?_cons_succ]) ?_
     rintro _ _ ⟨rfl,rfl⟩
     refine⟨.ret (.tup []),[sbW 78 true 0 5 (a++apS true b (o+1)++(shF true b cl f R (o+1) (eAt R false p k))).length (sR true b cl R ((eAt R false p (k+1):Nat):Int) ((o+1:Nat):Int)),.dead,.rw [.ptr 0 0],.dead,.dead,sbB 5 (a++apS true b (o+1)++(shF true b cl f R (o+1) (eAt R false p k)))],(aQ3 ([0,3,3,3,1,2])),(aQ10 ([0,3,3,3,1,2])),?_⟩
     refine aQ45 ?_
     repeat (with_reducible refine And.intro aQ15 ?_)
     rw [zam]
     refine⟨k+1,by omega,by (show n.kids.toNat - (k+1) < n.kids.toNat - k);omega,zak (q:=[0,1,2,5]) rfl rfl (by decide) ?_ ?_⟩
     ·refine aQ27 ?_
      exact⟨by simp [renL,AV.ren],.inr (by omega)⟩
     ·try dsimp only
      rw [← hfin]
      exact ze2 rfl rfl rfl (zan rfl _ _ _ _ _ _)
   ·cases m with
    | false =>
     have hx:a++[44]++(shF false b cl f R (o+1) (eAt R false p k))=a++zbc false b cl (shF false b cl f R) R false p o k:=by simp [zbc,bK,hk,apS,keyT]
     have hxl:(a++[44]).length+(shF false b cl f R (o+1) (eAt R false p k)).length=a.length+(zbc false b cl (shF false b cl f R) R false p o k).length:=by rw [← List.length_append,hx,List.length_append]
     have hfin:=(hA1 _).2 rfl
     rw [← hx] at hfin
     refine⟨fun _=>?_,fun h=>absurd (by omega) h⟩
     have h44:=zdo true a 44 (sR false b cl R ((eAt R false p k:Nat):Int) ((o+1:Nat):Int)) cp_S rfl (fun q _ h=>zan h _ _ _ _ _ _) (by omega)
     unfold wI wO at h44
     refine ACalls.frame ([0,3]) (h44) rfl (by decide) (by simp [LM3,zah,zad,renL,AV.ren,AEnd.ren,zan,List.getElem?_cons_zero,List.getElem?_cons_succ]) (by first | rfl | simp [LM3,zah,zad,renL,AV.ren,AEnd.ren,zan,List.getElem?_cons_zero,List.getElem?_cons_succ]) ?_
     rintro _ _ ⟨rfl,rfl⟩
     refine⟨.ret (.lit .nilIface),[sbW 78 true 0 4 (a++[44]).length (sR false b cl R ((eAt R false p k:Nat):Int) ((o+1:Nat):Int)),.dead,.rw [.ptr 0 0],.dead,sbB 5 (a++[44])],(aQ3 ([0,3,3,1,2])),(aQ10 ([0,3,3,1,2])),?_⟩
     refine aQ45 ?_
     rw [show apV false=.fn (.func 32) [.ptr 0 0] [] from rfl]
     refine aQ45 ?_
     refine(zeQ _).mono ?_
     rintro _ _ ⟨rfl,rfl⟩
     refine aQ45 ?_
     have hv:=V (eAt R false p k) (o+1) r' true (a++[44]) q1 (by omega) (by omega) (by omega)
     rw [← q2] at hv
     refine ACalls.frame ([0,4]) (hv) rfl (by decide) (by simp [LM3,zah,zad,renL,AV.ren,AEnd.ren,zan,List.getElem?_cons_zero,List.getElem?_cons_succ]) (by first | rfl | simp [LM3,zah,zad,renL,AV.ren,AEnd.ren,zan,List.getElem?_cons_zero,List.getElem?_cons_succ]) ?_
     rintro _ _ ⟨rfl,rfl⟩
     refine⟨.ret (.tup []),[sbW 78 true 0 5 (a++[44]++(shF false b cl f R (o+1) (eAt R false p k))).length (sR false b cl R ((eAt R false p (k+1):Nat):Int) ((o+1:Nat):Int)),.dead,.rw [.ptr 0 0],.dead,.dead,sbB 5 (a++[44]++(shF false b cl f R (o+1) (eAt R false p k)))],(aQ3 ([0,3,3,3,1,2])),(aQ10 ([0,3,3,3,1,2])),?_⟩
     refine aQ45 ?_
     repeat (with_reducible refine And.intro aQ15 ?_)
     rw [zam]
     refine⟨k+1,by omega,by (show n.kids.toNat - (k+1) < n.kids.toNat - k);omega,zak (q:=[0,1,2,5]) rfl rfl (by decide) ?_ ?_⟩
     ·refine aQ27 ?_
      exact⟨by simp [renL,AV.ren],.inr (by omega)⟩
     ·try dsimp only
      rw [← hfin]
      exact ze2 rfl rfl rfl (zan rfl _ _ _ _ _ _)
    | true =>
     have hx:a++[44]++apS true b (o+1)++(shF true b cl f R (o+1) (eAt R false p k))=a++zbc true b cl (shF true b cl f R) R false p o k:=by simp [zbc,bK,hk,apS,keyT]
     have hxl:(a++[44]++apS true b (o+1)).length+(shF true b cl f R (o+1) (eAt R false p k)).length=a.length+(zbc true b cl (shF true b cl f R) R false p o k).length:=by rw [← List.length_append,hx,List.length_append]
     have hfin:=(hA1 _).2 rfl
     rw [← hx] at hfin
     refine⟨fun _=>?_,fun h=>absurd (by omega) h⟩
     have h44:=zdo true a 44 (sR true b cl R ((eAt R false p k:Nat):Int) ((o+1:Nat):Int)) cp_S rfl (fun q _ h=>zan h _ _ _ _ _ _) (by omega)
     unfold wI wO at h44
     refine ACalls.frame ([0,3]) (h44) rfl (by decide) (by simp [LM3,zah,zad,renL,AV.ren,AEnd.ren,zan,List.getElem?_cons_zero,List.getElem?_cons_succ]) (by first | rfl | simp [LM3,zah,zad,renL,AV.ren,AEnd.ren,zan,List.getElem?_cons_zero,List.getElem?_cons_succ]) ?_
     rintro _ _ ⟨rfl,rfl⟩
     refine⟨.ret (.lit .nilIface),[sbW 78 true 0 4 (a++[44]).length (sR true b cl R ((eAt R false p k:Nat):Int) ((o+1:Nat):Int)),.dead,.rw [.ptr 0 0],.dead,sbB 5 (a++[44])],(aQ3 ([0,3,3,1,2])),(aQ10 ([0,3,3,1,2])),?_⟩
     refine aQ45 ?_
     rw [show apV true=.fn (.func 35) [.ptr 0 0] [] from rfl]
     refine aQ45 ?_
     have hli:=zeR true (a++[44]) b (o+1) hb (by omega) cl R ((eAt R false p k:Nat):Int) aQ20
     refine ACalls.frame ([0,4]) (hli) rfl (by decide) (by simp [LM3,zah,zad,renL,AV.ren,AEnd.ren,zan,List.getElem?_cons_zero,List.getElem?_cons_succ]) (by first | rfl | simp [LM3,zah,zad,renL,AV.ren,AEnd.ren,zan,List.getElem?_cons_zero,List.getElem?_cons_succ]) ?_
     rintro _ _ ⟨rfl,rfl⟩
     refine⟨.ret (.tup []),[sbW 78 true 0 5 (a++[44]++apS true b (o+1)).length (sR true b cl R ((eAt R false p k:Nat):Int) ((o+1:Nat):Int)),.dead,.rw [.ptr 0 0],.dead,.dead,sbB 5 (a++[44]++apS true b (o+1))],(aQ3 ([0,3,3,3,1,2])),(aQ10 ([0,3,3,3,1,2])),?_⟩
     refine aQ45 ?_
     have hv:=V (eAt R false p k) (o+1) r' true (a++[44]++apS true b (o+1)) q1 (by omega) (by omega) (by omega)
     rw [← q2] at hv
     refine ACalls.frame ([0,5]) (hv) rfl (by decide) (by simp [LM3,zah,zad,renL,AV.ren,AEnd.ren,zan,List.getElem?_cons_zero,List.getElem?_cons_succ]) (by first | rfl | simp [LM3,zah,zad,renL,AV.ren,AEnd.ren,zan,List.getElem?_cons_zero,List.getElem?_cons_succ]) ?_
     rintro _ _ ⟨rfl,rfl⟩
     refine⟨.ret (.tup []),[sbW 78 true 0 6 (a++[44]++apS true b (o+1)++(shF true b cl f R (o+1) (eAt R false p k))).length (sR true b cl R ((eAt R false p (k+1):Nat):Int) ((o+1:Nat):Int)),.dead,.rw [.ptr 0 0],.dead,.dead,.dead,sbB 5 (a++[44]++apS true b (o+1)++(shF true b cl f R (o+1) (eAt R false p k)))],(aQ3 ([0,3,3,3,3,1,2])),(aQ10 ([0,3,3,3,3,1,2])),?_⟩
     refine aQ45 ?_
     repeat (with_reducible refine And.intro aQ15 ?_)
     rw [zam]
     refine⟨k+1,by omega,by (show n.kids.toNat - (k+1) < n.kids.toNat - k);omega,zak (q:=[0,1,2,6]) rfl rfl (by decide) ?_ ?_⟩
     ·refine aQ27 ?_
      exact⟨by simp [renL,AV.ren],.inr (by omega)⟩
     ·try dsimp only
      rw [← hfin]
      exact ze2 rfl rfl rfl (zan rfl _ _ _ _ _ _)
  ·obtain rfl:k=n.kids.toNat:=by omega
   rw [ends]
   have eo:((o+1:Nat):Int) - 1=(o:Int):=by omega
   try simp -implicitDefEqProofs only [LM4,eq_self,za2 (T:=T) 71 68 69 5 rfl,zag,zaf,zaJ,eo,TB,SB,Int.reduceToNat,Nat.reduceAdd,Nat.reduceEqDiff,Nat.reduceLT,Nat.reduceMod,Nat.reducePow,Nat.reduceSub,if_true,reduceIte]
   refine⟨by unfold inI;omega,fun hz=>?_,fun hz=>?_⟩
   ·have hzz:0 < n.kids.toNat:=by omega
    cases m with
    | false =>
     rw [show apV false=.fn (.func 32) [.ptr 0 0] [] from rfl]
     refine aQ45 ?_
     refine(zeQ _).mono ?_
     rintro _ _ ⟨rfl,rfl⟩
     refine aQ45 ?_
     refine zcd [5] (by kernel_rfl) (by kernel_rfl) (by kernel_rfl) ?_
     refine aQ45 ?_
     repeat (with_reducible refine And.intro aQ15 ?_)
     rw [show ([91,93]:List UInt8).getD 1 0=93 from rfl]
     have hT2:a++[93]=acc++(91::(kidH false b cl (shF false b cl f R) R false p o n.kids.toNat++(endH false b o n.kids.toNat++[93]))):=by rw [hA];simp [endH,hzz,apS]
     have hlt2:=congrArg List.length hT2
     have hbz:=zdo true (a) 93 (sR false b cl R (r.1:Int) o) cp_S rfl (fun q _ h=>zan h _ _ _ _ _ _) (by simp only [List.length_append,List.length_cons,List.length_nil] at hlt2 ⊢;omega)
     unfold wI wO at hbz
     refine ACalls.frame ([0,3]) (hbz) rfl (by decide) (by simp [LM3,zah,zad,renL,AV.ren,AEnd.ren,zan,List.getElem?_cons_zero,List.getElem?_cons_succ]) (by first | rfl | simp [LM3,zah,zad,renL,AV.ren,AEnd.ren,zan,List.getElem?_cons_zero,List.getElem?_cons_succ]) ?_
     rintro _ _ ⟨rfl,rfl⟩
     refine⟨.ret (.lit .nilIface),[sbW 78 true 0 4 (a++[93]).length (sR false b cl R (r.1:Int) (o:Int)),.dead,.rw [.ptr 0 0],.dead,sbB 5 (a++[93])],(aQ3 ([0,3,3,1,2])),(aQ10 ([0,3,3,1,2])),?_⟩
     refine aQ45 ?_
     rw [hT2]
     exact zfh (k:=4) rfl rfl rfl (by decide) (zan rfl _ _ _ _ _ _) rfl ⟨rfl,rfl⟩
    | true =>
     rw [show apV true=.fn (.func 35) [.ptr 0 0] [] from rfl]
     refine aQ45 ?_
     have hli:=zeR true a b o hb (by omega) cl R (r.1:Int) (by omega)
     refine ACalls.frame ([0,3]) (hli) rfl (by decide) (by simp [LM3,zah,zad,renL,AV.ren,AEnd.ren,zan,List.getElem?_cons_zero,List.getElem?_cons_succ]) (by first | rfl | simp [LM3,zah,zad,renL,AV.ren,AEnd.ren,zan,List.getElem?_cons_zero,List.getElem?_cons_succ]) ?_
     rintro _ _ ⟨rfl,rfl⟩
     refine⟨.ret (.tup []),[sbW 78 true 0 4 (a++apS true b o).length (sR true b cl R (r.1:Int) (o:Int)),.dead,.rw [.ptr 0 0],.dead,sbB 5 (a++apS true b o)],(aQ3 ([0,3,3,1,2])),(aQ10 ([0,3,3,1,2])),?_⟩
     refine aQ45 ?_
     refine zcd [5] (by kernel_rfl) (by kernel_rfl) (by kernel_rfl) ?_
     refine aQ45 ?_
     repeat (with_reducible refine And.intro aQ15 ?_)
     rw [show ([91,93]:List UInt8).getD 1 0=93 from rfl]
     have hT2:a++apS true b o++[93]=acc++(91::(kidH true b cl (shF true b cl f R) R false p o n.kids.toNat++(endH true b o n.kids.toNat++[93]))):=by rw [hA];simp [endH,hzz,apS]
     have hlt2:=congrArg List.length hT2
     have hbz:=zdo true (a++apS true b o) 93 (sR true b cl R (r.1:Int) o) cp_S rfl (fun q _ h=>zan h _ _ _ _ _ _) (by simp only [List.length_append,List.length_cons,List.length_nil] at hlt2 ⊢;omega)
     unfold wI wO at hbz
     refine ACalls.frame ([0,4]) (hbz) rfl (by decide) (by simp [LM3,zah,zad,renL,AV.ren,AEnd.ren,zan,List.getElem?_cons_zero,List.getElem?_cons_succ]) (by first | rfl | simp [LM3,zah,zad,renL,AV.ren,AEnd.ren,zan,List.getElem?_cons_zero,List.getElem?_cons_succ]) ?_
     rintro _ _ ⟨rfl,rfl⟩
     refine⟨.ret (.lit .nilIface),[sbW 78 true 0 5 (a++apS true b o++[93]).length (sR true b cl R (r.1:Int) (o:Int)),.dead,.rw [.ptr 0 0],.dead,.dead,sbB 5 (a++apS true b o++[93])],(aQ3 ([0,3,3,3,1,2])),(aQ10 ([0,3,3,3,1,2])),?_⟩
     refine aQ45 ?_
     rw [hT2]
     exact zfh (k:=5) rfl rfl rfl (by decide) (zan rfl _ _ _ _ _ _) rfl ⟨rfl,rfl⟩
   ·have hzz:¬ 0 < n.kids.toNat:=by omega
    refine zcd [5] (by kernel_rfl) (by kernel_rfl) (by kernel_rfl) ?_
    refine aQ45 ?_
    repeat (with_reducible refine And.intro aQ15 ?_)
    rw [show ([91,93]:List UInt8).getD 1 0=93 from rfl]
    have hT2:a++[93]=acc++(91::(kidH m b cl (shF m b cl f R) R false p o n.kids.toNat++(endH m b o n.kids.toNat++[93]))):=by rw [hA];simp [endH,hzz,apS]
    have hlt2:=congrArg List.length hT2
    have hbz:=zdo true (a) 93 (sR m b cl R (r.1:Int) o) cp_S rfl (fun q _ h=>zan h _ _ _ _ _ _) (by simp only [List.length_append,List.length_cons,List.length_nil] at hlt2 ⊢;omega)
    unfold wI wO at hbz
    refine ACalls.frame ([0,3]) (hbz) rfl (by decide) (by simp [LM3,zah,zad,renL,AV.ren,AEnd.ren,zan,List.getElem?_cons_zero,List.getElem?_cons_succ]) (by first | rfl | simp [LM3,zah,zad,renL,AV.ren,AEnd.ren,zan,List.getElem?_cons_zero,List.getElem?_cons_succ]) ?_
    rintro _ _ ⟨rfl,rfl⟩
    refine⟨.ret (.lit .nilIface),[sbW 78 true 0 4 (a++[93]).length (sR m b cl R (r.1:Int) (o:Int)),.dead,.rw [.ptr 0 0],.dead,sbB 5 (a++[93])],(aQ3 ([0,3,3,1,2])),(aQ10 ([0,3,3,1,2])),?_⟩
    refine aQ45 ?_
    rw [hT2]
    exact zfh (k:=4) rfl rfl rfl (by decide) (zan rfl _ _ _ _ _ _) rfl ⟨rfl,rfl⟩
set_option maxHeartbeats 4000000 in
theorem smembers_ok (m:Bool) (b:Nat) (hb:b≤8) (cl:List UInt8) (hcl:cl.length≤1000) (f:Nat) (R:List Nd) (V:SValue m b cl f R) (hR:R.length≤1000000) (hT:∀ n,n∈R→n.text.length≤1000000) (p o:Nat) (n:Nd) (r:Nat × Nat) (hK:Kids R p n r) (hkd:n.kind=5) (hf:r.1 - p≤f+1) (ho:o+(f+1)≤1000000) (u:Bool) (acc:List UInt8) (hl:acc.length+(123::(kidH m b cl (shF m b cl f R) R true p o n.kids.toNat++(endH m b o n.kids.toNat++[125]))).length≤100000000000) :
  ACalls Tryz.prog 50 [.ptr 0 0,i64 n.kids,str [123,125],.fn (.func 51) [] [.ptr 2 0]] [sbW 78 u 0 1 acc.length (sR m b cl R ((p+1:Nat):Int) o),sbB 5 acc,.rw [.ptr 0 0]] (fun x σ=>x=.ret (.tup [])∧σ=[sbW 78 true 0 3 (acc++(123::(kidH m b cl (shF m b cl f R) R true p o n.kids.toNat++(endH m b o n.kids.toNat++[125])))).length (sR m b cl R r.1 o),.dead,.rw [.ptr 0 0],sbB 5 (acc++(123::(kidH m b cl (shF m b cl f R) R true p o n.kids.toNat++(endH m b o n.kids.toNat++[125]))))]):=by
 have few:=hK.few
 have kid:=@Kids.kid R p n r hK
 have inv:=hK.inv
 have ends:=hK.ends.1
 rw [show decide (n.kind=5)=true from decide_eq_true hkd] at kid inv ends
 have e0:eAt R true p 0=p+1:=rfl
 simp only [List.length_cons,List.length_append,List.length_nil] at hl
 have hle:=fun k (h:k≤n.kids.toNat)=>kidH_le m b cl (shF m b cl f R) R true p o h
 have hap:=zis b (o+1) hb (by omega) m
 have hb1:=zdo u acc 123 (sR m b cl R ((p+1:Nat):Int) o) cp_S rfl (fun q _ h=>zan h _ _ _ _ _ _) (by omega)
 unfold wI wO at hb1
 refine ACalls.body T_ok Tryz.func50 (by kernel_rfl) rfl Tryz.ntmps50 (congrArg Array.toList Tryz.results50) ?_
 refine aQ45 ?_
 refine zcd [5] (by kernel_rfl) (by kernel_rfl) (by kernel_rfl) ?_
 refine aQ45 ?_
 repeat (with_reducible refine And.intro aQ15 ?_)
 rw [show ([123,125]:List UInt8).getD 0 0=123 from rfl]
 refine ACalls.frame ([0,1]) (hb1) rfl (by decide) (by simp [LM3,zah,zad,renL,AV.ren,AEnd.ren,zan,List.getElem?_cons_zero,List.getElem?_cons_succ]) (by first | rfl | simp [LM3,zah,zad,renL,AV.ren,AEnd.ren,zan,List.getElem?_cons_zero,List.getElem?_cons_succ]) ?_
 rintro _ _ ⟨rfl,rfl⟩
 refine⟨.ret (.lit .nilIface),[sbW 78 true 0 3 (acc++[123]).length (sR m b cl R ((p+1:Nat):Int) o),.dead,.rw [.ptr 0 0],sbB 5 (acc++[123])],(aQ3 ([0,1,3,2])),(aQ10 ([0,1,3,2])),?_⟩
 refine aQ45 ?_
 try simp -implicitDefEqProofs only [LM4,eq_self,za2 (T:=T) 71 68 69 5 rfl,zag,zaf,zaJ,show (o:Int)+1=((o+1:Nat):Int) by omega,TB,SB,Int.reduceToNat,Nat.reduceAdd,Nat.reduceEqDiff,Nat.reduceLT,Nat.reduceMod,Nat.reducePow,Nat.reduceSub,if_true,reduceIte]
 repeat (with_reducible refine And.intro aQ15 ?_)
 have hA0:acc++[123]=(acc++(123::kidH m b cl (shF m b cl f R) R true p o 0)):=by simp [kidH]
 rw [hA0,← e0]
 rw [za6]
 refine⟨Nat,fun k=>k≤n.kids.toNat,fun k=>[.ptr 0 0,i64 n.kids,str [123,125],.fn (.func 51) [] [.ptr 2 0],.bot,.bot,.bot,.bot,.bot,.bot,.bot,.bot,.bot,.bot,.bot,.bot,.bot,.bot,.bot,.bot,.bot,.bot,i64 n.kids,i64 k,.bot,.bot,.bot,.bot,.bot,.bot,.bot,.bot,.bot,.bot,.bot,.bot,.bot,.bot,.bot,.bot,.bot,.bot,.bot,.bot,.bot,.bot,.bot,.bot,.bot,.bot,.bot,.bot,.bot,.bot,.bot,.bot,.bot,.bot,.bot,.bot],fun k=>[sbW 78 true 0 3 (acc++(123::kidH m b cl (shF m b cl f R) R true p o k)).length (sR m b cl R ((eAt R true p k:Nat):Int) ((o+1:Nat):Int)),.dead,.rw [.ptr 0 0],sbB 5 (acc++(123::kidH m b cl (shF m b cl f R) R true p o k))],fun k=>n.kids.toNat - k,0,Nat.zero_le _,zak (q:=[0,1,2,3]) rfl rfl (by decide) ?_ ?_,?_⟩
 ·refine aQ27 ?_
  exact⟨by simp [renL,AV.ren],.inr rfl⟩
 ·exact ze2 rfl rfl rfl (zan rfl _ _ _ _ _ _)
 ·intro k hk0
  dsimp only
  obtain⟨a,hA⟩:∃ a,a=(acc++(123::kidH m b cl (shF m b cl f R) R true p o k)):=⟨_,rfl⟩
  rw [← hA]
  have hal:a.length=acc.length+1+(kidH m b cl (shF m b cl f R) R true p o k).length:=by rw [hA,List.length_append,List.length_cons];omega
  have hlk:=hle k hk0
  have ik:=inv k hk0
  refine aQ45 ?_
  refine⟨fun hlt=>?_,fun hge=>?_⟩
  ·have hlx:k < n.kids.toNat:=by omega
   obtain⟨r',q1,q2,q3⟩:=kid hlx
   have i1:=inv (k+1) (by omega)
   have g1:=zdh q1
   have hlk1:=hle (k+1) (by omega)
   have hsucc:=zcQ m b cl (shF m b cl f R) R true p o k
   have hA1:∀ x,a++x=(acc++(123::kidH m b cl (shF m b cl f R) R true p o (k+1))) ↔ x=zbc m b cl (shF m b cl f R) R true p o k:=fun x=>by rw [hsucc,hA];simp
   have hpl:=congrArg List.length hsucc
   rw [List.length_append] at hpl
   simp only [bK,Bool.false_eq_true,if_false,if_true,Nat.add_zero] at q1 g1
   have hmem:R.getD (eAt R true p k) n0d∈R:=by
    rw [List.getD_eq_getElem?_getD,List.getElem?_eq_getElem (by omega)]
    exact List.getElem_mem _
   have hTk:=hT _ hmem
   by_cases hk:k=0
   ·cases m with
    | false =>
     have hx:a++((quoS (R.getD (eAt R true p k) n0d).text++cl)++shF false b cl f R (o+1) (eAt R true p k+1))=a++zbc false b cl (shF false b cl f R) R true p o k:=by simp [zbc,bK,hk,apS,keyT]
     have hxl:(a).length+((quoS (R.getD (eAt R true p k) n0d).text++cl).length+(shF false b cl f R (o+1) (eAt R true p k+1)).length)=a.length+(zbc false b cl (shF false b cl f R) R true p o k).length:=by have:=congrArg List.length hx;simp only [List.length_append] at this ⊢;omega
     have hfin:=(hA1 _).2 rfl
     rw [← hx] at hfin
     refine⟨fun h=>absurd h (by omega),fun _=>?_⟩
     rw [show apV false=.fn (.func 32) [.ptr 0 0] [] from rfl]
     refine aQ45 ?_
     refine(zeQ _).mono ?_
     rintro _ _ ⟨rfl,rfl⟩
     refine aQ45 ?_
     have hv:=zeS false b cl f R V hR hcl (eAt R true p k) (o+1) true (a) r' q1 (by omega) (by omega) hTk (by omega)
     rw [← q2] at hv
     refine ACalls.frame ([0,3,2]) (hv) rfl (by decide) (by simp [LM3,zah,zad,renL,AV.ren,AEnd.ren,zan,List.getElem?_cons_zero,List.getElem?_cons_succ]) (by first | rfl | simp [LM3,zah,zad,renL,AV.ren,AEnd.ren,zan,List.getElem?_cons_zero,List.getElem?_cons_succ]) ?_
     rintro _ _ ⟨rfl,rfl⟩
     refine⟨.ret (.tup []),[sbW 78 true 0 4 (a++((quoS (R.getD (eAt R true p k) n0d).text++cl)++shF false b cl f R (o+1) (eAt R true p k+1))).length (sR false b cl R ((eAt R true p (k+1):Nat):Int) ((o+1:Nat):Int)),.dead,.rw [.ptr 0 0],.dead,sbB 5 (a++((quoS (R.getD (eAt R true p k) n0d).text++cl)++shF false b cl f R (o+1) (eAt R true p k+1)))],(aQ3 ([0,4,2,1,3])),(aQ10 ([0,4,2,1,3])),?_⟩
     refine aQ45 ?_
     repeat (with_reducible refine And.intro aQ15 ?_)
     rw [zam]
     refine⟨k+1,by omega,by (show n.kids.toNat - (k+1) < n.kids.toNat - k);omega,zak (q:=[0,1,2,4]) rfl rfl (by decide) ?_ ?_⟩
     ·refine aQ27 ?_
      exact⟨by simp [renL,AV.ren],.inr (by omega)⟩
     ·try dsimp only
      rw [← hfin]
      exact ze2 rfl rfl rfl (zan rfl _ _ _ _ _ _)
    | true =>
     have hx:a++apS true b (o+1)++((quoS (R.getD (eAt R true p k) n0d).text++cl)++shF true b cl f R (o+1) (eAt R true p k+1))=a++zbc true b cl (shF true b cl f R) R true p o k:=by simp [zbc,bK,hk,apS,keyT]
     have hxl:(a++apS true b (o+1)).length+((quoS (R.getD (eAt R true p k) n0d).text++cl).length+(shF true b cl f R (o+1) (eAt R true p k+1)).length)=a.length+(zbc true b cl (shF true b cl f R) R true p o k).length:=by have:=congrArg List.length hx;simp only [List.length_append] at this ⊢;omega
     have hfin:=(hA1 _).2 rfl
     rw [← hx] at hfin
     refine⟨fun h=>absurd h (by omega),fun _=>?_⟩
     rw [show apV true=.fn (.func 35) [.ptr 0 0] [] from rfl]
     refine aQ45 ?_
     have hli:=zeR true (a) b (o+1) hb (by omega) cl R ((eAt R true p k:Nat):Int) aQ20
     refine ACalls.frame ([0,3]) (hli) rfl (by decide) (by simp [LM3,zah,zad,renL,AV.ren,AEnd.ren,zan,List.getElem?_cons_zero,List.getElem?_cons_succ]) (by first | rfl | simp [LM3,zah,zad,renL,AV.ren,AEnd.ren,zan,List.getElem?_cons_zero,List.getElem?_cons_succ]) ?_
     rintro _ _ ⟨rfl,rfl⟩
     refine⟨.ret (.tup []),[sbW 78 true 0 4 (a++apS true b (o+1)).length (sR true b cl R ((eAt R true p k:Nat):Int) ((o+1:Nat):Int)),.dead,.rw [.ptr 0 0],.dead,sbB 5 (a++apS true b (o+1))],(aQ3 ([0,3,3,1,2])),(aQ10 ([0,3,3,1,2])),?_⟩
     refine aQ45 ?_
     have hv:=zeS true b cl f R V hR hcl (eAt R true p k) (o+1) true (a++apS true b (o+1)) r' q1 (by omega) (by omega) hTk (by omega)
     rw [← q2] at hv
     refine ACalls.frame ([0,4,2]) (hv) rfl (by decide) (by simp [LM3,zah,zad,renL,AV.ren,AEnd.ren,zan,List.getElem?_cons_zero,List.getElem?_cons_succ]) (by first | rfl | simp [LM3,zah,zad,renL,AV.ren,AEnd.ren,zan,List.getElem?_cons_zero,List.getElem?_cons_succ]) ?_
     rintro _ _ ⟨rfl,rfl⟩
     refine⟨.ret (.tup []),[sbW 78 true 0 5 (a++apS true b (o+1)++((quoS (R.getD (eAt R true p k) n0d).text++cl)++shF true b cl f R (o+1) (eAt R true p k+1))).length (sR true b cl R ((eAt R true p (k+1):Nat):Int) ((o+1:Nat):Int)),.dead,.rw [.ptr 0 0],.dead,.dead,sbB 5 (a++apS true b (o+1)++((quoS (R.getD (eAt R true p k) n0d).text++cl)++shF true b cl f R (o+1) (eAt R true p k+1)))],(aQ3 ([0,4,2,4,1,3])),(aQ10 ([0,4,2,4,1,3])),?_⟩
     refine aQ45 ?_
     repeat (with_reducible refine And.intro aQ15 ?_)
     rw [zam]
     refine⟨k+1,by omega,by (show n.kids.toNat - (k+1) < n.kids.toNat - k);omega,zak (q:=[0,1,2,5]) rfl rfl (by decide) ?_ ?_⟩
     ·refine aQ27 ?_
      exact⟨by simp [renL,AV.ren],.inr (by omega)⟩
     ·try dsimp only
      rw [← hfin]
      exact ze2 rfl rfl rfl (zan rfl _ _ _ _ _ _)
   ·cases m with
    | false =>
     have hx:a++[44]++((quoS (R.getD (eAt R true p k) n0d).text++cl)++shF false b cl f R (o+1) (eAt R true p k+1))=a++zbc false b cl (shF false b cl f R) R true p o k:=by simp [zbc,bK,hk,apS,keyT]
     have hxl:(a++[44]).length+((quoS (R.getD (eAt R true p k) n0d).text++cl).length+(shF false b cl f R (o+1) (eAt R true p k+1)).length)=a.length+(zbc false b cl (shF false b cl f R) R true p o k).length:=by have:=congrArg List.length hx;simp only [List.length_append] at this ⊢;omega
     have hfin:=(hA1 _).2 rfl
     rw [← hx] at hfin
     refine⟨fun _=>?_,fun h=>absurd (by omega) h⟩
     have h44:=zdo true a 44 (sR false b cl R ((eAt R true p k:Nat):Int) ((o+1:Nat):Int)) cp_S rfl (fun q _ h=>zan h _ _ _ _ _ _) (by omega)
     unfold wI wO at h44
     refine ACalls.frame ([0,3]) (h44) rfl (by decide) (by simp [LM3,zah,zad,renL,AV.ren,AEnd.ren,zan,List.getElem?_cons_zero,List.getElem?_cons_succ]) (by first | rfl | simp [LM3,zah,zad,renL,AV.ren,AEnd.ren,zan,List.getElem?_cons_zero,List.getElem?_cons_succ]) ?_
     rintro _ _ ⟨rfl,rfl⟩
     refine⟨.ret (.lit .nilIface),[sbW 78 true 0 4 (a++[44]).length (sR false b cl R ((eAt R true p k:Nat):Int) ((o+1:Nat):Int)),.dead,.rw [.ptr 0 0],.dead,sbB 5 (a++[44])],(aQ3 ([0,3,3,1,2])),(aQ10 ([0,3,3,1,2])),?_⟩
     refine aQ45 ?_
     rw [show apV false=.fn (.func 32) [.ptr 0 0] [] from rfl]
     refine aQ45 ?_
     refine(zeQ _).mono ?_
     rintro _ _ ⟨rfl,rfl⟩
     refine aQ45 ?_
     have hv:=zeS false b cl f R V hR hcl (eAt R true p k) (o+1) true (a++[44]) r' q1 (by omega) (by omega) hTk (by omega)
     rw [← q2] at hv
     refine ACalls.frame ([0,4,2]) (hv) rfl (by decide) (by simp [LM3,zah,zad,renL,AV.ren,AEnd.ren,zan,List.getElem?_cons_zero,List.getElem?_cons_succ]) (by first | rfl | simp [LM3,zah,zad,renL,AV.ren,AEnd.ren,zan,List.getElem?_cons_zero,List.getElem?_cons_succ]) ?_
     rintro _ _ ⟨rfl,rfl⟩
     refine⟨.ret (.tup []),[sbW 78 true 0 5 (a++[44]++((quoS (R.getD (eAt R true p k) n0d).text++cl)++shF false b cl f R (o+1) (eAt R true p k+1))).length (sR false b cl R ((eAt R true p (k+1):Nat):Int) ((o+1:Nat):Int)),.dead,.rw [.ptr 0 0],.dead,.dead,sbB 5 (a++[44]++((quoS (R.getD (eAt R true p k) n0d).text++cl)++shF false b cl f R (o+1) (eAt R true p k+1)))],(aQ3 ([0,4,2,4,1,3])),(aQ10 ([0,4,2,4,1,3])),?_⟩
     refine aQ45 ?_
     repeat (with_reducible refine And.intro aQ15 ?_)
     rw [zam]
     refine⟨k+1,by omega,by (show n.kids.toNat - (k+1) < n.kids.toNat - k);omega,zak (q:=[0,1,2,5]) rfl rfl (by decide) ?_ ?_⟩
     ·refine aQ27 ?_
      exact⟨by simp [renL,AV.ren],.inr (by omega)⟩
     ·try dsimp only
      rw [← hfin]
      exact ze2 rfl rfl rfl (zan rfl _ _ _ _ _ _)
    | true =>
     have hx:a++[44]++apS true b (o+1)++((quoS (R.getD (eAt R true p k) n0d).text++cl)++shF true b cl f R (o+1) (eAt R true p k+1))=a++zbc true b cl (shF true b cl f R) R true p o k:=by simp [zbc,bK,hk,apS,keyT]
     have hxl:(a++[44]++apS true b (o+1)).length+((quoS (R.getD (eAt R true p k) n0d).text++cl).length+(shF true b cl f R (o+1) (eAt R true p k+1)).length)=a.length+(zbc true b cl (shF true b cl f R) R true p o k).length:=by have:=congrArg List.length hx;simp only [List.length_append] at this ⊢;omega
     have hfin:=(hA1 _).2 rfl
     rw [← hx] at hfin
     refine⟨fun _=>?_,fun h=>absurd (by omega) h⟩
     have h44:=zdo true a 44 (sR true b cl R ((eAt R true p k:Nat):Int) ((o+1:Nat):Int)) cp_S rfl (fun q _ h=>zan h _ _ _ _ _ _) (by omega)
     unfold wI wO at h44
     refine ACalls.frame ([0,3]) (h44) rfl (by decide) (by simp [LM3,zah,zad,renL,AV.ren,AEnd.ren,zan,List.getElem?_cons_zero,List.getElem?_cons_succ]) (by first | rfl | simp [LM3,zah,zad,renL,AV.ren,AEnd.ren,zan,List.getElem?_cons_zero,List.getElem?_cons_succ]) ?_
     rintro _ _ ⟨rfl,rfl⟩
     refine⟨.ret (.lit .nilIface),[sbW 78 true 0 4 (a++[44]).length (sR true b cl R ((eAt R true p k:Nat):Int) ((o+1:Nat):Int)),.dead,.rw [.ptr 0 0],.dead,sbB 5 (a++[44])],(aQ3 ([0,3,3,1,2])),(aQ10 ([0,3,3,1,2])),?_⟩
     refine aQ45 ?_
     rw [show apV true=.fn (.func 35) [.ptr 0 0] [] from rfl]
     refine aQ45 ?_
     have hli:=zeR true (a++[44]) b (o+1) hb (by omega) cl R ((eAt R true p k:Nat):Int) aQ20
     refine ACalls.frame ([0,4]) (hli) rfl (by decide) (by simp [LM3,zah,zad,renL,AV.ren,AEnd.ren,zan,List.getElem?_cons_zero,List.getElem?_cons_succ]) (by first | rfl | simp [LM3,zah,zad,renL,AV.ren,AEnd.ren,zan,List.getElem?_cons_zero,List.getElem?_cons_succ]) ?_
     rintro _ _ ⟨rfl,rfl⟩
     refine⟨.ret (.tup []),[sbW 78 true 0 5 (a++[44]++apS true b (o+1)).length (sR true b cl R ((eAt R true p k:Nat):Int) ((o+1:Nat):Int)),.dead,.rw [.ptr 0 0],.dead,.dead,sbB 5 (a++[44]++apS true b (o+1))],(aQ3 ([0,3,3,3,1,2])),(aQ10 ([0,3,3,3,1,2])),?_⟩
     refine aQ45 ?_
     have hv:=zeS true b cl f R V hR hcl (eAt R true p k) (o+1) true (a++[44]++apS true b (o+1)) r' q1 (by omega) (by omega) hTk (by omega)
     rw [← q2] at hv
     refine ACalls.frame ([0,5,2]) (hv) rfl (by decide) (by simp [LM3,zah,zad,renL,AV.ren,AEnd.ren,zan,List.getElem?_cons_zero,List.getElem?_cons_succ]) (by first | rfl | simp [LM3,zah,zad,renL,AV.ren,AEnd.ren,zan,List.getElem?_cons_zero,List.getElem?_cons_succ]) ?_
     rintro _ _ ⟨rfl,rfl⟩
     refine⟨.ret (.tup []),[sbW 78 true 0 6 (a++[44]++apS true b (o+1)++((quoS (R.getD (eAt R true p k) n0d).text++cl)++shF true b cl f R (o+1) (eAt R true p k+1))).length (sR true b cl R ((eAt R true p (k+1):Nat):Int) ((o+1:Nat):Int)),.dead,.rw [.ptr 0 0],.dead,.dead,.dead,sbB 5 (a++[44]++apS true b (o+1)++((quoS (R.getD (eAt R true p k) n0d).text++cl)++shF true b cl f R (o+1) (eAt R true p k+1)))],(aQ3 ([0,4,2,4,4,1,3])),(aQ10 ([0,4,2,4,4,1,3])),?_⟩
     refine aQ45 ?_
     repeat (with_reducible refine And.intro aQ15 ?_)
     rw [zam]
     refine⟨k+1,by omega,by (show n.kids.toNat - (k+1) < n.kids.toNat - k);omega,zak (q:=[0,1,2,6]) rfl rfl (by decide) ?_ ?_⟩
     ·refine aQ27 ?_
      exact⟨by simp [renL,AV.ren],.inr (by omega)⟩
     ·try dsimp only
      rw [← hfin]
      exact ze2 rfl rfl rfl (zan rfl _ _ _ _ _ _)
  ·obtain rfl:k=n.kids.toNat:=by omega
   rw [ends]
   have eo:((o+1:Nat):Int) - 1=(o:Int):=by omega
   try simp -implicitDefEqProofs only [LM4,eq_self,za2 (T:=T) 71 68 69 5 rfl,zag,zaf,zaJ,eo,TB,SB,Int.reduceToNat,Nat.reduceAdd,Nat.reduceEqDiff,Nat.reduceLT,Nat.reduceMod,Nat.reducePow,Nat.reduceSub,if_true,reduceIte]
   refine⟨by unfold inI;omega,fun hz=>?_,fun hz=>?_⟩
   ·have hzz:0 < n.kids.toNat:=by omega
    cases m with
    | false =>
     rw [show apV false=.fn (.func 32) [.ptr 0 0] [] from rfl]
     refine aQ45 ?_
     refine(zeQ _).mono ?_
     rintro _ _ ⟨rfl,rfl⟩
     refine aQ45 ?_
     refine zcd [5] (by kernel_rfl) (by kernel_rfl) (by kernel_rfl) ?_
     refine aQ45 ?_
     repeat (with_reducible refine And.intro aQ15 ?_)
     rw [show ([123,125]:List UInt8).getD 1 0=125 from rfl]
     have hT2:a++[125]=acc++(123::(kidH false b cl (shF false b cl f R) R true p o n.kids.toNat++(endH false b o n.kids.toNat++[125]))):=by rw [hA];simp [endH,hzz,apS]
     have hlt2:=congrArg List.length hT2
     have hbz:=zdo true (a) 125 (sR false b cl R (r.1:Int) o) cp_S rfl (fun q _ h=>zan h _ _ _ _ _ _) (by simp only [List.length_append,List.length_cons,List.length_nil] at hlt2 ⊢;omega)
     unfold wI wO at hbz
     refine ACalls.frame ([0,3]) (hbz) rfl (by decide) (by simp [LM3,zah,zad,renL,AV.ren,AEnd.ren,zan,List.getElem?_cons_zero,List.getElem?_cons_succ]) (by first | rfl | simp [LM3,zah,zad,renL,AV.ren,AEnd.ren,zan,List.getElem?_cons_zero,List.getElem?_cons_succ]) ?_
     rintro _ _ ⟨rfl,rfl⟩
     refine⟨.ret (.lit .nilIface),[sbW 78 true 0 4 (a++[125]).length (sR false b cl R (r.1:Int) (o:Int)),.dead,.rw [.ptr 0 0],.dead,sbB 5 (a++[125])],(aQ3 ([0,3,3,1,2])),(aQ10 ([0,3,3,1,2])),?_⟩
     refine aQ45 ?_
     rw [hT2]
     exact zfh (k:=4) rfl rfl rfl (by decide) (zan rfl _ _ _ _ _ _) rfl ⟨rfl,rfl⟩
    | true =>
     rw [show apV true=.fn (.func 35) [.ptr 0 0] [] from rfl]
     refine aQ45 ?_
     have hli:=zeR true a b o hb (by omega) cl R (r.1:Int) (by omega)
     refine ACalls.frame ([0,3]) (hli) rfl (by decide) (by simp [LM3,zah,zad,renL,AV.ren,AEnd.ren,zan,List.getElem?_cons_zero,List.getElem?_cons_succ]) (by first | rfl | simp [LM3,zah,zad,renL,AV.ren,AEnd.ren,zan,List.getElem?_cons_zero,List.getElem?_cons_succ]) ?_
     rintro _ _ ⟨rfl,rfl⟩
     refine⟨.ret (.tup []),[sbW 78 true 0 4 (a++apS true b o).length (sR true b cl R (r.1:Int) (o:Int)),.dead,.rw [.ptr 0 0],.dead,sbB 5 (a++apS true b o)],(aQ3 ([0,3,3,1,2])),(aQ10 ([0,3,3,1,2])),?_⟩
     refine aQ45 ?_
     refine zcd [5] (by kernel_rfl) (by kernel_rfl) (by kernel_rfl) ?_
     refine aQ45 ?_
     repeat (with_reducible refine And.intro aQ15 ?_)
     rw [show ([123,125]:List UInt8).getD 1 0=125 from rfl]
     have hT2:a++apS true b o++[125]=acc++(123::(kidH true b cl (shF true b cl f R) R true p o n.kids.toNat++(endH true b o n.kids.toNat++[125]))):=by rw [hA];simp [endH,hzz,apS]
     have hlt2:=congrArg List.length hT2
     have hbz:=zdo true (a++apS true b o) 125 (sR true b cl R (r.1:Int) o) cp_S rfl (fun q _ h=>zan h _ _ _ _ _ _) (by simp only [List.length_append,List.length_cons,List.length_nil] at hlt2 ⊢;omega)
     unfold wI wO at hbz
     refine ACalls.frame ([0,4]) (hbz) rfl (by decide) (by simp [LM3,zah,zad,renL,AV.ren,AEnd.ren,zan,List.getElem?_cons_zero,List.getElem?_cons_succ]) (by first | rfl | simp [LM3,zah,zad,renL,AV.ren,AEnd.ren,zan,List.getElem?_cons_zero,List.getElem?_cons_succ]) ?_
     rintro _ _ ⟨rfl,rfl⟩
     refine⟨.ret (.lit .nilIface),[sbW 78 true 0 5 (a++apS true b o++[125]).length (sR true b cl R (r.1:Int) (o:Int)),.dead,.rw [.ptr 0 0],.dead,.dead,sbB 5 (a++apS true b o++[125])],(aQ3 ([0,3,3,3,1,2])),(aQ10 ([0,3,3,3,1,2])),?_⟩
     refine aQ45 ?_
     rw [hT2]
     exact zfh (k:=5) rfl rfl rfl (by decide) (zan rfl _ _ _ _ _ _) rfl ⟨rfl,rfl⟩
   ·have hzz:¬ 0 < n.kids.toNat:=by omega
    refine zcd [5] (by kernel_rfl) (by kernel_rfl) (by kernel_rfl) ?_
    refine aQ45 ?_
    repeat (with_reducible refine And.intro aQ15 ?_)
    rw [show ([123,125]:List UInt8).getD 1 0=125 from rfl]
    have hT2:a++[125]=acc++(123::(kidH m b cl (shF m b cl f R) R true p o n.kids.toNat++(endH m b o n.kids.toNat++[125]))):=by rw [hA];simp [endH,hzz,apS]
    have hlt2:=congrArg List.length hT2
    have hbz:=zdo true (a) 125 (sR m b cl R (r.1:Int) o) cp_S rfl (fun q _ h=>zan h _ _ _ _ _ _) (by simp only [List.length_append,List.length_cons,List.length_nil] at hlt2 ⊢;omega)
    unfold wI wO at hbz
    refine ACalls.frame ([0,3]) (hbz) rfl (by decide) (by simp [LM3,zah,zad,renL,AV.ren,AEnd.ren,zan,List.getElem?_cons_zero,List.getElem?_cons_succ]) (by first | rfl | simp [LM3,zah,zad,renL,AV.ren,AEnd.ren,zan,List.getElem?_cons_zero,List.getElem?_cons_succ]) ?_
    rintro _ _ ⟨rfl,rfl⟩
    refine⟨.ret (.lit .nilIface),[sbW 78 true 0 4 (a++[125]).length (sR m b cl R (r.1:Int) (o:Int)),.dead,.rw [.ptr 0 0],.dead,sbB 5 (a++[125])],(aQ3 ([0,3,3,1,2])),(aQ10 ([0,3,3,1,2])),?_⟩
    refine aQ45 ?_
    rw [hT2]
    exact zfh (k:=4) rfl rfl rfl (by decide) (zan rfl _ _ _ _ _ _) rfl ⟨rfl,rfl⟩
end Go.Proofs.YtnghkomgefieoaaGreatDoor
end

section
namespace Go.Proofs.YtnghkomgefieoaaGreatDoor
open Go Go.Eng
theorem zhW {n:Nd} (h:zbt n=true):∃ k:Nat,n.kind=k∧k < 6:=by
 simp only [zbt,Bool.and_eq_true,decide_eq_true_eq] at h
 exact⟨n.kind.toNat,by omega,by omega⟩
theorem alone_plain {n:Nd} (h:zbt n=true) (h4:n.kind≠4) (h5:n.kind≠5):n.kids=0:=by
 simp only [zbt,Bool.and_eq_true,decide_eq_true_eq] at h
 have:=congrArg Nd.kids h.2
 simp only [zhd] at this
 repeat' split at this
 all_goals first | exact this | omega
set_option maxHeartbeats 4000000 in
theorem sValue (m:Bool) (b:Nat) (hb:b≤8) (cl:List UInt8) (hcl:cl.length≤1000) (R:List Nd) (hR:R.length≤1000000) (hT:∀ n,n∈R→n.text.length≤1000000) (hN:∀ n,n∈R→inI n.num):∀ f,SValue m b cl f R:=by
 intro f
 induction f with
 | zero =>
  intro p o r u acc hv hf
  have:=zdh hv
  omega
 | succ f ih =>
  intro p o r u acc hv hf ho hl
  obtain⟨n,hK⟩:=zhg hv
  have hn:R.getD p n0d=n:=zbU hK.node
  obtain⟨hp,hnp,hal⟩:=zbj hK.node
  obtain⟨k,hk,hk6⟩:=zhW hal
  have few:=hK.few
  have ends:=hK.ends.1
  have hm:n∈R:=List.mem_of_getElem? hnp
  have plain:k≠4→k≠5→r.1=p+1:=fun h4 h5=>by
   have hz:n.kids=0:=alone_plain hal (by omega) (by omega)
   rw [hz] at ends
   exact ends.symm
  obtain⟨L,hL⟩:∃ L,L=shF m b cl (f+1) R o p:=⟨_,rfl⟩
  rw [← hL] at hl ⊢
  rw [shF,hn] at hL
  have hnx:=snext_ok u acc m b o cl R p hp hR
  rw [hn] at hnx
  refine ACalls.body T_ok Tryz.func34 (by kernel_rfl) rfl Tryz.ntmps34 (congrArg Array.toList Tryz.results34) ?_
  refine aQ45 ?_
  refine ACalls.frame ([0,1]) (hnx) rfl (by decide) (by simp [LM3,zah,zad,renL,AV.ren,AEnd.ren,zan,List.getElem?_cons_zero,List.getElem?_cons_succ]) (by first | rfl | simp [LM3,zah,zad,renL,AV.ren,AEnd.ren,zan,List.getElem?_cons_zero,List.getElem?_cons_succ]) ?_
  rintro _ _ ⟨rfl,rfl⟩
  refine⟨.ret (nA n),[sbW 78 u 0 1 acc.length (sR m b cl R ((p+1:Nat):Int) o),sbB 5 acc,.rw [.ptr 0 0]],(aQ3 ([0,1,2])),(aQ10 ([0,1,2])),?_⟩
  refine aQ45 ?_
  refine⟨fun e0=>?_,fun e0=>⟨fun e1=>?_,fun e1=>⟨fun e2=>?_,fun e2=>⟨fun e3=>?_,fun e3=>⟨fun e4=>?_,fun e4=>⟨fun e5=>?_,fun e5=>absurd hk6 (by omega)⟩⟩⟩⟩⟩⟩
  ·have hp2:L=([110,117,108,108]:List UInt8):=by rw [hL,if_pos e0]
   have er:=plain (by omega) (by omega)
   rw [hp2] at hl ⊢
   rw [er]
   have hw:=zhp u acc (([110,117,108,108]:List UInt8)) (sR m b cl R ((p+1:Nat):Int) o) cp_S rfl (by omega)
   unfold wI wO at hw
   refine ACalls.frame ([0,1]) (hw) rfl (by decide) (by simp [LM3,zah,zad,renL,AV.ren,AEnd.ren,zan,List.getElem?_cons_zero,List.getElem?_cons_succ]) (by first | rfl | simp [LM3,zah,zad,renL,AV.ren,AEnd.ren,zan,List.getElem?_cons_zero,List.getElem?_cons_succ]) ?_
   rintro _ _ ⟨rfl,rfl⟩
   refine⟨.ret (.tup [i64 (([110,117,108,108]:List UInt8)).length,.lit .nilIface]),[sbW 78 true 0 4 (acc++(([110,117,108,108]:List UInt8))).length (sR m b cl R ((p+1:Nat):Int) o),.dead,.rw [.ptr 0 0],.rw (nC n),sbB 5 (acc++(([110,117,108,108]:List UInt8)))],(aQ3 ([0,1,3,3,2])),(aQ10 ([0,1,3,3,2])),?_⟩
   refine aQ45 ?_
   exact zfg (k:=4) rfl rfl (by decide) (zan rfl _ _ _ _ _ _) rfl ⟨rfl,rfl⟩
  ·have hp2:L=Go.Lib.formatBool (decide (n.num=1)):=by rw [hL,if_neg e0,if_pos e1]
   have er:=plain (by omega) (by omega)
   rw [hp2] at hl ⊢
   rw [er]
   refine zcd [7] (by kernel_rfl) (by kernel_rfl) (by kernel_rfl) ?_
   refine aQ45 ?_
   refine zcM (fbool_ok (decide (n.num=1))) (by simp [renL,zaU]) (zar _ _) ?_
   refine aQ45 ?_
   have hw:=zhp u acc (Go.Lib.formatBool (decide (n.num=1))) (sR m b cl R ((p+1:Nat):Int) o) cp_S rfl (by omega)
   unfold wI wO at hw
   refine ACalls.frame ([0,1]) (hw) rfl (by decide) (by simp [LM3,zah,zad,renL,AV.ren,AEnd.ren,zan,List.getElem?_cons_zero,List.getElem?_cons_succ]) (by first | rfl | simp [LM3,zah,zad,renL,AV.ren,AEnd.ren,zan,List.getElem?_cons_zero,List.getElem?_cons_succ]) ?_
   rintro _ _ ⟨rfl,rfl⟩
   refine⟨.ret (.tup [i64 (Go.Lib.formatBool (decide (n.num=1))).length,.lit .nilIface]),[sbW 78 true 0 4 (acc++(Go.Lib.formatBool (decide (n.num=1)))).length (sR m b cl R ((p+1:Nat):Int) o),.dead,.rw [.ptr 0 0],.rw (nC n),sbB 5 (acc++(Go.Lib.formatBool (decide (n.num=1))))],(aQ3 ([0,1,3,3,2])),(aQ10 ([0,1,3,3,2])),?_⟩
   refine aQ45 ?_
   exact zfg (k:=4) rfl rfl (by decide) (zan rfl _ _ _ _ _ _) rfl ⟨rfl,rfl⟩
  ·have hp2:L=Go.Lib.itoa n.num:=by rw [hL,if_neg e0,if_neg e1,if_pos e2]
   have er:=plain (by omega) (by omega)
   rw [hp2] at hl ⊢
   rw [er]
   refine zcd [6] (by kernel_rfl) (by kernel_rfl) (by kernel_rfl) ?_
   refine aQ45 ?_
   refine zcM (zhV n.num (hN n hm)) (by simp [renL,zaq]) (zar _ _) ?_
   refine aQ45 ?_
   have hw:=zhp u acc (Go.Lib.itoa n.num) (sR m b cl R ((p+1:Nat):Int) o) cp_S rfl (by omega)
   unfold wI wO at hw
   refine ACalls.frame ([0,1]) (hw) rfl (by decide) (by simp [LM3,zah,zad,renL,AV.ren,AEnd.ren,zan,List.getElem?_cons_zero,List.getElem?_cons_succ]) (by first | rfl | simp [LM3,zah,zad,renL,AV.ren,AEnd.ren,zan,List.getElem?_cons_zero,List.getElem?_cons_succ]) ?_
   rintro _ _ ⟨rfl,rfl⟩
   refine⟨.ret (.tup [i64 (Go.Lib.itoa n.num).length,.lit .nilIface]),[sbW 78 true 0 4 (acc++(Go.Lib.itoa n.num)).length (sR m b cl R ((p+1:Nat):Int) o),.dead,.rw [.ptr 0 0],.rw (nC n),sbB 5 (acc++(Go.Lib.itoa n.num))],(aQ3 ([0,1,3,3,2])),(aQ10 ([0,1,3,3,2])),?_⟩
   refine aQ45 ?_
   exact zfg (k:=4) rfl rfl (by decide) (zan rfl _ _ _ _ _ _) rfl ⟨rfl,rfl⟩
  ·have hp2:L=quoS n.text:=by rw [hL,if_neg e0,if_neg e1,if_neg e2,if_pos e3]
   have er:=plain (by omega) (by omega)
   rw [hp2] at hl ⊢
   rw [er]
   refine zcd [6] (by kernel_rfl) (by kernel_rfl) (by kernel_rfl) ?_
   refine aQ45 ?_
   refine zcM (zgE n.text (by have:=hT n hm;omega)) (by simp [renL,zar]) (zar _ _) ?_
   refine aQ45 ?_
   have hw:=zhp u acc (quoS n.text) (sR m b cl R ((p+1:Nat):Int) o) cp_S rfl (by omega)
   unfold wI wO at hw
   refine ACalls.frame ([0,1]) (hw) rfl (by decide) (by simp [LM3,zah,zad,renL,AV.ren,AEnd.ren,zan,List.getElem?_cons_zero,List.getElem?_cons_succ]) (by first | rfl | simp [LM3,zah,zad,renL,AV.ren,AEnd.ren,zan,List.getElem?_cons_zero,List.getElem?_cons_succ]) ?_
   rintro _ _ ⟨rfl,rfl⟩
   refine⟨.ret (.tup [i64 (quoS n.text).length,.lit .nilIface]),[sbW 78 true 0 4 (acc++(quoS n.text)).length (sR m b cl R ((p+1:Nat):Int) o),.dead,.rw [.ptr 0 0],.rw (nC n),sbB 5 (acc++(quoS n.text))],(aQ3 ([0,1,3,3,2])),(aQ10 ([0,1,3,3,2])),?_⟩
   refine aQ45 ?_
   exact zfg (k:=4) rfl rfl (by decide) (zan rfl _ _ _ _ _ _) rfl ⟨rfl,rfl⟩
  ·have hp2:L=91::(kidH m b cl (shF m b cl f R) R false p o n.kids.toNat++(endH m b o n.kids.toNat++[93])):=by rw [hL,if_neg e0,if_neg e1,if_neg e2,if_neg e3,if_pos e4]
   rw [hp2] at hl ⊢
   have hw:=slist_ok m b hb cl hcl f R ih hR hT p o n r hK (by omega) hf (by omega) u acc hl
   refine ACalls.frame ([0,1,2]) (hw) rfl (by decide) (by simp [LM3,zah,zad,renL,AV.ren,AEnd.ren,zan,List.getElem?_cons_zero,List.getElem?_cons_succ]) (by first | rfl | simp [LM3,zah,zad,renL,AV.ren,AEnd.ren,zan,List.getElem?_cons_zero,List.getElem?_cons_succ]) ?_
   rintro _ _ ⟨rfl,rfl⟩
   refine⟨.ret (.tup []),[sbW 78 true 0 4 (acc++(91::(kidH m b cl (shF m b cl f R) R false p o n.kids.toNat++(endH m b o n.kids.toNat++[93])))).length (sR m b cl R r.1 o),.dead,.rw [.ptr 0 0],.rw (nC n),sbB 5 (acc++(91::(kidH m b cl (shF m b cl f R) R false p o n.kids.toNat++(endH m b o n.kids.toNat++[93]))))],(aQ3 ([0,1,2,4,3])),(aQ10 ([0,1,2,4,3])),?_⟩
   refine aQ45 ?_
   exact zfg (k:=4) rfl rfl (by decide) (zan rfl _ _ _ _ _ _) rfl ⟨rfl,rfl⟩
  ·have hp2:L=123::(kidH m b cl (shF m b cl f R) R true p o n.kids.toNat++(endH m b o n.kids.toNat++[125])):=by rw [hL,if_neg e0,if_neg e1,if_neg e2,if_neg e3,if_neg e4]
   rw [hp2] at hl ⊢
   have hw:=smembers_ok m b hb cl hcl f R ih hR hT p o n r hK (by omega) hf (by omega) u acc hl
   refine ACalls.frame ([0,1,2]) (hw) rfl (by decide) (by simp [LM3,zah,zad,renL,AV.ren,AEnd.ren,zan,List.getElem?_cons_zero,List.getElem?_cons_succ]) (by first | rfl | simp [LM3,zah,zad,renL,AV.ren,AEnd.ren,zan,List.getElem?_cons_zero,List.getElem?_cons_succ]) ?_
   rintro _ _ ⟨rfl,rfl⟩
   refine⟨.ret (.tup []),[sbW 78 true 0 4 (acc++(123::(kidH m b cl (shF m b cl f R) R true p o n.kids.toNat++(endH m b o n.kids.toNat++[125])))).length (sR m b cl R r.1 o),.dead,.rw [.ptr 0 0],.rw (nC n),sbB 5 (acc++(123::(kidH m b cl (shF m b cl f R) R true p o n.kids.toNat++(endH m b o n.kids.toNat++[125]))))],(aQ3 ([0,1,2,4,3])),(aQ10 ([0,1,2,4,3])),?_⟩
   refine aQ45 ?_
   exact zfg (k:=4) rfl rfl (by decide) (zan rfl _ _ _ _ _ _) rfl ⟨rfl,rfl⟩
end Go.Proofs.YtnghkomgefieoaaGreatDoor
end

section
namespace Go.Proofs.YtnghkomgefieoaaGreatDoor
open Go Go.Eng
theorem nDig_le:∀ (k u:Nat),u < 10 ^ (k+1)→Go.Lib.nDigits u≤k+1
 | 0,u,h=>by rw [Go.Lib.nDigits_small (by simpa using h)];exact Nat.le_refl _
 | k+1,u,h=>by
  by_cases h1:u < 10
  ·rw [Go.Lib.nDigits_small h1];omega
  ·rw [Go.Lib.nDigits_big h1]
   have:=nDig_le k (u / 10) (by rw [Nat.pow_succ] at h;omega)
   omega
theorem itoa_le {n:Int} (h:inI n):(Go.Lib.itoa n).length≤20:=by
 unfold inI at h
 unfold Go.Lib.itoa
 split
 ·rw [List.length_cons,Go.Lib.decDigits_length]
  have:=nDig_le 18 n.natAbs (by simp only [Nat.reduceAdd,Nat.reducePow];omega)
  omega
 ·rw [Go.Lib.decDigits_length]
  have:=nDig_le 18 n.toNat (by simp only [Nat.reduceAdd,Nat.reducePow];omega)
  omega
theorem fbool_le (b:Bool):(Go.Lib.formatBool b).length≤5:=by cases b <;> decide
theorem shF_le (m:Bool) (b:Nat) (hb:b≤8) (cl:List UInt8) (hcl:cl.length≤1000) (R:List Nd) (hT:∀ n,n∈R→n.text.length≤1000000) (hN:∀ n,n∈R→inI n.num):∀ (f p o:Nat) (r:Nat × Nat),vl R p=some r→o+f≤1000000→(shF m b cl f R o p).length+20000000≤(r.1 - p) * 40000000:=by
 intro f
 induction f with
 | zero =>
  intro p o r hv _
  have:=zdh hv
  rw [shF]
  simp only [List.length_nil]
  omega
 | succ f ih =>
  intro p o r hv ho
  obtain⟨n,hK⟩:=zhg hv
  have hn:R.getD p n0d=n:=zbU hK.node
  obtain⟨hp,hnp,hal⟩:=zbj hK.node
  have few:=hK.few
  have hm:n∈R:=List.mem_of_getElem? hnp
  have g:=zdh hv
  have hap:=zis b (o+1) hb (by omega) m
  have hap0:=zis b o hb (by omega) m
  have key:∀ mp,decide (n.kind=5)=mp→∀ k,k≤n.kids.toNat→(kidH m b cl (shF m b cl f R) R mp p o k).length≤(eAt R mp p k - (p+1)) * 40000000:=by
   intro mp hmp k
   have kid:=@Kids.kid R p n r hK
   have inv:=hK.inv
   rw [hmp] at kid inv
   induction k with
   | zero=>intro _;simp [kidH]
   | succ k ihk =>
    intro hk
    obtain⟨r',q1,q2,q3⟩:=kid (show k < n.kids.toNat by omega)
    have i0:=inv k (by omega)
    have i1:=inv (k+1) hk
    have h1:=ihk (by omega)
    have h2:=ih (eAt R mp p k+bK mp) (o+1) r' q1 (by omega)
    have g1:=zdh q1
    have hc:(if k=0 then ([]:List UInt8) else [44]).length≤1:=by split <;> simp
    have hq:(if mp then quoS (keyT R mp p k)++cl else []).length≤6001002:=by
     split
     ·have hmem:R.getD (eAt R mp p k) n0d∈R:=by
       rw [List.getD_eq_getElem?_getD,List.getElem?_eq_getElem (by omega)]
       exact List.getElem_mem _
      have ht:=hT _ hmem
      have:=zir (keyT R mp p k)
      unfold keyT at this ⊢
      refine aQ43 ?_
      omega
     ·simp
    rw [zcQ,List.length_append,zbc,List.length_append,List.length_append,List.length_append]
    rw [q2] at i1 ⊢
    omega
  have hend:∀ k,(endH m b o k).length≤8000001:=fun k=>by
   unfold endH
   split
   ·exact hap0
   ·simp
  have e0:=hend n.kids.toNat
  have ends:=hK.ends.1
  rw [shF,hn]
  by_cases h0:n.kind=0
  ·rw [if_pos h0]
   simp only [List.length_cons,List.length_nil]
   omega
  rw [if_neg h0]
  by_cases h1:n.kind=1
  ·rw [if_pos h1]
   have:=fbool_le (decide (n.num=1))
   omega
  rw [if_neg h1]
  by_cases h2:n.kind=2
  ·rw [if_pos h2]
   have:=itoa_le (hN n hm)
   omega
  rw [if_neg h2]
  by_cases h3:n.kind=3
  ·rw [if_pos h3]
   have ht:=hT n hm
   have:=zir n.text
   refine aQ43 ?_
   omega
  rw [if_neg h3]
  by_cases h4:n.kind=4
  ·rw [if_pos h4]
   have hk:=key false (decide_eq_false (by omega)) n.kids.toNat (Nat.le_refl _)
   rw [show decide (n.kind=5)=false from decide_eq_false (by omega)] at ends
   refine aQ46 ?_
   omega
  ·rw [if_neg h4]
   obtain⟨kk,hkk,hk6⟩:=zhW hal
   have h5:n.kind=5:=by omega
   have hk:=key true (decide_eq_true h5) n.kids.toNat (Nat.le_refl _)
   rw [decide_eq_true h5] at ends
   refine aQ46 ?_
   omega
def nF:AV:=.lit .nilFunc
def sR0 (m:Bool) (b:Int) (cl:List UInt8):List AV:=[nilS,i64 0,i64 b,i64 0,apV m,str cl]
theorem zcF {q:List Nat} (h:q[0]?=some 0) (m:Bool) (b:Int) (cl:List UInt8):renL q (sR0 m b cl)=some (sR0 m b cl):=by
 simp [sR0,apV,renL,AV.ren,zaq,zar,h,nilS]
section
variable {K : AV → Prop} {KS : AV → zab → Prop} {σ : zab}
theorem bd_s1 (cl:List UInt8):zbg T 78 [(6,str cl)] K=K (.agg [.lit (.pointer none),nilS,nilS,i64 0,i64 0,i64 0,nF,str cl]):=by
 simp [zbg,T78,tySw,T22,T71,T3,T1,T9,tySl,tyStr,zbZ,zaH,zc1,zce,za5,nilS,nF,i64]
theorem bd_s2 (cl:List UInt8) (b:Int):zbg T 78 [(6,str cl),(3,i64 b)] K=K (.agg [.lit (.pointer none),nilS,nilS,i64 0,i64 b,i64 0,nF,str cl]):=by
 simp [zbg,T78,tySw,T22,T71,T3,T1,T9,tySl,tyStr,za4,zbZ,zaH,zc1,zce,zcj,zbQ,za5,nilS,nF]
 try rfl
theorem box_s {eb:TypeId} (b:Int) (cl:List UInt8) (hk:KS (.ptr σ.length 0) (σ++[.rt true 78 [.lit (.pointer none),.bsl (σ.length+1) 0,nilS,i64 0,i64 b,i64 0,nF,str cl]]++[.rt false eb []])):wbox 78 (.agg [.lit (.pointer none),nilS,nilS,i64 0,i64 b,i64 0,nF,str cl]) σ KS:=by
 refine⟨by simp only [AV.cells,List.all_cons,zce,List.all_nil];rfl,?_⟩
 rw [if_pos (show zdr (AV.agg [.lit (.pointer none),nilS,nilS,i64 0,i64 b,i64 0,nF,str cl]).cells=true from rfl)]
 exact⟨eb,hk⟩
theorem st_ap {a c d e f g h:AV} (fn:FuncId) (v:AV) (id:Nat):st2 (some tyFn) (some (.rt true 78 [a,c,d,e,f,g,v,h])) id 6 (.fn (.func fn) [.ptr 0 0] []) σ KS=KS (.lit undef) (σ.set id (.rt true 78 [a,c,d,e,f,g,.fn (.func fn) [.ptr 0 0] [],h])):=by
 simp [st2,tyFn,AV.cells,AV.one,za5]
theorem st_row {a c d e f g h i:AV} (t:TypeId) (l:List AV) (n:Nat) (id:Nat) (b:Bool):st2 (some (tySl t)) (some (.rt b 78 [a,c,d,e,f,g,h,i])) id 2 (.sl l n) σ KS=KS (.lit undef) (σ.set id (.rt b 78 [a,c,.sl l n,e,f,g,h,i])):=by
 simp [st2,tySl,AV.cells,AV.one,za5]
end
theorem srow_ok:ACalls Tryz.prog 18 [] [] (fun x σ=>x=.ret (.ptr 0 0)∧σ=[sbW 78 false 0 1 0 (sR0 false 0 [58]),sbB 5 []]):=by
 refine ACalls.body T_ok Tryz.func18 (by kernel_rfl) rfl Tryz.ntmps18 (congrArg Array.toList Tryz.results18) ?_
 refine aQ47 ?_
 refine box_s (eb:=5) 0 [58] ?_
 refine aQ47 ?_
 exact zau ⟨rfl,rfl⟩
def byN (b:Int):Nat:=(min (max b 0) 8).toNat
theorem slines_ok (b:Int) (hb:inI b):ACalls Tryz.prog 20 [i64 b] [] (fun x σ=>x=.ret (.ptr 0 0)∧σ=[sbW 78 false 0 1 0 (sR0 true (byN b) [58,32]),sbB 5 []]):=by
 refine ACalls.body T_ok Tryz.func20 (by kernel_rfl) rfl Tryz.ntmps20 (congrArg Array.toList Tryz.results20) ?_
 refine aQ47 ?_
 rw [show min (max b 0) 8=((byN b:Nat):Int) by unfold byN;omega]
 refine box_s (eb:=5) (byN b) [58,32] ?_
 refine aQ47 ?_
 exact zau ⟨rfl,rfl⟩
end Go.Proofs.YtnghkomgefieoaaGreatDoor
end

section
namespace Go.Proofs.YtnghkomgefieoaaGreatDoor
open Go Go.Eng
set_option linter.defProp false in
def LB15:=And.intro @wf_n2 (And.intro @bd_s1 (And.intro @bd_s2 (And.intro @st_ap (@st_row))))
theorem long_of {l:List Nd} (h:zez l=false):∀ m,m∈l→m.text.length≤120:=fun m hm=>by
 have:=List.any_eq_false.1 h m hm
 simpa using this
def shT (m:Bool) (b:Nat) (cl:List UInt8) (l:List Nd):List UInt8:=if zbk l=0 then shF m b cl l.length l 0 0 else []
theorem shT_le (m:Bool) (b:Nat) (hb:b≤8) (cl:List UInt8) (hcl:cl.length≤1000) (l:List Nd) (hN:∀ n,n∈l→inI n.num):(shT m b cl l).length≤5000000000:=by
 unfold shT
 split
 ·rename_i h0
  obtain⟨hl1,hlg,d,hd,_⟩:=zeP h0
  have:=shF_le m b hb cl hcl l (fun n hn=>by have:=long_of hlg n hn;omega) hN l.length 0 0 _ hd (by omega)
  simp only [Nat.sub_zero] at this
  omega
 ·simp
theorem zit (m:Bool) (b:Nat) (hb:b≤8) (cl:List UInt8) (hcl:cl.length≤1000) (l:List Nd) (hl:l.length≤1000000) (hN:∀ n,n∈l→inI n.num):ACalls Tryz.prog 19 [.ptr 0 0,.sl (l.flatMap nC) l.length] [sbW 78 false 0 1 0 (sR0 m b cl),sbB 5 []] (fun y σ=>y=.ret (.tup [str (shT m b cl l),i64 (zbk l)])∧σ=[.dead,.dead]):=by
 have hle:=shT_le m b hb cl hcl l hN
 refine ACalls.body T_ok Tryz.func19 (by kernel_rfl) rfl Tryz.ntmps19 (congrArg Array.toList Tryz.results19) ?_
 refine aQ48 ?_
 refine(zik l hl).pure (by simp [renL,AV.ren,zbF]) ?_
 rintro _ σ ⟨rfl,rfl⟩
 refine⟨zaq _ _,?_⟩
 refine aQ48 ?_
 have fin : ∀ (σ : zab) (s : List UInt8) (e : Int), endQ 2 (.tup [str s, i64 e]) σ (fun r σ' => AEnd.ret r = .ret (.tup [str s, i64 e]) ∧ σ' = [.dead, .dead]) := fun σ s e => zeE [0, 1] (.tup [str s, i64 e]) [.dead, .dead] rfl rfl (by decide) aQ21 ⟨.inl rfl, .inl rfl, trivial⟩ ⟨rfl, rfl⟩
 refine⟨fun h0=>?_,fun h0=>?_⟩
 ·rw [shT,if_neg h0]
  exact fin _ _ _
 obtain⟨hl1,hlg,d,hd,_⟩:=zeP h0
 have hT:=long_of hlg
 rw [shT,if_pos h0] at hle ⊢
 have hV:=sValue m b hb cl hcl l hl (fun n hn=>by have:=hT n hn;omega) hN l.length 0 0 _ false [] hd (by simp) (by omega) (by simp only [List.length_nil];omega)
 rw [List.nil_append] at hV
 rw [show sbW 78 false 0 1 0 (sR0 m b cl)=.rt true 78 [.lit (.pointer none),.bsl 1 0,nilS,i64 0,i64 b,i64 0,apV m,str cl] from rfl]
 refine aQ48 ?_
 rw [show Blk.rt true 78 [.lit (.pointer none),.bsl 1 0,.sl (l.flatMap nC) l.length,i64 0,i64 b,i64 0,apV m,str cl]=sbW 78 false 0 1 ([]:List UInt8).length (sR m b cl l ((0:Nat):Int) ((0:Nat):Int)) from rfl]
 refine ACalls.frame ([0,1]) (hV) rfl (by decide) (by simp [LM3,zah,zad,renL,AV.ren,AEnd.ren,zan,zcF,List.getElem?_cons_zero,List.getElem?_cons_succ]) (by first | rfl | simp [LM3,zah,zad,renL,AV.ren,AEnd.ren,zan,zcF,List.getElem?_cons_zero,List.getElem?_cons_succ]) ?_
 rintro _ _ ⟨rfl,rfl⟩
 refine⟨.ret (.tup []),[sbW 78 true 0 2 (shF m b cl l.length l 0 0).length (sR m b cl l (l.length:Int) ((0:Nat):Int)),.dead,sbB 5 (shF m b cl l.length l 0 0)],(aQ4 ([0,1,2])),(aQ11 ([0,1,2])),?_⟩
 refine aQ48 ?_
 refine bstr_w (u:=true) (k:=2) (l:=shF m b cl l.length l 0 0) (r:=sR m b cl l (l.length:Int) ((0:Nat):Int)) rfl rfl (by omega) ?_
 refine aQ48 ?_
 rw [h0]
 exact fin _ _ _
theorem short_ok (s:List UInt8) (e:Int):ACalls Tryz.prog 17 [str s,i64 e] [] (fun y _=>y=.ret (.tup [str (if 2048 < s.length then [] else s),i64 (if 2048 < s.length then 4 else e)])):=by
 refine ACalls.body T_ok Tryz.func17 (by kernel_rfl) rfl Tryz.ntmps17 (congrArg Array.toList Tryz.results17) ?_
 refine aQ48 ?_
 refine⟨fun h=>?_,fun h=>?_⟩
 ·rw [if_pos (by omega),if_pos (by omega)]
  exact zaz aQ21 rfl
 ·rw [if_neg (by omega),if_neg (by omega)]
  exact zaz aQ21 rfl
def zb1 (m:Bool) (b:Nat) (cl:List UInt8) (l:List Nd):List UInt8 × Int:=if 2048 < (shT m b cl l).length then ([],4) else (shT m b cl l,zbk l)
theorem showR_eq (m:Bool) (b:Nat) (cl:List UInt8) (l:List Nd):AV.tup [str (if 2048 < (shT m b cl l).length then [] else shT m b cl l),i64 (if 2048 < (shT m b cl l).length then 4 else zbk l)]=.tup [str (zb1 m b cl l).1,i64 (zb1 m b cl l).2]:=by
 unfold zb1
 split <;> rfl
theorem zeF (l:List Nd) (hl:l.length≤1000000) (hN:∀ n,n∈l→inI n.num):ACalls Tryz.prog 8 [.sl (l.flatMap nC) l.length] [] (fun y _=>y=.ret (.tup [str (zb1 false 0 [58] l).1,i64 (zb1 false 0 [58] l).2])):=by
 have ht:=zit false 0 (by decide) [58] (by decide) l hl hN
 have hs:=short_ok (shT false 0 [58] l) (zbk l)
 rw [showR_eq] at hs
 refine ACalls.body T_ok Tryz.func8 (by kernel_rfl) rfl Tryz.ntmps8 (congrArg Array.toList Tryz.results8) ?_
 refine aQ48 ?_
 refine srow_ok.mono ?_
 rintro _ _ ⟨rfl,rfl⟩
 refine aQ48 ?_
 refine ACalls.frame ([0,1]) (ht) rfl (by decide) (by simp [LM3,zah,zad,renL,AV.ren,AEnd.ren,zan,zcF,List.getElem?_cons_zero,List.getElem?_cons_succ]) (by first | rfl | simp [LM3,zah,zad,renL,AV.ren,AEnd.ren,zan,zcF,List.getElem?_cons_zero,List.getElem?_cons_succ]) ?_
 rintro _ _ ⟨rfl,rfl⟩
 refine⟨.ret (.tup [str (shT false 0 [58] l),i64 (zbk l)]),[.dead,.dead],(aQ4 ([0,1])),(aQ11 ([0,1])),?_⟩
 refine aQ48 ?_
 refine(hs).pure aQ16 ?_
 rintro _ σ rfl
 refine⟨by first | rfl | simp [AEnd.noid,AV.ren,renL,zaP,zaG str zar,zba,zaZ,za3,zaq,zaU,zar],?_⟩
 refine aQ48 ?_
 exact zaz aQ21 rfl
theorem Lines_ok (l:List Nd) (by':Int) (hb:inI by') (hl:l.length≤1000000) (hN:∀ n,n∈l→inI n.num):ACalls Tryz.prog 9 [.sl (l.flatMap nC) l.length,i64 by'] [] (fun y _=>y=.ret (.tup [str (zb1 true (byN by') [58,32] l).1,i64 (zb1 true (byN by') [58,32] l).2])):=by
 have ht:=zit true (byN by') (by unfold byN;omega) [58,32] (by decide) l hl hN
 have hs:=short_ok (shT true (byN by') [58,32] l) (zbk l)
 rw [showR_eq] at hs
 refine ACalls.body T_ok Tryz.func9 (by kernel_rfl) rfl Tryz.ntmps9 (congrArg Array.toList Tryz.results9) ?_
 refine aQ48 ?_
 refine(slines_ok by' hb).mono ?_
 rintro _ _ ⟨rfl,rfl⟩
 refine aQ48 ?_
 refine ACalls.frame ([0,1]) (ht) rfl (by decide) (by simp [LM3,zah,zad,renL,AV.ren,AEnd.ren,zan,zcF,List.getElem?_cons_zero,List.getElem?_cons_succ]) (by first | rfl | simp [LM3,zah,zad,renL,AV.ren,AEnd.ren,zan,zcF,List.getElem?_cons_zero,List.getElem?_cons_succ]) ?_
 rintro _ _ ⟨rfl,rfl⟩
 refine⟨.ret (.tup [str (shT true (byN by') [58,32] l),i64 (zbk l)]),[.dead,.dead],(aQ4 ([0,1])),(aQ11 ([0,1])),?_⟩
 refine aQ48 ?_
 refine(hs).pure aQ16 ?_
 rintro _ σ rfl
 refine⟨by first | rfl | simp [AEnd.noid,AV.ren,renL,zaP,zaG str zar,zba,zaZ,za3,zaq,zaU,zar],?_⟩
 refine aQ48 ?_
 exact zaz aQ21 rfl
theorem Size_ok (l:List Nd) (hl:l.length≤1000000) (hN:∀ n,n∈l→inI n.num):ACalls Tryz.prog 16 [.sl (l.flatMap nC) l.length] [] (fun y _=>y=.ret (i64 (shT false 0 [58] l).length)):=by
 have ht:=zit false 0 (by decide) [58] (by decide) l hl hN
 refine ACalls.body T_ok Tryz.func16 (by kernel_rfl) rfl Tryz.ntmps16 (congrArg Array.toList Tryz.results16) ?_
 refine aQ48 ?_
 refine srow_ok.mono ?_
 rintro _ _ ⟨rfl,rfl⟩
 refine aQ48 ?_
 refine ACalls.frame ([0,1]) (ht) rfl (by decide) (by simp [LM3,zah,zad,renL,AV.ren,AEnd.ren,zan,zcF,List.getElem?_cons_zero,List.getElem?_cons_succ]) (by first | rfl | simp [LM3,zah,zad,renL,AV.ren,AEnd.ren,zan,zcF,List.getElem?_cons_zero,List.getElem?_cons_succ]) ?_
 rintro _ _ ⟨rfl,rfl⟩
 refine⟨.ret (.tup [str (shT false 0 [58] l),i64 (zbk l)]),[.dead,.dead],(aQ4 ([0,1])),(aQ11 ([0,1])),?_⟩
 refine aQ48 ?_
 exact zaz (zaq _ _) rfl
end Go.Proofs.YtnghkomgefieoaaGreatDoor
end

section
namespace Go.Proofs.YtnghkomgefieoaaGreatDoor
open Go Go.Eng
set_option linter.defProp false in
def LM6:=And.intro LB1 (And.intro LB2 (And.intro LB10 (And.intro LB11 (And.intro LB14 (LB15)))))
def nb1:Nd:=⟨1,1,[],0⟩
def nt1:Nd:=⟨3,0,[10],0⟩
def mvS:List Nd:=[⟨5,0,[],2⟩,⟨3,0,[97],0⟩,nt1,⟨3,0,[98],0⟩,nb1]
theorem mvS_row:zcP [[98],[97]] [[nb1],[nt1]]=mvS:=by rw [zcP,srt_ba];decide +kernel
theorem mvS_ok:zbk mvS=0:=by decide +kernel
theorem mvS_map:mapF [[98],[97]] [[nb1],[nt1]]=(mvS,0):=by
 rw [mapF,if_neg (by decide),if_neg (by decide),mvS_row,chkd,mvS_ok]
 rfl
def tS:List UInt8:=[123,34,97,34,58,34,92,117,48,48,48,97,34,44,34,98,34,58,116,114,117,101,125]
def tL:List UInt8:=[123,10,32,34,97,34,58,32,34,92,117,48,48,48,97,34,44,10,32,34,98,34,58,32,116,114,117,101,10,125]
theorem shT_S:shT false 0 [58] mvS=tS:=by decide +kernel
theorem shT_L:shT true 1 [58,32] mvS=tL:=by decide +kernel
theorem showR_S:zb1 false 0 [58] mvS=(tS,0):=by rw [zb1,shT_S,mvS_ok];rfl
theorem showR_L:zb1 true (byN 1) [58,32] mvS=(tL,0):=by rw [show byN 1=1 from rfl,zb1,shT_L,mvS_ok];rfl
theorem showR_0:zb1 false 0 [58] []=([],1):=by decide +kernel
theorem itoa_10:Go.Lib.itoa (-10)=[45,49,48]:=by
 rw [Go.Lib.itoa,if_pos (by decide),show (-10:Int).natAbs=10 from rfl,Go.Lib.decDigits_two (by decide) (by decide)]
 rfl
theorem quo_a:quoS [97,34]=[34,97,92,34,34]:=by decide
theorem zbX {s:List UInt8} {n:Int}:AEnd.noid (.ret (.tup [str s,i64 n])):=by
 simp [AEnd.noid,AV.ren,renL,zar,zaq]
set_option maxRecDepth 20000 in
theorem works10_ok:ACalls Tryz.prog 6 [] [] (fun y _=>y=.ret (bl true)):=by
 have hmN:∀ n,n∈mvS→inI n.num:=by
  intro n hn
  simp only [mvS,nt1,nb1,List.mem_cons,List.not_mem_nil,or_false] at hn
  rcases hn with rfl | rfl | rfl | rfl | rfl <;> exact⟨by decide,by decide⟩
 have h1:=zeF mvS (by decide) hmN
 rw [showR_S] at h1
 have h2:=Lines_ok mvS 1 ⟨by decide,by decide⟩ (by decide) hmN
 rw [showR_L] at h2
 have h3:=zeF [] (by decide) (fun n hn=>by cases hn)
 rw [showR_0] at h3
 have h4:=zgE [97,34] (by decide)
 rw [quo_a] at h4
 have h5:=zhV (-10) ⟨by decide,by decide⟩
 rw [itoa_10] at h5
 have h6:=Size_ok mvS (by decide) hmN
 rw [shT_S] at h6
 refine ACalls.body T_ok Tryz.func6 (by kernel_rfl) rfl Tryz.ntmps6 (congrArg Array.toList Tryz.results6) ?_
 refine aQ49 ?_
 refine ACalls.tell [1,2] 3 (cs':=[[nb1],[nt1]].map slNs) rfl ⟨_,_,rfl,frz_N (l:=[nb1]) rfl rfl,_,_,rfl,frz_N (l:=[nt1]) rfl rfl,rfl⟩ ?_
 refine ACalls.frz [0,3] (l':=[.sl ([[98],[97]].map str) [[98],[97]].length,.sl ([[nb1],[nt1]].map slNs) [[nb1],[nt1]].length]) ⟨_,_,rfl,frz_Ss (l:=[[98],[97]]) rfl rfl,_,_,rfl,frz_Ns (L:=[[nb1],[nt1]]) rfl rfl,rfl⟩ ?_
 refine(Map_ok [[98],[97]] [[nb1],[nt1]] (by decide) (fun _=>by rw [mvS_row];decide) (by decide)).pure (noid_SNs _ _ _ _ _) ?_
 rintro _ σ ⟨rfl,rfl⟩
 refine⟨noid_NE _ _ _ _,?_⟩
 rw [mvS_map]
 simp only [zef,List.getElem?_cons_zero,List.getElem?_cons_succ,List.set_cons_zero,List.set_cons_succ]
 refine aQ49 ?_
 refine h1.pure (zcg _ _ _) ?_
 rintro _ σ ⟨rfl,rfl⟩
 refine⟨zbX,?_⟩
 refine aQ49 ?_
 refine h2.pure (noid_Ni _ _ _ _) ?_
 rintro _ σ ⟨rfl,rfl⟩
 refine⟨zbX,?_⟩
 refine aQ49 ?_
 refine ACalls.frz [] (l':=[slNs []]) ⟨_,_,rfl,.inr ⟨rfl,rfl⟩,rfl⟩ ?_
 refine h3.pure (zcg _ _ _) ?_
 rintro _ σ ⟨rfl,rfl⟩
 refine⟨zbX,?_⟩
 simp only [zef]
 refine aQ49 ?_
 have d1:decide (tS=[123,34,97,34,58,34,92,117,48,48,48,97,34,44,34,98,34,58,116,114,117,101,125])=true:=rfl
 have d2:decide (tL=[123,10,32,34,97,34,58,32,34,92,117,48,48,48,97,34,44,10,32,34,98,34,58,32,116,114,117,101,10,125])=true:=rfl
 try simp -implicitDefEqProofs only [LM6,eq_self,za2 (T:=T) 71 68 69 5 rfl,zag,zaf,zaJ,zao,d1,d2,TB,SB,Int.reduceToNat,Nat.reduceAdd,Nat.reduceEqDiff,Nat.reduceLT,Nat.reduceMod,Nat.reducePow,Nat.reduceSub,if_true,reduceIte]
 refine h4.pure (by simp [renL,zar]) ?_
 rintro _ σ ⟨rfl,rfl⟩
 refine⟨zar _ _,?_⟩
 refine aQ49 ?_
 refine h5.pure (by simp [renL,zaq]) ?_
 rintro _ σ ⟨rfl,rfl⟩
 refine⟨zar _ _,?_⟩
 refine aQ49 ?_
 refine h6.pure (zcg _ _ _) ?_
 rintro _ σ ⟨rfl,rfl⟩
 refine⟨zaq _ _,?_⟩
 refine aQ49 ?_
 exact za0 rfl
end Go.Proofs.YtnghkomgefieoaaGreatDoor
end

section
namespace Go.Proofs.YtnghkomgefieoaaGreatDoor
open Go Go.Eng
def plB (c:UInt8):Prop:=32≤c.toNat∧c.toNat≤126
def scn (m:Bool):Bool→List UInt8→Prop
 | _,[]=>True
 | pb,c::t=>(plB c∨(m=true∧c=10∧pb=false))∧scn m (decide (c=32)) t
def fin:Bool→List UInt8→Bool
 | pb,[]=>pb
 | _,c::t=>fin (decide (c=32)) t
section
variable {m : Bool}
theorem fin_app {a b:List UInt8}:∀ {pb:Bool},fin pb (a++b)=fin (fin pb a) b:=by
 induction a with
 | nil=>intro pb;rfl
 | cons c t ih=>intro pb;exact ih
theorem scn_app {a b:List UInt8}:∀ {pb:Bool},scn m pb a→scn m (fin pb a) b→scn m pb (a++b):=by
 induction a with
 | nil=>intro pb _ h;exact h
 | cons c t ih=>intro pb h h2;exact⟨h.1,ih h.2 h2⟩
theorem scn_pl {a:List UInt8}:∀ {pb:Bool},(∀ c,c∈a→plB c)→scn m pb a:=by
 induction a with
 | nil=>intro pb _;trivial
 | cons c t ih=>intro pb h;exact⟨.inl (h c (List.mem_cons_self ..)),ih fun x hx=>h x (List.mem_cons_of_mem _ hx)⟩
def VT (m:Bool) (v:List UInt8):Prop:=(∀ pb,scn m pb v)∧∀ pb,fin pb v=false
theorem fin_no {a:List UInt8}:∀ {pb:Bool},(∀ c,c∈a→c≠32)→a≠[]→fin pb a=false:=by
 induction a with
 | nil=>intro pb _ h;exact absurd rfl h
 | cons c t ih =>
  intro pb h _
  cases t with
  | nil=>exact decide_eq_false (h c (List.mem_cons_self ..))
  | cons d t=>exact ih (pb:=decide (c=32)) (fun x hx=>h x (List.mem_cons_of_mem _ hx)) (by simp)
theorem VT.of {a:List UInt8} (h:∀ c,c∈a→33≤c.toNat∧c.toNat≤126) (hn:a≠[]):VT m a :=
 ⟨fun _=>scn_pl fun c hc=>⟨Nat.le_of_succ_le (h c hc).1,(h c hc).2⟩,fun _=>fin_no (fun c hc he=>by have:=(h c hc).1;rw [he] at this;exact absurd this (by decide)) hn⟩
theorem VT.end {v a:List UInt8} {c:UInt8} (h:∀ pb,scn m pb v) (hc:plB c) (hn:c≠32):VT m (v++[c]) :=
 ⟨fun _=>scn_app (h _) ⟨.inl hc,trivial⟩,fun _=>by rw [fin_app];exact decide_eq_false hn⟩
theorem zhX (u:Nat):Go.Lib.decDigits u≠[]:=by
 rw [Go.Lib.decDigits]
 split <;> simp
end
end Go.Proofs.YtnghkomgefieoaaGreatDoor
end

