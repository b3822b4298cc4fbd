/-
  What comes in, and what the listed variables hold. No condition.
-/
import Derived.Test.YtdigkoejfgmecaaGreatDoorQueI
import Derived.WalkKit
import Derived.ProofKit
import Derived.OpenShut
import Derived.ShutString
import Derived.SliceStrings
import Derived.LaidMore
import Derived.Lay
import Derived.LaidHandle
import Derived.Stop.LaidErr
import Derived.Lib.LaidTab
import Derived.Stop.Joined
import Derived.HandedShaped
import Derived.Shelf.Strings.Shaped
set_option linter.unusedSimpArgs false
set_option linter.unusedVariables false
set_option linter.unusedSectionVars false
section
namespace Go.Proofs.YtdigkoejfgmecaaGreatDoor
open Go Go.Eng
theorem four {cs:List Value} (h:cs.length=4):∃ a b c d,cs=[a,b,c,d]:=by
 match cs,h with
 | [a,b,c,d],_=>exact⟨a,b,c,d,rfl⟩
theorem no_own (b:Nat):¬ own (fun _=>False) [] [] b:=by
 rintro(hb | ⟨i,cs,hi,_⟩)
 ·exact hb
 ·simp at hi
def zjY (w:World) (v:Value):Prop:=∃ (ad:Option Addr) (len cap:Nat) (l:List Nd),v=.slice ad len cap∧len≤cap∧cap≤maxLen∧l.length=len∧(len=0∨∃ b off,ad=some ⟨b,off,none⟩∧b < w.heap.size∧zaJ w (own (fun _=>False) [] []) [] b (l.flatMap nC) off)
theorem rep_nodes {w:World} {v:Value} (h:zjY w v):∃ l:List Nd,l.length≤maxLen∧rep w (own (fun _=>False) [] []) [] (slNs l) v:=by
 obtain⟨ad,len,cap,l,rfl,h1,h2,h3,h5⟩:=h
 refine⟨l,by omega,?_⟩
 simp only [slNs,rep]
 rw [h3]
 refine⟨ad,cap,rfl,h1,h2,?_⟩
 rcases h5 with h5 | ⟨b,off,rfl,hb,hat⟩
 ·refine .inl ?_
  have:l=[]:=by rw [h5] at h3;exact List.eq_nil_of_length_eq_zero h3
  subst this
  rfl
 ·exact .inr ⟨b,off,rfl,no_own b,hb,hat⟩
theorem ziz {w:World} {O:Nat→Prop} {m:Ids} {b:Nat}:∀ (l r:List AV) (off:Nat),zaJ w O m b l off→zaJ w O m b r (off+l.length)→zaJ w O m b (l++r) off
 | [],r,off,_,h=>by simpa using h
 | a::l,r,off,h,g=>by
  simp only [List.cons_append,zaJ] at h ⊢
  exact⟨h.1,ziz l r (off+1) h.2 (by rwa [List.length_cons,show off+(l.length+1)=off+1+l.length by omega] at g)⟩
theorem add_none (b off n:Nat):(⟨b,off,none⟩:Addr).add n=⟨b,off+n,none⟩:=by
 by_cases h:n=0
 ·subst h
  simp [Addr.add]
 ·simp [Addr.add,h]
theorem rep_row4 {w:World} {O:Nat→Prop} {m:Ids} {b off:Nat}:∀ (n:Nat),(∀ i,i < n→∃ a:Nd,zaJ w O m b (nC a) (off+i * 4))→∃ l:List Nd,l.length=n∧zaJ w O m b (l.flatMap nC) off
 | 0,_=>⟨[],rfl,by simp [zaJ]⟩
 | n+1,h=>by
  obtain⟨l,h1,h3⟩:=rep_row4 n fun i hi=>h i (by omega)
  obtain⟨a,h5⟩:=h n (by omega)
  refine⟨l++[a],by simp [h1],?_⟩
  rw [List.flatMap_append]
  refine ziz _ _ _ h3 ?_
  rw [zca,h1,List.flatMap_cons,List.flatMap_nil,List.append_nil]
  exact h5
section
open Go.ChangeShapes Go.WideShapes Go.ChangeAt Go.RowKit
variable {H : Type} {enc : TypeId × Value → H} {P : Program} {w : World} {base : Nat} {sp : Nat → Bool} {held : Bool}
theorem open_nodes {r:Reach} {b0:Nat} {t0 t tk tn ts ti:TypeId} {f0 f1 f2 f3:Field} {v:Value} {d:DataW H} {ps:List MemPlace} (ht0:P.underlying t0=some (.slice t)) (ht:P.underlying t=some (.struct #[f0,f1,f2,f3])) (h0:f0.type=tk∧f0.offset=0) (h1:f1.type=tn∧f1.offset=1) (h2:f2.type=ts∧f2.offset=2) (h3:f3.type=ti∧f3.offset=3)
  (hts:P.underlying ts=some .string) (htk:P.underlying tk=some (.int .i64)) (htn:P.underlying tn=some (.int .i64)) (hti:P.underlying ti=some (.int .i64)) (c0:P.cellsOf tk=1) (c1:P.cellsOf tn=1) (c2:P.cellsOf ts=1) (c3:P.cellsOf ti=1) (c4:P.cellsOf t=4)
  (hval:Value.okWide P w r b0 t0 v) (hd:DataW.Trod enc P w base (fun _=>true) held t0 v d ps):zjY w v:=by
 obtain⟨a,len,cap,rfl⟩:=okWide_slice ht0 hval
 obtain⟨fuel,hf⟩:=hd
 rcases DataW.trod_slice ht0 hf with ⟨hcs,_⟩ | ⟨x,l,c,elems,rest,n,_,hcs,_,_,hl,hm,hlen,hel,_,_⟩
 ·simp [Value.cells] at hcs
  obtain⟨rfl,rfl,rfl⟩:=hcs
  exact⟨none,0,0,[],rfl,Nat.le_refl _,by simp [maxLen],rfl,.inl rfl⟩
 ·simp [Value.cells] at hcs
  obtain⟨rfl,rfl,rfl⟩:=hcs
  by_cases hz:len=0
  ·exact⟨_,len,cap,[],rfl,hl,hm,hz.symm,.inl hz⟩
  rw [c4] at hel
  have each:∀ i,i < len→∃ y:Nd,∃ v0 v1 v2 v3,w.cell? ((x.add (i * 4)).add 0)=some v0∧w.cell? ((x.add (i * 4)).add 1)=some v1∧w.cell? ((x.add (i * 4)).add 2)=some v2∧w.cell? ((x.add (i * 4)).add 3)=some v3∧rep w (own (fun _=>False) [] []) [] (i64 y.kind) v0∧rep w (own (fun _=>False) [] []) [] (i64 y.num) v1∧rep w (own (fun _=>False) [] []) [] (str y.text) v2∧rep w (own (fun _=>False) [] []) [] (i64 y.kids) v3:=by
   intro i hi
   have hi':=hel i hi
   rw [List.getElem?_eq_getElem (by omega),Option.bind_eq_some_iff] at hi'
   obtain⟨cs,hcs,hy⟩:=hi'
   obtain⟨xs,m,_,_,hcl,hxl,hx⟩:=DataW.trod_struct ht hy
   rw [c4] at hcl
   obtain⟨v0,v1,v2,v3,rfl⟩:=four hcl
   have g0:=hx 0 f0 rfl
   have g1:=hx 1 f1 rfl
   have g2:=hx 2 f2 rfl
   have g3:=hx 3 f3 rfl
   rw [h0.1,h0.2,c0] at g0
   rw [h1.1,h1.2,c1] at g1
   rw [h2.1,h2.2,c2] at g2
   rw [h3.1,h3.2,c3] at g3
   match xs,hxl with
   | [x0,x1,x2,x3],_ =>
    obtain⟨k,e0,_,w0⟩:=DataW.trod_int htk g0
    obtain⟨p,e1,_,w1⟩:=DataW.trod_int htn g1
    obtain⟨s,e2,_,w2⟩:=DataW.trod_string hts g2
    obtain⟨f,e3,_,w3⟩:=DataW.trod_int hti g3
    simp at e0 e1 e2 e3
    subst e0 e1 e2 e3
    obtain⟨_,_,hc⟩:=World.cells?_some hcs
    exact⟨⟨k,p,s.data.toList,f⟩,_,_,_,_,hc 0 (by omega),hc 1 (by omega),hc 2 (by omega),hc 3 (by omega),rep_i64 _,rep_i64 _,rep_str _,rep_i64 _⟩
  obtain⟨y,v0,_,_,_,hv0,_⟩:=each 0 (by omega)
  obtain⟨b,off,spot⟩:=x
  have hspot:spot=none:=by simpa [Addr.add] using World.cell?_spot hv0
  subst hspot
  obtain⟨l,hl1,hl3⟩:=rep_row4 (w:=w) (O:=own (fun _=>False) [] []) (m:=[]) (b:=b) (off:=off) len fun i hi=>by
   obtain⟨y,v0,v1,v2,v3,q0,q1,q2,q3,r0,r1,r2,r3⟩:=each i hi
   rw [add_none,add_none] at q0 q1 q2 q3
   refine⟨y,?_⟩
   simp only [nC,zaJ]
   exact⟨⟨_,q0,r0⟩,⟨_,q1,r1⟩,⟨_,q2,r2⟩,⟨_,q3,r3⟩,trivial⟩
  have hne:l.flatMap nC≠[]:=by
   intro h
   have:=zca l
   rw [h,hl1] at this
   simp at this
   omega
  exact⟨_,len,cap,l,rfl,hl,hm,hl1,.inr ⟨b,off,rfl,zbx hl3 hne,hl3⟩⟩
end
def O0:Nat→Prop:=own (fun _=>False) [] []
def IsRows {α:Type} (w:World) (f:α→List AV) (v:Value):Prop:=∃ (ad:Option Addr) (len cap:Nat) (l:List α),v=.slice ad len cap∧len≤cap∧cap≤maxLen∧l.length=len∧(len=0∨∃ b off,ad=some ⟨b,off,none⟩∧b < w.heap.size∧zaJ w O0 [] b (l.flatMap f) off)
theorem rep_rows {α:Type} {f:α→List AV} {w:World} {v:Value} (h:IsRows w f v):∃ l:List α,l.length≤9223372036854775807∧rep w O0 [] (.sl (l.flatMap f) l.length) v:=by
 obtain⟨ad,len,cap,l,rfl,h1,h2,h3,h5⟩:=h
 refine⟨l,by unfold maxLen at h2;omega,?_⟩
 simp only [rep]
 rw [h3]
 refine⟨ad,cap,rfl,h1,h2,?_⟩
 rcases h5 with h5 | ⟨b,off,rfl,hb,hat⟩
 ·refine .inl ?_
  have:l=[]:=by rw [h5] at h3;exact List.eq_nil_of_length_eq_zero h3
  subst this
  rfl
 ·exact .inr ⟨b,off,rfl,no_own b,hb,hat⟩
theorem rep_rowN {α:Type} {f:α→List AV} {wd:Nat} (F:RowF f wd) {w:World} {O:Nat→Prop} {m:Ids} {b off:Nat}:∀ (n:Nat),(∀ i,i < n→∃ a:α,zaJ w O m b (f a) (off+i * wd))→∃ l:List α,l.length=n∧zaJ w O m b (l.flatMap f) off
 | 0,_=>⟨[],rfl,by simp [zaJ]⟩
 | n+1,h=>by
  obtain⟨l,h1,h3⟩:=rep_rowN F n fun i hi=>h i (by omega)
  obtain⟨a,h5⟩:=h n (by omega)
  refine⟨l++[a],by simp [h1],?_⟩
  rw [List.flatMap_append]
  refine ziz _ _ _ h3 ?_
  rw [F.flen,h1,List.flatMap_cons,List.flatMap_nil,List.append_nil]
  exact h5
theorem zgm {w:World} {O:Nat→Prop} {m:Ids} {b:Nat}:∀ (l:List AV) (vs:List Value) (off:Nat),reps w O m l vs→(∀ i,i < l.length→w.cell? ⟨b,off+i,none⟩=vs[i]?)→zaJ w O m b l off
 | [],_,_,_,_=>by simp [zaJ]
 | a::l,vs,off,h,g=>by
  simp only [reps] at h
  obtain⟨v,r,rfl,h1,h2⟩:=h
  simp only [zaJ]
  refine⟨⟨v,by simpa using g 0 (by simp),h1⟩,zgm l r (off+1) h2 fun i hi=>?_⟩
  have:=g (i+1) (by simpa using hi)
  rwa [List.getElem?_cons_succ,show off+(i+1)=off+1+i by omega] at this
section
open Go.ChangeShapes Go.WideShapes Go.ChangeAt Go.RowKit
variable {H : Type} {enc : TypeId × Value → H} {P : Program} {w : World} {base : Nat} {held : Bool}
theorem open_rows {α:Type} {f:α→List AV} {wd:Nat} (F:RowF f wd) (hp:0 < wd) {t0 t:TypeId} {fuel:Nat} {v:Value} {x:DataW H × List MemPlace} (ht0:P.underlying t0=some (.slice t)) (c4:P.cellsOf t=wd)
  (row:∀ fuel cs y,DataW.trod enc P w base (fun _=>true) held fuel t cs=some y→cs.length=wd→∃ a:α,reps w O0 [] (f a) cs)
  (hf:DataW.trod enc P w base (fun _=>true) held fuel t0 [v]=some x):IsRows w f v:=by
 rcases DataW.trod_slice ht0 hf with ⟨hcs,_⟩ | ⟨x,len,cap,elems,rest,n,_,hcs,_,_,hl,hm,hlen,hel,_,_⟩
 ·simp at hcs
  exact⟨none,0,0,[],hcs,Nat.le_refl _,by simp [maxLen],rfl,.inl rfl⟩
 ·simp at hcs
  by_cases hz:len=0
  ·exact⟨_,len,cap,[],hcs,hl,hm,hz.symm,.inl hz⟩
  rw [c4] at hel
  have each:∀ i,i < len→∃ (y:α) (cs:List Value),reps w O0 [] (f y) cs∧cs.length=wd∧∀ j,j < wd→w.cell? ((x.add (i * wd)).add j)=cs[j]?:=by
   intro i hi
   have hi':=hel i hi
   rw [List.getElem?_eq_getElem (by omega),Option.bind_eq_some_iff] at hi'
   obtain⟨cs,hcs,hy⟩:=hi'
   obtain⟨_,hn,hc⟩:=World.cells?_some hcs
   obtain⟨a,ha⟩:=row _ _ _ hy hn
   exact⟨a,cs,ha,hn,hc⟩
  obtain⟨y,cs,_,hn,hc⟩:=each 0 (by omega)
  obtain⟨b,off,spot⟩:=x
  have hv0:=hc 0 hp
  rw [List.getElem?_eq_getElem (by omega)] at hv0
  have hspot:spot=none:=by simpa [Addr.add] using World.cell?_spot hv0
  subst hspot
  obtain⟨l,hl1,hl3⟩:=rep_rowN F (w:=w) (O:=O0) (m:=[]) (b:=b) (off:=off) len fun i hi=>by
   obtain⟨y,cs,h4,h5,h6⟩:=each i hi
   refine⟨y,zgm _ _ _ h4 fun j hj=>?_⟩
   rw [F.len] at hj
   have:=h6 j hj
   rwa [add_none,add_none] at this
  have hne:l.flatMap f≠[]:=by
   intro h
   have:=F.flen l
   rw [h,hl1,List.length_nil] at this
   rcases Nat.mul_eq_zero.1 this.symm with h | h <;> omega
  exact⟨_,len,cap,l,hcs,hl,hm,hl1,.inr ⟨b,off,rfl,zbx hl3 hne,hl3⟩⟩
theorem nF:RowF nC 4:=⟨fun _=>rfl,fun _=>rfl,fun q a=>by simp [nC,renL,AV.ren,zac,zaj]⟩
theorem row_n {t ts tk tn ti:TypeId} {f0 f1 f2 f3:Field} (ht:P.underlying t=some (.struct #[f0,f1,f2,f3])) (h0:f0.type=tk∧f0.offset=0) (h1:f1.type=tn∧f1.offset=1) (h2:f2.type=ts∧f2.offset=2) (h3:f3.type=ti∧f3.offset=3)
  (hts:P.underlying ts=some .string) (htk:P.underlying tk=some (.int .i64)) (htn:P.underlying tn=some (.int .i64)) (hti:P.underlying ti=some (.int .i64)) (c0:P.cellsOf tk=1) (c1:P.cellsOf tn=1) (c2:P.cellsOf ts=1) (c3:P.cellsOf ti=1) (fuel:Nat) (cs:List Value) (y:DataW H × List MemPlace)
  (hy:DataW.trod enc P w base (fun _=>true) held fuel t cs=some y) (hn:cs.length=4):∃ a:Nd,reps w O0 [] (nC a) cs:=by
 obtain⟨xs,m,_,_,_,hxl,hx⟩:=DataW.trod_struct ht hy
 obtain⟨v0,v1,v2,v3,rfl⟩:=four hn
 have g0:=hx 0 f0 rfl
 have g1:=hx 1 f1 rfl
 have g2:=hx 2 f2 rfl
 have g3:=hx 3 f3 rfl
 rw [h0.1,h0.2,c0] at g0
 rw [h1.1,h1.2,c1] at g1
 rw [h2.1,h2.2,c2] at g2
 rw [h3.1,h3.2,c3] at g3
 match xs,hxl with
 | [x0,x1,x2,x3],_ =>
  obtain⟨k,e0,_,w0⟩:=DataW.trod_int htk g0
  obtain⟨n,e1,_,w1⟩:=DataW.trod_int htn g1
  obtain⟨s,e2,_,w2⟩:=DataW.trod_string hts g2
  obtain⟨c,e3,_,w3⟩:=DataW.trod_int hti g3
  simp at e0 e1 e2 e3
  subst e0 e1 e2 e3
  refine⟨⟨k,n,s.data.toList,c⟩,?_⟩
  simp only [nC,reps]
  exact⟨_,_,rfl,rep_i64 _,_,_,rfl,rep_i64 _,_,_,rfl,rep_str _,_,_,rfl,rep_i64 _,rfl⟩
def QS:={q:Qn // q.val.length≤9223372036854775807}
def qsC (x:QS):List AV:=qC x.1
theorem qsF:RowF qsC 4:=⟨fun _=>rfl,fun _=>rfl,fun q a=>qF.ren q a.1⟩
theorem qs_flat (l:List QS):l.flatMap qsC=(l.map (·.1)).flatMap qC:=by
 induction l with
 | nil=>rfl
 | cons a l ih=>rw [List.flatMap_cons,ih];rfl
theorem row_q {t ts to tv td ti tk tn:TypeId} {f0 f1 f2 f3 k0 k1 k2 k3:Field} (ht:P.underlying t=some (.struct #[f0,f1,f2,f3])) (h0:f0.type=to∧f0.offset=0) (h1:f1.type=ts∧f1.offset=1) (h2:f2.type=tv∧f2.offset=2) (h3:f3.type=ti∧f3.offset=3)
  (hv:P.underlying tv=some (.slice td)) (hd:P.underlying td=some (.struct #[k0,k1,k2,k3])) (i0:k0.type=tk∧k0.offset=0) (i1:k1.type=tn∧k1.offset=1) (i2:k2.type=ts∧k2.offset=2) (i3:k3.type=ti∧k3.offset=3)
  (hts:P.underlying ts=some .string) (hto:P.underlying to=some (.int .i64)) (htk:P.underlying tk=some (.int .i64)) (htn:P.underlying tn=some (.int .i64)) (hti:P.underlying ti=some (.int .i64)) (c0:P.cellsOf to=1) (c1:P.cellsOf ts=1) (c2:P.cellsOf tv=1) (c3:P.cellsOf ti=1) (c4:P.cellsOf td=4) (c5:P.cellsOf tk=1) (c6:P.cellsOf tn=1) (fuel:Nat) (cs:List Value) (y:DataW H × List MemPlace)
  (hy:DataW.trod enc P w base (fun _=>true) held fuel t cs=some y) (hn:cs.length=4):∃ a:QS,reps w O0 [] (qsC a) cs:=by
 obtain⟨xs,m,_,_,_,hxl,hx⟩:=DataW.trod_struct ht hy
 obtain⟨v0,v1,v2,v3,rfl⟩:=four hn
 have g0:=hx 0 f0 rfl
 have g1:=hx 1 f1 rfl
 have g2:=hx 2 f2 rfl
 have g3:=hx 3 f3 rfl
 rw [h0.1,h0.2,c0] at g0
 rw [h1.1,h1.2,c1] at g1
 rw [h2.1,h2.2,c2] at g2
 rw [h3.1,h3.2,c3] at g3
 match xs,hxl with
 | [x0,x1,x2,x3],_ =>
  obtain⟨k,e0,_,w0⟩:=DataW.trod_int hto g0
  obtain⟨s,e1,_,w1⟩:=DataW.trod_string hts g1
  obtain⟨l,wl,w2⟩:=rep_rows (open_rows nF (by decide) hv c4 (row_n hd i0 i1 i2 i3 hts htk htn hti c5 c6 c1 c3) g2)
  obtain⟨c,e3,_,w3⟩:=DataW.trod_int hti g3
  simp at e0 e1 e3
  subst e0 e1 e3
  refine⟨⟨⟨k,s.data.toList,l,c⟩,wl⟩,?_⟩
  simp only [qsC,qC,reps]
  exact⟨_,_,rfl,rep_i64 _,_,_,rfl,rep_str _,_,_,rfl,w2,_,_,rfl,rep_i64 _,rfl⟩
def IsQs (w:World) (v:Value):Prop:=IsRows w qsC v
theorem rep_qs {w:World} {v:Value} (h:IsQs w v):∃ l:List Qn,(∀ q∈l,q.val.length≤9223372036854775807)∧rep w O0 [] (.sl (l.flatMap qC) l.length) v:=by
 obtain⟨l,h1,h2⟩:=rep_rows h
 rw [qs_flat] at h2
 refine⟨l.map (·.1),fun q hq=>?_,by rw [List.length_map];exact h2⟩
 obtain⟨x,_,rfl⟩:=List.mem_map.1 hq
 exact x.2
theorem open_qs {r:Reach} {b0:Nat} {tq t ts to tv td ti tk tn:TypeId} {f0 f1 f2 f3 k0 k1 k2 k3:Field} {v:Value} {d:DataW H} {ps:List MemPlace} (htq:P.underlying tq=some (.slice t)) (ht:P.underlying t=some (.struct #[f0,f1,f2,f3])) (h0:f0.type=to∧f0.offset=0) (h1:f1.type=ts∧f1.offset=1) (h2:f2.type=tv∧f2.offset=2) (h3:f3.type=ti∧f3.offset=3)
  (hv:P.underlying tv=some (.slice td)) (hdd:P.underlying td=some (.struct #[k0,k1,k2,k3])) (i0:k0.type=tk∧k0.offset=0) (i1:k1.type=tn∧k1.offset=1) (i2:k2.type=ts∧k2.offset=2) (i3:k3.type=ti∧k3.offset=3)
  (hts:P.underlying ts=some .string) (hto:P.underlying to=some (.int .i64)) (htk:P.underlying tk=some (.int .i64)) (htn:P.underlying tn=some (.int .i64)) (hti:P.underlying ti=some (.int .i64)) (c0:P.cellsOf to=1) (c1:P.cellsOf ts=1) (c2:P.cellsOf tv=1) (c3:P.cellsOf ti=1) (c4:P.cellsOf td=4) (c5:P.cellsOf tk=1) (c6:P.cellsOf tn=1) (c7:P.cellsOf t=4)
  (hval:Value.okWide P w r b0 tq v) (hd:DataW.Trod enc P w base (fun _=>true) held tq v d ps):IsQs w v:=by
 obtain⟨a,len,cap,rfl⟩:=okWide_slice htq hval
 obtain⟨fuel,hf⟩:=hd
 exact open_rows qsF (by decide) htq c7 (row_q ht h0 h1 h2 h3 hv hdd i0 i1 i2 i3 hts hto htk htn hti c0 c1 c2 c3 c4 c5 c6) hf
end
end Go.Proofs.YtdigkoejfgmecaaGreatDoor
end

section
namespace Go.Eng
open Go
theorem Glob.of_vars3 [Globs] {w:World} (h:∀ g cs,Globs.tab g=some cs→∃ (P:Program) (n:String),P.globalNamed n=some g∧w.var? P n=some cs.toArray) (hi:∀ g,g∈Globs.ints→∃ n:Int,w.cell? ⟨g,0,none⟩=some (.int .i64 n)) (he:∀ g,g∈Globs.errs→∃ (t:TypeId) (v:Value),w.cell? ⟨g,0,none⟩=some (.iface t v)):Glob w (Go.Eng.own (fun _=>False) [] []):=by
 have no:∀ g,¬ Go.Eng.own (fun _=>False) [] [] g:=by
  rintro g (hb | ⟨i,cs,hi,_⟩)
  ·exact hb
  ·simp at hi
 refine⟨fun g cs hg=>?_,fun g hg=>?_,fun g hg=>?_⟩
 ·obtain⟨P,n,h1,h2⟩:=h g cs hg
  have hb:∃ e f,w.heap[g]?=some (.cells cs.toArray e f):=by
   have h3:=h2
   simp only [World.var?,h1,Option.bind_some] at h3
   split at h3
   ·rename_i cs' e' f' e
    cases Option.some.inj h3
    exact⟨_,_,e⟩
   ·cases h3
  refine⟨no g,?_,hb,fun j v hv=>?_⟩
  ·obtain⟨_,_,e⟩:=hb
   rcases Nat.lt_or_ge g w.heap.size with hlt | hge
   ·exact hlt
   ·rw [Array.getElem?_eq_none hge] at e;cases e
  ·rw [World.var?_cell h1 h2 j,List.getElem?_toArray,hv]
 ·obtain⟨n,hn⟩:=hi g hg
  refine⟨no g,?_,n,hn⟩
  rcases Nat.lt_or_ge g w.heap.size with hlt | hge
  ·exact hlt
  ·simp [World.cell?,Array.getElem?_eq_none hge] at hn
 ·obtain⟨t,v,hn⟩:=he g hg
  refine⟨no g,?_,t,v,hn⟩
  rcases Nat.lt_or_ge g w.heap.size with hlt | hge
  ·exact hlt
  ·simp [World.cell?,Array.getElem?_eq_none hge] at hn
theorem wrap_and_shaped {H:Type} {enc:TypeId × Value→H} {a:Assume} {C:Checked} {os:Os} {f:FuncId} {fn:Func} {s:ChangeSpec} {conds:List PathCond} {apart fresh handsOn again:Bool} {X:World→Array Value→Prop}
  (hX:∀ (w w':World) (args:Array Value),w.heap=w'.heap→X w args→X w' args)
  (h1:ownKnob C.prog.godebug=none) (h2:os.Started) (h3:C.prog.inits.idxOf? f=none) (hfn:C.prog.funcs[f]?=some fn)
  (h4:∃ (w:World) (tape:Tape) (i:Input),w.os=os∧(w.forCall tape i).Shaped C.prog∧i.vars=[]∧Input.okWide C.prog (w.forCall tape i) .any w.heap.size f i ∧
   ((s.pre enc C.prog fn conds apart (w.forCall tape i).memory i.args∧X (w.forCall tape i).memory i.args)∧sizedMet enc C.prog fn (OpenSpec.ofChange s) apart (w.forCall tape i).memory i.args)∧a.holds C.prog (lone (Frame.enter C.prog f i.args .normal) [] (w.forCall tape i)))
  (h5:∀ (W:World) (base:Nat) (args:Array Value) (ds gs:List (DataW H)) (before:List MemPlace),
   (∀ (j:Nat) t v,fn.params[j]?=some t→args[j]?=some v→Value.okWide C.prog W .any base t v) →
   DataW.Whole enc C.prog fn.params.toList s.vars apart W args.toList ds gs before →
   conds.all (PathCond.test C.prog ⟨fn.params.toList,ds,s.plain.varTypes C.prog,gs⟩)=true →
   (DataW.weightsEach C.prog (fn.params.toList++s.plain.varTypes C.prog) (ds++gs)).all (·≤reachBytes)=true→X W args→W.ShapedOpen C.prog →
   a.holds C.prog (lone (Frame.enter C.prog f args .normal) [] W) →
   Calls C.prog f args W fun e W'=>∃ v,e=.returned v∧s.post enc C.prog fn apart fresh handsOn again W args v W') :
  ReturnsInHanded a C os f .any (fun w args=>(s.pre enc C.prog fn conds apart w args∧X w args)∧sizedMet enc C.prog fn (OpenSpec.ofChange s) apart w args) (s.post enc C.prog fn apart fresh handsOn again):=by
 refine returnsInHanded_of_calls h1 h2 h3 h4 ?_
 intro w tape i _ hsh _ hok hpre hh
 have hval:∀ (j:Nat) t v,fn.params[j]?=some t→i.args[j]?=some v→Value.okWide C.prog (w.forCall tape i) .any w.heap.size t v:=by
  obtain⟨_,_,_,fn',hfn',_,_,_,_,hv⟩:=hok
  cases Option.some.inj (hfn'.symm.trans hfn)
  exact hv
 obtain⟨⟨⟨ds,gs,bf,hw,hc⟩,hx⟩,hz⟩:=hpre
 have key:=h5 (w.forCall tape i) w.heap.size i.args ds gs bf hval (DataW.Whole.of_heap (w':=w.forCall tape i) (by rfl) hw) hc (hz.weights hw) (hX _ _ _ (by rfl) hx) hsh hh
 refine key.mono ?_
 rintro e W' ⟨v,rfl,hp⟩
 exact ChangeSpec.post_blind hp
end Go.Eng
namespace Go.Proofs.YtdigkoejfgmecaaGreatDoor
open Go Go.Eng
def zkq:List (String × DataW Unit):=Rows.queryLogicRow.laid
def nm (i : Nat) : String := (zkq[i]?.map (·.1)).getD ""
def dt (i:Nat):DataW Unit:=(zkq[i]?.map (·.2)).getD .nil
theorem ownK:ownKnob Tryz.prog.godebug=none:=by kernel_rfl
theorem laidOut:laidOutB Tryz.prog=true:=by kernel_rfl
theorem oneRow:((List.range Tryz.prog.types.size).filter fun t=>Tryz.prog.rowNamed t [101,114,114,111,114])=[103]:=by kernel_rfl
def plain5:List (String × DataW Unit):=[(nm 0,dt 0),(nm 1,dt 1),(nm 2,dt 2),(nm 4,dt 4),(nm 5,dt 5)]
theorem star : "*" ++ "errors.errorString" = "*errors.errorString" := by decide
theorem rowErr (u : TypeId) (h : Tryz.prog.typeName? 3 u = some "*errors.errorString") : u = 323 :=
 typeName_ptr_named (nm := "errors.errorString") (by rw [star]; kernel_rfl) (by kernel_rfl) (by decide) u (by rw [star]; exact h)
theorem gRange:Tryz.prog.globalNamed (nm 4)=some 3:=by kernel_rfl
theorem gSyntax:Tryz.prog.globalNamed (nm 5)=some 2:=by kernel_rfl
theorem tRange:(Tryz.prog.globals[3]?).map (·.type)=some 103:=by kernel_rfl
theorem tSyntax:(Tryz.prog.globals[2]?).map (·.type)=some 103:=by kernel_rfl
theorem cellsE:Tryz.prog.cellsOf 325=1:=by kernel_rfl
theorem cellsS:Tryz.prog.cellsOf 9=1:=by kernel_rfl
theorem glob_of_laid {w:World} (h:laidMetH Tryz.prog zkq w) (hsh:w.ShapedOpen Tryz.prog):Glob w (Go.Eng.own (fun _=>False) [] []):=by
 have h':laidMet Tryz.prog plain5 w∧handlesMet Tryz.prog [(nm 3,dt 3)] w:=h
 have hL:=h'.1.tail.tail.tail
 obtain⟨a0,s0,hv0,_,_,_⟩:=laid_sentinel hL gRange tRange Tryz.underlying103 rowErr Tryz.underlying323 Tryz.underlying325 rfl rfl Tryz.underlying9 cellsE cellsS
 obtain⟨a1,s1,hv1,_,_,_⟩:=laid_sentinel hL.tail gSyntax tSyntax Tryz.underlying103 rowErr Tryz.underlying323 Tryz.underlying325 rfl rfl Tryz.underlying9 cellsE cellsS
 obtain⟨name,u,ty,e1,e2,e3,e4,e5⟩:=h'.2 _ (List.mem_singleton.2 rfl)
 have en:name=[101,114,114,111,114]:=(Option.some.inj e1).symm
 subst en
 obtain rfl:u=229:=Option.some.inj (e2.symm.trans (by kernel_rfl))
 have hm:ty∈(List.range Tryz.prog.types.size).filter fun t=>Tryz.prog.rowNamed t [101,114,114,111,114]:=List.mem_filter.2 ⟨List.mem_range.2 e3,e4⟩
 rw [oneRow] at hm
 obtain rfl:=List.mem_singleton.1 hm
 have hh:typeHandle Tryz.prog 103=.pointer (some ⟨7,103,none⟩):=by kernel_rfl
 rw [hh] at e5
 have hpw:=Go.Lib.tabIs_of_head (P:=Tryz.prog) (W:=w) (zs:=Go.Lib.pow10Tab) (k:=.u64) (g:=4) (t:=318) (e:=184) (n:=20) (by kernel_rfl) (by kernel_rfl) (by kernel_rfl) (by kernel_rfl) (by kernel_rfl) (by kernel_rfl) (h'.1.tail.tail)
 refine Glob.of_vars3 (fun g cs hg=>?_) (fun g hg=>?_) (fun g hg=>?_)
 ·by_cases hgg:g=0
  ·subst hgg
   obtain rfl:=Option.some.inj (show some [rtypeV 7 103]=some cs from hg)
   exact⟨_,_,(by kernel_rfl:Tryz.prog.globalNamed (nm 3)=some 0),e5⟩
  ·by_cases hgp:g=4
   ·subst hgp
    obtain rfl:=Option.some.inj (show some powT=some cs from hg)
    exact⟨_,_,(by kernel_rfl:Tryz.prog.globalNamed (nm 2)=some 4),hpw⟩
   ·exact absurd hg (by
     intro hg
     have:(none:Option (List Value))=some cs:=by
      rw [← hg]
      symm
      show (match g with | 0=>some [rtypeV 7 103] | 4=>some powT | _=>none)=none
      split
      ·exact absurd rfl hgg
      ·exact absurd rfl hgp
      ·rfl
     cases this)
 ·have hg':g=1:=by
   have:g∈[1]:=hg
   simpa using this
  subst hg'
  exact Go.Proofs.cell_of_shapedOpen_int (zero:=#[.int .i64 0]) (t:=3) hsh (of_decide_eq_true (by kernel_rfl)) (by kernel_rfl) rfl (by kernel_rfl) (by kernel_rfl) Tryz.underlying3
 ·have hg':g=3∨g=2:=by
   have:g∈[3,2]:=hg
   simpa using this
  rcases hg' with rfl | rfl
  ·exact⟨_,_,World.var?_cell gRange hv0 0⟩
  ·exact⟨_,_,World.var?_cell gSyntax hv1 0⟩
theorem door_met (os:Os) (args:Array Value):laidMetH Tryz.prog zkq ((World.doorLaid Tryz.prog 4000 os).forCall (fun _ _=>0) ⟨#[],args,[]⟩).memory :=
 laidMetH_of_parts3 (fuel:=8) (laidMet_of_run' 8 (by kernel_rfl) (by kernel_rfl)) (by kernel_rfl) (by kernel_rfl)
end Go.Proofs.YtdigkoejfgmecaaGreatDoor
end

