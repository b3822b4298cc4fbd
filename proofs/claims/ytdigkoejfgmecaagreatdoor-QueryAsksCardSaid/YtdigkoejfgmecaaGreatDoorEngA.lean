/-
  An abstract reading of the model's code: values, stores, operations; each rule is proved sound. No condition.
-/
import Derived.WalkKit
import Derived.Orders
set_option linter.unusedSimpArgs false
set_option linter.unusedVariables false
set_option linter.unusedSectionVars false
section
namespace Go.Eng
open Go
theorem aQ14 {P Q:Prop} (h:Q) (e:P=Q:=by first|(simp only [Sem.run_pure,Result.andThen_ok];first|done|exact rfl)|exact rfl):P:=e ▸ h
end Go.Eng
end

section
namespace Go.Eng
open Go
variable {H : Nat → Prop}
inductive AV where
 | bot
 | lit (v:Value)
 | agg (l:List AV)
 | tup (l:List AV)
 | sl (cells:List AV) (len:Nat)
 | rp (cells:List AV)
 | ref (id off len sz:Nat)
 | ptr (id off:Nat)
 | yl (id:Nat)
 | fn (f:Fn) (first captured:List AV)
 | ifc (t:TypeId) (v:AV)
 | sd (id n:Nat)
 | bsl (id n:Nat)
 | mpt (id:Nat)
 deriving Inhabited
inductive Blk where
 | rw (cells:List AV)
 | ro (cells:List AV)
 | dead
 | rt (x:Bool) (e:TypeId) (cells:List AV)
 | lp (st:LoopState) (pend:Option Code) (env:List AV) (ps:Array Tmp) (assign body:Code)
 | mpb (ks:List Value) (vs:List AV)
 | mpi (ks:List Value) (vs:List AV) (sn:List Nat)
 | fz (e:TypeId) (k:Nat) (cells:List AV)
def Blk.owned:Blk→Bool
 | .rw _=>true
 | .rt ..=>true
 | .lp ..=>true
 | .mpb ..=>true
 | .mpi ..=>true
 | .fz ..=>true
 | _=>false
abbrev zaa:=List Blk
abbrev Ids:=List (Option Nat)
def Row (w:World) (g:Nat) (c:Array Value):Prop :=
 ∃ e lo hi,w.heap[g]?=some (.cells c e (lo,hi))∧(hi≤lo∨c.size≤lo)
def Cel (w:World) (g:Nat) (c:Array Value):Prop:=∃ e f,w.heap[g]?=some (.cells c e f)
theorem Row.cel {w:World} {g:Nat} {c:Array Value} (h:Row w g c):Cel w g c:=by
 obtain⟨e,lo,hi,h1,_⟩:=h
 exact⟨e,_,h1⟩
theorem Cel.eq {w:World} {g:Nat} {c c':Array Value} (h:Cel w g c) (h':Cel w g c'):c=c':=by
 obtain⟨e,f,h1⟩:=h
 obtain⟨e',f',h1'⟩:=h'
 rw [h1] at h1'
 cases h1'
 rfl
theorem Cel.lt {w:World} {g:Nat} {c:Array Value} (h:Cel w g c):g < w.heap.size:=by
 obtain⟨e,f,h1⟩:=h
 exact(Array.getElem?_eq_some_iff.1 h1).1
theorem Cel.cell {w:World} {g:Nat} {c:Array Value} (h:Cel w g c) (j:Nat):w.cell? ⟨g,j,none⟩=c[j]?:=by
 obtain⟨e,f,h1⟩:=h
 simp [World.cell?,h1]
def RowT (w:World) (g:Nat) (c:Array Value) (e:TypeId):Prop:=∃ lo hi,w.heap[g]?=some (.cells c e (lo,hi))∧(hi≤lo∨c.size≤lo)
theorem RowT.row {w:World} {g:Nat} {c:Array Value} {e:TypeId} (h:RowT w g c e):Row w g c:=by
 obtain⟨lo,hi,h1,h2⟩:=h
 exact⟨e,lo,hi,h1,h2⟩
theorem RowT.move {w w':World} {g:Nat} {c:Array Value} {e:TypeId} (h:RowT w g c e) (hg:w'.heap[g]?=w.heap[g]?):RowT w' g c e:=by
 obtain⟨lo,hi,h1,h2⟩:=h
 exact⟨lo,hi,hg.trans h1,h2⟩
theorem Row.move {w w':World} {g:Nat} {c:Array Value} (h:Row w g c) (hg:w'.heap[g]?=w.heap[g]?):Row w' g c:=by
 obtain⟨e,lo,hi,h1,h2⟩:=h
 exact⟨e,lo,hi,hg.trans h1,h2⟩
mutual
def rep (w:World) (O:Nat→Prop) (m:Ids):AV→Value→Prop
 | .bot,_=>True
 | .lit u,v=>v=u
 | .agg l,v=>∃ a:Array Value,v=.agg a∧reps w O m l a.toList
 | .tup l,v=>∃ a:Array Value,v=.tuple a∧reps w O m l a.toList
 | .sl cs len,v=>∃ ad cap,v=.slice ad len cap∧len≤cap∧cap≤maxLen∧(cs=[]∨∃ b off,ad=some ⟨b,off,none⟩∧¬ O b∧b < w.heap.size∧zaJ w O m b cs off)
 | .rp cs,v=>∃ b off,v=.pointer (some ⟨b,off,none⟩)∧¬ O b∧b < w.heap.size∧zaJ w O m b cs off
 | .ref id off len sz,v =>
  (v=.slice none 0 0∧len=0∧off=0∧id < m.length) ∨
  ∃ g cap c,v=.slice (some ⟨g,off,none⟩) len cap∧m[id]?=some (some g)∧len≤cap∧cap≤maxLen∧Cel w g c∧off+cap * sz≤c.size
 | .ptr id off,v=>∃ g,v=.pointer (some ⟨g,off,none⟩)∧m[id]?=some (some g)
 | .yl id,v=>∃ g,v=.func (.yield g) #[] #[]∧m[id]?=some (some g)
 | .mpt id,v=>∃ g,v=.map (some g)∧m[id]?=some (some g)
 | .fn f a b,v=>∃ x y:Array Value,v=.func f x y∧reps w O m a x.toList∧reps w O m b y.toList
 | .ifc t a,v=>∃ u,v=.iface t u∧rep w O m a u
 | .sd id n,v=>id < m.length∧∃ p,v=.pointer p∧(n=0∨∃ g,p=some ⟨g,0,none⟩∧m[id]?=some (some g))
 | .bsl id len,v=>(v=.slice none 0 0∧len=0∧id < m.length)∨∃ g cap c,v=.slice (some ⟨g,0,none⟩) len cap∧m[id]?=some (some g)∧len≤cap∧cap≤maxLen∧Cel w g c∧cap≤c.size∧cap≠0
def reps (w:World) (O:Nat→Prop) (m:Ids):List AV→List Value→Prop
 | [],vs=>vs=[]
 | a::l,vs=>∃ v r,vs=v::r∧rep w O m a v∧reps w O m l r
def zaJ (w:World) (O:Nat→Prop) (m:Ids) (b:Nat):List AV→Nat→Prop
 | [],_=>True
 | a::l,off=>(∃ v,w.cell? ⟨b,off,none⟩=some v∧rep w O m a v)∧zaJ w O m b l (off+1)
end
structure Ext (H:Nat→Prop) (w:World) (O:Nat→Prop) (m:Ids) (w':World) (O':Nat→Prop) (m':Ids):Prop where
 heap:w.heap.size≤w'.heap.size
 same:∀ b,b < w.heap.size→¬ O b→w'.heap[b]?=w.heap[b]?
 own:∀ b,O' b→O b∨w.heap.size≤b
 ids:∀ (i:Nat) (x:Option Nat),m[i]?=some x→m'[i]?=some x
 rows:∀ g c,Cel w g c→∃ c',Cel w' g c'∧c'.size=c.size
 os:w'.os=w.os
 tape:w'.tape=w.tape
 output:w'.output=w.output
 hid:∀ b,H b→w'.heap[b]?=w.heap[b]?
theorem Ext.refl (w:World) (O:Nat→Prop) (m:Ids):Ext H w O m w O m :=
 ⟨Nat.le_refl _,fun _ _ _=>rfl,fun _ h=>.inl h,fun _ _ h=>h,fun _ c h=>⟨c,h,rfl⟩,rfl,rfl,rfl,fun _ _=>rfl⟩
theorem Ext.trans {w w1 w2:World} {O O1 O2:Nat→Prop} {m m1 m2:Ids} (h:Ext H w O m w1 O1 m1) (k:Ext H w1 O1 m1 w2 O2 m2):Ext H w O m w2 O2 m2 where
 heap:=Nat.le_trans h.heap k.heap
 same b hb ho:=by
  have h1:¬ O1 b:=fun h1=>(h.own b h1).elim ho (fun h2=>by omega)
  rw [k.same b (Nat.lt_of_lt_of_le hb h.heap) h1,h.same b hb ho]
 own b hb:=by
  rcases k.own b hb with h1 | h1
  ·exact h.own b h1
  ·exact .inr (Nat.le_trans h.heap h1)
 ids i x hx:=k.ids i x (h.ids i x hx)
 rows g c hr:=by
  obtain⟨c1,r1,e1⟩:=h.rows g c hr
  obtain⟨c2,r2,e2⟩:=k.rows g c1 r1
  exact⟨c2,r2,e2.trans e1⟩
 os:=k.os.trans h.os
 tape:=k.tape.trans h.tape
 output:=k.output.trans h.output
 hid b hb:=(k.hid b hb).trans (h.hid b hb)
theorem Ext.idlen {w w':World} {O O':Nat→Prop} {m m':Ids} (h:Ext H w O m w' O' m'):m.length≤m'.length:=by
 rcases Nat.lt_or_ge m'.length m.length with h1 | h1
 ·have:=h.ids m'.length (m[m'.length]) (by simp)
  simp at this
 ·exact h1
theorem cell?_of_heap {w w':World} {a:Addr} (h:w'.heap[a.block]?=w.heap[a.block]?):w'.cell? a=w.cell? a:=by simp [World.cell?,h]
mutual
theorem zaP {w w':World} {O O':Nat→Prop} {m m':Ids} (h:Ext H w O m w' O' m'):(x:AV)→(v:Value)→rep w O m x v→rep w' O' m' x v
 | .bot,_,_=>by simp [rep]
 | .lit u,v,hr=>by simpa [rep] using hr
 | .agg l,v,hr=>by
  simp only [rep] at hr ⊢
  obtain⟨a,e,h1⟩:=hr
  exact⟨a,e,zah h l _ h1⟩
 | .tup l,v,hr=>by
  simp only [rep] at hr ⊢
  obtain⟨a,e,h1⟩:=hr
  exact⟨a,e,zah h l _ h1⟩
 | .sl cs len,v,hr=>by
  simp only [rep] at hr ⊢
  obtain⟨ad,cap,e,h1,h2,h3⟩:=hr
  refine⟨ad,cap,e,h1,h2,h3.imp id ?_⟩
  rintro⟨b,off,e1,hO,hb,hat⟩
  exact⟨b,off,e1,fun ho=>(h.own b ho).elim hO (fun h4=>by omega),Nat.lt_of_lt_of_le hb h.heap,zgn h b hO hb cs off hat⟩
 | .rp cs,v,hr=>by
  simp only [rep] at hr ⊢
  obtain⟨b,off,e1,hO,hb,hat⟩:=hr
  exact⟨b,off,e1,fun ho=>(h.own b ho).elim hO (fun h4=>by omega),Nat.lt_of_lt_of_le hb h.heap,zgn h b hO hb cs off hat⟩
 | .ref id off len sz,v,hr=>by
  simp only [rep] at hr ⊢
  rcases hr with ⟨e1,e2,e3,e4⟩ | ⟨g,cap,c,e1,e2,e3,e4,hr,e5⟩
  ·exact .inl ⟨e1,e2,e3,Nat.lt_of_lt_of_le e4 h.idlen⟩
  ·obtain⟨c',r',ec⟩:=h.rows g c hr
   exact .inr ⟨g,cap,c',e1,h.ids _ _ e2,e3,e4,r',by omega⟩
 | .ptr id off,v,hr=>by
  simp only [rep] at hr ⊢
  obtain⟨g,e1,e2⟩:=hr
  exact⟨g,e1,h.ids _ _ e2⟩
 | .yl id,v,hr=>by
  simp only [rep] at hr ⊢
  obtain⟨g,e1,e2⟩:=hr
  exact⟨g,e1,h.ids _ _ e2⟩
 | .mpt id,v,hr=>by
  simp only [rep] at hr ⊢
  obtain⟨g,e1,e2⟩:=hr
  exact⟨g,e1,h.ids _ _ e2⟩
 | .fn f a b,v,hr=>by
  simp only [rep] at hr ⊢
  obtain⟨x,y,e,h1,h2⟩:=hr
  exact⟨x,y,e,zah h a _ h1,zah h b _ h2⟩
 | .ifc t a,v,hr=>by
  simp only [rep] at hr ⊢
  obtain⟨u,e,h1⟩:=hr
  exact⟨u,e,zaP h a _ h1⟩
 | .sd id n,v,hr=>by
  simp only [rep] at hr ⊢
  obtain⟨h0,p,e,h1⟩:=hr
  refine⟨Nat.lt_of_lt_of_le h0 h.idlen,p,e,h1.imp (fun h=>h) ?_⟩
  rintro⟨g,e1,e2⟩
  exact⟨g,e1,h.ids _ _ e2⟩
 | .bsl id n,v,hr=>by
  simp only [rep] at hr ⊢
  rcases hr with ⟨e1,e2,e4⟩ | ⟨g,cap,c,e1,e2,e3,e4,hr,e5,e6⟩
  ·exact .inl ⟨e1,e2,Nat.lt_of_lt_of_le e4 h.idlen⟩
  ·obtain⟨c',r',ec⟩:=h.rows g c hr
   exact .inr ⟨g,cap,c',e1,h.ids _ _ e2,e3,e4,r',by omega,e6⟩
theorem zah {w w':World} {O O':Nat→Prop} {m m':Ids} (h:Ext H w O m w' O' m'):(l:List AV)→(vs:List Value)→reps w O m l vs→reps w' O' m' l vs
 | [],_,hr=>by simpa [reps] using hr
 | a::l,vs,hr=>by
  simp only [reps] at hr ⊢
  obtain⟨v,r,e,h1,h2⟩:=hr
  exact⟨v,r,e,zaP h a _ h1,zah h l _ h2⟩
theorem zgn {w w':World} {O O':Nat→Prop} {m m':Ids} (h:Ext H w O m w' O' m') (b:Nat) (hO:¬ O b) (hb:b < w.heap.size):(l:List AV)→(off:Nat)→zaJ w O m b l off→zaJ w' O' m' b l off
 | [],_,_=>by simp [zaJ]
 | a::l,off,hr=>by
  simp only [zaJ] at hr ⊢
  obtain⟨⟨v,e,h1⟩,h2⟩:=hr
  exact⟨⟨v,(cell?_of_heap (h.same b hb hO)).trans e,zaP h a _ h1⟩,zgn h b hO hb l _ h2⟩
end
theorem zaQ {w w':World} {O O':Nat→Prop} {m m':Ids} (h:Ext H w O m w' O' m') (b:Nat) (hsame:w'.heap[b]?=w.heap[b]?):(l:List AV)→(off:Nat)→zaJ w O m b l off→zaJ w' O' m' b l off
 | [],_,_=>by simp [zaJ]
 | a::l,off,hr=>by
  simp only [zaJ] at hr ⊢
  obtain⟨⟨v,e,h1⟩,h2⟩:=hr
  exact⟨⟨v,(cell?_of_heap hsame).trans e,zaP h a _ h1⟩,zaQ h b hsame l _ h2⟩
theorem zbD {w:World} {O:Nat→Prop} {m:Ids} {b:Nat}:∀ {l:List AV} {off:Nat},zaJ w O m b l off→∀ j (x:AV),l[j]?=some x→∃ v,w.cell? ⟨b,off+j,none⟩=some v∧rep w O m x v
 | [],_,_,j,x,hx=>by simp at hx
 | a::l,off,h,0,x,hx=>by
  simp only [zaJ] at h
  simp at hx
  subst hx
  exact h.1
 | a::l,off,h,j+1,x,hx=>by
  simp only [zaJ] at h
  have:=zbD h.2 j x (by simpa using hx)
  rwa [show off+1+j=off+(j+1) by omega] at this
theorem zb0 {w:World} {O:Nat→Prop} {m:Ids} {b:Nat}:∀ {l:List AV} {off:Nat},(∀ j (x:AV),l[j]?=some x→∃ v,w.cell? ⟨b,off+j,none⟩=some v∧rep w O m x v)→zaJ w O m b l off
 | [],_,_=>by simp [zaJ]
 | a::l,off,h=>by
  simp only [zaJ]
  refine⟨by simpa using h 0 a (by simp),zb0 fun j x hx=>?_⟩
  have:=h (j+1) x (by simpa using hx)
  rwa [show off+(j+1)=off+1+j by omega] at this
theorem zbE {w:World} {O:Nat→Prop} {m:Ids} {b:Nat} {l:List AV} {off:Nat} (h:zaJ w O m b l off) (n:Nat):zaJ w O m b (l.drop n) (off+n) :=
 zb0 fun j x hx=>by
  rw [List.getElem?_drop] at hx
  have:=zbD h (n+j) x hx
  rwa [show off+(n+j)=off+n+j by omega] at this
theorem zbu {w:World} {O:Nat→Prop} {m:Ids} {b:Nat} {l:List AV} {off:Nat} (h:zaJ w O m b l off) (n:Nat):zaJ w O m b (l.take n) off :=
 zb0 fun j x hx=>by
  rw [List.getElem?_take] at hx
  split at hx
  ·exact zbD h j x hx
  ·cases hx
theorem zbx {w:World} {O:Nat→Prop} {m:Ids} {b:Nat} {l:List AV} {off:Nat} (h:zaJ w O m b l off) (hn:l≠[]):b < w.heap.size:=by
 cases l with
 | nil=>exact absurd rfl hn
 | cons a l =>
  simp only [zaJ] at h
  obtain⟨⟨v,hv,_⟩,_⟩:=h
  exact World.block_lt_of_cell? w _ hv
theorem zan {w:World} {O:Nat→Prop} {m:Ids}:∀ {l:List AV} {vs:List Value},reps w O m l vs→vs.length=l.length
 | [],_,h=>by simp only [reps] at h;simp [h]
 | a::l,vs,h=>by
  simp only [reps] at h
  obtain⟨v,r,rfl,_,h2⟩:=h
  simp [zan h2]
theorem zaL {w:World} {O:Nat→Prop} {m:Ids}:∀ {l:List AV} {vs:List Value},reps w O m l vs→∀ (i:Nat) (x:AV),l[i]?=some x→∃ v,vs[i]?=some v∧rep w O m x v
 | [],_,_,i,x,hx=>by simp at hx
 | a::l,vs,h,0,x,hx=>by
  simp only [reps] at h
  obtain⟨v,r,rfl,h1,_⟩:=h
  simp at hx
  subst hx
  exact⟨v,by simp,h1⟩
 | a::l,vs,h,i+1,x,hx=>by
  simp only [reps] at h
  obtain⟨v,r,rfl,_,h2⟩:=h
  simpa using zaL h2 i x (by simpa using hx)
theorem zhr {w:World} {O:Nat→Prop} {m:Ids}:∀ {l:List AV} {vs:List Value},vs.length=l.length→(∀ (i:Nat) (x:AV) (v:Value),l[i]?=some x→vs[i]?=some v→rep w O m x v)→reps w O m l vs
 | [],vs,hl,_=>by simp only [reps];exact List.eq_nil_of_length_eq_zero (by simpa using hl)
 | a::l,[],hl,_=>by simp at hl
 | a::l,v::vs,hl,h=>by
  simp only [reps]
  exact⟨v,vs,rfl,h 0 a v (by simp) (by simp),zhr (by simpa using hl) fun i x u hx hu=>h (i+1) x u (by simpa using hx) (by simpa using hu)⟩
theorem zby {w:World} {O:Nat→Prop} {m:Ids}:∀ {l l':List AV} {vs vs':List Value},reps w O m l vs→reps w O m l' vs'→reps w O m (l++l') (vs++vs')
 | [],l',vs,vs',h,h'=>by simp only [reps] at h;subst h;simpa using h'
 | a::l,l',vs,vs',h,h'=>by
  simp only [reps] at h
  obtain⟨v,r,rfl,h1,h2⟩:=h
  simp only [List.cons_append,reps]
  exact⟨v,_,rfl,h1,zby h2 h'⟩
theorem zcW {w:World} {O:Nat→Prop} {m:Ids} {l:List AV} {vs:List Value} (h:reps w O m l vs) (i:Nat) {x:AV} {v:Value} (hx:rep w O m x v):reps w O m (l.set i x) (vs.set i v):=by
 refine zhr (by simpa using zan h) fun j y u hy hu=>?_
 by_cases hij:i=j
 ·subst hij
  rw [List.getElem?_set] at hy hu
  simp only [if_true] at hy hu
  split at hy
  ·split at hu
   ·cases hy;cases hu;exact hx
   ·cases hu
  ·cases hy
 ·rw [List.getElem?_set_ne hij] at hy hu
  obtain⟨v',hv',hr⟩:=zaL h j y hy
  rw [hu] at hv'
  cases hv'
  exact hr
def own (H:Nat→Prop) (m:Ids) (σ:zaa) (b:Nat):Prop:=H b∨∃ (i:Nat) (x:Blk),(σ[i]?=some x∧x.owned=true)∧m[i]?=some (some b)
def LoopIs (w:World) (O:Nat→Prop) (m:Ids) (g:Nat) (st:LoopState) (pend:Option Code) (env:List AV) (ps:Array Tmp) (assign body:Code):Prop :=
 ∃ L,w.heap[g]?=some (.loop L)∧L.state=st∧L.pending=pend∧L.params=ps∧L.assign=assign∧L.body=body∧reps w O m env L.tmps.toList
def MapIs (w:World) (O:Nat→Prop) (m:Ids) (g:Nat) (ks:List Value) (vs:List AV):Prop :=
 ∃ es clock,w.heap[g]?=some (.map es clock)∧es.toList.map (·.key)=ks∧reps w O m vs (es.toList.map (·.val))∧((es.toList.map (·.born)).Nodup∧∀ e∈es.toList,e.born < clock)
theorem MapIs.imp {w w':World} {O O':Nat→Prop} {m m':Ids} {g:Nat} {ks:List Value} {vs vs':List AV} (h:MapIs w O m g ks vs) (hg:w'.heap[g]?=w.heap[g]?) (k:∀ l,reps w O m vs l→reps w' O' m' vs' l):MapIs w' O' m' g ks vs':=by
 obtain⟨es,c,h1,h2,h3,h4⟩:=h
 exact⟨es,c,hg.trans h1,h2,k _ h3,h4⟩
def MapItIs (w:World) (O:Nat→Prop) (m:Ids) (g:Nat) (ks:List Value) (vs:List AV) (sn:List Nat):Prop :=
 ∃ gm es clock,w.heap[g]?=some (.mapIter (some gm) clock ((sn.filterMap fun i=>(es.toList[i]?).map (·.born)).toArray) clock)∧(¬ O gm∧gm < w.heap.size∧w.heap[gm]?=some (.map es clock))∧es.toList.map (·.key)=ks∧reps w O m vs (es.toList.map (·.val))∧((es.toList.map (·.born)).Nodup∧∀ e∈es.toList,e.born < clock)
theorem MapItIs.imp {w:World} {O O':Nat→Prop} {m m':Ids} {g:Nat} {ks:List Value} {vs vs':List AV} {sn:List Nat} (h:MapItIs w O m g ks vs sn) (ho:∀ b,O' b→O b) (k:∀ l,reps w O m vs l→reps w O' m' vs' l):MapItIs w O' m' g ks vs' sn:=by
 obtain⟨gm,es,c,h1,⟨h2,h3,h4⟩,h5,h6,h7⟩:=h
 exact⟨gm,es,c,h1,⟨fun hb=>h2 (ho _ hb),h3,h4⟩,h5,k _ h6,h7⟩
def FzIs (w:World) (O:Nat→Prop) (m:Ids) (g:Nat) (e:TypeId) (k:Nat) (cs:List AV):Prop :=
 ∃ c hi,w.heap[g]?=some (.cells c e (0,hi))∧k≤hi∧cs.length≤c.size∧zaJ w O m g cs 0
theorem FzIs.lt {w:World} {O:Nat→Prop} {m:Ids} {g:Nat} {e:TypeId} {k:Nat} {cs:List AV} (h:FzIs w O m g e k cs):g < w.heap.size:=by
 obtain⟨c,hi,h1,_⟩:=h
 exact(Array.getElem?_eq_some_iff.1 h1).1
def zfQ (w:World) (O:Nat→Prop) (m:Ids) (mi:Option Nat):Blk→Prop
 | .rw cs=>(cs=[]∧mi=none)∨∃ g c,mi=some g∧Row w g c∧cs.length≤c.size∧zaJ w O m g cs 0
 | .ro cs=>cs=[]∨∃ g,mi=some g∧¬ O g∧zaJ w O m g cs 0
 | .rt x e cs=>(x=false∧cs=[]∧mi=none)∨∃ g c,mi=some g∧RowT w g c e∧cs.length≤c.size∧(x=true→c.size=cs.length)∧zaJ w O m g cs 0
 | .dead=>True
 | .lp st pend env ps assign body=>∃ g,mi=some g∧LoopIs w O m g st pend env ps assign body
 | .mpb ks vs=>∃ g,mi=some g∧MapIs w O m g ks vs
 | .mpi ks vs sn=>∃ g,mi=some g∧MapItIs w O m g ks vs sn
 | .fz e k cs=>∃ g,mi=some g∧FzIs w O m g e k cs
structure St (H:Nat→Prop) (w:World) (m:Ids) (σ:zaa):Prop where
 len:m.length=σ.length
 blk:∀ (i:Nat) (x:Blk) (mi:Option Nat),σ[i]?=some x→m[i]?=some mi→zfQ w (own H m σ) m mi x
 inj:∀ (i j:Nat) (x y:Blk) (g:Nat),(σ[i]?=some x∧x.owned=true)→(σ[j]?=some y∧y.owned=true)→m[i]?=some (some g)→m[j]?=some (some g)→i=j
 hid:∀ b,H b→b < w.heap.size∧∀ (i:Nat) (x:Blk),(σ[i]?=some x∧x.owned=true)→m[i]?≠some (some b)
theorem LoopIs.move {w w':World} {O O':Nat→Prop} {m m':Ids} (h:Ext H w O m w' O' m') {g:Nat} (hg:w'.heap[g]?=w.heap[g]?) {st:LoopState} {pend:Option Code} {env:List AV} {ps:Array Tmp} {assign body:Code} (k:LoopIs w O m g st pend env ps assign body):LoopIs w' O' m' g st pend env ps assign body:=by
 obtain⟨L,h1,h2,h3,h4,h5,h6,h7⟩:=k
 exact⟨L,hg.trans h1,h2,h3,h4,h5,h6,zah h _ _ h7⟩
theorem FzIs.move {w w':World} {O O':Nat→Prop} {m m':Ids} (h:Ext H w O m w' O' m') {g:Nat} (hg:w'.heap[g]?=w.heap[g]?) {e:TypeId} {k:Nat} {cs:List AV} (h2:FzIs w O m g e k cs):FzIs w' O' m' g e k cs:=by
 obtain⟨c,hi,h3,h3',h4,h5⟩:=h2
 exact⟨c,hi,hg.trans h3,h3',h4,zaQ h g hg _ _ h5⟩
theorem LoopIs.lt {w:World} {O:Nat→Prop} {m:Ids} {g:Nat} {st:LoopState} {pend:Option Code} {env:List AV} {ps:Array Tmp} {assign body:Code} (k:LoopIs w O m g st pend env ps assign body):g < w.heap.size:=by
 obtain⟨L,h1,_⟩:=k
 exact(Array.getElem?_eq_some_iff.1 h1).1
theorem MapIs.move {w w':World} {O O':Nat→Prop} {m m':Ids} (h:Ext H w O m w' O' m') {g:Nat} (hg:w'.heap[g]?=w.heap[g]?) {ks:List Value} {vs:List AV} (k:MapIs w O m g ks vs):MapIs w' O' m' g ks vs :=
 k.imp hg fun l hl=>zah h _ _ hl
theorem MapIs.lt {w:World} {O:Nat→Prop} {m:Ids} {g:Nat} {ks:List Value} {vs:List AV} (k:MapIs w O m g ks vs):g < w.heap.size:=by
 obtain⟨es,c,h1,_⟩:=k
 exact(Array.getElem?_eq_some_iff.1 h1).1
theorem MapItIs.move {w w':World} {O O':Nat→Prop} {m m':Ids} (h:Ext H w O m w' O' m') {g:Nat} (hg:w'.heap[g]?=w.heap[g]?) {ks:List Value} {vs:List AV} {sn:List Nat} (k:MapItIs w O m g ks vs sn):MapItIs w' O' m' g ks vs sn:=by
 obtain⟨gm,es,c,h1,⟨h2,h3,h4⟩,h5,h6,h7⟩:=k
 exact⟨gm,es,c,hg.trans h1,⟨fun hb=>(h.own gm hb).elim h2 (fun h=>by omega),Nat.lt_of_lt_of_le h3 h.heap,(h.same gm h3 h2).trans h4⟩,h5,zah h _ _ h6,h7⟩
theorem MapItIs.lt {w:World} {O:Nat→Prop} {m:Ids} {g:Nat} {ks:List Value} {vs:List AV} {sn:List Nat} (k:MapItIs w O m g ks vs sn):g < w.heap.size:=by
 obtain⟨gm,es,c,h1,_⟩:=k
 exact(Array.getElem?_eq_some_iff.1 h1).1
theorem St.id {w:World} {m:Ids} {σ:zaa} (h:St H w m σ) {i:Nat} {x:Blk} (hi:σ[i]?=some x):∃ mi,m[i]?=some mi:=by
 have:i < m.length:=by rw [h.len];exact(List.getElem?_eq_some_iff.1 hi).1
 exact⟨m[i],by simp [this]⟩
theorem Row.cell {w:World} {g:Nat} {c:Array Value} (h:Row w g c) (j:Nat):w.cell? ⟨g,j,none⟩=c[j]?:=by
 obtain⟨e,lo,hi,h1,_⟩:=h
 simp [World.cell?,h1]
theorem Row.frozen {w:World} {g:Nat} {c:Array Value} (h:Row w g c) {j:Nat} (hj:j < c.size):w.frozen? ⟨g,j,none⟩=false:=by
 obtain⟨e,lo,hi,h1,h2⟩:=h
 simp only [World.frozen?,h1]
 rcases h2 with h2 | h2
 ·simp;omega
 ·simp;omega
theorem Row.lt {w:World} {g:Nat} {c:Array Value} (h:Row w g c):g < w.heap.size:=by
 obtain⟨e,lo,hi,h1,_⟩:=h
 exact(Array.getElem?_eq_some_iff.1 h1).1
theorem Row.eq {w:World} {g:Nat} {c c':Array Value} (h:Row w g c) (h':Row w g c'):c=c':=by
 obtain⟨e,lo,hi,h1,_⟩:=h
 obtain⟨e',lo',hi',h1',_⟩:=h'
 rw [h1] at h1'
 cases h1'
 rfl
theorem Row.set {w:World} {g:Nat} {c:Array Value} (h:Row w g c) (j:Nat) (v:Value):Row (w.setCell ⟨g,j,none⟩ v) g (c.setIfInBounds j v):=by
 obtain⟨e,lo,hi,h1,h2⟩:=h
 refine⟨e,lo,hi,?_,by simpa using h2⟩
 simp only [World.setCell,Array.getElem?_modify,h1]
 simp
theorem setCell_other {w:World} {g b:Nat} (j:Nat) (v:Value) (h:b≠g):(w.setCell ⟨g,j,none⟩ v).heap[b]?=w.heap[b]?:=by
 simp only [World.setCell,Array.getElem?_modify]
 rw [if_neg (fun e=>h e.symm)]
theorem setCell_size {w:World} {a:Addr} (v:Value):(w.setCell a v).heap.size=w.heap.size:=by
 simp [World.setCell]
theorem rows_of {w w':World} {g:Nat} (hne:∀ b,b≠g→w'.heap[b]?=w.heap[b]?) (hg:∀ c,Cel w g c→∃ c',Cel w' g c'∧c'.size=c.size):∀ b c,Cel w b c→∃ c',Cel w' b c'∧c'.size=c.size:=by
 intro b c hr
 by_cases hb:b=g
 ·subst hb;exact hg c hr
 ·obtain⟨e,f,h1⟩:=hr
  exact⟨c,⟨e,f,(hne b hb).trans h1⟩,rfl⟩
theorem own_set {m:Ids} {σ:zaa} {i:Nat} {x x':Blk} (h:σ[i]?=some x) (ho:x'.owned=x.owned):own H m (σ.set i x')=own H m σ:=by
 funext b
 apply propext
 have hi:i < σ.length:=(List.getElem?_eq_some_iff.1 h).1
 constructor
 ·rintro(hH | ⟨j,c,hj,hm⟩)
  ·exact .inl hH
  by_cases hij:i=j
  ·subst hij
   simp [hi] at hj
   obtain⟨rfl,hj⟩:=hj
   exact .inr ⟨i,x,⟨h,by rw [← ho];exact hj⟩,hm⟩
  ·rw [List.getElem?_set_ne hij] at hj;exact .inr ⟨j,c,hj,hm⟩
 ·rintro(hH | ⟨j,c,hj,hm⟩)
  ·exact .inl hH
  by_cases hij:i=j
  ·subst hij
   rw [h] at hj
   obtain⟨hj1,hj2⟩:=hj
   cases hj1
   exact .inr ⟨i,x',⟨by simp [hi],by rw [ho];exact hj2⟩,hm⟩
  ·exact .inr ⟨j,c,by rw [List.getElem?_set_ne hij];exact hj,hm⟩
theorem St.turn {w w':World} {m:Ids} {σ:zaa} (h:St H w m σ) {i g:Nat} {x x':Blk} (hi:σ[i]?=some x) (hx:x.owned=true) (hx':x'.owned=true) (hm:m[i]?=some (some g))
  (hsz:w'.heap.size=w.heap.size) (hne:∀ b,b≠g→w'.heap[b]?=w.heap[b]?) (hos:w'.os=w.os) (htape:w'.tape=w.tape) (hout:w'.output=w.output)
  (hrow:∀ c,Cel w g c→∃ c',Cel w' g c'∧c'.size=c.size)
  (hcs:Ext H w (own H m σ) m w' (own H m σ) m→zfQ w' (own H m σ) m (some g) x') :
  St H w' m (σ.set i x')∧Ext H w (own H m σ) m w' (own H m (σ.set i x')) m:=by
 have hO:=own_set (H:=H) (m:=m) (x':=x') hi (hx'.trans hx.symm)
 have hil:i < σ.length:=(List.getElem?_eq_some_iff.1 hi).1
 have hown:own H m σ g:=.inr ⟨i,x,⟨hi,hx⟩,hm⟩
 have hext:Ext H w (own H m σ) m w' (own H m σ) m :=
  ⟨by omega,fun b _ hb=>hne b (fun e=>hb (e ▸ hown)),fun b hb=>.inl hb,fun _ _ hx=>hx,rows_of hne hrow,hos,htape,hout,fun b hb=>hne b (fun e=>(h.hid b hb).2 i x ⟨hi,hx⟩ (e ▸ hm))⟩
 rw [hO]
 have orig:∀ (a:Nat) (y:Blk),((σ.set i x')[a]?=some y∧y.owned=true)→∃ z,σ[a]?=some z∧z.owned=true:=by
  rintro a y ⟨ha,hy⟩
  by_cases hia:i=a
  ·subst hia;exact⟨x,hi,hx⟩
  ·rw [List.getElem?_set_ne hia] at ha;exact⟨y,ha,hy⟩
 refine⟨⟨by simpa using h.len,?_,?_,?_⟩,hext⟩
 ·intro j y mj hj hmj
  rw [hO]
  by_cases hij:i=j
  ·subst hij
   simp [hil] at hj
   subst hj
   rw [hm] at hmj
   cases hmj
   exact hcs hext
  ·rw [List.getElem?_set_ne hij] at hj
   have:=h.blk j y mj hj hmj
   cases y with
   | dead=>trivial
   | ro cj =>
    rcases this with h1 | ⟨g',e1,h1,h2⟩
    ·exact .inl h1
    ·refine .inr ⟨g',e1,h1,zaQ hext g' (hne g' (fun e=>h1 (e ▸ hown))) _ _ h2⟩
   | rw cj =>
    rcases this with h1 | ⟨g',c,e1,hr,h1,h2⟩
    ·exact .inl h1
    ·subst e1
     have hg:g'≠g:=fun e=>hij (h.inj i j _ _ g ⟨hi,hx⟩ ⟨hj,rfl⟩ hm (e ▸ hmj))
     exact .inr ⟨g',c,rfl,hr.move (hne g' hg),h1,zaQ hext g' (hne g' hg) _ _ h2⟩
   | rt xx ee cj =>
    rcases this with h1 | ⟨g',c,e1,hr,h1,h1',h2⟩
    ·exact .inl h1
    ·subst e1
     have hg:g'≠g:=fun e=>hij (h.inj i j _ _ g ⟨hi,hx⟩ ⟨hj,rfl⟩ hm (e ▸ hmj))
     exact .inr ⟨g',c,rfl,hr.move (hne g' hg),h1,h1',zaQ hext g' (hne g' hg) _ _ h2⟩
   | lp st pend env ps as9 bd =>
    obtain⟨g',e1,h1⟩:=this
    subst e1
    have hg:g'≠g:=fun e=>hij (h.inj i j _ _ g ⟨hi,hx⟩ ⟨hj,rfl⟩ hm (e ▸ hmj))
    exact⟨g',rfl,h1.move hext (hne g' hg)⟩
   | mpb ks vs =>
    obtain⟨g',e1,h1⟩:=this
    subst e1
    have hg:g'≠g:=fun e=>hij (h.inj i j _ _ g ⟨hi,hx⟩ ⟨hj,rfl⟩ hm (e ▸ hmj))
    exact⟨g',rfl,h1.move hext (hne g' hg)⟩
   | mpi ks vs sn =>
    obtain⟨g',e1,h1⟩:=this
    subst e1
    have hg:g'≠g:=fun e=>hij (h.inj i j _ _ g ⟨hi,hx⟩ ⟨hj,rfl⟩ hm (e ▸ hmj))
    exact⟨g',rfl,h1.move hext (hne g' hg)⟩
   | fz fe fk fc =>
    obtain⟨g',e1,h1⟩:=this
    subst e1
    have hg:g'≠g:=fun e=>hij (h.inj i j _ _ g ⟨hi,hx⟩ ⟨hj,rfl⟩ hm (e ▸ hmj))
    exact⟨g',rfl,h1.move hext (hne g' hg)⟩
 ·intro a b ca cb g' ha hb hma hmb
  obtain⟨c1,ha'⟩:=orig a ca ha
  obtain⟨c2,hb'⟩:=orig b cb hb
  exact h.inj a b c1 c2 g' ha' hb' hma hmb
 ·intro b hb
  refine⟨by rw [hsz];exact(h.hid b hb).1,fun j cj hj=>?_⟩
  obtain⟨z,hz⟩:=orig j cj hj
  exact(h.hid b hb).2 j z hz
theorem St.write {w w':World} {m:Ids} {σ:zaa} (h:St H w m σ) {i g:Nat} {cs cs':List AV} (hi:σ[i]?=some (.rw cs)) (hm:m[i]?=some (some g))
  (hsz:w'.heap.size=w.heap.size) (hne:∀ b,b≠g→w'.heap[b]?=w.heap[b]?) (hos:w'.os=w.os) (htape:w'.tape=w.tape) (hout:w'.output=w.output)
  (hrow:∀ c,Row w g c→∃ c',Row w' g c'∧c'.size=c.size)
  (hlen:∀ c,Row w g c→cs'.length≤c.size)
  (hcs:Ext H w (own H m σ) m w' (own H m σ) m→zaJ w' (own H m σ) m g cs' 0) :
  St H w' m (σ.set i (.rw cs'))∧Ext H w (own H m σ) m w' (own H m (σ.set i (.rw cs'))) m:=by
 rcases h.blk i _ _ hi hm with ⟨_,hn⟩ | ⟨g',c,hg',hr,hle,hat⟩
 ·cases hn
 ·cases hg'
  obtain⟨c',r',e'⟩:=hrow c hr
  refine h.turn hi rfl rfl hm hsz hne hos htape hout (fun c0 h0=>?_) fun hext=>?_
  ·cases h0.eq hr.cel
   exact⟨c',r'.cel,e'⟩
  ·exact .inr ⟨_,c',rfl,r',by rw [e'];exact hlen c hr,hcs hext⟩
theorem St.writeT {w w':World} {m:Ids} {σ:zaa} (h:St H w m σ) {i g:Nat} {x:Bool} {e:TypeId} {cs cs':List AV} (hi:σ[i]?=some (.rt x e cs)) (hm:m[i]?=some (some g))
  (hsz:w'.heap.size=w.heap.size) (hne:∀ b,b≠g→w'.heap[b]?=w.heap[b]?) (hos:w'.os=w.os) (htape:w'.tape=w.tape) (hout:w'.output=w.output)
  (hrow:∀ c,RowT w g c e→∃ c',RowT w' g c' e∧c'.size=c.size)
  (hlen:∀ c,RowT w g c e→cs'.length≤c.size) (hx:x=true→cs'.length=cs.length)
  (hcs:Ext H w (own H m σ) m w' (own H m σ) m→zaJ w' (own H m σ) m g cs' 0) :
  St H w' m (σ.set i (.rt x e cs'))∧Ext H w (own H m σ) m w' (own H m (σ.set i (.rt x e cs'))) m:=by
 rcases h.blk i _ _ hi hm with ⟨_,_,hn⟩ | ⟨g',c,hg',hr,hle,hx',hat⟩
 ·cases hn
 ·cases hg'
  obtain⟨c',r',e'⟩:=hrow c hr
  refine h.turn hi rfl rfl hm hsz hne hos htape hout (fun c0 h0=>?_) fun hext=>?_
  ·cases h0.eq hr.row.cel
   exact⟨c',r'.row.cel,e'⟩
  ·exact .inr ⟨_,c',rfl,r',by rw [e'];exact hlen c hr,fun h1=>by rw [e',hx' h1,hx h1],hcs hext⟩
theorem zgo {m:Ids} {σ:zaa} (hl:m.length=σ.length) (g:Option Nat) (x:Blk) (b:Nat) :
  own H (m++[g]) (σ++[x]) b ↔ own H m σ b∨x.owned=true∧g=some b:=by
 constructor
 ·rintro(hH | ⟨i,cs,⟨hi,ho⟩,hm⟩)
  ·exact .inl (.inl hH)
  rcases Nat.lt_trichotomy i σ.length with h | h | h
  ·rw [List.getElem?_append_left h] at hi
   rw [List.getElem?_append_left (by omega)] at hm
   exact .inl (.inr ⟨i,cs,⟨hi,ho⟩,hm⟩)
  ·subst h
   rw [List.getElem?_append_right (by omega)] at hi
   rw [List.getElem?_append_right (by omega)] at hm
   simp [hl] at hi hm
   subst hi
   exact .inr ⟨ho,hm⟩
  ·rw [List.getElem?_eq_none (by simp;omega)] at hi
   cases hi
 ·rintro((hH | ⟨i,cs,⟨hi,ho⟩,hm⟩) | ⟨ho,rfl⟩)
  ·exact .inl hH
  ·have:=(List.getElem?_eq_some_iff.1 hi).1
   exact .inr ⟨i,cs,⟨by rw [List.getElem?_append_left this];exact hi,ho⟩,by rw [List.getElem?_append_left (by omega)];exact hm⟩
  ·exact .inr ⟨σ.length,x,⟨by simp,ho⟩,by rw [← hl];simp⟩
theorem St.ownlt {w:World} {m:Ids} {σ:zaa} (h:St H w m σ) {b:Nat} (hb:own H m σ b):b < w.heap.size:=by
 rcases hb with hH | ⟨i,x,⟨hi,ho⟩,hm⟩
 ·exact(h.hid b hH).1
 ·have hb:=h.blk i _ _ hi hm
  cases x with
  | rw cs =>
   rcases hb with ⟨_,hn⟩ | ⟨g',c,hg',hr,_⟩
   ·cases hn
   ·cases hg';exact hr.lt
  | rt xx ee cs =>
   rcases hb with ⟨_,_,hn⟩ | ⟨g',c,hg',hr,_⟩
   ·cases hn
   ·cases hg';exact hr.row.lt
  | lp st pend env ps as9 bd =>
   obtain⟨g',e,h1⟩:=hb
   cases e
   exact h1.lt
  | mpb ks vs =>
   obtain⟨g',e,h1⟩:=hb
   cases e
   exact h1.lt
  | mpi ks vs sn =>
   obtain⟨g',e,h1⟩:=hb
   cases e
   exact h1.lt
  | fz fe fk fc =>
   obtain⟨g',e,h1⟩:=hb
   cases e
   exact h1.lt
  | ro cs=>cases ho
  | dead=>cases ho
theorem zbb {w w':World} {O O':Nat→Prop} {m m':Ids} (h:Ext H w O m w' O' m') {b:Nat} (hs:w'.heap[b]?=w.heap[b]?) {l:List AV} {off:Nat} (hr:zaJ w O m b l off):zaJ w' O' m' b l off :=
 zaQ h b hs l off hr
theorem St.more {w w':World} {m:Ids} {σ:zaa} (h:St H w m σ) {g:Option Nat} {x:Blk}
  (hsz:w.heap.size≤w'.heap.size) (hold:∀ b,b < w.heap.size→w'.heap[b]?=w.heap[b]?) (hos:w'.os=w.os) (htape:w'.tape=w.tape) (hout:w'.output=w.output)
  (hnew:∀ b,g=some b→w.heap.size≤b)
  (hx:Ext H w (own H m σ) m w' (own H (m++[g]) (σ++[x])) (m++[g])→zfQ w' (own H (m++[g]) (σ++[x])) (m++[g]) g x) :
  St H w' (m++[g]) (σ++[x])∧Ext H w (own H m σ) m w' (own H (m++[g]) (σ++[x])) (m++[g]):=by
 have hext:Ext H w (own H m σ) m w' (own H (m++[g]) (σ++[x])) (m++[g]):=by
  refine⟨hsz,fun b hb _=>hold b hb,fun b hb=>?_,fun i y hy=>?_,fun b c hr=>⟨c,?_,rfl⟩,hos,htape,hout,fun b hb=>hold b (h.hid b hb).1⟩
  ·rcases (zgo h.len g x b).1 hb with h1 | ⟨_,h1⟩
   ·exact .inl h1
   ·exact .inr (hnew b h1)
  ·rw [List.getElem?_append_left (List.getElem?_eq_some_iff.1 hy).1]
   exact hy
  ·have hlt:=hr.lt
   obtain⟨e,f,h1⟩:=hr
   exact⟨e,f,(hold b hlt).trans h1⟩
 have ownlt:∀ (i:Nat) (x:Blk) (b:Nat),(σ[i]?=some x∧x.owned=true)→m[i]?=some (some b)→b < w.heap.size:=fun i x b hi hm=>h.ownlt (.inr ⟨i,x,hi,hm⟩)
 refine⟨⟨by simp [h.len],?_,?_,?_⟩,hext⟩
 ·intro i y mi hy hmi
  rcases Nat.lt_trichotomy i σ.length with hi | hi | hi
  ·rw [List.getElem?_append_left hi] at hy
   rw [List.getElem?_append_left (by rw [h.len];exact hi)] at hmi
   have hb:=h.blk i y mi hy hmi
   cases y with
   | dead=>trivial
   | ro cs =>
    rcases hb with h1 | ⟨g',e1,h1,h2⟩
    ·exact .inl h1
    ·by_cases hcs:cs=[]
     ·exact .inl hcs
     ·have hlt:=zbx h2 hcs
      refine .inr ⟨g',e1,fun ho=>?_,zbb hext (hold g' hlt) h2⟩
      rcases hext.own g' ho with h3 | h3
      ·exact h1 h3
      ·omega
   | rw cs =>
    rcases hb with h1 | ⟨g',c,e1,hr,h1,h2⟩
    ·exact .inl h1
    ·exact .inr ⟨g',c,e1,hr.move (hold g' hr.lt),h1,zbb hext (hold g' hr.lt) h2⟩
   | rt xx ee cs =>
    rcases hb with h1 | ⟨g',c,e1,hr,h1,h1',h2⟩
    ·exact .inl h1
    ·exact .inr ⟨g',c,e1,hr.move (hold g' hr.row.lt),h1,h1',zbb hext (hold g' hr.row.lt) h2⟩
   | lp st pend env ps as9 bd =>
    obtain⟨g',e1,h1⟩:=hb
    exact⟨g',e1,h1.move hext (hold g' h1.lt)⟩
   | mpb ks vs =>
    obtain⟨g',e1,h1⟩:=hb
    exact⟨g',e1,h1.move hext (hold g' h1.lt)⟩
   | mpi ks vs sn =>
    obtain⟨g',e1,h1⟩:=hb
    exact⟨g',e1,h1.move hext (hold g' h1.lt)⟩
   | fz fe fk fc =>
    obtain⟨g',e1,h1⟩:=hb
    exact⟨g',e1,h1.move hext (hold g' h1.lt)⟩
  ·subst hi
   rw [List.getElem?_append_right (by omega)] at hy
   rw [← h.len,List.getElem?_append_right (by omega)] at hmi
   simp at hy hmi
   subst hy hmi
   exact hx hext
  ·rw [List.getElem?_eq_none (by simp;omega)] at hy
   cases hy
 ·intro i j ci cj b hi hj hmi hmj
  have split:∀ (k:Nat) (ck:Blk),((σ++[x])[k]?=some ck∧ck.owned=true)→(m++[g])[k]?=some (some b)→((σ[k]?=some ck∧ck.owned=true)∧m[k]?=some (some b))∨(k=σ.length∧g=some b):=by
   rintro k ck ⟨hk,hko⟩ hmk
   rcases Nat.lt_trichotomy k σ.length with hlt | hlt | hlt
   ·rw [List.getElem?_append_left hlt] at hk
    rw [List.getElem?_append_left (by rw [h.len];exact hlt)] at hmk
    exact .inl ⟨⟨hk,hko⟩,hmk⟩
   ·subst hlt
    rw [← h.len,List.getElem?_append_right (by omega)] at hmk
    simp at hmk
    exact .inr ⟨rfl,hmk⟩
   ·rw [List.getElem?_eq_none (by simp;omega)] at hk
    cases hk
  rcases split i ci hi hmi with ⟨a1,a2⟩ | ⟨a1,a2⟩ <;> rcases split j cj hj hmj with ⟨b1,b2⟩ | ⟨b1,b2⟩
  ·exact h.inj i j ci cj b a1 b1 a2 b2
  ·have:=ownlt i ci b a1 a2
   have:=hnew b b2
   omega
  ·have:=ownlt j cj b b1 b2
   have:=hnew b a2
   omega
  ·omega
 ·intro b hb
  refine⟨Nat.lt_of_lt_of_le (h.hid b hb).1 hsz,fun i ci hio hmi=>?_⟩
  obtain⟨hi,hio⟩:=hio
  rcases Nat.lt_trichotomy i σ.length with hlt | hlt | hlt
  ·rw [List.getElem?_append_left hlt] at hi
   rw [List.getElem?_append_left (by rw [h.len];exact hlt)] at hmi
   exact(h.hid b hb).2 i ci ⟨hi,hio⟩ hmi
  ·subst hlt
   rw [← h.len,List.getElem?_append_right (by omega)] at hmi
   simp at hmi
   have:=hnew b hmi
   have:=(h.hid b hb).1
   omega
  ·rw [List.getElem?_eq_none (by simp;omega)] at hi
   cases hi
theorem St.alloc {w w':World} {m:Ids} {σ:zaa} (h:St H w m σ) {c:Array Value} {e lo hi:Nat} {cs:List AV}
  (hheap:w'.heap=w.heap.push (.cells c e (lo,hi))) (hfr:hi≤lo∨c.size≤lo) (hos:w'.os=w.os) (htape:w'.tape=w.tape) (hout:w'.output=w.output)
  (hlen:cs.length≤c.size) (hcs:∀ (j:Nat) (x:AV),cs[j]?=some x→∃ v,c[j]?=some v∧rep w (own H m σ) m x v) :
  St H w' (m++[some w.heap.size]) (σ++[.rw cs])∧Ext H w (own H m σ) m w' (own H (m++[some w.heap.size]) (σ++[.rw cs])) (m++[some w.heap.size]):=by
 have hrow:Row w' w.heap.size c:=⟨e,lo,hi,by rw [hheap];simp,hfr⟩
 refine h.more (by rw [hheap];simp) (fun b hb=>by rw [hheap,Array.getElem?_push_lt hb];simp [hb]) hos htape hout (fun b hb=>by cases hb;omega) fun hext=>?_
 refine .inr ⟨_,c,rfl,hrow,hlen,zb0 fun j x hx=>?_⟩
 obtain⟨v,hv,hr⟩:=hcs j x hx
 exact⟨v,by rw [Nat.zero_add,hrow.cell];exact hv,zaP hext _ _ hr⟩
theorem St.allocT {w w':World} {m:Ids} {σ:zaa} (h:St H w m σ) {c:Array Value} {e lo hi:Nat} {x:Bool} {cs:List AV}
  (hheap:w'.heap=w.heap.push (.cells c e (lo,hi))) (hfr:hi≤lo∨c.size≤lo) (hos:w'.os=w.os) (htape:w'.tape=w.tape) (hout:w'.output=w.output)
  (hlen:cs.length≤c.size) (hx:x=true→c.size=cs.length) (hcs:∀ (j:Nat) (x:AV),cs[j]?=some x→∃ v,c[j]?=some v∧rep w (own H m σ) m x v) :
  St H w' (m++[some w.heap.size]) (σ++[.rt x e cs])∧Ext H w (own H m σ) m w' (own H (m++[some w.heap.size]) (σ++[.rt x e cs])) (m++[some w.heap.size]):=by
 have hrow:RowT w' w.heap.size c e:=⟨lo,hi,by rw [hheap];simp,hfr⟩
 refine h.more (by rw [hheap];simp) (fun b hb=>by rw [hheap,Array.getElem?_push_lt hb];simp [hb]) hos htape hout (fun b hb=>by cases hb;omega) fun hext=>?_
 refine .inr ⟨_,c,rfl,hrow,hlen,hx,zb0 fun j x hx=>?_⟩
 obtain⟨v,hv,hr⟩:=hcs j x hx
 exact⟨v,by rw [Nat.zero_add,hrow.row.cell];exact hv,zaP hext _ _ hr⟩
theorem zfR {m:Ids} {σ:zaa} {i:Nat} {x:Blk} (hx:x.owned=false) (b:Nat):own H m (σ.set i x) b→own H m σ b:=by
 rintro(hH | ⟨j,cs,⟨hj,ho⟩,hm⟩)
 ·exact .inl hH
 by_cases hij:i=j
 ·subst hij
  rw [List.getElem?_set] at hj
  simp only [if_true] at hj
  split at hj
  ·cases hj;rw [hx] at ho;cases ho
  ·cases hj
 ·rw [List.getElem?_set_ne hij] at hj
  exact .inr ⟨j,cs,⟨hj,ho⟩,hm⟩
theorem St.letgo {w:World} {m:Ids} {σ:zaa} (h:St H w m σ) {i:Nat} {x:Blk} (hx:x=.dead∨∃ cs,σ[i]?=some (.rw cs)∧∃ n k,x=.ro ((cs.drop n).take k)∧n=0) :
  St H w m (σ.set i x)∧Ext H w (own H m σ) m w (own H m (σ.set i x)) m:=by
 have hne:x.owned=false:=by
  rcases hx with rfl | ⟨_,_,_,_,rfl,_⟩ <;> rfl
 have hext:Ext H w (own H m σ) m w (own H m (σ.set i x)) m :=
  ⟨Nat.le_refl _,fun _ _ _=>rfl,fun b hb=>.inl (zfR hne b hb),fun _ _ hy=>hy,fun _ c hr=>⟨c,hr,rfl⟩,rfl,rfl,rfl,fun _ _=>rfl⟩
 have back:∀ (k:Nat) (ck:Blk),((σ.set i x)[k]?=some ck∧ck.owned=true)→σ[k]?=some ck∧ck.owned=true:=by
   rintro k ck ⟨hk,hko⟩
   refine⟨?_,hko⟩
   by_cases hik:i=k
   ·subst hik
    rw [List.getElem?_set] at hk
    simp only [if_true] at hk
    split at hk
    ·cases hk;rw [hne] at hko;cases hko
    ·cases hk
   ·rwa [List.getElem?_set_ne hik] at hk
 refine⟨⟨by simpa using h.len,?_,?_,fun b hb=>⟨(h.hid b hb).1,fun k ck hk=>(h.hid b hb).2 k ck (back k ck hk)⟩⟩,hext⟩
 ·intro j y mj hj hmj
  by_cases hij:i=j
  ·subst hij
   rw [List.getElem?_set] at hj
   simp only [if_true] at hj
   split at hj
   ·cases hj
    rcases hx with rfl | ⟨cs,hi,n,k,rfl,rfl⟩
    ·trivial
    ·rcases h.blk i _ _ hi hmj with ⟨hc,_⟩ | ⟨g,c,e1,hr,h1,h2⟩
     ·exact .inl (by simp [hc])
     ·subst e1
      refine .inr ⟨g,rfl,?_,zaQ hext g rfl _ _ (zbu (by simpa using h2) k)⟩
      rintro(hH | ⟨a,ca,⟨ha,hao⟩,hma⟩)
      ·exact(h.hid g hH).2 i _ ⟨hi,rfl⟩ hmj
      by_cases hia:i=a
      ·subst hia
       rw [List.getElem?_set] at ha
       simp only [if_true] at ha
       have hil':i < σ.length:=(List.getElem?_eq_some_iff.1 hi).1
       rw [if_pos hil'] at ha
       simp only [Option.some.injEq] at ha
       rw [← ha,hne] at hao
       cases hao
      ·rw [List.getElem?_set_ne hia] at ha
       exact hia (h.inj i a _ ca g ⟨hi,rfl⟩ ⟨ha,hao⟩ hmj hma)
   ·cases hj
  ·rw [List.getElem?_set_ne hij] at hj
   have:=h.blk j y mj hj hmj
   cases y with
   | dead=>trivial
   | ro cj =>
    rcases this with h1 | ⟨g',e1,h1,h2⟩
    ·exact .inl h1
    ·exact .inr ⟨g',e1,fun ho=>h1 (zfR hne _ ho),zaQ hext g' rfl _ _ h2⟩
   | rw cj =>
    rcases this with h1 | ⟨g',c,e1,hr,h1,h2⟩
    ·exact .inl h1
    ·exact .inr ⟨g',c,e1,hr,h1,zaQ hext g' rfl _ _ h2⟩
   | rt xx ee cj =>
    rcases this with h1 | ⟨g',c,e1,hr,h1,h1',h2⟩
    ·exact .inl h1
    ·exact .inr ⟨g',c,e1,hr,h1,h1',zaQ hext g' rfl _ _ h2⟩
   | lp st pend env ps as9 bd =>
    obtain⟨g',e1,h1⟩:=this
    exact⟨g',e1,h1.move hext rfl⟩
   | mpb ks vs =>
    obtain⟨g',e1,h1⟩:=this
    exact⟨g',e1,h1.move hext rfl⟩
   | mpi ks vs sn =>
    obtain⟨g',e1,h1⟩:=this
    exact⟨g',e1,h1.move hext rfl⟩
   | fz fe fk fc =>
    obtain⟨g',e1,h1⟩:=this
    exact⟨g',e1,h1.move hext rfl⟩
 ·intro a b ca cb g ha hb hma hmb
  exact h.inj a b ca cb g (back a ca ha) (back b cb hb) hma hmb
theorem St.freeze {w w':World} {m:Ids} {σ:zaa} (h:St H w m σ) {i g:Nat} {e:TypeId} {cs:List AV} (hi:σ[i]?=some (.rt false e cs)) (hm:m[i]?=some (some g))
  (hsz:w'.heap.size=w.heap.size) (hne:∀ b,b≠g→w'.heap[b]?=w.heap[b]?) (hos:w'.os=w.os) (htape:w'.tape=w.tape) (hout:w'.output=w.output)
  (hg:∀ c e f,w.heap[g]?=some (.cells c e f)→∃ f',w'.heap[g]?=some (.cells c e f')) :
  St H w' m (σ.set i (.ro cs))∧Ext H w (own H m σ) m w' (own H m (σ.set i (.ro cs))) m:=by
 have hown:own H m σ g:=.inr ⟨i,_,⟨hi,rfl⟩,hm⟩
 have hil:i < σ.length:=(List.getElem?_eq_some_iff.1 hi).1
 have hcel:∀ c,Cel w g c→∃ c',Cel w' g c'∧c'.size=c.size:=by
  rintro c ⟨e0,f,h1⟩
  obtain⟨f',h2⟩:=hg _ _ _ h1
  exact⟨c,⟨e0,f',h2⟩,rfl⟩
 have hext:Ext H w (own H m σ) m w' (own H m (σ.set i (.ro cs))) m :=
  ⟨by omega,fun b _ hb=>hne b (fun e=>hb (e ▸ hown)),fun b hb=>.inl (zfR rfl b hb),fun _ _ hy=>hy,rows_of hne hcel,hos,htape,hout,fun b hb=>hne b (fun e=>(h.hid b hb).2 i _ ⟨hi,rfl⟩ (e ▸ hm))⟩
 have back:∀ (k:Nat) (ck:Blk),((σ.set i (.ro cs))[k]?=some ck∧ck.owned=true)→(k≠i∧σ[k]?=some ck∧ck.owned=true):=by
  rintro k ck ⟨hk,hko⟩
  by_cases hik:i=k
  ·subst hik
   simp [hil] at hk
   subst hk
   cases hko
  ·rw [List.getElem?_set_ne hik] at hk
   exact⟨fun e=>hik e.symm,hk,hko⟩
 have hnot:¬ own H m (σ.set i (.ro cs)) g:=by
  rintro(hH | ⟨a,ca,ha,hma⟩)
  ·exact(h.hid g hH).2 i _ ⟨hi,rfl⟩ hm
  ·obtain⟨h1,h2⟩:=back a ca ha
   exact h1 (h.inj a i _ _ g h2 ⟨hi,rfl⟩ hma hm)
 refine⟨⟨by simpa using h.len,?_,?_,fun b hb=>⟨by rw [hsz];exact(h.hid b hb).1,fun k ck hk=>(h.hid b hb).2 k ck (back k ck hk).2⟩⟩,hext⟩
 ·intro j y mj hj hmj
  by_cases hij:i=j
  ·subst hij
   simp [hil] at hj
   subst hj
   rw [hm] at hmj
   cases hmj
   rcases h.blk i _ _ hi hm with ⟨_,hc,_⟩ | ⟨g',c,e1,hr,h1,h1',h2⟩
   ·exact .inl hc
   ·cases e1
    refine .inr ⟨g,rfl,hnot,zb0 fun j x hx=>?_⟩
    obtain⟨v,hv,hrv⟩:=zbD h2 j x hx
    refine⟨v,?_,zaP hext _ _ hrv⟩
    obtain⟨lo,hi',k1,k2⟩:=hr
    obtain⟨f',k3⟩:=hg _ _ _ k1
    rw [← hv]
    simp [World.cell?,k1,k3]
  ·rw [List.getElem?_set_ne hij] at hj
   have:=h.blk j y mj hj hmj
   cases y with
   | dead=>trivial
   | ro cj =>
    rcases this with h1 | ⟨g',e1,h1,h2⟩
    ·exact .inl h1
    ·exact .inr ⟨g',e1,fun ho=>h1 (zfR rfl _ ho),zaQ hext g' (hne g' (fun e=>h1 (e ▸ hown))) _ _ h2⟩
   | rw cj =>
    rcases this with h1 | ⟨g',c,e1,hr,h1,h2⟩
    ·exact .inl h1
    ·subst e1
     have hg':g'≠g:=fun e=>hij (h.inj i j _ _ g ⟨hi,rfl⟩ ⟨hj,rfl⟩ hm (e ▸ hmj))
     exact .inr ⟨g',c,rfl,hr.move (hne g' hg'),h1,zaQ hext g' (hne g' hg') _ _ h2⟩
   | rt xx ee cj =>
    rcases this with h1 | ⟨g',c,e1,hr,h1,h1',h2⟩
    ·exact .inl h1
    ·subst e1
     have hg':g'≠g:=fun e=>hij (h.inj i j _ _ g ⟨hi,rfl⟩ ⟨hj,rfl⟩ hm (e ▸ hmj))
     exact .inr ⟨g',c,rfl,hr.move (hne g' hg'),h1,h1',zaQ hext g' (hne g' hg') _ _ h2⟩
   | lp st pend env ps as9 bd =>
    obtain⟨g',e1,h1⟩:=this
    subst e1
    have hg':g'≠g:=fun e=>hij (h.inj i j _ _ g ⟨hi,rfl⟩ ⟨hj,rfl⟩ hm (e ▸ hmj))
    exact⟨g',rfl,h1.move hext (hne g' hg')⟩
   | mpb ks vs =>
    obtain⟨g',e1,h1⟩:=this
    subst e1
    have hg':g'≠g:=fun e=>hij (h.inj i j _ _ g ⟨hi,rfl⟩ ⟨hj,rfl⟩ hm (e ▸ hmj))
    exact⟨g',rfl,h1.move hext (hne g' hg')⟩
   | mpi ks vs sn =>
    obtain⟨g',e1,h1⟩:=this
    subst e1
    have hg':g'≠g:=fun e=>hij (h.inj i j _ _ g ⟨hi,rfl⟩ ⟨hj,rfl⟩ hm (e ▸ hmj))
    exact⟨g',rfl,h1.move hext (hne g' hg')⟩
   | fz fe fk fc =>
    obtain⟨g',e1,h1⟩:=this
    subst e1
    have hg':g'≠g:=fun e=>hij (h.inj i j _ _ g ⟨hi,rfl⟩ ⟨hj,rfl⟩ hm (e ▸ hmj))
    exact⟨g',rfl,h1.move hext (hne g' hg')⟩
 ·intro a b ca cb g ha hb hma hmb
  exact h.inj a b ca cb g (back a ca ha).2 (back b cb hb).2 hma hmb
mutual
def AV.cl (n:Nat):AV→Prop
 | .agg l=>cls n l
 | .tup l=>cls n l
 | .sl cs _=>cls n cs
 | .rp cs=>cls n cs
 | .ref id _ _ _=>id < n
 | .ptr id _=>id < n
 | .yl id=>id < n
 | .mpt id=>id < n
 | .fn _ a b=>cls n a∧cls n b
 | .ifc _ a=>a.cl n
 | .sd id _=>id < n
 | .bsl id _=>id < n
 | _=>True
def cls (n:Nat):List AV→Prop
 | []=>True
 | a::l=>a.cl n∧cls n l
end
mutual
theorem rep_cl {w:World} {O:Nat→Prop} {m:Ids}:(x:AV)→(v:Value)→rep w O m x v→x.cl m.length
 | .bot,_,_=>trivial
 | .lit _,_,_=>trivial
 | .agg l,v,h=>by
  simp only [rep] at h
  obtain⟨a,_,h1⟩:=h
  exact zej l _ h1
 | .tup l,v,h=>by
  simp only [rep] at h
  obtain⟨a,_,h1⟩:=h
  exact zej l _ h1
 | .sl cs len,v,h=>by
  simp only [rep] at h
  obtain⟨ad,cap,_,_,_,h1⟩:=h
  rcases h1 with rfl | ⟨b,off,_,_,_,h2⟩
  ·trivial
  ·exact zek cs _ _ h2
 | .rp cs,v,h=>by
  simp only [rep] at h
  obtain⟨b,off,_,_,_,h1⟩:=h
  exact zek cs _ _ h1
 | .ref id off len sz,v,h=>by
  simp only [rep] at h
  rcases h with ⟨_,_,_,h1⟩ | ⟨g,cap,c,_,h1,_⟩
  ·exact h1
  ·exact(List.getElem?_eq_some_iff.1 h1).1
 | .ptr id off,v,h=>by
  simp only [rep] at h
  obtain⟨g,_,h1⟩:=h
  exact(List.getElem?_eq_some_iff.1 h1).1
 | .yl id,v,h=>by
  simp only [rep] at h
  obtain⟨g,_,h1⟩:=h
  exact(List.getElem?_eq_some_iff.1 h1).1
 | .mpt id,v,h=>by
  simp only [rep] at h
  obtain⟨g,_,h1⟩:=h
  exact(List.getElem?_eq_some_iff.1 h1).1
 | .fn f a b,v,h=>by
  simp only [rep] at h
  obtain⟨x,y,_,h1,h2⟩:=h
  exact⟨zej a _ h1,zej b _ h2⟩
 | .ifc t a,v,h=>by
  simp only [rep] at h
  obtain⟨u,_,h1⟩:=h
  exact rep_cl a _ h1
 | .sd id n,v,h=>by
  simp only [rep] at h
  exact h.1
 | .bsl id n,v,h=>by
  simp only [rep] at h
  rcases h with ⟨_,_,h1⟩ | ⟨g,cap,c,_,h1,_⟩
  ·exact h1
  ·exact(List.getElem?_eq_some_iff.1 h1).1
theorem zej {w:World} {O:Nat→Prop} {m:Ids}:(l:List AV)→(vs:List Value)→reps w O m l vs→cls m.length l
 | [],_,_=>trivial
 | a::l,vs,h=>by
  simp only [reps] at h
  obtain⟨v,r,_,h1,h2⟩:=h
  exact⟨rep_cl a _ h1,zej l _ h2⟩
theorem zek {w:World} {O:Nat→Prop} {m:Ids}:(l:List AV)→(b off:Nat)→zaJ w O m b l off→cls m.length l
 | [],_,_,_=>trivial
 | a::l,b,off,h=>by
  simp only [zaJ] at h
  obtain⟨⟨v,_,h1⟩,h2⟩:=h
  exact⟨rep_cl a _ h1,zek l _ _ h2⟩
end
structure Cut (O:Nat→Prop) (m:Ids) (O':Nat→Prop) (n:Nat):Prop where
 own:∀ b,O' b→O b
 le:n≤m.length
theorem ze2 {m:Ids} {n i:Nat} (h:i < n):(m.take n)[i]?=m[i]?:=by
 rw [List.getElem?_take,if_pos h]
mutual
theorem rep_cut {w:World} {O O':Nat→Prop} {m:Ids} {n:Nat} (c:Cut O m O' n):(x:AV)→(v:Value)→x.cl n→rep w O m x v→rep w O' (m.take n) x v
 | .bot,_,_,_=>by simp [rep]
 | .lit _,_,_,h=>by simpa [rep] using h
 | .agg l,v,hc,h=>by
  simp only [rep] at h ⊢
  obtain⟨a,e,h1⟩:=h
  exact⟨a,e,zdF c l _ hc h1⟩
 | .tup l,v,hc,h=>by
  simp only [rep] at h ⊢
  obtain⟨a,e,h1⟩:=h
  exact⟨a,e,zdF c l _ hc h1⟩
 | .sl cs len,v,hc,h=>by
  simp only [rep] at h ⊢
  obtain⟨ad,cap,e,h0,h0',h1⟩:=h
  refine⟨ad,cap,e,h0,h0',h1.imp id ?_⟩
  rintro⟨b,off,e1,hO,hb,h2⟩
  exact⟨b,off,e1,fun ho=>hO (c.own b ho),hb,zcy c cs _ _ hc h2⟩
 | .rp cs,v,hc,h=>by
  simp only [rep] at h ⊢
  obtain⟨b,off,e1,hO,hb,h2⟩:=h
  exact⟨b,off,e1,fun ho=>hO (c.own b ho),hb,zcy c cs _ _ hc h2⟩
 | .ref id off len sz,v,hc,h=>by
  simp only [AV.cl] at hc
  simp only [rep] at h ⊢
  rcases h with ⟨e1,e2,e3,h1⟩ | ⟨g,cap,cc,e1,h1,rest⟩
  ·exact .inl ⟨e1,e2,e3,by rw [List.length_take];omega⟩
  ·exact .inr ⟨g,cap,cc,e1,by rw [ze2 hc];exact h1,rest⟩
 | .ptr id off,v,hc,h=>by
  simp only [AV.cl] at hc
  simp only [rep] at h ⊢
  obtain⟨g,e,h1⟩:=h
  exact⟨g,e,by rw [ze2 hc];exact h1⟩
 | .yl id,v,hc,h=>by
  simp only [AV.cl] at hc
  simp only [rep] at h ⊢
  obtain⟨g,e,h1⟩:=h
  exact⟨g,e,by rw [ze2 hc];exact h1⟩
 | .mpt id,v,hc,h=>by
  simp only [AV.cl] at hc
  simp only [rep] at h ⊢
  obtain⟨g,e,h1⟩:=h
  exact⟨g,e,by rw [ze2 hc];exact h1⟩
 | .fn f a b,v,hc,h=>by
  simp only [AV.cl] at hc
  simp only [rep] at h ⊢
  obtain⟨x,y,e,h1,h2⟩:=h
  exact⟨x,y,e,zdF c a _ hc.1 h1,zdF c b _ hc.2 h2⟩
 | .ifc t a,v,hc,h=>by
  simp only [AV.cl] at hc
  simp only [rep] at h ⊢
  obtain⟨u,e,h1⟩:=h
  exact⟨u,e,rep_cut c a _ hc h1⟩
 | .sd id k,v,hc,h=>by
  simp only [AV.cl] at hc
  simp only [rep] at h ⊢
  obtain⟨h0,p,e,h1⟩:=h
  refine⟨by rw [List.length_take];omega,p,e,h1.imp (fun h=>h) ?_⟩
  rintro⟨g,e1,e2⟩
  exact⟨g,e1,by rw [ze2 hc];exact e2⟩
 | .bsl id k,v,hc,h=>by
  simp only [AV.cl] at hc
  simp only [rep] at h ⊢
  rcases h with ⟨e1,e2,h1⟩ | ⟨g,cap,cc,e1,h1,rest⟩
  ·exact .inl ⟨e1,e2,by rw [List.length_take];omega⟩
  ·exact .inr ⟨g,cap,cc,e1,by rw [ze2 hc];exact h1,rest⟩
theorem zdF {w:World} {O O':Nat→Prop} {m:Ids} {n:Nat} (c:Cut O m O' n):(l:List AV)→(vs:List Value)→cls n l→reps w O m l vs→reps w O' (m.take n) l vs
 | [],_,_,h=>by simpa [reps] using h
 | a::l,vs,hc,h=>by
  simp only [reps] at h ⊢
  obtain⟨v,r,e,h1,h2⟩:=h
  exact⟨v,r,e,rep_cut c a _ hc.1 h1,zdF c l _ hc.2 h2⟩
theorem zcy {w:World} {O O':Nat→Prop} {m:Ids} {n:Nat} (c:Cut O m O' n):(l:List AV)→(b off:Nat)→cls n l→zaJ w O m b l off→zaJ w O' (m.take n) b l off
 | [],_,_,_,_=>by simp [zaJ]
 | a::l,b,off,hc,h=>by
  simp only [zaJ] at h ⊢
  obtain⟨⟨v,e,h1⟩,h2⟩:=h
  exact⟨⟨v,e,rep_cut c a _ hc.1 h1⟩,zcy c l _ _ hc.2 h2⟩
end
def Blk.cl (n:Nat):Blk→Prop
 | .rw cs=>cls n cs
 | .rt _ _ cs=>cls n cs
 | .ro cs=>cls n cs
 | .dead=>True
 | .lp _ _ env _ _ _=>cls n env
 | .mpb _ vs=>cls n vs
 | .mpi _ vs _=>cls n vs
 | .fz _ _ cs=>cls n cs
def Clo (n:Nat) (σ:zaa):Prop:=∀ (i:Nat) (x:Blk),σ[i]?=some x→x.cl n
theorem St.clo {w:World} {m:Ids} {σ:zaa} (h:St H w m σ):Clo σ.length σ:=by
 intro i x hi
 obtain⟨mi,hm⟩:=h.id hi
 have hb:=h.blk i x mi hi hm
 rw [← h.len]
 cases x with
 | dead=>trivial
 | ro cs =>
  rcases hb with rfl | ⟨g,_,_,h2⟩
  ·trivial
  ·exact zek cs _ _ h2
 | rw cs =>
  rcases hb with ⟨rfl,_⟩ | ⟨g,c,_,_,_,h2⟩
  ·trivial
  ·exact zek cs _ _ h2
 | rt xx ee cs =>
  rcases hb with ⟨_,rfl,_⟩ | ⟨g,c,_,_,_,_,h2⟩
  ·trivial
  ·exact zek cs _ _ h2
 | lp st pend env ps as9 bd =>
  obtain⟨g,_,L,_,_,_,_,_,_,h2⟩:=hb
  exact zej env _ h2
 | mpb ks vs =>
  obtain⟨g,_,es,c,_,_,h2,_⟩:=hb
  exact zej vs _ h2
 | mpi ks vs sn =>
  obtain⟨g,_,gm,es,c,_,_,_,h2,_⟩:=hb
  exact zej vs _ h2
 | fz fe fk fc =>
  obtain⟨g,_,c,hi,_,_,_,h2⟩:=hb
  exact zek fc _ _ h2
theorem St.cut {w:World} {m:Ids} {σ junk:zaa} (h:St H w m (σ++junk)) (hc:Clo σ.length σ):St H w (m.take σ.length) σ∧Cut (own H m (σ++junk)) m (own H (m.take σ.length) σ) σ.length:=by
 have hle:σ.length≤m.length:=by rw [h.len];simp
 have hget:∀ (i:Nat) (x:Blk),σ[i]?=some x→(σ++junk)[i]?=some x:=fun i x hi=>by
  rw [List.getElem?_append_left (List.getElem?_eq_some_iff.1 hi).1];exact hi
 have hm:∀ (i:Nat) (x:Option Nat),(m.take σ.length)[i]?=some x→m[i]?=some x:=fun i x hi=>by
  rw [List.getElem?_take] at hi
  split at hi
  ·exact hi
  ·cases hi
 have cut:Cut (own H m (σ++junk)) m (own H (m.take σ.length) σ) σ.length:=by
  refine⟨?_,hle⟩
  rintro b (hH | ⟨i,cs,⟨hi,ho⟩,hmi⟩)
  ·exact .inl hH
  ·exact .inr ⟨i,cs,⟨hget i _ hi,ho⟩,hm i _ hmi⟩
 refine⟨⟨by simp [hle],?_,?_,fun b hb=>⟨(h.hid b hb).1,fun i ci hi hmi=>(h.hid b hb).2 i ci ⟨hget i _ hi.1,hi.2⟩ (hm i _ hmi)⟩⟩,cut⟩
 ·intro i x mi hi hmi
  have hb:=h.blk i x mi (hget i x hi) (hm i mi hmi)
  have hx:=hc i x hi
  cases x with
  | dead=>trivial
  | ro cs =>
   rcases hb with h1 | ⟨g,e,h1,h2⟩
   ·exact .inl h1
   ·exact .inr ⟨g,e,fun ho=>h1 (cut.own _ ho),zcy cut _ _ _ hx h2⟩
  | rw cs =>
   rcases hb with h1 | ⟨g,c,e,hr,h1,h2⟩
   ·exact .inl h1
   ·exact .inr ⟨g,c,e,hr,h1,zcy cut _ _ _ hx h2⟩
  | rt xx ee cs =>
   rcases hb with h1 | ⟨g,c,e,hr,h1,h1',h2⟩
   ·exact .inl h1
   ·exact .inr ⟨g,c,e,hr,h1,h1',zcy cut _ _ _ hx h2⟩
  | lp st pend env ps as9 bd =>
   obtain⟨g,e,L,h1,h2,h3,h4,h5,h6,h7⟩:=hb
   exact⟨g,e,L,h1,h2,h3,h4,h5,h6,zdF cut _ _ hx h7⟩
  | mpb ks vs =>
   obtain⟨g,e,hM⟩:=hb
   exact⟨g,e,hM.imp rfl fun _ hl=>zdF cut _ _ hx hl⟩
  | mpi ks vs sn =>
   obtain⟨g,e,hM⟩:=hb
   exact⟨g,e,hM.imp cut.own fun _ hl=>zdF cut _ _ hx hl⟩
  | fz fe fk fc =>
   obtain⟨g,e,c,hi,h1,h1',h2,h3⟩:=hb
   exact⟨g,e,c,hi,h1,h1',h2,zcy cut _ _ _ hx h3⟩
 ·intro i j ci cj g hi hj hmi hmj
  exact h.inj i j ci cj g ⟨hget i _ hi.1,hi.2⟩ ⟨hget j _ hj.1,hj.2⟩ (hm i _ hmi) (hm j _ hmj)
end Go.Eng
end

section
namespace Go.Eng
open Go
variable {H : Nat → Prop}
inductive TD where
 | bool | int (k:IntKind) | str
 | slice (e:TypeId) | array (n:Nat) (e:TypeId) | ptr (e:TypeId)
 | struct (fs:List (TypeId × Nat))
 | bld (fs:List (TypeId × Nat))
 | iface
 | map (k e:TypeId)
 | other
structure TI where
 d:TD
 size:Nat
 bytes:Nat
 zero:List Value
 eqs:Bool
def TD.agg:TD→Bool
 | .array _ _=>true
 | .struct _=>true
 | .bld _=>true
 | _=>false
def TD.fits:TD→TypeDesc→Prop
 | .bool,d=>d=.bool
 | .int k,d=>d=.int k
 | .str,d=>d=.string
 | .slice e,d=>d=.slice e
 | .array n e,d=>d=.array n e
 | .ptr e,d=>d=.pointer e
 | .struct fs,d=>∃ gs,d=.struct gs∧gs.toList.map (fun f=>(f.type,f.offset))=fs
 | .bld fs,d=>∃ gs,d=.struct gs∧gs.toList.map (fun f=>(f.type,f.offset))=fs
 | .iface,d=>∃ ms,d=.interface ms
 | .map k e,d=>d=.map k e
 | .other,d=>(match d with | .struct _ | .array _ _=>False | _=>True)
def TD.conc:TD→Bool
 | .iface=>false
 | .other=>false
 | _=>true
def eqsOK (P:Program) (t:TypeId):Prop :=
 P.stoodInHeld t = false ∧ ∀ gs, P.underlying t = some (.struct gs) → ∀ g ∈ gs.toList, (g.name != "_") = true
structure TyOK (P:Program) (t:TypeId) (ti:TI):Prop where
 eqs:ti.eqs=true→eqsOK P t
 und:∃ d,P.underlying t=some d∧ti.d.fits d
 info:∃ i,P.info? t=some i∧i.size=ti.size∧i.bytes=ti.bytes∧∃ z,i.zero=some z∧z.cells.toList=ti.zero
abbrev Tab:=TypeId→Option TI
def zaD (P:Program) (T:Tab):Prop:=∀ t ti,T t=some ti→TyOK P t ti
inductive AEnd where
 | ret (r:AV)
 | pan (r:AV)
def zb5 (w:World) (O:Nat→Prop) (m:Ids):AEnd→Ending→Prop
 | .ret r,.returned v=>rep w O m r v
 | .pan r,.panicked c=>∃ v,c=[{ v:=v,recovered:=false }]∧rep w O m r v
 | _,_=>False
def zaW (P:Program) (f:FuncId):Bool :=
 match P.funcs[f]? with
 | some fn => !(fn.name == "runtime.NumGoroutine") && !fn.body.isNone
 | none=>false
class Globs where
 tab:Nat→Option (List Value)
 /-- What was deferred ahead of the code that is read. -/
 base:List Deferred:=[]
 /-- Variables that hold some whole number. -/
 ints:List Nat:=[]
 /-- Variables that hold some error. -/
 errs:List Nat:=[]
def Glob [G:Globs] (w:World) (O:Nat→Prop):Prop :=
 (∀ g cs,G.tab g=some cs→¬ O g∧g < w.heap.size∧(∃ e f,w.heap[g]?=some (.cells cs.toArray e f))∧∀ (j:Nat) (v:Value),cs[j]?=some v→w.cell? ⟨g,j,none⟩=some v) ∧
 (∀ g,g∈G.ints→¬ O g∧g < w.heap.size∧∃ n:Int,w.cell? ⟨g,0,none⟩=some (.int .i64 n)) ∧
 ∀ g,g∈G.errs→¬ O g∧g < w.heap.size∧∃ (t:TypeId) (v:Value),w.cell? ⟨g,0,none⟩=some (.iface t v)
theorem Glob.mono [Globs] {w w':World} {O O':Nat→Prop} {m m':Ids} (h:Glob w O) (k:Ext H w O m w' O' m'):Glob w' O':=by
 refine⟨fun g cs hg=>?_,fun g hg=>?_,fun g hg=>?_⟩
 ·obtain⟨h1,h2,⟨e,f,h4⟩,h3⟩:=h.1 g cs hg
  refine⟨fun ho=>(k.own g ho).elim h1 (fun h=>by omega),Nat.lt_of_lt_of_le h2 k.heap,⟨e,f,by rw [k.same g h2 h1];exact h4⟩,fun j v hv=>?_⟩
  rw [cell?_of_heap (a:=⟨g,j,none⟩) (k.same g h2 h1)]
  exact h3 j v hv
 ·obtain⟨h1,h2,n,h3⟩:=h.2.1 g hg
  refine⟨fun ho=>(k.own g ho).elim h1 (fun h=>by omega),Nat.lt_of_lt_of_le h2 k.heap,n,?_⟩
  rw [cell?_of_heap (a:=⟨g,0,none⟩) (k.same g h2 h1)]
  exact h3
 ·obtain⟨h1,h2,t,v,h3⟩:=h.2.2 g hg
  refine⟨fun ho=>(k.own g ho).elim h1 (fun h=>by omega),Nat.lt_of_lt_of_le h2 k.heap,t,v,?_⟩
  rw [cell?_of_heap (a:=⟨g,0,none⟩) (k.same g h2 h1)]
  exact h3
theorem Glob.own [Globs] {w:World} {O O':Nat→Prop} (h:Glob w O) (k:∀ g,O' g→O g):Glob w O' :=
 ⟨fun g cs hg=>let ⟨a,b,c⟩:=h.1 g cs hg;⟨fun ho=>a (k g ho),b,c⟩,fun g hg=>let ⟨a,b,c⟩:=h.2.1 g hg;⟨fun ho=>a (k g ho),b,c⟩,fun g hg=>let ⟨a,b,c⟩:=h.2.2 g hg;⟨fun ho=>a (k g ho),b,c⟩⟩
def CallsR (P:Program) (f:FuncId) (vs:Array Value) (w:World) (R:Ending→World→Prop):Prop :=
 (zaW P f=true∧Calls P f vs w R)∨(zaW P f=false∧∃ v w',(callFunc f vs).run P w=.ok (.value v) w'∧R (.returned v) w')
theorem CallsR.mono {P:Program} {f:FuncId} {vs:Array Value} {w:World} {R R':Ending→World→Prop} (h:CallsR P f vs w R) (hk:∀ e w',R e w'→R' e w'):CallsR P f vs w R':=by
 rcases h with ⟨h1,h2⟩ | ⟨h1,v,_,h2,h3⟩
 ·exact .inl ⟨h1,h2.mono hk⟩
 ·exact .inr ⟨h1,v,_,h2,hk _ _ h3⟩
theorem CallsR.calls {P:Program} {f:FuncId} {vs:Array Value} {w:World} {R:Ending→World→Prop} (h:CallsR P f vs w R) (hc:zaW P f=true):Calls P f vs w R:=by
 rcases h with ⟨_,h2⟩ | ⟨h1,_⟩
 ·exact h2
 ·rw [hc] at h1;cases h1
def ACalls [Globs] (P:Program) (f:FuncId) (as9:List AV) (σ:zaa) (K:AEnd→zaa→Prop):Prop :=
 ∀ (H:Nat→Prop) (w:World) (m:Ids) (vs:Array Value),Glob w (own H m σ)→St H w m σ→reps w (own H m σ) m as9 vs.toList →
  CallsR P f vs w fun e w' => ∃ x m' σ', St H w' m' σ' ∧ Ext H w (own H m σ) m w' (own H m' σ') m' ∧ zb5 w' (own H m' σ') m' x e ∧ K x σ'
theorem ACalls.mono [Globs] {P : Program} {f : FuncId} {as9 : List AV} {σ : zaa} {K K' : AEnd → zaa → Prop} (h : ACalls P f as9 σ K) (hk : ∀ x σ', K x σ' → K' x σ') : ACalls P f as9 σ K' :=
 fun H w m vs hg hs hr => CallsR.mono (h H w m vs hg hs hr) fun _ _ ⟨x, m', σ', a, b, c, d⟩ => ⟨x, m', σ', a, b, c, hk _ _ d⟩
inductive AX where
 | normal
 | exit (id:Nat)
 | ret
 | pan (r:AV)
def xRep (w:World) (O:Nat→Prop) (m:Ids):AX→Exit→Prop
 | .normal,.normal=>True
 | .exit i,.exit j=>i=j
 | .ret,.ret=>True
 | .pan r,.panic c=>∃ v,c=[{ v:=v,recovered:=false }]∧rep w O m r v
 | _,_=>False
abbrev Env:=List AV
abbrev Post:=AX→Env→zaa→Prop
def zc9:Value→AV
 | .agg cs=>.agg (cs.toList.map .lit)
 | v=>.lit v
def zaN [Globs] (env:Env):Operand→AV
 | .tmp t=>(env[t]?).getD .bot
 | .const v=>zc9 v
 | .global g=>match Globs.tab g with
  | some cs=>.rp (cs.map .lit)
  | none=>.bot
 | .func f=>.fn (.func f) [] []
def aput (env:Env) (d:Option Tmp) (v:AV):Env :=
 match d with
 | some d=>env.set d v
 | none=>env
def AV.cells:AV→List AV
 | .agg l=>l
 | v=>[v]
def AV.one:AV→Bool
 | .lit v=>v.oneCell'
 | .bot=>false
 | .agg _=>false
 | .tup _=>false
 | _=>true
def rd (σ:zaa) (id:Nat):Option (List AV) :=
 match σ[id]? with
 | some (.rw cs)=>some cs
 | some (.ro cs)=>some cs
 | some (.rt _ _ cs)=>some cs
 | some (.fz _ _ cs)=>some cs
 | _=>none
def asl (σ:zaa) (size:Nat):AV→Option (List AV × Nat)
 | .sl cs len=>if len * size≤cs.length then some (cs.take (len * size),len) else none
 | .ref id off len sz=>if sz=size then (rd σ id).bind fun cs=>if off+len * size≤cs.length then some ((cs.drop off).take (len * size),len) else none else none
 | .lit (.slice none 0 0)=>some ([],0)
 | _=>none
def za0 (cs:List AV) (off:Nat):List AV→List AV
 | []=>cs
 | v::r=>za0 (cs.set off v) (off+1) r
def zaE (l:List Value):List AV:=l.map .lit
def zbz (z:List Value) (n:Nat):List AV:=(List.range (n * z.length)).map fun j=>.lit (z.getD (j % z.length) undef)
def zcz:List AV→Option (List UInt8)
 | []=>some []
 | .lit (.int .u8 n)::r=>(zcz r).map (UInt8.ofNat n.toNat::·)
 | _=>none
def zeH (k:IntKind) (z:Int) (K:Value→Prop):Prop :=
 match k with
 | .i64=>(-9223372036854775808≤z∧z≤9223372036854775807)∧K (.int .i64 z)
 | k=>K (.int k (k.wrap z))
def cmpV (op:BinOp) (x y:Int):Option Bool :=
 match op with
 | .eql=>some (decide (x=y))
 | .neq=>some (!decide (x=y))
 | .lss=>some (decide (x < y))
 | .leq=>some (decide (x≤y))
 | .gtr=>some (decide (y < x))
 | .geq=>some (decide (y≤x))
 | _=>none
def zdT (op:BinOp) (k:IntKind) (x y:Int):Option Value :=
 let a:=BitVec.ofInt k.bits x
 let b:=BitVec.ofInt k.bits y
 match op with
 | .and=>some (.int k (k.wrap (a &&& b).toNat))
 | .or=>some (.int k (k.wrap (a ||| b).toNat))
 | .xor=>some (.int k (k.wrap (a ^^^ b).toNat))
 | .andNot=>some (.int k (k.wrap (a &&& ~~~b).toNat))
 | _=>none
def strV (op:BinOp) (x y:ByteArray) (K:Value→Prop):Prop :=
 match op with
 | .add=>x.size+y.size≤9223372036854775807∧K (.string (x++y))
 | .eql=>K (.bool (decide (x.data.toList=y.data.toList)))
 | .neq=>K (.bool (!decide (x.data.toList=y.data.toList)))
 | .lss=>K (.bool (Op.bytesLess x.data.toList y.data.toList))
 | .leq=>K (.bool (Op.bytesLess x.data.toList y.data.toList || decide (x.data.toList=y.data.toList)))
 | .gtr=>K (.bool (!(Op.bytesLess x.data.toList y.data.toList || decide (x.data.toList=y.data.toList))))
 | .geq=>K (.bool (!Op.bytesLess x.data.toList y.data.toList))
 | _=>False
theorem TyOK.run_isAgg {P:Program} {t:TypeId} {ti:TI} (h:TyOK P t ti) (w:World):(isAgg t).run P w=.ok ti.d.agg w:=by
 obtain⟨d,hd,hf⟩:=h.und
 unfold isAgg
 rw [Sem.run_bind,run_underlying hd]
 simp only [Result.andThen_ok]
 cases hti:ti.d <;> rw [hti] at hf <;> simp only [TD.fits] at hf
 case struct fs=>obtain⟨gs,rfl,_⟩:=hf;rfl
 case bld fs=>obtain⟨gs,rfl,_⟩:=hf;rfl
 case iface=>obtain⟨gs,rfl⟩:=hf;rfl
 case other=>cases d <;> first | rfl | exact hf.elim
 all_goals (subst hf;rfl)
theorem TyOK.run_typeInfo {P:Program} {t:TypeId} {ti:TI} (h:TyOK P t ti) (w:World):∃ i,(typeInfo t).run P w=.ok i w∧i.size=ti.size∧i.bytes=ti.bytes∧∃ z,i.zero=some z∧z.cells.toList=ti.zero:=by
 obtain⟨i,hi,h1⟩:=h.info
 exact⟨i,by simp [typeInfo,hi],h1⟩
theorem TyOK.run_sizeOf {P:Program} {t:TypeId} {ti:TI} (h:TyOK P t ti) (w:World):(sizeOf t).run P w=.ok ti.size w:=by
 obtain⟨i,hi,h1,_⟩:=h.run_typeInfo w
 simp [sizeOf,hi,h1]
theorem TyOK.run_zero {P:Program} {t:TypeId} {ti:TI} (h:TyOK P t ti) (w:World):∃ z,(zeroValue t).run P w=.ok z w∧z.cells.toList=ti.zero:=by
 obtain⟨i,hi,_,_,z,hz,hc⟩:=h.run_typeInfo w
 exact⟨z,by simp [zeroValue,hi,hz],hc⟩
theorem forIn_all {P:Program} (f:Nat→Sem Bool) (b:Nat→Bool):∀ (l:List Nat) (w:World),(∀ i w,i∈l→(f i).run P w=.ok (b i) w) →
 (forIn l ((none,()):Option Bool × Unit) (fun i _=>do if (!(← f i))=true then pure (ForInStep.done (some false,())) else pure (ForInStep.yield (none,()))):Sem (Option Bool × Unit)).run P w=.ok (if l.all b then none else some false,()) w
 | [],w,_=>by simp
 | i::l,w,hf=>by
  rw [List.forIn_cons]
  simp only [Sem.run_bind,hf i _ (by simp),Result.andThen_ok]
  cases hb:b i
  ·simp [hb]
  ·simp only [Bool.not_true,Bool.false_eq_true,if_false,Sem.run_pure,Result.andThen_ok,List.all_cons,hb,Bool.true_and]
   exact forIn_all f b l w fun i w hi=>hf i w (List.mem_cons_of_mem _ hi)
theorem forIn_rng {P:Program} (f:Nat→Sem Bool) (b:Nat→Bool) (len:Nat) (hf:∀ i w,i < len→(f i).run P w=.ok (b i) w) (w:World) :
 (forIn [:len] ((none,()):Option Bool × Unit) (fun i _=>do if (!(← f i))=true then pure (ForInStep.done (some false,())) else pure (ForInStep.yield (none,()))):Sem (Option Bool × Unit)).run P w=.ok (if (List.range len).all b then none else some false,()) w:=by
 rw [Std.Legacy.Range.forIn_eq_forIn_range']
 simp only [Std.Legacy.Range.size]
 rw [show (len - 0+1 - 1) / 1=len by simp,← List.range_eq_range']
 exact forIn_all f b _ w fun i w hi=>hf i w (by simpa using hi)
theorem zgp {P:Program} {t e:TypeId} {len:Nat} (hd:P.underlying t=some (.array len e)) (sz:Nat) (hs:∀ w,(sizeOf e).run P w=.ok sz w) (n:Nat) (xs ys:Array Value) (b:Nat→Bool) (hb:∀ i w,i < len→(do Op.equalIn n e (← part e xs (i * sz)) (← part e ys (i * sz)):Sem Bool).run P w=.ok (b i) w) (w:World):(Op.equalIn (n+1) t (.agg xs) (.agg ys)).run P w=.ok ((List.range len).all b) w:=by
 have:=forIn_rng (P:=P) _ b len hb w
 unfold Op.equalIn
 simp only [Sem.run_bind,run_underlying hd,Result.andThen_ok,Sem.run_pure,hs]
 simp only [bind_assoc] at this
 rw [this]
 cases (List.range len).all b <;> rfl
theorem ziD {P:Program} (body:Field→Option Bool × Unit→Sem (ForInStep (Option Bool × Unit))) (b:Field→Bool):∀ (l:List Field) (w:World),(∀ f w s,f∈l→(body f s).run P w=.ok (if b f then .yield (none,()) else .done (some false,())) w) →
 (forIn l ((none,()):Option Bool × Unit) body:Sem (Option Bool × Unit)).run P w=.ok (if l.all b then none else some false,()) w
 | [],w,_=>by simp
 | f::l,w,hf=>by
  rw [List.forIn_cons]
  simp only [Sem.run_bind,hf f _ _ (List.mem_cons_self),Result.andThen_ok]
  cases hb:b f
  ·simp [hb]
  ·simp only [if_true,List.all_cons,hb,Bool.true_and]
   exact ziD body b l w fun f w s hi=>hf f w s (List.mem_cons_of_mem _ hi)
theorem zfS {P : Program} {t : TypeId} {gs : Array Field} (hd : P.underlying t = some (.struct gs)) (hst : P.stoodInHeld t = false) (hn : ∀ g ∈ gs.toList, (g.name != "_") = true) (n : Nat) (xs ys : Array Value) (b : Field → Bool)
  (hb:∀ g w,g∈gs.toList→(do Op.equalIn n g.type (← part g.type xs g.offset) (← part g.type ys g.offset):Sem Bool).run P w=.ok (b g) w) (w:World):(Op.equalIn (n+1) t (.agg xs) (.agg ys)).run P w=.ok (gs.toList.all b) w:=by
 unfold Op.equalIn
 simp only [Sem.run_bind,run_underlying hd,Result.andThen_ok,run_program,hst,Bool.false_eq_true,if_false]
 rw [← Array.forIn_toList]
 rw [ziD (P:=P) (b:=b)]
 ·cases gs.toList.all b <;> rfl
 ·intro f w s hf
  have h1:=hb f w hf
  have h2:=hn f hf
  simp only [bne_iff_ne,ne_eq] at h2
  simp only [h2,not_false_eq_true,if_true,ne_eq]
  simp only [Sem.run_bind] at h1 ⊢
  revert h1
  generalize (part f.type xs f.offset).run P w=r
  cases r with
  | halt x w'=>intro h1;cases h1
  | ok x w1 =>
   simp only [Result.andThen_ok]
   generalize (part f.type ys f.offset).run P w1=r
   cases r with
   | halt x w'=>intro h1;cases h1
   | ok y w2 =>
    simp only [Result.andThen_ok]
    intro h1
    simp only [h1,Result.andThen_ok]
    cases b f <;> simp
def szOf (T:Tab) (t:TypeId):Nat:=((T t).map (·.size)).getD 0
def ziA (T:Tab):List (TypeId × Nat)→Nat→Option Nat
 | [],o=>some o
 | f::r,o=>if f.2=o then ziA T r (o+szOf T f.1) else none
theorem laidF_eq {α:Type} {T:Tab}:∀ (fs:List (TypeId × Nat)) (o n:Nat) (xs ys:List α),ziA T fs o=some n→xs.length=n→ys.length=n →
  ((∀ f∈fs,(xs.drop f.2).take (szOf T f.1)=(ys.drop f.2).take (szOf T f.1)) ↔ xs.drop o=ys.drop o)
 | [],o,n,xs,ys,h,hx,hy=>by
  simp only [ziA,Option.some.injEq] at h
  rw [List.drop_eq_nil_of_le (by omega),List.drop_eq_nil_of_le (by omega)]
  simp
 | f::r,o,n,xs,ys,h,hx,hy=>by
  simp only [ziA] at h
  split at h
  ·rename_i ho
   subst ho
   have ih:=laidF_eq r _ n xs ys h hx hy
   simp only [List.mem_cons,forall_eq_or_imp]
   rw [ih]
   have e:∀ l:List α,l.drop f.2=(l.drop f.2).take (szOf T f.1)++l.drop (f.2+szOf T f.1):=fun l=>by
    rw [← List.drop_drop,List.take_append_drop]
   constructor
   ·rintro⟨h1,h2⟩
    rw [e xs,e ys,h1,h2]
   ·intro h
    refine⟨by rw [h],?_⟩
    rw [← List.drop_drop,← List.drop_drop,h]
  ·cases h
theorem laidF_le {T:Tab}:∀ (fs:List (TypeId × Nat)) (o n:Nat),ziA T fs o=some n→o≤n∧∀ f∈fs,f.2+szOf T f.1≤n
 | [],o,n,h=>by
  simp only [ziA,Option.some.injEq] at h
  exact⟨by omega,by simp⟩
 | f::r,o,n,h=>by
  simp only [ziA] at h
  split at h
  ·rename_i ho
   obtain⟨h1,h2⟩:=laidF_le r _ n h
   refine⟨by omega,fun g hg=>?_⟩
   rcases List.mem_cons.1 hg with rfl | hg
   ·omega
   ·exact h2 g hg
  ·cases h
def scB:TD→Value→Bool
 | .int k,.int k' _=>decide (k=k')
 | .bool,.bool _=>true
 | .str,.string _=>true
 | _,_=>false
def fitE (T:Tab):Nat→TypeId→List Value→Prop
 | 0,_,_=>False
 | d+1,t,l=>match T t with
  | none=>False
  | some ti=>match ti.d with
   | .array n e=>match T e with
    | none=>False
    | some te=>0 < n∧l.length=n * te.size∧∀ i,i < n→fitE T d e ((l.drop (i * te.size)).take te.size)
   | .struct fs=>ti.eqs=true∧l.length=ti.size∧ziA T fs 0=some ti.size∧∀ f∈fs,(∃ tf,T f.1=some tf)∧fitE T d f.1 ((l.drop f.2).take (szOf T f.1))
   | d'=>∃ v,l=[v]∧scB d' v=true
def vOf (ti:TI) (l:List Value):Value:=if ti.d.agg then .agg l.toArray else l.headD undef
theorem zdg {T:Tab} {d:Nat} {t:TypeId} {ti:TI} {l:List Value} (ht:T t=some ti) (h:fitE T (d+1) t l) :
  (∃ n e te,ti.d=.array n e∧T e=some te∧0 < n∧l.length=n * te.size∧∀ i,i < n→fitE T d e ((l.drop (i * te.size)).take te.size))∨(∃ fs,ti.d=.struct fs∧ti.eqs=true∧l.length=ti.size∧ziA T fs 0=some ti.size∧∀ f∈fs,(∃ tf,T f.1=some tf)∧fitE T d f.1 ((l.drop f.2).take (szOf T f.1)))∨(∃ v,l=[v]∧scB ti.d v=true):=by
 simp only [fitE,ht] at h
 split at h
 ·rename_i n e hd
  split at h
  ·exact h.elim
  ·rename_i te hte
   exact .inl ⟨n,e,te,hd,hte,h⟩
 ·rename_i fs hd
  exact .inr (.inl ⟨fs,hd,h⟩)
 ·exact .inr (.inr h)
theorem chunks_eq {α:Type} (sz:Nat):∀ (n:Nat) (xs ys:List α),xs.length=n * sz→ys.length=n * sz→((∀ i,i < n→(xs.drop (i * sz)).take sz=(ys.drop (i * sz)).take sz) ↔ xs=ys)
 | 0,xs,ys,hx,hy=>by
  simp only [Nat.zero_mul,List.length_eq_zero_iff] at hx hy
  subst hx hy
  simp
 | n+1,xs,ys,hx,hy=>by
  refine⟨fun h=>?_,fun h=>by subst h;exact fun _ _=>rfl⟩
  rw [Nat.succ_mul] at hx hy
  have h0:=h 0 (by omega)
  simp only [Nat.zero_mul,List.drop_zero] at h0
  have h1:=(chunks_eq sz n (xs.drop sz) (ys.drop sz) (by simp;omega) (by simp;omega)).1 fun i hi=>by
   have:=h (i+1) (by omega)
   simp only [List.drop_drop]
   rw [Nat.succ_mul,Nat.add_comm] at this
   exact this
  rw [← List.take_append_drop sz xs,← List.take_append_drop sz ys,h0,h1]
theorem zdl {P:Program} {t:TypeId} {ti:TI} (ty:TyOK P t ti) (hsz:ti.d.agg=false→ti.size=1) (l:List Value) (off:Nat) (h:off+ti.size≤l.length) (hp:ti.d.agg=false→off < l.length) (w:World) :
  (part t l.toArray off).run P w=.ok (vOf ti ((l.drop off).take ti.size)) w:=by
 unfold part vOf
 rw [Sem.run_bind,ty.run_isAgg]
 simp only [Result.andThen_ok]
 cases hagg:ti.d.agg
 ·simp only [Bool.false_eq_true,if_false]
  have hlt:=hp hagg
  simp only [hsz hagg,List.getElem?_toArray,List.getElem?_eq_getElem hlt,Sem.run_pure]
  rw [List.drop_eq_getElem_cons hlt]
  rfl
 ·simp only [if_true]
  rw [Sem.run_bind,ty.run_sizeOf]
  simp only [Result.andThen_ok,Sem.run_pure]
  congr 2
  apply Array.ext'
  simp [List.extract_toArray,List.extract_eq_take_drop]
theorem zfT {P:Program} {T:Tab} (hT:zaD P T) {d:Nat} {t:TypeId} {ti:TI} {l:List Value} (ht:T t=some ti) (h:fitE T d t l):ti.d.agg=false→l.length=1:=by
 cases d with
 | zero=>exact h.elim
 | succ d =>
  intro ha
  rcases zdg ht h with ⟨n,e,te,h1,_⟩ | ⟨fs,h1,_⟩ | ⟨v,rfl,_⟩
  ·rw [h1] at ha;cases ha
  ·rw [h1] at ha;cases ha
  ·rfl
theorem zel {P:Program} {T:Tab} (hT:zaD P T):∀ (d n:Nat) (t:TypeId) (ti:TI) (xs ys:List Value),T t=some ti→fitE T d t xs→fitE T d t ys→d≤n →
  ∃ b:Bool,(b=true ↔ xs=ys)∧∀ w,(Op.equalIn n t (vOf ti xs) (vOf ti ys)).run P w=.ok b w
 | 0,_,_,_,_,_,_,h,_,_=>h.elim
 | d+1,0,_,_,_,_,_,_,_,h=>by omega
 | d+1,n+1,t,ti,xs,ys,ht,hx,hy,hn=>by
  obtain⟨ds,hd,hf⟩:=(hT t ti ht).und
  rcases zdg ht hx with ⟨k,e,te,h1,h2,h0,h3,h4⟩ | ⟨fs,h1,h2,h3,h0,h4⟩ | ⟨v,rfl,h1⟩
  ·rcases zdg ht hy with ⟨k',e',te',g1,g2,g0,g3,g4⟩ | ⟨fs',g1,_⟩ | ⟨v,rfl,g1⟩
   ·rw [h1] at g1
    cases g1
    rw [h2] at g2
    cases g2
    rw [h1] at hf
    simp only [TD.fits] at hf
    subst hf
    have ty:=hT e te h2
    have each:∀ i,i < k→∃ b:Bool,(b=true ↔ (xs.drop (i * te.size)).take te.size=(ys.drop (i * te.size)).take te.size)∧∀ w,(Op.equalIn n e (vOf te ((xs.drop (i * te.size)).take te.size)) (vOf te ((ys.drop (i * te.size)).take te.size))).run P w=.ok b w :=
     fun i hi=>zel hT d n e te _ _ h2 (h4 i hi) (g4 i hi) (by omega)
    have ib:∀ i,i < k→i * te.size+te.size≤k * te.size:=fun i hi=>by
     rw [← Nat.succ_mul];exact Nat.mul_le_mul_right _ hi
    have s1:∀ i,i < k→te.d.agg=false→te.size=1:=fun i hi ha=>by
     have:=zfT hT h2 (h4 i hi) ha
     have hb:=ib i hi
     simp only [List.length_take,List.length_drop] at this
     rw [h3] at this
     omega
    let bs:Nat→Bool:=fun i=>if h:i < k then (each i h).choose else true
    refine⟨(List.range k).all bs,?_,fun w=>?_⟩
    ·rw [List.all_eq_true]
     simp only [List.mem_range]
     rw [← chunks_eq te.size k xs ys h3 g3]
     refine⟨fun h i hi=>?_,fun h i hi=>?_⟩
     ·have:=h i hi
      simp only [bs,hi,dif_pos] at this
      exact(each i hi).choose_spec.1.1 this
     ·simp only [bs,hi,dif_pos]
      exact(each i hi).choose_spec.1.2 (h i hi)
    ·have hv:∀ l:List Value,vOf ti l=.agg l.toArray:=fun l=>by simp [vOf,h1,TD.agg]
     rw [hv,hv]
     refine zgp hd te.size (fun w=>ty.run_sizeOf w) n _ _ bs (fun i w hi=>?_) w
     have hb:=ib i hi
     rw [Sem.run_bind,zdl ty (s1 i hi) _ _ (by omega) (fun ha=>by have:=s1 i hi ha;omega)]
     simp only [Result.andThen_ok]
     rw [Sem.run_bind,zdl ty (s1 i hi) _ _ (by omega) (fun ha=>by have:=s1 i hi ha;omega)]
     simp only [Result.andThen_ok]
     rw [(each i hi).choose_spec.2 w]
     simp only [bs,hi,dif_pos]
   ·rw [h1] at g1;cases g1
   ·rw [h1] at g1;cases v <;> cases g1
  ·rcases zdg ht hy with ⟨k',e',te',g1,g2,g0,g3,g4⟩ | ⟨fs',g1,g2,g3,g0,g4⟩ | ⟨v,rfl,g1⟩
   ·rw [h1] at g1;cases g1
   ·rw [h1] at g1
    cases g1
    rw [h1] at hf
    simp only [TD.fits] at hf
    obtain⟨gs,rfl,hgs⟩:=hf
    have ty:=hT t ti ht
    obtain⟨hst,hnm⟩:=ty.eqs h2
    have hmem:∀ g∈gs.toList,(g.type,g.offset)∈fs:=fun g hg=>by rw [← hgs];exact List.mem_map.2 ⟨g,hg,rfl⟩
    have hle:=(laidF_le fs 0 _ h0).2
    have each:∀ g∈gs.toList,∃ b:Bool,(b=true ↔ (xs.drop g.offset).take (szOf T g.type)=(ys.drop g.offset).take (szOf T g.type))∧∀ w,(do Op.equalIn n g.type (← part g.type xs.toArray g.offset) (← part g.type ys.toArray g.offset):Sem Bool).run P w=.ok b w:=by
     intro g hg
     have hm:=hmem g hg
     obtain⟨⟨tf,htf⟩,h5⟩:=h4 _ hm
     obtain⟨_,g5⟩:=g4 _ hm
     have hsz:szOf T g.type=tf.size:=by simp [szOf,htf]
     simp only [hsz] at h5 g5 ⊢
     obtain⟨b,hb,hr⟩:=zel hT d n _ tf _ _ htf h5 g5 (by omega)
     refine⟨b,hb,fun w=>?_⟩
     have hb':=hle _ hm
     simp only [hsz] at hb'
     have s1:tf.d.agg=false→tf.size=1:=fun ha=>by
      have h6:=zfT hT htf h5 ha
      have h7:g.offset≤xs.length:=by omega
      simp only [List.length_take,List.length_drop] at h6
      omega
     rw [Sem.run_bind,zdl (hT _ tf htf) s1 _ _ (by omega) (fun ha=>by have:=s1 ha;omega)]
     simp only [Result.andThen_ok]
     rw [Sem.run_bind,zdl (hT _ tf htf) s1 _ _ (by omega) (fun ha=>by have:=s1 ha;omega)]
     simp only [Result.andThen_ok]
     exact hr w
    classical
    let bs:Field→Bool:=fun g=>if h:g∈gs.toList then (each g h).choose else true
    have hv:∀ l:List Value,vOf ti l=.agg l.toArray:=fun l=>by simp [vOf,h1,TD.agg]
    refine⟨gs.toList.all bs,?_,fun w=>?_⟩
    ·have e:=laidF_eq (T:=T) fs 0 _ xs ys h0 h3 g3
     simp only [List.drop_zero] at e
     rw [← e,List.all_eq_true]
     constructor
     ·intro h f hf
      rw [← hgs] at hf
      obtain⟨g,hg,rfl⟩:=List.mem_map.1 hf
      have:=h g hg
      simp only [bs,hg,dif_pos] at this
      exact(each g hg).choose_spec.1.1 this
     ·intro h g hg
      simp only [bs,hg,dif_pos]
      exact(each g hg).choose_spec.1.2 (h _ (hmem g hg))
    ·rw [hv,hv]
     refine zfS hd hst (hnm gs hd) n _ _ bs (fun g w hg=>?_) w
     simp only [bs,hg,dif_pos]
     exact(each g hg).choose_spec.2 w
   ·rw [h1] at g1;cases v <;> cases g1
  ·rcases zdg ht hy with ⟨k',e',te',g1,g2,g0,g3,g4⟩ | ⟨fs',g1,_⟩ | ⟨u,rfl,g1⟩
   ·rw [g1] at h1;cases v <;> cases h1
   ·rw [g1] at h1;cases v <;> cases h1
   ·cases hti:ti.d <;> rw [hti] at h1 g1 hf <;> cases v <;> simp only [scB,Bool.false_eq_true,decide_eq_true_eq] at h1 <;> cases u <;> simp only [scB,Bool.false_eq_true,decide_eq_true_eq] at g1 <;> simp only [TD.fits] at hf <;> subst hf
    all_goals simp only [vOf,hti,TD.agg,Bool.false_eq_true,if_false,List.headD_cons]
    case bool.bool a b =>
     exact⟨a == b,by simp,fun w=>by unfold Op.equalIn;simp only [Sem.run_bind,run_underlying hd,Result.andThen_ok,Sem.run_pure]⟩
    case int.int k1 k2 a k3 b =>
     subst h1 g1
     exact⟨a == b,by simp,fun w=>by unfold Op.equalIn;simp only [Sem.run_bind,run_underlying hd,Result.andThen_ok,Sem.run_pure,if_true]⟩
    case inr.inr.str.string.string a b =>
     exact⟨a == b,by obtain⟨a⟩:=a;obtain⟨b⟩:=b;show (a == b)=true ↔ _;simp,fun w=>by unfold Op.equalIn;simp only [Sem.run_bind,run_underlying hd,Result.andThen_ok,Sem.run_pure]⟩
theorem zgq {P:Program} {T:Tab} (hT:zaD P T):∀ (d n:Nat) (t:TypeId) (xs:List Value),fitE T d t xs→d≤n→P.eqGuardType n t=false
 | 0,_,_,_,h,_=>h.elim
 | d+1,0,_,_,_,h=>by omega
 | d+1,n+1,t,xs,h,hn=>by
  have ⟨ti,ht⟩:∃ ti,T t=some ti:=by
   simp only [fitE] at h
   cases hT':T t with
   | none=>rw [hT'] at h;exact h.elim
   | some ti=>exact⟨ti,rfl⟩
  obtain⟨ds,hd,hf⟩:=(hT t ti ht).und
  rcases zdg ht h with ⟨k,e,te,h1,h2,h0,h3,h4⟩ | ⟨fs,h1,h2,h3,h0,h4⟩ | ⟨v,rfl,h1⟩
  ·rw [h1] at hf
   simp only [TD.fits] at hf
   subst hf
   simp only [Program.eqGuardType,hd]
   exact zgq hT d n e _ (h4 0 h0) (by omega)
  ·rw [h1] at hf
   simp only [TD.fits] at hf
   obtain⟨gs,rfl,hgs⟩:=hf
   simp only [Program.eqGuardType,hd]
   rw [Array.any_eq_false']
   intro g hg
   have hm:(g.type,g.offset)∈fs:=by rw [← hgs];exact List.mem_map.2 ⟨g,by simpa using hg,rfl⟩
   rw [zgq hT d n g.type _ (h4 _ hm).2 (by omega)]
   simp
  ·cases hti:ti.d <;> rw [hti] at h1 hf <;> cases v <;> simp only [scB,Bool.false_eq_true] at h1 <;> simp only [TD.fits] at hf <;> subst hf <;> simp [Program.eqGuardType,hd]
theorem zem {w:World} {O:Nat→Prop} {m:Ids}:∀ {xs vs:List Value},reps w O m (zaE xs) vs→vs=xs
 | [],_,h=>by simpa [zaE,reps] using h
 | x::xs,vs,h=>by
  simp only [zaE,List.map_cons,reps] at h
  obtain⟨v,vs',rfl,h1,h2⟩:=h
  simp only [rep] at h1
  rw [h1,zem (xs:=xs) h2]
def eqP (T:Tab) (t:TypeId) (l r:List AV) (q:Nat × List Value × List Value × Bool):Prop :=
 l=zaE q.2.1∧r=zaE q.2.2.1∧q.1≤100∧(∃ ti,T t=some ti∧ti.d.agg=true)∧fitE T q.1 t q.2.1∧fitE T q.1 t q.2.2.1∧(q.2.2.2=true ↔ q.2.1=q.2.2.1)
def wbin (T:Tab) (op:BinOp) (t:TypeId) (x y:AV) (K:AV→Prop):Prop :=
 match x,y with
 | .lit (.int k a),.lit (.int k' b) =>
  match op with
  | .shl=>0≤b∧K (.lit (.int k (k.wrap (a * 2 ^ (min b.toNat k.bits)))))
  | .shr=>0≤b∧K (.lit (.int k (a.fdiv (2 ^ (min b.toNat k.bits)))))
  | .add=>k=k'∧zeH k (a+b) (fun v=>K (.lit v))
  | .sub=>k=k'∧zeH k (a - b) (fun v=>K (.lit v))
  | .mul=>k=k'∧zeH k (a * b) (fun v=>K (.lit v))
  | .quo=>k=k'∧b≠0∧zeH k (a.tdiv b) (fun v=>K (.lit v))
  | .rem=>k=k'∧b≠0∧K (.lit (.int k (a.tmod b)))
  | op=>k=k'∧match zdT op k a b with
   | some v=>K (.lit v)
   | none=>match cmpV op a b with
    | some c=>K (.lit (.bool c))
    | none=>False
 | .lit (.string a),.lit (.string b)=>strV op a b (fun v=>K (.lit v))
 | .lit (.bool a),.lit (.bool b) =>
  match op with
  | .eql=>(∃ ti,T t=some ti∧ti.d=.bool)∧K (.lit (.bool (a == b)))
  | .neq=>(∃ ti,T t=some ti∧ti.d=.bool)∧K (.lit (.bool (!(a == b))))
  | _=>False
 | .ptr _ _,.lit (.pointer none) =>
  match op with
  | .eql=>(∃ ti,T t=some ti∧∃ e,ti.d=.ptr e)∧K (.lit (.bool false))
  | .neq=>(∃ ti,T t=some ti∧∃ e,ti.d=.ptr e)∧K (.lit (.bool true))
  | _=>False
 | .agg l,.agg r =>
  match op with
  | .eql=>∃ q:Nat × List Value × List Value × Bool,eqP T t l r q∧K (.lit (.bool q.2.2.2))
  | .neq=>∃ q:Nat × List Value × List Value × Bool,eqP T t l r q∧K (.lit (.bool (!q.2.2.2)))
  | _=>False
 | _,_=>False
theorem zdm {k:IntKind} {z:Int} {K:Value→Prop} (h:zeH k z K):K (.int k (k.wrap z)):=by
 cases k <;> simp only [zeH] at h <;> first | exact h | skip
 obtain⟨⟨h1,h2⟩,h3⟩:=h
 rwa [show IntKind.i64.wrap z=z by
  simp only [IntKind.wrap,IntKind.bits,IntKind.signed]
  simp
  split <;> omega]
theorem zdn {P:Program} {op:BinOp} {t:TypeId} {x y:Operand} {a b:Value} (w:World) (h:(∀ c,a≠.agg c)∧a≠.nilIface):(eqGuard op t x y a b).run P w=.ok () w:=by
 unfold eqGuard
 obtain⟨h1,h2⟩:=h
 cases op <;> simp <;> cases a <;> first | rfl | (exact absurd rfl (h1 _)) | (exact absurd rfl h2) | skip
theorem run_equalIn_bool {P:Program} {t:TypeId} (hd:P.underlying t=some .bool) (n:Nat) (a b:Bool) (w:World):(Op.equalIn (n+1) t (.bool a) (.bool b)).run P w=.ok (a == b) w:=by
 unfold Op.equalIn
 simp only [Sem.run_bind,run_underlying hd,Result.andThen_ok,Sem.run_pure]
theorem zfp {P:Program} {t:TypeId} (hd:P.underlying t=some .bool) (a b:Bool) (w:World):(Op.equal t (.bool a) (.bool b)).run P w=.ok (a == b) w :=
 run_equalIn_bool hd 9999 a b w
theorem binOp_bool_eql (t:TypeId) (a b:Bool):binOp .eql t (.bool a) (.bool b)=(do pure (.bool (← Op.equal t (.bool a) (.bool b)))):=rfl
theorem binOp_bool_neq (t:TypeId) (a b:Bool):binOp .neq t (.bool a) (.bool b)=(do pure (.bool (!(← Op.equal t (.bool a) (.bool b))))):=rfl
theorem wbin_sound {P:Program} {T:Tab} (hT:zaD P T) {w:World} {O:Nat→Prop} {m:Ids} {op:BinOp} {t:TypeId} {x y:AV} {a b:Value} {ox oy:Operand} {K:AV→Prop} (h:wbin T op t x y K) (hx:rep w O m x a) (hy:rep w O m y b) :
  ∃ v r,(do eqGuard op t ox oy a b;binOp op t a b:Sem Value).run P w=.ok v w∧rep w O m r v∧K r:=by
 have fin:∀ (a b v:Value),((∀ c,a≠.agg c)∧a≠.nilIface)→(binOp op t a b).run P w=.ok v w→K (.lit v)→∃ v r,(do eqGuard op t ox oy a b;binOp op t a b:Sem Value).run P w=.ok v w∧rep w O m r v∧K r:=by
  intro a b v hg hr hk
  refine⟨v,.lit v,?_,by simp [rep],hk⟩
  simp [zdn w hg,hr]
 unfold wbin at h
 split at h
 ·rename_i k n k' n'
  simp only [rep] at hx hy
  subst hx hy
  have hg:(∀ c,Value.int k n≠.agg c)∧Value.int k n≠.nilIface:=by simp
  split at h
  ·obtain⟨h1,h2⟩:=h
   exact fin _ _ _ hg (by simp [binOp,Op.shift,Int.not_lt.2 h1]) h2
  ·obtain⟨h1,h2⟩:=h
   exact fin _ _ _ hg (by simp [binOp,Op.shift,Int.not_lt.2 h1]) h2
  ·obtain⟨rfl,h2⟩:=h
   exact fin _ _ _ hg (by simp [binOp,Op.intArith]) (zdm h2)
  ·obtain⟨rfl,h2⟩:=h
   exact fin _ _ _ hg (by simp [binOp,Op.intArith]) (zdm h2)
  ·obtain⟨rfl,h2⟩:=h
   exact fin _ _ _ hg (by simp [binOp,Op.intArith]) (zdm h2)
  ·obtain⟨rfl,h1,h2⟩:=h
   exact fin _ _ _ hg (by simp [binOp,Op.intDiv,h1]) (zdm h2)
  ·obtain⟨rfl,h1,h2⟩:=h
   exact fin _ _ _ hg (by simp [binOp,Op.intDiv,h1]) h2
  ·rename_i o1 o2 o3 o4 o5 o6 o7
   obtain⟨rfl,h2⟩:=h
   cases op <;> first | (exact absurd rfl o1) | (exact absurd rfl o2) | (exact absurd rfl o3) | (exact absurd rfl o4) | (exact absurd rfl o5) | (exact absurd rfl o6) | (exact absurd rfl o7) | skip
   all_goals
    simp only [zdT,cmpV] at h2
    refine fin _ _ _ hg ?_ h2
    simp [binOp,Op.intBits,Op.intCmp]
   all_goals (try rfl)
   all_goals (first | (simp only [bne,Int.instBEq_eq] ;rfl) | skip)
 ·rename_i s s'
  simp only [rep] at hx hy
  subst hx hy
  have hg:(∀ c,Value.string s≠.agg c)∧Value.string s≠.nilIface:=by simp
  have eqd:∀ (a b:List UInt8),(a == b)=decide (a=b):=by
   intro a b
   rw [Bool.eq_iff_iff]
   simp
  cases op <;> simp only [strV] at h <;> first | exact h.elim | skip
  case add =>
   obtain⟨h1,h2⟩:=h
   exact fin _ _ _ hg (by simp [binOp,Op.stringOp,IntKind.max,IntKind.signed,IntKind.bits];omega) h2
  all_goals
   refine fin _ _ _ hg ?_ h
   simp only [binOp,Op.stringOp,ByteArray.toList_eq,eqd]
   rfl
 ·rename_i p q
  simp only [rep] at hx hy
  subst hx hy
  have hg:(∀ c,Value.bool p≠.agg c)∧Value.bool p≠.nilIface:=by simp
  split at h
  ·obtain⟨⟨ti,h1,h2⟩,h3⟩:=h
   obtain⟨d,hd,hf⟩:=(hT t ti h1).und
   rw [h2] at hf
   simp only [TD.fits] at hf
   subst hf
   exact fin _ _ _ hg (by rw [binOp_bool_eql,Sem.run_bind,zfp hd];rfl) h3
  ·obtain⟨⟨ti,h1,h2⟩,h3⟩:=h
   obtain⟨d,hd,hf⟩:=(hT t ti h1).und
   rw [h2] at hf
   simp only [TD.fits] at hf
   subst hf
   exact fin _ _ _ hg (by rw [binOp_bool_neq,Sem.run_bind,zfp hd];rfl) h3
  ·exact h.elim
 ·simp only [rep] at hx hy
  subst hy
  obtain⟨g,rfl,_⟩:=hx
  have hg:∀ (p:Addr),(∀ c,Value.pointer (some p)≠.agg c)∧Value.pointer (some p)≠.nilIface:=by simp
  have eqf:∀ (p:Addr) (e:TypeId),P.underlying t=some (.pointer e)→(Op.equal t (.pointer (some p)) (.pointer none)).run P w=.ok false w:=by
   intro p e hd
   show (Op.equalIn (9999+1) t _ _).run P w=_
   unfold Op.equalIn
   simp only [Sem.run_bind,run_underlying hd,Result.andThen_ok,Sem.run_pure]
  split at h
  ·obtain⟨⟨ti,h1,e,h2⟩,h3⟩:=h
   obtain⟨d,hd,hf⟩:=(hT t ti h1).und
   rw [h2] at hf
   simp only [TD.fits] at hf
   subst hf
   refine fin _ _ _ (hg _) ?_ h3
   show (do pure (Value.bool (← Op.equal t _ _)):Sem Value).run P w=_
   rw [Sem.run_bind,eqf _ e hd]
   rfl
  ·obtain⟨⟨ti,h1,e,h2⟩,h3⟩:=h
   obtain⟨d,hd,hf⟩:=(hT t ti h1).und
   rw [h2] at hf
   simp only [TD.fits] at hf
   subst hf
   refine fin _ _ _ (hg _) ?_ h3
   show (do pure (Value.bool (!(← Op.equal t _ _))):Sem Value).run P w=_
   rw [Sem.run_bind,eqf _ e hd]
   rfl
  ·exact h.elim
 ·rename_i l r
  have main:∀ q,eqP T t l r q→∃ cx cy,a=.agg cx∧b=.agg cy∧(∀ w,(Op.equal t (.agg cx) (.agg cy)).run P w=.ok q.2.2.2 w)∧P.eqGuardType P.depth t=false:=by
   rintro⟨d,xs,ys,q⟩ ⟨h1,h2,h3,⟨ti,ht,ha⟩,h4,h5,h6⟩
   simp only at h1 h2 h3 h4 h5 h6
   subst h1 h2
   simp only [rep] at hx hy
   obtain⟨cx,rfl,hx⟩:=hx
   obtain⟨cy,rfl,hy⟩:=hy
   refine⟨cx,cy,rfl,rfl,fun w=>?_,zgq hT d _ t xs h4 (by simp only [Program.depth,Made.depth];omega)⟩
   obtain⟨b,hb,hr⟩:=zel hT d Op.maxDepth t ti xs ys ht h4 h5 (by simp only [Op.maxDepth];omega)
   have hv:∀ c:Array Value,vOf ti c.toList=.agg c:=fun c=>by simp [vOf,ha]
   rw [← zem hx,← zem hy,hv,hv] at hr
   show (Op.equalIn Op.maxDepth t _ _).run P w=_
   rw [hr w]
   congr 1
   rw [Bool.eq_iff_iff,hb,h6]
  split at h
  ·obtain⟨q,hq,hk⟩:=h
   obtain⟨cx,cy,rfl,rfl,he,hg⟩:=main q hq
   refine⟨.bool q.2.2.2,.lit (.bool q.2.2.2),?_,by simp only [rep],hk⟩
   have:(eqGuard .eql t ox oy (.agg cx) (.agg cy)).run P w=.ok () w:=by
    simp [eqGuard,hg]
   rw [Sem.run_bind,this]
   simp only [Result.andThen_ok]
   show (do pure (Value.bool (← Op.equal t _ _)):Sem Value).run P w=_
   rw [Sem.run_bind,he]
   rfl
  ·obtain⟨q,hq,hk⟩:=h
   obtain⟨cx,cy,rfl,rfl,he,hg⟩:=main q hq
   refine⟨.bool (!q.2.2.2),.lit (.bool (!q.2.2.2)),?_,by simp only [rep],hk⟩
   have:(eqGuard .neq t ox oy (.agg cx) (.agg cy)).run P w=.ok () w:=by
    simp [eqGuard,hg]
   rw [Sem.run_bind,this]
   simp only [Result.andThen_ok]
   show (do pure (Value.bool (!(← Op.equal t _ _))):Sem Value).run P w=_
   rw [Sem.run_bind,he]
   rfl
  ·exact h.elim
 ·exact h.elim
end Go.Eng
end

section
namespace Go.Eng
open Go
variable {H : Nat → Prop}
def VOK (H:Nat→Prop) (w:World) (m:Ids) (σ:zaa) (K Kp:AV→zaa→Prop):Result Value→Prop
 | .ok v w' => ∃ r m' σ', St H w' m' σ' ∧ Ext H w (own H m σ) m w' (own H m' σ') m' ∧ rep w' (own H m' σ') m' r v ∧ K r σ'
 | .halt (.panic v) w' => ∃ r m' σ', St H w' m' σ' ∧ Ext H w (own H m σ) m w' (own H m' σ') m' ∧ rep w' (own H m' σ') m' r v ∧ Kp r σ'
 | _=>False
theorem VOK.here {w:World} {m:Ids} {σ:zaa} {K Kp:AV→zaa→Prop} {r:AV} {v:Value} {x:Result Value} (hs:St H w m σ) (hx:x=.ok v w) (hr:rep w (own H m σ) m r v) (hk:K r σ):VOK H w m σ K Kp x:=by
 subst hx
 exact⟨r,m,σ,hs,Ext.refl _ _ _,hr,hk⟩
def wfin (ti:TI) (cs:List AV) (K:AV→Prop):Prop :=
 ti.size≤cs.length∧if ti.d.agg then K (.agg (cs.take ti.size)) else ti.size=1∧K ((cs[0]?).getD .bot)
def zen (T:Tab) (t:TypeId) (x:AV) (σ:zaa) (K:AV→Prop):Prop :=
 match T t with
 | none=>False
 | some ti =>
  match x with
  | .rp cs=>wfin ti cs K
  | .ptr id off=>match rd σ id with
   | some cs=>wfin ti (cs.drop off) K
   | none=>False
  | _=>False
theorem rd_at {w:World} {m:Ids} {σ:zaa} (hs:St H w m σ) {id:Nat} {cs:List AV} (h:rd σ id=some cs) (hne:cs≠[]):∃ g,m[id]?=some (some g)∧zaJ w (own H m σ) m g cs 0:=by
 unfold rd at h
 split at h
 ·rename_i c hc
  cases h
  obtain⟨mi,hm⟩:=hs.id hc
  rcases hs.blk _ _ _ hc hm with ⟨h1,_⟩ | ⟨g,c,e,_,_,h2⟩
  ·exact absurd h1 hne
  ·subst e;exact⟨g,hm,h2⟩
 ·rename_i c hc
  cases h
  obtain⟨mi,hm⟩:=hs.id hc
  rcases hs.blk _ _ _ hc hm with h1 | ⟨g,e,_,h2⟩
  ·exact absurd h1 hne
  ·subst e;exact⟨g,hm,h2⟩
 ·rename_i x e c hc
  cases h
  obtain⟨mi,hm⟩:=hs.id hc
  rcases hs.blk _ _ _ hc hm with ⟨_,h1,_⟩ | ⟨g,c,e,_,_,_,h2⟩
  ·exact absurd h1 hne
  ·subst e;exact⟨g,hm,h2⟩
 ·rename_i e k c hc
  cases h
  obtain⟨mi,hm⟩:=hs.id hc
  obtain⟨g,e,c',hi,_,_,_,h2⟩:=hs.blk _ _ _ hc hm
  subst e;exact⟨g,hm,h2⟩
 ·cases h
theorem zcZ {P:Program} {w:World} {O:Nat→Prop} {m:Ids} {b:Nat}:∀ (cs:List AV) (a:Addr) (i:Nat) (acc:Array Value),a.spot=none→a.block=b→zaJ w O m b cs (a.off+i) →
  ∃ vs:List Value,(loadCellsFrom a i cs.length acc).run P w=.ok (acc++vs.toArray) w∧reps w O m cs vs
 | [],a,i,acc,_,_,_=>⟨[],by simp [loadCellsFrom],by simp [reps]⟩
 | x::cs,a,i,acc,hs,hb,h=>by
  simp only [zaJ] at h
  obtain⟨⟨v,hv,hr⟩,h2⟩:=h
  have hadd:a.add i=⟨b,a.off+i,none⟩:=by
   obtain⟨ab,ao,asp⟩:=a
   simp only at hs hb
   subst hs hb
   unfold Addr.add
   split
   ·rename_i h0;subst h0;rfl
   ·rfl
  obtain⟨vs,h3,h4⟩:=zcZ (P:=P) cs a (i+1) (acc.push v) hs hb (by rwa [Nat.add_assoc] at h2)
  refine⟨v::vs,?_,by simp only [reps];exact⟨v,vs,rfl,hr,h4⟩⟩
  simp only [loadCellsFrom,List.length_cons]
  rw [Sem.run_bind,run_load,hadd,hv]
  simp only [Result.andThen_ok]
  rw [h3]
  simp
theorem zbF {P:Program} {w:World} {O:Nat→Prop} {m:Ids} {b off:Nat} (cs:List AV) (h:zaJ w O m b cs off) :
  ∃ vs:List Value,(loadCells ⟨b,off,none⟩ cs.length).run P w=.ok vs.toArray w∧reps w O m cs vs:=by
 obtain⟨vs,h1,h2⟩:=zcZ (P:=P) cs ⟨b,off,none⟩ 0 #[] rfl rfl h
 exact⟨vs,by simpa [loadCells] using h1,h2⟩
theorem zfs {P:Program} {T:Tab} (hT:zaD P T) {w:World} {m:Ids} {σ:zaa} (hs:St H w m σ) {t:TypeId} {x:AV} {a:Value} {K:AV→Prop} (h:zen T t x σ K) (hx:rep w (own H m σ) m x a) :
  ∃ v r,(Instr.loadAt t a).run P w=.ok v w∧rep w (own H m σ) m r v∧K r:=by
 unfold zen at h
 split at h
 ·exact h.elim
 ·rename_i ti hti
  have ty:=hT t ti hti
  have core:∀ (cs:List AV) (b off:Nat),a=.pointer (some ⟨b,off,none⟩)→zaJ w (own H m σ) m b cs off →
    wfin ti cs K →
    ∃ v r,(Instr.loadAt t a).run P w=.ok v w∧rep w (own H m σ) m r v∧K r:=by
   intro cs b off ha hat hk
   subst ha
   obtain⟨hle,hk⟩:=hk
   simp only [Instr.loadAt,Instr.sureAddr,loadVar]
   rw [Sem.run_bind]
   refine aQ14 ?_
   rw [Sem.run_bind,ty.run_isAgg]
   simp only [Result.andThen_ok]
   by_cases hagg:ti.d.agg=true
   ·simp only [hagg,if_true] at hk ⊢
    obtain⟨vs,h1,h2⟩:=zbF (P:=P) (cs.take ti.size) (zbu hat ti.size)
    rw [List.length_take,Nat.min_eq_left hle] at h1
    refine⟨.agg vs.toArray,_,?_,?_,hk⟩
    ·rw [Sem.run_bind,ty.run_sizeOf]
     simp only [Result.andThen_ok]
     rw [Sem.run_bind,h1]
     rfl
    ·simp only [rep];exact⟨vs.toArray,rfl,by simpa using h2⟩
   ·simp only [hagg,Bool.false_eq_true,if_false] at hk ⊢
    obtain⟨h1,hk⟩:=hk
    match cs,hle,hat,hk with
    | [],hle,_,_=>simp [h1] at hle
    | c::cs,_,hat,hk =>
     simp only [zaJ] at hat
     obtain⟨⟨v,hv,hr⟩,_⟩:=hat
     exact⟨v,c,by rw [run_load,hv],hr,by simpa using hk⟩
  cases x <;> simp only at h <;> first | exact h.elim | skip
  case rp cs =>
   simp only [rep] at hx
   obtain⟨b,off,ha,_,_,hat⟩:=hx
   exact core cs b off ha hat h
  case ptr id off =>
   split at h
   ·rename_i cs hcs
    simp only [rep] at hx
    obtain⟨g,ha,hm⟩:=hx
    by_cases hne:cs=[]
    ·rw [hne] at h
     exact core [] g off ha (by simp [zaJ]) (by simpa using h)
    ·obtain⟨g',hm',hat⟩:=rd_at hs hcs hne
     rw [hm] at hm'
     cases hm'
     have:=zbE hat off
     rw [Nat.zero_add] at this
     exact core _ g off ha this h
   ·exact h.elim
theorem zc0:∀ (vs cs:List AV) (off:Nat),(za0 cs off vs).length=cs.length
 | [],_,_=>rfl
 | v::vs,cs,off=>by simp [za0,zc0 vs]
theorem zhs:∀ (vs cs:List AV) (off:Nat),off+vs.length≤cs.length→∀ j,(za0 cs off vs)[j]?=if off≤j∧j < off+vs.length then vs[j - off]? else cs[j]?
 | [],cs,off,_,j=>by simp [za0];intro h1 h2;omega
 | v::vs,cs,off,h,j=>by
  simp only [List.length_cons] at h ⊢
  simp only [za0]
  rw [zhs vs (cs.set off v) (off+1) (by rw [List.length_set];omega) j]
  by_cases h1:off+1≤j∧j < off+1+vs.length
  ·rw [if_pos h1,if_pos (by omega),show j - off=(j - (off+1))+1 by omega,List.getElem?_cons_succ]
  ·rw [if_neg h1]
   by_cases h2:j=off
   ·rw [if_pos (by omega),h2,List.getElem?_set_self (by omega),Nat.sub_self,List.getElem?_cons_zero]
   ·rw [List.getElem?_set_ne (by omega),if_neg (by omega)]
theorem zbU {P:Program} {g off:Nat}:∀ (vs:List Value) (i:Nat) (w:World) (c:Array Value),Row w g c→off+i+vs.length≤c.size→(∀ v∈vs,v.oneCell'=true) →
  ∃ w' c',(storeCells ⟨g,off,none⟩ vs i).run P w=.ok () w'∧Row w' g c'∧c'.size=c.size∧w'.heap.size=w.heap.size∧(∀ b,b≠g→w'.heap[b]?=w.heap[b]?)∧w'.os=w.os∧w'.tape=w.tape∧w'.output=w.output ∧
   ∀ j,c'[j]?=if off+i≤j∧j < off+i+vs.length then vs[j - (off+i)]? else c[j]?
 | [],i,w,c,hr,_,_=>⟨w,c,by simp [storeCells],hr,rfl,rfl,fun _ _=>rfl,rfl,rfl,rfl,fun j=>by simp;intro h1 h2;omega⟩
 | v::vs,i,w,c,hr,hle,hone=>by
  simp only [List.length_cons] at hle
  have hadd:(⟨g,off,none⟩:Addr).add i=⟨g,off+i,none⟩:=by
   unfold Addr.add
   split
   ·rename_i h0;subst h0;rfl
   ·rfl
  have hcell:∃ u,w.cell? ⟨g,off+i,none⟩=some u:=by
   rw [hr.cell]
   exact⟨c[off+i],by rw [Array.getElem?_eq_getElem (by omega)]⟩
  obtain⟨u,hu⟩:=hcell
  obtain⟨w',c',h1,h2,h3,h4,h5,h6,h7,h8,h9⟩:=zbU (P:=P) (g:=g) (off:=off) vs (i+1) (w.setCell ⟨g,off+i,none⟩ v) (c.setIfInBounds (off+i) v) (hr.set _ _) (by simp;omega) (fun x hx=>hone x (by simp [hx]))
  refine⟨w',c',?_,h2,by simpa using h3,by rw [h4,setCell_size],fun b hb=>by rw [h5 b hb,setCell_other _ _ hb],h6,h7,h8,fun j=>?_⟩
  ·simp only [storeCells]
   rw [Sem.run_bind,run_store P w _ v _ (hone v (by simp)),hadd,hu,hr.frozen (by omega)]
   simpa using h1
  ·rw [h9]
   simp only [List.length_cons]
   by_cases hj:off+(i+1)≤j∧j < off+(i+1)+vs.length
   ·rw [if_pos hj,if_pos (by omega),show j - (off+i)=(j - (off+(i+1)))+1 by omega]
    simp
   ·rw [if_neg hj]
    by_cases h2:j=off+i
    ·subst h2
     rw [if_pos (by omega),Array.getElem?_setIfInBounds_self_of_lt (by omega)]
     simp
    ·rw [if_neg (by omega),Array.getElem?_setIfInBounds_ne (by omega)]
theorem zcA {P:Program} {g off:Nat} {c:Array Value} {e:TypeId} {f:Nat × Nat}:∀ (vs:List Value) (i:Nat) (w w':World) (c:Array Value),w.heap[g]?=some (.cells c e f)→(storeCells ⟨g,off,none⟩ vs i).run P w=.ok () w'→(∀ v∈vs,v.oneCell'=true)→Row w g c→off+i+vs.length≤c.size→∃ c',w'.heap[g]?=some (.cells c' e f)
 | [],i,w,w',c,h,hr,_,_,_=>by
  simp only [storeCells,Sem.run_pure,Result.ok.injEq,true_and] at hr
  subst hr
  exact⟨c,h⟩
 | v::vs,i,w,w',c,h,hr,hone,hrow,hle=>by
  simp only [List.length_cons] at hle
  have hadd:(⟨g,off,none⟩:Addr).add i=⟨g,off+i,none⟩:=by
   unfold Addr.add
   split
   ·rename_i h0;subst h0;rfl
   ·rfl
  have hcell:∃ u,w.cell? ⟨g,off+i,none⟩=some u:=by
   rw [hrow.cell]
   exact⟨c[off+i],by rw [Array.getElem?_eq_getElem (by omega)]⟩
  obtain⟨u,hu⟩:=hcell
  simp only [storeCells] at hr
  rw [Sem.run_bind,run_store P w _ v _ (hone v (by simp)),hadd,hu,hrow.frozen (by omega)] at hr
  simp only [Bool.false_eq_true,if_false,Result.andThen_ok] at hr
  refine zcA (c:=c) vs (i+1) _ w' (c.setIfInBounds (off+i) v) ?_ hr (fun x hx=>hone x (by simp [hx])) (hrow.set _ _) (by simp;omega)
  simp only [World.setCell,Array.getElem?_modify,h]
  simp
theorem rep_one {w:World} {O:Nat→Prop} {m:Ids} {x:AV} {v:Value} (h:rep w O m x v) (h1:x.one=true):v.oneCell'=true:=by
 cases x <;> simp only [AV.one] at h1 <;> first | (cases h1;done) | skip
 all_goals simp only [rep] at h
 ·subst h;exact h1
 ·obtain⟨_,_,rfl,_⟩:=h;rfl
 ·obtain⟨_,_,rfl,_⟩:=h;rfl
 ·rcases h with ⟨rfl,_⟩ | ⟨_,_,_,rfl,_⟩ <;> rfl
 ·obtain⟨_,rfl,_⟩:=h;rfl
 ·obtain⟨_,rfl,_⟩:=h;rfl
 ·obtain⟨_,_,rfl,_⟩:=h;rfl
 ·obtain⟨_,rfl,_⟩:=h;rfl
 ·obtain⟨_,_,rfl,_⟩:=h;rfl
 ·rcases h with ⟨rfl,_⟩ | ⟨_,_,_,rfl,_⟩ <;> rfl
 ·obtain⟨_,rfl,_⟩:=h;rfl
theorem zdG {w:World} {O:Nat→Prop} {m:Ids}:∀ {l:List AV} {vs:List Value},reps w O m l vs→l.all AV.one=true→∀ v∈vs,v.oneCell'=true
 | [],vs,h,_,v,hv=>by simp only [reps] at h;subst h;cases hv
 | a::l,vs,h,h1,v,hv=>by
  simp only [reps] at h
  obtain⟨u,r,rfl,h2,h3⟩:=h
  simp only [List.all_cons,Bool.and_eq_true] at h1
  rcases List.mem_cons.1 hv with rfl | hv
  ·exact rep_one h2 h1.1
  ·exact zdG h3 h1.2 v hv
theorem zdh {w:World} {O:Nat→Prop} {m:Ids} {x:AV} {v:Value} (h:rep w O m x v) (h1:x.cells.all AV.one=true):reps w O m x.cells v.cells.toList:=by
 cases x with
 | agg l =>
  simp only [rep] at h
  obtain⟨a,rfl,h2⟩:=h
  exact h2
 | _ =>
  simp only [AV.cells,List.all_cons,List.all_nil,Bool.and_true] at h1
  have h2:=rep_one h h1
  have:v.cells=#[v]:=by
   cases v <;> first | rfl | (simp [Value.oneCell'] at h2;done)
  rw [this]
  simp only [AV.cells,reps]
  exact⟨v,[],rfl,h,rfl⟩
theorem St.store {P:Program} {w:World} {m:Ids} {σ:zaa} (hs:St H w m σ) {id g off:Nat} {cs:List AV} (hi:σ[id]?=some (.rw cs)) (hm:m[id]?=some (some g)) {xs:List AV} {vs:List Value}
  (hlen:off+xs.length≤cs.length) (hr:reps w (own H m σ) m xs vs) (hone:xs.all AV.one=true) :
  ∃ w',(storeCells ⟨g,off,none⟩ vs).run P w=.ok () w'∧St H w' m (σ.set id (.rw (za0 cs off xs)))∧Ext H w (own H m σ) m w' (own H m (σ.set id (.rw (za0 cs off xs)))) m:=by
 rcases hs.blk _ _ _ hi hm with ⟨_,h1⟩ | ⟨g',c,e1,hrow,hle,hat⟩
 ·cases h1
 ·cases e1
  have hvl:=zan hr
  obtain⟨w',c',h1,h2,h3,h4,h5,h6,h7,h8,h9⟩:=zbU (P:=P) (g:=g) (off:=off) vs 0 w c hrow (by omega) (zdG hr hone)
  refine⟨w',h1,hs.write hi hm h4 h5 h6 h7 h8 (fun c0 hc0=>?_) (fun c0 hc0=>?_) fun hext=>?_⟩
  ·have:=hrow.eq hc0
   subst this
   exact⟨c',h2,h3⟩
  ·have:=hrow.eq hc0
   subst this
   rw [zc0]
   exact hle
  ·refine zb0 fun j x hx=>?_
   rw [zhs xs cs off hlen] at hx
   rw [Nat.zero_add,h2.cell,h9]
   simp only [Nat.add_zero]
   by_cases hj:off≤j∧j < off+xs.length
   ·rw [if_pos hj] at hx
    rw [if_pos (by omega)]
    obtain⟨v,hv,hrv⟩:=zaL hr _ _ hx
    exact⟨v,hv,zaP hext _ _ hrv⟩
   ·rw [if_neg hj] at hx
    rw [if_neg (by omega)]
    obtain⟨v,hv,hrv⟩:=zbD hat j x hx
    rw [Nat.zero_add,hrow.cell] at hv
    exact⟨v,hv,zaP hext _ _ hrv⟩
theorem St.storeT {P:Program} {w:World} {m:Ids} {σ:zaa} (hs:St H w m σ) {id g off:Nat} {x:Bool} {e:TypeId} {cs:List AV} (hi:σ[id]?=some (.rt x e cs)) (hm:m[id]?=some (some g)) {xs:List AV} {vs:List Value}
  (hlen:off+xs.length≤cs.length) (hr:reps w (own H m σ) m xs vs) (hone:xs.all AV.one=true) :
  ∃ w',(storeCells ⟨g,off,none⟩ vs).run P w=.ok () w'∧St H w' m (σ.set id (.rt x e (za0 cs off xs)))∧Ext H w (own H m σ) m w' (own H m (σ.set id (.rt x e (za0 cs off xs)))) m:=by
 rcases hs.blk _ _ _ hi hm with ⟨_,_,h1⟩ | ⟨g',c,e1,hrowT,hle,hx,hat⟩
 ·cases h1
 ·cases e1
  have hrow:=hrowT.row
  have hvl:=zan hr
  obtain⟨w',c',h1,h2,h3,h4,h5,h6,h7,h8,h9⟩:=zbU (P:=P) (g:=g) (off:=off) vs 0 w c hrow (by omega) (zdG hr hone)
  have hT':RowT w' g c' e:=by
   obtain⟨lo,hi',k1,k2⟩:=hrowT
   obtain⟨c2,k3⟩:=zcA (P:=P) (c:=c) vs 0 w w' c k1 h1 (zdG hr hone) hrow (by omega)
   obtain⟨e3,lo3,hi3,k4,k5⟩:=h2
   rw [k3] at k4
   simp only [Option.some.injEq,Obj.cells.injEq,Prod.mk.injEq] at k4
   obtain⟨rfl,rfl,rfl,rfl⟩:=k4
   exact⟨lo,hi',k3,k5⟩
  refine⟨w',h1,hs.writeT hi hm h4 h5 h6 h7 h8 (fun c0 hc0=>?_) (fun c0 hc0=>?_) (fun _=>zc0 _ _ _) fun hext=>?_⟩
  ·have:=hrow.eq hc0.row
   subst this
   exact⟨c',hT',h3⟩
  ·have:=hrow.eq hc0.row
   subst this
   rw [zc0]
   exact hle
  ·refine zb0 fun j x hx=>?_
   rw [zhs xs cs off hlen] at hx
   rw [Nat.zero_add,h2.cell,h9]
   simp only [Nat.add_zero]
   by_cases hj:off≤j∧j < off+xs.length
   ·rw [if_pos hj] at hx
    rw [if_pos (by omega)]
    obtain⟨v,hv,hrv⟩:=zaL hr _ _ hx
    exact⟨v,hv,zaP hext _ _ hrv⟩
   ·rw [if_neg hj] at hx
    rw [if_neg (by omega)]
    obtain⟨v,hv,hrv⟩:=zbD hat j x hx
    rw [Nat.zero_add,hrow.cell] at hv
    exact⟨v,hv,zaP hext _ _ hrv⟩
def zgV (T:Tab) (t:TypeId) (p x:AV) (σ:zaa) (K:AV→zaa→Prop):Prop :=
 match T t,p with
 | some ti,.ptr id off=>match σ[id]? with
  | some (.rw cs)=>x.cells.length=ti.size∧off+x.cells.length≤cs.length∧x.cells.all AV.one=true∧K (.lit undef) (σ.set id (.rw (za0 cs off x.cells)))
  | some (.rt xx e cs)=>x.cells.length=ti.size∧off+x.cells.length≤cs.length∧x.cells.all AV.one=true∧K (.lit undef) (σ.set id (.rt xx e (za0 cs off x.cells)))
  | _=>False
 | _,_=>False
theorem wstore_sound {P:Program} {T:Tab} (hT:zaD P T) {w:World} {m:Ids} {σ:zaa} (hs:St H w m σ) {t:TypeId} {p x:AV} {a v:Value} {K:AV→zaa→Prop} (h:zgV T t p x σ K) (hp:rep w (own H m σ) m p a) (hx:rep w (own H m σ) m x v) :
  ∃ w' m' σ', (Instr.storeAt t a v).run P w = .ok () w' ∧ St H w' m' σ' ∧ Ext H w (own H m σ) m w' (own H m' σ') m' ∧ K (.lit undef) σ' := by
 unfold zgV at h
 split at h
 ·rename_i ti id off hti
  split at h
  ·rename_i cs hi
   obtain⟨h1,h2,h3,h4⟩:=h
   simp only [rep] at hp
   obtain⟨g,rfl,hm⟩:=hp
   have hr:=zdh hx h3
   obtain⟨w',h5,h6,h7⟩:=hs.store (P:=P) hi hm h2 hr h3
   refine⟨w',m,_,?_,h6,h7,h4⟩
   have hsz:v.cells.size=ti.size:=by
    have:=zan hr
    rw [h1] at this
    simpa using this
   simp only [Instr.storeAt,Instr.sureAddr,storeVar]
   rw [Sem.run_bind]
   refine aQ14 ?_
   rw [Sem.run_bind,(hT t ti hti).run_sizeOf]
   simp only [Result.andThen_ok,hsz,ne_eq,not_true_eq_false,if_false]
   exact h5
  ·rename_i xx e cs hi
   obtain⟨h1,h2,h3,h4⟩:=h
   simp only [rep] at hp
   obtain⟨g,rfl,hm⟩:=hp
   have hr:=zdh hx h3
   obtain⟨w',h5,h6,h7⟩:=hs.storeT (P:=P) hi hm h2 hr h3
   refine⟨w',m,_,?_,h6,h7,h4⟩
   have hsz:v.cells.size=ti.size:=by
    have:=zan hr
    rw [h1] at this
    simpa using this
   simp only [Instr.storeAt,Instr.sureAddr,storeVar]
   rw [Sem.run_bind]
   refine aQ14 ?_
   rw [Sem.run_bind,(hT t ti hti).run_sizeOf]
   simp only [Result.andThen_ok,hsz,ne_eq,not_true_eq_false,if_false]
   exact h5
  ·exact h.elim
 ·exact h.elim
end Go.Eng
end

section
namespace Go.Eng
open Go
variable {H : Nat → Prop}
theorem add_none (b off n:Nat):(⟨b,off,none⟩:Addr).add n=⟨b,off+n,none⟩:=by
 unfold Addr.add
 split
 ·rename_i h;subst h;rfl
 ·rfl
theorem asl_sound {w:World} {m:Ids} {σ:zaa} (hs:St H w m σ) {size:Nat} {x:AV} {cs:List AV} {len:Nat} {v:Value} (h:asl σ size x=some (cs,len)) (hx:rep w (own H m σ) m x v) :
  ∃ ad cap,v=.slice ad len cap∧len≤cap∧cap≤maxLen∧cs.length=len * size∧(cs=[]∨∃ b off,ad=some ⟨b,off,none⟩∧zaJ w (own H m σ) m b cs off):=by
 unfold asl at h
 split at h
 ·rename_i cs0 len0
  split at h
  ·rename_i hle
   cases h
   simp only [rep] at hx
   obtain⟨ad,cap,e,h1,h1',h2⟩:=hx
   refine⟨ad,cap,e,h1,h1',by rw [List.length_take];omega,?_⟩
   rcases h2 with h2 | ⟨b,off,e1,_,_,h3⟩
   ·exact .inl (by simp [h2])
   ·exact .inr ⟨b,off,e1,zbu h3 _⟩
  ·cases h
 ·rename_i id off len0 sz
  split at h
  ·rename_i hsz
   subst hsz
   cases hrd:rd σ id with
   | none=>simp [hrd] at h
   | some c =>
    simp only [hrd,Option.bind_some] at h
    split at h
    ·rename_i hle
     cases h
     simp only [rep] at hx
     rcases hx with ⟨e,e1,e2,_⟩ | ⟨g,cap,cc,e,hm,h1,h1',_⟩
     ·subst e1
      exact⟨none,0,e,Nat.le_refl _,by simp [maxLen],by simp,.inl (by simp)⟩
     ·refine⟨_,cap,e,h1,h1',by rw [List.length_take,List.length_drop];omega,?_⟩
      by_cases hc:c=[]
      ·exact .inl (by simp [hc])
      ·obtain⟨g',hm',hat⟩:=rd_at hs hrd hc
       rw [hm] at hm'
       cases hm'
       refine .inr ⟨g,off,rfl,zbu ?_ _⟩
       have:=zbE hat off
       rwa [Nat.zero_add] at this
    ·cases h
  ·cases h
 ·cases h
  simp only [rep] at hx
  exact⟨none,0,hx,Nat.le_refl _,by simp [maxLen],by simp,.inl rfl⟩
 ·cases h
def slen:AV→Option Nat
 | .sl _ len=>some len
 | .ref _ _ len _=>some len
 | .bsl _ len=>some len
 | .lit (.slice none 0 0)=>some 0
 | _=>none
theorem slen_sound {w:World} {O:Nat→Prop} {m:Ids} {x:AV} {len:Nat} {v:Value} (h:slen x=some len) (hx:rep w O m x v):∃ ad cap,v=.slice ad len cap:=by
 unfold slen at h
 split at h
 ·cases h
  simp only [rep] at hx
  obtain⟨ad,cap,e,_⟩:=hx
  exact⟨ad,cap,e⟩
 ·cases h
  simp only [rep] at hx
  rcases hx with ⟨e,e1,_⟩ | ⟨g,cap,c,e,_⟩
  ·subst e1;exact⟨_,_,e⟩
  ·exact⟨_,_,e⟩
 ·cases h
  simp only [rep] at hx
  rcases hx with ⟨e,e1,_⟩ | ⟨g,cap,c,e,_⟩
  ·subst e1;exact⟨_,_,e⟩
  ·exact⟨_,_,e⟩
 ·cases h
  simp only [rep] at hx
  exact⟨_,_,hx⟩
 ·cases h
def wlen (T:Tab) (t:TypeId) (x:AV) (K:AV→Prop):Prop :=
 match T t with
 | some ti=>match ti.d,x with
  | .str,.lit (.string s)=>K (.lit (.int .i64 s.size))
  | .array n _,_=>K (.lit (.int .i64 n))
  | .slice _,x=>match slen x with
   | some n=>K (.lit (.int .i64 n))
   | none=>False
  | _,_=>False
 | none=>False
theorem wlen_sound {P:Program} {T:Tab} (hT:zaD P T) {w:World} {O:Nat→Prop} {m:Ids} {t ty:TypeId} {x:AV} {v:Value} {K:AV→Prop} (h:wlen T t x K) (hx:rep w O m x v) :
  ∃ u r,(Builtin.len_ #[t] ty #[v]).run P w=.ok u w∧rep w O m r u∧K r:=by
 unfold wlen at h
 split at h
 ·rename_i ti hti
  obtain⟨d,hd,hf⟩:=(hT t ti hti).und
  split at h
  ·rename_i s hd'
   rw [hd'] at hf
   simp only [TD.fits] at hf
   subst hf
   simp only [rep] at hx
   subst hx
   exact⟨_,_,by simp [Builtin.len_,run_underlying hd,goInt];rfl,by simp [rep],h⟩
  ·rename_i n e hd'
   rw [hd'] at hf
   simp only [TD.fits] at hf
   subst hf
   exact⟨_,_,by simp [Builtin.len_,run_underlying hd,goInt];rfl,by simp [rep],h⟩
  ·rename_i e hd'
   rw [hd'] at hf
   simp only [TD.fits] at hf
   subst hf
   split at h
   ·rename_i n hn
    obtain⟨ad,cap,rfl⟩:=slen_sound hn hx
    exact⟨_,_,by simp [Builtin.len_,run_underlying hd,goInt];rfl,by simp [rep],h⟩
   ·exact h.elim
  ·exact h.elim
 ·exact h.elim
def zht (ti:TI) (l:List AV) (off:Nat) (K:AV→Prop):Prop :=
 off+ti.size≤l.length∧if ti.d.agg then K (.agg ((l.drop off).take ti.size)) else 0 < ti.size∧K ((l[off]?).getD .bot)
theorem zhu {P:Program} {w:World} {O:Nat→Prop} {m:Ids} {t:TypeId} {ti:TI} (ty:TyOK P t ti) {l:List AV} {cs:Array Value} {off:Nat} {K:AV→Prop} (h:zht ti l off K) (hl:reps w O m l cs.toList) :
  ∃ u r,(part t cs off).run P w=.ok u w∧rep w O m r u∧K r:=by
 obtain⟨hle,h⟩:=h
 have hlen:=zan hl
 unfold part
 rw [Sem.run_bind,ty.run_isAgg]
 simp only [Result.andThen_ok]
 by_cases hagg:ti.d.agg=true
 ·simp only [hagg,if_true] at h ⊢
  refine⟨_,_,by rw [Sem.run_bind,ty.run_sizeOf];rfl,?_,h⟩
  simp only [rep]
  refine⟨_,rfl,zhr (by simp at hlen;simp;omega) fun i x v hx hv=>?_⟩
  rw [List.getElem?_take] at hx
  split at hx
  ·rename_i hi
   rw [List.getElem?_drop] at hx
   obtain⟨v',hv',hr⟩:=zaL hl _ _ hx
   have:(cs.extract off (off+ti.size)).toList[i]?=cs.toList[off+i]?:=by
    simp only [Array.getElem?_toList]
    rw [Array.getElem?_extract]
    rw [if_pos]
    simp at hlen
    omega
   rw [this,hv'] at hv
   cases hv
   exact hr
  ·cases hx
 ·simp only [hagg,Bool.false_eq_true,if_false] at h ⊢
  obtain⟨h1,h2⟩:=h
  have hlt:off < l.length:=by omega
  obtain⟨v,hv,hr⟩:=zaL hl off l[off] (by simp [hlt])
  refine⟨v,l[off],?_,hr,by simpa [hlt] using h2⟩
  rw [Array.getElem?_toList] at hv
  rw [hv]
  rfl
def zeI (T:Tab) (t:TypeId) (x i:AV) (K:AV→Prop):Prop :=
 match T t,i with
 | some ti,.lit (.int _ n)=>match ti.d,x with
  | .str,.lit (.string s)=>0≤n∧n < s.size∧K (.lit (.int .u8 ((s.data.toList.getD n.toNat 0).toNat:Int)))
  | .array len e,.agg l=>0≤n∧n < len∧∃ te,T e=some te∧zht te l (n.toNat * te.size) K
  | _,_=>False
 | _,_=>False
theorem windex_sound {P:Program} {T:Tab} (hT:zaD P T) {w:World} {O:Nat→Prop} {m:Ids} {t:TypeId} {x i:AV} {v iv:Value} {K:AV→Prop} (h:zeI T t x i K) (hx:rep w O m x v) (hi:rep w O m i iv) :
  ∃ u r,(Instr.index t v iv).run P w=.ok u w∧rep w O m r u∧K r:=by
 unfold zeI at h
 split at h
 ·rename_i ti k n hti
  obtain⟨d,hd,hf⟩:=(hT t ti hti).und
  simp only [rep] at hi
  subst hi
  split at h
  ·rename_i s hd'
   rw [hd'] at hf
   simp only [TD.fits] at hf
   subst hf
   simp only [rep] at hx
   subst hx
   obtain⟨h0,h1,h2⟩:=h
   have hlt:n.toNat < s.size:=by omega
   refine⟨.int .u8 ((s.data.toList.getD n.toNat 0).toNat:Int),_,?_,by simp only [rep],h2⟩
   simp only [Instr.index,asIntOf]
   rw [Sem.run_bind]
   refine aQ14 ?_
   rw [Sem.run_bind,run_underlying hd]
   simp only [Result.andThen_ok,h0,if_true]
   have hlt':n.toNat < s.data.toList.length:=by simpa using hlt
   have:s[n.toNat]?=some (s.data.toList.getD n.toNat 0):=by
    rw [getElem?_pos s n.toNat hlt]
    simp only [List.getD,List.getElem?_eq_getElem hlt',Option.getD_some]
    rfl
   rw [this]
   rfl
  ·rename_i len e l hd'
   rw [hd'] at hf
   simp only [TD.fits] at hf
   subst hf
   obtain⟨h0,h1,te,hte,h2⟩:=h
   simp only [rep] at hx
   obtain⟨cs,rfl,hl⟩:=hx
   have ty:=hT e te hte
   obtain⟨u,r,h3,h4,h5⟩:=zhu ty h2 hl
   refine⟨u,r,?_,h4,h5⟩
   simp only [Instr.index,asIntOf]
   rw [Sem.run_bind]
   refine aQ14 ?_
   rw [Sem.run_bind,run_underlying hd]
   simp only [Result.andThen_ok,h0,h1,and_self,if_true]
   rw [Sem.run_bind,ty.run_sizeOf]
   exact h3
  ·exact h.elim
 ·exact h.elim
theorem zdU {P:Program} {w:World} {t e:TypeId} {te:TI} (hd:P.underlying t=some (.slice e)) (ty:TyOK P e te) {b off len cap:Nat} {k:IntKind} {n:Int} (h0:0≤n) (h1:n < len) :
  (Instr.indexAt t (.slice (some ⟨b,off,none⟩) len cap) (.int k n)).run P w=.ok (.pointer (some ⟨b,off+n.toNat * te.size,none⟩)) w:=by
 simp only [Instr.indexAt,asIntOf,Sem.run_bind,Sem.run_pure,Result.andThen_ok,run_underlying hd,h0,h1,and_self,if_true,ty.run_sizeOf,add_none]
theorem zdV {P:Program} {w:World} {t e:TypeId} {te:TI} {len:Nat} (hd:P.underlying t=some (.array len e)) (ty:TyOK P e te) {b off:Nat} {k:IntKind} {n:Int} (h0:0≤n) (h1:n < len) :
  (Instr.indexAt t (.pointer (some ⟨b,off,none⟩)) (.int k n)).run P w=.ok (.pointer (some ⟨b,off+n.toNat * te.size,none⟩)) w:=by
 simp only [Instr.indexAt,Instr.sureAddr,asIntOf,Sem.run_bind,Sem.run_pure,Result.andThen_ok,run_underlying hd,h0,h1,and_self,if_true,ty.run_sizeOf,add_none]
def zbl (T:Tab) (t:TypeId) (x i:AV) (K:AV→Prop):Prop :=
 match T t,i with
 | some ti,.lit (.int _ n)=>match ti.d,x with
  | .slice e,.sl cs len=>∃ te,T e=some te∧0 < te.size∧0≤n∧n < len∧len * te.size≤cs.length∧K (.rp (cs.drop (n.toNat * te.size)))
  | .slice e,.ref id off len sz=>∃ te,T e=some te∧te.size=sz∧0≤n∧n < len∧K (.ptr id (off+n.toNat * sz))
  | .array len e,.ptr id off=>∃ te,T e=some te∧0≤n∧n < len∧K (.ptr id (off+n.toNat * te.size))
  | .array len e,.rp cs=>∃ te,T e=some te∧0≤n∧n < len∧K (.rp (cs.drop (n.toNat * te.size)))
  | _,_=>False
 | _,_=>False
theorem windexAddr_sound {P:Program} {T:Tab} (hT:zaD P T) {w:World} {O:Nat→Prop} {m:Ids} {t:TypeId} {x i:AV} {v iv:Value} {K:AV→Prop} (h:zbl T t x i K) (hx:rep w O m x v) (hi:rep w O m i iv) :
  ∃ u r,(Instr.indexAt t v iv).run P w=.ok u w∧rep w O m r u∧K r:=by
 unfold zbl at h
 split at h
 ·rename_i ti k n hti
  obtain⟨d,hd,hf⟩:=(hT t ti hti).und
  simp only [rep] at hi
  subst hi
  split at h
  ·rename_i e cs len hd'
   rw [hd'] at hf
   simp only [TD.fits] at hf
   subst hf
   obtain⟨te,hte,hpos,h0,h1,hle,hk⟩:=h
   simp only [rep] at hx
   obtain⟨ad,cap,rfl,hlc,_,hcs⟩:=hx
   have hne:cs≠[]:=by
    rintro rfl
    simp only [List.length_nil,Nat.le_zero,Nat.mul_eq_zero] at hle
    omega
   rcases hcs with hcs | ⟨b,off,rfl,hO,hb,hat⟩
   ·exact absurd hcs hne
   ·exact⟨_,_,zdU hd (hT e te hte) h0 h1,by simp only [rep];exact⟨b,off+n.toNat * te.size,rfl,hO,hb,zbE hat _⟩,hk⟩
  ·rename_i e id off len sz hd'
   rw [hd'] at hf
   simp only [TD.fits] at hf
   subst hf
   obtain⟨te,hte,hsz,h0,h1,hk⟩:=h
   simp only [rep] at hx
   rcases hx with ⟨_,hl0,_⟩ | ⟨g,cap,c,rfl,hm,hlc,_⟩
   ·subst hl0;omega
   ·exact⟨_,_,zdU hd (hT e te hte) h0 h1,by simp only [rep];exact⟨g,by rw [hsz],hm⟩,hk⟩
  ·rename_i len e id off hd'
   rw [hd'] at hf
   simp only [TD.fits] at hf
   subst hf
   obtain⟨te,hte,h0,h1,hk⟩:=h
   simp only [rep] at hx
   obtain⟨g,rfl,hm⟩:=hx
   exact⟨_,_,zdV hd (hT e te hte) h0 h1,by simp only [rep];exact⟨g,rfl,hm⟩,hk⟩
  ·rename_i len e cs hd'
   rw [hd'] at hf
   simp only [TD.fits] at hf
   subst hf
   obtain⟨te,hte,h0,h1,hk⟩:=h
   simp only [rep] at hx
   obtain⟨b,off,rfl,hO,hb,hat⟩:=hx
   exact⟨_,_,zdV hd (hT e te hte) h0 h1,by simp only [rep];exact⟨b,off+n.toNat * te.size,rfl,hO,hb,zbE hat _⟩,hk⟩
  ·exact h.elim
 ·exact h.elim
def ziE (T:Tab) (t:TypeId) (x:AV) (K:AV→Prop):Prop :=
 match T t with
 | some ti=>match ti.d,x with
  | .array n e,.sl cs len=>∃ te,T e=some te∧0 < te.size∧0 < n∧n≤len∧len * te.size≤cs.length∧K (.rp cs)
  | .array n e,.ref id off len sz=>0 < n∧n≤len∧K (.ptr id off)
  | _,_=>False
 | _=>False
theorem wtoArr_sound {P:Program} {T:Tab} (hT:zaD P T) {w:World} {O:Nat→Prop} {m:Ids} {t:TypeId} {x:AV} {v:Value} {K:AV→Prop} (h:ziE T t x K) (hx:rep w O m x v) :
  ∃ u r,(Instr.arrayAt t v).run P w=.ok u w∧rep w O m r u∧K r:=by
 unfold ziE at h
 split at h
 ·rename_i ti hti
  obtain⟨d,hd,hf⟩:=(hT t ti hti).und
  split at h
  ·rename_i n e cs len hd'
   rw [hd'] at hf
   simp only [TD.fits] at hf
   subst hf
   obtain⟨te,hte,hpos,h0,h1,hle,hk⟩:=h
   simp only [rep] at hx
   obtain⟨ad,cap,rfl,hlc,_,hcs⟩:=hx
   have hne:cs≠[]:=by
    rintro rfl
    simp only [List.length_nil,Nat.le_zero,Nat.mul_eq_zero] at hle
    omega
   rcases hcs with hcs | ⟨b,off,rfl,hO,hb,hat⟩
   ·exact absurd hcs hne
   ·refine⟨.pointer (some ⟨b,off,none⟩),.rp cs,?_,by simp only [rep];exact⟨b,off,rfl,hO,hb,hat⟩,hk⟩
    unfold Instr.arrayAt
    simp only [Sem.run_bind,run_underlying hd,Result.andThen_ok,if_neg (Nat.not_lt.2 h1),Sem.run_pure]
  ·rename_i n e id off len sz hd'
   rw [hd'] at hf
   simp only [TD.fits] at hf
   subst hf
   obtain⟨h0,h1,hk⟩:=h
   simp only [rep] at hx
   rcases hx with ⟨_,hl0,_⟩ | ⟨g,cap,c,rfl,hm,hlc,_⟩
   ·subst hl0;omega
   ·refine⟨.pointer (some ⟨g,off,none⟩),.ptr id off,?_,by simp only [rep];exact⟨g,rfl,hm⟩,hk⟩
    unfold Instr.arrayAt
    simp only [Sem.run_bind,run_underlying hd,Result.andThen_ok,if_neg (Nat.not_lt.2 h1),Sem.run_pure]
  ·exact h.elim
 ·exact h.elim
def zc6 (T:Tab) (t:TypeId) (x:AV) (f:Nat) (K:AV→Prop):Prop :=
 match T t,x with
 | some ti,.agg l=>match ti.d with
  | .struct fs=>match fs[f]? with
   | some (ft,off)=>∃ tf,T ft=some tf∧zht tf l off K
   | none=>False
  | _=>False
 | _,_=>False
theorem zeJ {fs:List (TypeId × Nat)} {gs:Array Field} (h:gs.toList.map (fun f=>(f.type,f.offset))=fs) {f:Nat} {ft:TypeId} {off:Nat} (hf:fs[f]?=some (ft,off)):∃ g,gs[f]?=some g∧g.type=ft∧g.offset=off:=by
 subst h
 rw [List.getElem?_map] at hf
 cases hg:gs.toList[f]? with
 | none=>simp [hg] at hf
 | some g =>
  simp only [hg,Option.map_some,Option.some.injEq,Prod.mk.injEq] at hf
  exact⟨g,by rwa [Array.getElem?_toList] at hg,hf.1,hf.2⟩
theorem wfield_sound {P:Program} {T:Tab} (hT:zaD P T) {w:World} {O:Nat→Prop} {m:Ids} {t:TypeId} {x:AV} {v:Value} {f:Nat} {K:AV→Prop} (h:zc6 T t x f K) (hx:rep w O m x v) :
  ∃ u r,(Instr.field t v f).run P w=.ok u w∧rep w O m r u∧K r:=by
 unfold zc6 at h
 split at h
 ·rename_i ti l hti
  obtain⟨d,hd,hf⟩:=(hT t ti hti).und
  split at h
  ·rename_i fs hd'
   rw [hd'] at hf
   simp only [TD.fits] at hf
   obtain⟨gs,rfl,hgs⟩:=hf
   split at h
   ·rename_i ft off hft
    obtain⟨tf,htf,hk⟩:=h
    obtain⟨g,hg,rfl,rfl⟩:=zeJ hgs hft
    simp only [rep] at hx
    obtain⟨cs,rfl,hl⟩:=hx
    obtain⟨u,r,h3,h4,h5⟩:=zhu (hT _ _ htf) hk hl
    refine⟨u,r,?_,h4,h5⟩
    simp only [Instr.field]
    rw [Sem.run_bind,run_underlying hd]
    simp only [Result.andThen_ok,hg,asAgg]
    rw [Sem.run_bind]
    exact h3
   ·exact h.elim
  ·exact h.elim
 ·exact h.elim
def zag (T:Tab) (t:TypeId) (x:AV) (f:Nat) (K:AV→Prop):Prop :=
 match T t with
 | some ti=>match ti.d with
  | .bld fs=>match fs[f]? with
   | some (ft,off)=>(∃ tf,T ft=some tf∧tf.size≠0)∧match x with
    | .ptr id o=>K (.ptr id (o+off))
    | _=>False
   | none=>False
  | .struct fs=>match fs[f]? with
   | some (ft,off)=>(∃ tf,T ft=some tf∧tf.size≠0)∧match x with
    | .ptr id o=>K (.ptr id (o+off))
    | .rp cs=>K (.rp (cs.drop off))
    | _=>False
   | none=>False
  | _=>False
 | none=>False
theorem wfieldAddr_sound {P:Program} {T:Tab} (hT:zaD P T) {w:World} {O:Nat→Prop} {m:Ids} {t:TypeId} {x:AV} {v:Value} {f:Nat} {K:AV→Prop} (h:zag T t x f K) (hx:rep w O m x v) :
  ∃ u r,(Instr.fieldAt t v f).run P w=.ok u w∧rep w O m r u∧K r:=by
 unfold zag at h
 split at h
 ·rename_i ti hti
  obtain⟨d,hd,hf⟩:=(hT t ti hti).und
  split at h
  ·rename_i fs hd'
   rw [hd'] at hf
   simp only [TD.fits] at hf
   obtain⟨gs,rfl,hgs⟩:=hf
   split at h
   ·rename_i ft off hft
    obtain⟨⟨tf,htf,hsz⟩,hk⟩:=h
    obtain⟨g,hg,rfl,rfl⟩:=zeJ hgs hft
    have hrun:∀ b o,(Instr.fieldAt t (.pointer (some ⟨b,o,none⟩)) f).run P w=.ok (.pointer (some ⟨b,o+g.offset,none⟩)) w:=by
     intro b o
     simp only [Instr.fieldAt]
     rw [Sem.run_bind,run_underlying hd]
     simp only [Result.andThen_ok,hg,Instr.sureAddr]
     rw [Sem.run_bind]
     refine aQ14 ?_
     rw [Sem.run_bind]
     simp only [fieldPlace]
     rw [Sem.run_bind,(hT _ _ htf).run_sizeOf]
     simp only [Result.andThen_ok,hsz,if_false,Sem.run_pure,add_none]
    cases x <;> simp only at hk <;> first | exact hk.elim | skip
    case ptr id o =>
     simp only [rep] at hx
     obtain⟨b,rfl,hm⟩:=hx
     exact⟨_,_,hrun b o,by simp only [rep];exact⟨b,rfl,hm⟩,hk⟩
   ·exact h.elim
  ·rename_i fs hd'
   rw [hd'] at hf
   simp only [TD.fits] at hf
   obtain⟨gs,rfl,hgs⟩:=hf
   split at h
   ·rename_i ft off hft
    obtain⟨⟨tf,htf,hsz⟩,hk⟩:=h
    obtain⟨g,hg,rfl,rfl⟩:=zeJ hgs hft
    have hrun:∀ b o,(Instr.fieldAt t (.pointer (some ⟨b,o,none⟩)) f).run P w=.ok (.pointer (some ⟨b,o+g.offset,none⟩)) w:=by
     intro b o
     simp only [Instr.fieldAt]
     rw [Sem.run_bind,run_underlying hd]
     simp only [Result.andThen_ok,hg,Instr.sureAddr]
     rw [Sem.run_bind]
     refine aQ14 ?_
     rw [Sem.run_bind]
     simp only [fieldPlace]
     rw [Sem.run_bind,(hT _ _ htf).run_sizeOf]
     simp only [Result.andThen_ok,hsz,if_false,Sem.run_pure,add_none]
    cases x <;> simp only at hk <;> first | exact hk.elim | skip
    case ptr id o =>
     simp only [rep] at hx
     obtain⟨b,rfl,hm⟩:=hx
     exact⟨_,_,hrun b o,by simp only [rep];exact⟨b,rfl,hm⟩,hk⟩
    case rp cs =>
     simp only [rep] at hx
     obtain⟨b,o,rfl,hO,hb,hat⟩:=hx
     exact⟨_,_,hrun b o,by simp only [rep];exact⟨b,o+g.offset,rfl,hO,hb,zbE hat _⟩,hk⟩
   ·exact h.elim
  ·exact h.elim
 ·exact h.elim
end Go.Eng
end

section
namespace Go.Eng
open Go
variable {H : Nat → Prop}
def bnd (d:Int):Option AV→Option Int
 | none=>some d
 | some (.lit (.int _ n))=>some n
 | _=>none
def zbi (T:Tab) (t:TypeId) (x:AV) (lo hi:Option AV) (σ:zaa) (K:AV→Prop):Prop :=
 match T t with
 | none=>False
 | some ti=>match ti.d,x with
  | .str,.lit (.string s)=>match bnd 0 lo,bnd s.size hi with
   | some l,some h=>0≤l∧l≤h∧h≤s.size∧K (.lit (.string (s.extract l.toNat h.toNat)))
   | _,_=>False
  | .slice e,.sl cs len=>match bnd 0 lo,bnd len hi with
   | some l,some h=>∃ te,T e=some te∧0≤l∧l≤h∧h≤len∧len * te.size≤cs.length∧K (.sl ((cs.drop (l.toNat * te.size)).take ((h.toNat - l.toNat) * te.size)) (h.toNat - l.toNat))
   | _,_=>False
  | .slice e,.ref id off len sz=>match bnd 0 lo,bnd len hi with
   | some l,some h=>∃ te,T e=some te∧te.size=sz∧0≤l∧l≤h∧h≤len∧(l < h∨l=0→K (.ref id (off+l.toNat * sz) (h.toNat - l.toNat) sz))∧(l=h∧l≠0→K (.sl [] 0))
   | _,_=>False
  | .slice e,.lit (.slice none 0 0)=>match bnd 0 lo,bnd 0 hi with
   | some l,some h=>l=0∧h=0∧(∃ te,T e=some te)∧K (.lit (.slice none 0 0))
   | _,_=>False
  | .array n e,.ptr id off=>match bnd 0 lo,bnd n hi,σ[id]? with
   | some l,some h,some (.rw cs)=>∃ te,T e=some te∧0≤l∧l < h∧h≤n∧(n:Int)≤9223372036854775807∧off+n * te.size≤cs.length∧K (.ref id (off+l.toNat * te.size) (h.toNat - l.toNat) te.size)
   | _,_,_=>False
  | _,_=>False
def zeC (w:World) (O:Nat→Prop) (m:Ids):Option AV→Option Value→Prop
 | none,none=>True
 | some x,some v=>rep w O m x v
 | _,_=>False
theorem zeK {w:World} {O:Nat→Prop} {m:Ids} {P:Program} {x:Option AV} {v:Option Value} {d:Nat} {n:Int} {y:Nat} {code:BoundsCode} (h:bnd d x=some n) (hx:zeC w O m x v) (h0:0≤n) (h1:n≤y) :
  (match v with | some v=>Instr.sliceBound v y code | none=>pure d:Sem Nat).run P w=.ok n.toNat w:=by
 cases x with
 | none =>
  cases v with
  | none=>simp only [bnd,Option.some.injEq] at h;subst h;simp
  | some v=>exact hx.elim
 | some x =>
  cases v with
  | none=>exact hx.elim
  | some v =>
   simp only [zeC] at hx
   unfold bnd at h
   split at h
   ·rename_i h2;cases h2
   ·rename_i k k' hk
    cases hk
    cases h
    simp only [rep] at hx
    subst hx
    simp [Instr.sliceBound,asIntOf,h0,h1]
   ·cases h
theorem zbG {P:Program} {w:World} {O:Nat→Prop} {m:Ids} {isS:Bool} {len cap:Nat} {lo hi:Option AV} {lov hiv:Option Value} {l h:Int} (hl:bnd 0 lo=some l) (hh:bnd len hi=some h) (rl:zeC w O m lo lov) (rh:zeC w O m hi hiv) (h0:0≤l) (h1:l≤h) (h2:h≤len) (h3:len≤cap) :
  (Instr.sliceBounds isS len cap lov hiv none).run P w=.ok (l.toNat,h.toNat,cap) w:=by
 unfold Instr.sliceBounds
 have e2:=zeK (P:=P) (y:=cap) (code:=if isS then .sliceAcap else .sliceAlen) hh rh (by omega) (by omega)
 have e1:=zeK (P:=P) (d:=0) (y:=h.toNat) (code:=.sliceB) hl rl h0 (by omega)
 cases hiv with
 | none =>
  simp only at e2
  simp only [Sem.run_bind,Sem.run_pure,Result.andThen_ok,Option.isSome_none,Bool.false_eq_true,if_false]
  simp only [Sem.run_pure,Result.ok.injEq,and_true] at e2
  rw [e2]
  cases lov with
  | none =>
   simp only [Sem.run_pure,Result.ok.injEq,and_true] at e1
   simp [← e1]
  | some v =>
   simp only at e1
   simp [e1]
 | some hv =>
  simp only at e2
  simp only [Sem.run_bind,Sem.run_pure,Result.andThen_ok,e2,Option.isSome_none,Bool.false_eq_true,if_false]
  cases lov with
  | none =>
   simp only [Sem.run_pure,Result.ok.injEq,and_true] at e1
   simp [← e1]
  | some v =>
   simp only at e1
   simp [e1]
theorem zfU {l:List AV} {a b:Nat} (h:l=[]):(l.drop a).take b=[]:=by simp [h]
theorem wslice_sound {P:Program} {T:Tab} (hT:zaD P T) {w:World} {m:Ids} {σ:zaa} (hs:St H w m σ) {t:TypeId} {x:AV} {v:Value} {lo hi:Option AV} {lov hiv:Option Value} {K:AV→Prop} (h:zbi T t x lo hi σ K) (hx:rep w (own H m σ) m x v)
  (rl:zeC w (own H m σ) m lo lov) (rh:zeC w (own H m σ) m hi hiv) :
  ∃ u r,(Instr.sliceAt t v lov hiv none).run P w=.ok u w∧rep w (own H m σ) m r u∧K r:=by
 unfold zbi at h
 split at h
 ·exact h.elim
 ·rename_i ti hti
  obtain⟨d,hd,hf⟩:=(hT t ti hti).und
  split at h
  ·rename_i s hd'
   rw [hd'] at hf
   simp only [TD.fits] at hf
   subst hf
   split at h
   ·rename_i l hh hl hhh
    obtain⟨h0,h1,h2,hk⟩:=h
    simp only [rep] at hx
    subst hx
    refine⟨.string (s.extract l.toNat hh.toNat),_,?_,by simp only [rep],hk⟩
    have e:=zbG (P:=P) (isS:=false) hl hhh rl rh h0 h1 h2 (Nat.le_refl _)
    simp only [Instr.sliceAt,Sem.run_bind,run_underlying hd,Result.andThen_ok,Instr.slice,Option.isSome_none,Bool.false_eq_true,if_false,e,Sem.run_pure]
   ·exact h.elim
  ·rename_i e cs len hd'
   rw [hd'] at hf
   simp only [TD.fits] at hf
   subst hf
   split at h
   ·rename_i l hh hl hhh
    obtain⟨te,hte,h0,h1,h2,hle,hk⟩:=h
    simp only [rep] at hx
    obtain⟨ad,cap,rfl,hlc,hcm,hcs⟩:=hx
    have e:=zbG (P:=P) (isS:=true) hl hhh rl rh h0 h1 h2 hlc
    refine⟨.slice (if cap=l.toNat then ad else ad.map (·.add (l.toNat * te.size))) (hh.toNat - l.toNat) (cap - l.toNat),_,?_,?_,hk⟩
    ·simp only [Instr.sliceAt,Sem.run_bind,run_underlying hd,Result.andThen_ok,Instr.slice,e,(hT _ _ hte).run_sizeOf,Sem.run_pure]
    ·simp only [rep]
     refine⟨_,_,rfl,by omega,by omega,?_⟩
     rcases hcs with hcs | ⟨b,off,rfl,hO,hb,hat⟩
     ·exact .inl (zfU hcs)
     ·by_cases hcl:cap=l.toNat
      ·refine .inl ?_
       rw [show hh.toNat - l.toNat=0 by omega]
       simp
      ·refine .inr ⟨b,off+l.toNat * te.size,?_,hO,hb,zbu (zbE hat _) _⟩
       rw [if_neg hcl]
       simp [add_none]
   ·exact h.elim
  ·rename_i e id off len sz hd'
   rw [hd'] at hf
   simp only [TD.fits] at hf
   subst hf
   split at h
   ·rename_i l hh hl hhh
    obtain⟨te,hte,hsz,h0,h1,h2,hk1,hk2⟩:=h
    simp only [rep] at hx
    rcases hx with ⟨rfl,hl0,ho0,hid⟩ | ⟨g,cap,c,rfl,hm,hlc,hcm,hrow,hfit⟩
    ·have e:=zbG (P:=P) (isS:=true) (cap:=0) hl hhh rl rh h0 h1 h2 (by omega)
     rw [hl0] at e
     have hl':l=0:=by omega
     have hh':hh=0:=by omega
     refine⟨.slice none 0 0,_,?_,?_,hk1 (.inr hl')⟩
     ·simp only [Instr.sliceAt,Sem.run_bind,run_underlying hd,Result.andThen_ok,Instr.slice,e,(hT _ _ hte).run_sizeOf,Sem.run_pure]
      simp [hl',hh']
     ·simp only [rep]
      exact .inl ⟨by simp,by omega,by simp [hl',ho0],hid⟩
    ·have e:=zbG (P:=P) (isS:=true) hl hhh rl rh h0 h1 h2 hlc
     have hrun:(Instr.sliceAt t (.slice (some ⟨g,off,none⟩) len cap) lov hiv none).run P w=.ok (.slice (if cap=l.toNat then some ⟨g,off,none⟩ else some ⟨g,off+l.toNat * te.size,none⟩) (hh.toNat - l.toNat) (cap - l.toNat)) w:=by
      simp only [Instr.sliceAt,Sem.run_bind,run_underlying hd,Result.andThen_ok,Instr.slice,e,(hT _ _ hte).run_sizeOf,Sem.run_pure,Option.map_some,add_none]
     by_cases hc:l < hh∨l=0
     ·refine⟨_,_,hrun,?_,hk1 hc⟩
      simp only [rep]
      refine .inr ⟨g,cap - l.toNat,c,?_,hm,by omega,by omega,hrow,?_⟩
      ·by_cases hcl:cap=l.toNat
       ·have hl':l=0:=by omega
        simp [hl',hsz]
       ·rw [if_neg hcl,hsz]
      ·have:off+l.toNat * sz+(cap - l.toNat) * sz=off+cap * sz:=by
        rw [Nat.add_assoc,← Nat.add_mul]
        congr 2
        omega
       omega
     ·refine⟨_,_,hrun,?_,hk2 (by omega)⟩
      simp only [rep]
      exact⟨_,_,by rw [show hh.toNat - l.toNat=0 by omega],by omega,by omega,.inl trivial⟩
   ·exact h.elim
  ·rename_i e hd'
   rw [hd'] at hf
   simp only [TD.fits] at hf
   subst hf
   split at h
   ·rename_i l hh hl hhh
    obtain⟨rfl,rfl,⟨te,hte⟩,hk⟩:=h
    simp only [rep] at hx
    subst hx
    have e:=zbG (P:=P) (isS:=true) (len:=0) (cap:=0) hl hhh rl rh (by omega) (by omega) (by omega) (by omega)
    refine⟨.slice none 0 0,_,?_,by simp only [rep],hk⟩
    simp only [Instr.sliceAt,Sem.run_bind,run_underlying hd,Result.andThen_ok,Instr.slice,e,(hT _ _ hte).run_sizeOf,Sem.run_pure]
    simp
   ·exact h.elim
  ·rename_i n e id off hd'
   rw [hd'] at hf
   simp only [TD.fits] at hf
   subst hf
   split at h
   ·rename_i l hh cs hl hhh hcs
    obtain⟨te,hte,h0,h1,h2,hmx,hle,hk⟩:=h
    simp only [rep] at hx
    obtain⟨g,rfl,hm⟩:=hx
    have e:=zbG (P:=P) (isS:=false) hl hhh rl rh h0 (by omega) h2 (Nat.le_refl _)
    refine⟨.slice (some ⟨g,off+l.toNat * te.size,none⟩) (hh.toNat - l.toNat) (n - l.toNat),_,?_,?_,hk⟩
    ·simp only [Instr.sliceAt,Sem.run_bind,run_underlying hd,Result.andThen_ok,Instr.sureAddr,Sem.run_pure,e,(hT _ _ hte).run_sizeOf,add_none]
     rw [if_neg (by omega)]
    ·simp only [rep]
     rcases hs.blk _ _ _ hcs hm with ⟨hc,hn⟩ | ⟨g',c,e1,hrow,hlen,_⟩
     ·cases hn
     ·cases e1
      refine .inr ⟨g,n - l.toNat,c,rfl,hm,by omega,by simp [maxLen];omega,hrow.cel,?_⟩
      have:off+l.toNat * te.size+(n - l.toNat) * te.size=off+n * te.size:=by
       rw [Nat.add_assoc,← Nat.add_mul]
       congr 2
       omega
      omega
   ·exact h.elim
  ·exact h.elim
theorem zcB {w:World} {O:Nat→Prop} {m:Ids}:∀ (l:List Value),reps w O m (zaE l) l
 | []=>by simp [zaE,reps]
 | v::l=>by
  simp only [zaE,List.map_cons,reps]
  exact⟨v,l,rfl,by simp only [rep],zcB l⟩
theorem St.newRow {P:Program} {w:World} {m:Ids} {σ:zaa} (hs:St H w m σ) (e:TypeId) {xs:List AV} {c:Array Value} (hr:reps w (own H m σ) m xs c.toList) :
  ∃ w',(Go.newRow e c).run P w=.ok ⟨w.heap.size,0,none⟩ w'∧St H w' (m++[some w.heap.size]) (σ++[.rw xs])∧Ext H w (own H m σ) m w' (own H (m++[some w.heap.size]) (σ++[.rw xs])) (m++[some w.heap.size])∧Row w' w.heap.size c:=by
 have hl:=zan hr
 refine⟨{ w with heap:=w.heap.push (.cells c e) },by simp [Go.newRow],?_⟩
 have:=hs.alloc (w':={ w with heap:=w.heap.push (.cells c e) }) (c:=c) (e:=e) (lo:=0) (hi:=0) (cs:=xs) rfl (.inl (Nat.le_refl _)) rfl rfl rfl (by simp at hl;omega) (fun j x hx=>by
  obtain⟨v,hv,h⟩:=zaL hr j x hx
  exact⟨v,by rwa [Array.getElem?_toList] at hv,h⟩)
 exact⟨this.1,this.2,⟨e,0,0,by simp,.inl (Nat.le_refl _)⟩⟩
theorem zhv {m:Ids} {σ:zaa} {w:World} (hs:St H w m σ) (g:Option Nat):(m++[g])[σ.length]?=some g:=by
 rw [← hs.len]
 simp
def zhw (T:Tab) (e:TypeId) (σ:zaa) (K:AV→zaa→Prop):Prop :=
 match T e with
 | some te=>match te.d with
  | .bld fs=>te.zero=[.pointer none,.slice none 0 0]∧∃ ta tb tc,fs=[(ta,0),(tb,1)]∧T tb=some tc∧∃ eb,tc.d=.slice eb∧K (.ptr σ.length 0) (σ++[.rt true e [.lit (.pointer none),.bsl (σ.length+1) 0]]++[.rt false eb []])
  | _=>K (.ptr σ.length 0) (σ++[.rw (zaE te.zero)])
 | none=>False
theorem walloc_sound {P:Program} {T:Tab} (hT:zaD P T) {w:World} {m:Ids} {σ:zaa} (hs:St H w m σ) {e:TypeId} {K Kp:AV→zaa→Prop} (h:zhw T e σ K):VOK H w m σ K Kp ((Instr.alloc e true (.tuple #[])).run P w):=by
 unfold zhw at h
 split at h
 ·rename_i te hte
  obtain⟨z,hz,hzc⟩:=(hT e te hte).run_zero w
  split at h
  ·rename_i fs hd
   obtain⟨hz0,ta,tb,tc,_,_,eb,_,h⟩:=h
   have hr:reps w (own H m σ) m (zaE te.zero) z.cells.toList:=by rw [hzc];exact zcB _
   have hze:z.cells=#[.pointer none,.slice none 0 0]:=by
    apply Array.ext'
    rw [hzc,hz0]
   have hrun:(Instr.alloc e true (.tuple #[])).run P w=.ok (.pointer (some ⟨w.heap.size,0,none⟩)) { w with heap:=w.heap.push (.cells z.cells e) }:=by
    simp only [Instr.alloc,Sem.run_bind,hz,Result.andThen_ok,newVar,Go.newRow,run_newObj,Sem.run_pure]
   rw [hrun]
   have hcl:∀ (w':World),w'={ w with heap:=w.heap.push (.cells z.cells e) }→∀ (j:Nat),w'.cell? ⟨w.heap.size,j,none⟩=z.cells[j]?:=by
    rintro _ rfl j
    simp [World.cell?]
   obtain⟨s1,x1⟩:=hs.more (w':={ w with heap:=w.heap.push (.cells z.cells e) }) (g:=some w.heap.size) (x:=Blk.rt true e [.lit (.pointer none),.bot]) (by simp) (fun b hb=>by simp only;rw [Array.getElem?_push_lt hb];simp [hb]) rfl rfl rfl (fun b hb=>by cases hb;omega)
    (fun hext=>.inr ⟨_,z.cells,rfl,⟨0,0,by simp,.inl (Nat.le_refl _)⟩,by simp [hze],fun _=>by simp [hze],by
     have hc:=hcl _ rfl
     simp only [zaJ,and_true]
     exact⟨⟨_,by rw [hc,hze];rfl,by simp [rep]⟩,⟨_,by rw [hc,hze];rfl,by simp [rep]⟩⟩⟩)
   obtain⟨s2,x2⟩:=s1.more (w':={ w with heap:=w.heap.push (.cells z.cells e) }) (g:=none) (x:=Blk.rt false eb []) (Nat.le_refl _) (fun _ _=>rfl) rfl rfl rfl (fun b hb=>by cases hb) (fun _=>.inl ⟨rfl,rfl,rfl⟩)
   have hml:m.length=σ.length:=hs.len
   have hi0:(σ++[Blk.rt true e [.lit (.pointer none),.bot]]++[Blk.rt false eb []])[σ.length]?=some (Blk.rt true e [.lit (.pointer none),.bot]):=by
    rw [List.getElem?_append_left (by simp)]
    simp
   have hm0:(m++[some w.heap.size]++[none])[σ.length]?=some (some w.heap.size):=by
    rw [List.getElem?_append_left (by simp [hml]),← hml]
    simp
   have hfin:=s2.turn (i:=σ.length) (g:=w.heap.size) (x:=Blk.rt true e [.lit (.pointer none),.bot]) (x':=Blk.rt true e [.lit (.pointer none),.bsl (σ.length+1) 0]) (w':={ w with heap:=w.heap.push (.cells z.cells e) })
    hi0 rfl rfl hm0 rfl (fun _ _=>rfl) rfl rfl rfl (fun c hc=>⟨c,hc,rfl⟩)
    (fun hext=>.inr ⟨_,z.cells,rfl,⟨0,0,by simp,.inl (Nat.le_refl _)⟩,by simp [hze],fun _=>by simp [hze],by
     have hc:=hcl _ rfl
     simp only [zaJ,and_true]
     exact⟨⟨_,by rw [hc,hze];rfl,by simp [rep]⟩,⟨_,by rw [hc,hze];rfl,by simp [rep,hml]⟩⟩⟩)
   have hset:(σ++[Blk.rt true e [.lit (.pointer none),.bot]]++[Blk.rt false eb []]).set σ.length (Blk.rt true e [.lit (.pointer none),.bsl (σ.length+1) 0])=σ++[Blk.rt true e [.lit (.pointer none),.bsl (σ.length+1) 0]]++[Blk.rt false eb []]:=by
    simp
   rw [hset] at hfin
   refine⟨_,_,_,hfin.1,(x1.trans x2).trans hfin.2,?_,h⟩
   simp only [rep]
   exact⟨_,rfl,hm0⟩
  ·have hr:reps w (own H m σ) m (zaE te.zero) z.cells.toList:=by rw [hzc];exact zcB _
   obtain⟨w',h1,h2,h3,_⟩:=hs.newRow (P:=P) e hr
   have:(Instr.alloc e true (.tuple #[])).run P w=.ok (.pointer (some ⟨w.heap.size,0,none⟩)) w':=by
    simp only [Instr.alloc,Sem.run_bind,hz,Result.andThen_ok,newVar,h1,Sem.run_pure]
   rw [this]
   exact⟨_,_,_,h2,h3,by simp only [rep];exact⟨_,rfl,zhv hs _⟩,h⟩
 ·exact h.elim
def zdo:List AV→Bool
 | .lit (.pointer none)::.lit (.slice none 0 0)::_=>true
 | _=>false
theorem bldlike_eq {l:List AV} (h:zdo l=true):∃ r,l=.lit (.pointer none)::.lit (.slice none 0 0)::r:=by
 unfold zdo at h
 split at h
 ·exact⟨_,rfl⟩
 ·cases h
def wbox (e:TypeId) (x:AV) (σ:zaa) (K:AV→zaa→Prop):Prop:=x.cells.all AV.one=true∧if zdo x.cells=true then ∃ eb,K (.ptr σ.length 0) (σ++[.rt true e (.lit (.pointer none)::.bsl (σ.length+1) 0::x.cells.drop 2)]++[.rt false eb []]) else K (.ptr σ.length 0) (σ++[.rw x.cells])
theorem wbox_sound {P:Program} {w:World} {m:Ids} {σ:zaa} (hs:St H w m σ) {e:TypeId} {x:AV} {v:Value} {K Kp:AV→zaa→Prop} (h:wbox e x σ K) (hx:rep w (own H m σ) m x v):VOK H w m σ K Kp ((Instr.box e v).run P w):=by
 obtain⟨h0,h⟩:=h
 have hr:=zdh hx h0
 split at h
 ·rename_i hbl
  obtain⟨r,hxs⟩:=bldlike_eq hbl
  obtain⟨eb,h⟩:=h
  rw [hxs] at hr h
  have hl:=zan hr
  obtain⟨w',hw'⟩:∃ w',w'={ w with heap:=w.heap.push (.cells v.cells e) }:=⟨_,rfl⟩
  have hsize:v.cells.size=r.length+2:=by
   have:r.length+1+1=v.cells.size:=by simpa using hl.symm
   omega
  have hrow:RowT w' w.heap.size v.cells e:=⟨0,0,by rw [hw'];simp,.inl (Nat.le_refl _)⟩
  have hal:=hs.alloc (w':=w') (c:=v.cells) (e:=e) (lo:=0) (hi:=0) (cs:=.lit (.pointer none)::.lit (.slice none 0 0)::r) (by rw [hw']) (.inl (Nat.le_refl _)) (by rw [hw']) (by rw [hw']) (by rw [hw']) (by simp only [List.length_cons];omega) (fun j x hx=>by
   obtain⟨v,hv,h⟩:=zaL hr j x hx
   exact⟨v,by rwa [Array.getElem?_toList] at hv,h⟩)
  obtain⟨s1,x1⟩:=hal
  obtain⟨s2,x2⟩:=s1.more (w':=w') (g:=none) (x:=Blk.rt false eb []) (Nat.le_refl _) (fun _ _=>rfl) rfl rfl rfl (fun b hb=>by cases hb) (fun _=>.inl ⟨rfl,rfl,rfl⟩)
  have hml:m.length=σ.length:=hs.len
  have hi0:(σ++[Blk.rw (.lit (.pointer none)::.lit (.slice none 0 0)::r)]++[Blk.rt false eb []])[σ.length]?=some (.rw (.lit (.pointer none)::.lit (.slice none 0 0)::r)):=by
   rw [List.getElem?_append_left (by simp)]
   simp
  have hm0:(m++[some w.heap.size]++[none])[σ.length]?=some (some w.heap.size):=by
   rw [List.getElem?_append_left (by simp [hml]),← hml]
   simp
  have hm1:(m++[some w.heap.size]++[none])[σ.length+1]?=some none:=by
   rw [List.getElem?_append_right (by simp [hml])]
   simp [hml]
  have hfin:=s2.turn (i:=σ.length) (g:=w.heap.size) (x':=Blk.rt true e (.lit (.pointer none)::.bsl (σ.length+1) 0::r)) (w':=w') hi0 rfl rfl hm0 rfl (fun _ _=>rfl) rfl rfl rfl (fun c hc=>⟨c,hc,rfl⟩)
   (fun hext=>by
    rcases s2.blk _ _ _ hi0 hm0 with ⟨hc,_⟩ | ⟨g',c,e1,hrow',hle,hat⟩
    ·cases hc
    ·cases e1
     have hce:c=v.cells:=Cel.eq hrow'.cel hrow.row.cel
     subst hce
     refine .inr ⟨_,v.cells,rfl,hrow,by simp [hsize],fun _=>by simp [hsize],?_⟩
     refine zb0 fun j x hx=>?_
     by_cases hj:j=1
     ·subst hj
      simp at hx
      subst hx
      obtain⟨v1,hv1,hr1⟩:=zbD hat 1 (.lit (.slice none 0 0)) rfl
      refine⟨v1,hv1,?_⟩
      simp only [rep] at hr1
      subst hr1
      simp only [rep]
      exact .inl ⟨trivial,trivial,by simp [hml]⟩
     ·refine zbD hat j x ?_
      match j,hj with
      | 0,_=>exact hx
      | j+2,_=>exact hx)
  have hset:(σ++[Blk.rw (.lit (.pointer none)::.lit (.slice none 0 0)::r)]++[Blk.rt false eb []]).set σ.length (Blk.rt true e (.lit (.pointer none)::.bsl (σ.length+1) 0::r))=σ++[Blk.rt true e (.lit (.pointer none)::.bsl (σ.length+1) 0::r)]++[Blk.rt false eb []]:=by
   simp
  rw [hset] at hfin
  have:(Instr.box e v).run P w=.ok (.pointer (some ⟨w.heap.size,0,none⟩)) w':=by
   simp only [Instr.box,newVar,Go.newRow,Sem.run_bind,run_newObj,Result.andThen_ok,Sem.run_pure,hw']
  rw [this]
  refine⟨_,_,_,hfin.1,(x1.trans x2).trans hfin.2,?_,h⟩
  simp only [rep]
  exact⟨_,rfl,hm0⟩
 ·obtain⟨w',h1,h2,h3,_⟩:=hs.newRow (P:=P) e hr
  have:(Instr.box e v).run P w=.ok (.pointer (some ⟨w.heap.size,0,none⟩)) w':=by
   simp only [Instr.box,Sem.run_bind,newVar,h1,Result.andThen_ok,Sem.run_pure]
  rw [this]
  exact⟨_,_,_,h2,h3,by simp only [rep];exact⟨_,rfl,zhv hs _⟩,h⟩
theorem zgr {w:World} {O:Nat→Prop} {m:Ids} (z:Array Value) (n:Nat):reps w O m (zbz z.toList n) ((Array.range (n * z.size)).map (fun i=>z[i % z.size]!)).toList:=by
 refine zhr (by simp [zbz]) fun i x v hx hv=>?_
 simp only [zbz,List.getElem?_map,Array.length_toList] at hx
 rw [Array.getElem?_toList] at hv
 simp only [Array.getElem?_map] at hv
 by_cases hi:i < n * z.size
 ·have hz:0 < z.size:=by
   rcases Nat.eq_zero_or_pos z.size with h | h
   ·simp [h] at hi
   ·exact h
  rw [List.getElem?_range hi] at hx
  simp [hi] at hv hx
  subst hx hv
  simp only [rep]
  rw [getElem!_pos z (i % z.size) (Nat.mod_lt _ hz)]
  simp [Nat.mod_lt _ hz]
 ·simp [hi] at hx
def zjZ (T:Tab) (t:TypeId) (l c:AV) (σ:zaa) (K:AV→zaa→Prop):Prop :=
 match T t,l,c with
 | some ti,.lit (.int _ l),.lit (.int _ c)=>match ti.d with
  | .slice e=>∃ te,T e=some te∧te.zero.length=te.size∧0≤l∧l≤c∧c≤9223372036854775807∧c * te.bytes≤281474976710656∧K (.ref σ.length 0 l.toNat te.size) (σ++[.rw (zbz te.zero l.toNat)])
  | _=>False
 | _,_,_=>False
theorem zft {n:Int} (h0:0≤n) (h1:n≤9223372036854775807):IntKind.i64.wrap n=n:=by
 simp only [IntKind.wrap,IntKind.bits,IntKind.signed]
 simp
 omega
theorem zeros_take (z:List Value) {a b:Nat} (h:a≤b):(zbz z b).take (a * z.length)=zbz z a:=by
 unfold zbz
 rw [← List.map_take,List.take_range,Nat.min_eq_left (Nat.mul_le_mul_right _ h)]
theorem zhx {P:Program} {T:Tab} (hT:zaD P T) {w:World} {m:Ids} {σ:zaa} (hs:St H w m σ) {t:TypeId} {l c:AV} {lv cv:Value} {K Kp:AV→zaa→Prop} (h:zjZ T t l c σ K) (hl:rep w (own H m σ) m l lv) (hc:rep w (own H m σ) m c cv) :
  VOK H w m σ K Kp ((Instr.makeSlice t lv cv).run P w):=by
 unfold zjZ at h
 split at h
 ·rename_i ti kl l kc c hti
  obtain⟨d,hd,hf⟩:=(hT t ti hti).und
  split at h
  ·rename_i e hd'
   rw [hd'] at hf
   simp only [TD.fits] at hf
   subst hf
   obtain⟨te,hte,hzl,h0,h1,h2,h3,hk⟩:=h
   simp only [rep] at hl hc
   subst hl hc
   have ty:=hT e te hte
   obtain⟨i,hi,hisz,hiby,_⟩:=ty.run_typeInfo w
   obtain⟨z,hz,hzc⟩:=ty.run_zero w
   have hzs:z.cells.size=te.size:=by rw [← hzl,← hzc];simp
   let row:Array Value:=(Array.range (c.toNat * z.cells.size)).map (fun i=>z.cells[i % z.cells.size]!)
   have hrow:=zgr (w:=w) (O:=own H m σ) (m:=m) z.cells c.toNat
   have hal:=hs.alloc (w':={ w with heap:=w.heap.push (.cells row e) }) (c:=row) (e:=e) (lo:=0) (hi:=0) (cs:=zbz te.zero l.toNat) rfl (.inl (Nat.le_refl _)) rfl rfl rfl
    (by simp only [zbz,List.length_map,List.length_range,row,Array.size_map,Array.size_range,hzs,hzl];exact Nat.mul_le_mul_right _ (by omega))
    (fun j x hx=>by
     rw [← zeros_take te.zero (b:=c.toNat) (by omega),← hzc] at hx
     rw [List.getElem?_take] at hx
     split at hx
     ·obtain⟨v,hv,h⟩:=zaL hrow j x hx
      exact⟨v,by rwa [Array.getElem?_toList] at hv,h⟩
     ·cases hx)
   have hwl:=zft h0 (by omega)
   have hwc:=zft (n:=c) (by omega) h2
   have hrun:(Instr.makeSlice t (.int kl l) (.int kc c)).run P w=.ok (.slice (some ⟨w.heap.size,0,none⟩) l.toNat c.toNat) { w with heap:=w.heap.push (.cells row e) }:=by
    simp only [Instr.makeSlice,Sem.run_bind,run_underlying hd,Result.andThen_ok,asInt,asIntOf,Sem.run_pure,hi,hiby,hwl,hwc]
    have g1:(decide (c < 0) || decide ((te.bytes:Int) * c > 2 ^ 48))=false:=by
     simp
     refine⟨by omega,?_⟩
     rw [Int.mul_comm]
     omega
    have g2:((decide (c < 0) || decide ((te.bytes:Int) * c > 2 ^ 48)) || decide (l < 0) || decide (l > c))=false:=by
     rw [g1]
     simp
     omega
    rw [g2]
    simp only [Bool.false_eq_true,if_false,Sem.run_bind,Sem.run_pure,Result.andThen_ok,run_askRoom,ty.run_sizeOf]
    by_cases hn:c.toNat * te.size=0
    ·simp only [hn,if_true,Sem.run_pure,Result.andThen_ok,Go.newRow,Sem.run_bind,run_newObj]
     have:row=(Array.range 0).map (fun i=>(#[]:Array Value)[i % (#[]:Array Value).size]!):=by
      simp only [row,hzs,hn]
      simp
     rw [this]
    ·simp only [hn,if_false,Sem.run_bind,hz,Sem.run_pure,Result.andThen_ok,Go.newRow,run_newObj]
     simp only [row,hzs]
   rw [hrun]
   refine⟨_,_,_,hal.1,hal.2,?_,hk⟩
   simp only [rep]
   refine .inr ⟨w.heap.size,c.toNat,row,rfl,zhv hs _,by omega,by simp [maxLen];omega,⟨e,(0,0),by simp [row]⟩,?_⟩
   simp only [row,Array.size_map,Array.size_range,hzs,Nat.zero_add]
   exact Nat.le_refl _
  ·exact h.elim
 ·exact h.elim
end Go.Eng
end

section
namespace Go.Eng
open Go
variable {H : Nat → Prop}
theorem zfu {w:World} {O O':Nat→Prop} {m m':Ids} (h:Ext H w O m w O' m') (hO:∀ b,O' b→O b) {mi:Option Nat} {x:Blk} (hb:zfQ w O m mi x):zfQ w O' m' mi x:=by
 cases x with
 | dead=>trivial
 | ro cj =>
  rcases hb with h1 | ⟨g',e1,h1,h2⟩
  ·exact .inl h1
  ·exact .inr ⟨g',e1,fun ho=>h1 (hO _ ho),zaQ h g' rfl _ _ h2⟩
 | rw cj =>
  rcases hb with h1 | ⟨g',c,e1,hr,h1,h2⟩
  ·exact .inl h1
  ·exact .inr ⟨g',c,e1,hr,h1,zaQ h g' rfl _ _ h2⟩
 | rt xx ee cj =>
  rcases hb with h1 | ⟨g',c,e1,hr,h1,h1',h2⟩
  ·exact .inl h1
  ·exact .inr ⟨g',c,e1,hr,h1,h1',zaQ h g' rfl _ _ h2⟩
 | lp st pend env ps as9 bd =>
  obtain⟨g',e1,h1⟩:=hb
  exact⟨g',e1,h1.move h rfl⟩
 | mpb ks vs =>
  obtain⟨g',e1,h1⟩:=hb
  exact⟨g',e1,h1.move h rfl⟩
 | mpi ks vs sn =>
  obtain⟨g',e1,h1⟩:=hb
  exact⟨g',e1,h1.move h rfl⟩
 | fz fe fk fc =>
  obtain⟨g',e1,h1⟩:=hb
  exact⟨g',e1,h1.move h rfl⟩
theorem St.moveB {w:World} {m:Ids} {σ:zaa} (h:St H w m σ) {id:Nat} {g:Option Nat} {y:Blk} (hyo':y.owned=true) (hi:σ[id]?=some y) (hm:m[id]?=some g) :
  St H w (m++[g]) (σ.set id .dead++[y])∧Ext H w (own H m σ) m w (own H (m++[g]) (σ.set id .dead++[y])) (m++[g]):=by
 have hil:id < σ.length:=(List.getElem?_eq_some_iff.1 hi).1
 have hO:∀ b,own H (m++[g]) (σ.set id .dead++[y]) b→own H m σ b:=by
  intro b hb
  rcases (zgo (by simpa using h.len) g y b).1 hb with h1 | ⟨_,h1⟩
  ·exact zfR rfl b h1
  ·subst h1;exact .inr ⟨id,_,⟨hi,hyo'⟩,hm⟩
 have hext:Ext H w (own H m σ) m w (own H (m++[g]) (σ.set id .dead++[y])) (m++[g]) :=
  ⟨Nat.le_refl _,fun _ _ _=>rfl,fun b hb=>.inl (hO b hb),fun i y hy=>by rw [List.getElem?_append_left (List.getElem?_eq_some_iff.1 hy).1];exact hy,fun _ c hr=>⟨c,hr,rfl⟩,rfl,rfl,rfl,fun _ _=>rfl⟩
 have old:∀ (i:Nat) (x:Blk),(σ.set id .dead++[y])[i]?=some x→(i < σ.length∧((i=id∧x=.dead)∨(i≠id∧σ[i]?=some x)))∨(i=σ.length∧x=y):=by
  intro i x hx
  rcases Nat.lt_trichotomy i σ.length with hlt | hlt | hlt
  ·rw [List.getElem?_append_left (by simpa using hlt)] at hx
   by_cases hid:i=id
   ·subst hid
    simp [hil] at hx
    exact .inl ⟨hlt,.inl ⟨rfl,hx.symm⟩⟩
   ·rw [List.getElem?_set_ne (fun e=>hid e.symm)] at hx
    exact .inl ⟨hlt,.inr ⟨hid,hx⟩⟩
  ·subst hlt
   rw [List.getElem?_append_right (by simp)] at hx
   simp at hx
   exact .inr ⟨rfl,hx.symm⟩
  ·rw [List.getElem?_eq_none (by simp;omega)] at hx
   cases hx
 have oldm:∀ (i:Nat) (x:Option Nat),(m++[g])[i]?=some x→(i < σ.length→m[i]?=some x)∧(i=σ.length→x=g):=by
  intro i x hx
  refine⟨fun hlt=>?_,fun he=>?_⟩
  ·rwa [List.getElem?_append_left (by rw [h.len];exact hlt)] at hx
  ·subst he
   rw [← h.len,List.getElem?_append_right (by omega)] at hx
   simp at hx
   exact hx.symm
 refine⟨⟨by simp [h.len],?_,?_,?_⟩,hext⟩
 ·intro i x mi hx hmi
  rcases old i x hx with ⟨hlt,⟨_,rfl⟩ | ⟨hne,hxi⟩⟩ | ⟨rfl,rfl⟩
  ·trivial
  ·have hb:=h.blk i x mi hxi ((oldm i mi hmi).1 hlt)
   exact zfu hext hO hb
  ·have:=(oldm _ mi hmi).2 rfl
   subst this
   exact zfu hext hO (h.blk id _ mi hi hm)
 ·rintro i j ci cj b ⟨hx,hxo⟩ ⟨hy,hyo⟩ hmi hmj
  rcases old i _ hx with ⟨hli,⟨_,h1⟩ | ⟨hni,hxi⟩⟩ | ⟨ei,hxi⟩
  ·subst h1;cases hxo
  ·rcases old j _ hy with ⟨hlj,⟨_,h1⟩ | ⟨hnj,hyj⟩⟩ | ⟨ej,hyj⟩
   ·subst h1;cases hyo
   ·exact h.inj i j ci cj b ⟨hxi,hxo⟩ ⟨hyj,hyo⟩ ((oldm i _ hmi).1 hli) ((oldm j _ hmj).1 hlj)
   ·have e:=(oldm j _ hmj).2 ej
    subst e
    exact absurd (h.inj i id ci _ b ⟨hxi,hxo⟩ ⟨hi,hyo'⟩ ((oldm i _ hmi).1 hli) hm) hni
  ·rcases old j _ hy with ⟨hlj,⟨_,h1⟩ | ⟨hnj,hyj⟩⟩ | ⟨ej,hyj⟩
   ·subst h1;cases hyo
   ·have e:=(oldm i _ hmi).2 ei
    subst e
    exact absurd (h.inj j id cj _ b ⟨hyj,hyo⟩ ⟨hi,hyo'⟩ ((oldm j _ hmj).1 hlj) hm) hnj
   ·omega
 ·intro b hb
  refine⟨(h.hid b hb).1,?_⟩
  rintro i ci ⟨hx,hxo⟩ hmi
  rcases old i _ hx with ⟨hli,⟨_,h1⟩ | ⟨hni,hxi⟩⟩ | ⟨ei,hxi⟩
  ·subst h1;cases hxo
  ·exact(h.hid b hb).2 i ci ⟨hxi,hxo⟩ ((oldm i _ hmi).1 hli)
  ·have e:=(oldm i _ hmi).2 ei
   subst e
   exact(h.hid b hb).2 id _ ⟨hi,hyo'⟩ hm
theorem St.move {w:World} {m:Ids} {σ:zaa} (h:St H w m σ) {id:Nat} {g:Option Nat} {cs:List AV} (hi:σ[id]?=some (.rw cs)) (hm:m[id]?=some g) :
  St H w (m++[g]) (σ.set id .dead++[.rw cs])∧Ext H w (own H m σ) m w (own H (m++[g]) (σ.set id .dead++[.rw cs])) (m++[g]):=h.moveB rfl hi hm
def asrc (σ:zaa) (size:Nat):AV→Option (List AV × Nat)
 | .lit (.string s)=>if size=1 then some (s.data.toList.map (fun b=>.lit (.int .u8 (b.toNat:Int))),s.size) else none
 | x=>asl σ size x
def adst (σ:zaa) (size:Nat):AV→Option (List AV × Nat × zaa)
 | .lit (.slice none 0 0)=>some ([],0,σ)
 | .ref id 0 len sz=>if sz=size then match σ[id]? with
   | some (.rw cs)=>if len * size≤cs.length then some (cs.take (len * size),len,σ.set id .dead) else none
   | _=>none
  else none
 | _=>none
def adstT (σ:zaa):AV→Option (Nat × TypeId × List AV × Nat)
 | .bsl id len=>match σ[id]? with
   | some (.rt false eb cs)=>if len≤cs.length then some (id,eb,cs.take len,len) else none
   | _=>none
 | _=>none
def zbA (T:Tab) (ts:Array TypeId) (s x:AV) (σ:zaa) (K:AV→zaa→Prop):Prop :=
 match ts[0]?.bind T,ts[1]?.bind T with
 | some ti,some tx=>match ti.d with
  | .slice e=>(∀ k,tx.d≠.int k)∧tx.d≠.other∧∃ te,T e=some te∧match asrc σ te.size x,adst σ te.size s with
   | some (xs,n),some (cs,len,σ1)=>te.zero.length=te.size∧xs.all AV.one=true∧cs.all AV.one=true∧len+n≤9223372036854775807∧(len+n) * te.bytes≤140737488355328 ∧
     K (.ref σ.length 0 (len+n) te.size) (σ1++[.rw (cs++xs)])
   | some (xs,n),none=>match adstT σ s with
    | some (id,eb,cs,len)=>eb=e∧te.size=1∧te.zero.length=te.size∧xs.all AV.one=true∧cs.all AV.one=true∧len+n≤9223372036854775807∧(len+n) * te.bytes≤140737488355328 ∧
     K (.bsl σ.length (len+n)) (σ.set id .dead++[.rt false e (cs++xs)])
    | none=>False
   | _,_=>False
  | _=>False
 | _,_=>False
theorem ziF {P:Program} {w:World} {m:Ids} {σ:zaa} (hs:St H w m σ) {size:Nat} {x:AV} {xs:List AV} {n:Nat} {v:Value} (h:asrc σ size x=some (xs,n)) (hx:rep w (own H m σ) m x v) :
  (Builtin.lenOf v).run P w=.ok n w∧xs.length=n * size∧∃ vs:List Value,(Builtin.firstCells size n v).run P w=.ok vs.toArray w∧reps w (own H m σ) m xs vs:=by
 have slice:asl σ size x=some (xs,n)→(Builtin.lenOf v).run P w=.ok n w∧xs.length=n * size∧∃ vs:List Value,(Builtin.firstCells size n v).run P w=.ok vs.toArray w∧reps w (own H m σ) m xs vs:=by
  intro h
  obtain⟨ad,cap,rfl,_,_,hl,hc⟩:=asl_sound hs h hx
  refine⟨rfl,hl,?_⟩
  by_cases hxs:xs=[]
  ·subst hxs
   refine⟨[],?_,by simp [reps]⟩
   have h0:n * size=0:=by simpa using hl.symm
   cases ad with
   | none=>rfl
   | some a=>simp [Builtin.firstCells,h0,loadCells,loadCellsFrom]
  ·rcases hc with hc | ⟨b,off,rfl,hat⟩
   ·exact absurd hc hxs
   ·obtain⟨vs,h1,h2⟩:=zbF (P:=P) xs hat
    exact⟨vs,by simp only [Builtin.firstCells,← hl];exact h1,h2⟩
 unfold asrc at h
 split at h
 ·rename_i s
  split at h
  ·rename_i h1
   subst h1
   cases h
   simp only [rep] at hx
   subst hx
   refine⟨rfl,by simp,s.data.toList.map (fun b=>.int .u8 (b.toNat:Int)),?_,?_⟩
   ·simp only [Builtin.firstCells,Sem.run_pure,Result.ok.injEq,and_true]
    rw [show s.extract 0 s.size=s by simp]
    apply Array.ext'
    simp
   ·have:=zcB (w:=w) (O:=own H m σ) (m:=m) (s.data.toList.map (fun b=>.int .u8 (b.toNat:Int)))
    rw [zaE,List.map_map] at this
    exact this
  ·cases h
 ·exact slice h
def descInt:TypeDesc→Bool
 | .int _=>true
 | _=>false
theorem ziG {x:TD} {d:TypeDesc} (hf:x.fits d) (h1:∀ k,x≠.int k) (h2:x≠.other):descInt d=false:=by
 cases x <;> simp only [TD.fits] at hf
 case int k=>exact absurd rfl (h1 k)
 case struct=>obtain⟨_,rfl,_⟩:=hf;rfl
 case bld=>obtain⟨_,rfl,_⟩:=hf;rfl
 case iface=>obtain⟨_,rfl⟩:=hf;rfl
 case other=>exact absurd rfl h2
 all_goals (subst hf;rfl)
theorem zcq {P:Program} {w w':World} {ts:Array TypeId} {ty t t1 e:TypeId} {d1:TypeDesc} {size n:Nat} {base:Option Addr} {len cap:Nat} {xv:Value} {vs:List Value}
  (ht:ts[0]?=some t) (ht1:ts[1]?=some t1) (hd:P.underlying t=some (.slice e)) (hd1:P.underlying t1=some d1) (hnz:descInt d1=false) (hsz:∀ w,(sizeOf e).run P w=.ok size w) (hn:(Builtin.lenOf xv).run P w=.ok n w)
  (hroom:len+n≤cap) (hfc:(Builtin.firstCells size n xv).run P w=.ok vs.toArray w)
  (hst:(match base with | some a=>storeCells (a.add (len * size)) vs | none=>pure ():Sem Unit).run P w=.ok () w') :
  (Builtin.append_ ts ty #[.slice base len cap,xv]).run P w=.ok (.slice base (len+n) cap) w':=by
 unfold Builtin.append_
 simp only [ht,ht1,List.getElem?_toArray,List.getElem?_cons_zero,List.getElem?_cons_succ,Sem.run_bind,run_underlying hd,run_underlying hd1,Result.andThen_ok,hsz,Sem.run_pure]
 cases d1 <;> first
  | (cases hnz;done)
  | (simp only [Bool.false_eq_true,if_false,Sem.run_bind,hn,Result.andThen_ok,Bool.not_false,if_true,hroom,hfc]
     cases base with
     | none =>
      simp only [Sem.run_pure,Result.ok.injEq,true_and] at hst
      simp [hst]
     | some a =>
      simp only at hst
      simp [hst])
theorem zeD {P:Program} {w:World} {ts:Array TypeId} {ty t t1 e:TypeId} {d1:TypeDesc} {size n:Nat} {base:Option Addr} {len cap:Nat} {xv:Value} {vs os:List Value} {i:TypeInfo} {z:Value}
  (ht:ts[0]?=some t) (ht1:ts[1]?=some t1) (hd:P.underlying t=some (.slice e)) (hd1:P.underlying t1=some d1) (hnz:descInt d1=false) (hsz:∀ w,(sizeOf e).run P w=.ok size w) (hn:(Builtin.lenOf xv).run P w=.ok n w)
  (hroom:¬ len+n≤cap) (h63:len+n≤9223372036854775807) (hi:P.info? e=some i) (hz:i.zero=some z) (hfits:Builtin.nextslicecap (len+n) cap * i.bytes≤281474976710656)
  (hos:∀ W:World,W.heap=w.heap→(Builtin.firstCells size len (.slice base len cap)).run P W=.ok os.toArray W)
  (hfc:∀ W:World,W.heap=w.heap→(Builtin.firstCells size n xv).run P W=.ok vs.toArray W) :
  (Builtin.append_ ts ty #[.slice base len cap,xv]).run P w=.ok (.slice (some ⟨w.heap.size,0,none⟩) (len+n) (grownCap w (len+n) cap e))
   { w with drawn:=w.drawn+1,heap:=w.heap.push (.cells (os.toArray++vs.toArray++Builtin.zeroCells z.cells (grownCap w (len+n) cap e - (len+n))) e) }:=by
 have hinfo:∀ W:World,(typeInfo e).run P W=.ok i W:=fun W=>by simp [typeInfo,hi]
 have hzv:∀ W:World,(zeroValue e).run P W=.ok z W:=fun W=>by simp [zeroValue,hinfo,hz]
 have c1:¬ (((len+n:Nat):Int) > IntKind.i64.max):=by
  rw [show IntKind.i64.max=9223372036854775807 from rfl]
  omega
 have c2:¬ (Builtin.nextslicecap (len+n) cap * i.bytes > 2 ^ 48):=by
  rw [show (2:Nat) ^ 48=281474976710656 from rfl]
  omega
 have hos1:=hos { w with drawn:=w.drawn+1 } rfl
 have hfc1:=hfc { w with drawn:=w.drawn+1 } rfl
 have hforced:(Question.appendCap (len+n) cap e).forced=false:=rfl
 unfold Builtin.append_
 simp only [ht,ht1,List.getElem?_toArray,List.getElem?_cons_zero,List.getElem?_cons_succ,Sem.run_bind,run_underlying hd,run_underlying hd1,Result.andThen_ok,hsz,Sem.run_pure]
 cases d1 <;> first
  | (cases hnz;done)
  | (simp only [Bool.false_eq_true,if_false,Sem.run_bind,hn,Result.andThen_ok,Bool.not_false,if_true,hroom,hinfo,c1,false_and,Sem.run_ite,c2,run_choose,hforced,run_askRoom]
     simp only [hos1,hfc1,Result.andThen_ok,hzv,newRow,Sem.run_bind,run_newObj,Sem.run_pure,grownCap])
theorem farLoad_heap {P:Program} {w W:World} (hW:W.heap=w.heap) (a:Addr) (b:Bool):W.farLoad P a b=w.farLoad P a b:=by
 obtain⟨h,t,d,o,out⟩:=w
 obtain⟨h',t',d',o',out'⟩:=W
 simp only at hW
 subst hW
 rfl
theorem zbV {P:Program} {w W:World} (hW:W.heap=w.heap):∀ (n:Nat) (a:Addr) (i:Nat) (acc r:Array Value),(loadCellsFrom a i n acc).run P w=.ok r w→(loadCellsFrom a i n acc).run P W=.ok r W
 | 0,a,i,acc,r,h=>by
  simp only [loadCellsFrom,Sem.run_pure,Result.ok.injEq,and_true] at h ⊢
  exact h
 | n+1,a,i,acc,r,h=>by
  simp only [loadCellsFrom] at h ⊢
  rw [Sem.run_bind,run_load] at h ⊢
  have hc:W.cell? (a.add i)=w.cell? (a.add i):=by simp [World.cell?,hW]
  rw [hc]
  cases hv:w.cell? (a.add i) with
  | some v =>
   rw [hv] at h
   simp only [Result.andThen_ok] at h ⊢
   exact zbV hW n a (i+1) _ r h
  | none =>
   rw [hv] at h
   rw [farLoad_heap hW]
   simp only at h ⊢
   split at h
   ·rename_i v l hfl
    simp only [Result.andThen_ok] at h ⊢
    exact zbV hW n a (i+1) _ r h
   ·rename_i e hfl
    simp at h
theorem zdp {P:Program} {w W:World} {size n:Nat} {v:Value} {us:List Value} (h:(Builtin.firstCells size n v).run P w=.ok us.toArray w) (hW:W.heap=w.heap):(Builtin.firstCells size n v).run P W=.ok us.toArray W:=by
 unfold Builtin.firstCells at h ⊢
 split at h
 ·exact zbV hW _ _ _ _ _ h
 ·simp only [Sem.run_pure,Result.ok.injEq,and_true] at h ⊢;exact h
 ·simp only [Sem.run_pure,Result.ok.injEq,and_true] at h ⊢;exact h
 ·simp at h
theorem zdN (z:Array Value) (n:Nat):(Builtin.zeroCells z n).size=n * z.size:=by simp [Builtin.zeroCells]
theorem wappend_sound {P:Program} {T:Tab} (hT:zaD P T) {w:World} {m:Ids} {σ:zaa} (hs:St H w m σ) {ts:Array TypeId} {ty:TypeId} {s x:AV} {sv xv:Value} {K Kp:AV→zaa→Prop} (h:zbA T ts s x σ K) (hsr:rep w (own H m σ) m s sv) (hx:rep w (own H m σ) m x xv) :
  VOK H w m σ K Kp ((Builtin.append_ ts ty #[sv,xv]).run P w):=by
 unfold zbA at h
 split at h
 ·rename_i ti tx hti htx
  obtain⟨t,ht,hti⟩:=Option.bind_eq_some_iff.1 hti
  obtain⟨t1,ht1,htx⟩:=Option.bind_eq_some_iff.1 htx
  obtain⟨d,hd,hf⟩:=(hT t ti hti).und
  obtain⟨d1,hd1,hf1⟩:=(hT t1 tx htx).und
  split at h
  ·rename_i e hd'
   rw [hd'] at hf
   simp only [TD.fits] at hf
   subst hf
   obtain⟨hnint,hnoth,te,hte,h⟩:=h
   have tye:=hT e te hte
   split at h
   ·rename_i xs n cs len σ1 hsrc hdst
    obtain⟨hzl,hxone,hcone,h63,hby,hk⟩:=h
    obtain⟨hlx,hxl,vs,hfc,hvs⟩:=ziF (P:=P) hs hsrc hx
    have hnz:=ziG hf1 hnint hnoth
    obtain⟨i,hi,hisz,hiby,_⟩:=tye.run_typeInfo w
    obtain⟨z,hz,hzc⟩:=tye.run_zero w
    have hzs:z.cells.size=te.size:=by rw [← hzl,← hzc];simp
    have dst:∃ base cap,sv=.slice base len cap∧len≤cap∧cs.length=len * te.size ∧
      St H w m σ1∧Ext H w (own H m σ) m w (own H m σ1) m∧σ1.length=σ.length ∧
      (∃ os:List Value,(Builtin.firstCells te.size len sv).run P w=.ok os.toArray w∧reps w (own H m σ) m cs os) ∧
      ((base=none∧cap=0)∨∃ id g c0 c cs0,base=some ⟨g,0,none⟩∧σ[id]?=some (.rw cs0)∧m[id]?=some (some g)∧Row w g c∧cap * te.size≤c.size∧cap≤maxLen∧σ1=σ.set id .dead∧cs=cs0.take (len * te.size)∧c0=c):=by
     unfold adst at hdst
     split at hdst
     ·cases hdst
      simp only [rep] at hsr
      subst hsr
      exact⟨none,0,rfl,Nat.le_refl _,by simp,hs,Ext.refl _ _ _,rfl,⟨[],by simp [Builtin.firstCells],by simp [reps]⟩,.inl ⟨rfl,rfl⟩⟩
     ·rename_i id len0 sz
      split at hdst
      ·rename_i hsz
       subst hsz
       split at hdst
       ·rename_i cs0 hcs0
        split at hdst
        ·rename_i hle
         cases hdst
         obtain⟨g1,g2⟩:=hs.letgo (i:=id) (x:=.dead) (.inl rfl)
         simp only [rep] at hsr
         rcases hsr with ⟨rfl,rfl,_,_⟩ | ⟨g,cap,c,rfl,hm,hlc,hcm,hrow,hfit⟩
         ·exact⟨none,0,rfl,Nat.le_refl _,by simp,g1,g2,by simp,⟨[],by simp [Builtin.firstCells],by simp [reps]⟩,.inl ⟨rfl,rfl⟩⟩
         ·have hcl:(cs0.take (len * te.size)).length=len * te.size:=by rw [List.length_take];omega
          rcases hs.blk _ _ _ hcs0 hm with ⟨_,hn⟩ | ⟨g',c',e1,hrow1,_,hat⟩
          ·cases hn
          ·cases e1
           cases hrow.eq hrow1.cel
           refine⟨_,cap,rfl,hlc,hcl,g1,g2,by simp,?_,.inr ⟨id,g,c,c,cs0,rfl,hcs0,hm,hrow1,by omega,hcm,rfl,rfl,rfl⟩⟩
           obtain⟨os,h1,h2⟩:=zbF (P:=P) (cs0.take (len * te.size)) (zbu hat _)
           exact⟨os,by rw [hcl] at h1;simp only [Builtin.firstCells];exact h1,h2⟩
        ·cases hdst
       ·cases hdst
      ·cases hdst
     ·cases hdst
    obtain⟨base,cap,hsv,hlc,hcl,hst1,hext1,hlen1,⟨os,hos,hosr⟩,hbase⟩:=dst
    have hread:∀ (size k:Nat) (v:Value) (us:List Value),(Builtin.firstCells size k v).run P w=.ok us.toArray w→∀ W:World,W.heap=w.heap→(Builtin.firstCells size k v).run P W=.ok us.toArray W:=by
     intro size k v us h W hW
     exact zdp h hW
    by_cases hroom:len+n≤cap
    ·-- there is room
     rcases hbase with ⟨rfl,rfl⟩ | ⟨id,g,c0,c,cs0,rfl,hcs0,hm,hrow,hfit,hcm,rfl,hcs,rfl⟩
     ·have hl0:len=0:=by omega
      have hn0:n=0:=by omega
      subst hl0 hn0
      have hxe:xs=[]:=List.eq_nil_of_length_eq_zero (by simpa using hxl)
      have hce:cs=[]:=List.eq_nil_of_length_eq_zero (by simpa using hcl)
      subst hxe hce
      simp only [reps] at hvs
      subst hvs
      have hrun:(Builtin.append_ ts ty #[sv,xv]).run P w=.ok (.slice none 0 0) w:=by
       subst hsv
       exact zcq (vs:=[]) ht ht1 hd hd1 hnz (fun w=>tye.run_sizeOf w) hlx hroom hfc (by simp)
      rw [hrun]
      have hmore:=hst1.more (w':=w) (g:=none) (x:=.rw []) (Nat.le_refl _) (fun _ _=>rfl) rfl rfl rfl (fun b hb=>by cases hb) (fun _=>.inl ⟨rfl,rfl⟩)
      refine⟨_,_,_,hmore.1,hext1.trans hmore.2,?_,by simpa using hk⟩
      simp only [rep]
      refine .inl ⟨trivial,trivial,trivial,?_⟩
      simp only [List.length_append,List.length_singleton,hst1.len,hlen1]
      omega
     ·have hxl':vs.length=n * te.size:=by rw [zan hvs,hxl]
      obtain⟨w',c',h1,h2,h3,h4,h5,h6,h7,h8,h9⟩:=zbU (P:=P) (g:=g) (off:=len * te.size) vs 0 w c0 hrow (by
       have:=Nat.mul_le_mul_right te.size hroom
       rw [Nat.add_mul] at this
       omega) (zdG hvs hxone)
      have hrun:(Builtin.append_ ts ty #[sv,xv]).run P w=.ok (.slice (some ⟨g,0,none⟩) (len+n) cap) w':=by
       subst hsv
       exact zcq ht ht1 hd hd1 hnz (fun w=>tye.run_sizeOf w) hlx hroom hfc (by simp only [add_none,Nat.zero_add];exact h1)
      rw [hrun]
      have hw:=hs.write (cs':=cs++xs) hcs0 hm h4 h5 h6 h7 h8 (fun cc hcc=>by cases hrow.eq hcc;exact⟨c',h2,h3⟩) (fun cc hcc=>by
        cases hrow.eq hcc
        have:=Nat.mul_le_mul_right te.size hroom
        rw [Nat.add_mul] at this
        simp only [List.length_append,hcl,hxl]
        omega) (fun hext=>zb0 fun j y hy=>by
        rw [Nat.zero_add,h2.cell,h9]
        simp only [Nat.add_zero]
        by_cases hj:len * te.size≤j
        ·rw [List.getElem?_append_right (by omega)] at hy
         have hlt:=(List.getElem?_eq_some_iff.1 hy).1
         rw [if_pos (by omega),← hcl]
         obtain⟨v,hv,hr⟩:=zaL hvs _ _ hy
         exact⟨v,hv,zaP hext _ _ hr⟩
        ·rw [List.getElem?_append_left (by omega)] at hy
         rw [if_neg (by omega)]
         rcases hs.blk _ _ _ hcs0 hm with ⟨_,hn⟩ | ⟨g',cc,e1,hrow',_,hat⟩
         ·cases hn
         ·cases e1
          cases hrow.eq hrow'
          rw [hcs,List.getElem?_take,if_pos (by omega)] at hy
          obtain⟨v,hv,hr⟩:=zbD hat j y hy
          rw [Nat.zero_add,hrow.cell] at hv
          exact⟨v,hv,zaP hext _ _ hr⟩)
      have hil:id < σ.length:=(List.getElem?_eq_some_iff.1 hcs0).1
      have hmv:=hw.1.move (id:=id) (g:=some g) (cs:=cs++xs) (by simp [hil]) hm
      rw [List.set_set] at hmv
      refine⟨_,_,_,hmv.1,hw.2.trans hmv.2,?_,hk⟩
      simp only [rep]
      refine .inr ⟨g,cap,c',rfl,zhv hs _,hroom,hcm,h2.cel,by omega⟩
    ·-- it grows
     have hlt:cap < len+n:=by omega
     have hfits:=growslice_fits hlt hby
     have hge:len+n≤grownCap w (len+n) cap e:=grownCap_ge w (len+n) cap e
     have hmx:grownCap w (len+n) cap e≤maxLen:=grownCap_le_maxLen w (len+n) cap e (by unfold maxLen;omega)
     let row:Array Value:=os.toArray++vs.toArray++Builtin.zeroCells z.cells (grownCap w (len+n) cap e - (len+n))
     have hrun:(Builtin.append_ ts ty #[sv,xv]).run P w=.ok (.slice (some ⟨w.heap.size,0,none⟩) (len+n) (grownCap w (len+n) cap e)) { w with drawn:=w.drawn+1,heap:=w.heap.push (.cells row e) }:=by
      subst hsv
      obtain⟨i',hi1,hi2,hi3,z',hi4,hi5⟩:=tye.info
      have hzz:z'.cells=z.cells:=by
       have:z'.cells.toList=z.cells.toList:=hi5.trans hzc.symm
       exact Array.ext' this
      have:=zeD (P:=P) (w:=w) (ts:=ts) (ty:=ty) (base:=base) (cap:=cap) (xv:=xv) (vs:=vs) (os:=os) ht ht1 hd hd1 hnz (fun w=>tye.run_sizeOf w) hlx hroom h63 hi1 hi4 (by rw [hi3];exact hfits) (hread _ _ _ _ hos) (hread _ _ _ _ hfc)
      rw [hzz] at this
      exact this
     rw [hrun]
     have hal:=hst1.alloc (w':={ w with drawn:=w.drawn+1,heap:=w.heap.push (.cells row e) }) (c:=row) (e:=e) (lo:=0) (hi:=0) (cs:=cs++xs) rfl (.inl (Nat.le_refl _)) rfl rfl rfl
      (by simp only [row,Array.size_append,List.size_toArray,List.length_append,zan hosr,zan hvs];omega)
      (fun j y hy=>by
       have hall:=zby hosr hvs
       obtain⟨v,hv,hr⟩:=zaL hall j y hy
       refine⟨v,?_,zaP hext1 _ _ hr⟩
       have hjl:=(List.getElem?_eq_some_iff.1 hv).1
       simp only [row]
       rw [Array.getElem?_append_left (by simpa using hjl)]
       simpa using hv)
     refine⟨_,_,_,hal.1,hext1.trans hal.2,?_,hk⟩
     simp only [rep]
     refine .inr ⟨w.heap.size,_,row,rfl,?_,hge,hmx,⟨e,(0,0),by simp⟩,?_⟩
     ·rw [← hlen1];exact zhv hst1 _
     ·simp only [row,Array.size_append,List.size_toArray,zan hosr,zan hvs,hcl,hxl,zdN,hzs,Nat.zero_add,← Nat.add_mul]
      apply Nat.mul_le_mul_right
      omega
   ·rename_i xs n hsrc hdst
    split at h
    ·rename_i id eb cs len hT'
     obtain⟨rfl,hsz1,hzl,hxone,hcone,h63,hby,hk⟩:=h
     obtain⟨hlx,hxl,vs,hfc,hvs⟩:=ziF (P:=P) hs hsrc hx
     have hnz:=ziG hf1 hnint hnoth
     obtain⟨i,hi,hisz,hiby,_⟩:=tye.run_typeInfo w
     obtain⟨z,hz,hzc⟩:=tye.run_zero w
     have hzs:z.cells.size=te.size:=by rw [← hzl,← hzc];simp
     unfold adstT at hT'
     split at hT'
     ·rename_i id0 len0
      split at hT'
      ·rename_i eb0 cs0 hcs0
       split at hT'
       ·rename_i hle
        simp only [Option.some.injEq,Prod.mk.injEq] at hT'
        obtain⟨rfl,rfl,rfl,rfl⟩:=hT'
        rw [hsz1,Nat.mul_one] at hxl
        rw [hsz1] at hfc hzl hzs
        obtain⟨g1,g2⟩:=hs.letgo (i:=id0) (x:=.dead) (.inl rfl)
        have hcl:(cs0.take len0).length=len0:=by rw [List.length_take];omega
        have dst:∃ base cap,sv=.slice base len0 cap∧len0≤cap ∧
          (∃ os:List Value,(Builtin.firstCells 1 len0 sv).run P w=.ok os.toArray w∧reps w (own H m σ) m (cs0.take len0) os) ∧
          ((base=none∧cap=0)∨∃ g c,base=some ⟨g,0,none⟩∧m[id0]?=some (some g)∧RowT w g c eb0∧cap≤c.size∧cap≤maxLen∧cap≠0):=by
         simp only [rep] at hsr
         rcases hsr with ⟨rfl,rfl,_⟩ | ⟨g,cap,c,rfl,hm,hlc,hcm,hrow,hfit,hc0⟩
         ·exact⟨none,0,rfl,Nat.le_refl _,⟨[],by simp [Builtin.firstCells],by simp [reps]⟩,.inl ⟨rfl,rfl⟩⟩
         ·rcases hs.blk _ _ _ hcs0 hm with ⟨_,_,hn⟩ | ⟨g',c',e1,hrow1,_,_,hat⟩
          ·cases hn
          ·cases e1
           cases hrow.eq hrow1.row.cel
           refine⟨_,cap,rfl,hlc,?_,.inr ⟨g,c,rfl,hm,hrow1,by omega,hcm,hc0⟩⟩
           obtain⟨os,h1,h2⟩:=zbF (P:=P) (cs0.take len0) (zbu hat _)
           exact⟨os,by rw [hcl] at h1;simp only [Builtin.firstCells,Nat.mul_one];exact h1,h2⟩
        obtain⟨base,cap,hsv,hlc,⟨os,hos,hosr⟩,hbase⟩:=dst
        have hread:∀ (size k:Nat) (v:Value) (us:List Value),(Builtin.firstCells size k v).run P w=.ok us.toArray w→∀ W:World,W.heap=w.heap→(Builtin.firstCells size k v).run P W=.ok us.toArray W:=by
         intro size k v us h W hW
         exact zdp h hW
        have hszr:∀ w,(sizeOf eb0).run P w=.ok 1 w:=fun w=>by rw [tye.run_sizeOf,hsz1]
        by_cases hroom:len0+n≤cap
        ·rcases hbase with ⟨rfl,rfl⟩ | ⟨g,c0,rfl,hm,hrowT,hfit,hcm,hc0⟩
         ·have hl0:len0=0:=by omega
          have hn0:n=0:=by omega
          subst hl0 hn0
          have hxe:xs=[]:=List.eq_nil_of_length_eq_zero (by simpa using hxl)
          subst hxe
          simp only [reps] at hvs
          subst hvs
          have hrun:(Builtin.append_ ts ty #[sv,xv]).run P w=.ok (.slice none 0 0) w:=by
           subst hsv
           exact zcq (vs:=[]) ht ht1 hd hd1 hnz hszr hlx hroom hfc (by simp)
          rw [hrun]
          have hmore:=g1.more (w':=w) (g:=none) (x:=.rt false eb0 []) (Nat.le_refl _) (fun _ _=>rfl) rfl rfl rfl (fun b hb=>by cases hb) (fun _=>.inl ⟨rfl,rfl,rfl⟩)
          refine⟨_,_,_,hmore.1,g2.trans hmore.2,?_,by simpa using hk⟩
          simp only [rep]
          refine .inl ⟨trivial,trivial,?_⟩
          simp [hs.len]
         ·have hrow:=hrowT.row
          have hxl':vs.length=n:=by rw [zan hvs,hxl]
          obtain⟨w',c',h1,h2,h3,h4,h5,h6,h7,h8,h9⟩:=zbU (P:=P) (g:=g) (off:=len0) vs 0 w c0 hrow (by omega) (zdG hvs hxone)
          have hrT':RowT w' g c' eb0:=by
           obtain⟨lo,hi',k1,k2⟩:=hrowT
           obtain⟨c2,k3⟩:=zcA (P:=P) (c:=c0) vs 0 w w' c0 k1 h1 (zdG hvs hxone) hrow (by omega)
           obtain⟨e3,lo3,hi3,k4,k5⟩:=h2
           rw [k3] at k4
           simp only [Option.some.injEq,Obj.cells.injEq,Prod.mk.injEq] at k4
           obtain⟨rfl,rfl,rfl,rfl⟩:=k4
           exact⟨lo,hi',k3,k5⟩
          have hrun:(Builtin.append_ ts ty #[sv,xv]).run P w=.ok (.slice (some ⟨g,0,none⟩) (len0+n) cap) w':=by
           subst hsv
           exact zcq ht ht1 hd hd1 hnz hszr hlx hroom hfc (by simp only [add_none,Nat.zero_add,Nat.mul_one];exact h1)
          rw [hrun]
          have hw:=hs.writeT (cs':=cs0.take len0++xs) hcs0 hm h4 h5 h6 h7 h8 (fun cc hcc=>by cases hrow.eq hcc.row;exact⟨c',hrT',h3⟩) (fun cc hcc=>by
            cases hrow.eq hcc.row
            simp only [List.length_append,hcl,hxl]
            omega) (fun h=>by cases h) (fun hext=>zb0 fun j y hy=>by
            rw [Nat.zero_add,h2.cell,h9]
            simp only [Nat.add_zero]
            by_cases hj:len0≤j
            ·rw [List.getElem?_append_right (by omega)] at hy
             have hlt:=(List.getElem?_eq_some_iff.1 hy).1
             rw [if_pos (by omega)]
             rw [hcl] at hy
             obtain⟨v,hv,hr⟩:=zaL hvs _ _ hy
             exact⟨v,hv,zaP hext _ _ hr⟩
            ·rw [List.getElem?_append_left (by omega)] at hy
             rw [if_neg (by omega)]
             rcases hs.blk _ _ _ hcs0 hm with ⟨_,_,hn⟩ | ⟨g',cc,e1,hrow',_,_,hat⟩
             ·cases hn
             ·cases e1
              cases hrow.eq hrow'.row
              rw [List.getElem?_take,if_pos (by omega)] at hy
              obtain⟨v,hv,hr⟩:=zbD hat j y hy
              rw [Nat.zero_add,hrow.cell] at hv
              exact⟨v,hv,zaP hext _ _ hr⟩)
          have hil:id0 < σ.length:=(List.getElem?_eq_some_iff.1 hcs0).1
          have hmv:=hw.1.moveB (id:=id0) (g:=some g) (y:=.rt false eb0 (cs0.take len0++xs)) rfl (by simp [hil]) hm
          rw [List.set_set] at hmv
          refine⟨_,_,_,hmv.1,hw.2.trans hmv.2,?_,hk⟩
          simp only [rep]
          refine .inr ⟨g,cap,c',rfl,zhv hs _,hroom,hcm,h2.cel,by omega,hc0⟩
        ·have hlt:cap < len0+n:=by omega
         have hfits:=growslice_fits hlt hby
         have hge:len0+n≤grownCap w (len0+n) cap eb0:=grownCap_ge w (len0+n) cap eb0
         have hmx:grownCap w (len0+n) cap eb0≤maxLen:=grownCap_le_maxLen w (len0+n) cap eb0 (by unfold maxLen;omega)
         let row:Array Value:=os.toArray++vs.toArray++Builtin.zeroCells z.cells (grownCap w (len0+n) cap eb0 - (len0+n))
         have hrun:(Builtin.append_ ts ty #[sv,xv]).run P w=.ok (.slice (some ⟨w.heap.size,0,none⟩) (len0+n) (grownCap w (len0+n) cap eb0)) { w with drawn:=w.drawn+1,heap:=w.heap.push (.cells row eb0) }:=by
          subst hsv
          obtain⟨i',hi1,hi2,hi3,z',hi4,hi5⟩:=tye.info
          have hzz:z'.cells=z.cells:=by
           have:z'.cells.toList=z.cells.toList:=hi5.trans hzc.symm
           exact Array.ext' this
          have:=zeD (P:=P) (w:=w) (ts:=ts) (ty:=ty) (base:=base) (cap:=cap) (xv:=xv) (vs:=vs) (os:=os) ht ht1 hd hd1 hnz hszr hlx hroom h63 hi1 hi4 (by rw [hi3];exact hfits) (hread _ _ _ _ hos) (hread _ _ _ _ hfc)
          rw [hzz] at this
          exact this
         rw [hrun]
         have hal:=g1.allocT (w':={ w with drawn:=w.drawn+1,heap:=w.heap.push (.cells row eb0) }) (c:=row) (e:=eb0) (lo:=0) (hi:=0) (x:=false) (cs:=cs0.take len0++xs) rfl (.inl (Nat.le_refl _)) rfl rfl rfl
          (by simp only [row,Array.size_append,List.size_toArray,List.length_append,zan hosr,zan hvs];omega) (fun h=>by cases h)
          (fun j y hy=>by
           have hall:=zby hosr hvs
           obtain⟨v,hv,hr⟩:=zaL hall j y hy
           refine⟨v,?_,zaP g2 _ _ hr⟩
           have hjl:=(List.getElem?_eq_some_iff.1 hv).1
           simp only [row]
           rw [Array.getElem?_append_left (by simpa using hjl)]
           simpa using hv)
         refine⟨_,_,_,hal.1,g2.trans hal.2,?_,hk⟩
         simp only [rep]
         refine .inr ⟨w.heap.size,_,row,rfl,?_,hge,hmx,⟨eb0,(0,0),by simp⟩,?_,by omega⟩
         ·have:=zhv g1 (some w.heap.size)
          simpa using this
         ·simp only [row,Array.size_append,List.size_toArray,zan hosr,zan hvs,hcl,hxl,zdN,hzs]
          omega
       ·cases hT'
      ·cases hT'
     ·cases hT'
    ·exact h.elim
   ·exact h.elim
  ·exact h.elim
 ·exact h.elim
end Go.Eng
end

section
namespace Go.Eng
open Go
variable {H : Nat → Prop}
def wappZ (T:Tab) (t:TypeId) (s x:AV) (σ:zaa) (K:AV→zaa→Prop):Prop :=
 match T t,s,x with
 | some ti,.lit (.slice none 0 0),.lit (.int .i64 n)=>match ti.d with
  | .slice e=>∃ te,T e=some te∧0 < n∧(0 < te.size∧te.zero.length=te.size)∧n.toNat * te.bytes≤140737488355328∧n≤9223372036854775807∧K (.ref σ.length 0 n.toNat te.size) (σ++[.rw []])
  | _=>False
 | _,_,_=>False
theorem run_append_zeros {P:Program} {w:World} {ts:Array TypeId} {ty t t1 e:TypeId} {k:IntKind} {size n:Nat} {i:TypeInfo} {z:Value}
  (ht:ts[0]?=some t) (ht1:ts[1]?=some t1) (hd:P.underlying t=some (.slice e)) (hd1:P.underlying t1=some (.int k)) (hsz:∀ w,(sizeOf e).run P w=.ok size w)
  (h0:0 < n) (hs0:0 < size) (h63:n≤9223372036854775807) (hi:P.info? e=some i) (hz:i.zero=some z) (hfits:Builtin.nextslicecap (0+n) 0 * i.bytes≤281474976710656) (hb:n * i.bytes≤281474976710656) :
  (Builtin.append_ ts ty #[.slice none 0 0,.int .i64 (n:Int)]).run P w=.ok (.slice (some ⟨w.heap.size,0,none⟩) (0+n) (grownCap w (0+n) 0 e))
   { w with drawn:=w.drawn+1,heap:=w.heap.push (.cells (#[]++Builtin.zeroCells z.cells n++Builtin.zeroCells z.cells (grownCap w (0+n) 0 e - (0+n))) e) }:=by
 have hinfo:∀ W:World,(typeInfo e).run P W=.ok i W:=fun W=>by simp [typeInfo,hi]
 have hzv:∀ W:World,(zeroValue e).run P W=.ok z W:=fun W=>by simp [zeroValue,hinfo,hz]
 have hw:IntKind.i64.wrap (n:Int)=(n:Int):=by
  simp only [IntKind.wrap,IntKind.bits,IntKind.signed]
  simp
  split <;> omega
 have c0:¬ ((n:Int) < 0):=by omega
 have cb:¬ ((n:Int) * (i.bytes:Int) > 2 ^ 48):=by
  have:(n:Int) * (i.bytes:Int)=((n * i.bytes:Nat):Int):=by simp
  rw [this,show (2:Int) ^ 48=281474976710656 from rfl]
  omega
 have c1:¬ (((0+n:Nat):Int) > IntKind.i64.max):=by
  rw [show IntKind.i64.max=9223372036854775807 from rfl]
  omega
 have c2:¬ (Builtin.nextslicecap (0+n) 0 * i.bytes > 2 ^ 48):=by
  rw [show (2:Nat) ^ 48=281474976710656 from rfl]
  omega
 have hroom:¬ (0+n≤0):=by omega
 have hns:¬ (n * size=0):=by
  have:=Nat.mul_pos h0 hs0
  omega
 have hforced:(Question.appendCap (0+n) 0 e).forced=false:=rfl
 unfold Builtin.append_
 simp only [ht,ht1,List.getElem?_toArray,List.getElem?_cons_zero,List.getElem?_cons_succ,Sem.run_bind,run_underlying hd,run_underlying hd1,Result.andThen_ok,hsz,Sem.run_pure]
 simp only [if_true,asInt,asIntOf,Sem.run_bind,Sem.run_pure,Result.andThen_ok,hw,c0,if_false,hinfo,cb,Int.toNat_natCast,hroom,c1,false_and,Sem.run_ite,c2,run_choose,hforced,run_askRoom,Bool.not_true,Bool.false_eq_true,hns,or_self]
 simp only [Builtin.firstCells,Sem.run_pure,Result.andThen_ok,hzv,newRow,Sem.run_bind,run_newObj,Sem.run_pure,grownCap]
theorem wappZ_sound {P:Program} {T:Tab} (hT:zaD P T) {w:World} {m:Ids} {σ:zaa} (hs:St H w m σ) {ts:Array TypeId} {ty t t1:TypeId} {k:IntKind} {tx:TI} {s x:AV} {sv xv:Value} {K Kp:AV→zaa→Prop}
  (ht:ts[0]?=some t) (ht1:ts[1]?=some t1) (htx:T t1=some tx) (hk:tx.d=.int k) (h:wappZ T t s x σ K) (hsr:rep w (own H m σ) m s sv) (hx:rep w (own H m σ) m x xv) :
  VOK H w m σ K Kp ((Builtin.append_ ts ty #[sv,xv]).run P w):=by
 unfold wappZ at h
 split at h
 ·rename_i ti n hti
  obtain⟨d,hd,hf⟩:=(hT t ti hti).und
  obtain⟨d1,hd1,hf1⟩:=(hT t1 tx htx).und
  rw [hk] at hf1
  simp only [TD.fits] at hf1
  subst hf1
  split at h
  ·rename_i e hd'
   rw [hd'] at hf
   simp only [TD.fits] at hf
   subst hf
   obtain⟨te,hte,h0,⟨hz0,hzl⟩,hby,h63,hk⟩:=h
   have tye:=hT e te hte
   obtain⟨i,hi,hisz,hiby,z,hz,hzc⟩:=tye.info
   simp only [rep] at hsr hx
   subst hsr hx
   obtain⟨n,rfl⟩:∃ m:Nat,n=(m:Int):=⟨n.toNat,by omega⟩
   simp only [Int.toNat_natCast] at hby hk
   have hn0:0 < n:=by omega
   have hfits:=growslice_fits (need:=0+n) (old:=0) (bytes:=te.bytes) (by omega) (by simpa using hby)
   have hrun:=run_append_zeros (P:=P) (w:=w) (ts:=ts) (ty:=ty) ht ht1 hd hd1 (fun w=>tye.run_sizeOf w) hn0 hz0 (by omega) hi hz (by rw [hiby];simpa using hfits) (by rw [hiby];omega)
   rw [hrun]
   have hge:0+n≤grownCap w (0+n) 0 e:=grownCap_ge w (0+n) 0 e
   have hmx:grownCap w (0+n) 0 e≤maxLen:=grownCap_le_maxLen w (0+n) 0 e (by unfold maxLen;omega)
   have hal:=hs.alloc (w':={ w with drawn:=w.drawn+1,heap:=w.heap.push (.cells (#[]++Builtin.zeroCells z.cells n++Builtin.zeroCells z.cells (grownCap w (0+n) 0 e - (0+n))) e) }) (c:=#[]++Builtin.zeroCells z.cells n++Builtin.zeroCells z.cells (grownCap w (0+n) 0 e - (0+n))) (e:=e) (lo:=0) (hi:=0) (cs:=[]) rfl (.inl (Nat.le_refl _)) rfl rfl rfl
    (by simp) (fun j y hy=>by simp at hy)
   refine⟨_,_,_,hal.1,hal.2,?_,hk⟩
   simp only [rep]
   refine .inr ⟨w.heap.size,grownCap w (0+n) 0 e,#[]++Builtin.zeroCells z.cells n++Builtin.zeroCells z.cells (grownCap w (0+n) 0 e - (0+n)),by rw [Nat.zero_add],zhv hs _,by omega,hmx,⟨e,(0,0),by rw [Array.getElem?_push_size]⟩,?_⟩
   have hzs:z.cells.size=te.size:=by rw [← hzl,← hzc];simp
   simp only [Array.size_append,zdN,hzs]
   have:grownCap w (0+n) 0 e * te.size=n * te.size+(grownCap w (0+n) 0 e - (0+n)) * te.size:=by
    rw [← Nat.add_mul]
    congr 1
    omega
   have h0:(#[]:Array Value).size=0:=rfl
   omega
  ·exact h.elim
 ·exact h.elim
def wcap (T:Tab) (t:TypeId) (x:AV) (K:AV→Prop):Prop :=
 match T t,x with
 | some ti,.lit (.slice none 0 0)=>match ti.d with
  | .slice _=>K (.lit (.int .i64 0))
  | _=>False
 | some ti,.sl _ n=>match ti.d with
  | .slice _=>∀ c:Nat,n≤c→c≤maxLen→K (.lit (.int .i64 (c:Int)))
  | _=>False
 | some ti,.ref _ _ n _=>match ti.d with
  | .slice _=>∀ c:Nat,n≤c→c≤maxLen→K (.lit (.int .i64 (c:Int)))
  | _=>False
 | _,_=>False
theorem wcap_sound {P:Program} {T:Tab} (hT:zaD P T) {w:World} {O:Nat→Prop} {m:Ids} {ts:Array TypeId} {ty t:TypeId} {x:AV} {v:Value} {K:AV→Prop} (ht:ts[0]?=some t) (h:wcap T t x K) (hx:rep w O m x v) :
  ∃ u r,(Builtin.cap_ ts ty #[v]).run P w=.ok u w∧rep w O m r u∧K r:=by
 have main:∀ ti e ad n c,T t=some ti→ti.d=.slice e→v=.slice ad n c→K (.lit (.int .i64 (c:Int)))→∃ u r,(Builtin.cap_ ts ty #[v]).run P w=.ok u w∧rep w O m r u∧K r:=by
  intro ti e ad n c hti hd' hv hk
  obtain⟨d,hd,hf⟩:=(hT t ti hti).und
  rw [hd'] at hf
  simp only [TD.fits] at hf
  subst hf hv
  refine⟨goInt c,_,?_,by simp only [rep];rfl,hk⟩
  unfold Builtin.cap_
  simp only [ht,List.getElem?_toArray,List.getElem?_cons_zero,Sem.run_bind,run_underlying hd,Result.andThen_ok,Sem.run_pure]
 unfold wcap at h
 split at h
 ·rename_i ti hti
  simp only [rep] at hx
  split at h
  ·rename_i e hd
   exact main ti _ none 0 0 hti hd hx h
  ·exact h.elim
 ·rename_i ti cs n hti
  simp only [rep] at hx
  obtain⟨ad,cap,e1,e2,e3,_⟩:=hx
  split at h
  ·rename_i e hd
   exact main ti _ ad n cap hti hd e1 (h cap e2 e3)
  ·exact h.elim
 ·rename_i ti id off n sz hti
  simp only [rep] at hx
  split at h
  ·rename_i e hd
   rcases hx with ⟨e1,e2,_,_⟩ | ⟨g,cap,c,e1,_,e2,e3,_⟩
   ·exact main ti _ none 0 0 hti hd e1 (h 0 (by omega) (by simp [maxLen]))
   ·exact main ti _ _ n cap hti hd e1 (h cap e2 e3)
  ·exact h.elim
 ·exact h.elim
def zkd (T:Tab) (op:BinOp) (t:TypeId) (x:AV) (K:AV→Prop):Prop :=
 match T t with
 | some ti=>(∃ e,ti.d=.slice e)∧match op,x with
  | .eql,.lit (.slice none 0 0)=>K (.lit (.bool true))
  | .neq,.lit (.slice none 0 0)=>K (.lit (.bool false))
  | .eql,.sl cs _=>∀ b:Bool,(b=true→cs=[])→K (.lit (.bool b))
  | .neq,.sl cs _=>∀ b:Bool,(b=true→cs=[])→K (.lit (.bool (!b)))
  | .eql,.ref _ _ n _=>∀ b:Bool,(b=true→n=0)→K (.lit (.bool b))
  | .neq,.ref _ _ n _=>∀ b:Bool,(b=true→n=0)→K (.lit (.bool (!b)))
  | _,_=>False
 | none=>False
theorem wnils_sound {P:Program} {T:Tab} (hT:zaD P T) {w:World} {O:Nat→Prop} {m:Ids} {op:BinOp} {t:TypeId} {x:AV} {a:Value} {ox oy:Operand} {K:AV→Prop} (h:zkd T op t x K) (hx:rep w O m x a) :
  ∃ v r,(do eqGuard op t ox oy a (.slice none 0 0);binOp op t a (.slice none 0 0):Sem Value).run P w=.ok v w∧rep w O m r v∧K r:=by
 unfold zkd at h
 split at h
 ·rename_i ti ht
  obtain⟨⟨e,hd⟩,h⟩:=h
  obtain⟨d,hu,hf⟩:=(hT t ti ht).und
  rw [hd] at hf
  simp only [TD.fits] at hf
  subst hf
  have eq:∀ ad n c,(Op.equal t (.slice ad n c) (.slice none 0 0)).run P w=.ok ad.isNone w:=by
   intro ad n c
   show (Op.equalIn (9999+1) t _ _).run P w=_
   unfold Op.equalIn
   simp only [Sem.run_bind,run_underlying hu,Result.andThen_ok]
   cases ad <;> rfl
  have e1:∀ ad n c,(do eqGuard .eql t ox oy (.slice ad n c) (.slice none 0 0);binOp .eql t (.slice ad n c) (.slice none 0 0):Sem Value).run P w=.ok (.bool ad.isNone) w:=by
   intro ad n c
   rw [Sem.run_bind,zdn w (by simp)]
   show (do pure (Value.bool (← Op.equal t _ _)):Sem Value).run P w=_
   rw [Sem.run_bind,eq]
   rfl
  have e2:∀ ad n c,(do eqGuard .neq t ox oy (.slice ad n c) (.slice none 0 0);binOp .neq t (.slice ad n c) (.slice none 0 0):Sem Value).run P w=.ok (.bool (!ad.isNone)) w:=by
   intro ad n c
   rw [Sem.run_bind,zdn w (by simp)]
   show (do pure (Value.bool (!(← Op.equal t _ _))):Sem Value).run P w=_
   rw [Sem.run_bind,eq]
   rfl
  have sl:∀ cs n,rep w O m (.sl cs n) a→∃ ad c,a=.slice ad n c∧(ad.isNone=true→cs=[]):=by
   intro cs n hx
   simp only [rep] at hx
   obtain⟨ad,cap,rfl,_,_,h⟩:=hx
   refine⟨ad,cap,rfl,fun hn=>?_⟩
   rcases h with h | ⟨b,off,rfl,_⟩
   ·exact h
   ·simp at hn
  have rf:∀ id off n sz,rep w O m (.ref id off n sz) a→∃ ad c,a=.slice ad n c∧(ad.isNone=true→n=0):=by
   intro id off n sz hx
   simp only [rep] at hx
   rcases hx with ⟨rfl,rfl,_⟩ | ⟨g,cap,c,rfl,_⟩
   ·exact⟨none,0,rfl,fun _=>rfl⟩
   ·exact⟨_,cap,rfl,fun h=>by simp at h⟩
  split at h
  ·simp only [rep] at hx
   subst hx
   exact⟨_,_,e1 none 0 0,by simp only [rep];rfl,h⟩
  ·simp only [rep] at hx
   subst hx
   exact⟨_,_,e2 none 0 0,by simp only [rep];rfl,h⟩
  ·obtain⟨ad,c,rfl,hb⟩:=sl _ _ hx
   exact⟨_,_,e1 _ _ _,by simp only [rep],h _ hb⟩
  ·obtain⟨ad,c,rfl,hb⟩:=sl _ _ hx
   exact⟨_,_,e2 _ _ _,by simp only [rep],h _ hb⟩
  ·obtain⟨ad,c,rfl,hb⟩:=rf _ _ _ _ hx
   exact⟨_,_,e1 _ _ _,by simp only [rep],h _ hb⟩
  ·obtain⟨ad,c,rfl,hb⟩:=rf _ _ _ _ hx
   exact⟨_,_,e2 _ _ _,by simp only [rep],h _ hb⟩
  ·exact h.elim
 ·exact h.elim
end Go.Eng
end

section
namespace Go.Eng
open Go
variable {H : Nat → Prop}
theorem zfV {w:World} {O:Nat→Prop} {m:Ids}:∀ {cs:List AV} {bs:List UInt8} {vs:List Value},zcz cs=some bs→reps w O m cs vs→∃ ns:List Int,vs=ns.map (Value.int .u8)∧bs=ns.map (fun n=>UInt8.ofNat n.toNat)
 | [],bs,vs,h,hr=>by
  simp only [zcz,Option.some.injEq] at h
  simp only [reps] at hr
  exact⟨[],by simp [hr],by simp [← h]⟩
 | c::cs,bs,vs,h,hr=>by
  simp only [reps] at hr
  obtain⟨v,r,rfl,h1,h2⟩:=hr
  unfold zcz at h
  split at h
  ·rename_i he;cases he
  ·rename_i n r' he
   cases he
   simp only [rep] at h1
   subst h1
   cases hb:zcz cs with
   | none=>simp [hb] at h
   | some bs' =>
    simp only [hb,Option.map_some,Option.some.injEq] at h
    obtain⟨ns,rfl,rfl⟩:=zfV hb h2
    exact⟨n::ns,by simp,by simp [← h]⟩
  ·cases h
theorem zfW:∀ (ns:List Int) (r:ByteArray),ns.foldl (fun r n=>r.push (UInt8.ofNat n.toNat)) r=⟨r.data++(ns.map (fun n=>UInt8.ofNat n.toNat)).toArray⟩
 | [],r=>by simp
 | n::ns,r=>by
  simp only [List.foldl_cons,List.map_cons]
  rw [zfW ns]
  simp [ByteArray.push]
def zjb (T:Tab) (src dst:TypeId) (x:AV) (σ:zaa) (K:AV→zaa→Prop):Prop :=
 match T src,T dst with
 | some ts,some td=>match td.d,x with
  | .int k,.lit (.int _ n)=>K (.lit (.int k (k.wrap n))) σ
  | .str,.lit (.string s)=>K (.lit (.string s)) σ
  | .str,x=>match ts.d with
   | .slice e=>(∃ te,T e=some te∧te.d=.int .u8)∧match asl σ 1 x with
    | some (cs,_)=>match zcz cs with
     | some bs=>K (.lit (.string ⟨bs.toArray⟩)) σ
     | none=>False
    | none=>False
   | _=>False
  | .slice e,.lit (.string s)=>ts.d=.str∧(∃ te,T e=some te∧te.d=.int .u8)∧s.size≤9223372036854775807∧K (.ref σ.length 0 s.size 1) (σ++[.rw (s.data.toList.map (fun b=>.lit (.int .u8 (b.toNat:Int))))])
  | _,_=>False
 | _,_=>False
theorem wconv_sound {P:Program} {T:Tab} (hT:zaD P T) {w:World} {m:Ids} {σ:zaa} (hs:St H w m σ) {src dst:TypeId} {x:AV} {v:Value} {K Kp:AV→zaa→Prop} (h:zjb T src dst x σ K) (hx:rep w (own H m σ) m x v) :
  VOK H w m σ K Kp ((convert src dst v).run P w):=by
 unfold zjb at h
 split at h
 ·rename_i ts td hts htd
  obtain⟨d1,hd1,hf1⟩:=(hT src ts hts).und
  obtain⟨d2,hd2,hf2⟩:=(hT dst td htd).und
  split at h
  ·rename_i k k' n hd
   rw [hd] at hf2
   simp only [TD.fits] at hf2
   subst hf2
   simp only [rep] at hx
   subst hx
   refine VOK.here hs (r:=.lit (.int k (k.wrap n))) (v:=.int k (k.wrap n)) ?_ (by simp only [rep]) h
   unfold convert
   simp only [Sem.run_bind,run_underlying hd1,run_underlying hd2,Result.andThen_ok,Conv.intToInt,Sem.run_pure]
  ·rename_i s hd
   rw [hd] at hf2
   simp only [TD.fits] at hf2
   subst hf2
   simp only [rep] at hx
   subst hx
   refine VOK.here hs (r:=.lit (.string s)) (v:=.string s) ?_ (by simp only [rep]) h
   unfold convert
   simp only [Sem.run_bind,run_underlying hd1,run_underlying hd2,Result.andThen_ok,Sem.run_pure]
  ·rename_i hd _
   rw [hd] at hf2
   simp only [TD.fits] at hf2
   subst hf2
   split at h
   ·rename_i e hds
    rw [hds] at hf1
    simp only [TD.fits] at hf1
    subst hf1
    obtain⟨⟨te,hte,htd⟩,h⟩:=h
    obtain⟨de,hde,hfe⟩:=(hT e te hte).und
    rw [htd] at hfe
    simp only [TD.fits] at hfe
    subst hfe
    split at h
    ·rename_i cs len hasl
     split at h
     ·rename_i bs hbs
      obtain⟨ad,cap,rfl,_,_,hl,hc⟩:=asl_sound hs hasl hx
      refine VOK.here hs (r:=.lit (.string ⟨bs.toArray⟩)) (v:=.string ⟨bs.toArray⟩) ?_ (by simp only [rep]) h
      rw [run_convert_bytes_string w src dst e ad len cap hd1 hde hd2]
      rcases hc with hc | ⟨b,off,rfl,hat⟩
      ·subst hc
       simp only [zcz,Option.some.injEq] at hbs
       subst hbs
       have hl0:len=0:=by simpa using hl.symm
       subst hl0
       cases ad with
       | none=>rfl
       | some a =>
        rw [run_bytesToString w a 0 cap [] (by simp [loadCells,loadCellsFrom])]
        rfl
      ·obtain⟨vs,h1,h2⟩:=zbF (P:=P) cs hat
       obtain⟨ns,rfl,rfl⟩:=zfV hbs h2
       rw [hl,Nat.mul_one] at h1
       rw [run_bytesToString w _ len cap ns h1,zfW]
       have he0:ByteArray.empty.data=#[]:=rfl
       rw [he0]
       simp
     ·exact h.elim
    ·exact h.elim
   ·exact h.elim
  ·rename_i e s hd
   rw [hd] at hf2
   simp only [TD.fits] at hf2
   subst hf2
   simp only [rep] at hx
   subst hx
   obtain⟨hsd,⟨te,hte,htd⟩,hsz,hk⟩:=h
   obtain⟨de,hde,hfe⟩:=(hT e te hte).und
   rw [htd] at hfe
   simp only [TD.fits] at hfe
   subst hfe
   rw [hsd] at hf1
   simp only [TD.fits] at hf1
   subst hf1
   rw [run_bytes_of_string w src dst e s hd1 hd2 hde]
   have hge:=grownCap_ge w s.size 0 e
   have hle:=grownCap_le_maxLen w s.size 0 e (by unfold maxLen;omega)
   have hsize:(bytesRow s (grownCap w s.size 0 e)).size=grownCap w s.size 0 e:=by
    have:s.data.size=s.size:=rfl
    simp [bytesRow]
    omega
   have hal:=hs.alloc (w':=w.drew.alloc (.cells (bytesRow s (grownCap w s.size 0 e)) e ((bytesRow s (grownCap w s.size 0 e)).size,(bytesRow s (grownCap w s.size 0 e)).size+1))) (cs:=s.data.toList.map (fun b=>.lit (.int .u8 (b.toNat:Int))))
    rfl (.inr (Nat.le_refl _)) rfl rfl rfl (by rw [hsize];simpa using hge) (fun j y hy=>by
     rw [List.getElem?_map] at hy
     cases hb:s.data.toList[j]? with
     | none=>simp [hb] at hy
     | some b =>
      simp only [hb,Option.map_some,Option.some.injEq] at hy
      subst hy
      have hj:j < s.data.size:=by simpa using (List.getElem?_eq_some_iff.1 hb).1
      refine⟨_,bytesRow_at s _ j hj,?_⟩
      simp only [rep]
      rw [Array.getElem?_toList,Array.getElem?_eq_getElem hj] at hb
      cases hb
      rfl)
   refine⟨_,_,_,hal.1,hal.2,?_,hk⟩
   simp only [rep]
   refine .inr ⟨w.heap.size,_,_,rfl,zhv hs _,hge,hle,⟨e,_,heap_alloc_new w.drew _⟩,by rw [hsize];omega⟩
  ·exact h.elim
 ·exact h.elim
def putV (cs:List Value) (off:Nat):List Value→List Value
 | []=>cs
 | v::r=>putV (cs.set off v) (off+1) r
theorem reps_put {w:World} {O:Nat→Prop} {m:Ids}:∀ {xs:List AV} {us:List Value} {cs:List AV} {vs:List Value} (off:Nat),reps w O m cs vs→reps w O m xs us→reps w O m (za0 cs off xs) (putV vs off us)
 | [],us,cs,vs,off,h,hx=>by
  simp only [reps] at hx
  subst hx
  exact h
 | x::xs,us,cs,vs,off,h,hx=>by
  simp only [reps] at hx
  obtain⟨u,r,rfl,h1,h2⟩:=hx
  exact reps_put (off+1) (zcW h off h1) h2
theorem zfX:∀ (us:List Value) (k off:Nat) (a:Array Value),(((us.zipIdx k).foldl (fun (cs:Array Value) (p:Value × Nat)=>cs.setIfInBounds (off+p.2) p.1) a)).toList=putV a.toList (off+k) us
 | [],k,off,a=>by simp [putV]
 | u::us,k,off,a=>by
  simp only [List.zipIdx_cons,List.foldl_cons,putV]
  rw [zfX us (k+1) off]
  simp [Nat.add_assoc]
def zbo (place:Nat→Option (Nat × Nat)) (cs:List AV):List (Nat × AV)→Option (List AV)
 | []=>some cs
 | (i,x)::r=>match place i with
  | some (off,size)=>if x.cells.length=size∧off+size≤cs.length∧x.cells.all AV.one=true then zbo place (za0 cs off x.cells) r else none
  | none=>none
def zcX (w:World) (O:Nat→Prop) (m:Ids):List (Nat × AV)→List (Nat × Value)→Prop
 | [],ps=>ps=[]
 | (i,x)::r,ps=>∃ v q,ps=(i,v)::q∧rep w O m x v∧zcX w O m r q
theorem zdq {w:World} {O:Nat→Prop} {m:Ids} {place:Nat→Option (Nat × Nat)}:∀ {ps:List (Nat × AV)} {qs:List (Nat × Value)} {cs cs':List AV} {a:Array Value},zbo place cs ps=some cs'→zcX w O m ps qs→reps w O m cs a.toList→∃ a',Instr.fill place a qs=some a'∧reps w O m cs' a'.toList
 | [],qs,cs,cs',a,h,hp,hr=>by
  simp only [zbo,Option.some.injEq] at h
  simp only [zcX] at hp
  subst h hp
  exact⟨a,rfl,hr⟩
 | (i,x)::ps,qs,cs,cs',a,h,hp,hr=>by
  simp only [zcX] at hp
  obtain⟨v,q,rfl,hx,hq⟩:=hp
  unfold zbo at h
  split at h
  ·rename_i off size hpl
   split at h
   ·rename_i hc
    obtain⟨h1,h2,h3⟩:=hc
    have hrc:=zdh hx h3
    have hl:=zan hr
    have hlc:=zan hrc
    simp only [Array.length_toList] at hl hlc
    have hnew:reps w O m (za0 cs off x.cells) (v.cells.zipIdx.foldl (fun cs (p:Value × Nat)=>cs.setIfInBounds (off+p.2) p.1) a).toList:=by
     rw [← Array.foldl_toList,Array.toList_zipIdx,zfX]
     exact reps_put _ hr hrc
    obtain⟨a',h4,h5⟩:=zdq h hq hnew
    refine⟨a',?_,h5⟩
    simp only [Instr.fill,hpl]
    rw [if_neg (by simp;omega)]
    exact h4
   ·cases h
  ·cases h
theorem zeL {place:Nat→Option (Nat × Nat)}:∀ {ps:List (Nat × AV)} {cs cs':List AV},zbo place cs ps=some cs'→cs'.length=cs.length
 | [],cs,cs',h=>by
  simp only [zbo,Option.some.injEq] at h
  rw [h]
 | (i,x)::ps,cs,cs',h=>by
  unfold zbo at h
  split at h
  ·split at h
   ·rw [zeL h,zc0]
   ·cases h
  ·cases h
def zcj (ev:Operand→AV) (ps:Array (Nat × Operand)):List (Nat × AV):=ps.toList.map fun p=>(p.1,ev p.2)
theorem zeo {w:World} {O:Nat→Prop} {m:Ids} {ev:Operand→AV} {ρ:Operand→Value} (h:∀ x,rep w O m (ev x) (ρ x)):∀ (l:List (Nat × Operand)),zcX w O m (l.map fun p=>(p.1,ev p.2)) (l.map fun p=>(p.1,ρ p.2))
 | []=>by simp [zcX]
 | (i,x)::l=>by
  simp only [List.map_cons,zcX]
  exact⟨ρ x,_,rfl,h x,zeo h l⟩
def zbL (T:Tab) (t:TypeId) (len:Nat) (ps:List (Nat × AV)) (σ:zaa) (K:AV→zaa→Prop):Prop :=
 match T t with
 | some ti=>match ti.d with
  | .slice e=>∃ te,T e=some te∧te.zero.length=te.size∧len≤16777216∧len * te.size≤16777216∧match zbo (fun i=>some (i * te.size,te.size)) (zbz te.zero len) ps with
   | some cs=>K (.ref σ.length 0 len te.size) (σ++[.rw cs])
   | none=>False
  | _=>False
 | none=>False
theorem zdW {P:Program} {T:Tab} (hT:zaD P T) {w:World} {m:Ids} {σ:zaa} (hs:St H w m σ) {t:TypeId} {len:Nat} {ps:List (Nat × AV)} {qs:Array (Nat × Value)} {K Kp:AV→zaa→Prop} (h:zbL T t len ps σ K) (hp:zcX w (own H m σ) m ps qs.toList) :
  VOK H w m σ K Kp ((Instr.buildSlice t len qs).run P w):=by
 unfold zbL at h
 split at h
 ·rename_i ti hti
  obtain⟨d,hd,hf⟩:=(hT t ti hti).und
  split at h
  ·rename_i e hd'
   rw [hd'] at hf
   simp only [TD.fits] at hf
   subst hf
   obtain⟨te,hte,hzl,h24',h24,h⟩:=h
   have ty:=hT e te hte
   obtain⟨z,hz,hzc⟩:=ty.run_zero w
   have hzs:z.cells.size=te.size:=by rw [← hzl,← hzc];simp
   split at h
   ·rename_i cs hfill
    have hrow:=zgr (w:=w) (O:=own H m σ) (m:=m) z.cells len
    rw [hzc] at hrow
    obtain⟨a',h1,h2⟩:=zdq hfill hp hrow
    obtain⟨w',h3,h4,h5,h6⟩:=hs.newRow (P:=P) e h2
    have hlen:=zan h2
    have hrun:(Instr.buildSlice t len qs).run P w=.ok (.slice (some ⟨w.heap.size,0,none⟩) len len) w':=by
     have c24:¬ (len * te.size > 2 ^ 24):=by
      rw [show (2:Nat) ^ 24=16777216 from rfl]
      omega
     unfold Instr.buildSlice
     simp only [Sem.run_bind,run_underlying hd,Result.andThen_ok,ty.run_sizeOf,c24,if_false,Sem.run_ite,Sem.run_pure]
     by_cases hn:len * te.size=0
     ·have e1:(Array.range (len * te.size)).map (fun i=>(#[]:Array Value)[i % (#[]:Array Value).size]!)=(Array.range (len * z.cells.size)).map (fun i=>z.cells[i % z.cells.size]!):=by
       rw [hzs,hn]
       simp
      simp only [hn,if_true]
      rw [hn] at e1
      rw [e1,h1]
      simp only [Sem.run_bind,h3,Result.andThen_ok,Sem.run_pure]
     ·simp only [hn,if_false,hz,Result.andThen_ok]
      rw [hzs] at h1
      rw [hzs,h1]
      simp only [Sem.run_bind,h3,Result.andThen_ok,Sem.run_pure]
    rw [hrun]
    refine⟨_,_,_,h4,h5,?_,h⟩
    simp only [rep]
    have hcl:a'.size=len * te.size:=by
     have:=zeL hfill
     simp only [zbz,List.length_map,List.length_range,hzl] at this
     simp only [Array.length_toList] at hlen
     omega
    refine .inr ⟨w.heap.size,len,a',rfl,zhv hs _,Nat.le_refl _,by unfold maxLen;omega,h6.cel,by omega⟩
   ·exact h.elim
  ·exact h.elim
 ·exact h.elim
theorem zhy {P:Program} {T:Tab} (hT:zaD P T) (w:World):∀ (gs:List Field),(gs.all fun g=>(T g.type).isSome)=true →
  (gs.mapM (fun f=>do pure (f.offset,← sizeOf f.type):Field→Sem (Nat × Nat))).run P w=.ok (gs.map fun g=>(g.offset,((T g.type).map (·.size)).getD 0)) w
 | [],_=>by simp
 | g::gs,h=>by
  simp only [List.all_cons,Bool.and_eq_true] at h
  obtain⟨ti,hti⟩:=Option.isSome_iff_exists.1 h.1
  have e1:=(hT _ _ hti).run_sizeOf w
  have e2:=zhy hT w gs h.2
  simp only [List.mapM_cons,Sem.run_bind,e1,Result.andThen_ok,Sem.run_pure,e2,List.map_cons,hti,Option.map_some,Option.getD_some]
def zaY (T:Tab) (t:TypeId) (ps:List (Nat × AV)) (K:AV→Prop):Prop :=
 match T t with
 | some ti=>match ti.d with
  | .struct fs=>(fs.all fun p=>(T p.1).isSome)=true∧match zbo (fun i=>(fs[i]?).map fun p=>(p.2,((T p.1).map (·.size)).getD 0)) (zaE ti.zero) ps with
   | some cs=>K (.agg cs)
   | none=>False
  | .array _ e=>∃ te,T e=some te∧match zbo (fun i=>some (i * te.size,te.size)) (zaE ti.zero) ps with
   | some cs=>K (.agg cs)
   | none=>False
  | _=>False
 | none=>False
theorem wbuild_sound {P:Program} {T:Tab} (hT:zaD P T) {w:World} {O:Nat→Prop} {m:Ids} {t:TypeId} {ps:List (Nat × AV)} {qs:Array (Nat × Value)} {K:AV→Prop} (h:zaY T t ps K) (hp:zcX w O m ps qs.toList) :
  ∃ u r,(Instr.build t qs).run P w=.ok u w∧rep w O m r u∧K r:=by
 unfold zaY at h
 split at h
 ·rename_i ti hti
  obtain⟨d,hd,hf⟩:=(hT t ti hti).und
  obtain⟨z,hz,hzc⟩:=(hT t ti hti).run_zero w
  have hzr:=zcB (w:=w) (O:=O) (m:=m) ti.zero
  rw [← hzc] at hzr
  split at h
  ·rename_i fs hd'
   rw [hd'] at hf
   simp only [TD.fits] at hf
   obtain⟨gs,rfl,hgs⟩:=hf
   obtain⟨hall,h⟩:=h
   split at h
   ·rename_i cs hfill
    have hall':(gs.toList.all fun g=>(T g.type).isSome)=true:=by
     rw [← hgs] at hall
     simpa [List.all_map,Function.comp_def] using hall
    have hpl:=zhy hT w gs.toList hall'
    have hplace:(fun i=>(gs.toList.map fun g=>(g.offset,((T g.type).map (·.size)).getD 0)).toArray[i]?)=(fun (i:Nat)=>(fs[i]?).map fun (p:TypeId × Nat)=>(p.2,((T p.1).map (·.size)).getD 0)):=by
     funext i
     rw [← hgs]
     simp only [List.getElem?_toArray,List.getElem?_map,Option.map_map,Function.comp_def]
    rw [← hplace,← hzc] at hfill
    obtain⟨a',h1,h2⟩:=zdq hfill hp hzr
    refine⟨.agg a',.agg cs,?_,by simp only [rep];exact⟨a',rfl,h2⟩,h⟩
    unfold Instr.build
    simp only [Sem.run_bind,hz,Result.andThen_ok,run_underlying hd]
    rw [Array.mapM_eq_mapM_toList,Sem.run_map,hpl]
    simp only [Result.andThen_ok,h1,Sem.run_pure]
   ·exact h.elim
  ·rename_i n e hd'
   rw [hd'] at hf
   simp only [TD.fits] at hf
   subst hf
   obtain⟨te,hte,h⟩:=h
   split at h
   ·rename_i cs hfill
    rw [← hzc] at hfill
    obtain⟨a',h1,h2⟩:=zdq hfill hp hzr
    refine⟨.agg a',.agg cs,?_,by simp only [rep];exact⟨a',rfl,h2⟩,h⟩
    unfold Instr.build
    simp only [Sem.run_bind,hz,Result.andThen_ok,run_underlying hd,(hT e te hte).run_sizeOf,h1,Sem.run_pure]
   ·exact h.elim
  ·exact h.elim
 ·exact h.elim
end Go.Eng
end

