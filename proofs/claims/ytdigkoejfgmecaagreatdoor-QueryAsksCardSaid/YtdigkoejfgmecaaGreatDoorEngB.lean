/-
  Regions whose order is open, code, bodies of functions: each rule is proved sound. No condition.
-/
import Derived.Test.YtdigkoejfgmecaaGreatDoorEngE
import Derived.Below
set_option linter.unusedSimpArgs false
set_option linter.unusedVariables false
set_option linter.unusedSectionVars false
section
/-
 A region whose order is open,in which variables are made at any time and each is stored whole once,at any time behind that;other operations may be done in between. No condition.
-/
namespace Go.Eng
open Go
variable {H : Nat → Prop} [Globs]
structure LV where
 f:Nat
 p:Nat
 d:Tmp
 e:TypeId
 bs:Tmp
 te:TI
 xv:AV
def envL:List LV→Nat→Env→Env
 | [],_,e=>e
 | v::vs,k,e=>envL vs (k+1) (e.set v.d (.ptr k 0))
def stoL (vs:List LV):zaa:=vs.map fun v=>.rw v.xv.cells
omit [Globs] in
theorem landAll {w:World} {h:Nat→Option Nat} {tmps:Array Value}:∀ (vs:List LV) (H':Nat→Prop) (m:Ids) (σ:zaa) (env:Env),(∀ b,H' b ↔ H b∨∃ v∈vs,h v.f=some b)→vs.Pairwise (fun u v=>∀ b,h u.f=some b→h v.f≠some b) →
  (∀ v∈vs,∃ g c e,h v.f=some g∧¬ H g∧w.heap[g]?=some (.cells c e (0,0))∧reps w (own H' m σ) m v.xv.cells c.toList∧tmps.setIfInBounds v.d (.pointer (some ⟨g,0,none⟩))=tmps)→St H' w m σ→reps w (own H' m σ) m env tmps.toList →
  ∃ m',St H w m' (σ++stoL vs)∧(∀ Hx,Ext Hx w (own H' m σ) m w (own H m' (σ++stoL vs)) m')∧reps w (own H m' (σ++stoL vs)) m' (envL vs σ.length env) tmps.toList
 | [],H',m,σ,env,hH,_,_,hs,he=>by
  have:H'=H:=funext fun b=>propext (by rw [hH];simp)
  subst this
  refine⟨m,by simpa [stoL] using hs,fun Hx=>by simpa [stoL] using Ext.refl _ _ _,by simpa [stoL,envL] using he⟩
 | v::vs,H',m,σ,env,hH,hp,hv,hs,he=>by
  obtain⟨g,c,e,h1,h2,h3,h4,h5⟩:=hv v (List.mem_cons_self ..)
  obtain⟨hp1,hp2⟩:=List.pairwise_cons.1 hp
  have hH1:H'=Hg (fun b=>H b∨∃ v∈vs,h v.f=some b) g:=funext fun b=>propext (by
   rw [hH]
   simp only [Hg,List.mem_cons,exists_eq_or_imp,h1,Option.some.injEq]
   constructor
   ·rintro(h | h | h)
    ·exact .inl (.inl h)
    ·exact .inr h.symm
    ·exact .inl (.inr h)
   ·rintro((h | h) | h)
    ·exact .inl h
    ·exact .inr (.inr h)
    ·exact .inr (.inl h.symm))
  have hg1:¬ (H g∨∃ v∈vs,h v.f=some g):=by
   rintro(h | ⟨u,hu,h⟩)
   ·exact h2 h
   ·exact hp1 u hu g h1 h
  rw [hH1] at hs h4 he
  obtain⟨l1,l2⟩:=hs.landX hg1 h3 h4
  have hids:(m++[some g])[σ.length]?=some (some g):=by rw [← hs.len];simp
  have hfin:=zcW (zah (l2 H) _ _ he) v.d (x:=.ptr σ.length 0) (v:=.pointer (some ⟨g,0,none⟩)) (by simp only [rep];exact⟨g,rfl,hids⟩)
  have e1:tmps.toList.set v.d (.pointer (some ⟨g,0,none⟩))=tmps.toList:=by
   have:=congrArg Array.toList h5
   rwa [Array.toList_setIfInBounds] at this
  rw [e1] at hfin
  obtain⟨m',q1,q2,q3⟩:=landAll vs _ (m++[some g]) (σ++[.rw v.xv.cells]) (env.set v.d (.ptr σ.length 0)) (fun b=>Iff.rfl) hp2 (fun u hu=>by
   obtain⟨g',c',e',k1,k2,k3,k4,k5⟩:=hv u (List.mem_cons_of_mem _ hu)
   rw [hH1] at k4
   exact⟨g',c',e',k1,k2,k3,zah (l2 H) _ _ k4,k5⟩) l1 hfin
  have ea:σ++[Blk.rw v.xv.cells]++stoL vs=σ++stoL (v::vs):=by simp [stoL]
  rw [ea] at q1 q2 q3
  refine⟨m',q1,fun Hx=>?_,?_⟩
  ·rw [hH1]
   exact(l2 Hx).trans (q2 Hx)
  ·rw [List.length_append] at q3
   exact q3
def FS3 (H:Nat→Prop) (w0:World) (O0:Nat→Prop) (m0:Ids) (σ:zaa) (vs:List LV) (l:Nat→Bool) (env:Env) (a:Act) (w:World) (m:Ids):Prop :=
 ∃ (H':Nat→Prop) (h:Nat→Option Nat),(∀ b,H' b ↔ H b∨∃ v∈vs,h v.f=some b)∧(∀ u∈vs,∀ v∈vs,∀ b,h u.f=some b→h v.f=some b→u.f=v.f)∧(∀ v∈vs,∀ b,h v.f=some b→¬ H b)∧Ext H w0 O0 m0 w (own H' m σ) m∧St H' w m σ∧reps w (own H' m σ) m env a.tmps.toList∧Mk w0.heap.size w (own H' m σ) a.defers ∧
  ∀ v∈vs,(l v.f=false→h v.f=none)∧(l v.f=true→∃ g c e,h v.f=some g∧w.heap[g]?=some (.cells c e (0,0))∧(if l v.p then reps w (own H' m σ) m v.xv.cells c.toList else c.toList=v.te.zero)∧a.tmps.setIfInBounds v.d (.pointer (some ⟨g,0,none⟩))=a.tmps)
structure LV.Ok (T:Tab) (ops:Array Oper) (xs:List (Option Tmp × AV)) (env:Env) (v:LV):Prop where
 hof:∃ of,ops[v.f]?=some of∧of.op=.alloc v.e∧of.dst=some v.d∧of.guard=none
 hte:T v.e=some v.te
 hdst:∀ (j:Nat) (o:Oper),ops[j]?=some o→j≠v.f→o.dst≠some v.d
 hxf:xs[v.f]?=some (some v.d,.bot)
 hpo:∃ opp,ops[v.p]?=some opp∧opp.op=.store v.e (.tmp v.d) (.tmp v.bs)∧opp.dst=none∧opp.guard=none
 hpf:anc ops ops.size v.p v.f=true
 hbs:∀ (j:Nat) (o:Oper),ops[j]?=some o→o.dst=some v.bs→anc ops ops.size v.p j=true∧j < v.p
 hxp:xs[v.p]?=some (none,.lit undef)
 hxv:(zao (fun j=>decide (j < v.p)) 0 xs env)[v.bs]?=some v.xv
 hlen:v.xv.cells.length=v.te.size
 hz:v.te.zero.length=v.te.size
 hone:v.xv.cells.all AV.one=true
 hdl:v.d < env.length
theorem segM_any {r:Option Nat} {n:Nat} {P:Program} {T:Tab} (hT:zaD P T) {ops:Array Oper} {w0:World} {O0:Nat→Prop} {m0:Ids} (hG:Glob w0 O0) {Q:Post} {σ:zaa} {env:Env} {xs:List (Option Tmp × AV)} (hok:zb2 ops=true) (hst:xs.length=ops.size)
  {vs:List LV} (hvs:∀ v∈vs,v.Ok T ops xs env) (hdf:∀ u∈vs,∀ v∈vs,u.f=v.f→u=v) (hdp:∀ u∈vs,∀ v∈vs,u.p=v.p→u=v)
  (hxs:∀ (i:Nat) (o:Oper) (x:Option Tmp × AV),(∀ v∈vs,i≠v.f∧i≠v.p)→ops[i]?=some o→xs[i]?=some x→x.1=o.dst∧YA P T ops σ o (zao (fun j=>decide (j < i)) 0 xs env) x.2)
  (hnext:∀ (fuel:Nat) (l:Array Bool) (a:Act) (w:World) (m:Ids),cnt l ops.size≤fuel→Closed ops l→(∀ i,i < ops.size→zae l i=true)→FS3 H w0 O0 m0 σ vs (fun _=>true) (zao (fun _=>true) 0 xs env) a w m →
   wpAnyIn (FR r) n P .any ops (lift H w0 O0 m0 Q) fuel l a w) :
  ∀ (fuel:Nat) (l:Array Bool) (a:Act) (w:World) (m:Ids),cnt l ops.size≤fuel→Closed ops l→FS3 H w0 O0 m0 σ vs (zae l) (zao (fun j=>zae l j) 0 xs env) a w m →
   wpAnyIn (FR r) n P .any ops (lift H w0 O0 m0 Q) fuel l a w:=by
 have hfin:∀ v∈vs,v.f < ops.size:=fun v hv=>by
  obtain⟨of,h,_⟩:=(hvs v hv).hof
  exact(Array.getElem?_eq_some_iff.1 h).1
 have hpin:∀ v∈vs,v.p < ops.size:=fun v hv=>by
  obtain⟨of,h,_⟩:=(hvs v hv).hpo
  exact(Array.getElem?_eq_some_iff.1 h).1
 have hfp:∀ u∈vs,∀ v∈vs,u.f≠v.p:=fun u hu v hv hh=>by
  obtain⟨of,h1,h2,_⟩:=(hvs u hu).hof
  obtain⟨op,k1,k2,_⟩:=(hvs v hv).hpo
  rw [hh,k1] at h1
  cases h1
  rw [k2] at h2
  cases h2
 have hxd:∀ (i:Nat) (o:Oper) (x:Option Tmp × AV),ops[i]?=some o→xs[i]?=some x→x.1=o.dst:=fun i o x ho hx=>by
  by_cases hif:∃ v∈vs,i=v.f
  ·obtain⟨v,hv,rfl⟩:=hif
   obtain⟨of,h1,_,h3,_⟩:=(hvs v hv).hof
   rw [h1] at ho
   cases ho
   rw [(hvs v hv).hxf] at hx
   cases hx
   exact h3.symm
  ·by_cases hip:∃ v∈vs,i=v.p
   ·obtain⟨v,hv,rfl⟩:=hip
    obtain⟨of,h1,_,h3,_⟩:=(hvs v hv).hpo
    rw [h1] at ho
    cases ho
    rw [(hvs v hv).hxp] at hx
    cases hx
    exact h3.symm
   ·exact(hxs i o x (fun v hv=>⟨fun h=>hif ⟨v,hv,h⟩,fun h=>hip ⟨v,hv,h⟩⟩) ho hx).1
 have done:∀ (l:Array Bool) (a:Act) (w:World) (m:Ids),(∀ i,i < ops.size→zae l i=true)→FS3 H w0 O0 m0 σ vs (zae l) (zao (fun j=>zae l j) 0 xs env) a w m→FS3 H w0 O0 m0 σ vs (fun _=>true) (zao (fun _=>true) 0 xs env) a w m:=by
  intro l a w m hall hF
  rw [zaI (p':=fun j=>zae l j) _ _ _ (fun j hj=>by rw [Nat.zero_add];exact(hall j (by omega)).symm)]
  obtain⟨H',h,k1,k2,k3,k4,k5,k6,k7,k8⟩:=hF
  refine⟨H',h,k1,k2,k3,k4,k5,k6,k7,fun v hv=>⟨fun h=>absurd h (by simp),fun _=>?_⟩⟩
  have:=(k8 v hv).2 (hall _ (hfin v hv))
  rw [hall _ (hpin v hv)] at this
  exact this
 intro fuel
 induction fuel with
 | zero =>
  intro l a w m hc hcl hF
  have hall:=zdI (l:=l) ops.size (by omega)
  exact hnext 0 l a w m hc hcl hall (done l a w m hall hF)
 | succ fuel ih =>
  intro l a w m hc hcl hF
  by_cases hall:∀ i,i < ops.size→zae l i=true
  ·exact hnext _ l a w m hc hcl hall (done l a w m hall hF)
  refine⟨fun hr=>?_,fun i hi=>?_⟩
  ·refine absurd (fun i=>?_) hall
   induction i using Nat.strongRecOn with
   | _ i ihi =>
    intro hi
    cases h1:zae l i with
    | true=>rfl
    | false =>
     have ho : ops[i]? = some (ops[i]'(by omega)) := Array.getElem?_eq_getElem (by omega)
     have:=zet ho hcl.size h1 (fun e he hb=>ihi e.on (zbM hok ho e he hb) (by have:=zbM hok ho e he hb;omega))
     rw [hr] at this
     cases this
  ·obtain⟨o,ho,hil,hun,hdeps⟩:=zaS hi
   have hi':i < ops.size:=(Array.getElem?_eq_some_iff.1 ho).1
   have hdeps':∀ j,anc ops ops.size i j=true→zae l j=true:=fun j hj=>zba hcl _ i j (fun o' ho'=>by rw [ho] at ho';cases ho';exact hdeps) hj
   obtain ⟨x, hx⟩ : ∃ x, xs[i]? = some x := ⟨xs[i]'(by omega), by simp⟩
   have hxi:=hxd i o x ho hx
   have hcl2:∀ (j:Nat) (y:Option Tmp × AV),j≠i→xs[j]?=some y→(∃ t,y.1=some t∧t∈uses ops o)→zae l j=decide (j < i):=by
    rintro j y hji hy ⟨t',hyt,htu⟩
    have hj':j < ops.size:=by have:=(List.getElem?_eq_some_iff.1 hy).1;omega
    have hoj:ops[j]?=some ops[j]:=Array.getElem?_eq_getElem hj'
    have hyd:=hxd j _ y hoj hy
    rcases Nat.lt_or_gt_of_ne hji with hlt | hgt
    ·have hc:zeE ops i j=true:=by
      unfold zeE
      rw [ho,hoj]
      refine aQ15 ?_
      exact .inl ⟨t',by rw [← hyd,hyt];simp,by simpa using htu⟩
     rw [hdeps' _ (zbK hok hi' hlt hc)]
     simp [hlt]
    ·have hc:zeE ops j i=true:=by
      unfold zeE
      rw [ho,hoj]
      refine aQ15 ?_
      exact .inr ⟨t',by rw [← hyd,hyt];simp,by simpa using htu⟩
     have ha:=zbK hok hj' hgt hc
     cases hlj:zae l j with
     | false=>simp;omega
     | true =>
      have:=zba hcl _ j i (fun o' ho' e' he' hb'=>hcl.down j o' ho' hlj e' he' hb') ha
      rw [hun] at this
      cases this
   have hnx:zao (fun j=>zae (l.setIfInBounds i true) j) 0 xs env=aput (zao (fun j=>zae l j) 0 xs env) o.dst x.2:=by
    apply List.ext_getElem?
    intro t'
    by_cases hdt:o.dst=some t'
    ·rw [zd0 xs 0 env i (by rw [hx,← hdt,← hxi]) (by rw [Nat.zero_add,zaf hil,if_pos rfl]) (fun j y hj hy hyt=>by
      rw [Nat.zero_add,zaf hil,if_neg (by omega),hcl2 j y (by omega) hy ⟨t',hyt,by unfold uses;simp [hdt]⟩]
      simp;omega)]
     rw [hdt]
     simp only [aput,List.getElem?_set,zb8]
     simp
    ·rw [zf3 hdt]
     refine zb1 xs 0 env env rfl rfl (fun j y hy hyt=>?_)
     rw [Nat.zero_add,zaf hil]
     by_cases hij:i=j
     ·subst hij
      rw [hx] at hy
      cases hy
      exact absurd (hxi ▸ hyt) hdt
     ·rw [if_neg (by omega)]
   have hcl':Closed ops (l.setIfInBounds i true):=by
    refine⟨by simpa using hcl.size,fun k ok hok' hlk e he hb=>?_⟩
    rw [zaf hil] at hlk ⊢
    by_cases hik:i=k
    ·subst hik
     rw [ho] at hok'
     cases hok'
     rw [hdeps e he hb]
     simp
    ·rw [if_neg hik] at hlk
     rw [hcl.down k ok hok' hlk e he hb]
     simp
   have hcnt:cnt (l.setIfInBounds i true) ops.size≤fuel:=by
    have:=zf4 (l:=l) (l':=l.setIfInBounds i true) (fun j hj=>by rw [zaf hil,hj];simp) hun (by rw [zaf hil,if_pos rfl]) ops.size hi'
    omega
   obtain⟨H',h,hH',hinj,hno,h0,hs,he,hd,hfl⟩:=hF
   have hHH:∀ b,H b→H' b:=fun b hb=>(hH' b).2 (.inl hb)
   unfold wpOpIn
   rw [ho]
   simp only
   by_cases hif:∃ v∈vs,i=v.f
   ·-- a variable is made
    obtain⟨v,hv,rfl⟩:=hif
    obtain⟨of,hof,hop,hod,hog⟩:=(hvs v hv).hof
    have hoo:of=o:=by
     rw [hof] at ho
     exact Option.some.inj ho
    subst hoo
    have hnone:=(hfl v hv).1 hun
    have hpl:zae l v.p=false:=by
     cases hlp:zae l v.p with
     | false=>rfl
     | true =>
      have:=zba hcl _ v.p v.f (fun o' ho' e' he' hb'=>hcl.down v.p o' ho' hlp e' he' hb') (hvs v hv).hpf
      rw [hun] at this
      cases this
    rw [if_pos (by simp [Region.wanted,hog])]
    refine⟨fun _ _=>trivial,?_⟩
    rw [Oper.semAt_eq _ _ _ (by rw [hop];intro c hc;cases hc)]
    obtain⟨zv,hz,hzc⟩:=(hT v.e v.te (hvs v hv).hte).run_zero w
    have hrun:(execOp a.eval of).run P w=.ok (.value (.pointer (some ⟨w.heap.size,0,none⟩))) { w with heap:=w.heap.push (.cells zv.cells v.e) }:=by
     unfold execOp
     rw [hop]
     simp [Instr.alloc,hz,newVar,Go.newRow,run_newObj]
    rw [hrun]
    obtain⟨k1,k2⟩:=hs.hide (w':={ w with heap:=w.heap.push (.cells zv.cells v.e) }) (o:=.cells zv.cells v.e) rfl rfl rfl rfl
    have hlt:∀ b,H' b→b < w.heap.size:=fun b hb=>(hs.hid b hb).1
    have hold:∀ u∈vs,∀ b,h u.f=some b→b < w.heap.size:=fun u hu b hb=>hlt b ((hH' b).2 (.inr ⟨u,hu,hb⟩))
    have hnew:∀ b,b < w.heap.size→(w.heap.push (Obj.cells zv.cells v.e))[b]?=w.heap[b]?:=fun b hb=>by
     rw [Array.getElem?_push]
     rw [if_neg (by omega)]
    have hneq:∀ u∈vs,u≠v→u.f≠v.f:=fun u hu hne hh=>hne (hdf u hu v hv hh)
    have hod':∀ u∈vs,u≠v→u.d≠v.d:=fun u hu hne hh=>(hvs u hu).hdst v.f of hof (fun hh'=>hne (hdf u hu v hv hh'.symm)) (by rw [hod,hh])
    refine ih _ _ _ m hcnt hcl' ⟨Hg H' w.heap.size,fun k=>if k=v.f then some w.heap.size else h k,fun b=>?_,?_,?_,h0.trans (k2.less hHH),k1,?_,?_,?_⟩
    ·simp only [Hg,hH']
     constructor
     ·rintro((hb | ⟨u,hu,hb⟩) | hb)
      ·exact .inl hb
      ·refine .inr ⟨u,hu,?_⟩
       rw [if_neg (fun hh=>?_)]
       ·exact hb
       ·rw [hh,hnone] at hb
        cases hb
      ·exact .inr ⟨v,hv,by rw [if_pos rfl,hb]⟩
     ·rintro(hb | ⟨u,hu,hb⟩)
      ·exact .inl (.inl hb)
      ·by_cases hh:u.f=v.f
       ·rw [if_pos hh] at hb
        cases hb
        exact .inr rfl
       ·rw [if_neg hh] at hb
        exact .inl (.inr ⟨u,hu,hb⟩)
    ·intro u hu u' hu' b hb hb'
     dsimp only at hb hb'
     by_cases hh:u.f=v.f
     ·by_cases hh':u'.f=v.f
      ·omega
      ·rw [if_pos hh] at hb
       rw [if_neg hh'] at hb'
       cases hb
       have:=hold u' hu' _ hb'
       omega
     ·by_cases hh':u'.f=v.f
      ·rw [if_neg hh] at hb
       rw [if_pos hh'] at hb'
       cases hb'
       have:=hold u hu _ hb
       omega
      ·rw [if_neg hh] at hb
       rw [if_neg hh'] at hb'
       exact hinj u hu u' hu' b hb hb'
    ·intro u hu b hb
     dsimp only at hb
     by_cases hh:u.f=v.f
     ·rw [if_pos hh] at hb
      cases hb
      intro hb
      have:=hlt _ (hHH _ hb)
      omega
     ·rw [if_neg hh] at hb
      exact hno u hu b hb
    ·rw [hnx]
     have:=hx.symm.trans (hvs v hv).hxf
     cases this
     exact zaM (zah k2 _ _ he) _ (by simp only [rep])
    ·rw [zaB];exact hd.mono k2
    ·intro u hu
     by_cases huv:u=v
     ·subst huv
      refine⟨fun hl=>absurd hl (by rw [zaf hil,if_pos rfl];simp),fun _=>?_⟩
      refine⟨w.heap.size,zv.cells,u.e,if_pos rfl,by simp,?_,?_⟩
      ·rw [zaf hil,if_neg (hfp u hv u hv),hpl]
       exact hzc
      ·rw [hod]
       simp [Act.put]
     ·have hne:=hneq u hu huv
      refine⟨fun hl=>?_,fun hl=>?_⟩
      ·rw [zaf hil,if_neg (Ne.symm hne)] at hl
       dsimp only
       rw [if_neg hne]
       exact(hfl u hu).1 hl
      ·rw [zaf hil,if_neg (Ne.symm hne)] at hl
       obtain⟨g,c,e',g1,g2,g3,g4⟩:=(hfl u hu).2 hl
       refine⟨g,c,e',by dsimp only;rw [if_neg hne];exact g1,?_,?_,?_⟩
       ·exact(hnew g (hold u hu g g1)).trans g2
       ·have hl2:zae (l.setIfInBounds v.f true) u.p=zae l u.p:=by rw [zaf hil,if_neg (hfp v hv u hu)]
        rw [hl2]
        split
        ·rename_i hlp
         rw [if_pos hlp] at g3
         exact zah k2 _ _ g3
        ·rename_i hlp
         rw [if_neg hlp] at g3
         exact g3
       ·rw [hod]
        simp only [Act.put]
        exact zhM (hod' u hu huv) g4
   ·by_cases hip:∃ v∈vs,i=v.p
    ·-- a store into a variable
     obtain⟨v,hv,rfl⟩:=hip
     obtain⟨opp,hpo,hpop,hpd,hpg⟩:=(hvs v hv).hpo
     have hoo:opp=o:=by
      rw [hpo] at ho
      exact Option.some.inj ho
     subst hoo
     have hlf:zae l v.f=true:=hdeps' v.f (hvs v hv).hpf
     obtain⟨g,c,e',g1,g3,g4,g5⟩:=(hfl v hv).2 hlf
     rw [hun] at g4
     simp only [Bool.false_eq_true,if_false] at g4
     have hHg:H' g:=(hH' g).2 (.inr ⟨v,hv,g1⟩)
     have hHm:H'=Hg (fun b=>H' b∧b≠g) g:=funext fun b=>propext (by
      simp only [Hg]
      constructor
      ·intro hb
       by_cases hbg:b=g
       ·exact .inr hbg
       ·exact .inl ⟨hb,hbg⟩
      ·rintro(hb | hb)
       ·exact hb.1
       ·exact hb ▸ hHg)
     have hel:=zan he
     have hel2:(zao (fun j=>zae l j) 0 xs env).length=env.length:=zb8 _ _ _ _
     have hds:v.d < a.tmps.size:=Nat.lt_of_lt_of_eq (hvs v hv).hdl (by rw [← Array.length_toList,hel,hel2])
     have hev:a.eval (.tmp v.d)=.pointer (some ⟨g,0,none⟩):=by
      simp only [Act.eval,Array.getD_eq_getD_getElem?]
      rw [← g5,Array.getElem?_setIfInBounds_self_of_lt hds]
      rfl
     have hxb:(zao (fun j=>zae l j) 0 xs env)[v.bs]?=some v.xv:=by
      rw [← (hvs v hv).hxv]
      refine zb1 xs 0 env env rfl rfl (fun j y hy hyt=>?_)
      rw [Nat.zero_add]
      have hj':j < ops.size:=by have:=(List.getElem?_eq_some_iff.1 hy).1;omega
      have hoj:ops[j]?=some ops[j]:=Array.getElem?_eq_getElem hj'
      have hyd:=hxd j _ y hoj hy
      obtain⟨b1,b2⟩:=(hvs v hv).hbs j _ hoj (by rw [← hyd,hyt])
      rw [hdeps' j b1]
      simp [b2]
     obtain⟨va,hva,hrv⟩:=zaL he v.bs v.xv hxb
     have hevb:a.eval (.tmp v.bs)=va:=by
      rw [Array.getElem?_toList] at hva
      simp only [Act.eval,Array.getD_eq_getD_getElem?,hva]
      rfl
     have hrc:=zdh hrv (hvs v hv).hone
     have hsz:va.cells.size=v.te.size:=by
      have:=zan hrc
      rw [(hvs v hv).hlen] at this
      simpa using this
     have hcs:c.size=v.te.size:=by
      have:=congrArg List.length g4
      rw [(hvs v hv).hz] at this
      simpa using this
     have hs2:=hs
     have hrc2:=hrc
     rw [hHm] at hs2 hrc2
     obtain⟨w',c',s1,s2,s3,s4,s5⟩:=St.late (P:=P) hs2 (fun hh=>hh.2 rfl) g3 hrc2 (hvs v hv).hone (by simp;omega)
     rw [← hHm] at s4 s5
     have hrun:(execOp a.eval opp).run P w=.ok .skip w':=by
      unfold execOp
      rw [hpop]
      simp only [hev,hevb,Instr.storeAt,Instr.sureAddr,storeVar,Sem.run_bind,Sem.run_pure,Result.andThen_ok,(hT v.e v.te (hvs v hv).hte).run_sizeOf,hsz,ne_eq,not_true_eq_false,if_false,s1]
     rw [if_pos (by simp [Region.wanted,hpg])]
     refine⟨fun _ _=>trivial,?_⟩
     rw [Oper.semAt_eq _ _ _ (by rw [hpop];intro c hc;cases hc),hrun]
     have hput:a.put opp.dst undef=a:=by rw [hpd];rfl
     have hkeep:∀ u∈vs,u≠v→∀ b,h u.f=some b→w'.heap[b]?=w.heap[b]?:=fun u hu hne b hb=>by
      refine s5.hid b ⟨(hH' b).2 (.inr ⟨u,hu,hb⟩),fun hbg=>?_⟩
      subst hbg
      exact hne (hdf u hu v hv (hinj u hu v hv b hb g1))
     have hHH2:∀ b,H b→(H' b∧b≠g):=fun b hb=>⟨hHH b hb,fun hbg=>hno v hv g g1 (hbg ▸ hb)⟩
     refine ih _ _ _ m hcnt hcl' ⟨H',h,hH',hinj,hno,h0.trans (s5.less hHH2),s4,?_,?_,?_⟩
     ·rw [hnx]
      have:=hx.symm.trans (hvs v hv).hxp
      cases this
      rw [hput,hpd]
      exact zah s5 _ _ he
     ·rw [zaB];exact hd.mono s5
     ·intro u hu
      have hl1:zae (l.setIfInBounds v.p true) u.f=zae l u.f:=by rw [zaf hil,if_neg (Ne.symm (hfp u hu v hv))]
      refine⟨fun hl=>(hfl u hu).1 (by rw [← hl1];exact hl),fun hl=>?_⟩
      rw [hl1] at hl
      by_cases huv:u=v
      ·subst huv
       refine⟨g,c',e',g1,s2,?_,by rw [hput];exact g5⟩
       have hl2:zae (l.setIfInBounds u.p true) u.p=true:=by rw [zaf hil,if_pos rfl]
       rw [hl2]
       simp only [if_true]
       rw [s3]
       exact zah s5 _ _ hrc
      ·obtain⟨g',c2,e2,q1,q2,q3,q4⟩:=(hfl u hu).2 hl
       refine⟨g',c2,e2,q1,(hkeep u hu huv g' q1).trans q2,?_,by rw [hput];exact q4⟩
       have hl2:zae (l.setIfInBounds v.p true) u.p=zae l u.p:=by rw [zaf hil,if_neg (fun hh=>huv (hdp u hu v hv hh.symm))]
       rw [hl2]
       split
       ·rename_i hlp
        rw [if_pos hlp] at q3
        exact zah s5 _ _ q3
       ·rename_i hlp
        rw [if_neg hlp] at q3
        exact q3
    ·have hnot:∀ v∈vs,i≠v.f∧i≠v.p:=fun v hv=>⟨fun h=>hif ⟨v,hv,h⟩,fun h=>hip ⟨v,hv,h⟩⟩
     have hya:=(hxs i o x hnot ho hx).2
     have hya':YA P T ops σ o (zao (fun j=>zae l j) 0 xs env) x.2:=by
      refine YA_ev (fun t' ht=>?_) hya
      refine zb1 xs 0 env env rfl rfl (fun j y hy hyt=>?_)
      rw [Nat.zero_add]
      by_cases hji:j=i
      ·subst hji;simp [hun]
      ·rw [hcl2 j y hji hy ⟨t',hyt,by unfold uses;simp only [List.mem_append] at ht ⊢;exact .inl ht⟩]
     have keep:∀ (v:Value) (w':World) (m':Ids),(∀ X vs,reps w (own H' m σ) m X vs→reps w' (own H' m' σ) m' X vs)→(∀ b,H' b→w'.heap[b]?=w.heap[b]?)→∀ u∈vs,(zae (l.setIfInBounds i true) u.f=false→h u.f=none)∧(zae (l.setIfInBounds i true) u.f=true→∃ g c e,h u.f=some g∧w'.heap[g]?=some (.cells c e (0,0))∧(if zae (l.setIfInBounds i true) u.p then reps w' (own H' m' σ) m' u.xv.cells c.toList else c.toList=u.te.zero)∧(a.put o.dst v).tmps.setIfInBounds u.d (.pointer (some ⟨g,0,none⟩))=(a.put o.dst v).tmps):=by
      intro v w' m' hm' hw u hu
      have hl1:zae (l.setIfInBounds i true) u.f=zae l u.f:=by rw [zaf hil,if_neg (hnot u hu).1]
      have hl2:zae (l.setIfInBounds i true) u.p=zae l u.p:=by rw [zaf hil,if_neg (hnot u hu).2]
      rw [hl1,hl2]
      refine⟨(hfl u hu).1,fun hl=>?_⟩
      obtain⟨g,c,e',g1,g2,g3,g4⟩:=(hfl u hu).2 hl
      refine⟨g,c,e',g1,(hw g ((hH' g).2 (.inr ⟨u,hu,g1⟩))).trans g2,?_,?_⟩
      ·split
       ·rename_i hlp
        rw [if_pos hlp] at g3
        exact hm' _ _ g3
       ·rename_i hlp
        rw [if_neg hlp] at g3
        exact g3
      ·cases hd':o.dst with
       | none=>simpa [Act.put] using g4
       | some d' =>
        simp only [Act.put]
        exact zhM (fun hh=>(hvs u hu).hdst i o ho (hnot u hu).1 (by rw [hd',hh])) g4
     rcases zbj (a:=a) hya' he with ⟨hw,h⟩ | ⟨hw,h⟩
     ·rw [if_pos hw]
      have hop:=zf2 hT (hG.mono h0) hs (o:=o) (ρ:=a.eval) h (zaO (hG.mono h0) he)
      refine oper_wpq (hG.mono h0) hs (zes h) hop (fun v r w' m' σ' g1 g2 g3 ⟨g5, g6⟩ => ?_)
      subst g5 g6
      refine ih _ _ _ m' hcnt hcl' ⟨H',_,hH',hinj,hno,h0.trans (g1.less hHH),g2,?_,?_,?_⟩
      ·rw [hnx]
       exact zaM (zah g1 _ _ he) _ g3
      ·rw [zaB];exact hd.mono g1
      ·exact keep v w' m' (fun X vs h=>zah g1 _ _ h) g1.hid
     ·rw [if_neg (by simp [hw])]
      refine⟨fun _ _=>trivial,?_⟩
      refine ih _ _ _ m hcnt hcl' ⟨H',_,hH',hinj,hno,h0,hs,?_,?_,?_⟩
      ·rw [hnx,h]
       exact zaM he _ (by simp only [rep])
      ·rw [zaB];exact hd
      ·exact keep undef w m (fun X vs h=>h) fun _ _=>rfl
end Go.Eng
end

section
namespace Go.Eng
open Go
variable {H : Nat → Prop} [Globs]
inductive LM where
 | mk (d:Tmp) (e:TypeId)
 | st (d:Tmp) (e:TypeId) (bs:Tmp)
def envA:List (Tmp × AV)→Nat→Env→Env
 | [],_,e=>e
 | v::vs,k,e=>envA vs (k+1) (e.set v.1 (.ptr k 0))
def stoA:List (Tmp × AV)→zaa
 | []=>[]
 | v::vs=>.rw v.2.cells::stoA vs
def wM (P:Program) (T:Tab) (ops:Array Oper) (σ:zaa) (Q:Post):List (Nat × LM)→List Oper→Env→List (Tmp × AV)→Prop
 | [],l,env,acc=>wq P T ops σ l env (fun e=>Q .normal (envA acc σ.length e) (σ++stoA acc))
 | (k,.mk d _)::ks,l,env,acc=>wq P T ops σ (l.take k) env (fun e1=>wM P T ops σ Q ks (l.drop (k+1)) (e1.set d .bot) acc)
 | (k,.st d e bs)::ks,l,env,acc=>wq P T ops σ (l.take k) env (fun e1=>match T e with
  | some te=>((e1[bs]?).getD .bot).cells.length=te.size∧te.zero.length=te.size∧((e1[bs]?).getD .bot).cells.all AV.one=true∧wM P T ops σ Q ks (l.drop (k+1)) e1 (acc++[(d,(e1[bs]?).getD .bot)])
  | none=>False)
def mark:List (Nat × LM)→Nat→Option LM
 | [],_=>none
 | (k,m)::ks,i=>if i < k then none else if i=k then some m else mark ks (i - k - 1)
def zb9:Nat→List (Nat × LM)→List (Nat × Tmp × TypeId)
 | _,[]=>[]
 | s,(k,.mk d e)::ks=>(s+k,d,e)::zb9 (s+k+1) ks
 | s,(k,.st _ _ _)::ks=>zb9 (s+k+1) ks
def zbd:Nat→List (Nat × LM)→List (Nat × Tmp × TypeId × Tmp)
 | _,[]=>[]
 | s,(k,.mk _ _)::ks=>zbd (s+k+1) ks
 | s,(k,.st d e bs)::ks=>(s+k,d,e,bs)::zbd (s+k+1) ks
def posOK:Nat→List (Nat × LM)→Bool
 | _,[]=>true
 | n,(k,_)::ks=>decide (k < n) && posOK (n - k - 1) ks
def zipOK (ops:Array Oper) (n:Nat):List (Nat × Tmp × TypeId)→List (Nat × Tmp × TypeId × Tmp)→Bool
 | [],[]=>true
 | (f,d,e)::A,(p,d',e',bs)::S=>decide (d=d') && decide (e=e') && okS ops f p d e bs && decide (d < n) && zipOK ops n A S
 | _,_=>false
def okM (ops:Array Oper) (n:Nat) (ks:List (Nat × LM)):Bool:=posOK ops.size ks && zipOK ops n (zb9 0 ks) (zbd 0 ks)
def stCond (T:Tab) (xs:List (Option Tmp × AV)) (env:Env) (p:Nat) (e:TypeId) (bs:Tmp) (x:AV):Prop :=
 x=((zao (fun j=>decide (j < p)) 0 xs env)[bs]?).getD .bot∧∃ te,T e=some te∧x.cells.length=te.size∧te.zero.length=te.size∧x.cells.all AV.one=true
def stOK (T:Tab) (xs:List (Option Tmp × AV)) (env:Env):List (Nat × Tmp × TypeId × Tmp)→List (Tmp × AV)→Prop
 | [],a=>a=[]
 | (p,d,e,bs)::S,a=>∃ x a',a=(d,x)::a'∧stCond T xs env p e bs x∧stOK T xs env S a'
theorem zgz {T:Tab} {xs xs':List (Option Tmp × AV)} {env env':Env} {c:Nat}:∀ (ks:List (Nat × LM)) (s:Nat) (a:List (Tmp × AV)),(∀ p,s≤p→zao (fun j=>decide (j < p+c)) 0 xs env=zao (fun j=>decide (j < p)) 0 xs' env')→stOK T xs' env' (zbd s ks) a→stOK T xs env (zbd (s+c) ks) a
 | [],s,a,_,h=>h
 | (k,.mk d e)::ks,s,a,hp,h=>by
  simp only [zbd] at h ⊢
  have:=zgz ks (s+k+1) a (fun p hps=>hp p (by omega)) h
  rwa [show s+k+1+c=s+c+k+1 by omega] at this
 | (k,.st d e bs)::ks,s,a,hp,h=>by
  simp only [zbd,stOK] at h ⊢
  obtain⟨x,a',h1,h2,h3⟩:=h
  refine⟨x,a',h1,?_,?_⟩
  ·unfold stCond at h2 ⊢
   rw [show s+c+k=s+k+c by omega,hp (s+k) (by omega)]
   exact h2
  ·have:=zgz ks (s+k+1) a' (fun p hps=>hp p (by omega)) h3
   rwa [show s+k+1+c=s+c+k+1 by omega] at this
theorem wM_vals {P:Program} {T:Tab} {ops:Array Oper} {σ:zaa} {Q:Post}:∀ (ks:List (Nat × LM)) (l:List Oper) (env:Env) (acc:List (Tmp × AV)),posOK l.length ks=true→wM P T ops σ Q ks l env acc →
  ∃ (xs:List (Option Tmp × AV)) (acc2:List (Tmp × AV)),xs.length=l.length ∧
   (∀ i o x,mark ks i=none→l[i]?=some o→xs[i]?=some x→x.1=o.dst∧YA P T ops σ o (zao (fun j=>decide (j < i)) 0 xs env) x.2) ∧
   (∀ i d e,mark ks i=some (.mk d e)→xs[i]?=some (some d,.bot))∧(∀ i d e bs,mark ks i=some (.st d e bs)→xs[i]?=some (none,.lit undef)) ∧
   stOK T xs env (zbd 0 ks) acc2∧Q .normal (envA (acc++acc2) σ.length (zao (fun _=>true) 0 xs env)) (σ++stoA (acc++acc2))
 | [],l,env,acc,_,h=>by
  simp only [wM] at h
  obtain⟨xs,h1,h2,h3⟩:=zdt _ _ h
  exact⟨xs,[],h1,fun i o x _=>h2 i o x,fun i d e h=>by simp [mark] at h,fun i d e bs h=>by simp [mark] at h,rfl,by simpa using h3⟩
 | (k,m)::ks,l,env,acc,hpo,h=>by
  simp only [posOK,Bool.and_eq_true,decide_eq_true_eq] at hpo
  have hdl:(l.drop (k+1)).length=l.length - k - 1:=by simp;omega
  have core:∀ (xs1:List (Option Tmp × AV)) (y:Option Tmp × AV) (acc1:List (Tmp × AV)),xs1.length=k→(∀ i o x,(l.take k)[i]?=some o→xs1[i]?=some x→x.1=o.dst∧YA P T ops σ o (zao (fun j=>decide (j < i)) 0 xs1 env) x.2) →
    (∀ d e,m=.mk d e→y=(some d,.bot))→(∀ d e bs,m=.st d e bs→y=(none,.lit undef))→wM P T ops σ Q ks (l.drop (k+1)) (zao (fun _=>true) 0 (xs1++[y]) env) acc1 →
    ∃ (xs:List (Option Tmp × AV)) (acc2:List (Tmp × AV)),xs.length=l.length ∧
     (∀ i o x,mark ((k,m)::ks) i=none→l[i]?=some o→xs[i]?=some x→x.1=o.dst∧YA P T ops σ o (zao (fun j=>decide (j < i)) 0 xs env) x.2) ∧
     (∀ i d e,mark ((k,m)::ks) i=some (.mk d e)→xs[i]?=some (some d,.bot))∧(∀ i d e bs,mark ((k,m)::ks) i=some (.st d e bs)→xs[i]?=some (none,.lit undef)) ∧
     zao (fun j=>decide (j < k)) 0 xs env=zao (fun _=>true) 0 xs1 env ∧
     stOK T xs env (zbd (0+(k+1)) ks) acc2∧Q .normal (envA (acc1++acc2) σ.length (zao (fun _=>true) 0 xs env)) (σ++stoA (acc1++acc2)):=by
   intro xs1 y acc1 hx1 hx2 hm1 hm2 hw
   obtain⟨xs',acc2,h1,h2,h3,h4,h5,h6⟩:=wM_vals ks _ _ _ (by rw [hdl];exact hpo.2) hw
   have lL:(xs1++[y]).length=k+1:=by simp [hx1]
   have cut:∀ p,zao (fun j=>decide (j < p+(k+1))) 0 ((xs1++[y])++xs') env=zao (fun j=>decide (j < p)) 0 xs' (zao (fun _=>true) 0 (xs1++[y]) env):=fun p=>by
    have:=zd2 (xs1++[y]) xs' p env
    rw [lL,Nat.add_comm] at this
    exact this
   refine⟨(xs1++[y])++xs',acc2,by rw [List.length_append,lL,h1,hdl];omega,?_,?_,?_,?_,?_,?_⟩
   ·intro i o x hm ho hx
    simp only [mark] at hm
    by_cases hik:i < k
    ·rw [List.append_assoc,List.getElem?_append_left (by omega)] at hx
     obtain⟨q1,q2⟩:=hx2 i o x (by rw [List.getElem?_take,if_pos hik];exact ho) hx
     refine⟨q1,?_⟩
     rw [List.append_assoc,zdu _ _ _ (by omega)]
     exact q2
    ·rw [if_neg hik] at hm
     by_cases hik2:i=k
     ·rw [if_pos hik2] at hm;cases hm
     ·rw [if_neg hik2] at hm
      obtain⟨j,rfl⟩:∃ j,i=j+(k+1):=⟨i - (k+1),by omega⟩
      rw [show j+(k+1) - k - 1=j by omega] at hm
      rw [List.getElem?_append_right (by omega),lL,Nat.add_sub_cancel] at hx
      rw [cut]
      exact h2 j o x hm (by rw [List.getElem?_drop,Nat.add_comm (k+1)];exact ho) hx
   ·intro i d e hm
    simp only [mark] at hm
    by_cases hik:i < k
    ·rw [if_pos hik] at hm;cases hm
    ·rw [if_neg hik] at hm
     by_cases hik2:i=k
     ·rw [if_pos hik2] at hm
      have:=hm1 d e (Option.some.inj hm)
      rw [List.getElem?_append_left (by omega),List.getElem?_append_right (by omega),hx1,hik2,this]
      simp
     ·rw [if_neg hik2] at hm
      rw [List.getElem?_append_right (by omega),lL,show i - (k+1)=i - k - 1 by omega]
      exact h3 _ d e hm
   ·intro i d e bs hm
    simp only [mark] at hm
    by_cases hik:i < k
    ·rw [if_pos hik] at hm;cases hm
    ·rw [if_neg hik] at hm
     by_cases hik2:i=k
     ·rw [if_pos hik2] at hm
      have:=hm2 d e bs (Option.some.inj hm)
      rw [List.getElem?_append_left (by omega),List.getElem?_append_right (by omega),hx1,hik2,this]
      simp
     ·rw [if_neg hik2] at hm
      rw [List.getElem?_append_right (by omega),lL,show i - (k+1)=i - k - 1 by omega]
      exact h4 _ d e bs hm
   ·rw [List.append_assoc,zdu _ _ _ (by omega),zaI (p':=fun _=>true) xs1 _ _ (fun j hj=>by simp;omega)]
   ·exact zgz ks 0 acc2 (fun p _=>cut p) h5
   ·rw [zcm]
    exact h6
  cases m with
  | mk d e =>
   simp only [wM] at h
   obtain⟨xs1,h1,h2,h3⟩:=zdt _ _ h
   obtain⟨xs,acc2,q1,q2,q3,q4,_,q6,q7⟩:=core xs1 (some d,.bot) acc (by rw [h1,List.length_take];omega) h2 (fun d' e' hh=>by cases hh;rfl) (fun _ _ _ hh=>by cases hh) (by rw [zcm];exact h3)
   refine⟨xs,acc2,q1,q2,q3,q4,?_,q7⟩
   simpa [zbd] using q6
  | st d e bs =>
   simp only [wM] at h
   obtain⟨xs1,h1,h2,h3⟩:=zdt _ _ h
   cases hte:T e with
   | none=>rw [hte] at h3;exact h3.elim
   | some te =>
    rw [hte] at h3
    obtain⟨g1,g2,g3,g4⟩:=h3
    obtain⟨xs,acc2,q1,q2,q3,q4,q5,q6,q7⟩:=core xs1 (none,.lit undef) (acc++[(d,((zao (fun _=>true) 0 xs1 env)[bs]?).getD .bot)]) (by rw [h1,List.length_take];omega) h2 (fun _ _ hh=>by cases hh) (fun _ _ _ _=>rfl) (by rw [zcm];exact g4)
    refine⟨xs,(d,((zao (fun _=>true) 0 xs1 env)[bs]?).getD .bot)::acc2,q1,q2,q3,q4,?_,by simpa using q7⟩
    simp only [zbd,stOK]
    refine⟨_,acc2,rfl,⟨by rw [Nat.zero_add,q5],te,hte,g1,g2,g3⟩,?_⟩
    rw [show 0+k+1=0+(k+1) by omega]
    exact q6
theorem zfz:∀ (ks:List (Nat × LM)) (s f:Nat) (d:Tmp) (e:TypeId),(f,d,e)∈zb9 s ks→∃ i,f=s+i∧mark ks i=some (.mk d e)
 | [],s,f,d,e,h=>by simp [zb9] at h
 | (k,.mk d' e')::ks,s,f,d,e,h=>by
  simp only [zb9,List.mem_cons] at h
  rcases h with h | h
  ·cases h
   exact⟨k,rfl,by simp [mark]⟩
  ·obtain⟨i,h1,h2⟩:=zfz ks _ f d e h
   refine⟨k+1+i,by omega,?_⟩
   simp only [mark]
   rw [if_neg (by omega),if_neg (by omega),show k+1+i - k - 1=i by omega]
   exact h2
 | (k,.st d' e' b')::ks,s,f,d,e,h=>by
  simp only [zb9] at h
  obtain⟨i,h1,h2⟩:=zfz ks _ f d e h
  refine⟨k+1+i,by omega,?_⟩
  simp only [mark]
  rw [if_neg (by omega),if_neg (by omega),show k+1+i - k - 1=i by omega]
  exact h2
theorem zfA:∀ (ks:List (Nat × LM)) (s f:Nat) (d:Tmp) (e:TypeId) (bs:Tmp),(f,d,e,bs)∈zbd s ks→∃ i,f=s+i∧mark ks i=some (.st d e bs)
 | [],s,f,d,e,bs,h=>by simp [zbd] at h
 | (k,.st d' e' b')::ks,s,f,d,e,bs,h=>by
  simp only [zbd,List.mem_cons] at h
  rcases h with h | h
  ·cases h
   exact⟨k,rfl,by simp [mark]⟩
  ·obtain⟨i,h1,h2⟩:=zfA ks _ f d e bs h
   refine⟨k+1+i,by omega,?_⟩
   simp only [mark]
   rw [if_neg (by omega),if_neg (by omega),show k+1+i - k - 1=i by omega]
   exact h2
 | (k,.mk d' e')::ks,s,f,d,e,bs,h=>by
  simp only [zbd] at h
  obtain⟨i,h1,h2⟩:=zfA ks _ f d e bs h
  refine⟨k+1+i,by omega,?_⟩
  simp only [mark]
  rw [if_neg (by omega),if_neg (by omega),show k+1+i - k - 1=i by omega]
  exact h2
theorem mark_none:∀ (ks:List (Nat × LM)) (s i:Nat),(∀ a∈zb9 s ks,a.1≠s+i)→(∀ a∈zbd s ks,a.1≠s+i)→mark ks i=none
 | [],_,_,_,_=>rfl
 | (k,m)::ks,s,i,h1,h2=>by
  simp only [mark]
  by_cases hik:i < k
  ·rw [if_pos hik]
  ·rw [if_neg hik]
   by_cases he:i=k
   ·subst he
    cases m with
    | mk d e=>exact absurd rfl (h1 _ (by simp only [zb9];exact List.mem_cons_self ..))
    | st d e bs=>exact absurd rfl (h2 _ (by simp only [zbd];exact List.mem_cons_self ..))
   ·rw [if_neg he]
    refine mark_none ks (s+k+1) _ (fun a ha=>?_) (fun a ha=>?_)
    ·have:=h1 a (by cases m <;> simp only [zb9] <;> first | exact List.mem_cons_of_mem _ ha | exact ha)
     omega
    ·have:=h2 a (by cases m <;> simp only [zbd] <;> first | exact List.mem_cons_of_mem _ ha | exact ha)
     omega
theorem zhN:∀ (ks:List (Nat × LM)) (s:Nat),(zb9 s ks).Pairwise (fun a b=>a.1 < b.1)∧∀ a∈zb9 s ks,s≤a.1
 | [],s=>⟨by simp [zb9],by simp [zb9]⟩
 | (k,.mk d e)::ks,s=>by
  obtain⟨h1,h2⟩:=zhN ks (s+k+1)
  simp only [zb9,List.pairwise_cons]
  refine⟨⟨fun a ha=>by have:=h2 a ha;show s+k < a.1;omega,h1⟩,fun a ha=>?_⟩
  rcases List.mem_cons.1 ha with rfl | ha
  ·show s≤s+k
   omega
  ·have:=h2 a ha
   omega
 | (k,.st d e bs)::ks,s=>by
  obtain⟨h1,h2⟩:=zhN ks (s+k+1)
  simp only [zb9]
  exact⟨h1,fun a ha=>by have:=h2 a ha;omega⟩
theorem zhO:∀ (ks:List (Nat × LM)) (s:Nat),(zbd s ks).Pairwise (fun a b=>a.1 < b.1)∧∀ a∈zbd s ks,s≤a.1
 | [],s=>⟨by simp [zbd],by simp [zbd]⟩
 | (k,.st d e bs)::ks,s=>by
  obtain⟨h1,h2⟩:=zhO ks (s+k+1)
  simp only [zbd,List.pairwise_cons]
  refine⟨⟨fun a ha=>by have:=h2 a ha;show s+k < a.1;omega,h1⟩,fun a ha=>?_⟩
  rcases List.mem_cons.1 ha with rfl | ha
  ·show s≤s+k
   omega
  ·have:=h2 a ha
   omega
 | (k,.mk d e)::ks,s=>by
  obtain⟨h1,h2⟩:=zhO ks (s+k+1)
  simp only [zbd]
  exact⟨h1,fun a ha=>by have:=h2 a ha;omega⟩
theorem zip_vars {T:Tab} {ops:Array Oper} {n:Nat} {xs:List (Option Tmp × AV)} {env:Env}:∀ (A:List (Nat × Tmp × TypeId)) (S:List (Nat × Tmp × TypeId × Tmp)) (a:List (Tmp × AV)),zipOK ops n A S=true→stOK T xs env S a →
  ∃ vs:List LV,vs.map (fun v=>(v.f,v.d,v.e))=A∧vs.map (fun v=>(v.p,v.d,v.e,v.bs))=S∧vs.map (fun v=>(v.d,v.xv))=a∧∀ v∈vs,okS ops v.f v.p v.d v.e v.bs=true∧v.d < n∧v.xv=((zao (fun j=>decide (j < v.p)) 0 xs env)[v.bs]?).getD .bot∧T v.e=some v.te∧v.xv.cells.length=v.te.size∧v.te.zero.length=v.te.size∧v.xv.cells.all AV.one=true
 | [],[],a,_,h=>by
  simp only [stOK] at h
  subst h
  exact⟨[],rfl,rfl,rfl,fun v hv=>by cases hv⟩
 | [],_::_,a,h,_=>by simp [zipOK] at h
 | _::_,[],a,h,_=>by simp [zipOK] at h
 | (f,d,e)::A,(p,d',e',bs)::S,a,h,hs=>by
  simp only [zipOK,Bool.and_eq_true,decide_eq_true_eq] at h
  obtain⟨⟨⟨⟨rfl,rfl⟩,h3⟩,h4⟩,h5⟩:=h
  simp only [stOK] at hs
  obtain⟨x,a',rfl,⟨k1,te,k2,k3,k4,k5⟩,hs⟩:=hs
  obtain⟨vs,q1,q2,q3,q4⟩:=zip_vars A S a' h5 hs
  refine⟨⟨f,p,d,e,bs,te,x⟩::vs,by simp [q1],by simp [q2],by simp [q3],fun v hv=>?_⟩
  rcases List.mem_cons.1 hv with rfl | hv
  ·exact⟨h3,h4,k1,k2,k3,k4,k5⟩
  ·exact q4 v hv
omit [Globs] in
theorem zjj {α:Type} {g:α→Nat}:∀ {l:List α},l.Pairwise (fun a b=>g a < g b)→∀ u∈l,∀ v∈l,g u=g v→u=v
 | [],_,u,hu,_,_,_=>by cases hu
 | a::l,hp,u,hu,v,hv,h=>by
  obtain⟨h1,h2⟩:=List.pairwise_cons.1 hp
  rcases List.mem_cons.1 hu with hu1 | hu1
  ·rcases List.mem_cons.1 hv with hv1 | hv1
   ·rw [hu1,hv1]
   ·have:=h1 v hv1
    rw [hu1] at h
    omega
  ·rcases List.mem_cons.1 hv with hv1 | hv1
   ·have:=h1 u hu1
    rw [hv1] at h
    omega
   ·exact zjj h2 u hu1 v hv1 h
theorem envL_A:∀ (vs:List LV) (k:Nat) (e:Env),envL vs k e=envA (vs.map fun v=>(v.d,v.xv)) k e
 | [],_,_=>rfl
 | v::vs,k,e=>by simp only [envL,List.map_cons,envA];exact envL_A vs _ _
theorem stoL_A:∀ (vs:List LV),stoL vs=stoA (vs.map fun v=>(v.d,v.xv))
 | []=>rfl
 | v::vs=>by
  have:=stoL_A vs
  simp only [stoL] at this
  simp only [stoL,List.map_cons,stoA,this]
theorem drawM_sound {r:Option Nat} {n:Nat} {P:Program} {T:Tab} (hT:zaD P T) {ops:Array Oper} {w0:World} {O0:Nat→Prop} {m0:Ids} (hG:Glob w0 O0) {Q:Post} {σ:zaa} {env:Env} {a:Act} {w:World} {m:Ids} {id:Nat} {ks:List (Nat × LM)} (hm:P.follows .mixedOrders=true) (hok:zb2 ops=true) (hS:okM ops env.length ks=true)
  (h:wM P T ops σ Q ks ops.toList env []) (h0:Ext H w0 O0 m0 w (own H m σ) m) (hs:St H w m σ) (he:reps w (own H m σ) m env a.tmps.toList) (hd:Mk w0.heap.size w (own H m σ) a.defers):(Code.region id ops true).wpIn (FR r) n P (lift H w0 O0 m0 Q) a w:=by
 refine wpIn_region_any hm ?_
 obtain⟨k1,k2⟩:=hs.old (w':={ heap:=w.heap,tape:=w.tape,drawn:=w.drawn+1,os:=w.os,output:=w.output }) (Nat.le_refl _) (fun _ _=>rfl) rfl rfl rfl
 simp only [okM,Bool.and_eq_true] at hS
 obtain⟨hpos,hzip⟩:=hS
 obtain⟨xs,acc2,x1,x2,x3,x4,x5,x6⟩:=wM_vals ks _ _ _ (by simpa using hpos) h
 rw [Array.length_toList] at x1
 rw [List.nil_append] at x6
 obtain⟨vs,v1,v2,v3,v4⟩:=zip_vars _ _ _ hzip x5
 have hup:=(zhN ks 0).1
 rw [← v1,List.pairwise_map] at hup
 have hup2:=(zhO ks 0).1
 rw [← v2,List.pairwise_map] at hup2
 have hlo:∀ i,zae (Array.replicate ops.size false) i=false:=fun i=>by
  refine aQ16 ?_
  split <;> rfl
 have ok:∀ v∈vs,v.Ok T ops xs env:=by
  intro v hv
  obtain⟨hS,hdl,hxv,hte,hlen,hz,hone⟩:=v4 v hv
  simp only [okS,Bool.and_eq_true,decide_eq_true_eq] at hS
  obtain⟨⟨⟨⟨⟨⟨hfp,hpn⟩,hanc⟩,hof⟩,hpo⟩,hdst⟩,hbs⟩:=hS
  cases hofo:ops[v.f]? with
  | none=>rw [hofo] at hof;cases hof
  | some of =>
  rw [hofo] at hof
  simp only [Bool.and_eq_true,decide_eq_true_eq] at hof
  obtain⟨⟨hop,hod⟩,hog⟩:=hof
  have hop:of.op=.alloc v.e:=by
   split at hop
   ·rename_i e' he'
    rw [he']
    simp only [decide_eq_true_eq] at hop
    rw [hop]
   ·cases hop
  have hog:of.guard=none:=by simpa using hog
  cases hopo:ops[v.p]? with
  | none=>rw [hopo] at hpo;cases hpo
  | some opp =>
  rw [hopo] at hpo
  simp only [Bool.and_eq_true] at hpo
  obtain⟨⟨hpop,hpd⟩,hpg⟩:=hpo
  have hpop:opp.op=.store v.e (.tmp v.d) (.tmp v.bs):=by
   split at hpop
   ·rename_i e' d' b' he'
    rw [he']
    simp only [Bool.and_eq_true,decide_eq_true_eq] at hpop
    obtain⟨⟨q1,q2⟩,q3⟩:=hpop
    rw [q1,q2,q3]
   ·cases hpop
  have hpd:opp.dst=none:=by simpa using hpd
  have hpg:opp.guard=none:=by simpa using hpg
  have hfA:(v.f,v.d,v.e)∈zb9 0 ks:=by rw [← v1];exact List.mem_map.2 ⟨v,hv,rfl⟩
  have hpS:(v.p,v.d,v.e,v.bs)∈zbd 0 ks:=by rw [← v2];exact List.mem_map.2 ⟨v,hv,rfl⟩
  obtain⟨i,hi1,hi2⟩:=zfz ks 0 _ _ _ hfA
  obtain⟨j,hj1,hj2⟩:=zfA ks 0 _ _ _ _ hpS
  rw [Nat.zero_add] at hi1 hj1
  rw [← hi1] at hi2
  rw [← hj1] at hj2
  refine⟨⟨of,hofo,hop,hod,hog⟩,hte,?_,x3 _ _ _ hi2,⟨opp,hopo,hpop,hpd,hpg⟩,hanc,?_,x4 _ _ _ _ hj2,?_,hlen,hz,hone,hdl⟩
  ·intro j o ho hj hod
   rw [List.all_eq_true] at hdst
   have:=hdst j (by simpa using (Array.getElem?_eq_some_iff.1 ho).1)
   simp [ho,hod,hj] at this
  ·intro j o ho hob
   rw [List.all_eq_true] at hbs
   have:=hbs j (by simpa using (Array.getElem?_eq_some_iff.1 ho).1)
   simp [ho,hob] at this
   exact⟨this.2,this.1⟩
  ·cases hq:(zao (fun j=>decide (j < v.p)) 0 xs env)[v.bs]? with
   | some x=>rw [hxv,hq];rfl
   | none=>rw [hxv,hq] at hone;simp [AV.cells,AV.one] at hone
 refine segM_any (H:=H) (σ:=σ) (env:=env) hT hG (xs:=xs) hok x1 (vs:=vs) ok (fun u hu v hv=>zjj hup u hu v hv) (fun u hu v hv=>zjj hup2 u hu v hv) ?_ ?_ ops.size _ a _ m ?_ ?_ ?_
 ·intro i o x hnot ho hx
  refine x2 i o x (mark_none ks 0 i (fun b hb=>?_) (fun b hb=>?_)) (by rw [Array.getElem?_toList];exact ho) hx
  ·rw [← v1] at hb
   obtain⟨v,hv,rfl⟩:=List.mem_map.1 hb
   rw [Nat.zero_add]
   exact fun h=>(hnot v hv).1 h.symm
  ·rw [← v2] at hb
   obtain⟨v,hv,rfl⟩:=List.mem_map.1 hb
   rw [Nat.zero_add]
   exact fun h=>(hnot v hv).2 h.symm
 ·intro fuel l a w m hc hcl hall ⟨H',h,e1,e2,e3,h0,hs,he,hd,hfl⟩
  obtain⟨m',l1,l2,l3⟩:=landAll (H:=H) (h:=h) (tmps:=a.tmps) vs H' m σ _ e1 (hup.imp_of_mem (fun {u v} hu hv huv b hb hb'=>by have:=e2 u hu v hv b hb hb';omega)) (fun v hv=>by
   obtain⟨g,c,e,g1,g2,g3,g4⟩:=(hfl v hv).2 rfl
   simp only [if_true] at g3
   exact⟨g,c,e,g1,e3 v hv g g1,g2,g3,g4⟩) hs he
  rw [envL_A,v3] at l3
  rw [stoL_A,v3] at l1 l2 l3
  have hp:lift H w0 O0 m0 Q .normal a w:=⟨.normal,_,_,_,l1,h0.trans (l2 H),l3,hd.mono (l2 H),trivial,x6⟩
  have hr:Region.ready .any ops l=[]:=by
   cases hr:Region.ready .any ops l with
   | nil=>rfl
   | cons i r =>
    obtain⟨o,ho,_,h1,_⟩:=zaS (i:=i) (by rw [hr];simp)
    have hi:=(Array.getElem?_eq_some_iff.1 ho).1
    rw [hall i hi] at h1
    simp at h1
  cases fuel with
  | zero=>exact⟨hr,hp⟩
  | succ fuel=>exact⟨fun _=>hp,fun i hi=>by rw [hr] at hi;cases hi⟩
 ·have:∀ n,cnt (Array.replicate ops.size false) n≤n:=by
   intro n
   induction n with
   | zero=>exact Nat.le_refl _
   | succ n ih=>simp only [cnt];split <;> omega
  exact this _
 ·exact⟨by simp,fun i o ho hl=>by rw [hlo] at hl;cases hl⟩
 ·rw [zaI (p':=fun _=>false) _ _ _ (fun j _=>hlo _),zeO]
  refine⟨H,fun _=>none,fun b=>by simp,fun _ _ _ _ _ hb=>(by cases hb),fun _ _ _ hb=>(by cases hb),h0.trans k2,k1,zah k2 _ _ he,hd.mono k2,fun v hv=>⟨fun _=>rfl,fun hb=>?_⟩⟩
  rw [hlo] at hb
  cases hb
end Go.Eng
end

section
/-
 A region whose order is open,with effects one behind the other: an operation that does not look at the store may be done behind an effect that the text has behind it. No condition.
-/
namespace Go.Eng
open Go
variable {H : Nat → Prop} [Globs]
def isStrT (T:Tab) (t:TypeId):Bool:=match T t with
 | some ti=>match ti.d with
  | .str=>true
  | _=>false
 | none=>false
def zhP (T:Tab):Op→Bool
 | .slice t _ _ _ none=>isStrT T t
 | .move _ | .assign _ | .pick _ _ _ | .binOp _ _ _ _ _ | .unOp _ _ _ | .makeFunc _ _ _ | .fieldAddr _ _ _ | .field _ _ _ | .indexAddr _ _ _ | .index _ _ _ | .extract _ _=>true
 | _=>false
theorem wslice_str {T : Tab} {t : TypeId} {x : AV} {lo hi : Option AV} {σ σ' : zaa} {K : AV → Prop} (h : isStrT T t = true) : zbi T t x lo hi σ K = zbi T t x lo hi σ' K := by
 unfold isStrT at h
 cases ht:T t with
 | none=>rw [ht] at h;cases h
 | some ti =>
  rw [ht] at h
  have hd:ti.d=.str:=by
   simp only at h
   split at h
   ·assumption
   ·cases h
  cases x with
  | lit v=>cases v <;> simp only [zbi,ht,hd]
  | _=>simp only [zbi,ht,hd]
theorem YA_light {P : Program} {T : Tab} {ops : Array Oper} {σ σ' : zaa} {o : Oper} {env : Env} {v : AV} (hl : zhP T o.op = true) (h : YA P T ops σ o env v) : YA P T ops σ' o env v := by
 unfold YA at h ⊢
 have e : ∀ K, Qop P T o.op (zaN env) σ K = Qop P T o.op (zaN env) σ' K := by
  intro K
  cases ho:o.op <;> rw [ho] at hl
  case slice t x lo hi mx =>
   cases mx with
   | some _=>simp [zhP] at hl
   | none=>exact wslice_str hl
  all_goals (simp [zhP] at hl <;> rfl)
 rw [← e]
 exact h
def effOps:Op→Option (Tmp × Tmp)
 | .store _ (.tmp a) (.tmp x)=>some (a,x)
 | .call c=>match c.callee,c.args.toList with
  | .builtin .append,[.tmp a,.tmp x]=>some (a,x)
  | _,_=>none
 | .buildSlice _ _ ps=>match ps.toList with
  | [(_,.tmp a)]=>some (a,a)
  | _=>none
 | _=>none
theorem effOps_ev {P:Program} {T:Tab} {o:Op} {a x:Tmp} (h:effOps o=some (a,x)) {ev ev':Operand→AV} (ha:ev (.tmp a)=ev' (.tmp a)) (hx:ev (.tmp x)=ev' (.tmp x)) {σ:zaa} {K Kp Kp':AV→zaa→Prop} (hw:Wop P T o ev σ K Kp):Wop P T o ev' σ K Kp':=by
 unfold effOps at h
 split at h
 ·rename_i e a' x'
  cases h
  simp only [Wop] at hw ⊢
  rw [← ha,← hx]
  exact hw
 ·rename_i c
  split at h
  ·rename_i a' x' hc hargs
   cases h
   simp only [Wop,hc,hargs,List.map_cons,List.map_nil,zda] at hw ⊢
   rw [← ha,← hx]
   exact hw
  ·cases h
 ·rename_i t n ps
  split at h
  ·rename_i q a' hps
   cases h
   obtain⟨ps⟩:=ps
   simp only at hps
   subst hps
   simp only [Wop,zcj,List.map_cons,List.map_nil] at hw ⊢
   rw [← ha]
   exact hw
  ·cases h
 ·cases h
def freeOf (T:Tab) (o:Oper) (a x:Tmp):Bool:=zhP T o.op && !decide (o.dst=some a) && !decide (o.dst=some x)
def zj2 (T:Tab) (ops:Array Oper) (t:Nat):Bool :=
 (List.range ops.size).all (fun i=>!decide (t < i) || anc ops ops.size i t) &&
 ((List.range t).all (fun j=>anc ops ops.size t j) ||
  (match ops[t]? with
   | some o=>o.guard.isNone && (match effOps o.op with
    | some (a,x)=>(List.range t).all (fun j=>anc ops ops.size t j || (match ops[j]? with | some o=>freeOf T o a x | none=>false))
    | none=>false)
   | none=>false))
def zf5 (T:Tab) (ops:Array Oper):Nat→List Nat→Bool
 | _,[]=>true
 | s,k::ks=>zj2 T ops (s+k) && zf5 T ops (s+k+1) ks
theorem soft_down {T:Tab} {ops:Array Oper} {t i:Nat} (h:zj2 T ops t=true) (hi:i < ops.size) (hj:t < i):anc ops ops.size i t=true:=by
 simp only [zj2,Bool.and_eq_true,List.all_eq_true,List.mem_range] at h
 simpa [hj] using h.1 i hi
theorem soft_up {T:Tab} {ops:Array Oper} {t:Nat} (h:zj2 T ops t=true):(∀ j,j < t→anc ops ops.size t j=true)∨∃ o a x,ops[t]?=some o∧o.guard=none∧effOps o.op=some (a,x)∧∀ j,j < t→anc ops ops.size t j=true∨∃ o,ops[j]?=some o∧zhP T o.op=true∧o.dst≠some a∧o.dst≠some x:=by
 simp only [zj2,Bool.and_eq_true,Bool.or_eq_true,List.all_eq_true,List.mem_range] at h
 rcases h.2 with h | h1
 ·exact .inl h
 ·right
  cases ho:ops[t]? with
  | none=>rw [ho] at h1;cases h1
  | some o =>
   rw [ho] at h1
   simp only [Bool.and_eq_true] at h1
   obtain⟨q2,q3⟩:=h1
   split at q3
   ·rename_i a x he
    refine⟨o,a,x,rfl,by simpa using q2,he,fun j hj=>?_⟩
    rw [List.all_eq_true] at q3
    have h:=q3 j (by simpa using hj)
    rw [Bool.or_eq_true] at h
    rcases h with h | h
    ·exact .inl h
    ·right
     cases hoj:ops[j]? with
     | none=>rw [hoj] at h;cases h
     | some o =>
      rw [hoj] at h
      simp only [freeOf,Bool.and_eq_true,Bool.not_eq_true',decide_eq_false_iff_not] at h
      exact⟨o,rfl,h.1.1,h.1.2,h.2⟩
   ·cases q3
structure Soft (P:Program) (T:Tab) (ops:Array Oper) (X:List (Option Tmp × AV)) (env0:Env) (σ:zaa) (t:Nat) (l:Array Bool):Prop where
 len:X.length=t
 dst:∀ (i:Nat) (o:Oper) (x:Option Tmp × AV),ops[i]?=some o→X[i]?=some x→x.1=o.dst
 val:∀ (i:Nat) (o:Oper) (x:Option Tmp × AV),zae l i=false→ops[i]?=some o→X[i]?=some x→YA P T ops σ o (zao (fun j=>decide (j < i)) 0 X env0) x.2
 hi:∀ i,i < ops.size→t≤i→zae l i=false
theorem soft_any {r:Option Nat} {n:Nat} {P:Program} {T:Tab} (hT:zaD P T) {ops:Array Oper} {w0:World} {O0:Nat→Prop} {m0:Ids} (hG:Glob w0 O0) {Q:Post} (hok:zb2 ops=true) {env0:Env}:∀ (ks:List Nat) (s:Nat) (X0:List (Option Tmp × AV)) (σ:zaa) (fuel:Nat) (lst:Array Bool) (a:Act) (w:World) (m:Ids),
  s≤ops.size→zf5 T ops s ks=true→wd P T ops ks (ops.toList.drop s) (zao (fun _=>true) 0 X0 env0) σ Q→Soft P T ops X0 env0 σ s lst→cnt lst ops.size≤fuel→Closed ops lst→Ext H w0 O0 m0 w (own H m σ) m→St H w m σ→reps w (own H m σ) m (zao (zae lst) 0 X0 env0) a.tmps.toList→Mk w0.heap.size w (own H m σ) a.defers →
  wpAnyIn (FR r) n P .any ops (lift H w0 O0 m0 Q) fuel lst a w:=by
 have run:∀ (s t:Nat) (X0 xs:List (Option Tmp × AV)) (σ:zaa),X0.length=s→s+xs.length=t→t≤ops.size→(∀ i,i < ops.size→t < i→anc ops ops.size i t=true) →
   (∀ (i:Nat) (o:Oper) (x:Option Tmp × AV),ops[s+i]?=some o→xs[i]?=some x→x.1=o.dst∧YA P T ops σ o (zao (fun j=>decide (j < i)) 0 xs (zao (fun _=>true) 0 X0 env0)) x.2) →
   ∀ (hstop:∀ (fuel:Nat) (l:Array Bool) (a:Act) (w:World) (m:Ids),cnt l ops.size≤fuel+1→Closed ops l→Soft P T ops (X0++xs) env0 σ t l→t∈Region.ready .any ops l→Ext H w0 O0 m0 w (own H m σ) m→St H w m σ→reps w (own H m σ) m (zao (zae l) 0 (X0++xs) env0) a.tmps.toList→Mk w0.heap.size w (own H m σ) a.defers →
    wpOpIn (FR r) n P ops (lift H w0 O0 m0 Q) t (wpAnyIn (FR r) n P .any ops (lift H w0 O0 m0 Q) fuel (l.setIfInBounds t true)) a w)
    (hend:∀ (l:Array Bool) (a:Act) (w:World) (m:Ids),(∀ i,i < ops.size→zae l i=true)→Soft P T ops (X0++xs) env0 σ t l→Ext H w0 O0 m0 w (own H m σ) m→St H w m σ→reps w (own H m σ) m (zao (zae l) 0 (X0++xs) env0) a.tmps.toList→Mk w0.heap.size w (own H m σ) a.defers→lift H w0 O0 m0 Q .normal a w)
    (fuel:Nat) (l:Array Bool) (a:Act) (w:World) (m:Ids),cnt l ops.size≤fuel→Closed ops l→Soft P T ops (X0++xs) env0 σ t l→Ext H w0 O0 m0 w (own H m σ) m→St H w m σ→reps w (own H m σ) m (zao (zae l) 0 (X0++xs) env0) a.tmps.toList→Mk w0.heap.size w (own H m σ) a.defers →
    wpAnyIn (FR r) n P .any ops (lift H w0 O0 m0 Q) fuel l a w:=by
  intro s t X0 xs σ hX0 hst htn hsol hxs hstop hend fuel
  induction fuel with
  | zero =>
   intro l a w m hc hcl hS h0 hs he hd
   have hall:=zdI (l:=l) ops.size (by omega)
   refine⟨?_,hend l a w m hall hS h0 hs he hd⟩
   cases hr:Region.ready .any ops l with
   | nil=>rfl
   | cons i r =>
    obtain⟨o,ho,_,h1,_⟩:=zaS (i:=i) (by rw [hr];simp)
    rw [hall i (Array.getElem?_eq_some_iff.1 ho).1] at h1
    cases h1
  | succ fuel ih =>
   intro l a w m hc hcl hS h0 hs he hd
   refine⟨fun hr=>?_,fun i hi=>?_⟩
   ·refine hend l a w m (fun i=>?_) hS h0 hs he hd
    induction i using Nat.strongRecOn with
    | _ i ihi =>
     intro hi
     cases h1:zae l i with
     | true=>rfl
     | false =>
      have ho:ops[i]?=some ops[i]:=Array.getElem?_eq_getElem hi
      have:=zet ho hcl.size h1 (fun e he hb=>ihi e.on (zbM hok ho e he hb) (by have:=zbM hok ho e he hb;omega))
      rw [hr] at this
      cases this
   ·have hi0:=hi
    obtain⟨o,ho,hil,hun,hdeps⟩:=zaS hi
    have hi':i < ops.size:=(Array.getElem?_eq_some_iff.1 ho).1
    have hit:i≤t:=by
     rcases Nat.lt_or_ge t i with h | h
     ·have:=zba hcl _ i t (fun o' ho'=>by rw [ho] at ho';cases ho';exact hdeps) (hsol i hi' h)
      rw [hS.hi t (by omega) (Nat.le_refl _)] at this
      cases this
     ·exact h
    by_cases hie:i=t
    ·subst hie
     exact hstop fuel l a w m hc hcl hS hi0 h0 hs he hd
    have hit:i < t:=by omega
    have hXl:(X0++xs).length=t:=hS.len
    obtain ⟨x, hx⟩ : ∃ x, (X0 ++ xs)[i]? = some x := ⟨(X0 ++ xs)[i]'(by omega), by simp⟩
    have hxd:=hS.dst i o x ho hx
    have hya:=hS.val i o x hun ho hx
    have hcl2:∀ (j:Nat) (y:Option Tmp × AV),j≠i→(X0++xs)[j]?=some y→(∃ t,y.1=some t∧t∈uses ops o)→zae l j=decide (j < i):=by
     rintro j y hji hy ⟨t',hyt,htu⟩
     have hj':j < ops.size:=by have:=(List.getElem?_eq_some_iff.1 hy).1;omega
     have hoj:ops[j]?=some ops[j]:=Array.getElem?_eq_getElem hj'
     have hyd:=hS.dst j _ y hoj hy
     rcases Nat.lt_or_gt_of_ne hji with hlt | hgt
     ·have hc:zeE ops i j=true:=by
       unfold zeE
       rw [ho,hoj]
       refine aQ15 ?_
       exact .inl ⟨t',by rw [← hyd,hyt];simp,by simpa using htu⟩
      rw [zba hcl _ i j (fun o' ho'=>by rw [ho] at ho';cases ho';exact hdeps) (zbK hok hi' hlt hc)]
      simp [hlt]
     ·have hc:zeE ops j i=true:=by
       unfold zeE
       rw [ho,hoj]
       refine aQ15 ?_
       exact .inr ⟨t',by rw [← hyd,hyt];simp,by simpa using htu⟩
      have ha:=zbK hok hj' hgt hc
      cases hlj:zae l j with
      | false=>simp;omega
      | true =>
       have:=zba hcl _ j i (fun o' ho' e' he' hb'=>hcl.down j o' ho' hlj e' he' hb') ha
       rw [hun] at this
       cases this
    have hya':YA P T ops σ o (zao (zae l) 0 (X0++xs) env0) x.2:=by
     refine YA_ev (fun t' ht=>?_) hya
     refine zb1 (X0++xs) 0 env0 env0 rfl rfl (fun j y hy hyt=>?_)
     rw [Nat.zero_add]
     by_cases hji:j=i
     ·subst hji;simp [hun]
     ·rw [hcl2 j y hji hy ⟨t',hyt,by unfold uses;simp only [List.mem_append] at ht ⊢;exact .inl ht⟩]
    have hnext:zao (zae (l.setIfInBounds i true)) 0 (X0++xs) env0=aput (zao (zae l) 0 (X0++xs) env0) o.dst x.2:=by
     apply List.ext_getElem?
     intro t'
     by_cases hdt:o.dst=some t'
     ·rw [zd0 (X0++xs) 0 env0 i (by rw [hx,← hdt,← hxd]) (by rw [Nat.zero_add,zaf hil,if_pos rfl]) (fun j y hj hy hyt=>by
       rw [Nat.zero_add,zaf hil,if_neg (by omega),hcl2 j y (by omega) hy ⟨t',hyt,by unfold uses;simp [hdt]⟩]
       simp;omega)]
      rw [hdt]
      simp only [aput,List.getElem?_set,zb8]
      simp
     ·rw [zf3 hdt]
      refine zb1 (X0++xs) 0 env0 env0 rfl rfl (fun j y hy hyt=>?_)
      rw [Nat.zero_add,zaf hil]
      by_cases hij:i=j
      ·subst hij
       rw [hx] at hy
       cases hy
       exact absurd (hxd ▸ hyt) hdt
      ·rw [if_neg hij]
    have hcl':Closed ops (l.setIfInBounds i true):=by
     refine⟨by simpa using hcl.size,fun k ok hok' hlk e he hb=>?_⟩
     rw [zaf hil] at hlk ⊢
     by_cases hik:i=k
     ·subst hik
      rw [ho] at hok'
      cases hok'
      rw [hdeps e he hb]
      simp
     ·rw [if_neg hik] at hlk
      rw [hcl.down k ok hok' hlk e he hb]
      simp
    have hcnt:cnt (l.setIfInBounds i true) ops.size≤fuel:=by
     have:=zf4 (l:=l) (l':=l.setIfInBounds i true) (fun j hj=>by rw [zaf hil,hj];simp) hun (by rw [zaf hil,if_pos rfl]) ops.size hi'
     omega
    have hS':Soft P T ops (X0++xs) env0 σ t (l.setIfInBounds i true):=by
     refine⟨hS.len,hS.dst,fun k ok x hk=>?_,fun k hk1 hk2=>?_⟩
     ·refine hS.val k ok x ?_
      rw [zaf hil] at hk
      split at hk
      ·cases hk
      ·exact hk
     ·rw [zaf hil,if_neg (by omega)]
      exact hS.hi k hk1 hk2
    unfold wpOpIn
    rw [ho]
    simp only
    rcases zbj (a:=a) hya' he with ⟨hw,h⟩ | ⟨hw,h⟩
    ·rw [if_pos hw]
     have hop:=zf2 hT (hG.mono h0) hs (o:=o) (ρ:=a.eval) h (zaO (hG.mono h0) he)
     have hop' : OpOK H P w m σ (fun r σ' => r = x.2 ∧ σ' = σ) (panK (zao (zae l) 0 (X0 ++ xs) env0) (fun y _ _ => match y with | .pan _ => False | _ => True)) ((execOp a.eval o).run P w) := hop
     refine ziK (H:=H) (w0:=w0) (O0:=O0) (m0:=m0) ?_
     exact zeq (Q := fun y _ _ => match y with | .pan _ => False | _ => True) (next := wpAnyIn (FR r) n P .any ops (lift H w0 O0 m0 Q) fuel (l.setIfInBounds i true)) hG h0 hs he hd (zes h) hop' (fun v r w' m' σ' g1 g2 g3 g4 ⟨g5, g6⟩ => by
      subst g5 g6
      exact ih _ _ _ m' hcnt hcl' hS' g1 g2 (by rw [hnext];exact g3) g4)
    ·rw [if_neg (by simp [hw])]
     refine⟨fun _ _=>trivial,?_⟩
     refine ih _ _ _ m hcnt hcl' hS' h0 hs ?_ (by rw [zaB];exact hd)
     rw [hnext,h]
     exact zaM he _ (by simp only [rep])
 have more:∀ (s t:Nat) (X0 xs:List (Option Tmp × AV)) (σ:zaa) (lst:Array Bool),Soft P T ops X0 env0 σ s lst→s+xs.length=t →
   (∀ (i:Nat) (o:Oper) (x:Option Tmp × AV),ops[s+i]?=some o→xs[i]?=some x→x.1=o.dst∧YA P T ops σ o (zao (fun j=>decide (j < i)) 0 xs (zao (fun _=>true) 0 X0 env0)) x.2) →
   Soft P T ops (X0++xs) env0 σ t lst∧zao (zae lst) 0 (X0++xs) env0=zao (zae lst) 0 X0 env0∨ops.size < t:=by
  intro s t X0 xs σ lst hS hst hxs
  rcases Nat.lt_or_ge ops.size t with h | htn
  ·exact .inr h
  left
  have hl:=hS.len
  refine⟨⟨by simp;omega,fun i o x ho hx=>?_,fun i o x hli ho hx=>?_,fun i h1 h2=>hS.hi i h1 (by omega)⟩,?_⟩
  ·rcases Nat.lt_or_ge i s with h | h
   ·rw [List.getElem?_append_left (by omega)] at hx
    exact hS.dst i o x ho hx
   ·obtain⟨j,rfl⟩:∃ j,i=s+j:=⟨i - s,by omega⟩
    rw [List.getElem?_append_right (by omega),hl,show s+j - s=j by omega] at hx
    exact(hxs j o x ho hx).1
  ·rcases Nat.lt_or_ge i s with h | h
   ·rw [List.getElem?_append_left (by omega)] at hx
    rw [zdu _ _ _ (by omega)]
    exact hS.val i o x hli ho hx
   ·obtain⟨j,rfl⟩:∃ j,i=s+j:=⟨i - s,by omega⟩
    rw [List.getElem?_append_right (by omega),hl,show s+j - s=j by omega] at hx
    have:=zd2 X0 xs j env0
    rw [hl] at this
    rw [this]
    exact(hxs j o x ho hx).2
  ·rw [zd1,zaI (p':=fun _=>false) xs _ _ (fun j hj=>by rw [Nat.zero_add];exact hS.hi _ (by omega) (by omega)),zeO]
 intro ks
 induction ks with
 | nil =>
  intro s X0 σ fuel lst a w m hsn _ h hS hc hcl h0 hs he hd
  obtain⟨xs,h1,h2,h3⟩:=zdt _ _ h
  have hxl:s+xs.length=ops.size:=by rw [h1];simp;omega
  have hxs:∀ (i:Nat) (o:Oper) (x:Option Tmp × AV),ops[s+i]?=some o→xs[i]?=some x→x.1=o.dst∧YA P T ops σ o (zao (fun j=>decide (j < i)) 0 xs (zao (fun _=>true) 0 X0 env0)) x.2:=fun i o x ho hx=>h2 i o x (by rw [List.getElem?_drop,Array.getElem?_toList];exact ho) hx
  rcases more s ops.size X0 xs σ lst hS hxl hxs with ⟨hS2,he2⟩ | h
  rotate_left
  ·omega
  refine run s ops.size X0 xs σ hS.len hxl (Nat.le_refl _) (fun i h1 h2=>by omega) hxs ?_ ?_ fuel lst a w m hc hcl hS2 h0 hs (by rw [he2];exact he) hd
  ·intro fuel l a w m hc hcl hS hr
   obtain⟨o,ho,_⟩:=zaS hr
   have:=(Array.getElem?_eq_some_iff.1 ho).1
   omega
  ·intro l a w m hall hS h0 hs he hd
   refine⟨.normal,_,σ,m,hs,h0,he,hd,trivial,?_⟩
   have hSl:=hS.len
   rw [zaI (p':=fun _=>true) _ _ _ (fun j hj=>by rw [Nat.zero_add];exact hall j (by omega)),zcm]
   exact h3
 | cons k ks ih =>
  intro s X0 σ fuel lst a w m hsn hsol h hS hc hcl h0 hs he hd
  simp only [zf5,Bool.and_eq_true] at hsol
  simp only [wd] at h
  obtain⟨xs,h1,h2,h3⟩:=zdt _ _ h
  split at h3
  ·exact h3.elim
  rename_i o rest hdr
  have hlen:k < (ops.toList.drop s).length:=by
   rcases Nat.lt_or_ge k (ops.toList.drop s).length with h | h
   ·exact h
   ·rw [List.drop_eq_nil_of_le h] at hdr;cases hdr
  have hlen':s+k < ops.size:=by simp at hlen;omega
  have hxl:xs.length=k:=by rw [h1,List.length_take];omega
  have hdd:ops.toList.drop (s+k)=o::rest:=by rw [← hdr,List.drop_drop]
  have ho:ops[s+k]?=some o:=by
   have:(ops.toList.drop (s+k))[0]?=some o:=by rw [hdd];rfl
   rw [List.getElem?_drop,Array.getElem?_toList] at this
   simpa using this
  have hrest:rest=ops.toList.drop (s+k+1):=by
   have:(ops.toList.drop (s+k)).drop 1=rest:=by rw [hdd];rfl
   rw [← this,List.drop_drop]
  have hxs:∀ (i:Nat) (o:Oper) (x:Option Tmp × AV),ops[s+i]?=some o→xs[i]?=some x→x.1=o.dst∧YA P T ops σ o (zao (fun j=>decide (j < i)) 0 xs (zao (fun _=>true) 0 X0 env0)) x.2:=fun i o x ho hx=>by
   have hik:=(List.getElem?_eq_some_iff.1 hx).1
   exact h2 i o x (by rw [List.getElem?_take,if_pos (by omega),List.getElem?_drop,Array.getElem?_toList];exact ho) hx
  rcases more s (s+k) X0 xs σ lst hS (by omega) hxs with ⟨hS2,he2⟩ | h
  rotate_left
  ·omega
  rw [← zcm] at h3
  refine run s (s+k) X0 xs σ hS.len (by omega) (by omega) (fun i h1 h2=>soft_down hsol.1 h1 h2) hxs ?_ ?_ fuel lst a w m hc hcl hS2 h0 hs (by rw [he2];exact he) hd
  ·intro fuel l a w m hc hcl hS hr h0 hs he hd
   obtain⟨o',ho',hil,hun,hdeps⟩:=zaS hr
   rw [ho] at ho'
   cases ho'
   have hSl:=hS.len
   have hcl':Closed ops (l.setIfInBounds (s+k) true):=by
    refine⟨by simpa using hcl.size,fun j ok hok' hlk e he hb=>?_⟩
    rw [zaf hil] at hlk ⊢
    by_cases hik:s+k=j
    ·subst hik
     rw [ho] at hok'
     cases hok'
     rw [hdeps e he hb]
     simp
    ·rw [if_neg hik] at hlk
     rw [hcl.down j ok hok' hlk e he hb]
     simp
   have hcnt:cnt (l.setIfInBounds (s+k) true) ops.size≤fuel:=by
    have:=zf4 (l:=l) (l':=l.setIfInBounds (s+k) true) (fun j hj=>by rw [zaf hil,hj];simp) hun (by rw [zaf hil,if_pos rfl]) ops.size hlen'
    omega
   have hdeps':∀ j,anc ops ops.size (s+k) j=true→zae l j=true:=fun j hj=>zba hcl _ (s+k) j (fun o' ho'=>by rw [ho] at ho';cases ho';exact hdeps) hj
   have next : ∀ (v : AV) (σ' : zaa), (∀ (i : Nat) (o : Oper) (x : Option Tmp × AV), i ≠ s + k → zae l i = false → ops[i]? = some o → (X0 ++ xs)[i]? = some x → YA P T ops σ' o (zao (fun j => decide (j < i)) 0 (X0 ++ xs) env0) x.2) →
     Soft P T ops ((X0 ++ xs) ++ [(o.dst, v)]) env0 σ' (s + k + 1) (l.setIfInBounds (s + k) true) ∧ zao (zae (l.setIfInBounds (s + k) true)) 0 ((X0 ++ xs) ++ [(o.dst, v)]) env0 = aput (zao (zae l) 0 (X0 ++ xs) env0) o.dst v ∧ zao (fun _ => true) 0 ((X0 ++ xs) ++ [(o.dst, v)]) env0 = aput (zao (fun _ => true) 0 (X0 ++ xs) env0) o.dst v := by
    intro v σ' hy
    refine⟨⟨by rw [List.length_append,hSl];rfl,fun i o2 x ho2 hx=>?_,fun i o2 x hli ho2 hx=>?_,fun i g1 g2=>?_⟩,?_,?_⟩
    ·rcases Nat.lt_or_ge i (s+k) with hh | hh
     ·rw [List.getElem?_append_left (by omega)] at hx
      exact hS.dst i o2 x ho2 hx
     ·rw [List.getElem?_append_right (by omega),hSl] at hx
      by_cases hi0:i=s+k
      ·subst hi0
       rw [ho] at ho2
       cases ho2
       simp at hx
       rw [← hx]
      ·rw [List.getElem?_eq_none (by simp;omega)] at hx
       cases hx
    ·have hne:i≠s+k:=fun hh=>by
      subst hh
      rw [zaf hil,if_pos rfl] at hli
      cases hli
     rw [zaf hil,if_neg (fun hh=>hne hh.symm)] at hli
     have hlt:i < s+k:=by
      have:=(List.getElem?_eq_some_iff.1 hx).1
      rw [List.length_append,hSl] at this
      simp at this
      omega
     rw [List.getElem?_append_left (by omega)] at hx
     rw [zdu _ _ _ (by omega)]
     exact hy i o2 x hne hli ho2 hx
    ·rw [zaf hil,if_neg (by omega)]
     exact hS.hi i g1 (by omega)
    ·rw [zd1,zaI (p':=zae l) (X0++xs) _ _ (fun j hj=>by rw [Nat.zero_add,zaf hil,if_neg (by omega)])]
     simp only [zao,hSl,Nat.zero_add]
     rw [zaf hil,if_pos rfl]
     try simp only [if_true]
     try (cases o.dst <;> rfl)
    ·rw [zcm]
     simp only [zao,if_true]
     try (cases o.dst <;> rfl)
   unfold wpOpIn
   rw [ho]
   simp only
   rcases soft_up hsol.1 with hup | ⟨o2,pa,px,ho2,hgd,hop,hup⟩
   ·-- all ahead of it are done
    have hfull:zao (zae l) 0 (X0++xs) env0=zao (fun _=>true) 0 (X0++xs) env0:=zaI _ _ _ (fun j hj=>by rw [Nat.zero_add];exact hdeps' j (hup j (by omega)))
    rw [hfull] at he
    have none2 : ∀ σ' : zaa, ∀ (i : Nat) (o : Oper) (x : Option Tmp × AV), i ≠ s + k → zae l i = false → ops[i]? = some o → (X0 ++ xs)[i]? = some x → YA P T ops σ' o (zao (fun j => decide (j < i)) 0 (X0 ++ xs) env0) x.2 := fun σ' i o2 x hne hli ho2 hx => by
     have:=(List.getElem?_eq_some_iff.1 hx).1
     rw [hdeps' i (hup i (by omega))] at hli
     cases hli
    rcases zbj (a:=a) h3 he with ⟨hw,h⟩ | ⟨hw,h⟩
    ·rw [if_pos hw]
     have hop:=zcC hT (hG.mono h0) hs (o:=o) (ρ:=a.eval) h (zaO (hG.mono h0) he)
     exact zeq hG h0 hs he hd (zct h) hop fun v r w' m' σ' g1 g2 g3 g4 g5 => by
      obtain ⟨n1, n2, n3⟩ := next r σ' (none2 σ')
      exact ih (s + k + 1) _ σ' fuel _ _ _ m' (by omega) hsol.2 (by rw [← hrest, n3]; exact g5) n1 hcnt hcl' g1 g2 (by rw [n2, hfull]; exact g3) g4
    ·rw [if_neg (by simp [hw])]
     refine⟨fun _ _=>trivial,?_⟩
     obtain⟨n1,n2,n3⟩:=next (.lit undef) σ (none2 σ)
     exact ih (s+k+1) _ σ fuel _ _ _ m (by omega) hsol.2 (by rw [← hrest,n3];exact h) n1 hcnt hcl' h0 hs (by rw [n2,hfull];exact zaM he _ (by simp only [rep])) (by rw [zaB];exact hd)
   ·-- a store
    rw [ho] at ho2
    cases ho2
    have hat:∀ t',t'=pa∨t'=px→(zao (fun _=>true) 0 (X0++xs) env0)[t']?=(zao (zae l) 0 (X0++xs) env0)[t']?:=by
     intro t' htu
     refine zb1 (X0++xs) 0 env0 env0 rfl rfl (fun j y hy hyt=>?_)
     rw [Nat.zero_add]
     have hj:j < s+k:=by have:=(List.getElem?_eq_some_iff.1 hy).1;omega
     have hoj:ops[j]?=some ops[j]:=Array.getElem?_eq_getElem (by omega)
     have hyd:=hS.dst j _ y hoj hy
     rcases hup j hj with hh | ⟨o3,ho3,_,n1,n2⟩
     ·rw [hdeps' j hh]
     ·rw [hoj] at ho3
      cases ho3
      rw [hyt] at hyd
      rcases htu with rfl | rfl
      ·exact absurd hyd.symm n1
      ·exact absurd hyd.symm n2
    have e1:zaN (zao (fun _=>true) 0 (X0++xs) env0) (.tmp pa)=zaN (zao (zae l) 0 (X0++xs) env0) (.tmp pa):=by
     simp only [zaN]
     rw [hat pa (.inl rfl)]
    have e2:zaN (zao (fun _=>true) 0 (X0++xs) env0) (.tmp px)=zaN (zao (zae l) 0 (X0++xs) env0) (.tmp px):=by
     simp only [zaN]
     rw [hat px (.inr rfl)]
    have h5:Wop P T o.op (zaN (zao (zae l) 0 (X0++xs) env0)) σ (fun v σ1=>wd P T ops ks rest (aput (zao (fun _=>true) 0 (X0++xs) env0) o.dst v) σ1 Q) (panK (zao (zae l) 0 (X0++xs) env0) Q):=by
     unfold zb6 at h3
     rw [hgd] at h3
     exact effOps_ev hop e1 e2 h3
    rw [if_pos (by simp [Region.wanted,hgd])]
    have hopS:=zcC hT (hG.mono h0) hs (o:=o) (ρ:=a.eval) h5 (zaO (hG.mono h0) he)
    exact zeq hG h0 hs he hd (zct h5) hopS fun v r w' m' σ' g1 g2 g3 g4 g5 => by
     obtain ⟨n1, n2, n3⟩ := next r σ' (fun i o2 x hne hli ho2 hx => by
      have hlt:i < s+k:=by have:=(List.getElem?_eq_some_iff.1 hx).1;omega
      rcases hup i hlt with hh | ⟨o3,ho3,hlt3,_⟩
      ·rw [hdeps' i hh] at hli
       cases hli
      ·rw [ho2] at ho3
       cases ho3
       exact YA_light hlt3 (hS.val i o2 x hli ho2 hx))
     exact ih (s + k + 1) _ σ' fuel _ _ _ m' (by omega) hsol.2 (by rw [← hrest, n3]; exact g5) n1 hcnt hcl' g1 g2 (by rw [n2]; exact g3) g4
  ·intro l a w m hall hS
   have:=hS.hi (s+k) hlen' (Nat.le_refl _)
   rw [hall _ hlen'] at this
   cases this
theorem drawL_sound {r:Option Nat} {n:Nat} {P:Program} {T:Tab} (hT:zaD P T) {ops:Array Oper} {w0:World} {O0:Nat→Prop} {m0:Ids} (hG:Glob w0 O0) {Q:Post} {σ:zaa} {env:Env} {a:Act} {w:World} {m:Ids} {id:Nat} {ks:List Nat} (hm:P.follows .mixedOrders=true) (hok:zb2 ops=true) (hsol:zf5 T ops 0 ks=true)
  (h:wd P T ops ks ops.toList env σ Q) (h0:Ext H w0 O0 m0 w (own H m σ) m) (hs:St H w m σ) (he:reps w (own H m σ) m env a.tmps.toList) (hd:Mk w0.heap.size w (own H m σ) a.defers):(Code.region id ops true).wpIn (FR r) n P (lift H w0 O0 m0 Q) a w:=by
 refine wpIn_region_any hm ?_
 obtain⟨k1,k2⟩:=hs.old (w':={ heap:=w.heap,tape:=w.tape,drawn:=w.drawn+1,os:=w.os,output:=w.output }) (Nat.le_refl _) (fun _ _=>rfl) rfl rfl rfl
 have hlo:∀ i,zae (Array.replicate ops.size false) i=false:=fun i=>by
  refine aQ16 ?_
  split <;> rfl
 refine soft_any hT hG hok (env0:=env) ks 0 [] σ ops.size _ a _ m (Nat.zero_le _) hsol (by simpa [zao] using h) ⟨rfl,fun _ _ _ _ h=>by simp at h,fun _ _ _ _ _ h=>by simp at h,fun i _ _=>hlo i⟩ ?_ ⟨by simp,fun i o ho hl=>by rw [hlo] at hl;cases hl⟩ (h0.trans k2) k1 (zah k2 _ _ he) (hd.mono k2)
 have:∀ n,cnt (Array.replicate ops.size false) n≤n:=by
  intro n
  induction n with
  | zero=>exact Nat.le_refl _
  | succ n ih=>simp only [cnt];split <;> omega
 exact this _
end Go.Eng
end

section
/-
 A region whose order is open may be read as9 if its text had another order. No condition.
-/
namespace Go.Eng
open Go
variable {H : Nat → Prop} [Globs]
def permE (ρ:List Nat) (es:Array Edge):Array Edge:=es.map fun e=>{ on:=ρ.idxOf e.on,ground:=e.ground }
def zj3 (ρ:List Nat) (o:Oper):Oper:={ dst:=o.dst,op:=o.op,type:=o.type,pos:=o.pos,after:=permE ρ o.after,guard:=o.guard }
def noOper : Oper := { dst := none, op := .move (.tmp 0), type := 0, pos := "", after := #[], guard := none }
def zdC (ρ:List Nat) (l:List Oper):List Oper:=ρ.map fun i=>zj3 ρ ((l[i]?).getD noOper)
def ziN (ρ:List Nat) (l:List Oper):Bool :=
 decide (ρ.length=l.length) && (List.range l.length).all (fun i=>decide (ρ.idxOf i < ρ.length) && decide (ρ.idxOf (ρ.getD i 0)=i) && decide (ρ.getD i 0 < l.length)) && l.all (fun o=>o.guard.isNone)
theorem permO_wp {F:Fence} {n:Nat} {P:Program} {Q:Exit→Act→World→Prop} (ρ:List Nat) (o:Oper) (a:Act) (w:World) (K:Act→World→Prop):(zj3 ρ o).wpIn F n P a w K Q=o.wpIn F n P a w K Q:=rfl
theorem perm_any {F:Fence} {n:Nat} {P:Program} {Q:Exit→Act→World→Prop} {l:List Oper} {ρ:List Nat} (hp:ziN ρ l=true):∀ (fuel:Nat) (b b':Array Bool) (a:Act) (w:World),b.size=l.length→b'.size=l.length→(∀ i,zae b i=zae b' (ρ.idxOf i)) →
  wpAnyIn F n P .any (zdC ρ l).toArray Q fuel b' a w→wpAnyIn F n P .any l.toArray Q fuel b a w:=by
 simp only [ziN,Bool.and_eq_true,decide_eq_true_eq,List.all_eq_true,List.mem_range] at hp
 obtain⟨⟨hlen,hall⟩,hg⟩:=hp
 have hsz:(zdC ρ l).toArray.size=l.length:=by simp [zdC,hlen]
 have hget:∀ (j i:Nat) (o:Oper),ρ[j]?=some i→l[i]?=some o→(zdC ρ l).toArray[j]?=some (zj3 ρ o):=by
  intro j i o h1 h2
  simp [zdC,h1,h2]
 have hidx:∀ k,ρ.idxOf k < ρ.length→ρ[ρ.idxOf k]?=some k:=by
  intro k hk
  rw [List.getElem?_eq_getElem hk,List.getElem_idxOf hk]
 have fwd:∀ (b b':Array Bool),b.size=l.length→b'.size=l.length→(∀ i,zae b i=zae b' (ρ.idxOf i))→∀ i,i∈Region.ready .any l.toArray b→ρ.idxOf i∈Region.ready .any (zdC ρ l).toArray b':=by
  intro b b' hb hb' hI i hi
  obtain⟨o,ho,hil,hun,hdeps⟩:=zaS hi
  have ho2:l[i]?=some o:=by simpa using ho
  have hin:i < l.length:=(List.getElem?_eq_some_iff.1 ho2).1
  have h1:=(hall i hin).1.1
  refine zet (o:=zj3 ρ o) (hget _ i o (hidx i h1) ho2) (by rw [hsz,hb']) (by rw [← hI,hun]) ?_
  intro e he hbnd
  simp only [zj3,permE,Array.mem_map] at he
  obtain⟨e0,h0,rfl⟩:=he
  show zae b' (ρ.idxOf e0.on)=true
  rw [← hI]
  exact hdeps e0 h0 (by simpa [Region.binds] using hbnd)
 have bwd:∀ (b b':Array Bool),b.size=l.length→b'.size=l.length→(∀ i,zae b i=zae b' (ρ.idxOf i))→∀ j,j∈Region.ready .any (zdC ρ l).toArray b'→ρ.getD j 0∈Region.ready .any l.toArray b:=by
  intro b b' hb hb' hI j hj
  obtain⟨o',ho',hil,hun,hdeps⟩:=zaS hj
  have hjn:j < l.length:=by rw [hb'] at hil;exact hil
  obtain⟨⟨_,h2⟩,h3⟩:=hall j hjn
  have hrj:ρ[j]?=some (ρ.getD j 0):=by rw [List.getD_eq_getElem?_getD,List.getElem?_eq_getElem (by omega)];rfl
  have ho2 : l[ρ.getD j 0]? = some (l[ρ.getD j 0]'h3) := List.getElem?_eq_getElem h3
  have:=hget j _ _ hrj ho2
  rw [ho'] at this
  cases this
  refine zet (o := l[ρ.getD j 0]'h3) (by simp) (by simpa using hb) (by rw [hI, h2]; exact hun) ?_
  intro e he hbnd
  rw [hI]
  exact hdeps { on:=ρ.idxOf e.on,ground:=e.ground } (by simp only [zj3,permE,Array.mem_map];exact⟨e,he,rfl⟩) (by simpa [Region.binds] using hbnd)
 intro fuel
 induction fuel with
 | zero =>
  intro b b' a w hb hb' hI h
  refine⟨?_,h.2⟩
  cases hr:Region.ready .any l.toArray b with
  | nil=>rfl
  | cons i r =>
   have:=fwd b b' hb hb' hI i (by rw [hr];simp)
   rw [h.1] at this
   cases this
 | succ fuel ih =>
  intro b b' a w hb hb' hI h
  refine⟨fun hr=>h.1 ?_,fun i hi=>?_⟩
  ·cases hr':Region.ready .any (zdC ρ l).toArray b' with
   | nil=>rfl
   | cons j r =>
    have:=bwd b b' hb hb' hI j (by rw [hr'];simp)
    rw [hr] at this
    cases this
  ·have h2:=h.2 _ (fwd b b' hb hb' hI i hi)
   obtain⟨o,ho,hil,hun,hdeps⟩:=zaS hi
   have ho2:l[i]?=some o:=by simpa using ho
   have hin:i < l.length:=(List.getElem?_eq_some_iff.1 ho2).1
   have h1:=(hall i hin).1.1
   have hgd:o.guard=none:=by
    have:=hg o (List.mem_of_getElem? ho2)
    simpa using this
   unfold wpOpIn at h2 ⊢
   rw [hget _ i o (hidx i h1) ho2] at h2
   rw [ho]
   have w1:∀ y,Region.wanted o y=true:=fun y=>by simp [Region.wanted,hgd]
   have w2:∀ y,Region.wanted (zj3 ρ o) y=true:=fun y=>by simp [Region.wanted,zj3,hgd]
   simp only [w1,w2,if_true] at h2 ⊢
   rw [permO_wp] at h2
   refine Oper.wpIn_mono (fun a w h=>?_) h2
   refine ih _ _ a w (by simpa using hb) (by simpa using hb') (fun k=>?_) h
   have hil':ρ.idxOf i < b'.size:=by omega
   rw [zaf hil,zaf hil']
   by_cases hik:i=k
   ·subst hik;simp
   ·rw [if_neg hik,if_neg (fun e=>?_),hI]
    have e1:=hidx i h1
    have e2:=hidx k (by rw [← e];exact h1)
    rw [← e,e1] at e2
    exact hik (Option.some.inj e2)
theorem drawP_sound {r:Option Nat} {n:Nat} {P:Program} {T:Tab} (hT:zaD P T) {ops:Array Oper} {w0:World} {O0:Nat→Prop} {m0:Ids} (hG:Glob w0 O0) {Q:Post} {σ:zaa} {env:Env} {a:Act} {w:World} {m:Ids} {id:Nat} {ρ ks:List Nat} (hm:P.follows .mixedOrders=true) (hp:ziN ρ ops.toList=true) (hok:zb2 (zdC ρ ops.toList).toArray=true) (hsol:zf5 T (zdC ρ ops.toList).toArray 0 ks=true)
  (h:wd P T (zdC ρ ops.toList).toArray ks (zdC ρ ops.toList) env σ Q) (h0:Ext H w0 O0 m0 w (own H m σ) m) (hs:St H w m σ) (he:reps w (own H m σ) m env a.tmps.toList) (hd:Mk w0.heap.size w (own H m σ) a.defers):(Code.region id ops true).wpIn (FR r) n P (lift H w0 O0 m0 Q) a w:=by
 refine wpIn_region_any hm ?_
 obtain⟨k1,k2⟩:=hs.old (w':={ heap:=w.heap,tape:=w.tape,drawn:=w.drawn+1,os:=w.os,output:=w.output }) (Nat.le_refl _) (fun _ _=>rfl) rfl rfl rfl
 have hlo:∀ k i,zae (Array.replicate k false) i=false:=fun k i=>by
  refine aQ16 ?_
  split <;> rfl
 have hsz:(zdC ρ ops.toList).toArray.size=ops.size:=by
  simp only [ziN,Bool.and_eq_true,decide_eq_true_eq] at hp
  simp [zdC,hp.1.1]
 have key:=soft_any (r:=r) (n:=n) hT hG hok (env0:=env) ks 0 [] σ ops.size (Array.replicate ops.size false) a _ m (Nat.zero_le _) hsol (by simpa [zao] using h) ⟨rfl,fun _ _ _ _ h=>by simp at h,fun _ _ _ _ _ h=>by simp at h,fun i _ _=>hlo _ i⟩ (by
  rw [hsz]
  have:∀ n,cnt (Array.replicate ops.size false) n≤n:=by
   intro n
   induction n with
   | zero=>exact Nat.le_refl _
   | succ n ih=>simp only [cnt];split <;> omega
  exact this _) ⟨by rw [hsz];simp,fun i o ho hl=>by rw [hlo] at hl;cases hl⟩ (h0.trans k2) k1 (zah k2 _ _ he) (hd.mono k2)
 have:=perm_any hp ops.size (Array.replicate ops.size false) (Array.replicate ops.size false) a _ (by simp) (by simp) (fun i=>by rw [hlo,hlo]) key
 simpa using this
end Go.Eng
end

section
/-
 A region whose order is open: one call that turns the store stands among operations that read,at any time ahead of it or behind it,what it leaves alone. No condition.
-/
namespace Go.Eng
open Go
variable {H : Nat → Prop} [Globs]
end Go.Eng
end

section
/-
 A region whose order is open: calls,in an order that is forced,turn the store one behind the other,among operations that read,at any time,what these leave alone;one variable may be made at any time. No condition.
-/
namespace Go.Eng
open Go
variable {H : Nat → Prop} [Globs]
end Go.Eng
end

section
namespace Go.Eng
open Go
section
variable (G : Globs) (b : List Deferred) (P : Program) (T : Tab)
abbrev za8:Globs:=⟨G.tab,b,G.ints,G.errs⟩
theorem zeP (ops:Array Oper):∀ l,@wops (za8 G b) P T ops l=@wops G P T ops l
 | []=>rfl
 | o::rest=>by
  funext env σ Q
  simp only [wops,zeP ops rest]
  rfl
theorem zeQ (ops:Array Oper) (σ:zaa):∀ l,@wq (za8 G b) P T ops σ l=@wq G P T ops σ l
 | []=>rfl
 | o::rest=>by
  funext env Q
  simp only [wq,zeQ ops σ rest]
  rfl
theorem zhQ (ops:Array Oper):∀ ks,@wd (za8 G b) P T ops ks=@wd G P T ops ks
 | []=>by
  funext l env σ Q
  simp only [wd,zeQ]
 | k::ks=>by
  funext l env σ Q
  simp only [wd,zeQ,zhQ ops ks]
  rfl
theorem zd3 (ops:Array Oper):∀ t,@zcQ (za8 G b) P T ops t=@zcQ G P T ops t
 | .done=>rfl
 | .nil=>rfl
 | .br i t r=>by
  funext env σ Q
  simp only [zcQ,zd3 ops t,zd3 ops r]
  rfl
theorem wS1_base (ops:Array Oper):@wS1 (za8 G b) P T ops=@wS1 G P T ops:=by
 funext σ Q mid rest d bs te e
 cases te with
 | none=>rfl
 | some te =>
  show @wq (za8 G b) P T ops σ mid _ (fun e2=>_∧_∧_∧@wq (za8 G b) P T ops σ rest e2 _)=@wq G P T ops σ mid _ (fun e2=>_∧_∧_∧@wq G P T ops σ rest e2 _)
  simp only [zeQ]
theorem wM_base (ops:Array Oper) (σ:zaa) (Q:Post):∀ ks,@wM (za8 G b) P T ops σ Q ks=@wM G P T ops σ Q ks
 | []=>by
  funext l env acc
  simp only [wM,zeQ]
 | (k,.mk d e)::ks=>by
  funext l env acc
  simp only [wM,zeQ,wM_base ops σ Q ks]
 | (k,.st d e bs)::ks=>by
  funext l env acc
  simp only [wM,zeQ,wM_base ops σ Q ks]
end
section
variable [G : Globs]
def RegS (P:Program) (T:Tab) (n0:Nat) (id:Nat) (ops:Array Oper) (env:Env) (σ:zaa) (Q:Post):Prop :=
 zaD P T→∀ (b:List Deferred) (H:Nat→Prop) (r:Option Nat) (n:Nat) (w0:World) (O0:Nat→Prop) (m0:Ids) (a:Act) (w:World) (m:Ids),Glob w0 O0→m0.length=n0→Ext H w0 O0 m0 w (own H m σ) m→St H w m σ→reps w (own H m σ) m env a.tmps.toList→@Mk (za8 G b) w0.heap.size w (own H m σ) a.defers →
  (Code.region id ops true).wpIn (FR r) n P (@lift (za8 G b) H w0 O0 m0 Q) a w
end
end Go.Eng
end

section
namespace Go.Eng
open Go
variable {H : Nat → Prop} [Globs]
def seqQ (next:Env→zaa→Prop) (Q:Post):Post:=fun x env σ =>
 match x with
 | .normal=>next env σ
 | x=>Q x env σ
def zhR (id:Nat) (Q:Post):Post:=fun x env σ =>
 match x with
 | .exit i=>if i=id then Q .normal env σ else Q (.exit i) env σ
 | x=>Q x env σ
def loopQ {ι:Type} (n0:Nat) (I:ι→Prop) (E:ι→Env) (S:ι→zaa) (μ:ι→Nat) (i:ι) (Q:Post):Post:=fun x env σ =>
 match x with
 | .normal=>∃ j,I j∧μ j < μ i∧fits n0 env σ (E j) (S j)
 | x=>Q x env σ
def wloop (n0:Nat) (body:Env→zaa→Post→Prop) (env:Env) (σ:zaa) (Q:Post):Prop :=
 ∃ (ι:Type) (I:ι→Prop) (E:ι→Env) (S:ι→zaa) (μ:ι→Nat) (i:ι),I i∧fits n0 env σ (E i) (S i)∧∀ i,I i→body (E i) (S i) (loopQ n0 I E S μ i Q)
def atN (Q:Post) (σ:zaa):Env→Prop:=fun e=>Q .normal e σ
def noRF:Code→Bool
 | .rangeFunc ..=>false
 | .seq a b=>noRF a && noRF b
 | .cond _ a b=>noRF a && noRF b
 | .block _ c=>noRF c
 | .loop c=>noRF c
 | .scope c=>noRF c
 | _=>true
def rangeK (env:Env) (i:Nat) (Q:Post):AEnd→zaa→Prop
 | .ret _, σ' => ∃ st pend e ps as9 bd, σ'[i]? = some (.lp st pend e ps as9 bd) ∧ st ≠ .busy ∧ (match pend with
  | none => Q .normal env (σ'.set i .dead)
  | some (.exit k) => Q (.exit k) env (σ'.set i .dead)
  | some .ret => Q .ret env (σ'.set i .dead)
  | _=>False)
 | .pan r, σ' => Q (.pan r) env (σ'.set i .dead)
def fitQ (n0:Nat) (E:Env) (S:zaa) (Q:Post):Post:=fun x env σ=>match x with
 | .normal=>fits n0 env σ E S
 | .pan r=>Q (.pan r) env σ
 | _=>False
def fitX (n0:Nat) (Q:Post):Post:=fun x env σ=>match x with
 | .normal=>∃ E S,fits n0 env σ E S∧Q .normal E S
 | .pan r=>Q (.pan r) env σ
 | _=>False
def W (P:Program) (T:Tab) (n0:Nat):Code→Env→zaa→Post→Prop
 | .skip,env,σ,Q=>Q .normal env σ
 | .region _ ops false,env,σ,Q=>wops P T ops ops.toList env σ Q
 | .region id ops true,env,σ,Q=>RegS P T n0 id ops env σ Q
 | .seq a b,env,σ,Q=>W P T n0 a env σ (seqQ (fun env σ=>W P T n0 b env σ Q) Q)
 | .cond c a b,env,σ,Q=>match zaN env c with
  | .lit (.bool p)=>(p=true→W P T n0 a env σ Q)∧(p=false→W P T n0 b env σ Q)
  | _=>False
 | .block id c,env,σ,Q=>W P T n0 c env σ (zhR id Q)
 | .loop c,env,σ,Q=>wloop n0 (W P T n0 c) env σ Q
 | .exit id,env,σ,Q=>Q (.exit id) env σ
 | .ret,env,σ,Q=>Q .ret env σ
 | .rangeFunc g ps assign body,env,σ,Q=>match zaN env g with
  | .fn (.func gf) [] cap=>zaW P gf=true∧ACalls P gf (.yl σ.length::cap) (σ++[.lp .ready none env ps assign body]) (rangeK env σ.length Q)
  | _=>False
 | _,_,_,_=>False
theorem zfB (w:World) (g:Nat) (o:Obj):(w.putObj g o).heap.size=w.heap.size:=by simp [World.putObj]
theorem St.loop {w:World} {m:Ids} {σ:zaa} (hs:St H w m σ) {i g:Nat} {st:LoopState} {pend:Option Code} {env:List AV} {ps:Array Tmp} {as9 bd:Code} (hi:σ[i]?=some (.lp st pend env ps as9 bd)) (hm:m[i]?=some (some g)) {L:Loop} (hL:w.heap[g]?=some (.loop L)) (st':LoopState) (pend':Option Code) :
  St H (w.putObj g (.loop { L with state:=st',pending:=pend' })) m (σ.set i (.lp st' pend' env ps as9 bd))∧Ext H w (own H m σ) m (w.putObj g (.loop { L with state:=st',pending:=pend' })) (own H m (σ.set i (.lp st' pend' env ps as9 bd))) m:=by
 obtain⟨g',e,L',k1,k2,k3,k4,k5,k6,k7⟩:=hs.blk i _ _ hi hm
 cases e
 rw [hL] at k1
 cases k1
 refine hs.turn hi rfl rfl hm (zfB _ _ _) (fun b hb=>World.putObj_heap_other hb) rfl rfl rfl ?_ ?_
 ·rintro c ⟨e,f,h1⟩
  rw [hL] at h1
  cases h1
 ·intro hext
  exact⟨g,rfl,_,World.putObj_heap_same (Array.getElem?_eq_some_iff.1 hL).1,rfl,rfl,k4,k5,k6,zah hext _ _ k7⟩
theorem zhS {r:Option Nat} {n:Nat} {P:Program} {T:Tab} (hT:zaD P T) {n0:Nat}:∀ (c:Code) (env:Env) (σ:zaa) (Q:Post) (w0:World) (O0:Nat→Prop) (m0:Ids) (a:Act) (w:World) (m:Ids),W P T n0 c env σ Q →
  (r=none∨noRF c=true)→Glob w0 O0→m0.length=n0→Ext H w0 O0 m0 w (own H m σ) m→St H w m σ→reps w (own H m σ) m env a.tmps.toList→Mk w0.heap.size w (own H m σ) a.defers→c.wpIn (FR r) n P (lift H w0 O0 m0 Q) a w:=by
 intro c
 induction c with
 | skip =>
  intro env σ Q w0 O0 m0 a w m h hr hG hn h0 hs he hd
  exact wpIn_skip ⟨.normal,env,σ,m,hs,h0,he,hd,trivial,h⟩
 | region id ops draw =>
  intro env σ Q w0 O0 m0 a w m h hr hG hn h0 hs he hd
  cases draw with
  | true =>
   exact h hT Globs.base H r n w0 O0 m0 a w m hG hn h0 hs he hd
  | false=>exact wpIn_region_list (ze5 hT hG _ _ _ _ _ _ h h0 hs he hd)
 | seq x y ihx ihy =>
  intro env σ Q w0 O0 m0 a w m h hr hG hn h0 hs he hd
  refine wpIn_seq (wpIn_mono (ihx env σ _ w0 O0 m0 a w m h (hr.imp id fun h=>by simp only [noRF,Bool.and_eq_true] at h;exact h.1) hG hn h0 hs he hd) ?_)
  rintro e a' w' ⟨x', env', σ', m', g1, g2, g3, g4, g5, g6⟩
  cases x' with
  | normal =>
   cases e <;> simp only [xRep] at g5
   exact ihy env' σ' Q w0 O0 m0 a' w' m' g6 (hr.imp id fun h => by simp only [noRF, Bool.and_eq_true] at h; exact h.2) hG hn g2 g1 g3 g4
  | exit i =>
   cases e <;> simp only [xRep] at g5
   exact ⟨.exit i, env', σ', m', g1, g2, g3, g4, g5, g6⟩
  | ret =>
   cases e <;> simp only [xRep] at g5
   exact ⟨.ret, env', σ', m', g1, g2, g3, g4, trivial, g6⟩
  | pan r =>
   cases e <;> simp only [xRep] at g5
   exact ⟨.pan r, env', σ', m', g1, g2, g3, g4, g5, g6⟩
 | cond c x y ihx ihy =>
  intro env σ Q w0 O0 m0 a w m h hr hG hn h0 hs he hd
  simp only [W] at h
  split at h
  ·rename_i p hp
   have hc:=zaO (hG.mono h0) he c
   rw [hp] at hc
   simp only [rep] at hc
   exact wpIn_cond_split hc (fun ht=>ihx env σ Q w0 O0 m0 a w m (h.1 ht) (hr.imp id fun h=>by simp only [noRF,Bool.and_eq_true] at h;exact h.1) hG hn h0 hs he hd) (fun hf=>ihy env σ Q w0 O0 m0 a w m (h.2 hf) (hr.imp id fun h=>by simp only [noRF,Bool.and_eq_true] at h;exact h.2) hG hn h0 hs he hd)
  ·exact h.elim
 | block id c ih =>
  intro env σ Q w0 O0 m0 a w m h hr hG hn h0 hs he hd
  refine wpIn_block (wpIn_mono (ih env σ _ w0 O0 m0 a w m h (hr.imp (fun h=>h) fun h=>by simp only [noRF] at h;exact h) hG hn h0 hs he hd) ?_)
  rintro e a' w' ⟨x', env', σ', m', g1, g2, g3, g4, g5, g6⟩
  cases x' with
  | normal =>
   cases e <;> simp only [xRep] at g5
   exact ⟨.normal, env', σ', m', g1, g2, g3, g4, trivial, g6⟩
  | exit i =>
   cases e <;> simp only [xRep] at g5
   subst g5
   simp only [zhR] at g6
   simp only [Exit.inBlock]
   split
   ·rename_i hi
    rw [if_pos hi] at g6
    exact ⟨.normal, env', σ', m', g1, g2, g3, g4, trivial, g6⟩
   ·rename_i hi
    rw [if_neg hi] at g6
    exact ⟨.exit i, env', σ', m', g1, g2, g3, g4, rfl, g6⟩
  | ret =>
   cases e <;> simp only [xRep] at g5
   exact ⟨.ret, env', σ', m', g1, g2, g3, g4, trivial, g6⟩
  | pan r =>
   cases e <;> simp only [xRep] at g5
   exact ⟨.pan r, env', σ', m', g1, g2, g3, g4, g5, g6⟩
 | loop c ih =>
  intro env σ Q w0 O0 m0 a w m h hr hG hn h0 hs he hd
  obtain⟨ι,I,E,S,μ,i,hi,hfit,hround⟩:=h
  obtain⟨m1,s1,e1,x1,o1⟩:=zdZ hfit hs he h0 hn
  replace hd:=o1 _ _ hd
  clear hfit hs he h0 o1
  have hrr:=hr
  clear hr
  intro b k cs hro hb hr
  have key:∀ n i a w m,μ i=n→I i→St H w m (S i)→reps w (own H m (S i)) m (E i) a.tmps.toList→Mk w0.heap.size w (own H m (S i)) a.defers→Ext H w0 O0 m0 w (own H m (S i)) m →
    ∃ e a' w',lift H w0 O0 m0 Q e a' w'∧ArrivesIn (Machine.fenced P (FR r)) P (lone (b.atR a (.code c::.inLoop c::k)) cs w) b k cs e a' w':=by
   intro n
   induction n using Nat.strongRecOn with
   | _ n ihn =>
    intro i a w m hμ hi hs he hd h0
    obtain⟨e,a1,w1,hq,harr⟩:=ih (E i) (S i) _ w0 O0 m0 a w m (hround i hi) (hrr.imp id fun h=>by simp only [noRF] at h;exact h) hG hn h0 hs he hd b (.inLoop c::k) cs hro hb hr
    obtain ⟨x', env', σ', m', g1, g2, g3, g4, g5, g6⟩ := hq
    cases x' with
    | normal =>
     cases e <;> simp only [xRep] at g5
     obtain⟨j,hj,hlt,hf⟩:=g6
     obtain⟨m2,s2,e2,x2,o2⟩:=zdZ hf g1 g3 g2 hn
     obtain⟨e',a2,w2,hq2,harr2⟩:=ihn (μ j) (hμ ▸ hlt) j a1 w1 m2 rfl hj s2 e2 (o2 _ _ g4) x2
     exact⟨e',a2,w2,hq2,.of_steps (StepsIn.trans harr (.one (fenced_calm hb hr rfl) stepR_inLoop)) harr2⟩
    | exit id =>
     cases e <;> simp only [xRep] at g5
     exact ⟨.exit _, a1, w1, ⟨.exit id, env', σ', m', g1, g2, g3, g4, g5, g6⟩, .pass (x := .inLoop c) rfl (fun _ _ => .inl (by simp)) harr⟩
    | ret =>
     cases e <;> simp only [xRep] at g5
     exact ⟨.ret, a1, w1, ⟨.ret, env', σ', m', g1, g2, g3, g4, trivial, g6⟩, .pass (x := .inLoop c) rfl (fun _ _ => .inl (by simp)) harr⟩
    | pan r =>
     cases e <;> simp only [xRep] at g5
     exact ⟨.panic _, a1, w1, ⟨.pan r, env', σ', m', g1, g2, g3, g4, g5, g6⟩, .pass (x := .inLoop c) rfl (fun _ _ => .inl (by simp)) harr⟩
  obtain⟨e,a',w',hq,harr⟩:=key _ i a w m1 rfl hi s1 e1 hd x1
  exact⟨e,a',w',hq,.of_steps (.one (fenced_calm hb hr rfl) stepR_loop) harr⟩
 | exit id =>
  intro env σ Q w0 O0 m0 a w m h hr hG hn h0 hs he hd
  exact wpIn_exit ⟨.exit id,env,σ,m,hs,h0,he,hd,rfl,h⟩
 | ret =>
  intro env σ Q w0 O0 m0 a w m h hr hG hn h0 hs he hd
  exact wpIn_ret ⟨.ret,env,σ,m,hs,h0,he,hd,trivial,h⟩
 | rangeFunc f ps x y _ _ =>
  intro env σ Q w0 O0 m0 a w m h hr hG hn h0 hs he hd
  have hrn:r=none:=hr.resolve_right (by simp [noRF])
  subst hrn
  simp only [W] at h
  split at h
  case h_2=>exact h.elim
  rename_i gf cap hf
  have hfr:=zaO (hG.mono h0) he f
  rw [hf] at hfr
  simp only [rep,reps] at hfr
  obtain⟨xx,lb,e1,hxx,r2⟩:=hfr
  have hxe:xx=#[]:=by cases xx;simp at hxx;simp [hxx]
  subst hxe
  refine wpIn_rangeFunc fun fn _=>?_
  obtain⟨wa,hwa⟩:∃ wa,w.alloc (.deferred (some []))=wa:=⟨_,rfl⟩
  obtain⟨sa,xa⟩:=hs.old (w':=wa) (by rw [← hwa];simp) (fun b hb=>by rw [← hwa];exact RowKit.Below.heap_alloc _ _ _ hb) (by rw [← hwa];rfl) (by rw [← hwa];rfl) (by rw [← hwa];rfl)
  have hsz:wa.heap.size=w.heap.size+1:=by rw [← hwa];simp
  obtain⟨L,hL⟩:∃ L:Loop,L={ state:=.ready,pending:=none,fn:=fn,tmps:=a.tmps,params:=ps,assign:=x,body:=y,defers:=w.heap.size }:=⟨_,rfl⟩
  obtain⟨w1,hw1⟩:∃ w1,wa.alloc (.loop L)=w1:=⟨_,rfl⟩
  have hnew:w1.heap[w.heap.size+1]?=some (.loop L):=by rw [← hw1,← hsz];exact World.alloc_heap_new wa _
  obtain⟨s1,x1⟩:=sa.more (w':=w1) (g:=some (w.heap.size+1)) (x:=.lp .ready none env ps x y) (by rw [← hw1];simp) (fun b hb=>by rw [← hw1];exact RowKit.Below.heap_alloc _ _ _ hb) (by rw [← hw1];rfl) (by rw [← hw1];rfl) (by rw [← hw1];rfl) (fun b hb=>by cases hb;omega)
   (fun hext=>⟨_,rfl,L,hnew,by rw [hL],by rw [hL],by rw [hL],by rw [hL],by rw [hL],by rw [hL];exact zah hext _ _ (zah xa _ _ he)⟩)
  have hD:wa.heap[w.heap.size]?=some (.deferred (some [])):=by rw [← hwa];exact World.alloc_heap_new w _
  have hDo:¬ own H m σ w.heap.size:=fun ho=>by have:=hs.ownlt ho;omega
  have hmk:Mk w0.heap.size wa (own H m σ) ({ target:=.collected w.heap.size,args:=#[] }::a.defers):=by
   obtain⟨l,e,hnd,hl⟩:=hd
   refine⟨w.heap.size::l,by rw [e];rfl,List.nodup_cons.2 ⟨fun hm=>?_,hnd⟩,fun D hD'=>?_⟩
   ·have:=(Array.getElem?_eq_some_iff.1 (hl _ hm).2.2).1
    omega
   ·rcases List.mem_cons.1 hD' with rfl | hD'
    ·exact⟨h0.heap,hDo,hD⟩
    ·obtain⟨g1,g2,g3⟩:=hl D hD'
     exact⟨g1,g2,by rw [xa.same D (Array.getElem?_eq_some_iff.1 g3).1 g2];exact g3⟩
  have e0:=h0.trans (xa.trans x1)
  refine⟨w.heap.size+1,[{ target:=.collected w.heap.size,args:=#[] }],w1,{ target:=.fn (.func gf) lb,args:=#[.func (.yield (w.heap.size+1)) #[] #[]] },w1,gf,
   #[.func (.yield (w.heap.size+1)) #[] #[]]++lb,w1,?_,?_,fun _ _=>trivial,?_,fun h=>absurd h (by simp [FR,Fence.wide]),?_⟩
  ·show (Instr.enterLoop fn a.tmps ps x y none).run P w=_
   rw [run_enterLoop_outer,← hw1,← hwa,hL]
  ·simp only [resolve,e1]
   simp [go_sem]
  ·simp only [invoke]
   rw [zdH h.1]
  ·have hl:(m++[some (w.heap.size+1)])[σ.length]?=some (some (w.heap.size+1)):=zhv sa _
   refine zgw ((CallsR.calls (h.2 H w1 _ _ (hG.mono e0) s1 ?_) h.1).mono ?_)
   ·simp only [reps,Array.toList_append]
    exact⟨_,lb.toList,rfl,by simp only [rep];exact⟨_,rfl,hl⟩,zah x1 _ _ (zah xa _ _ r2)⟩
   ·rintro e w3 ⟨z,m3,σ3,g1,g2,g3,g4⟩
    cases z with
    | pan r =>
     cases e <;> simp only [zb5] at g3
     obtain⟨v,rfl,hv⟩:=g3
     obtain⟨u1,u2⟩:=g1.letgo (i:=σ.length) (x:=.dead) (.inl rfl)
     have tot:=x1.trans (g2.trans u2)
     exact⟨.pan r,env,_,m3,u1,h0.trans (xa.trans tot),zah tot _ _ (zah xa _ _ he),hmk.mono tot,⟨v,rfl,zaP u2 _ _ hv⟩,g4⟩
    | ret r =>
     cases e <;> simp only [zb5] at g3
     obtain⟨st,pend,e',ps',as',bd',k1,k2,k3⟩:=g4
     have hm3:=g2.ids _ _ hl
     obtain⟨g',eg,L3,q1,q2,q3,q4⟩:=g1.blk _ _ _ k1 hm3
     cases eg
     obtain⟨t1,t2⟩:=g1.loop k1 hm3 q1 .exhausted pend
     obtain⟨u1,u2⟩:=t1.letgo (i:=σ.length) (x:=.dead) (.inl rfl)
     have hss:(σ3.set σ.length (.lp .exhausted pend e' ps' as' bd')).set σ.length .dead=σ3.set σ.length .dead:=by simp
     rw [hss] at u1 u2
     have tot:=x1.trans (g2.trans (t2.trans u2))
     have hend:=run_endLoop (P:=P) q1 (by rw [q2];exact k2)
     refine⟨pend,_,by rw [hend,q3],?_⟩
     have base:∀ (ex:AX) (e:Exit),xRep (w3.putObj (w.heap.size+1) (.loop { L3 with state:=.exhausted,pending:=pend })) (own H m3 (σ3.set σ.length .dead)) m3 ex e→Q ex env (σ3.set σ.length .dead) →
       lift H w0 O0 m0 Q e { a with defers:=[{ target:=.collected w.heap.size,args:=#[] }]++a.defers } (w3.putObj (w.heap.size+1) (.loop { L3 with state:=.exhausted,pending:=pend })):=fun ex e hx hq =>
      ⟨ex,env,_,m3,u1,h0.trans (xa.trans tot),zah tot _ _ (zah xa _ _ he),hmk.mono tot,hx,hq⟩
     split at k3
     ·exact base .normal .normal trivial k3
     ·exact wpIn_exit (base (.exit _) (.exit _) rfl k3)
     ·exact wpIn_ret (base .ret .ret trivial k3)
     ·exact k3.elim
 | scope c _=>intro env σ Q w0 O0 m0 a w m h;exact h.elim
 | label l=>intro env σ Q w0 O0 m0 a w m h;exact h.elim
 | goto l=>intro env σ Q w0 O0 m0 a w m h;exact h.elim
 | refuse s=>intro env σ Q w0 O0 m0 a w m h;exact h.elim
end Go.Eng
end

section
namespace Go.Eng
open Go
section
variable (G : Globs) (b : List Deferred) (P : Program) (T : Tab)
theorem zj4 (n0:Nat):∀ c,@W (za8 G b) P T n0 c=@W G P T n0 c:=by
 intro c
 induction c with
 | region id ops draw =>
  funext env σ Q
  cases draw with
  | false=>simp only [W,zeP]
  | true=>rfl
 | seq x y ihx ihy =>
  funext env σ Q
  simp only [W,ihx,ihy]
 | cond c x y ihx ihy =>
  funext env σ Q
  simp only [W,ihx,ihy]
  rfl
 | block id x ih =>
  funext env σ Q
  simp only [W,ih]
 | loop x ih =>
  funext env σ Q
  simp only [W,ih]
 | _ =>
  funext env σ Q
  first | rfl | (simp only [W];rfl)
end
end Go.Eng
end

section
namespace Go.Eng
open Go
variable {H : Nat → Prop} [Globs]
def wres (T:Tab) (env:Env) (σ:zaa):List ResultVar→(List AV→Prop)→Prop
 | [],K=>K []
 | .tmp t::r,K=>wres T env σ r fun l=>K ((env[t]?).getD .bot::l)
 | .cell a t::r,K=>zen T t ((env[a]?).getD .bot) σ fun v=>wres T env σ r fun l=>K (v::l)
def zcR:List AV→AV
 | [x]=>x
 | l=>.tup l
def endR (n0:Nat) (r:AV) (σ:zaa) (K:AV→zaa→Prop):Prop :=
 ∃ (q : List Nat) (r' : AV) (σ' : zaa), q.length = σ'.length ∧ q.take n0 = List.range n0 ∧ q.Nodup ∧ r'.ren q = some r ∧ zaw σ q q σ' ∧ K r' σ'
def endF (n0:Nat) (r:AV) (σ:zaa) (K:AV→zaa→Prop):Prop :=
 n0=0∧∃ id off len sz cs,r=.ref id off len sz∧σ[id]?=some (.rw cs)∧off+len * sz≤cs.length∧renL [] cs=some cs∧K (.sl ((cs.drop off).take (len * sz)) len) []
def endS (n0:Nat) (r:AV) (σ:zaa) (K:AV→zaa→Prop):Prop :=
 ∃ (ids:List Nat) (r1:AV),frzA (zdX σ ids) r r1∧endR n0 r1 (zdX σ ids) K
def endN (n0:Nat) (r:AV) (K:AV→zaa→Prop):Prop:=n0=0∧r=.lit (.slice none 0 0)∧(K (.sl [] 0) []∨∃ sz,K (.ref 0 0 0 sz) [.rw []])
def endQ (n0:Nat) (r:AV) (σ:zaa) (K:AV→zaa→Prop):Prop:=endR n0 r σ K∨endF n0 r σ K∨(endN n0 r K∨endS n0 r σ K)∨K r σ
def retQ (T:Tab) (n0:Nat) (rs:List ResultVar) (K:AEnd→zaa→Prop):Post:=fun x env σ =>
 match x with
 | .normal | .ret => wres T env σ rs fun l => endQ n0 (zcR l) σ (fun r σ' => K (.ret r) σ')
 | .pan r => endQ n0 r σ (fun r σ' => K (.pan r) σ')
 | .exit _=>False
def resF (tmps:Array Value):ResultVar→Sem Value
 | .tmp t=>pure (tmps.getD t undef)
 | .cell a t=>do loadVar t (← asAddr (tmps.getD a undef))
theorem results_eq (fn:Func) (tmps:Array Value):results fn tmps=(do let vs ← fn.results.mapM (resF tmps);pure (if h:vs.size=1 then vs[0] else .tuple vs)):=rfl
theorem tmp_sound {w:World} {O:Nat→Prop} {m:Ids} {env:Env} {a:Act} (h:reps w O m env a.tmps.toList) (t:Nat):rep w O m ((env[t]?).getD .bot) (a.tmps.getD t undef):=by
 cases he:env[t]? with
 | none=>simp [rep]
 | some y =>
  obtain⟨v,hv,hr⟩:=zaL h t y he
  rw [Array.getElem?_toList] at hv
  simp only [Option.getD_some,Array.getD_eq_getD_getElem?,hv]
  exact hr
theorem wload_ptr_some {T:Tab} {w:World} {O:Nat→Prop} {m:Ids} {σ:zaa} {t:TypeId} {x:AV} {v:Value} {K:AV→Prop} (h:zen T t x σ K) (hr:rep w O m x v):∃ a,v=.pointer (some a):=by
 unfold zen at h
 split at h
 ·exact h.elim
 ·cases x <;> simp only at h <;> first | exact h.elim | skip
  ·simp only [rep] at hr
   obtain⟨b,off,e,_⟩:=hr
   exact⟨_,e⟩
  ·simp only [rep] at hr
   obtain⟨g,e,_⟩:=hr
   exact⟨_,e⟩
theorem zgA {P:Program} {T:Tab} (hT:zaD P T) {w:World} {m:Ids} {σ:zaa} (hs:St H w m σ) {env:Env} {a:Act} (he:reps w (own H m σ) m env a.tmps.toList):∀ (rs:List ResultVar) (K:List AV→Prop),wres T env σ rs K →
  ∃ (vs:List Value) (l:List AV),(rs.mapM (resF a.tmps)).run P w=.ok vs w∧reps w (own H m σ) m l vs∧K l
 | [],K,h=>⟨[],[],by simp,by simp [reps],h⟩
 | .tmp t::rs,K,h=>by
  obtain⟨vs,l,h2,h3,h4⟩:=zgA hT hs he rs _ h
  refine⟨a.tmps.getD t undef::vs,_,?_,?_,h4⟩
  ·simp only [List.mapM_cons,Sem.run_bind,resF,Sem.run_pure,Result.andThen_ok,h2]
  ·simp only [reps]
   exact⟨_,_,rfl,tmp_sound he t,h3⟩
 | .cell c t::rs,K,h=>by
  simp only [wres] at h
  have hr:=tmp_sound he c
  obtain⟨ad,ha⟩:=wload_ptr_some h hr
  obtain⟨v,r,h1,h2,h3⟩:=zfs (P:=P) hT hs h hr
  obtain⟨vs,l,h4,h5,h6⟩:=zgA hT hs he rs _ h3
  refine⟨v::vs,_,?_,?_,h6⟩
  ·rw [ha] at h1
   simp only [Instr.loadAt,Instr.sureAddr,Sem.run_bind,Sem.run_pure,Result.andThen_ok] at h1
   simp only [List.mapM_cons,Sem.run_bind,resF,ha,asAddr,Sem.run_pure,Result.andThen_ok,h1,h4]
  ·simp only [reps]
   exact⟨_,_,rfl,h2,h5⟩
theorem ziO {w0 w:World} {O0:Nat→Prop} {m0 m:Ids} {σ:zaa} {r:AV} {v:Value} {n0:Nat} {K:AV→zaa→Prop} (h:endR n0 r σ K) (hs:St H w m σ) (hr:rep w (own H m σ) m r v) (h0:Ext H w0 O0 m0 w (own H m σ) m) (hn:m0.length=n0) :
  ∃ r' m' σ', St H w m' σ' ∧ Ext H w0 O0 m0 w (own H m' σ') m' ∧ rep w (own H m' σ') m' r' v ∧ K r' σ' := by
 obtain ⟨q, r', σ', h1, h2, h3, h4, h5, h6⟩ := h
 obtain⟨m',g1,R,g3⟩:=hs.ren h1 h3 h5
 refine ⟨r', m', σ', g1, ⟨h0.heap, h0.same, fun b hb => h0.own b (R.own b hb), fun i x hx => ?_, h0.rows, h0.os, h0.tape, h0.output, h0.hid⟩, zer R _ _ _ h4 hr, h6⟩
 have hi:=(List.getElem?_eq_some_iff.1 hx).1
 have hq:q[i]?=some i:=by
  have:=congrArg (fun l=>l[i]?) h2
  simp only [List.getElem?_take] at this
  rw [if_pos (by omega),List.getElem?_range (by omega)] at this
  exact this
 rw [g3,List.getElem?_map,hq]
 simp [h0.ids i x hx]
theorem zd4 {w0 w:World} {O0:Nat→Prop} {m0 m:Ids} {σ:zaa} {r:AV} {v:Value} {n0:Nat} {K:AV→zaa→Prop} (h:endQ n0 r σ K) (hs:St H w m σ) (hr:rep w (own H m σ) m r v) (h0:Ext H w0 O0 m0 w (own H m σ) m) (hn:m0.length=n0) :
  ∃ r' m' σ', St H w m' σ' ∧ Ext H w0 O0 m0 w (own H m' σ') m' ∧ rep w (own H m' σ') m' r' v ∧ K r' σ' := by
 rcases h with h | ⟨rfl,id,off,len,sz,cs,rfl,hi,hle,hc,hk⟩ | (⟨rfl,rfl,hk⟩ | ⟨ids,r1,hf,hk⟩) | hk
 rotate_right
 ·exact⟨r,m,σ,hs,h0,hr,hk⟩
 rotate_right
 ·obtain⟨s1,x1⟩:=zcP ids σ hs
  exact ziO hk s1 (zdY s1 r r1 v hf (zaP x1 _ _ hr)) (h0.trans x1) hn
 ·exact ziO h hs hr h0 hn
 ·have hm0:m0=[]:=List.eq_nil_of_length_eq_zero hn
  subst hm0
  obtain⟨k1,k2⟩:=hs.letgo (i:=id) (x:=.ro cs) (.inr ⟨cs,hi,0,cs.length,by simp,rfl⟩)
  have hil:id < σ.length:=(List.getElem?_eq_some_iff.1 hi).1
  have s0:St H w [] []:=⟨rfl,fun i x mi hx=>by simp at hx,fun i j ci cj g hx=>by simp at hx,fun b hb=>⟨(hs.hid b hb).1,fun i cs hi=>by simp at hi⟩⟩
  refine⟨_,[],[],s0,⟨h0.heap,h0.same,fun b hb=>?_,fun i x hx=>by simp at hx,h0.rows,h0.os,h0.tape,h0.output,h0.hid⟩,?_,hk⟩
  ·rcases hb with hH | ⟨i,cs,hi,_⟩
   ·exact h0.own b (.inl hH)
   ·simp at hi
  ·simp only [rep] at hr ⊢
   rcases hr with ⟨rfl,rfl,rfl,_⟩ | ⟨g,cap,c,rfl,hm,hlc,hcm,_⟩
   ·exact⟨none,0,rfl,Nat.le_refl _,by simp [maxLen],.inl (by simp)⟩
   ·refine⟨_,cap,rfl,hlc,hcm,?_⟩
    rcases k1.blk id (.ro cs) (some g) (by simp [hil]) hm with h2 | ⟨g',e,hO,hat⟩
    ·exact .inl (by simp [h2])
    ·cases e
     by_cases hne:cs=[]
     ·exact .inl (by simp [hne])
     ·have R:Ren (own H m (σ.set id (.ro cs))) m (own H [] []) [] []:=⟨fun b hb=>by
       rcases hb with hH | ⟨i,cs,hi,_⟩
       ·exact .inl hH
       ·simp at hi,fun i k g h1=>by simp at h1,by simp⟩
      have hat2:=zbe R cs cs _ _ hc hat
      have hat3:=zbu (zbE hat2 off) (len * sz)
      rw [Nat.zero_add] at hat3
      exact .inr ⟨g,off,rfl,fun ho=>hO (R.own g ho),zbx hat hne,hat3⟩
 ·have hm0:m0=[]:=List.eq_nil_of_length_eq_zero hn
  subst hm0
  have s0:St H w [] []:=⟨rfl,fun i x mi hx=>by simp at hx,fun i j ci cj g hx=>by simp at hx,fun b hb=>⟨(hs.hid b hb).1,fun i cs hi=>by simp at hi⟩⟩
  have x0:Ext H w0 O0 [] w (own H [] []) []:=⟨h0.heap,h0.same,fun b hb=>by
   rcases hb with hH | ⟨i,cs,hi,_⟩
   ·exact h0.own b (.inl hH)
   ·simp at hi,fun i x hx=>by simp at hx,h0.rows,h0.os,h0.tape,h0.output,h0.hid⟩
  rcases hk with hk | ⟨sz,hk⟩
  rotate_right
  ·have hmore:=s0.more (w':=w) (g:=none) (x:=.rw []) (Nat.le_refl _) (fun _ _=>rfl) rfl rfl rfl (fun b hb=>by cases hb) (fun _=>.inl ⟨rfl,rfl⟩)
   refine⟨_,_,_,hmore.1,x0.trans hmore.2,?_,hk⟩
   simp only [rep] at hr ⊢
   exact .inl ⟨hr,trivial,trivial,by simp⟩
  refine⟨_,[],[],s0,x0,?_,hk⟩
  ·simp only [rep] at hr ⊢
   subst hr
   exact⟨none,0,rfl,Nat.le_refl _,by simp [maxLen],.inl (by trivial)⟩
theorem zdv {P:Program} {T:Tab} (hT:zaD P T) {fn:Func} {w:World} {m:Ids} {σ:zaa} (hs:St H w m σ) {env:Env} {a:Act} {K:List AV→Prop} (he:reps w (own H m σ) m env a.tmps.toList) (h:wres T env σ fn.results.toList K) :
  ∃ v l,(results fn a.tmps).run P w=.ok v w∧rep w (own H m σ) m (zcR l) v∧K l:=by
 obtain⟨vs,l,h1,h2,hK⟩:=zgA (P:=P) hT hs he _ _ h
 rw [results_eq,Sem.run_bind,Array.mapM_eq_mapM_toList,Sem.run_map,h1]
 simp only [Result.andThen_ok,Sem.run_pure]
 refine⟨_,l,rfl,?_,hK⟩
 match l,vs,h2 with
 | [],vs,h2 =>
  simp only [reps] at h2
  subst h2
  simp [zcR,rep,reps]
 | [x],vs,h2 =>
  simp only [reps] at h2
  obtain⟨v,_,rfl,h3,rfl⟩:=h2
  simpa [zcR] using h3
 | x::y::r,vs,h2 =>
  have hl:=zan h2
  simp only [List.length_cons] at hl
  have:¬ (vs.toArray.size=1):=by simp;omega
  rw [dif_neg this]
  simp only [zcR,rep]
  exact⟨_,rfl,h2⟩
theorem zeR {w:World} {O:Nat→Prop} {m:Ids}:∀ (n:Nat) (v:Value),reps w O m (List.replicate n .bot) (List.replicate n v)
 | 0,_=>by simp [reps]
 | n+1,v=>by
  simp only [List.replicate_succ,reps]
  exact⟨v,_,rfl,by simp [rep],zeR n v⟩
structure Alike (w w':World):Prop where
 cell:∀ a,w'.cell? a=w.cell? a
 size:w'.heap.size=w.heap.size
 row:∀ g c,Row w g c→Row w' g c
 rowT:∀ g c e,RowT w g c e→RowT w' g c e
 cel:∀ g c,Cel w g c→Cel w' g c
 cells:∀ (g:Nat) (c:Array Value) (e:TypeId) (f:Nat × Nat),w.heap[g]?=some (.cells c e f)→w'.heap[g]?=some (.cells c e f)
 loop:∀ (g:Nat) (L:Loop),w.heap[g]?=some (.loop L)→w'.heap[g]?=some (.loop L)
 map:∀ (g:Nat) (es:Array MapEntry) (c:Nat),w.heap[g]?=some (.map es c)→w'.heap[g]?=some (.map es c)
 iter:∀ (g:Nat) (m:Option Nat) (c:Nat) (sn:Array Nat) (d:Nat),w.heap[g]?=some (.mapIter m c sn d)→w'.heap[g]?=some (.mapIter m c sn d)
mutual
theorem zd5 {w w':World} {O:Nat→Prop} {m:Ids} (h:Alike w w'):(x:AV)→(v:Value)→rep w O m x v→rep w' O m x v
 | .bot,_,_=>by simp [rep]
 | .lit u,v,hr=>by simpa [rep] using hr
 | .agg l,v,hr=>by
  simp only [rep] at hr ⊢
  obtain⟨a,e,h1⟩:=hr
  exact⟨a,e,zbm h l _ h1⟩
 | .tup l,v,hr=>by
  simp only [rep] at hr ⊢
  obtain⟨a,e,h1⟩:=hr
  exact⟨a,e,zbm h l _ h1⟩
 | .sl cs len,v,hr=>by
  simp only [rep] at hr ⊢
  obtain⟨ad,cap,e,h1,h2,h3⟩:=hr
  refine⟨ad,cap,e,h1,h2,h3.imp id ?_⟩
  rintro⟨b,off,e1,hO,hb,hat⟩
  exact⟨b,off,e1,hO,by rw [h.size];exact hb,zcu h b cs off hat⟩
 | .rp cs,v,hr=>by
  simp only [rep] at hr ⊢
  obtain⟨b,off,e1,hO,hb,hat⟩:=hr
  exact⟨b,off,e1,hO,by rw [h.size];exact hb,zcu h b cs off hat⟩
 | .ref id off len sz,v,hr=>by
  simp only [rep] at hr ⊢
  rcases hr with h1 | ⟨g,cap,c,e1,e2,e3,e4,hr,e5⟩
  ·exact .inl h1
  ·exact .inr ⟨g,cap,c,e1,e2,e3,e4,h.cel g c hr,e5⟩
 | .ptr id off,v,hr=>by simpa only [rep] using hr
 | .yl id,v,hr=>by simpa only [rep] using hr
 | .mpt id,v,hr=>by simpa only [rep] using hr
 | .fn f a b,v,hr=>by
  simp only [rep] at hr ⊢
  obtain⟨x,y,e,h1,h2⟩:=hr
  exact⟨x,y,e,zbm h a _ h1,zbm h b _ h2⟩
 | .ifc t a,v,hr=>by
  simp only [rep] at hr ⊢
  obtain⟨u,e,h1⟩:=hr
  exact⟨u,e,zd5 h a _ h1⟩
 | .sd id n,v,hr=>by simpa only [rep] using hr
 | .bsl id n,v,hr=>by
  simp only [rep] at hr ⊢
  rcases hr with h1 | ⟨g,cap,c,e1,e2,e3,e4,hr,e5⟩
  ·exact .inl h1
  ·exact .inr ⟨g,cap,c,e1,e2,e3,e4,h.cel g c hr,e5⟩
theorem zbm {w w':World} {O:Nat→Prop} {m:Ids} (h:Alike w w'):(l:List AV)→(vs:List Value)→reps w O m l vs→reps w' O m l vs
 | [],_,hr=>by simpa [reps] using hr
 | a::l,vs,hr=>by
  simp only [reps] at hr ⊢
  obtain⟨v,r,e,h1,h2⟩:=hr
  exact⟨v,r,e,zd5 h a _ h1,zbm h l _ h2⟩
theorem zcu {w w':World} {O:Nat→Prop} {m:Ids} (h:Alike w w') (b:Nat):(l:List AV)→(off:Nat)→zaJ w O m b l off→zaJ w' O m b l off
 | [],_,_=>by simp [zaJ]
 | a::l,off,hr=>by
  simp only [zaJ] at hr ⊢
  obtain⟨⟨v,e,h1⟩,h2⟩:=hr
  exact⟨⟨v,(h.cell _).trans e,zd5 h a _ h1⟩,zcu h b l _ h2⟩
end
theorem Alike.deferred {w:World} {D:Nat} {x:Option (List Deferred)} (hD:w.heap[D]?=some (.deferred x)) (y:Option (List Deferred)):Alike w (w.putObj D (.deferred y)):=by
 have hlt:=(Array.getElem?_eq_some_iff.1 hD).1
 refine⟨fun a=>?_,zfB _ _ _,fun g c hr=>?_,fun g c e hr=>?_,fun g c hr=>?_,fun g c e f hL=>?_,fun g L hL=>?_,fun g es c hL=>?_,fun g m c sn d hL=>?_⟩
 ·by_cases ha:a.block=D
  ·simp only [World.cell?,ha,World.putObj_heap_same hlt,hD]
  ·simp only [World.cell?,World.putObj_heap_other ha]
 ·obtain⟨e,lo,hi,h1,h2⟩:=hr
  refine⟨e,lo,hi,?_,h2⟩
  rw [World.putObj_heap_other]
  ·exact h1
  ·rintro rfl;rw [hD] at h1;cases h1
 ·obtain⟨lo,hi,h1,h2⟩:=hr
  refine⟨lo,hi,?_,h2⟩
  rw [World.putObj_heap_other]
  ·exact h1
  ·rintro rfl;rw [hD] at h1;cases h1
 ·obtain⟨e,f,h1⟩:=hr
  refine⟨e,f,?_⟩
  rw [World.putObj_heap_other]
  ·exact h1
  ·rintro rfl;rw [hD] at h1;cases h1
 ·rw [World.putObj_heap_other]
  ·exact hL
  ·rintro rfl;rw [hD] at hL;cases hL
 ·rw [World.putObj_heap_other]
  ·exact hL
  ·rintro rfl;rw [hD] at hL;cases hL
 ·rw [World.putObj_heap_other]
  ·exact hL
  ·rintro rfl;rw [hD] at hL;cases hL
 ·rw [World.putObj_heap_other]
  ·exact hL
  ·rintro rfl;rw [hD] at hL;cases hL
theorem St.alike {w w':World} {m:Ids} {σ:zaa} (hs:St H w m σ) (h:Alike w w'):St H w' m σ:=by
 refine⟨hs.len,fun i x mi hx hmi=>?_,hs.inj,fun b hb=>⟨by rw [h.size];exact(hs.hid b hb).1,(hs.hid b hb).2⟩⟩
 have hb:=hs.blk i x mi hx hmi
 cases x with
 | dead=>trivial
 | ro cs=>exact hb.imp (fun h=>h) fun ⟨g,e,h1,h2⟩=>⟨g,e,h1,zcu h g _ _ h2⟩
 | rw cs=>exact hb.imp (fun h=>h) fun ⟨g,c,e,h1,h2,h3⟩=>⟨g,c,e,h.row g c h1,h2,zcu h g _ _ h3⟩
 | rt xx ee cs=>exact hb.imp (fun h=>h) fun ⟨g,c,e,h1,h2,h2',h3⟩=>⟨g,c,e,h.rowT g c _ h1,h2,h2',zcu h g _ _ h3⟩
 | lp st pend env ps as9 bd =>
  obtain⟨g,e,L,k1,k2,k3,k4,k5,k6,k7⟩:=hb
  exact⟨g,e,L,h.loop g L k1,k2,k3,k4,k5,k6,zbm h _ _ k7⟩
 | mpb ks vs =>
  obtain⟨g,e,es,c,k1,k2,k7,k8⟩:=hb
  exact⟨g,e,es,c,h.map g es c k1,k2,zbm h _ _ k7,k8⟩
 | mpi ks vs sn =>
  obtain⟨g,e,gm,es,c,k1,⟨k3,k4,k5⟩,k2,k7,k8⟩:=hb
  exact⟨g,e,gm,es,c,h.iter g _ _ _ _ k1,⟨k3,by rw [h.size];exact k4,h.map gm es c k5⟩,k2,zbm h _ _ k7,k8⟩
 | fz fe fk fc =>
  obtain⟨g,e,c,hi,k1,k1',k2,k3⟩:=hb
  exact⟨g,e,c,hi,h.cells g c _ _ k1,k1',k2,zcu h g _ _ k3⟩
theorem Ext.shut {w0 w:World} {O0 O:Nat→Prop} {m0 m:Ids} (h:Ext H w0 O0 m0 w O m) {D:Nat} (hb:w0.heap.size≤D) {x:Option (List Deferred)} (hD:w.heap[D]?=some (.deferred x)) (y:Option (List Deferred)) (hh:∀ b,H b→b < w0.heap.size):Ext H w0 O0 m0 (w.putObj D (.deferred y)) O m where
 heap:=by rw [zfB];exact h.heap
 same b hlt ho:=by rw [World.putObj_heap_other (by omega)];exact h.same b hlt ho
 own:=h.own
 ids:=h.ids
 rows g c hr:=by
  obtain⟨c',r',e'⟩:=h.rows g c hr
  exact⟨c',(Alike.deferred hD y).cel g c' r',e'⟩
 os:=h.os
 tape:=h.tape
 output:=h.output
 hid b hb':=by rw [World.putObj_heap_other (by have:=hh b hb';omega)];exact h.hid b hb'
theorem zc1 {P:Program} {fn:Func} {tmps:Array Value} {R:Ending→World→Prop} {u:FrameMode} {J:World→Prop} {b:Nat} (hu:u≠.run) (hJ:∀ D w,b≤D→J w→w.heap[D]?=some (.deferred (some []))→J (w.putObj D (.deferred none))) (hfin:∀ w,J w→LeavesIn Fence.wide 0 P fn tmps R [] u w) :
  ∀ (l:List Nat) (w:World),l.Nodup→(∀ D∈l,b≤D∧w.heap[D]?=some (.deferred (some [])))→J w→LeavesInM Fence.wide 0 P fn tmps R (l.map (fun D=>{ target:=.collected D,args:=#[] })) u w
 | [],w,_,_,h=>hfin w h
 | D::l,w,hn,hl,h=>by
  obtain⟨h1,h2⟩:=hl D (by simp)
  obtain⟨n1,n2⟩:=List.nodup_cons.1 hn
  refine⟨hu,.inl ⟨D,_,rfl,run_takeDeferred h2,zc1 hu hJ hfin l _ n2 (fun E hE=>?_) (hJ D w h1 h h2)⟩⟩
  obtain⟨h3,h4⟩:=hl E (List.mem_cons_of_mem _ hE)
  exact⟨h3,by rw [World.putObj_heap_other (by rintro rfl;exact n1 hE)];exact h4⟩
theorem ACalls.body {P:Program} {T:Tab} (hT:zaD P T) {f:FuncId} {fn:Func} {c:Code} {as9:List AV} {σ:zaa} {K:AEnd→zaa→Prop} {n:Nat} {rs:List ResultVar} (hf:P.funcs[f]?=some fn) (hc:zaW P f=true) (hb:fn.body=some c) (hn:fn.ntmps=n) (hrs:fn.results.toList=rs)
  (h:W P T σ.length c (as9++List.replicate (n - as9.length) .bot) σ (retQ T σ.length rs K)):ACalls P f as9 σ K:=by
 refine fun H w m vs hg hs hr=>.inl ⟨hc,callsIn_wide.1 (callsIn_of_wp_marks (F:=Fence.wide) (n:=0) hf hb trivial ?_)⟩
 have hl:=zan hr
 replace h:=(congrFun (congrFun (congrFun (zj4 ‹Globs› [] P T σ.length c) (as9++List.replicate (n - as9.length) .bot)) σ) (retQ T σ.length rs K)).mpr h
 letI GB:Globs:=za8 ‹Globs› []
 have hw:=zhS (r:=none) (n:=0) hT c _ σ _ w (own H m σ) m { tmps:=vs++Array.replicate (fn.ntmps - vs.size) undef,defers:=[] } w m h (.inl rfl) hg hs.len (Ext.refl _ _ _) hs (by
  simp only [Array.toList_append,Array.toList_replicate]
  refine zby hr ?_
  rw [show vs.size=as9.length by simpa using hl,hn]
  exact zeR _ _) Mk.nil
 refine wpIn_mono (hw:c.wpIn Fence.wide 0 P _ _ _) ?_
 have hh:∀ b,H b→b < w.heap.size:=fun b hb=>(hs.hid b hb).1
 rintro e a w' ⟨x, env, σ', m', g1, g2, g3, g4, g5, g6⟩
 have fin : wres T env σ' rs (fun l => endQ σ.length (zcR l) σ' (fun r σ' => K (.ret r) σ')) → LeavesInM Fence.wide 0 P fn a.tmps (fun e w' => ∃ x m' σ', St H w' m' σ' ∧ Ext H w (own H m σ) m w' (own H m' σ') m' ∧ zb5 w' (own H m' σ') m' x e ∧ K x σ') a.defers .returning w' := by
  intro hk
  rw [← hrs] at hk
  obtain⟨ms,e,hnd,hms⟩:=g4
  rw [show (@Globs.base GB)=[] from rfl,List.append_nil] at e
  rw [e]
  refine zc1 (J := fun w' => St H w' m' σ' ∧ Ext H w (own H m σ) m w' (own H m' σ') m' ∧ reps w' (own H m' σ') m' env a.tmps.toList) (b := w.heap.size) (by simp) (fun D w' hD ⟨j1, j2, j3⟩ hd => ⟨j1.alike (.deferred hd _), j2.shut hD hd _ hh, zbm (.deferred hd _) _ _ j3⟩) ?_ ms w' hnd (fun D hD => ⟨(hms D hD).1, (hms D hD).2.2⟩) ⟨g1, g2, g3⟩
  rintro w' ⟨j1,j2,j3⟩
  obtain⟨v,l,h1,h2,hk⟩:=zdv (P:=P) hT j1 j3 hk
  obtain⟨r',m2,σ2,k1,k2,k3,k4⟩:=zd4 hk j1 h2 j2 hs.len
  exact⟨v,h1,.ret r',m2,σ2,k1,k2,k3,k4⟩
 cases x with
 | normal =>
  cases e <;> simp only [xRep] at g5
  exact fin g6
 | ret =>
  cases e <;> simp only [xRep] at g5
  exact fin g6
 | exit i=>exact g6.elim
 | pan r =>
  cases e <;> simp only [xRep] at g5
  obtain⟨v,rfl,h2⟩:=g5
  obtain⟨ms,e,hnd,hms⟩:=g4
  rw [show (@Globs.base GB)=[] from rfl,List.append_nil] at e
  simp only [bodyPostM]
  rw [e]
  refine zc1 (J := fun w' => St H w' m' σ' ∧ Ext H w (own H m σ) m w' (own H m' σ') m' ∧ rep w' (own H m' σ') m' r v) (b := w.heap.size) (by simp) (fun D w' hD ⟨j1, j2, j3⟩ hd => ⟨j1.alike (.deferred hd _), j2.shut hD hd _ hh, zd5 (.deferred hd _) _ _ j3⟩) ?_ ms w' hnd (fun D hD => ⟨(hms D hD).1, (hms D hD).2.2⟩) ⟨g1, g2, h2⟩
  rintro w' ⟨j1,j2,j3⟩
  obtain⟨r',m2,σ2,k1,k2,k3,k4⟩:=zd4 g6 j1 j3 j2 hs.len
  exact⟨.pan r',m2,σ2,k1,k2,⟨v,rfl,k3⟩,k4⟩
def AEnd.noid:AEnd→Prop
 | .ret r=>r.ren []=some r
 | .pan r=>r.ren []=some r
theorem St.none {w:World} (h:∀ b,H b→b < w.heap.size):St H w [] [] :=
 ⟨rfl,fun i x mi hx=>by simp at hx,fun i j ci cj g hx=>by simp at hx,fun b hb=>⟨h b hb,fun i cs hi=>by simp at hi⟩⟩
theorem ACalls.pure {P : Program} {f : FuncId} {as9 : List AV} {σ : zaa} {K K0 : AEnd → zaa → Prop} (h : ACalls P f as9 [] K0) (has : renL [] as9 = some as9) (hk : ∀ x σ', K0 x σ' → x.noid ∧ K x σ) : ACalls P f as9 σ K := by
 refine fun H w m vs hg hs hr=>?_
 have s0:St (own H m σ) w [] []:=St.none fun b hb=>hs.ownlt hb
 have r0:reps w (own (own H m σ) [] []) [] as9 vs.toList:=by
  refine zbB (q:=[]) ⟨?_,fun i k g h1=>by simp at h1,by simp⟩ _ _ _ has hr
  rintro b (hb | ⟨i,cs,hi,_⟩)
  ·exact hb
  ·simp at hi
 have g0:Glob w (own (own H m σ) [] []):=hg.own fun g ho=>by
  rcases ho with ho | ⟨i,x,⟨hi,_⟩,_⟩
  ·exact ho
  ·simp at hi
 refine(h (own H m σ) w [] vs g0 s0 r0).mono ?_
 rintro e w' ⟨x, m', σ', g1, g2, g3, g4⟩
 have hold:∀ b,b < w.heap.size→w'.heap[b]?=w.heap[b]?:=by
  intro b hb
  by_cases ho:own H m σ b
  ·exact g2.hid b ho
  ·refine g2.same b hb ?_
   rintro(hb' | ⟨i,cs,hi,_⟩)
   ·exact ho hb'
   ·simp at hi
 obtain⟨k1,k2⟩:=hs.old g2.heap hold g2.os g2.tape g2.output
 obtain ⟨k3, k4⟩ := hk x σ' g4
 have R : Ren (own (own H m σ) m' σ') m' (own H m σ) m [] := ⟨fun b hb => .inl hb, fun i k g h1 => by simp at h1, by simp⟩
 refine⟨x,m,σ,k1,k2,?_,k4⟩
 cases x <;> cases e <;> simp only [zb5] at g3 <;> first | exact g3.elim | skip
 ·exact zer R _ _ _ k3 g3
 ·obtain⟨v,e1,h2⟩:=g3
  exact⟨v,e1,zer R _ _ _ k3 h2⟩
theorem ACalls.freeze {P:Program} {f:FuncId} {pre post:List AV} {id off len sz:Nat} {cs:List AV} {σ:zaa} {K:AEnd→zaa→Prop} (hi:σ[id]?=some (.rw cs)) (hle:off+len * sz≤cs.length)
  (h:ACalls P f (pre++.sl ((cs.drop off).take (len * sz)) len::post) (σ.set id (.ro cs)) K):ACalls P f (pre++.ref id off len sz::post) σ K:=by
 refine fun H w m vs hg hs hr=>?_
 obtain⟨k1,k2⟩:=hs.letgo (i:=id) (x:=.ro cs) (.inr ⟨cs,hi,0,cs.length,by simp,rfl⟩)
 have hr':reps w (own H m (σ.set id (.ro cs))) m (pre++.sl ((cs.drop off).take (len * sz)) len::post) vs.toList:=by
  have h1:=zah k2 _ _ hr
  refine zhr (by rw [zan h1];simp) fun j x v hx hv=>?_
  by_cases hj:j=pre.length
  ·subst hj
   simp at hx
   subst hx
   obtain⟨v',hv',hr'⟩:=zaL h1 pre.length (.ref id off len sz) (by simp)
   rw [hv] at hv'
   cases hv'
   simp only [rep] at hr' ⊢
   rcases hr' with ⟨rfl,rfl,rfl,_⟩ | ⟨g,cap,c,rfl,hm,hlc,hcm,_⟩
   ·exact⟨none,0,rfl,Nat.le_refl _,by simp [maxLen],.inl (by simp)⟩
   ·refine⟨_,cap,rfl,hlc,hcm,?_⟩
    have hil:id < σ.length:=(List.getElem?_eq_some_iff.1 hi).1
    rcases k1.blk id (.ro cs) (some g) (by simp [hil]) hm with h2 | ⟨g',e,hO,hat⟩
    ·exact .inl (by simp [h2])
    ·cases e
     by_cases hne:cs=[]
     ·exact .inl (by simp [hne])
     ·have hat3:=zbu (zbE hat off) (len * sz)
      rw [Nat.zero_add] at hat3
      exact .inr ⟨g,off,rfl,hO,zbx hat hne,hat3⟩
  ·obtain⟨v',hv',hr'⟩:=zaL h1 j x (by
    rcases Nat.lt_or_ge j pre.length with hlt | hge
    ·rwa [List.getElem?_append_left hlt] at hx ⊢
    ·rw [List.getElem?_append_right hge] at hx ⊢
     obtain⟨d,hd⟩:∃ d,j - pre.length=d+1:=⟨j - pre.length - 1,by omega⟩
     rw [hd] at hx ⊢
     simpa using hx)
   rw [hv] at hv'
   cases hv'
   exact hr'
 refine(h H w m vs (hg.mono k2) k1 hr').mono ?_
 rintro e w' ⟨x, m', σ', g1, g2, g3, g4⟩
 exact ⟨x, m', σ', g1, k2.trans g2, g3, g4⟩
end Go.Eng
end

section
namespace Go.Eng
open Go
variable {H : Nat → Prop} [Globs]
def setp (env:Env):List Tmp→List AV→Env
 | p::ps,a::as9=>setp (env.set p a) ps as9
 | _,_=>env
theorem ziP {w:World} {O:Nat→Prop} {m:Ids}:∀ (ps:List Tmp) (as9:List AV) (vs:List Value) (env:Env) (tmps:Array Value),reps w O m env tmps.toList→reps w O m as9 vs→ps.length=as9.length →
  reps w O m (setp env ps as9) ((ps.zip vs).foldl (fun t (p,v)=>t.setIfInBounds p v) tmps).toList
 | [],[],vs,env,tmps,he,ha,_=>by simpa [setp] using he
 | p::ps,a::as9,vs,env,tmps,he,ha,hl=>by
  simp only [reps] at ha
  obtain⟨v,r,rfl,h1,h2⟩:=ha
  simp only [setp,List.zip_cons_cons,List.foldl_cons]
  exact ziP ps as9 r _ _ (by rw [Array.toList_setIfInBounds];exact zcW he p h1) h2 (by simpa using hl)
 | [],_::_,_,_,_,_,_,hl=>by simp at hl
 | _::_,[],_,_,_,_,_,hl=>by simp at hl
def roundQ (id:Nat) (K:AEnd→zaa→Prop):Post:=fun x _ σ2=>∃ e ps as9 bd,σ2[id]?=some (.lp .busy none e ps as9 bd)∧(match x with
 | .normal=>K (.ret (.lit (.bool true))) (σ2.set id (.lp .ready none e ps as9 bd))
 | .exit i=>K (.ret (.lit (.bool false))) (σ2.set id (.lp .done (some (.exit i)) e ps as9 bd))
 | .ret=>K (.ret (.lit (.bool false))) (σ2.set id (.lp .done (some .ret) e ps as9 bd))
 | .pan _=>False)
def assignQ (P:Program) (T:Tab) (n0:Nat) (id:Nat) (body:Code) (K:AEnd→zaa→Prop):Post:=fun x env1 σ1=>match x with
 | .normal=>∃ e ps as9,σ1[id]?=some (.lp .ready none e ps as9 body)∧W P T n0 body env1 (σ1.set id (.lp .busy none e ps as9 body)) (roundQ id K)
 | _=>False
theorem AYield.of {P:Program} {T:Tab} (hT:zaD P T) {id:Nat} {as9:List AV} {σ:zaa} {K:AEnd→zaa→Prop} {env:List AV} {ps:Array Tmp} {assign body:Code} (hl:σ[id]?=some (.lp .ready none env ps assign body)) (hlen:as9.length=ps.size) (hn1:noRF assign=true) (hn2:noRF body=true)
  (h:W P T σ.length assign (setp env ps.toList as9) σ (assignQ P T σ.length id body K)):AYield P id as9 σ K:=by
 refine⟨env,ps,assign,body,hl,hlen,fun H w m vs L g hg hs hr hm hL n=>?_⟩
 obtain⟨g',e,L',k1,k2,k3,k4,k5,k6,k7⟩:=hs.blk id _ _ hl hm
 cases e
 rw [hL] at k1
 cases k1
 refine roundIn_of_wpIn trivial ?_
 rw [k5,k6]
 have htm:reps w (own H m σ) m (setp env ps.toList as9) ((L.params.zip vs).foldl (fun tmps (t,a)=>tmps.setIfInBounds t a) L.tmps).toList:=by
  have:=ziP ps.toList as9 vs.toList env L.tmps k7 hr (by simpa using hlen.symm)
  rw [k4]
  have e2:((ps.zip vs).foldl (fun tmps (x:Tmp × Value)=>tmps.setIfInBounds x.1 x.2) L.tmps)=((ps.toList.zip vs.toList).foldl (fun t x=>t.setIfInBounds x.1 x.2) L.tmps):=by
   rw [← Array.foldl_toList,Array.toList_zip]
  rw [e2]
  exact this
 have conv:=fun (n0:Nat) (c:Code) (e:Env) (s:zaa) (q:Post) (h:W P T n0 c e s q)=>(congrFun (congrFun (congrFun (zj4 ‹Globs› [] P T n0 c) e) s) q).mpr h
 replace h:=conv _ _ _ _ _ h
 letI GB:Globs:=za8 ‹Globs› []
 have hw:=zhS (r:=some g) (n:=n) hT assign _ σ _ w (own H m σ) m { tmps:=(L.params.zip vs).foldl (fun tmps (t,a)=>tmps.setIfInBounds t a) L.tmps,defers:=[] } w m h (.inr hn1) hg hs.len (Ext.refl _ _ _) hs htm Mk.nil
 refine wpIn_mono (show assign.wpIn (Fence.wide.inRound g) n P _ _ _ from hw) ?_
 rintro ex a1 w1 ⟨x1,env1,σ1,m1,s1,e1,r1,d1,xr1,q1⟩
 cases x1 with
 | exit i=>exact q1.elim
 | ret=>exact q1.elim
 | pan r=>exact q1.elim
 | normal =>
 cases ex <;> simp only [xRep] at xr1
 obtain⟨e',ps',as',hl1,hb⟩:=q1
 have hm1:=e1.ids _ _ hm
 obtain⟨g',eg,L1,q1,q2,q3,q4,q5,q6,q7⟩:=s1.blk id _ _ hl1 hm1
 cases eg
 refine⟨_,run_beginRound q1 q2,?_⟩
 obtain⟨t1,t2⟩:=s1.loop hl1 hm1 q1 .busy none
 have hw1:w1.putObj g (.loop { L1 with state:=.busy })=w1.putObj g (.loop { L1 with state:=.busy,pending:=none }):=by rw [← q3]
 rw [hw1]
 have hw2:=zhS (r:=some g) (n:=n) hT body _ _ _ w (own H m σ) m a1 _ m1 (conv _ _ _ _ _ hb) (.inr hn2) hg hs.len (e1.trans t2) t1 (zah t2 _ _ r1) (d1.mono t2)
 refine wpIn_mono (show body.wpIn (Fence.wide.inRound g) n P _ _ _ from hw2) ?_
 rintro ex a2 w2 ⟨x2,env2,σ2,m2,s2,e2,r2,d2,xr2,e3,ps3,as3,bd3,hl2,hk⟩
 have hm2:=e2.ids _ _ hm
 obtain⟨g',eg,L2,u1,u2,u3,u4,u5,u6,u7⟩:=s2.blk id _ _ hl2 hm2
 cases eg
 have fin:∀ (jump:Option Code),K (.ret (.lit (.bool jump.isNone))) (σ2.set id (.lp (if jump.isNone then .ready else .done) jump e3 ps3 as3 bd3)) →
   ∃ v w', (Instr.endRound g jump).run P w2 = .ok v w' ∧ ∃ x m' σ', St H w' m' σ' ∧ Ext H w (own H m σ) m w' (own H m' σ') m' ∧ zb5 w' (own H m' σ') m' x (.returned v) ∧ K x σ' := by
  intro jump hk
  obtain⟨t3,t4⟩:=s2.loop hl2 hm2 u1 (if jump.isNone then .ready else .done) jump
  exact⟨_,_,run_endRound jump u1,.ret (.lit (.bool jump.isNone)),m2,_,t3,e2.trans t4,by simp only [zb5,rep],hk⟩
 cases x2 with
 | normal =>
  cases ex <;> simp only [xRep] at xr2
  exact fin none hk
 | exit i =>
  cases ex <;> simp only [xRep] at xr2
  subst xr2
  exact fin (some (.exit i)) hk
 | ret =>
  cases ex <;> simp only [xRep] at xr2
  exact fin (some .ret) hk
 | pan r=>exact hk.elim
def inv (n:Nat) (q:List Nat) (k:Nat):List Nat :=
 (List.range n).map (fun i=>if q.idxOf i < q.length then q.idxOf i else k)++List.range' q.length (k - q.length)
def zbH (σ σ0:zaa) (p:List Nat):List Nat→Nat→zaa→Prop
 | [],_,[]=>True
 | k::ks,i,y::ys=>(y=.dead∨(∃ x,σ0[k]?=some x∧y.ren p=some x)∨(σ0.length≤k∧σ[i]?=some y))∧zbH σ σ0 p ks (i+1) ys
 | _,_,_=>False
theorem keepF_get {σ σ0 : zaa} {p : List Nat} : ∀ {ks : List Nat} {j : Nat} {σ' : zaa}, zbH σ σ0 p ks j σ' → σ'.length = ks.length ∧ ∀ (i : Nat) (y : Blk), σ'[i]? = some y →
  y=.dead∨(∃ k x,ks[i]?=some k∧σ0[k]?=some x∧y.ren p=some x)∨(∃ k,ks[i]?=some k∧σ0.length≤k∧σ[j+i]?=some y)
 | [],j,[],h=>⟨rfl,fun i y hy=>by simp at hy⟩
 | k::ks,j,y::ys,h=>by
  obtain⟨h1,h2⟩:=keepF_get h.2
  refine⟨by simp [h1],fun i z hz=>?_⟩
  cases i with
  | zero =>
   simp at hz
   subst hz
   rcases h.1 with h3 | ⟨x,h3,h4⟩ | ⟨h3,h4⟩
   ·exact .inl h3
   ·exact .inr (.inl ⟨k,x,by simp,h3,h4⟩)
   ·exact .inr (.inr ⟨k,by simp,h3,by simpa using h4⟩)
  | succ i =>
   have:=h2 i z (by simpa using hz)
   rw [show j+1+i=j+(i+1) by omega] at this
   simpa using this
 | [],_,_::_,h=>h.elim
 | _::_,_,[],h=>h.elim
def AEnd.ren (p:List Nat):AEnd→AEnd→Prop
 | .ret x,.ret y=>x.ren p=some y
 | .pan x,.pan y=>x.ren p=some y
 | _,_=>False
theorem inv_get {n k i j:Nat} {q:List Nat} (hk:q.length≤k) (h:(inv n q k)[i]?=some j):(i < n∧((j=q.idxOf i∧q[j]?=some i)∨(j=k∧i ∉ q)))∨(n≤i∧j=q.length+(i - n)∧j < k):=by
 unfold inv at h
 rcases Nat.lt_or_ge i n with hi | hi
 ·rw [List.getElem?_append_left (by simpa using hi),List.getElem?_map,List.getElem?_range hi] at h
  simp only [Option.map_some,Option.some.injEq] at h
  refine .inl ⟨hi,?_⟩
  split at h
  ·rename_i hlt
   refine .inl ⟨h.symm,?_⟩
   rw [← h]
   rw [List.getElem?_eq_getElem hlt]
   simp
  ·rename_i hlt
   refine .inr ⟨h.symm,fun hm=>hlt ?_⟩
   exact List.idxOf_lt_length_of_mem hm
 ·rw [List.getElem?_append_right (by simpa using hi)] at h
  simp only [List.length_map,List.length_range] at h
  obtain⟨h1,h2⟩:=List.getElem?_eq_some_iff.1 h
  simp at h1 h2
  exact .inr ⟨hi,by omega,by omega⟩
theorem ACalls.frame {P:Program} {f:FuncId} {as9 as0:List AV} {σ σ0:zaa} {K K0:AEnd→zaa→Prop} (q:List Nat) (h:ACalls P f as0 σ0 K0) (hql:q.length=σ0.length) (hnd:q.Nodup) (hk:zaw σ q q σ0) (has:renL q as0=some as9)
  (hK : ∀ x0 σ1, K0 x0 σ1 → ∃ x σ', zbH σ σ1 (inv σ.length q σ1.length) (inv σ.length q σ1.length) 0 σ' ∧ AEnd.ren (inv σ.length q σ1.length) x x0 ∧ K x σ') : ACalls P f as9 σ K := by
 refine fun H w m vs hg hs hr=>?_
 obtain⟨mq,sq,R,hmq⟩:=hs.ren hql hnd hk
 let H':Nat→Prop:=fun b=>own H m σ b∧¬ ∃ (i:Nat) (x:Blk),(σ0[i]?=some x∧x.owned=true)∧mq[i]?=some (some b)
 have hO:∀ b,own H' mq σ0 b ↔ own H m σ b:=by
  intro b
  constructor
  ·rintro(hb | ⟨i,x,hx,hm⟩)
   ·exact hb.1
   ·exact R.own b (.inr ⟨i,x,hx,hm⟩)
  ·intro hb
   by_cases hx:∃ (i:Nat) (x:Blk),(σ0[i]?=some x∧x.owned=true)∧mq[i]?=some (some b)
   ·exact .inr hx
   ·exact .inl ⟨hb,hx⟩
 have hOe:own H' mq σ0=own H m σ:=funext fun b=>propext (hO b)
 have R':Ren (own H m σ) m (own H m σ) mq q:=⟨fun b hb=>hb,R.ids,R.le⟩
 have idq:∀ (i k:Nat),q[i]?=some k→k < σ.length→∃ y,mq[i]?=some y∧m[k]?=some y:=by
  intro i k hi hk
  obtain ⟨y, hy⟩ : ∃ y, m[k]? = some y := ⟨m[k]'(by rw [hs.len]; exact hk), by simp⟩
  exact⟨y,by rw [hmq,List.getElem?_map,hi];simp [hy],hy⟩
 have orig:∀ (i:Nat) (x:Blk),σ0[i]?=some x→x=.dead∨∃ k y,q[i]?=some k∧x.ren q=some y∧σ[k]?=some y:=fun i x hx=>zf0 hk i x hx
 have ownren:∀ (x y:Blk),x.ren q=some y→y.owned=x.owned:=by
  intro x y hxy
  cases x <;> simp only [Blk.ren,Option.map_eq_some_iff,Option.some.injEq] at hxy <;> first | (obtain⟨_,_,rfl⟩:=hxy;rfl) | (subst hxy;rfl)
 have s0:St H' w mq σ0:=by
  refine⟨sq.len,fun i x mi hx hmi=>?_,sq.inj,fun b hb=>⟨hs.ownlt hb.1,fun i x hx hm=>hb.2 ⟨i,x,hx,hm⟩⟩⟩
  rw [hOe]
  rcases orig i x hx with rfl | ⟨k,y,h1,h2,h3⟩
  ·trivial
  ·obtain⟨mi',e1,e2⟩:=idq i k h1 (List.getElem?_eq_some_iff.1 h3).1
   rw [hmi] at e1
   cases e1
   have hb:=hs.blk k y mi h3 e2
   cases x with
   | dead=>trivial
   | ro cs =>
    simp only [Blk.ren,Option.map_eq_some_iff] at h2
    obtain⟨cs',h4,rfl⟩:=h2
    rcases hb with rfl | ⟨g,e,hO,hat⟩
    ·exact .inl (List.eq_nil_of_length_eq_zero (by rw [← zbc h4];rfl))
    ·exact .inr ⟨g,e,hO,zbe R' _ _ _ _ h4 hat⟩
   | rw cs =>
    simp only [Blk.ren,Option.map_eq_some_iff] at h2
    obtain⟨cs',h4,rfl⟩:=h2
    have hl:=zbc h4
    rcases hb with ⟨rfl,e⟩ | ⟨g,c,e,hr,hle,hat⟩
    ·exact .inl ⟨List.eq_nil_of_length_eq_zero (by rw [← hl];rfl),e⟩
    ·exact .inr ⟨g,c,e,hr,by omega,zbe R' _ _ _ _ h4 hat⟩
   | rt xx ee cs =>
    simp only [Blk.ren,Option.map_eq_some_iff] at h2
    obtain⟨cs',h4,rfl⟩:=h2
    have hl:=zbc h4
    rcases hb with ⟨e0,rfl,e⟩ | ⟨g,c,e,hr,hle,hx,hat⟩
    ·exact .inl ⟨e0,List.eq_nil_of_length_eq_zero (by rw [← hl];rfl),e⟩
    ·exact .inr ⟨g,c,e,hr,by omega,fun h=>by rw [hx h,hl],zbe R' _ _ _ _ h4 hat⟩
   | lp st pend env ps as9 bd =>
    simp only [Blk.ren,Option.map_eq_some_iff] at h2
    obtain⟨env',h4,rfl⟩:=h2
    obtain⟨g,e,L,k1,k2,k3,k4,k5,k6,k7⟩:=hb
    exact⟨g,e,L,k1,k2,k3,k4,k5,k6,zbB R' _ _ _ h4 k7⟩
   | mpb ks vs =>
    simp only [Blk.ren,Option.map_eq_some_iff] at h2
    obtain⟨vs',h4,rfl⟩:=h2
    obtain⟨g,e,hM⟩:=hb
    exact⟨g,e,hM.imp rfl fun _ hl=>zbB R' _ _ _ h4 hl⟩
   | mpi ks vs sn =>
    simp only [Blk.ren,Option.map_eq_some_iff] at h2
    obtain⟨vs',h4,rfl⟩:=h2
    obtain⟨g,e,hM⟩:=hb
    exact⟨g,e,hM.imp (fun _ h=>h) fun _ hl=>zbB R' _ _ _ h4 hl⟩
   | fz fe fk fc =>
    simp only [Blk.ren,Option.map_eq_some_iff] at h2
    obtain⟨cs',h4,rfl⟩:=h2
    have hl:=zbc h4
    obtain⟨g,e,c,hi,k1,k1',k2,k3⟩:=hb
    exact⟨g,e,c,hi,k1,k1',by omega,zbe R' _ _ _ _ h4 k3⟩
 have r0:reps w (own H' mq σ0) mq as0 vs.toList:=by rw [hOe];exact zbB R' _ _ _ has hr
 refine(h H' w mq vs (by rw [hOe];exact hg) s0 r0).mono ?_
 rintro e w' ⟨x0,m1,σ1,g1,g2,g3,g4⟩
 rw [hOe] at g2
 obtain ⟨x, σ', k1, k2, k3⟩ := hK x0 σ1 g4
 have hkle:q.length≤σ1.length:=by rw [← g1.len];have:=g2.idlen;rw [sq.len] at this;omega
 obtain⟨hlen,hget⟩:=keepF_get k1
 generalize hp:inv σ.length q σ1.length=p at k1 k2 hlen hget
 have pg:∀ (i j:Nat),p[i]?=some j→(i < σ.length∧((j=q.idxOf i∧q[j]?=some i)∨(j=σ1.length∧i ∉ q)))∨(σ.length≤i∧j=q.length+(i - σ.length)∧j < σ1.length):=fun i j hij=>inv_get hkle (by rw [hp];exact hij)
 have plen:p.length=σ.length+(σ1.length - q.length):=by rw [← hp];simp [inv]
 let m2:Ids:=m++m1.drop q.length
 have m2len:m2.length=p.length:=by simp [m2,plen,hs.len,g1.len]
 have m2l:∀ i,i < σ.length→m2[i]?=m[i]?:=fun i hi=>by simp only [m2];rw [List.getElem?_append_left (by rw [hs.len];exact hi)]
 have agree:∀ (i j:Nat),p[i]?=some j→j < σ1.length→m2[i]?=m1[j]?:=by
  intro i j hij hj
  rcases pg i j hij with ⟨hi,⟨_,h1⟩ | ⟨h1,_⟩⟩ | ⟨hi,h1,_⟩
  ·rw [m2l i hi]
   obtain⟨y,e1,e2⟩:=idq j i h1 hi
   rw [e2,g2.ids _ _ e1]
  ·omega
  ·simp only [m2]
   rw [List.getElem?_append_right (by rw [hs.len];exact hi),List.getElem?_drop,hs.len,h1]
 have ownren':∀ (x y:Blk),x.ren p=some y→y.owned=x.owned:=by
  intro x y hxy
  cases x <;> simp only [Blk.ren,Option.map_eq_some_iff,Option.some.injEq] at hxy <;> first | (obtain⟨_,_,rfl⟩:=hxy;rfl) | (subst hxy;rfl)
 have own2 : ∀ (i : Nat) (y : Blk) (b : Nat), (σ'[i]? = some y ∧ y.owned = true) → m2[i]? = some (some b) → (i < σ.length ∧ i ∉ q ∧ σ[i]? = some y ∧ m[i]? = some (some b)) ∨ (∃ j x, p[i]? = some j ∧ (σ1[j]? = some x ∧ x.owned = true) ∧ m1[j]? = some (some b)) := by
  rintro i y b ⟨hy,ho⟩ hb
  rcases hget i y hy with rfl | ⟨j,x,h1,h2,h3⟩ | ⟨j,h1,h2,h3⟩
  ·cases ho
  ·refine .inr ⟨j,x,h1,⟨h2,by rw [ownren' _ _ h3];exact ho⟩,?_⟩
   rw [← agree i j h1 (List.getElem?_eq_some_iff.1 h2).1];exact hb
  ·rw [Nat.zero_add] at h3
   have hi:=(List.getElem?_eq_some_iff.1 h3).1
   rcases pg i j h1 with ⟨_,⟨h4,h5⟩ | ⟨_,h5⟩⟩ | ⟨h4,_⟩
   ·have:=(List.getElem?_eq_some_iff.1 h5).1
    omega
   ·exact .inl ⟨hi,h5,h3,by rw [← m2l i hi];exact hb⟩
   ·omega
 have frm:∀ (i:Nat) (y:Blk) (b:Nat),i ∉ q→σ[i]?=some y→y.owned=true→m[i]?=some (some b)→H' b:=by
  intro i y b hi hy ho hb
  refine⟨.inr ⟨i,y,⟨hy,ho⟩,hb⟩,?_⟩
  rintro⟨j,x,⟨hx,hxo⟩,hm⟩
  rcases orig j x hx with rfl | ⟨k,z,h1,h2,h3⟩
  ·cases hxo
  ·obtain⟨y',e1,e2⟩:=idq j k h1 (List.getElem?_eq_some_iff.1 h3).1
   rw [hm] at e1
   cases e1
   have:=hs.inj i k y z b ⟨hy,ho⟩ ⟨h3,by rw [ownren _ _ h2];exact hxo⟩ hb e2
   subst this
   exact hi (List.mem_of_getElem? h1)
 have HH:∀ b,H b→H' b:=fun b hb=>⟨.inl hb,by
  rintro⟨j,x,⟨hx,hxo⟩,hm⟩
  rcases orig j x hx with rfl | ⟨k,z,h1,h2,h3⟩
  ·cases hxo
  ·obtain⟨y',e1,e2⟩:=idq j k h1 (List.getElem?_eq_some_iff.1 h3).1
   rw [hm] at e1
   cases e1
   exact(hs.hid b hb).2 k z ⟨h3,by rw [ownren _ _ h2];exact hxo⟩ e2⟩
 have own3 : ∀ b, own H m2 σ' b → own H' m1 σ1 b := by
  rintro b (hb | ⟨i,y,hy,hm⟩)
  ·exact .inl (HH b hb)
  ·rcases own2 i y b hy hm with ⟨h1,h2,h3,h4⟩ | ⟨j,x,h1,h2,h3⟩
   ·exact .inl (frm i y b h2 h3 hy.2 h4)
   ·exact .inr ⟨j,x,h2,h3⟩
 have ext : Ext H w (own H m σ) m w' (own H m2 σ') m2 := by
  refine⟨g2.heap,g2.same,fun b hb=>g2.own b (own3 b hb),fun i y hy=>?_,g2.rows,g2.os,g2.tape,g2.output,fun b hb=>g2.hid b (HH b hb)⟩
  rw [m2l i (by rw [← hs.len];exact(List.getElem?_eq_some_iff.1 hy).1)]
  exact hy
 have R2 : Ren (own H' m1 σ1) m1 (own H m2 σ') m2 p := by
  refine⟨own3,fun i j g hij hg'=>?_,by rw [m2len];exact Nat.le_refl _⟩
  rw [agree i j hij (by rw [← g1.len];exact(List.getElem?_eq_some_iff.1 hg').1)]
  exact hg'
 refine ⟨x, m2, σ', ⟨by rw [m2len, hlen], fun i y mi hy hmi => ?_, fun i j y z b hy hz hmi hmj => ?_, fun b hb => ⟨Nat.lt_of_lt_of_le (hs.hid b hb).1 g2.heap, fun i y hy hm => ?_⟩⟩, ext, ?_, k3⟩
 ·rcases hget i y hy with rfl | ⟨j,x1,h1,h2,h3⟩ | ⟨j,h1,h2,h3⟩
  ·trivial
  ·have hmj:m1[j]?=some mi:=by rw [← agree i j h1 (List.getElem?_eq_some_iff.1 h2).1];exact hmi
   have hb:=g1.blk j x1 mi h2 hmj
   cases y with
   | dead=>trivial
   | ro cs =>
    simp only [Blk.ren,Option.map_eq_some_iff] at h3
    obtain⟨cs',h4,rfl⟩:=h3
    rcases hb with rfl | ⟨g,e,hO,hat⟩
    ·exact .inl (List.eq_nil_of_length_eq_zero (by rw [← zbc h4];rfl))
    ·exact .inr ⟨g,e,fun ho=>hO (own3 _ ho),zbe R2 _ _ _ _ h4 hat⟩
   | rw cs =>
    simp only [Blk.ren,Option.map_eq_some_iff] at h3
    obtain⟨cs',h4,rfl⟩:=h3
    have hl:=zbc h4
    rcases hb with ⟨rfl,e⟩ | ⟨g,c,e,hr,hle,hat⟩
    ·exact .inl ⟨List.eq_nil_of_length_eq_zero (by rw [← hl];rfl),e⟩
    ·exact .inr ⟨g,c,e,hr,by omega,zbe R2 _ _ _ _ h4 hat⟩
   | rt xx ee cs =>
    simp only [Blk.ren,Option.map_eq_some_iff] at h3
    obtain⟨cs',h4,rfl⟩:=h3
    have hl:=zbc h4
    rcases hb with ⟨e0,rfl,e⟩ | ⟨g,c,e,hr,hle,hx,hat⟩
    ·exact .inl ⟨e0,List.eq_nil_of_length_eq_zero (by rw [← hl];rfl),e⟩
    ·exact .inr ⟨g,c,e,hr,by omega,fun h=>by rw [hx h,hl],zbe R2 _ _ _ _ h4 hat⟩
   | lp st pend env ps as9 bd =>
    simp only [Blk.ren,Option.map_eq_some_iff] at h3
    obtain⟨env',h4,rfl⟩:=h3
    obtain⟨g,e,L,k1,k2,k3,k4,k5,k6,k7⟩:=hb
    exact⟨g,e,L,k1,k2,k3,k4,k5,k6,zbB R2 _ _ _ h4 k7⟩
   | mpb ks vs =>
    simp only [Blk.ren,Option.map_eq_some_iff] at h3
    obtain⟨vs',h4,rfl⟩:=h3
    obtain⟨g,e,hM⟩:=hb
    exact⟨g,e,hM.imp rfl fun _ hl=>zbB R2 _ _ _ h4 hl⟩
   | mpi ks vs sn =>
    simp only [Blk.ren,Option.map_eq_some_iff] at h3
    obtain⟨vs',h4,rfl⟩:=h3
    obtain⟨g,e,hM⟩:=hb
    exact⟨g,e,hM.imp own3 fun _ hl=>zbB R2 _ _ _ h4 hl⟩
   | fz fe fk fc =>
    simp only [Blk.ren,Option.map_eq_some_iff] at h3
    obtain⟨cs',h4,rfl⟩:=h3
    have hl:=zbc h4
    obtain⟨g,e,c,hi,k1,k1',k2,k3⟩:=hb
    exact⟨g,e,c,hi,k1,k1',by omega,zbe R2 _ _ _ _ h4 k3⟩
  ·rw [Nat.zero_add] at h3
   have hi:=(List.getElem?_eq_some_iff.1 h3).1
   have hnq:i ∉ q:=by
    rcases pg i j h1 with ⟨_,⟨_,h5⟩ | ⟨_,h5⟩⟩ | ⟨h4,_⟩
    ·have:=(List.getElem?_eq_some_iff.1 h5).1
     omega
    ·exact h5
    ·omega
   have hmi':m[i]?=some mi:=by rw [← m2l i hi];exact hmi
   have hb:=hs.blk i y mi h3 hmi'
   cases y with
   | dead=>trivial
   | ro cs =>
    rcases hb with h4 | ⟨g,e,hO,hat⟩
    ·exact .inl h4
    ·by_cases hcs:cs=[]
     ·exact .inl hcs
     ·have hlt:=zbx hat hcs
      exact .inr ⟨g,e,fun ho=>(ext.own g ho).elim hO (fun h=>by omega),zaQ ext g (g2.same g hlt hO) _ _ hat⟩
   | rw cs =>
    rcases hb with h4 | ⟨g,c,e,hr,hle,hat⟩
    ·exact .inl h4
    ·subst e
     have hh:=g2.hid g (frm i _ g hnq h3 rfl hmi')
     exact .inr ⟨g,c,rfl,hr.move hh,hle,zaQ ext g hh _ _ hat⟩
   | rt xx ee cs =>
    rcases hb with h4 | ⟨g,c,e,hr,hle,hx,hat⟩
    ·exact .inl h4
    ·subst e
     have hh:=g2.hid g (frm i _ g hnq h3 rfl hmi')
     exact .inr ⟨g,c,rfl,hr.move hh,hle,hx,zaQ ext g hh _ _ hat⟩
   | lp st pend env ps as9 bd =>
    obtain⟨g,e,h4⟩:=hb
    subst e
    exact⟨g,rfl,h4.move ext (g2.hid g (frm i _ g hnq h3 rfl hmi'))⟩
   | mpb ks vs =>
    obtain⟨g,e,h4⟩:=hb
    subst e
    exact⟨g,rfl,h4.move ext (g2.hid g (frm i _ g hnq h3 rfl hmi'))⟩
   | mpi ks vs sn =>
    obtain⟨g,e,h4⟩:=hb
    subst e
    exact⟨g,rfl,h4.move ext (g2.hid g (frm i _ g hnq h3 rfl hmi'))⟩
   | fz fe fk fc =>
    obtain⟨g,e,h4⟩:=hb
    subst e
    exact⟨g,rfl,h4.move ext (g2.hid g (frm i _ g hnq h3 rfl hmi'))⟩
 ·rcases own2 i y b hy hmi with ⟨h1,h2,h3,h4⟩ | ⟨a,x1,h1,h2,h3⟩ <;> rcases own2 j z b hz hmj with ⟨h5,h6,h7,h8⟩ | ⟨c,x2,h5,h6,h7⟩
  ·exact hs.inj i j y z b ⟨h3,hy.2⟩ ⟨h7,hz.2⟩ h4 h8
  ·exact absurd h7 ((g1.hid b (frm i y b h2 h3 hy.2 h4)).2 c x2 h6)
  ·exact absurd h3 ((g1.hid b (frm j z b h6 h7 hz.2 h8)).2 a x1 h2)
  ·have:=g1.inj a c x1 x2 b h2 h6 h3 h7
   subst this
   have ha:=(List.getElem?_eq_some_iff.1 h2.1).1
   rcases pg i a h1 with ⟨_,⟨_,h8⟩ | ⟨h8,_⟩⟩ | ⟨h8,h9,_⟩ <;> rcases pg j a h5 with ⟨_,⟨_,h10⟩ | ⟨h10,_⟩⟩ | ⟨h10,h11,_⟩
   ·rw [h8] at h10;cases h10;rfl
   ·omega
   ·have:=(List.getElem?_eq_some_iff.1 h8).1;omega
   ·omega
   ·omega
   ·omega
   ·have:=(List.getElem?_eq_some_iff.1 h10).1;omega
   ·omega
   ·omega
 ·rcases own2 i y b hy hm with ⟨h1,h2,h3,h4⟩ | ⟨j,x1,h1,h2,h3⟩
  ·exact(hs.hid b hb).2 i y ⟨h3,hy.2⟩ h4
  ·exact(g1.hid b (HH b hb)).2 j x1 h2 h3
 ·cases x <;> cases x0 <;> simp only [AEnd.ren] at k2 <;> cases e <;> simp only [zb5] at g3 ⊢
  ·exact zer R2 _ _ _ k2 g3
  ·obtain⟨v,e1,h2⟩:=g3
   exact⟨v,e1,zer R2 _ _ _ k2 h2⟩
end Go.Eng
end

section
namespace Go.Eng
open Go
def TD.fitsB:TD→TypeDesc→Bool
 | .bool,.bool=>true
 | .int k,.int k'=>decide (k=k')
 | .str,.string=>true
 | .slice e,.slice e'=>e == e'
 | .array n e,.array n' e'=>n == n' && e == e'
 | .ptr e,.pointer e'=>e == e'
 | .struct fs,.struct gs=>gs.toList.map (fun f=>(f.type,f.offset)) == fs
 | .bld fs,.struct gs=>gs.toList.map (fun f=>(f.type,f.offset)) == fs
 | .iface,.interface _=>true
 | .map k e,.map k' e'=>k == k' && e == e'
 | .other,.struct _=>false
 | .other,.array _ _=>false
 | .other,_=>true
 | _,_=>false
theorem TD.fits_of {x:TD} {d:TypeDesc} (h:x.fitsB d=true):x.fits d:=by
 cases x <;> cases d <;> simp only [TD.fitsB,Bool.false_eq_true,Bool.and_eq_true,beq_iff_eq,decide_eq_true_eq] at h <;> simp only [TD.fits] <;> first
  | rfl
  | (subst h;rfl)
  | (obtain⟨rfl,rfl⟩:=h;rfl)
  | exact⟨_,rfl,h⟩
  | exact⟨_,rfl⟩
  | trivial
def eqV:Value→Value→Bool
 | .bool a,.bool b=>a == b
 | .int k a,.int k' b=>decide (k=k') && decide (a=b)
 | .string a,.string b=>decide (a.data.toList=b.data.toList)
 | .pointer none,.pointer none=>true
 | .slice none 0 0,.slice none 0 0=>true
 | .map none,.map none=>true
 | .nilFunc,.nilFunc=>true
 | .nilIface,.nilIface=>true
 | _,_=>false
theorem eqV_eq {a b:Value} (h:eqV a b=true):a=b:=by
 unfold eqV at h
 split at h <;> first | rfl | (cases h;done) | skip
 ·simp at h;rw [h]
 ·simp at h;obtain⟨rfl,rfl⟩:=h;rfl
 ·rename_i x y
  simp only [decide_eq_true_eq] at h
  have:x.data=y.data:=Array.ext' h
  obtain⟨x⟩:=x
  obtain⟨y⟩:=y
  simp only at this
  rw [this]
def eqVs:List Value→List Value→Bool
 | [],[]=>true
 | a::l,b::r=>eqV a b && eqVs l r
 | _,_=>false
theorem eqVs_eq:∀ {l r:List Value},eqVs l r=true→l=r
 | [],[],_=>rfl
 | a::l,b::r,h=>by
  simp only [eqVs,Bool.and_eq_true] at h
  rw [eqV_eq h.1,eqVs_eq h.2]
 | [],_::_,h=>by cases h
 | _::_,[],h=>by cases h
def chk (P:Program) (t:TypeId) (ti:TI):Bool :=
 match P.underlying t,P.info? t with
 | some d, some i => ti.d.fitsB d && i.size == ti.size && i.bytes == ti.bytes && (match i.zero with | some z => eqVs z.cells.toList ti.zero | none => false) && (!ti.eqs || (!P.stoodInHeld t && match d with | .struct gs => gs.toList.all fun g => g.name != "_" | _ => true))
 | _,_=>false
theorem chk_ok {P:Program} {t:TypeId} {ti:TI} (h:chk P t ti=true):TyOK P t ti:=by
 unfold chk at h
 split at h
 ·rename_i d i hd hi
  simp only [Bool.and_eq_true,beq_iff_eq] at h
  obtain⟨⟨⟨⟨h1,h2⟩,h3⟩,h4⟩,h5⟩:=h
  refine⟨fun he=>?_,⟨d,hd,TD.fits_of h1⟩,i,hi,h2,h3,?_⟩
  ·rw [he] at h5
   simp only [Bool.not_true,Bool.false_or,Bool.and_eq_true,Bool.not_eq_true'] at h5
   refine⟨h5.1,fun gs hg g hm=>?_⟩
   rw [hd] at hg
   cases hg
   exact List.all_eq_true.1 h5.2 g hm
  split at h4
  ·rename_i z hz
   exact⟨z,hz,eqVs_eq h4⟩
  ·cases h4
 ·cases h
def tabOf (l:List (TypeId × TI)):Tab:=fun t=>l.lookup t
theorem tabOf_ok {P:Program} {l:List (TypeId × TI)} (h:l.all (fun p=>chk P p.1 p.2)=true):zaD P (tabOf l):=by
 intro t ti ht
 unfold tabOf at ht
 induction l with
 | nil=>simp at ht
 | cons p l ih =>
  simp only [List.all_cons,Bool.and_eq_true] at h
  rw [List.lookup_cons] at ht
  split at ht
  ·rename_i he
   simp only [beq_iff_eq] at he
   cases ht
   rw [he]
   exact chk_ok h.1
  ·exact ih h.2 ht
end Go.Eng
end

section
namespace Go.Eng
open Go
def zhT (x:AV) (A B:Env→zaa→Prop) (env:Env) (σ:zaa):Prop :=
 match x with
 | .lit (.bool p)=>(p=true→A env σ)∧(p=false→B env σ)
 | _=>False
theorem wcond_true (A B:Env→zaa→Prop) (env:Env) (σ:zaa):zhT (.lit (.bool true)) A B env σ=A env σ:=by simp [zhT]
theorem wcond_false (A B:Env→zaa→Prop) (env:Env) (σ:zaa):zhT (.lit (.bool false)) A B env σ=B env σ:=by simp [zhT]
section
variable [Globs] {P : Program} {T : Tab} {n0 : Nat}
def kont (P:Program) (T:Tab) (n0:Nat) (c:Code) (Q:Post) (env:Env) (σ:zaa):Prop:=W P T n0 c env σ Q
theorem kont_eq (c:Code) (Q:Post) (env:Env) (σ:zaa):kont P T n0 c Q env σ=W P T n0 c env σ Q:=rfl
theorem W_skip (env:Env) (σ:zaa) (Q:Post):W P T n0 .skip env σ Q=Q .normal env σ:=rfl
theorem W_region (id:Nat) (l:List Oper) (env:Env) (σ:zaa) (Q:Post):W P T n0 (.region id l.toArray false) env σ Q=wops P T l.toArray l env σ Q:=by simp [W]
theorem zcw {id:Nat} {l:List Oper} {env:Env} {σ:zaa} {Q:Post} (h1:P.follows .mixedOrders=true) (h2:zb2 l.toArray=true) (h3:wq P T l.toArray σ l env (atN Q σ)):W P T n0 (.region id l.toArray true) env σ Q:=by
 intro hT b H r n w0 O0 m0 a w m hG hn h0 hs he hd
 exact @zhI H (za8 _ b) _ _ _ _ hT _ _ _ _ hG _ _ _ _ _ _ _ [] h1 h2 rfl (by rw [zhQ];exact h3) h0 hs he hd
def wdE (P:Program) (T:Tab) (ops:Array Oper) (ks:List Nat) (σ:zaa) (Q:Post):List Oper→Env→Prop
 | [],_=>False
 | o::rest,e=>zb6 ops e o.guard (Wop P T o.op (zaN e) σ (opsK (wd P T ops ks rest) e o.dst Q) (panK e Q)) (wd P T ops ks rest (aput e o.dst (.lit undef)) σ Q)
theorem wd_nil (ops:Array Oper) (l:List Oper) (env:Env) (σ:zaa) (Q:Post):wd P T ops [] l env σ Q=wq P T ops σ l env (atN Q σ):=rfl
theorem wd_cons (ops:Array Oper) (k:Nat) (ks:List Nat) (l:List Oper) (env:Env) (σ:zaa) (Q:Post):wd P T ops (k::ks) l env σ Q=wq P T ops σ (l.take k) env (wdE P T ops ks σ Q (l.drop k)):=by
 simp only [wd]
 congr 1
 funext e
 cases l.drop k <;> rfl
theorem wdE_one (ops:Array Oper) (ks:List Nat) (d:Option Tmp) (op:Op) (ty:TypeId) (pos:String) (after:Array Edge) (rest:List Oper) (env:Env) (σ:zaa) (Q:Post):wdE P T ops ks σ Q ({ dst:=d,op:=op,type:=ty,pos:=pos,after:=after,guard:=none }::rest) env =
  Wop P T op (zaN env) σ (opsK (wd P T ops ks rest) env d Q) (panK env Q):=rfl
theorem zeu (ks:List Nat) {id:Nat} {l:List Oper} {env:Env} {σ:zaa} {Q:Post} (h1:P.follows .mixedOrders=true) (h2:zb2 l.toArray=true) (h4:zgy l.toArray 0 ks=true) (h3:wd P T l.toArray ks l env σ Q):W P T n0 (.region id l.toArray true) env σ Q:=by
 intro hT b H r n w0 O0 m0 a w m hG hn h0 hs he hd
 exact @zhI H (za8 _ b) _ _ _ _ hT _ _ _ _ hG _ _ _ _ _ _ _ ks h1 h2 h4 (by rw [zhQ];exact h3) h0 hs he hd
theorem zjk (t:Tr) (E:Env) (S:zaa) {id:Nat} {l:List Oper} {env:Env} {σ:zaa} {Q:Post} (h1:P.follows .mixedOrders=true) (h2:zdJ l.toArray l.toArray.size (zhK l.toArray)=t) (h3:zcQ P T l.toArray t env σ (fitQ n0 E S Q)) (h4:Q .normal E S):W P T n0 (.region id l.toArray true) env σ Q:=by
 intro hT b H r n w0 O0 m0 a w m hG hn h0 hs he hd
 refine wpIn_mono (@zhL H (za8 _ b) _ _ _ _ hT _ _ _ _ hG _ _ env _ _ _ _ h1 (by rw [h2,zd3];exact h3) h0 hs he hd) ?_
 rintro e a' w' ⟨x', env', σ', m', g1, g2, g3, g4, g5, g6⟩
 cases x' <;> simp only [fitQ] at g6
 rotate_left
 · exact ⟨_, env', σ', m', g1, g2, g3, g4, g5, g6⟩
 cases e <;> simp only [xRep] at g5
 obtain⟨m2,s2,e2,x2,o2⟩:=@zdZ _ (za8 _ b) _ _ _ _ _ _ _ _ _ _ _ g6 g1 g3 g2 hn
 exact⟨.normal,E,S,m2,s2,x2,e2,o2 _ _ g4,trivial,h4⟩
theorem W_drawS (f p:Nat) (d:Tmp) (e:TypeId) (bs:Tmp) {id:Nat} {l:List Oper} {env:Env} {σ:zaa} {Q:Post} (h1:P.follows .mixedOrders=true) (h2:zb2 l.toArray=true) (h4:okS l.toArray f p d e bs=true) (h5:d < env.length) (h3:wq P T l.toArray σ (l.take f) env (wS1 P T l.toArray σ Q ((l.take p).drop (f+1)) (l.drop (p+1)) d bs (T e))):W P T n0 (.region id l.toArray true) env σ Q:=by
 intro hT b H r n w0 O0 m0 a w m hG hn h0 hs he hd
 exact @drawS_sound H (za8 _ b) _ _ _ _ hT _ _ _ _ hG _ _ _ _ _ _ _ f p d bs e h1 h2 h4 h5 (by rw [zeQ,wS1_base];simpa using h3) h0 hs he hd
theorem W_drawM (ks:List (Nat × LM)) {id:Nat} {l:List Oper} {env:Env} {σ:zaa} {Q:Post} (h1:P.follows .mixedOrders=true) (h2:zb2 l.toArray=true) (h4:okM l.toArray env.length ks=true) (h3:wM P T l.toArray σ Q ks l env []):W P T n0 (.region id l.toArray true) env σ Q:=by
 intro hT b H r n w0 O0 m0 a w m hG hn h0 hs he hd
 exact @drawM_sound H (za8 _ b) _ _ _ _ hT _ _ _ _ hG _ _ _ _ _ _ _ ks h1 h2 h4 (by rw [wM_base];exact h3) h0 hs he hd
theorem zjl (ks:List Nat) {id:Nat} {l:List Oper} {env:Env} {σ:zaa} {Q:Post} (h1:P.follows .mixedOrders=true) (h2:zb2 l.toArray=true) (h4:zf5 T l.toArray 0 ks=true) (h3:wd P T l.toArray ks l env σ Q):W P T n0 (.region id l.toArray true) env σ Q:=by
 intro hT b H r n w0 O0 m0 a w m hG hn h0 hs he hd
 exact @drawL_sound H (za8 _ b) _ _ _ _ hT _ _ _ _ hG _ _ _ _ _ _ _ ks h1 h2 h4 (by rw [zhQ];exact h3) h0 hs he hd
theorem W_drawP (ρ ks:List Nat) {id:Nat} {l:List Oper} {env:Env} {σ:zaa} {Q:Post} (h1:P.follows .mixedOrders=true) (hp:ziN ρ l=true) (h2:zb2 (zdC ρ l).toArray=true) (h4:zf5 T (zdC ρ l).toArray 0 ks=true) (h3:wd P T (zdC ρ l).toArray ks (zdC ρ l) env σ Q):W P T n0 (.region id l.toArray true) env σ Q:=by
 intro hT b H r n w0 O0 m0 a w m hG hn h0 hs he hd
 exact @drawP_sound H (za8 _ b) _ _ _ _ hT _ _ _ _ hG _ _ _ _ _ _ _ ρ ks h1 (by simpa using hp) (by simpa using h2) (by simpa using h4) (by rw [zhQ];simpa using h3) h0 hs he hd
theorem W_drawX (t:Tr) {id:Nat} {l:List Oper} {env:Env} {σ:zaa} {Q:Post} (h1:P.follows .mixedOrders=true) (h2:zdJ l.toArray l.toArray.size (zhK l.toArray)=t) (h3:zcQ P T l.toArray t env σ (fitX n0 Q)):W P T n0 (.region id l.toArray true) env σ Q:=by
 intro hT b H r n w0 O0 m0 a w m hG hn h0 hs he hd
 refine wpIn_mono (@zhL H (za8 _ b) _ _ _ _ hT _ _ _ _ hG _ _ env _ _ _ _ h1 (by rw [h2,zd3];exact h3) h0 hs he hd) ?_
 rintro e a' w' ⟨x', env', σ', m', g1, g2, g3, g4, g5, g6⟩
 cases x' <;> simp only [fitX] at g6
 rotate_left
 · exact ⟨_, env', σ', m', g1, g2, g3, g4, g5, g6⟩
 obtain⟨E,S,g6,h4⟩:=g6
 cases e <;> simp only [xRep] at g5
 obtain⟨m2,s2,e2,x2,o2⟩:=@zdZ _ (za8 _ b) _ _ _ _ _ _ _ _ _ _ _ g6 g1 g3 g2 hn
 exact⟨.normal,E,S,m2,s2,x2,e2,o2 _ _ g4,trivial,h4⟩
section
variable {ops : Array Oper} {lv : Bool} {S : List zaa} {E : List Nat} {f i : Nat} {Q : Post} {o : Oper} {r : List Oper} {env : Env} {K : Env → Prop}
end
def wMfin (σ:zaa) (Q:Post) (acc:List (Tmp × AV)):Env→Prop:=fun e=>Q .normal (envA acc σ.length e) (σ++stoA acc)
theorem wMfin_eq (σ:zaa) (Q:Post) (acc:List (Tmp × AV)) (e:Env):wMfin σ Q acc e=Q .normal (envA acc σ.length e) (σ++stoA acc):=rfl
def wMk1 (P:Program) (T:Tab) (ops:Array Oper) (σ:zaa) (Q:Post) (ks:List (Nat × LM)) (rest:List Oper) (d:Tmp) (acc:List (Tmp × AV)):Env→Prop:=fun e=>wM P T ops σ Q ks rest (e.set d .bot) acc
theorem wMk1_eq (ops:Array Oper) (σ:zaa) (Q:Post) (ks:List (Nat × LM)) (rest:List Oper) (d:Tmp) (acc:List (Tmp × AV)) (e:Env):wMk1 P T ops σ Q ks rest d acc e=wM P T ops σ Q ks rest (e.set d .bot) acc:=rfl
def wMs2 (P:Program) (T:Tab) (ops:Array Oper) (σ:zaa) (Q:Post) (ks:List (Nat × LM)) (rest:List Oper) (d:Tmp) (te:TI) (acc:List (Tmp × AV)) (x:AV) (e:Env):Prop :=
 x.cells.length=te.size∧te.zero.length=te.size∧x.cells.all AV.one=true∧wM P T ops σ Q ks rest e (acc++[(d,x)])
def wMs1 (P:Program) (T:Tab) (ops:Array Oper) (σ:zaa) (Q:Post) (ks:List (Nat × LM)) (rest:List Oper) (d:Tmp) (te:Option TI) (bs:Tmp) (acc:List (Tmp × AV)):Env→Prop:=fun e=>match te with
 | some te=>wMs2 P T ops σ Q ks rest d te acc ((e[bs]?).getD .bot) e
 | none=>False
theorem wMs1_some (ops:Array Oper) (σ:zaa) (Q:Post) (ks:List (Nat × LM)) (rest:List Oper) (d:Tmp) (te:TI) (bs:Tmp) (acc:List (Tmp × AV)) (e:Env):wMs1 P T ops σ Q ks rest d (some te) bs acc e=wMs2 P T ops σ Q ks rest d te acc ((e[bs]?).getD .bot) e:=rfl
theorem wM_nil (ops:Array Oper) (σ:zaa) (Q:Post) (l:List Oper) (env:Env) (acc:List (Tmp × AV)):wM P T ops σ Q [] l env acc=wq P T ops σ l env (wMfin σ Q acc):=rfl
theorem wM_mk (ops:Array Oper) (σ:zaa) (Q:Post) (k:Nat) (d:Tmp) (e:TypeId) (ks:List (Nat × LM)) (l:List Oper) (env:Env) (acc:List (Tmp × AV)):wM P T ops σ Q ((k,.mk d e)::ks) l env acc=wq P T ops σ (l.take k) env (wMk1 P T ops σ Q ks (l.drop (k+1)) d acc):=rfl
theorem wM_st (ops:Array Oper) (σ:zaa) (Q:Post) (k:Nat) (d:Tmp) (e:TypeId) (bs:Tmp) (ks:List (Nat × LM)) (l:List Oper) (env:Env) (acc:List (Tmp × AV)):wM P T ops σ Q ((k,.st d e bs)::ks) l env acc=wq P T ops σ (l.take k) env (wMs1 P T ops σ Q ks (l.drop (k+1)) d (T e) bs acc):=by
 simp only [wM]
 congr 1
theorem envA_nil (k:Nat) (e:Env):envA [] k e=e:=rfl
theorem envA_cons (v:Tmp × AV) (vs:List (Tmp × AV)) (k:Nat) (e:Env):envA (v::vs) k e=envA vs (k+1) (e.set v.1 (.ptr k 0)):=rfl
theorem stoA_nil:stoA []=[]:=rfl
theorem stoA_cons (v:Tmp × AV) (vs:List (Tmp × AV)):stoA (v::vs)=.rw v.2.cells::stoA vs:=rfl
theorem wS1_some (ops:Array Oper) (σ:zaa) (Q:Post) (mid rest:List Oper) (d bs:Tmp) (te:TI) (env:Env):wS1 P T ops σ Q mid rest d bs (some te) env=wq P T ops σ mid (env.set d .bot) (wS2 P T ops σ Q rest d bs te):=rfl
theorem wS2_eq (ops:Array Oper) (σ:zaa) (Q:Post) (rest:List Oper) (d bs:Tmp) (te:TI) (env:Env):wS2 P T ops σ Q rest d bs te env=wS3 P T ops σ Q rest d te ((env[bs]?).getD .bot) env:=rfl
theorem wS4_eq (σ:zaa) (Q:Post) (d:Tmp) (x:AV) (env:Env):wS4 σ Q d x env=Q .normal (env.set d (.ptr σ.length 0)) (σ++[.rw x.cells]):=rfl
def treeK (P : Program) (T : Tab) (ops : Array Oper) (t : Tr) (env : Env) (d : Option Tmp) (Q : Post) : AV → zaa → Prop := fun v σ' => zcQ P T ops t (aput env d v) σ' Q
theorem treeK_eq (ops:Array Oper) (t:Tr) (env:Env) (d:Option Tmp) (Q:Post) (v:AV) (σ:zaa):treeK P T ops t env d Q v σ=zcQ P T ops t (aput env d v) σ Q:=rfl
def wtop (P:Program) (T:Tab) (ops:Array Oper) (o:Option Oper) (t:Tr) (env:Env) (σ:zaa) (Q:Post):Prop:=match o with
 | some o=>zb6 ops env o.guard (Wop P T o.op (zaN env) σ (treeK P T ops t env o.dst Q) (panK env Q)) (zcQ P T ops t (aput env o.dst (.lit undef)) σ Q)
 | none=>False
theorem wtree_done (ops:Array Oper) (env:Env) (σ:zaa) (Q:Post):zcQ P T ops .done env σ Q=Q .normal env σ:=rfl
theorem wtree_nil (ops:Array Oper) (env:Env) (σ:zaa) (Q:Post):zcQ P T ops .nil env σ Q=True:=rfl
theorem wtree_br (l:List Oper) (i:Nat) (t r:Tr) (env:Env) (σ:zaa) (Q:Post):zcQ P T l.toArray (.br i t r) env σ Q=(wtop P T l.toArray (l[i]?) t env σ Q∧zcQ P T l.toArray r env σ Q):=by
 rw [← List.getElem?_toArray];rfl
theorem wtop_some (ops:Array Oper) (d:Option Tmp) (op:Op) (ty:TypeId) (pos:String) (after:Array Edge) (t:Tr) (env:Env) (σ:zaa) (Q:Post):wtop P T ops (some { dst:=d,op:=op,type:=ty,pos:=pos,after:=after,guard:=none }) t env σ Q=Wop P T op (zaN env) σ (treeK P T ops t env d Q) (panK env Q):=rfl
theorem fitQ_eq (E:Env) (S:zaa) (Q:Post) (env:Env) (σ:zaa):fitQ n0 E S Q .normal env σ=fits n0 env σ E S:=rfl
theorem atN_eq (Q:Post) (σ:zaa) (e:Env):atN Q σ e=Q .normal e σ:=rfl
theorem W_seq (a b:Code) (env:Env) (σ:zaa) (Q:Post):W P T n0 (.seq a b) env σ Q=W P T n0 a env σ (seqQ (kont P T n0 b Q) Q):=rfl
theorem W_cond (c:Operand) (a b:Code) (env:Env) (σ:zaa) (Q:Post):W P T n0 (.cond c a b) env σ Q=zhT (zaN env c) (kont P T n0 a Q) (kont P T n0 b Q) env σ:=rfl
theorem W_block (id:Nat) (c:Code) (env:Env) (σ:zaa) (Q:Post):W P T n0 (.block id c) env σ Q=W P T n0 c env σ (zhR id Q):=rfl
theorem zaK (c:Code) (env:Env) (σ:zaa) (Q:Post):W P T n0 (.loop c) env σ Q=wloop n0 (W P T n0 c) env σ Q:=rfl
theorem W_exit (id:Nat) (env:Env) (σ:zaa) (Q:Post):W P T n0 (.exit id) env σ Q=Q (.exit id) env σ:=rfl
def wrange (P:Program) (x:AV) (ps:Array Tmp) (assign body:Code) (env:Env) (σ:zaa) (Q:Post):Prop :=
 match x with
 | .fn (.func gf) [] cap=>zaW P gf=true∧ACalls P gf (.yl σ.length::cap) (σ++[.lp .ready none env ps assign body]) (rangeK env σ.length Q)
 | _=>False
theorem W_range (g:Operand) (ps:Array Tmp) (assign body:Code) (env:Env) (σ:zaa) (Q:Post):W P T n0 (.rangeFunc g ps assign body) env σ Q=wrange P (zaN env g) ps assign body env σ Q:=rfl
theorem wrange_fn (gf:FuncId) (cap:List AV) (ps:Array Tmp) (assign body:Code) (env:Env) (σ:zaa) (Q:Post):wrange P (.fn (.func gf) [] cap) ps assign body env σ Q=(zaW P gf=true∧ACalls P gf (.yl σ.length::cap) (σ++[.lp .ready none env ps assign body]) (rangeK env σ.length Q)):=rfl
theorem W_ret (env:Env) (σ:zaa) (Q:Post):W P T n0 .ret env σ Q=Q .ret env σ:=rfl
theorem seqQ_normal (n:Env→zaa→Prop) (Q:Post) (env:Env) (σ:zaa):seqQ n Q .normal env σ=n env σ:=rfl
theorem seqQ_exit (n:Env→zaa→Prop) (Q:Post) (i:Nat) (env:Env) (σ:zaa):seqQ n Q (.exit i) env σ=Q (.exit i) env σ:=rfl
theorem seqQ_ret (n:Env→zaa→Prop) (Q:Post) (env:Env) (σ:zaa):seqQ n Q .ret env σ=Q .ret env σ:=rfl
theorem seqQ_pan (n:Env→zaa→Prop) (Q:Post) (r:AV) (env:Env) (σ:zaa):seqQ n Q (.pan r) env σ=Q (.pan r) env σ:=rfl
theorem blockQ_normal (id:Nat) (Q:Post) (env:Env) (σ:zaa):zhR id Q .normal env σ=Q .normal env σ:=rfl
theorem blockQ_exit (id i:Nat) (Q:Post) (env:Env) (σ:zaa):zhR id Q (.exit i) env σ=if i=id then Q .normal env σ else Q (.exit i) env σ:=rfl
theorem blockQ_ret (id:Nat) (Q:Post) (env:Env) (σ:zaa):zhR id Q .ret env σ=Q .ret env σ:=rfl
theorem blockQ_pan (id:Nat) (Q:Post) (r:AV) (env:Env) (σ:zaa):zhR id Q (.pan r) env σ=Q (.pan r) env σ:=rfl
theorem zad {ι:Type} (I:ι→Prop) (E:ι→Env) (S:ι→zaa) (μ:ι→Nat) (i:ι) (Q:Post) (env:Env) (σ:zaa):loopQ n0 I E S μ i Q .normal env σ=∃ j,I j∧μ j < μ i∧fits n0 env σ (E j) (S j):=rfl
theorem loopQ_exit {ι:Type} (I:ι→Prop) (E:ι→Env) (S:ι→zaa) (μ:ι→Nat) (i:ι) (Q:Post) (k:Nat) (env:Env) (σ:zaa):loopQ n0 I E S μ i Q (.exit k) env σ=Q (.exit k) env σ:=rfl
theorem loopQ_ret {ι:Type} (I:ι→Prop) (E:ι→Env) (S:ι→zaa) (μ:ι→Nat) (i:ι) (Q:Post) (env:Env) (σ:zaa):loopQ n0 I E S μ i Q .ret env σ=Q .ret env σ:=rfl
theorem loopQ_pan {ι:Type} (I:ι→Prop) (E:ι→Env) (S:ι→zaa) (μ:ι→Nat) (i:ι) (Q:Post) (r:AV) (env:Env) (σ:zaa):loopQ n0 I E S μ i Q (.pan r) env σ=Q (.pan r) env σ:=rfl
theorem wops_nil (ops:Array Oper) (env:Env) (σ:zaa) (Q:Post):wops P T ops [] env σ Q=Q .normal env σ:=rfl
theorem wops_one (ops:Array Oper) (d:Option Tmp) (op:Op) (ty:TypeId) (pos:String) (after:Array Edge) (rest:List Oper) (env:Env) (σ:zaa) (Q:Post):wops P T ops ({ dst:=d,op:=op,type:=ty,pos:=pos,after:=after,guard:=none }::rest) env σ Q =
  Wop P T op (zaN env) σ (opsK (wops P T ops rest) env d Q) (panK env Q):=rfl
theorem opsK_eq (rest:Env→zaa→Post→Prop) (env:Env) (d:Option Tmp) (Q:Post) (v:AV) (σ:zaa):opsK rest env d Q v σ=rest (aput env d v) σ Q:=rfl
theorem panK_eq (env:Env) (Q:Post) (v:AV) (σ:zaa):panK env Q v σ=Q (.pan v) env σ:=rfl
theorem aput_some (env:Env) (d:Tmp) (v:AV):aput env (some d) v=env.set d v:=rfl
theorem aput_none (env:Env) (v:AV):aput env none v=env:=rfl
theorem aeval_tmp (env:Env) (t:Tmp):zaN env (.tmp t)=(env[t]?).getD .bot:=rfl
theorem aeval_func (env:Env) (f:FuncId):zaN env (.func f)=.fn (.func f) [] []:=rfl
theorem aeval_const (env:Env) (v:Value):zaN env (.const v)=zc9 v:=rfl
theorem ofVal_slice (a:Option Addr) (l c:Nat):zc9 (.slice a l c)=.lit (.slice a l c):=rfl
theorem ofVal_pointer (a:Option Addr):zc9 (.pointer a)=.lit (.pointer a):=rfl
variable {ev : Operand → AV} {σ : zaa} {K Kp : AV → zaa → Prop}
def onS (K:AV→zaa→Prop) (σ:zaa):AV→Prop:=fun r=>K r σ
theorem onS_eq (K:AV→zaa→Prop) (σ:zaa) (r:AV):onS K σ r=K r σ:=rfl
theorem Wop_move (x:Operand):Wop P T (.move x) ev σ K Kp=K (ev x) σ:=rfl
theorem Wop_assign (x:Operand):Wop P T (.assign x) ev σ K Kp=K (ev x) σ:=rfl
theorem Wop_pick (c a b:Operand):Wop P T (.pick c a b) ev σ K Kp=zgv (ev c) (ev a) (ev b) (onS K σ):=rfl
theorem Wop_alloc (e:TypeId):Wop P T (.alloc e) ev σ K Kp=zhw T e σ K:=rfl
theorem Wop_box (e:TypeId) (x:Operand):Wop P T (.box e x) ev σ K Kp=wbox e (ev x) σ K:=rfl
theorem Wop_build (t:TypeId) (ps:List (Nat × Operand)):Wop P T (.build t ps.toArray) ev σ K Kp=zaY T t (ps.map fun p=>(p.1,ev p.2)) (onS K σ):=rfl
theorem Wop_buildSlice (t:TypeId) (n:Nat) (ps:List (Nat × Operand)):Wop P T (.buildSlice t n ps.toArray) ev σ K Kp=zbL T t n (ps.map fun p=>(p.1,ev p.2)) σ K:=rfl
theorem Wop_load (t:TypeId) (a:Operand):Wop P T (.load t a) ev σ K Kp=zen T t (ev a) σ (onS K σ):=rfl
theorem Wop_store (t:TypeId) (a x:Operand):Wop P T (.store t a x) ev σ K Kp=zgV T t (ev a) (ev x) σ K:=rfl
theorem wnil_ptr (id off:Nat) (K:AV→Prop):wnil P (.ptr id off) K=K (.ptr id off):=rfl
theorem zgX (x:Operand):Wop P T (.nilCheck x) ev σ K Kp=wnil P (ev x) (onS K σ):=by
 simp only [Wop,wnil]
 rfl
theorem Wop_binOp (op:BinOp) (t t':TypeId) (x y:Operand):Wop P T (.binOp op t x y t') ev σ K Kp=zfw T op t x y ev (onS K σ):=rfl
theorem wbW_tmp (op:BinOp) (t:TypeId) (x:Operand) (a:Tmp) (K:AV→Prop):zfw T op t x (.tmp a) ev K=wbin T op t (ev x) (ev (.tmp a)) K:=rfl
theorem qbW_tmp (op:BinOp) (t:TypeId) (x:Operand) (a:Tmp) (K:AV→Prop):zje T op t x (.tmp a) ev K=wbin T op t (ev x) (ev (.tmp a)) K:=rfl
theorem wbW_int (op:BinOp) (t:TypeId) (x:Operand) (k:IntKind) (n:Int) (K:AV→Prop):zfw T op t x (.const (.int k n)) ev K=wbin T op t (ev x) (ev (.const (.int k n))) K:=rfl
theorem qbW_int (op:BinOp) (t:TypeId) (x:Operand) (k:IntKind) (n:Int) (K:AV→Prop):zje T op t x (.const (.int k n)) ev K=wbin T op t (ev x) (ev (.const (.int k n))) K:=rfl
theorem wbW_str (op:BinOp) (t:TypeId) (x:Operand) (s:ByteArray) (K:AV→Prop):zfw T op t x (.const (.string s)) ev K=wbin T op t (ev x) (ev (.const (.string s))) K:=rfl
theorem wbW_nil (op:BinOp) (t:TypeId) (x:Operand) (env:Env) (K:AV→Prop):zfw T op t x (.const .nilIface) (zaN env) K=zjc T op t (zaN env x) K:=by
 simp [zfw,zjd,zaN,zc9]
theorem wbW_nils (op:BinOp) (t:TypeId) (x:Operand) (env:Env) (K:AV→Prop):zfw T op t x (.const (.slice none 0 0)) (zaN env) K=zkd T op t (zaN env x) K:=by
 simp [zfw,zaN,zc9]
theorem Wop_mkI (t:TypeId) (x:Operand):Wop P T (.makeInterface t x) ev σ K Kp=wmkI T t (ev x) (onS K σ):=rfl
theorem Wop_unOp (op:UnOp) (t:TypeId) (x:Operand):Wop P T (.unOp op t x) ev σ K Kp=wun op (ev x) (onS K σ):=rfl
theorem Wop_convert (s d:TypeId) (x:Operand):Wop P T (.convert s d x) ev σ K Kp=zjb T s d (ev x) σ K:=rfl
theorem Wop_makeFunc (fn:Fn) (a b:List Operand):Wop P T (.makeFunc fn a.toArray b.toArray) ev σ K Kp=K (.fn fn (a.map ev) (b.map ev)) σ:=by simp [Wop]
theorem Wop_makeSlice (t:TypeId) (l c:Operand):Wop P T (.makeSlice t l c) ev σ K Kp=zjZ T t (ev l) (ev c) σ K:=rfl
theorem Wop_slice (t:TypeId) (x:Operand) (lo hi:Option Operand):Wop P T (.slice t x lo hi none) ev σ K Kp=zbi T t (ev x) (lo.map ev) (hi.map ev) σ (onS K σ):=rfl
theorem Wop_fieldAddr (s:TypeId) (x:Operand) (f:Nat):Wop P T (.fieldAddr s x f) ev σ K Kp=zag T s (ev x) f (onS K σ):=rfl
theorem Wop_field (s:TypeId) (x:Operand) (f:Nat):Wop P T (.field s x f) ev σ K Kp=zc6 T s (ev x) f (onS K σ):=rfl
theorem Wop_indexAddr (t:TypeId) (x i:Operand):Wop P T (.indexAddr t x i) ev σ K Kp=zbl T t (ev x) (ev i) (onS K σ):=rfl
theorem Wop_index (t:TypeId) (x i:Operand):Wop P T (.index t x i) ev σ K Kp=zeI T t (ev x) (ev i) (onS K σ):=rfl
theorem Wop_extract (x:Operand) (i:Nat):Wop P T (.extract x i) ev σ K Kp=zcd (ev x) i (onS K σ):=rfl
theorem Wop_call (f:Operand) (as9:List Operand) (ts:Array TypeId):Wop P T (.call { callee:=.value f,args:=as9.toArray,argTypes:=ts }) ev σ K Kp=ziB P (ev f) (as9.map ev) σ K Kp:=by simp [Wop]
theorem wcall_yl (id:Nat) (as9:List AV):ziB P (.yl id) as9 σ K Kp=AYield P id as9 σ (zj1 K Kp):=rfl
theorem wcall_fn (g:FuncId) (a c as9:List AV):ziB P (.fn (.func g) a c) as9 σ K Kp=ACalls P g (a++as9++c) σ (zj1 K Kp):=rfl
theorem Wop_len (x:Operand) (t:TypeId):Wop P T (.call { callee:=.builtin .len,args:=#[x],argTypes:=#[t] }) ev σ K Kp=wlen T t (ev x) (onS K σ):=rfl
theorem Wop_append (s x:Operand) (ts:Array TypeId):Wop P T (.call { callee:=.builtin .append,args:=#[s,x],argTypes:=ts }) ev σ K Kp=wappO T ts (ev s) (ev x) σ K:=rfl
theorem Wop_min (x y:Operand) (ts:Array TypeId):Wop P T (.call { callee:=.builtin .min,args:=#[x,y],argTypes:=ts }) ev σ K Kp=zbW false [ev x,ev y] (onS K σ):=rfl
theorem Wop_max (x y:Operand) (ts:Array TypeId):Wop P T (.call { callee:=.builtin .max,args:=#[x,y],argTypes:=ts }) ev σ K Kp=zbW true [ev x,ev y] (onS K σ):=rfl
theorem callK_ret (K Kp:AV→zaa→Prop) (r:AV) (σ:zaa):zj1 K Kp (.ret r) σ=K r σ:=rfl
theorem callK_pan (K Kp:AV→zaa→Prop) (r:AV) (σ:zaa):zj1 K Kp (.pan r) σ=Kp r σ:=rfl
theorem retQ_one (t : Tmp) (K : AEnd → zaa → Prop) (env : Env) (σ : zaa) : retQ T n0 [.tmp t] K .ret env σ = endQ n0 ((env[t]?).getD .bot) σ (fun r σ' => K (.ret r) σ') := rfl
theorem retQ_none (K : AEnd → zaa → Prop) (env : Env) (σ : zaa) : retQ T n0 [] K .ret env σ = endQ n0 (.tup []) σ (fun r σ' => K (.ret r) σ') := rfl
theorem retQ_none' (K : AEnd → zaa → Prop) (env : Env) (σ : zaa) : retQ T n0 [] K .normal env σ = endQ n0 (.tup []) σ (fun r σ' => K (.ret r) σ') := rfl
end
section
variable [Globs] {P : Program} {T : Tab} {ev : Operand → AV} {σ : zaa} {K : AV → Prop}
def wqK (P:Program) (T:Tab) (ops:Array Oper) (σ:zaa) (rest:List Oper) (env:Env) (d:Option Tmp) (Q:Env→Prop):AV→Prop:=fun v=>wq P T ops σ rest (aput env d v) Q
theorem wqK_eq (ops:Array Oper) (rest:List Oper) (env:Env) (d:Option Tmp) (Q:Env→Prop) (v:AV):wqK P T ops σ rest env d Q v=wq P T ops σ rest (aput env d v) Q:=rfl
theorem wq_nil (ops:Array Oper) (env:Env) (Q:Env→Prop):wq P T ops σ [] env Q=Q env:=rfl
theorem wq_one (ops:Array Oper) (d:Option Tmp) (op:Op) (ty:TypeId) (pos:String) (after:Array Edge) (rest:List Oper) (env:Env) (Q:Env→Prop):wq P T ops σ ({ dst:=d,op:=op,type:=ty,pos:=pos,after:=after,guard:=none }::rest) env Q =
  Qop P T op (zaN env) σ (wqK P T ops σ rest env d Q):=rfl
theorem Qop_move (x:Operand):Qop P T (.move x) ev σ K=K (ev x):=rfl
theorem Qop_assign (x:Operand):Qop P T (.assign x) ev σ K=K (ev x):=rfl
theorem Qop_pick (c a b:Operand):Qop P T (.pick c a b) ev σ K=zgv (ev c) (ev a) (ev b) K:=rfl
theorem Qop_build (t:TypeId) (ps:List (Nat × Operand)):Qop P T (.build t ps.toArray) ev σ K=zaY T t (ps.map fun p=>(p.1,ev p.2)) K:=rfl
theorem Qop_buildSlice (t:TypeId) (n:Nat) (ps:List (Nat × Operand)):Qop P T (.buildSlice t n ps.toArray) ev σ K=zb7 T t n (ps.map fun p=>(p.1,ev p.2)) K:=rfl
theorem Qop_load (t:TypeId) (a:Operand):Qop P T (.load t a) ev σ K=zen T t (ev a) σ K:=rfl
theorem Qop_nilCheck (x:Operand):Qop P T (.nilCheck x) ev σ K=wnil P (ev x) K:=rfl
theorem Qop_binOp (op:BinOp) (t t':TypeId) (x y:Operand):Qop P T (.binOp op t x y t') ev σ K=zje T op t x y ev K:=rfl
theorem Qop_unOp (op:UnOp) (t:TypeId) (x:Operand):Qop P T (.unOp op t x) ev σ K=wun op (ev x) K:=rfl
theorem Qop_slice (t:TypeId) (x:Operand) (lo hi:Option Operand):Qop P T (.slice t x lo hi none) ev σ K=zbi T t (ev x) (lo.map ev) (hi.map ev) σ K:=rfl
theorem Qop_fieldAddr (s:TypeId) (x:Operand) (f:Nat):Qop P T (.fieldAddr s x f) ev σ K=zag T s (ev x) f K:=rfl
theorem Qop_field (s:TypeId) (x:Operand) (f:Nat):Qop P T (.field s x f) ev σ K=zc6 T s (ev x) f K:=rfl
theorem Qop_indexAddr (t:TypeId) (x i:Operand):Qop P T (.indexAddr t x i) ev σ K=zbl T t (ev x) (ev i) K:=rfl
theorem Qop_index (t:TypeId) (x i:Operand):Qop P T (.index t x i) ev σ K=zeI T t (ev x) (ev i) K:=rfl
theorem Qop_extract (x:Operand) (i:Nat):Qop P T (.extract x i) ev σ K=zcd (ev x) i K:=rfl
theorem Qop_call (f:Operand) (as9:List Operand) (ts:Array TypeId):Qop P T (.call { callee:=.value f,args:=as9.toArray,argTypes:=ts }) ev σ K=zjg P (ev f) (as9.map ev) σ K:=by simp [Qop]
theorem qcall_fn (g:FuncId) (a c as9:List AV):zjg P (.fn (.func g) a c) as9 σ K=exq (callV P g (a++as9++c) σ) K:=rfl
theorem Qop_len (x:Operand) (t:TypeId):Qop P T (.call { callee:=.builtin .len,args:=#[x],argTypes:=#[t] }) ev σ K=wlen T t (ev x) K:=rfl
end
theorem zjm {v:Value} {σ:zaa} {K:AV→zaa→Prop} (h:K (.lit v) []):endQ 0 (.lit v) σ K :=
 .inl ⟨[],.lit v,[],rfl,rfl,List.nodup_nil,rfl,trivial,h⟩
theorem zfC {id off len sz:Nat} {cs:List AV} {σ:zaa} {K:AV→zaa→Prop} (hi:σ[id]?=some (.rw cs)) (hle:off+len * sz≤cs.length) (hc:renL [] cs=some cs) (h:K (.sl ((cs.drop off).take (len * sz)) len) []):endQ 0 (.ref id off len sz) σ K :=
 .inr (.inl ⟨rfl,id,off,len,sz,cs,rfl,hi,hle,hc,h⟩)
theorem zaX {n0:Nat} {r:AV} {σ:zaa} {K:AV→zaa→Prop} (ids:List Nat) (r1:AV) (h:frzA (zdX σ ids) r r1) (hk:endR n0 r1 (zdX σ ids) K):endQ n0 r σ K:=.inr (.inr (.inl (.inr ⟨ids,r1,h,hk⟩)))
theorem zdK {σ:zaa} {K:AV→zaa→Prop} (h:K (.sl [] 0) []):endQ 0 (.lit (.slice none 0 0)) σ K :=
 .inr (.inr (.inl (.inl ⟨rfl,rfl,.inl h⟩)))
end Go.Eng
end

