/-
  Interfaces, lists of operations; each rule is proved sound. No condition.
-/
import Derived.Test.YtdigkoejfgmecaaGreatDoorEngA
import Derived.MapKept
import Derived.Maps.RangeRun
import Derived.Lib.UnsafeStr
import Derived.OrdersIn
import Derived.TacticsIn
import Derived.RangeFuncLeaves
import Derived.RangeFuncRecord
set_option linter.unusedSimpArgs false
set_option linter.unusedVariables false
set_option linter.unusedSectionVars false
section
namespace Go.Eng
open Go
variable {H : Nat → Prop}
def zfv:AV→Option (TypeId × AV)
 | .ifc t v=>some (t,v)
 | .lit (.iface t v)=>some (t,.lit v)
 | _=>none
theorem zhz {w:World} {O:Nat→Prop} {m:Ids} {x:AV} {v:Value} {t:TypeId} {a:AV} (h:zfv x=some (t,a)) (hx:rep w O m x v):∃ u,v=.iface t u∧rep w O m a u:=by
 unfold zfv at h
 split at h
 ·cases h
  simpa only [rep] using hx
 ·cases h
  simp only [rep] at hx
  exact⟨_,hx,by simp only [rep]⟩
 ·cases h
def zhA:AV→Option Bool
 | .ifc _ _=>some false
 | .lit (.iface _ _)=>some false
 | .lit .nilIface=>some true
 | _=>none
def zjc (T:Tab) (op:BinOp) (t:TypeId) (x:AV) (K:AV→Prop):Prop :=
 match T t with
 | some ti=>ti.d=.iface∧match op,zhA x with
  | .eql,some b=>K (.lit (.bool b))
  | .neq,some b=>K (.lit (.bool (!b)))
  | _,_=>False
 | none=>False
theorem wnilc_sound {P:Program} {T:Tab} (hT:zaD P T) {w:World} {O:Nat→Prop} {m:Ids} {op:BinOp} {t:TypeId} {x:AV} {a:Value} {ox:Operand} {K:AV→Prop} (h:zjc T op t x K) (hx:rep w O m x a) :
  ∃ v r,(do eqGuard op t ox (.const .nilIface) a .nilIface;binOp op t a .nilIface:Sem Value).run P w=.ok v w∧rep w O m r v∧K r:=by
 unfold zjc at h
 split at h
 ·rename_i ti ht
  obtain⟨hd,h⟩:=h
  obtain⟨d,hu,hf⟩:=(hT t ti ht).und
  rw [hd] at hf
  simp only [TD.fits] at hf
  obtain⟨ms,rfl⟩:=hf
  have hb:∀ b,zhA x=some b→(∃ t' u,a=.iface t' u∧b=false)∨(a=.nilIface∧b=true):=by
   intro b hb
   unfold zhA at hb
   split at hb
   ·cases hb
    simp only [rep] at hx
    obtain⟨u,e,_⟩:=hx
    exact .inl ⟨_,u,e,rfl⟩
   ·cases hb
    simp only [rep] at hx
    exact .inl ⟨_,_,hx,rfl⟩
   ·cases hb
    simp only [rep] at hx
    exact .inr ⟨hx,rfl⟩
   ·cases hb
  have e1:∀ t' u,(Op.equal t (.iface t' u) .nilIface).run P w=.ok false w:=by
   intro t' u
   show (Op.equalIn (9999+1) t _ _).run P w=_
   unfold Op.equalIn
   simp only [Sem.run_bind,run_underlying hu,Result.andThen_ok,Sem.run_pure]
  have e2:(Op.equal t .nilIface .nilIface).run P w=.ok true w:=by
   show (Op.equalIn (9999+1) t _ _).run P w=_
   unfold Op.equalIn
   simp only [Sem.run_bind,run_underlying hu,Result.andThen_ok,Sem.run_pure]
  have g1:∀ op t' u,(eqGuard op t ox (.const .nilIface) (.iface t' u) .nilIface).run P w=.ok () w:=by
   intro op t' u
   unfold eqGuard
   cases op <;> rfl
  have g2:∀ op,(eqGuard op t ox (.const .nilIface) .nilIface .nilIface).run P w=.ok () w:=by
   intro op
   unfold eqGuard
   cases op <;> simp
  split at h
  ·rename_i b hbn
   rcases hb b hbn with ⟨t',u,rfl,rfl⟩ | ⟨rfl,rfl⟩
   ·refine⟨.bool false,_,?_,?_,h⟩
    ·rw [Sem.run_bind,g1]
     show (do pure (Value.bool (← Op.equal t _ _)):Sem Value).run P w=_
     rw [Sem.run_bind,e1]
     rfl
    ·simp only [rep]
   ·refine⟨.bool true,_,?_,?_,h⟩
    ·rw [Sem.run_bind,g2]
     show (do pure (Value.bool (← Op.equal t _ _)):Sem Value).run P w=_
     rw [Sem.run_bind,e2]
     rfl
    ·simp only [rep]
  ·rename_i b hbn
   rcases hb b hbn with ⟨t',u,rfl,rfl⟩ | ⟨rfl,rfl⟩
   ·refine⟨.bool true,_,?_,?_,h⟩
    ·rw [Sem.run_bind,g1]
     show (do pure (Value.bool (!(← Op.equal t _ _))):Sem Value).run P w=_
     rw [Sem.run_bind,e1]
     rfl
    ·simp only [rep,Bool.not_false]
   ·refine⟨.bool false,_,?_,?_,h⟩
    ·rw [Sem.run_bind,g2]
     show (do pure (Value.bool (!(← Op.equal t _ _))):Sem Value).run P w=_
     rw [Sem.run_bind,e2]
     rfl
    ·simp only [rep,Bool.not_true]
  ·exact h.elim
 ·exact h.elim
def zjd (T:Tab) (op:BinOp) (t:TypeId) (x y:Operand) (ev:Operand→AV) (K:AV→Prop):Prop :=
 match y with
 | .const .nilIface=>ev (.const .nilIface)=.lit .nilIface∧zjc T op t (ev x) K
 | y=>wbin T op t (ev x) (ev y) K
theorem wbinO_sound {P:Program} {T:Tab} (hT:zaD P T) {w:World} {O:Nat→Prop} {m:Ids} {op:BinOp} {t:TypeId} {x y:Operand} {ev:Operand→AV} {a b:Value} {K:AV→Prop} (h:zjd T op t x y ev K) (hx:rep w O m (ev x) a) (hy:rep w O m (ev y) b) :
  ∃ v r,(do eqGuard op t x y a b;binOp op t a b:Sem Value).run P w=.ok v w∧rep w O m r v∧K r:=by
 unfold zjd at h
 split at h
 ·obtain⟨h1,h2⟩:=h
  rw [h1] at hy
  simp only [rep] at hy
  subst hy
  exact wnilc_sound hT h2 hx
 ·exact wbin_sound hT h hx hy
def zfw (T:Tab) (op:BinOp) (t:TypeId) (x y:Operand) (ev:Operand→AV) (K:AV→Prop):Prop :=
 match y with
 | .const (.slice none 0 0)=>ev (.const (.slice none 0 0))=.lit (.slice none 0 0)∧zkd T op t (ev x) K
 | y=>zjd T op t x y ev K
def zje (T:Tab) (op:BinOp) (t:TypeId) (x y:Operand) (ev:Operand→AV) (K:AV→Prop):Prop :=
 match y with
 | .const (.slice none 0 0)=>False
 | y=>zjd T op t x y ev K
theorem wbinW_sound {P:Program} {T:Tab} (hT:zaD P T) {w:World} {O:Nat→Prop} {m:Ids} {op:BinOp} {t:TypeId} {x y:Operand} {ev:Operand→AV} {a b:Value} {K:AV→Prop} (h:zfw T op t x y ev K) (hx:rep w O m (ev x) a) (hy:rep w O m (ev y) b) :
  ∃ v r,(do eqGuard op t x y a b;binOp op t a b:Sem Value).run P w=.ok v w∧rep w O m r v∧K r:=by
 unfold zfw at h
 split at h
 ·obtain⟨h1,h2⟩:=h
  rw [h1] at hy
  simp only [rep] at hy
  subst hy
  exact wnils_sound hT h2 hx
 ·exact wbinO_sound hT h hx hy
def wmkI (T:Tab) (t:TypeId) (x:AV) (K:AV→Prop):Prop :=
 match T t with
 | some ti=>ti.d.conc=true∧K (.ifc t x)
 | none=>False
theorem wmkI_sound {P:Program} {T:Tab} (hT:zaD P T) {w:World} {O:Nat→Prop} {m:Ids} {t:TypeId} {x:AV} {a:Value} {K:AV→Prop} (h:wmkI T t x K) (hx:rep w O m x a) :
  ∃ v r,(Instr.makeInterface t a).run P w=.ok v w∧rep w O m r v∧K r:=by
 unfold wmkI at h
 split at h
 ·rename_i ti ht
  obtain⟨hc,h⟩:=h
  obtain⟨d,hu,hf⟩:=(hT t ti ht).und
  refine⟨.iface t a,.ifc t x,?_,by simp only [rep];exact⟨a,rfl,hx⟩,h⟩
  unfold Instr.makeInterface
  rw [Sem.run_bind,run_underlying hu]
  simp only [Result.andThen_ok]
  cases hd:ti.d <;> rw [hd] at hf hc <;> simp only [TD.conc,Bool.false_eq_true] at hc <;> simp only [TD.fits] at hf
  case struct=>obtain⟨gs,rfl,_⟩:=hf;rfl
  case bld=>obtain⟨gs,rfl,_⟩:=hf;rfl
  all_goals (subst hf;rfl)
 ·exact h.elim
theorem least_isNone (l:List String):(Instr.least l).isNone=l.isEmpty:=by cases l <;> rfl
theorem missing_isNone (want:Array (String × TypeId)) (got:Array Method):(Instr.missingMethod want got).isNone=(want.toList.filter fun p=>!got.any fun m=>m.name == p.1 && m.sig == p.2).isEmpty:=by
 unfold Instr.missingMethod
 generalize (want.toList.filter fun p=>!got.any fun m=>m.name == p.1 && m.sig == p.2)=l
 simp only [List.partition_eq_filter_filter]
 cases l with
 | nil=>rfl
 | cons a l =>
  simp only [List.map_cons,List.isEmpty_cons]
  cases h : a.1.contains '.' with
  | true =>
   simp only [List.filter_cons,h,if_true,Function.comp_apply,Bool.not_true,Bool.false_eq_true,if_false]
   cases Instr.least _ <;> simp [least_isNone,Instr.least]
  | false =>
   simp only [List.filter_cons,h,Function.comp_apply,Bool.not_false,if_true,Bool.false_eq_true,if_false,Instr.least]
   rfl
def holdsB (P:Program) (a t:TypeId):Option Bool :=
 match P.underlying a,P.info? t with
 | some (.interface want),some i=>some (want.toList.filter fun p=>!i.methods.any fun m=>m.name == p.1 && m.sig == p.2).isEmpty
 | _,_=>none
def zAV (ti:TI):AV:=if 2≤ti.zero.length then .agg (zaE ti.zero) else .bot
theorem zAV_sound {w:World} {O:Nat→Prop} {m:Ids} {ti:TI} {z:Value} (h:z.cells.toList=ti.zero):rep w O m (zAV ti) z:=by
 unfold zAV
 split
 ·rename_i h2
  cases z with
  | agg cs =>
   simp only [Value.cells] at h
   simp only [rep]
   exact⟨cs,rfl,by rw [← h];simpa [zaE] using zcB (w:=w) (O:=O) (m:=m) cs.toList⟩
  | _ =>
   rw [← h] at h2
   simp [Value.cells] at h2
 ·simp only [rep]
def zeM (P:Program) (T:Tab) (a:TypeId) (ok:Bool) (x:AV) (K:AV→Prop):Prop :=
 match T a with
 | none=>False
 | some ti=>match zfv x with
  | some (t,v) =>
   if ti.d.conc=true then
    if t=a then K (if ok then .tup [v,.lit (.bool true)] else v) else ok=true∧K (.tup [zAV ti,.lit (.bool false)])
   else ∃ b:Bool,holdsB P a t=some b∧(b=true→K (if ok then .tup [x,.lit (.bool true)] else x))∧(b=false→ok=true∧K (.tup [.bot,.lit (.bool false)]))
  | none=>x=.lit .nilIface∧ok=true∧(ti.d.conc=true∨ti.d=.iface)∧(if ti.zero.length=1∧ti.d.agg=true then ∃ z:Value,(∃ i,P.info? a=some i∧i.zero=some (.agg #[z]))∧K (.tup [.agg [.lit z],.lit (.bool false)]) else K (.tup [zAV ti,.lit (.bool false)]))
theorem wassert_sound {P:Program} {T:Tab} (hT:zaD P T) {w:World} {O:Nat→Prop} {m:Ids} {a xt:TypeId} {ok:Bool} {x:AV} {v:Value} {K:AV→Prop} (h:zeM P T a ok x K) (hx:rep w O m x v) :
  ∃ u r,(Instr.typeAssert v xt a ok).run P w=.ok u w∧rep w O m r u∧K r:=by
 unfold zeM at h
 split at h
 ·exact h.elim
 rename_i ti ht
 obtain⟨d,hu,hf⟩:=(hT a ti ht).und
 obtain⟨z,hz,hzc⟩:=(hT a ti ht).run_zero w
 have good:∀ (x:AV) (v:Value),rep w O m x v→rep w O m (if ok then .tup [x,.lit (.bool true)] else x) (if ok then .tuple #[v,.bool true] else v):=by
  intro x v hx
  cases ok with
  | false=>simpa using hx
  | true =>
   simp only [if_true,rep]
   exact⟨_,rfl,by simp only [reps,rep];exact⟨v,_,rfl,hx,_,_,rfl,rfl,rfl⟩⟩
 have bad:rep w O m (.tup [.bot,.lit (.bool false)]) (.tuple #[z,.bool false]):=by
  simp only [rep]
  exact⟨_,rfl,by simp only [reps,rep];exact⟨z,_,rfl,trivial,_,_,rfl,rfl,rfl⟩⟩
 have bad':rep w O m (.tup [zAV ti,.lit (.bool false)]) (.tuple #[z,.bool false]):=by
  simp only [rep]
  exact⟨_,rfl,by simp only [reps,rep];exact⟨z,_,rfl,zAV_sound hzc,_,_,rfl,rfl,rfl⟩⟩
 have nconc:ti.d.conc=true→∀ ms,d≠.interface ms:=by
  rintro hc ms rfl
  cases hd:ti.d <;> rw [hd] at hf hc <;> simp only [TD.conc,Bool.false_eq_true] at hc <;> simp only [TD.fits] at hf
  case struct=>obtain⟨gs,h,_⟩:=hf;cases h
  case bld=>obtain⟨gs,h,_⟩:=hf;cases h
  all_goals cases hf
 split at h
 ·rename_i t y hy
  obtain⟨u,rfl,hu2⟩:=zhz hy hx
  split at h
  ·rename_i hc
   have nc:=nconc hc
   have run : (Instr.typeAssert (.iface t u) xt a ok).run P w = (if t = a then (pure (if ok then .tuple #[u, .bool true] else u) : Sem Value) else (if ok then (do pure (.tuple #[← zeroValue a, .bool false])) else runtimePanic (.typeAssertion (some xt) (some t) a ""))).run P w := by
    unfold Instr.typeAssert
    rw [Sem.run_bind,run_underlying hu]
    cases d <;> first | exact absurd rfl (nc _) | rfl
   rw [run]
   split at h
   ·rename_i he
    rw [if_pos he]
    exact⟨_,_,rfl,good _ _ hu2,h⟩
   ·rename_i he
    obtain⟨rfl,h⟩:=h
    rw [if_neg he]
    refine⟨_,_,?_,bad',h⟩
    simp only [if_true]
    rw [Sem.run_bind,hz]
    rfl
  ·obtain⟨b,hb,h1,h2⟩:=h
   unfold holdsB at hb
   split at hb
   ·rename_i want i hw hi
    rw [hu] at hw
    cases hw
    have hti:(typeInfo t).run P w=.ok i w:=by simp [typeInfo,hi]
    simp only [Option.some.injEq] at hb
    rw [← missing_isNone] at hb
    cases hmm:Instr.missingMethod want i.methods with
    | none =>
     rw [hmm] at hb
     simp only [Option.isNone_none] at hb
     refine⟨_,_,?_,good _ _ hx,h1 hb.symm⟩
     unfold Instr.typeAssert
     rw [Sem.run_bind,run_underlying hu]
     simp only [Result.andThen_ok]
     rw [Sem.run_bind,hti]
     simp only [Result.andThen_ok,hmm,Sem.run_pure]
    | some mm =>
     rw [hmm] at hb
     simp only [Option.isNone_some] at hb
     obtain⟨rfl,h3⟩:=h2 hb.symm
     refine⟨_,_,?_,bad,h3⟩
     unfold Instr.typeAssert
     rw [Sem.run_bind,run_underlying hu]
     simp only [Result.andThen_ok]
     rw [Sem.run_bind,hti]
     simp only [Result.andThen_ok,hmm,if_true]
     rw [Sem.run_bind,hz]
     rfl
   ·cases hb
 ·obtain⟨rfl,rfl,hc,h⟩:=h
  simp only [rep] at hx
  subst hx
  split at h
  ·obtain⟨z',⟨i,hi,hiz⟩,h⟩:=h
   have hz':(zeroValue a).run P w=.ok (.agg #[z']) w:=by
    have hti:(typeInfo a).run P w=.ok i w:=by simp [typeInfo,hi]
    simp [zeroValue,hti,hiz]
   refine⟨.tuple #[.agg #[z'],.bool false],_,?_,?_,h⟩
   ·unfold Instr.typeAssert
    rw [Sem.run_bind,run_underlying hu]
    simp only [Result.andThen_ok]
    cases d <;> (simp only [if_true];rw [Sem.run_bind,hz'];rfl)
   ·simp only [rep]
    refine⟨_,rfl,?_⟩
    simp only [reps,rep]
    exact⟨_,_,rfl,⟨_,rfl,_,_,rfl,rfl,rfl⟩,_,_,rfl,rfl,rfl⟩
  refine⟨_,_,?_,bad',h⟩
  unfold Instr.typeAssert
  rw [Sem.run_bind,run_underlying hu]
  simp only [Result.andThen_ok]
  cases d <;> (simp only [if_true];rw [Sem.run_bind,hz];rfl)
def MethIs (P:Program) (t:TypeId) (v:AV) (name:String) (f:FuncId) (a:AV):Prop :=
 ∀ (w:World) (O:Nat→Prop) (m:Ids) (u:Value),rep w O m v u→∃ r,(method (P.types.size+Made.depth) t u name).run P w=.ok (f,r) w∧rep w O m a r
def mrow (P:Program) (t:TypeId) (name:String) (f:FuncId) (ptr:Bool):Bool :=
 match P.info? t,P.underlying t with
 | some i,some d=>(match i.methods.find? (·.name == name) with
  | some m=>m.path.isEmpty && (match m.func with | some (g,p)=>g == f && p == ptr | none=>false)
  | none=>false) && (match d with | .pointer _=>ptr | _=>!ptr)
 | _,_=>false
theorem mrow_ok {P:Program} {t:TypeId} {v:AV} {name:String} {f:FuncId} {ptr:Bool} (h:mrow P t name f ptr=true):MethIs P t v name f v:=by
 intro w O m u hu
 refine⟨u,?_,hu⟩
 unfold mrow at h
 split at h
 ·rename_i i d hi hd
  simp only [Bool.and_eq_true] at h
  obtain⟨h1,h2⟩:=h
  split at h1
  ·rename_i mt hm
   simp only [Bool.and_eq_true] at h1
   obtain⟨h0,h1⟩:=h1
   split at h1
   ·rename_i g p hf
    simp only [Bool.and_eq_true,beq_iff_eq] at h1
    obtain⟨rfl,rfl⟩:=h1
    have hpath:mt.path.toList=[]:=by
     have:mt.path=#[]:=by simpa using h0
     rw [this]
    have hti:(typeInfo t).run P w=.ok i w:=by simp [typeInfo,hi]
    rw [show P.types.size+Made.depth=(P.types.size+Made.depth - 1)+1 by simp only [Made.depth];omega]
    unfold method
    rw [Sem.run_bind,hti]
    simp only [Result.andThen_ok,hm,hpath,follow,Sem.run_bind,Sem.run_pure,hf,receiverAt,run_underlying hd]
    cases d <;> cases p <;> simp only [Bool.false_eq_true,Bool.not_false,Bool.not_true] at h2 <;> simp [Place.get]
   ·cases h1
  ·cases h1
 ·cases h
theorem mrow_ahead {P:Program} {t:TypeId} {name:String} {f:FuncId} (h:mrow P t name f false=true) (w:World) (u:Value):(nilAhead (P.types.size+Made.depth) t u name).run P w=.ok (some false) w:=by
 unfold mrow at h
 split at h
 ·rename_i i d hi hd
  simp only [Bool.and_eq_true] at h
  obtain⟨h1,h2⟩:=h
  split at h1
  ·rename_i mt hm
   simp only [Bool.and_eq_true] at h1
   obtain⟨h0,h1⟩:=h1
   split at h1
   ·rename_i g p hf
    simp only [Bool.and_eq_true,beq_iff_eq] at h1
    obtain⟨rfl,rfl⟩:=h1
    have hpath:mt.path.toList=[]:=by
     have:mt.path=#[]:=by simpa using h0
     rw [this]
    have hti:(typeInfo t).run P w=.ok i w:=by simp [typeInfo,hi]
    rw [show P.types.size+Made.depth=(P.types.size+Made.depth - 1)+1 by simp only [Made.depth];omega]
    unfold nilAhead
    rw [Sem.run_bind,hti]
    simp only [Result.andThen_ok,hm,hpath,followBlind,Sem.run_bind,Sem.run_pure,hf,run_underlying hd]
    cases d <;> simp only [Bool.false_eq_true,Bool.not_false] at h2 <;> simp
   ·cases h1
  ·cases h1
 ·cases h
def zgs (T:Tab) (t:TypeId) (x:AV) (lo hi:Option AV) (mx:AV) (K:AV→Prop):Prop :=
 match T t with
 | none=>False
 | some ti=>match ti.d,x with
  | .slice e,.sl cs len=>match bnd 0 lo,hi.bind (fun a=>bnd 0 (some a)),bnd 0 (some mx) with
   | some l,some h,some k=>∃ te,T e=some te∧0≤l∧l≤h∧h≤k∧k≤len∧len * te.size≤cs.length∧K (.sl ((cs.drop (l.toNat * te.size)).take ((h.toNat - l.toNat) * te.size)) (h.toNat - l.toNat))
   | _,_,_=>False
  | .slice e,.lit (.slice none 0 0)=>match bnd 0 lo,hi.bind (fun a=>bnd 0 (some a)),bnd 0 (some mx) with
   | some l,some h,some k=>l=0∧h=0∧k=0∧(∃ te,T e=some te)∧K (.lit (.slice none 0 0))
   | _,_,_=>False
  | .slice e,.ref id off len sz=>match bnd 0 lo,hi.bind (fun a=>bnd 0 (some a)),bnd 0 (some mx) with
   | some l,some h,some k=>∃ te,T e=some te∧te.size=sz∧l=0∧0≤h∧h≤k∧k≤len∧K (.ref id off h.toNat sz)
   | _,_,_=>False
  | _,_=>False
theorem zcr {P:Program} {w:World} {O:Nat→Prop} {m:Ids} {len cap:Nat} {lo hi:Option AV} {mx:AV} {lov hiv:Option Value} {mv:Value} {l h k:Int} (hl:bnd 0 lo=some l) (hh:hi.bind (fun a=>bnd 0 (some a))=some h) (hk:bnd 0 (some mx)=some k) (rl:zeC w O m lo lov) (rh:zeC w O m hi hiv) (rm:rep w O m mx mv)
  (h0:0≤l) (h1:l≤h) (h2:h≤k) (h3:k≤cap) :
  (Instr.sliceBounds true len cap lov hiv (some mv)).run P w=.ok (l.toNat,h.toNat,k.toNat) w:=by
 unfold Instr.sliceBounds
 have e3:=zeK (P:=P) (d:=0) (y:=cap) (code:=.slice3Acap) hk (show zeC w O m (some mx) (some mv) from rm) (by omega) h3
 cases hi with
 | none=>cases hh
 | some hi =>
  cases hiv with
  | none=>exact rh.elim
  | some hv =>
   have e2:=zeK (P:=P) (d:=0) (y:=k.toNat) (code:=.slice3B) hh rh (by omega) (by omega)
   have e1:=zeK (P:=P) (d:=0) (y:=h.toNat) (code:=.slice3C) hl rl h0 (by omega)
   simp only at e2 e3
   cases lov with
   | none =>
    simp only [Sem.run_pure,Result.ok.injEq,and_true] at e1
    simp [e3,e2,← e1]
   | some v =>
    simp only at e1
    simp [e3,e2,e1]
theorem wslice3_sound {P:Program} {T:Tab} (hT:zaD P T) {w:World} {O:Nat→Prop} {m:Ids} {t:TypeId} {x mx:AV} {v mv:Value} {lo hi:Option AV} {lov hiv:Option Value} {K:AV→Prop} (h:zgs T t x lo hi mx K) (hx:rep w O m x v)
  (rl:zeC w O m lo lov) (rh:zeC w O m hi hiv) (rm:rep w O m mx mv) :
  ∃ u r,(Instr.sliceAt t v lov hiv (some mv)).run P w=.ok u w∧rep w O m r u∧K r:=by
 unfold zgs at h
 split at h
 ·exact h.elim
 rename_i ti hti
 obtain⟨d,hd,hf⟩:=(hT t ti hti).und
 split at h
 ·rename_i e cs len hd'
  rw [hd'] at hf
  simp only [TD.fits] at hf
  subst hf
  split at h
  ·rename_i l hh k hl hhh hkk
   obtain⟨te,hte,h0,h1,h2,h3,hle,hk⟩:=h
   simp only [rep] at hx
   obtain⟨ad,cap,rfl,hlc,hcm,hcs⟩:=hx
   have e:=zcr (P:=P) (len:=len) (cap:=cap) hl hhh hkk rl rh rm h0 h1 h2 (by omega)
   refine⟨.slice (if k.toNat=l.toNat then ad else ad.map (·.add (l.toNat * te.size))) (hh.toNat - l.toNat) (k.toNat - l.toNat),_,?_,?_,hk⟩
   ·simp only [Instr.sliceAt,Sem.run_bind,run_underlying hd,Result.andThen_ok,Instr.slice,e,(hT _ _ hte).run_sizeOf,Sem.run_pure]
   ·simp only [rep]
    refine⟨_,_,rfl,by omega,by omega,?_⟩
    rcases hcs with hcs | ⟨b,off,rfl,hO,hb,hat⟩
    ·exact .inl (zfU hcs)
    ·by_cases hcl:k.toNat=l.toNat
     ·refine .inl ?_
      rw [show hh.toNat - l.toNat=0 by omega]
      simp
     ·refine .inr ⟨b,off+l.toNat * te.size,?_,hO,hb,zbu (zbE hat _) _⟩
      rw [if_neg hcl]
      simp [add_none]
  ·exact h.elim
 ·rename_i e hd'
  rw [hd'] at hf
  simp only [TD.fits] at hf
  subst hf
  split at h
  ·rename_i l hh k hl hhh hkk
   obtain⟨rfl,rfl,rfl,⟨te,hte⟩,hk⟩:=h
   simp only [rep] at hx
   subst hx
   have e:=zcr (P:=P) (len:=0) (cap:=0) hl hhh hkk rl rh rm (by omega) (by omega) (by omega) (by omega)
   refine⟨.slice none 0 0,_,?_,by simp only [rep],hk⟩
   simp only [Instr.sliceAt,Sem.run_bind,run_underlying hd,Result.andThen_ok,Instr.slice,e,(hT _ _ hte).run_sizeOf,Sem.run_pure]
   simp
  ·exact h.elim
 ·rename_i e id off len sz hd'
  rw [hd'] at hf
  simp only [TD.fits] at hf
  subst hf
  split at h
  ·rename_i l hh k hl hhh hkk
   obtain⟨te,hte,hsz,rfl,h1,h2,h3,hk⟩:=h
   simp only [rep] at hx
   rcases hx with ⟨rfl,hl0,ho0,hid⟩ | ⟨g,cap,c,rfl,hm,hlc,hcm,hrow,hfit⟩
   ·have hh0:hh=0:=by omega
    have hk0:k=0:=by omega
    have e:=zcr (P:=P) (len:=0) (cap:=0) hl hhh hkk rl rh rm (by omega) h1 h2 (by omega)
    refine⟨.slice none 0 0,_,?_,?_,hk⟩
    ·simp only [Instr.sliceAt,Sem.run_bind,run_underlying hd,Result.andThen_ok,Instr.slice,e,(hT _ _ hte).run_sizeOf,Sem.run_pure]
     simp [hh0,hk0]
    ·simp only [rep]
     exact .inl ⟨by simp,by omega,ho0,hid⟩
   ·have e:=zcr (P:=P) (len:=len) (cap:=cap) hl hhh hkk rl rh rm (by omega) h1 h2 (by omega)
    refine⟨.slice (some ⟨g,off,none⟩) hh.toNat k.toNat,_,?_,?_,hk⟩
    ·simp only [Instr.sliceAt,Sem.run_bind,run_underlying hd,Result.andThen_ok,Instr.slice,e,(hT _ _ hte).run_sizeOf,Sem.run_pure,Option.map_some,add_none]
     simp
    ·simp only [rep]
     refine .inr ⟨g,k.toNat,c,rfl,hm,by omega,by omega,hrow,?_⟩
     have:k.toNat * sz≤cap * sz:=Nat.mul_le_mul_right _ (by omega)
     omega
  ·exact h.elim
 ·exact h.elim
end Go.Eng
end

section
/-
 Maps of plain keys: what is made,looked up,and stored. No condition.
-/
namespace Go.Eng
open Go Go.MapKept
variable {H : Nat → Prop}
def zdO (T:Tab) (kt:TypeId) (v:Value):Prop :=
 ∃ ti,T kt=some ti∧(scB ti.d v=true∨∃ (n:Nat) (e:TypeId) (te:TI) (l:List Value),ti.d=.array n e∧T e=some te∧te.size=1∧v=.agg l.toArray∧l.length=n∧0 < n∧∀ u∈l,scB te.d u=true)
theorem zdr {d:TD} {v:Value} (h:scB d v=true):(∃ k n,d=.int k∧v=.int k n)∨(∃ b,d=.bool∧v=.bool b)∨(∃ s,d=.str∧v=.string s):=by
 cases d <;> cases v <;> simp only [scB,Bool.false_eq_true,decide_eq_true_eq] at h
 ·exact .inr (.inl ⟨_,rfl,rfl⟩)
 ·subst h;exact .inl ⟨_,_,rfl,rfl⟩
 ·exact .inr (.inr ⟨_,rfl,rfl⟩)
theorem zg8 {P:Program} {T:Tab} (hT:zaD P T) {kt:TypeId} {ti:TI} (ht:T kt=some ti) {v:Value} (h:scB ti.d v=true):∃ d,P.underlying kt=some d∧IsKey d v:=by
 obtain⟨d,hd,hf⟩:=(hT kt ti ht).und
 refine⟨d,hd,?_⟩
 rcases zdr h with ⟨k,n,e,rfl⟩ | ⟨b,e,rfl⟩ | ⟨s,e,rfl⟩ <;> rw [e] at hf <;> simp only [TD.fits] at hf <;> subst hf <;> simp [IsKey]
theorem keyOK_fit {T:Tab} {kt:TypeId} {v:Value} (h:zdO T kt v):∃ ti l,T kt=some ti∧v=vOf ti l∧fitE T (0+1+1) kt l:=by
 obtain⟨ti,ht,h⟩:=h
 have one:∀ (d:Nat) (t:TypeId) (ti:TI) (v:Value),T t=some ti→scB ti.d v=true→fitE T (d+1) t [v]:=by
  intro d t ti v ht h
  simp only [fitE,ht]
  rcases zdr h with ⟨k,n,e,rfl⟩ | ⟨b,e,rfl⟩ | ⟨s,e,rfl⟩ <;> simp only [e] <;> exact⟨_,rfl,by simp [scB]⟩
 rcases h with h | ⟨n,e,te,l,hd,he,hs,rfl,hl,hn,hu⟩
 ·refine⟨ti,[v],ht,?_,one 1 kt ti v ht h⟩
  rcases zdr h with ⟨k,n,e,rfl⟩ | ⟨b,e,rfl⟩ | ⟨s,e,rfl⟩ <;> simp [vOf,e,TD.agg]
 ·refine⟨ti,l,ht,by simp [vOf,hd,TD.agg],?_⟩
  rw [fitE]
  simp only [ht,hd,he]
  refine⟨hn,by rw [hs];omega,fun i hi=>?_⟩
  rw [hs,Nat.mul_one,List.drop_eq_getElem_cons (by omega)]
  exact one 0 e te _ he (hu _ (List.getElem_mem _))
theorem key_equal {P:Program} {T:Tab} (hT:zaD P T) {kt:TypeId} {a b:Value} (ha:zdO T kt a) (hb:zdO T kt b):∃ r:Bool,(r=true ↔ a=b)∧∀ w,(Op.equal kt a b).run P w=.ok r w:=by
 obtain⟨ti,l,ht,rfl,hl⟩:=keyOK_fit ha
 obtain⟨ti',l',ht',rfl,hl'⟩:=keyOK_fit hb
 rw [ht] at ht'
 cases ht'
 obtain⟨r,h1,h2⟩:=zel hT 2 Op.maxDepth kt ti l l' ht hl hl' (by simp only [Op.maxDepth];omega)
 refine⟨r,?_,h2⟩
 rw [h1]
 constructor
 ·intro e;rw [e]
 ·intro e
  cases hag:ti.d.agg with
  | true=>simpa [vOf,hag] using e
  | false =>
   have n1:=zfT hT ht hl hag
   have n2:=zfT hT ht hl' hag
   match l,l',n1,n2 with
   | [x],[y],_,_ =>
   simp only [vOf,hag,Bool.false_eq_true,if_false,List.headD_cons] at e
   rw [e]
def zgt (k:Value) (es:List MapEntry) (i:Nat):Option (Nat × Value)→Prop
 | none=>∀ e∈es,e.key≠k
 | some q=>∃ j e,q=(i+j,e.val)∧es[j]?=some e∧e.key=k∧∀ (j':Nat) (e':MapEntry),j' < j→es[j']?=some e'→e'.key≠k
theorem zgW {k:Value} {e:MapEntry} {es:List MapEntry} {i:Nat} {r:Option (Nat × Value)} (hne:e.key≠k) (h:zgt k es (i+1) r):zgt k (e::es) i r:=by
 cases r with
 | none =>
  intro x hx
  rcases List.mem_cons.1 hx with rfl | hx
  ·exact hne
  ·exact h x hx
 | some q =>
  obtain⟨j,x,rfl,h1,h2,h3⟩:=h
  refine⟨j+1,x,by simp;omega,by simpa using h1,h2,fun j' e' hj he=>?_⟩
  cases j' with
  | zero=>simp at he;subst he;exact hne
  | succ j'=>exact h3 j' e' (by omega) (by simpa using he)
theorem zfq {P:Program} {kt:TypeId} {k:Value}:∀ (es:List MapEntry) (i:Nat),(∀ e∈es,∃ r:Bool,(r=true ↔ k=e.key)∧∀ w,(Op.equal kt k e.key).run P w=.ok r w)→∃ r,zgt k es i r∧∀ w,(Instr.findAsking kt k es i).run P w=.ok r w
 | [],i,_=>⟨none,(by intro e h;cases h),fun w=>by simp [Instr.findAsking]⟩
 | e::es,i,h=>by
  obtain⟨r,h1,h2⟩:=h e (by simp)
  cases r with
  | true =>
   refine⟨some (i,e.val),⟨0,e,rfl,rfl,(h1.1 rfl).symm,fun j' _ hj=>by omega⟩,fun w=>?_⟩
   simp only [Instr.findAsking,Sem.run_bind,h2,Result.andThen_ok,if_true,Sem.run_pure]
  | false =>
   obtain⟨r,g1,g2⟩:=zfq es (i+1) fun e he=>h e (List.mem_cons_of_mem _ he)
   refine⟨r,zgW (fun q=>by have:=h1.2 q.symm;cases this) g1,fun w=>?_⟩
   simp only [Instr.findAsking,Sem.run_bind,h2,Result.andThen_ok,Bool.false_eq_true,if_false,g2]
theorem zfY {d:TypeDesc} {k:Value} (hk:IsKey d k):∀ (es:List MapEntry) (i:Nat),(∀ e∈es,IsKey d e.key)→∃ r,zgt k es i r∧Instr.findNow d k es i=some r
 | [],i,_=>⟨none,(by intro e h;cases h),rfl⟩
 | e::es,i,h=>by
  obtain⟨r,h1,h2⟩:=sameNow_of_keys hk (h e (by simp))
  cases r with
  | true=>exact⟨some (i,e.val),⟨0,e,rfl,rfl,(h2.1 rfl).symm,fun j' _ hj=>by omega⟩,by simp [Instr.findNow,h1]⟩
  | false =>
   obtain⟨r,g1,g2⟩:=zfY hk es (i+1) fun e he=>h e (List.mem_cons_of_mem _ he)
   exact⟨r,zgW (fun q=>by have:=h2.2 q.symm;cases this) g1,by simp [Instr.findNow,h1,g2]⟩
theorem zep {P:Program} {T:Tab} (hT:zaD P T) {kt:TypeId} {k:Value} {es:List MapEntry} (hk:zdO T kt k) (h:∀ e∈es,zdO T kt e.key):∃ r,zgt k es 0 r∧∀ w,(Instr.findKey kt k es).run P w=.ok r w:=by
 obtain⟨ti,ht,hk' | ⟨n,e,te,l,hd,he,hs,hv,hl,hn,hu⟩⟩:=hk
 ·obtain⟨d,hd,hkd⟩:=zg8 hT ht hk'
  have all:∀ e∈es,IsKey d e.key:=fun e he=>by
   obtain⟨ti',ht',h1 | ⟨n,e2,te,l,hd2,_⟩⟩:=h e he
   ·obtain⟨d',hd',h2⟩:=zg8 hT ht' h1
    rw [hd] at hd';cases hd'
    exact h2
   ·rw [ht] at ht'
    cases ht'
    rcases zdr hk' with ⟨k,n,e,_⟩ | ⟨b,e,_⟩ | ⟨s,e,_⟩ <;> rw [e] at hd2 <;> cases hd2
  obtain⟨r,h1,h2⟩:=zfY hkd es 0 all
  exact⟨r,h1,fun w=>run_findKey hd h2⟩
 ·have hk:zdO T kt k:=⟨ti,ht,.inr ⟨n,e,te,l,hd,he,hs,hv,hl,hn,hu⟩⟩
  obtain⟨r,h1,h2⟩:=zfq (P:=P) (kt:=kt) (k:=k) es 0 fun e he=>by
   obtain⟨r,g1,g2⟩:=key_equal hT hk (h e he)
   exact⟨r,g1,g2⟩
  refine⟨r,h1,fun w=>?_⟩
  obtain⟨ds,hds,hf⟩:=(hT kt ti ht).und
  rw [hd] at hf
  simp only [TD.fits] at hf
  subst hf
  cases es with
  | nil =>
   have:=h2 w
   simp only [Instr.findAsking,Sem.run_pure] at this
   simp only [Instr.findKey,Sem.run_bind,run_underlying hds,Result.andThen_ok,Instr.findNow,Sem.run_pure]
   exact this
  | cons e es =>
   simp only [Instr.findKey,Sem.run_bind,run_underlying hds,Result.andThen_ok,Instr.findNow,Instr.sameNow]
   exact h2 w
theorem check_rng {P:Program} (f:Nat→Sem PUnit) (len:Nat) (hf:∀ i w,i < len→(f i).run P w=.ok () w) (w:World):(forIn [:len] PUnit.unit (fun i _=>do f i;pure (ForInStep.yield PUnit.unit)):Sem PUnit).run P w=.ok () w:=by
 rw [Std.Legacy.Range.forIn_eq_forIn_range']
 simp only [Std.Legacy.Range.size]
 have aux:∀ (l:List Nat) (w:World),(∀ i∈l,i < len)→(forIn l PUnit.unit (fun i _=>do f i;pure (ForInStep.yield PUnit.unit)):Sem PUnit).run P w=.ok () w:=by
  intro l
  induction l with
  | nil=>intro w _;simp
  | cons i l ih =>
   intro w h
   rw [List.forIn_cons]
   simp only [Sem.run_bind,hf i _ (h i (by simp)),Result.andThen_ok,Sem.run_pure]
   exact ih w fun j hj=>h j (List.mem_cons_of_mem _ hj)
 refine aux _ w fun i hi=>?_
 simp at hi
 omega
theorem zds {P:Program} {T:Tab} (hT:zaD P T) {kt:TypeId} {k:Value} (hk:zdO T kt k) (em:Bool) (w:World):(Instr.checkKey em 10000 kt k).run P w=.ok () w:=by
 obtain⟨ti,ht,hk' | ⟨n,e,te,l,hd,he,hs,rfl,hl,hn,hu⟩⟩:=hk
 ·obtain⟨d,hd,hkd⟩:=zg8 hT ht hk'
  exact run_checkKey hd hkd em 9999
 ·obtain⟨ds,hds,hf⟩:=(hT kt ti ht).und
  rw [hd] at hf
  simp only [TD.fits] at hf
  subst hf
  have ty:=hT e te he
  have each:∀ i w,i < n→(do Instr.checkKey em 9999 e (← part e l.toArray (i * (← sizeOf e))):Sem PUnit).run P w=.ok () w:=by
   intro i w hi
   have hsz:=fun w=>ty.run_sizeOf w
   rw [Sem.run_bind,hsz]
   simp only [Result.andThen_ok]
   have hil:i < l.length:=by omega
   have hsc:=hu _ (List.getElem_mem hil)
   have hag:te.d.agg=false:=by rcases zdr hsc with ⟨k,n,e,_⟩ | ⟨b,e,_⟩ | ⟨s,e,_⟩ <;> rw [e] <;> rfl
   rw [Sem.run_bind,zdl ty (fun _=>hs) l _ (by rw [hs];omega) (fun _=>by rw [hs];omega)]
   simp only [Result.andThen_ok]
   have hv:vOf te ((l.drop (i * te.size)).take te.size)=l[i]:=by
    rw [hs,Nat.mul_one,List.drop_eq_getElem_cons hil]
    simp only [vOf,hag,Bool.false_eq_true,if_false,List.take_succ_cons,List.headD_cons]
   rw [hv]
   obtain⟨d,hd,hkd⟩:=zg8 hT he hsc
   exact run_checkKey hd hkd em 9998
  have:=check_rng (P:=P) _ n each w
  show (Instr.checkKey em (9999+1) kt _).run P w=_
  unfold Instr.checkKey
  simp only [Sem.run_bind,run_underlying hds,Result.andThen_ok]
  simp only [bind_assoc] at this
  rw [this]
  rfl
theorem sameBits_ok {T:Tab} {kt:TypeId} {k:Value} (hk:zdO T kt k):Instr.sameBits 10000 k k=true:=by
 have one:∀ (n:Nat) (d:TD) (v:Value),scB d v=true→Instr.sameBits n v v=true:=by
  intro n d v h
  rcases zdr h with ⟨k,m,e,rfl⟩ | ⟨b,e,rfl⟩ | ⟨s,e,rfl⟩ <;> cases n <;> simp [Instr.sameBits,bytes_beq]
 obtain⟨ti,ht,hk' | ⟨n,e,te,l,hd,he,hs,rfl,hl,hn,hu⟩⟩:=hk
 ·exact one _ _ _ hk'
 ·show Instr.sameBits (9999+1) _ _=true
  simp only [Instr.sameBits,beq_self_eq_true,Bool.true_and,List.all_eq_true]
  intro p hp
  obtain⟨i,hi,e1⟩:=List.mem_iff_getElem.1 hp
  simp only [List.getElem_zip] at e1
  subst e1
  have hi':i < l.length:=by simpa using hi
  exact one _ _ _ (hu _ (by simp))
theorem keyStays {P:Program} {T:Tab} {kt:TypeId} {k:Value} (hk:zdO T kt k) (w:World):(Instr.keyThatStays k k).run P w=.ok k w:=by
 simp [Instr.keyThatStays,sameBits_ok hk]
theorem set_same {α:Type} {l:List α} {i:Nat} {x:α} (h:l[i]?=some x):l.set i x=l:=by
 apply List.ext_getElem?
 intro j
 by_cases hij:i=j
 ·subst hij
  have:=(List.getElem?_eq_some_iff.1 h).1
  rw [List.getElem?_set_self this,h]
 ·rw [List.getElem?_set_ne hij]
def keyIs (x:AV) (v:Value):Prop:=x=.lit v∨∃ l:List Value,x=.agg (l.map .lit)∧v=.agg l.toArray
theorem zhB {w:World} {O:Nat→Prop} {m:Ids} {x:AV} {u v:Value} (h:keyIs x v) (hr:rep w O m x u):u=v:=by
 rcases h with rfl | ⟨l,rfl,rfl⟩
 ·simpa only [rep] using hr
 ·simp only [rep] at hr
  obtain⟨a,rfl,hr⟩:=hr
  rw [← zem hr]
def zeroIs (P:Program) (e:TypeId) (z:Value):Prop:=∃ i,P.info? e=some i∧i.zero=some z
def okR (ok:Bool) (r:AV) (b:Bool):AV:=if ok then .tup [r,.lit (.bool b)] else r
def ziH (ks:List Value) (v:Value):Prop:=∀ k∈ks,k≠v
def zj0 (ks:List Value) (v:Value) (n:Nat):Prop:=ks[n]?=some v∧∀ j,j < n→ks[j]?≠some v
def wlookup (P:Program) (T:Tab) (t:TypeId) (x i:AV) (ok:Bool) (σ:zaa) (K:AV→Prop):Prop :=
 ∃ ti kt et v,T t=some ti∧ti.d=.map kt et∧keyIs i v∧zdO T kt v∧match x with
 | .mpt id=>match σ[id]? with
  | some (.mpb ks vs)=>(∀ k∈ks,zdO T kt k)∧((∃ n r,zj0 ks v n∧vs[n]?=some r∧K (okR ok r true))∨(ziH ks v∧∃ z,zeroIs P et z∧K (okR ok (zc9 z) false)))
  | _=>False
 | _=>False
theorem zhC {ks:List Value} {es:List MapEntry} (hk:es.map (·.key)=ks) {v:Value} {r:Option (Nat × Value)} (h:zgt v es 0 r) :
  (ziH ks v∧r=none)∨∃ n e,zj0 ks v n∧es[n]?=some e∧r=some (n,e.val):=by
 subst hk
 cases r with
 | none =>
  refine .inl ⟨fun k hk=>?_,rfl⟩
  obtain⟨e,he,rfl⟩:=List.mem_map.1 hk
  exact h e he
 | some q =>
  obtain⟨j,e,rfl,h1,h2,h3⟩:=h
  refine .inr ⟨j,e,⟨by rw [List.getElem?_map,h1];simp [h2],fun j' hj hc=>?_⟩,h1,by simp⟩
  rw [List.getElem?_map,Option.map_eq_some_iff] at hc
  obtain⟨e',g1,g2⟩:=hc
  exact h3 j' e' hj g1 g2
theorem zgu {ks:List Value} {v:Value} {n n':Nat} (h:zj0 ks v n) (h':zj0 ks v n'):n=n':=by
 rcases Nat.lt_trichotomy n n' with hlt | he | hlt
 ·exact absurd h.1 (h'.2 n hlt)
 ·exact he
 ·exact absurd h'.1 (h.2 n' hlt)
theorem zcv {ks:List Value} {v:Value} {n:Nat} (h:zj0 ks v n) (h':ziH ks v):False :=
 h' v (List.mem_of_getElem? h.1) rfl
theorem zero_run {P:Program} {e:TypeId} {z:Value} (h:zeroIs P e z) (w:World):(zeroValue e).run P w=.ok z w:=by
 obtain⟨i,h1,h2⟩:=h
 simp [zeroValue,typeInfo,h1,h2]
theorem wlookup_sound {P:Program} {T:Tab} (hT:zaD P T) {w:World} {m:Ids} {σ:zaa} (hs:St H w m σ) {t:TypeId} {x i:AV} {ok:Bool} {a b:Value} {K:AV→Prop} (h:wlookup P T t x i ok σ K) (hx:rep w (own H m σ) m x a) (hi:rep w (own H m σ) m i b) :
  ∃ v r,(Instr.lookup t a b ok).run P w=.ok v w∧rep w (own H m σ) m r v∧K r:=by
 obtain⟨ti,kt,et,v,ht,hd,hki,hko,h⟩:=h
 have hb:=zhB hki hi
 subst hb
 obtain⟨ds,hds,hf⟩:=(hT t ti ht).und
 rw [hd] at hf
 simp only [TD.fits] at hf
 subst hf
 split at h
 ·rename_i id
  split at h
  ·rename_i ks vs hblk
   obtain⟨hall,h⟩:=h
   simp only [rep] at hx
   obtain⟨g,rfl,hm⟩:=hx
   obtain⟨g',e,es,c,h1,h2,h3,h4⟩:=hs.blk id _ _ hblk hm
   cases e
   obtain⟨r,hr1,hr2⟩:=zep hT (es:=es.toList) hko (fun e he=>hall _ (by rw [← h2];exact List.mem_map.2 ⟨e,he,rfl⟩))
   have hrun:(Instr.lookup t (.map (some g)) b ok).run P w=(do
     let (v,o) ← match r with
      | some (_,v)=>pure (v,true)
      | none=>pure (← zeroValue et,false)
     pure (if ok then .tuple #[v,.bool o] else v):Sem Value).run P w:=by
    simp only [Instr.lookup,Sem.run_bind,run_underlying hds,Result.andThen_ok,MapKept.run_getObj_map (P:=P) h1,Sem.run_pure,zds hT hko,hr2]
    cases r <;> rfl
   rw [hrun]
   rcases zhC h2 hr1 with ⟨n1,rfl⟩ | ⟨n,e,n1,n2,rfl⟩
   ·rcases h with ⟨n,r,n2,_⟩ | ⟨_,z,hz,hk⟩
    ·exact(zcv n2 n1).elim
    ·simp only [Sem.run_bind,zero_run hz,Result.andThen_ok,Sem.run_pure]
     refine⟨_,_,rfl,?_,hk⟩
     have hzr:rep w (own H m σ) m (zc9 z) z:=by
      unfold zc9
      split
      ·rename_i cs
       simp only [rep]
       exact⟨cs,rfl,by simpa [zaE] using zcB (w:=w) (O:=own H m σ) (m:=m) cs.toList⟩
      ·simp only [rep]
     cases ok with
     | true =>
      simp only [okR,if_true,rep,reps]
      exact⟨_,rfl,_,_,rfl,hzr,_,_,rfl,rfl,rfl⟩
     | false=>simpa [okR] using hzr
   ·rcases h with ⟨n',r,n3,n4,hk⟩ | ⟨n3,_⟩
    ·have:=zgu n1 n3
     subst this
     simp only [Sem.run_bind,Sem.run_pure,Result.andThen_ok]
     refine⟨_,_,rfl,?_,hk⟩
     obtain⟨u,hu,hru⟩:=zaL h3 n r n4
     rw [List.getElem?_map,n2] at hu
     simp only [Option.map_some,Option.some.injEq] at hu
     subst hu
     cases ok with
     | true =>
      simp only [okR,if_true,rep,reps]
      exact⟨_,rfl,_,_,rfl,hru,_,_,rfl,rfl,rfl⟩
     | false=>simpa [okR] using hru
    ·exact(zcv n1 n3).elim
  ·exact h.elim
 ·exact h.elim
def wmapUpd (T:Tab) (t:TypeId) (x i y:AV) (σ:zaa) (K:AV→zaa→Prop):Prop :=
 ∃ ti kt et v,T t=some ti∧ti.d=.map kt et∧keyIs i v∧zdO T kt v∧match x with
 | .mpt id=>match σ[id]? with
  | some (.mpb ks vs)=>(∀ k∈ks,zdO T kt k)∧((∃ n,zj0 ks v n∧K (.lit undef) (σ.set id (.mpb ks (vs.set n y))))∨(ziH ks v∧K (.lit undef) (σ.set id (.mpb (ks++[v]) (vs++[y])))))
  | _=>False
 | _=>False
theorem born_push {es:Array MapEntry} {c:Nat} {k v:Value} (h:(es.toList.map (·.born)).Nodup∧∀ e∈es.toList,e.born < c):((es.push { key:=k,val:=v,born:=c }).toList.map (·.born)).Nodup∧∀ e∈(es.push { key:=k,val:=v,born:=c }).toList,e.born < c+1:=by
 simp only [Array.toList_push,List.map_append,List.map_cons,List.map_nil]
 refine⟨List.nodup_append.2 ⟨h.1,by simp,fun a ha b hb=>?_⟩,fun e he=>?_⟩
 ·obtain⟨e,he,rfl⟩:=List.mem_map.1 ha
  have:=h.2 e he
  simp only [List.mem_singleton] at hb
  omega
 ·rcases List.mem_append.1 he with he | he
  ·have:=h.2 e he;omega
  ·simp only [List.mem_singleton] at he
   subst he
   exact Nat.lt_succ_self _
theorem born_set {es:List MapEntry} {c n:Nat} {e e':MapEntry} (h:(es.map (·.born)).Nodup∧∀ e∈es,e.born < c) (hn:es[n]?=some e) (hb:e'.born=e.born):((es.set n e').map (·.born)).Nodup∧∀ x∈es.set n e',x.born < c:=by
 have e1:(es.set n e').map (·.born)=es.map (·.born):=by
  rw [List.map_set,hb]
  exact set_same (by rw [List.getElem?_map,hn];rfl)
 refine⟨by rw [e1];exact h.1,fun x hx=>?_⟩
 rcases List.mem_or_eq_of_mem_set hx with h1 | rfl
 ·exact h.2 x h1
 ·rw [hb]
  exact h.2 e (List.mem_of_getElem? hn)
theorem St.mapTurn {w:World} {m:Ids} {σ:zaa} (hs:St H w m σ) {i g:Nat} {ks ks':List Value} {vs vs':List AV} (hi:σ[i]?=some (.mpb ks vs)) (hm:m[i]?=some (some g)) {es es':Array MapEntry} {c c':Nat} (hL:w.heap[g]?=some (.map es c)) (hk:es'.toList.map (·.key)=ks') (hbn:(es'.toList.map (·.born)).Nodup∧∀ e∈es'.toList,e.born < c')
  (hv:∀ (w':World) (O':Nat→Prop),Ext H w (own H m σ) m w' O' m→reps w' O' m vs' (es'.toList.map (·.val))) :
  St H { w with heap:=w.heap.setIfInBounds g (.map es' c') } m (σ.set i (.mpb ks' vs'))∧Ext H w (own H m σ) m { w with heap:=w.heap.setIfInBounds g (.map es' c') } (own H m (σ.set i (.mpb ks' vs'))) m:=by
 have hlt:=(Array.getElem?_eq_some_iff.1 hL).1
 refine hs.turn hi rfl rfl hm (by simp) (fun b hb=>by simp [Ne.symm hb]) rfl rfl rfl ?_ ?_
 ·rintro c ⟨e,f,h1⟩
  rw [hL] at h1
  cases h1
 ·intro hext
  exact⟨g,rfl,es',c',by simp [hlt],hk,hv _ _ hext,hbn⟩
theorem reps_push {w:World} {O:Nat→Prop} {m:Ids} {l:List AV} {vs:List Value} {x:AV} {v:Value} (h:reps w O m l vs) (hx:rep w O m x v):reps w O m (l++[x]) (vs++[v]) :=
 zby h (by simp only [reps];exact⟨v,[],rfl,hx,rfl⟩)
theorem zfZ {P:Program} {T:Tab} (hT:zaD P T) {w:World} {m:Ids} {σ:zaa} (hs:St H w m σ) {t:TypeId} {x i y:AV} {a b d:Value} {K:AV→zaa→Prop} (h:wmapUpd T t x i y σ K) (hx:rep w (own H m σ) m x a) (hi:rep w (own H m σ) m i b) (hy:rep w (own H m σ) m y d) :
  ∃ w' m' σ', (Instr.mapUpdate t a b d).run P w = .ok () w' ∧ St H w' m' σ' ∧ Ext H w (own H m σ) m w' (own H m' σ') m' ∧ K (.lit undef) σ' := by
 obtain⟨ti,kt,et,v,ht,hd,hki,hko,h⟩:=h
 have hb:=zhB hki hi
 subst hb
 obtain⟨ds,hds,hf⟩:=(hT t ti ht).und
 rw [hd] at hf
 simp only [TD.fits] at hf
 subst hf
 split at h
 ·rename_i id
  split at h
  ·rename_i ks vs hblk
   obtain⟨hall,h⟩:=h
   simp only [rep] at hx
   obtain⟨g,rfl,hm⟩:=hx
   obtain⟨g',e,es,c,h1,h2,h3,h4⟩:=hs.blk id _ _ hblk hm
   cases e
   obtain⟨r,hr1,hr2⟩:=zep hT (es:=es.toList) hko (fun e he=>hall _ (by rw [← h2];exact List.mem_map.2 ⟨e,he,rfl⟩))
   rcases zhC h2 hr1 with ⟨n1,rfl⟩ | ⟨n,e,n1,n2,rfl⟩
   ·rcases h with ⟨n,n2,_⟩ | ⟨_,hk⟩
    ·exact(zcv n2 n1).elim
    ·obtain⟨s1,x1⟩:=hs.mapTurn (es':=es.push { key:=b,val:=d,born:=c }) (c':=c+1) (ks':=ks++[b]) (vs':=vs++[y]) hblk hm h1 (by simp [h2]) (born_push h4) (fun w' O' hext=>by
      simp only [Array.toList_push,List.map_append,List.map_cons,List.map_nil]
      exact reps_push (zah hext _ _ h3) (zaP hext _ _ hy))
     refine⟨_,m,_,?_,s1,x1,hk⟩
     simp only [Instr.mapUpdate,Sem.run_bind,run_underlying hds,Result.andThen_ok,MapKept.run_getObj_map (P:=P) h1,zds hT hko,hr2,MapKept.run_setObj_map (P:=P) _ h1]
   ·rcases h with ⟨n',n3,hk⟩ | ⟨n3,_⟩
    ·have:=zgu n1 n3
     subst this
     have hn:n < es.size:=by
      have:=(List.getElem?_eq_some_iff.1 n2).1
      simpa using this
     have hen:es[n]?=some e:=by rw [← Array.getElem?_toList];exact n2
     have hkey:e.key=b:=by
      have:=n1.1
      rw [← h2,List.getElem?_map,n2] at this
      simpa using this
     have htl:(es.modify n fun e=>{ e with key:=b,val:=d }).toList=es.toList.set n { e with key:=b,val:=d }:=by
      apply List.ext_getElem?
      intro j
      rw [Array.getElem?_toList,Array.getElem?_modify,List.getElem?_set]
      by_cases hj:n=j
      ·subst hj
       have hn':n < es.toList.length:=by simpa using hn
       simp only [if_true,hen,Option.map_some,hn']
      ·simp [hj]
     obtain⟨s1,x1⟩:=hs.mapTurn (es':=es.modify n fun e=>{ e with key:=b,val:=d }) (c':=c) (ks':=ks) (vs':=vs.set n y) hblk hm h1 (by
      rw [htl,List.map_set,h2]
      exact set_same n1.1) (by rw [htl];exact born_set h4 n2 rfl) (fun w' O' hext=>by
      rw [htl,List.map_set]
      exact zcW (zah hext _ _ h3) n (zaP hext _ _ hy))
     refine⟨_,m,_,?_,s1,x1,hk⟩
     simp only [Instr.mapUpdate,Sem.run_bind,run_underlying hds,Result.andThen_ok,MapKept.run_getObj_map (P:=P) h1,zds hT hko,hr2,hen,Option.map_some,Option.getD_some,hkey,keyStays hko,MapKept.run_setObj_map (P:=P) _ h1]
    ·exact(zcv n1 n3).elim
  ·exact h.elim
 ·exact h.elim
theorem wmakeMap_sound {P:Program} {w:World} {m:Ids} {σ:zaa} (hs:St H w m σ) {t:TypeId} {K:AV→zaa→Prop} (h:K (.mpt σ.length) (σ++[.mpb [] []])) :
  ∃ v w' r m' σ', (Instr.makeMap t none).run P w = .ok v w' ∧ St H w' m' σ' ∧ Ext H w (own H m σ) m w' (own H m' σ') m' ∧ rep w' (own H m' σ') m' r v ∧ K r σ' := by
 obtain⟨s1,x1⟩:=hs.more (w':=w.alloc (.map #[] 0)) (g:=some w.heap.size) (x:=.mpb [] []) (by simp) (fun b hb=>RowKit.Below.heap_alloc _ _ _ hb) rfl rfl rfl (fun b hb=>by cases hb;omega)
  (fun hext=>⟨_,rfl,#[],0,(MapKept.heap_alloc w _).1,rfl,by simp [reps],by simp⟩)
 refine⟨.map (some w.heap.size),w.alloc (.map #[] 0),_,_,_,?_,s1,x1,?_,h⟩
 ·simp [Instr.makeMap]
 ·simp only [rep]
  exact⟨_,rfl,by rw [← hs.len];simp⟩
end Go.Eng
end

section
/-
 Maps that are gone through,in whatever order: who goes through one has it alone from then on. No condition.
-/
namespace Go.Eng
open Go Go.MapKept
variable {H : Nat → Prop}
def wrangeM (T:Tab) (t:TypeId) (x:AV) (σ:zaa) (K:AV→zaa→Prop):Prop :=
 ∃ ti kt et,T t=some ti∧ti.d=.map kt et∧match x with
 | .mpt id=>match σ[id]? with
  | some (.mpb ks vs)=>K (.ptr σ.length 0) (σ.set id .dead++[.mpi ks vs []])
  | _=>False
 | _=>False
theorem not_own_dead {w:World} {m:Ids} {σ:zaa} (hs:St H w m σ) {id g:Nat} {x:Blk} (hi:σ[id]?=some x) (hx:x.owned=true) (hm:m[id]?=some (some g)):¬ own H m (σ.set id .dead) g:=by
 rintro(hH | ⟨a,ca,⟨ha,hao⟩,hma⟩)
 ·exact(hs.hid g hH).2 id _ ⟨hi,hx⟩ hm
 ·by_cases hia:id=a
  ·subst hia
   have hil:id < σ.length:=(List.getElem?_eq_some_iff.1 hi).1
   simp [hil] at ha
   subst ha
   cases hao
  ·rw [List.getElem?_set_ne hia] at ha
   exact hia (hs.inj id a _ ca g ⟨hi,hx⟩ ⟨ha,hao⟩ hm hma)
theorem wrangeM_sound {P:Program} {T:Tab} (hT:zaD P T) {w:World} {m:Ids} {σ:zaa} (hs:St H w m σ) {t:TypeId} {x:AV} {a:Value} {K:AV→zaa→Prop} (h:wrangeM T t x σ K) (hx:rep w (own H m σ) m x a) :
  ∃ v w' r m' σ', (Instr.range t a).run P w = .ok v w' ∧ St H w' m' σ' ∧ Ext H w (own H m σ) m w' (own H m' σ') m' ∧ rep w' (own H m' σ') m' r v ∧ K r σ' := by
 obtain⟨ti,kt,et,ht,hd,h⟩:=h
 obtain⟨ds,hds,hf⟩:=(hT t ti ht).und
 rw [hd] at hf
 simp only [TD.fits] at hf
 subst hf
 split at h
 ·rename_i id
  split at h
  ·rename_i ks vs hblk
   simp only [rep] at hx
   obtain⟨g,rfl,hm⟩:=hx
   obtain⟨g',e,es,c,h1,h2,h3,h4⟩:=hs.blk id _ _ hblk hm
   cases e
   have hlt:=(Array.getElem?_eq_some_iff.1 h1).1
   obtain⟨s1,x1⟩:=hs.letgo (i:=id) (x:=.dead) (.inl rfl)
   have hno:=not_own_dead hs hblk rfl hm
   obtain⟨s2,x2⟩:=s1.more (w':=w.alloc (.mapIter (some g) c #[] c)) (g:=some w.heap.size) (x:=.mpi ks vs []) (by simp) (fun b hb=>RowKit.Below.heap_alloc _ _ _ hb) rfl rfl rfl (fun b hb=>by cases hb;omega)
    (fun hext=>⟨_,rfl,g,es,c,heap_alloc_new w _,⟨fun ho=>(hext.own g ho).elim hno (fun h=>by omega),by simp;omega,by rw [RowKit.Below.heap_alloc _ _ _ hlt];exact h1⟩,h2,zah hext _ _ (zah x1 _ _ h3),h4⟩)
   refine⟨.pointer (some ⟨w.heap.size,0,none⟩),w.alloc (.mapIter (some g) c #[] c),_,_,_,?_,s2,x1.trans x2,?_,h⟩
   ·simp only [Instr.range,Sem.run_bind,run_underlying hds,Result.andThen_ok,MapKept.run_getObj_map (P:=P) h1,Sem.run_pure]
    rfl
   ·simp only [rep]
    exact⟨_,rfl,by rw [← hs.len];simp⟩
  ·exact h.elim
 ·exact h.elim
def wnextM (x:AV) (str:Bool) (σ:zaa) (K:AV→zaa→Prop):Prop :=
 str=false∧match x with
 | .ptr id 0=>match σ[id]? with
  | some (.mpi ks vs sn)=>((∀ j,j < ks.length→j∈sn)→K (.tup [.lit (.bool false)]) σ)∧∀ j k v,j ∉ sn→ks[j]?=some k→vs[j]?=some v→K (.tup [.lit (.bool true),zc9 k,v]) (σ.set id (.mpi ks vs (sn++[j])))
  | _=>False
 | _=>False
theorem rep_ofVal {w:World} {O:Nat→Prop} {m:Ids} (z:Value):rep w O m (zc9 z) z:=by
 unfold zc9
 split
 ·rename_i cs
  simp only [rep]
  exact⟨cs,rfl,by simpa [zaE] using zcB (w:=w) (O:=O) (m:=m) cs.toList⟩
 ·simp only [rep]
theorem born_inj {l:List MapEntry} (hn:(l.map (·.born)).Nodup) {i j:Nat} {a b:MapEntry} (hi:l[i]?=some a) (hj:l[j]?=some b) (h:a.born=b.born):i=j:=by
 have h1:(l.map (·.born))[i]?=some a.born:=by rw [List.getElem?_map,hi];rfl
 have h2:(l.map (·.born))[j]?=some a.born:=by rw [List.getElem?_map,hj,h];rfl
 obtain⟨k1,e1⟩:=List.getElem?_eq_some_iff.1 h1
 obtain⟨k2,e2⟩:=List.getElem?_eq_some_iff.1 h2
 exact(List.getElem_inj hn).1 (e1.trans e2.symm)
theorem wnextM_sound {P:Program} {w:World} {m:Ids} {σ:zaa} (hs:St H w m σ) {ty:TypeId} {x:AV} {str:Bool} {a:Value} {K:AV→zaa→Prop} (h:wnextM x str σ K) (hx:rep w (own H m σ) m x a) :
  ∃ v w' r m' σ', (Instr.next a str ty).run P w = .ok v w' ∧ St H w' m' σ' ∧ Ext H w (own H m σ) m w' (own H m' σ') m' ∧ rep w' (own H m' σ') m' r v ∧ K r σ' := by
 obtain⟨rfl,h⟩:=h
 split at h
 ·rename_i id
  split at h
  ·rename_i ks vs sn hblk
   simp only [rep] at hx
   obtain⟨g,rfl,hm⟩:=hx
   obtain⟨g',e,gm,es,c,h1,⟨h2,h3,h4⟩,h5,h6,h7,h8⟩:=hs.blk id _ _ hblk hm
   cases e
   have hlt:=(Array.getElem?_eq_some_iff.1 h1).1
   have hmem:∀ i e,es.toList[i]?=some e→(((sn.filterMap fun i=>(es.toList[i]?).map (·.born)).toArray.contains e.born)=true ↔ i∈sn):=by
    intro i e hi
    rw [Array.contains_iff_mem,List.mem_toArray,List.mem_filterMap]
    constructor
    ·rintro⟨i',hi',h9⟩
     obtain⟨e',h10,h11⟩:=Option.map_eq_some_iff.1 h9
     rw [born_inj h7 hi h10 h11.symm]
     exact hi'
    ·exact fun hi'=>⟨i,hi',by rw [hi];rfl⟩
   rcases run_next_at (P:=P) w ty g gm c c _ es c h1 h4 h8 (Nat.le_refl _) with ⟨hz,hr⟩ | ⟨e,he,w1,hw1,hr⟩
   ·refine⟨_,w,_,m,σ,hr,hs,Ext.refl _ _ _,?_,h.1 fun j hj=>?_⟩
    ·simp only [rep,reps]
     exact⟨_,rfl,_,_,rfl,rfl,rfl⟩
    ·rw [← h5,List.length_map] at hj
     have hej:es.toList[j]?=some es.toList[j]:=List.getElem?_eq_getElem hj
     refine(hmem j _ hej).1 ?_
     have:leftOf es (sn.filterMap fun i=>(es.toList[i]?).map (·.born)).toArray=#[]:=Array.eq_empty_of_size_eq_zero hz
     unfold leftOf at this
     rw [Array.filter_eq_empty_iff] at this
     have:=this es.toList[j] (Array.mem_toList_iff.1 (List.getElem_mem hj))
     simpa using this
   ·have he2:e∈es.toList∧(sn.filterMap fun i=>(es.toList[i]?).map (·.born)).toArray.contains e.born=false:=by
     unfold leftOf at he
     simpa using he
    obtain⟨j,hj⟩:=List.getElem?_of_mem he2.1
    have hjn:j ∉ sn:=fun hc=>by
     have:=(hmem j e hj).2 hc
     rw [he2.2] at this
     cases this
    have hkj:ks[j]?=some e.key:=by rw [← h5,List.getElem?_map,hj];rfl
    obtain⟨v,hvj,hv⟩:∃ v,vs[j]?=some v∧rep w (own H m σ) m v e.val:=by
     have hvj:(es.toList.map (·.val))[j]?=some e.val:=by rw [List.getElem?_map,hj];rfl
     have hlen:=zan h6
     have hjl:j < vs.length:=by rw [← hlen];exact(List.getElem?_eq_some_iff.1 hvj).1
     obtain⟨u,hu,hru⟩:=zaL h6 j vs[j] (List.getElem?_eq_getElem hjl)
     rw [hvj] at hu
     cases hu
     exact⟨_,List.getElem?_eq_getElem hjl,hru⟩
    have hw1h:w1.heap=w.heap∧w1.os=w.os∧w1.tape=w.tape∧w1.output=w.output:=by
     rcases hw1 with rfl | rfl <;> exact⟨rfl,rfl,rfl,rfl⟩
    have hsn:((sn++[j]).filterMap fun i=>(es.toList[i]?).map (·.born)).toArray=((sn.filterMap fun i=>(es.toList[i]?).map (·.born)).toArray.push e.born):=by
     rw [List.filterMap_append,List.filterMap_cons,hj]
     simp
    have hgm:gm≠g:=by
     rintro rfl
     rw [h1] at h4
     cases h4
    obtain⟨s1,x1⟩:=hs.turn (w':=ChangeMaps.setBlock w1 g (.mapIter (some gm) c ((sn.filterMap fun i=>(es.toList[i]?).map (·.born)).toArray.push e.born) c)) (x':=.mpi ks vs (sn++[j])) hblk rfl rfl hm (by simp [ChangeMaps.setBlock,hw1h.1]) (fun b hb=>by simp [ChangeMaps.setBlock,hw1h.1,Ne.symm hb]) hw1h.2.1 hw1h.2.2.1 hw1h.2.2.2
     (by rintro c' ⟨e',f,k1⟩;rw [h1] at k1;cases k1)
     (fun hext=>⟨g,rfl,gm,es,c,by rw [hsn];simp [ChangeMaps.setBlock,hw1h.1,hlt],⟨h2,by simp [ChangeMaps.setBlock,hw1h.1];exact h3,by simp [ChangeMaps.setBlock,hw1h.1,Ne.symm hgm,h4]⟩,h5,zah hext _ _ h6,h7,h8⟩)
    refine⟨_,_,_,_,_,hr,s1,x1,?_,h.2 j e.key v hjn hkj hvj⟩
    simp only [rep,reps]
    exact⟨_,rfl,_,_,rfl,rfl,_,_,rfl,rep_ofVal _,_,_,rfl,zaP x1 _ _ hv,rfl⟩
  ·exact h.elim
 ·exact h.elim
def wentryM (x:AV) (σ:zaa) (K:AV→Prop):Prop :=
 match x with
 | .ptr id 0=>match σ[id]? with
  | some (.mpi ks vs sn)=>∃ sn' j k v,sn=sn'++[j]∧ks[j]?=some k∧vs[j]?=some v∧K (.tup [zc9 k,v])
  | _=>False
 | _=>False
theorem wentryM_sound {P:Program} {w:World} {m:Ids} {σ:zaa} (hs:St H w m σ) {x:AV} {a:Value} {K:AV→Prop} (h:wentryM x σ K) (hx:rep w (own H m σ) m x a) :
  ∃ v r,(Instr.entry a).run P w=.ok v w∧rep w (own H m σ) m r v∧K r:=by
 unfold wentryM at h
 split at h
 ·rename_i id
  split at h
  ·rename_i ks vs sn hblk
   obtain⟨sn',j,k,v,rfl,hk,hv,hK⟩:=h
   simp only [rep] at hx
   obtain⟨g,rfl,hm⟩:=hx
   obtain⟨g',e,gm,es,c,h1,⟨h2,h3,h4⟩,h5,h6,h7,h8⟩:=hs.blk id _ _ hblk hm
   cases e
   obtain⟨e,hej,rfl⟩:∃ e,es.toList[j]?=some e∧e.key=k:=by
    rw [← h5,List.getElem?_map] at hk
    exact Option.map_eq_some_iff.1 hk
   have hsn:((sn'++[j]).filterMap fun i=>(es.toList[i]?).map (·.born)).toArray=((sn'.filterMap fun i=>(es.toList[i]?).map (·.born)).toArray.push e.born):=by
    rw [List.filterMap_append,List.filterMap_cons,hej]
    simp
   rw [hsn] at h1
   obtain⟨u,hu,hru⟩:=zaL h6 j v hv
   rw [List.getElem?_map,hej] at hu
   simp only [Option.map_some,Option.some.injEq] at hu
   subst hu
   refine⟨_,_,run_entry_at w g gm c _ es c e h1 h4 (List.mem_of_getElem? hej) h7,?_,hK⟩
   simp only [rep,reps]
   exact⟨_,rfl,_,_,rfl,rep_ofVal _,_,_,rfl,hru,rfl⟩
  ·exact h.elim
 ·exact h.elim
def wdelete (T:Tab) (ts:Array TypeId) (x i:AV) (σ:zaa) (K:AV→zaa→Prop):Prop :=
 ∃ t ti kt et v,ts[0]?=some t∧T t=some ti∧ti.d=.map kt et∧keyIs i v∧zdO T kt v∧match x with
 | .mpt id=>match σ[id]? with
  | some (.mpb ks vs)=>(∀ k∈ks,zdO T kt k)∧((∃ n,zj0 ks v n∧K (.tup []) (σ.set id (.mpb (ks.eraseIdx n) (vs.eraseIdx n))))∨(ziH ks v∧K (.tup []) (σ.set id (.mpb ks vs))))
  | _=>False
 | _=>False
theorem ziI {w:World} {O:Nat→Prop} {m:Ids}:∀ {l:List AV} {vs:List Value} (n:Nat),reps w O m l vs→reps w O m (l.eraseIdx n) (vs.eraseIdx n)
 | [],vs,n,h=>by
  simp only [reps] at h
  subst h
  simp [reps]
 | x::l,vs,n,h=>by
  simp only [reps] at h
  obtain⟨v,r,rfl,h1,h2⟩:=h
  cases n with
  | zero=>simpa using h2
  | succ n =>
   simp only [List.eraseIdx_cons_succ,reps]
   exact⟨v,_,rfl,h1,ziI n h2⟩
theorem wdelete_sound {P:Program} {T:Tab} (hT:zaD P T) {w:World} {m:Ids} {σ:zaa} (hs:St H w m σ) {ts:Array TypeId} {ty:TypeId} {x i:AV} {a b:Value} {K:AV→zaa→Prop} (h:wdelete T ts x i σ K) (hx:rep w (own H m σ) m x a) (hi:rep w (own H m σ) m i b) :
  ∃ v w' r m' σ', (Builtin.delete_ ts ty #[a, b]).run P w = .ok v w' ∧ St H w' m' σ' ∧ Ext H w (own H m σ) m w' (own H m' σ') m' ∧ rep w' (own H m' σ') m' r v ∧ K r σ' := by
 obtain⟨t,ti,kt,et,v,hts,ht,hd,hki,hko,h⟩:=h
 have hb:=zhB hki hi
 subst hb
 obtain⟨ds,hds,hf⟩:=(hT t ti ht).und
 rw [hd] at hf
 simp only [TD.fits] at hf
 subst hf
 have h0:(#[a,b]:Array Value)[0]?=some a:=rfl
 have h1':(#[a,b]:Array Value)[1]?=some b:=rfl
 split at h
 ·rename_i id
  split at h
  ·rename_i ks vs hblk
   obtain⟨hall,h⟩:=h
   simp only [rep] at hx
   obtain⟨g,rfl,hm⟩:=hx
   obtain⟨g',e,es,c,h1,h2,h3,h4⟩:=hs.blk id _ _ hblk hm
   cases e
   obtain⟨r,hr1,hr2⟩:=zep hT (es:=es.toList) hko (fun e he=>hall _ (by rw [← h2];exact List.mem_map.2 ⟨e,he,rfl⟩))
   rcases zhC h2 hr1 with ⟨n1,rfl⟩ | ⟨n,e,n1,n2,rfl⟩
   ·rcases h with ⟨n,n2,_⟩ | ⟨_,hk⟩
    ·exact(zcv n2 n1).elim
    ·obtain⟨s1,x1⟩:=hs.mapTurn (es':=es) (c':=c) (ks':=ks) (vs':=vs) hblk hm h1 h2 h4 (fun w' O' hext=>zah hext _ _ h3)
     refine⟨.tuple #[],_,.tup [],m,_,?_,s1,x1,by simp only [rep,reps];exact⟨_,rfl,rfl⟩,hk⟩
     simp only [Builtin.delete_,hts,h0,h1',Sem.run_bind,run_underlying hds,Result.andThen_ok,MapKept.run_getObj_map (P:=P) h1,zds hT hko,hr2,MapKept.run_setObj_map (P:=P) _ h1,Sem.run_pure]
   ·rcases h with ⟨n',n3,hk⟩ | ⟨n3,_⟩
    ·have:=zgu n1 n3
     subst this
     have htl:(es.eraseIdxIfInBounds n).toList=es.toList.eraseIdx n:=Array.toList_eraseIdxIfInBounds
     have hsub:List.Sublist (es.toList.eraseIdx n) es.toList:=List.eraseIdx_sublist _ _
     obtain⟨s1,x1⟩:=hs.mapTurn (es':=es.eraseIdxIfInBounds n) (c':=c) (ks':=ks.eraseIdx n) (vs':=vs.eraseIdx n) hblk hm h1 (by rw [htl,← h2,ChangeMaps.map_eraseIdx]) (by
      rw [htl]
      exact⟨(hsub.map _).nodup h4.1,fun e he=>h4.2 e (hsub.subset he)⟩) (fun w' O' hext=>by
      rw [htl,ChangeMaps.map_eraseIdx]
      exact ziI n (zah hext _ _ h3))
     refine⟨.tuple #[],_,.tup [],m,_,?_,s1,x1,by simp only [rep,reps];exact⟨_,rfl,rfl⟩,hk⟩
     simp only [Builtin.delete_,hts,h0,h1',Sem.run_bind,run_underlying hds,Result.andThen_ok,MapKept.run_getObj_map (P:=P) h1,zds hT hko,hr2,MapKept.run_setObj_map (P:=P) _ h1,Sem.run_pure]
    ·exact(zcv n1 n3).elim
  ·exact h.elim
 ·exact h.elim
end Go.Eng
end

section
/-
 A method of an interface value,and what it is handed,where that may be looked up in the store. No condition.
-/
namespace Go.Eng
open Go
def MethIn [Globs] (P:Program) (t:TypeId) (v:AV) (name:String) (σ:zaa) (f:FuncId) (a:AV):Prop :=
 ∀ (H:Nat→Prop) (w:World) (m:Ids) (u:Value),St H w m σ→rep w (own H m σ) m v u→∃ r,(method (P.types.size+Made.depth) t u name).run P w=.ok (f,r) w∧rep w (own H m σ) m a r
theorem MethIs.at' [Globs] {P:Program} {t:TypeId} {v:AV} {name:String} {f:FuncId} {a:AV} {σ:zaa} (h:MethIs P t v name f a):MethIn P t v name σ f a:=fun H w m u _ hu=>h w _ m u hu
def mrowP (P:Program) (t e:TypeId) (name:String) (f:FuncId):Bool :=
 match P.info? t,P.underlying t with
 | some i,some (.pointer el)=>(match i.methods.find? (·.name == name) with
  | some m=>m.path.isEmpty && (match m.func with | some (g,p)=>g == f && !p | none=>false)
  | none=>false) && el == e
 | _,_=>false
theorem wrapnil (ts:Array TypeId) (t:TypeId) (a:Addr) (x y:ByteArray):Builtin.ssaWrapNilChk_ ts t #[.pointer (some a),.string x,.string y]=pure (.pointer (some a)):=rfl
theorem mrowP_ok [Globs] {P:Program} {T:Tab} (hT:zaD P T) {t e:TypeId} {name:String} {f:FuncId} {id off:Nat} {σ:zaa} {r:AV} (h:mrowP P t e name f=true) (hl:zen T e (.ptr id off) σ (fun x=>x=r)):MethIn P t (.ptr id off) name σ f r:=by
 intro H w m u hs hu
 obtain⟨v,r',h1,h2,rfl⟩:=zfs hT hs hl hu
 refine⟨v,?_,h2⟩
 have hu0:=hu
 simp only [rep] at hu0
 obtain⟨g,rfl,_⟩:=hu0
 unfold mrowP at h
 split at h
 ·rename_i i el hi hd
  simp only [Bool.and_eq_true,beq_iff_eq] at h
  obtain⟨h3,rfl⟩:=h
  split at h3
  ·rename_i mt hm
   simp only [Bool.and_eq_true] at h3
   obtain⟨h0,h3⟩:=h3
   split at h3
   ·rename_i g' p hf
    simp only [Bool.and_eq_true,beq_iff_eq,Bool.not_eq_true'] at h3
    obtain⟨rfl,rfl⟩:=h3
    have hpath:mt.path.toList=[]:=by
     have:mt.path=#[]:=by simpa using h0
     rw [this]
    have hti:(typeInfo t).run P w=.ok i w:=by simp [typeInfo,hi]
    rw [show P.types.size+Made.depth=(P.types.size+Made.depth - 1)+1 by simp only [Made.depth];omega]
    unfold method
    rw [Sem.run_bind,hti]
    simp only [Result.andThen_ok,hm,hpath,follow,Sem.run_bind,Sem.run_pure,hf,receiverAt,run_underlying hd,h0,if_true,Place.get,strVal,wrapnil]
    simp only [Instr.loadAt,Instr.sureAddr,Sem.run_bind,Sem.run_pure,Result.andThen_ok] at h1
    simp only [asAddr,Sem.run_bind,Sem.run_pure,Result.andThen_ok,h1]
   ·cases h3
  ·cases h3
 ·cases h
end Go.Eng
end

section
namespace Go.Eng
open Go
variable {H : Nat → Prop}
def wun (op:UnOp) (x:AV) (K:AV→Prop):Prop :=
 match op,x with
 | .neg,.lit (.int k n)=>zeH k (0 - n) (fun v=>K (.lit v))
 | .xor,.lit (.int k n)=>match zdT .xor k (if k.signed then -1 else k.max) n with
  | some v=>K (.lit v)
  | none=>False
 | .not,.lit (.bool b)=>K (.lit (.bool (!b)))
 | _,_=>False
theorem wun_sound {P:Program} {w:World} {O:Nat→Prop} {m:Ids} {op:UnOp} {x:AV} {v:Value} {K:AV→Prop} (h:wun op x K) (hx:rep w O m x v):∃ u r,(Op.unary op v).run P w=.ok u w∧rep w O m r u∧K r:=by
 unfold wun at h
 split at h
 ·simp only [rep] at hx;subst hx
  exact⟨_,_,rfl,by simp only [rep],zdm h⟩
 ·rename_i k n
  simp only [rep] at hx;subst hx
  simp only [zdT] at h
  exact⟨_,_,rfl,by simp only [rep],h⟩
 ·simp only [rep] at hx;subst hx
  exact⟨_,_,rfl,by simp only [rep],h⟩
 ·exact h.elim
def zcd (x:AV) (i:Nat) (K:AV→Prop):Prop :=
 match x with
 | .tup l=>match l[i]? with
  | some a=>K a
  | none=>False
 | _=>False
theorem wextract_sound {P:Program} {w:World} {O:Nat→Prop} {m:Ids} {x:AV} {i:Nat} {v:Value} {K:AV→Prop} (h:zcd x i K) (hx:rep w O m x v):∃ u r,(Instr.extract v i).run P w=.ok u w∧rep w O m r u∧K r:=by
 unfold zcd at h
 split at h
 ·rename_i l
  split at h
  ·rename_i a ha
   simp only [rep] at hx
   obtain⟨arr,rfl,hl⟩:=hx
   obtain⟨u,hu,hr⟩:=zaL hl i a ha
   rw [Array.getElem?_toList] at hu
   exact⟨u,a,by simp only [Instr.extract,hu,Sem.run_pure],hr,h⟩
  ·exact h.elim
 ·exact h.elim
def zgv (c a b:AV) (K:AV→Prop):Prop :=
 match c with
 | .lit (.bool p)=>(p=true→K a)∧(p=false→K b)
 | _=>False
def zbW (mx:Bool) (xs:List AV) (K:AV→Prop):Prop :=
 match xs with
 | [.lit (.int k x),.lit (.int k' y)]=>k=k'∧K (.lit (.int k (if mx then max x y else min x y)))
 | _=>False
theorem wmin_sound {P:Program} {w:World} {O:Nat→Prop} {m:Ids} {xs:List AV} {vs:Array Value} {ts:Array TypeId} {ty:TypeId} {K:AV→Prop} (h:zbW false xs K) (hx:reps w O m xs vs.toList):∃ u r,(Builtin.min_ ts ty vs).run P w=.ok u w∧rep w O m r u∧K r:=by
 unfold zbW at h
 split at h
 ·rename_i k x k' y
  obtain⟨rfl,h⟩:=h
  simp only [reps,rep] at hx
  obtain⟨_,_,e,rfl,_,_,rfl,rfl,rfl⟩:=hx
  refine⟨.int k (min x y),.lit (.int k (min x y)),?_,by simp only [rep],by simpa using h⟩
  unfold Builtin.min_
  rw [e]
  simp only [List.foldlM_cons,List.foldlM_nil,Builtin.min2,Sem.run_bind,Sem.run_pure,Result.andThen_ok,Result.ok.injEq,and_true,Value.int.injEq,true_and]
  rw [Int.min_def]
  split <;> split <;> omega
 ·exact h.elim
theorem wmax_sound {P:Program} {w:World} {O:Nat→Prop} {m:Ids} {xs:List AV} {vs:Array Value} {ts:Array TypeId} {ty:TypeId} {K:AV→Prop} (h:zbW true xs K) (hx:reps w O m xs vs.toList):∃ u r,(Builtin.max_ ts ty vs).run P w=.ok u w∧rep w O m r u∧K r:=by
 unfold zbW at h
 split at h
 ·rename_i k x k' y
  obtain⟨rfl,h⟩:=h
  simp only [reps,rep] at hx
  obtain⟨_,_,e,rfl,_,_,rfl,rfl,rfl⟩:=hx
  refine⟨.int k (max x y),.lit (.int k (max x y)),?_,by simp only [rep],by simpa using h⟩
  unfold Builtin.max_
  rw [e]
  simp only [List.foldlM_cons,List.foldlM_nil,Builtin.max2,Sem.run_bind,Sem.run_pure,Result.andThen_ok,Result.ok.injEq,and_true,Value.int.injEq,true_and]
  rw [Int.max_def]
  split <;> split <;> omega
 ·exact h.elim
def OpOK [Globs] (H:Nat→Prop) (P:Program) (w:World) (m:Ids) (σ:zaa) (K Kp:AV→zaa→Prop):Result Next→Prop
 | .ok (.value v) w' => ∃ r m' σ', St H w' m' σ' ∧ Ext H w (own H m σ) m w' (own H m' σ') m' ∧ rep w' (own H m' σ') m' r v ∧ K r σ'
 | .ok .skip w' => ∃ m' σ', St H w' m' σ' ∧ Ext H w (own H m σ) m w' (own H m' σ') m' ∧ K (.lit undef) σ'
 | .ok (.enter f args) w' => w' = w ∧ zaW P f = true ∧ ∃ as9, reps w (own H m σ) m as9 args.toList ∧ ACalls P f as9 σ (fun x σ' => match x with | .ret r => K r σ' | .pan r => Kp r σ')
 | .ok (.round l f tmps as9 bd) w' => w' = w ∧ (Glob w (own H m σ) → ∀ n, RoundIn Fence.wide n P l f tmps as9 bd w fun e w'' => ∃ x m' σ', St H w'' m' σ' ∧ Ext H w (own H m σ) m w'' (own H m' σ') m' ∧ zb5 w'' (own H m' σ') m' x e ∧ (match x with | .ret r => K r σ' | .pan r => Kp r σ'))
 | .halt (.panic v) w' => ∃ r m' σ', St H w' m' σ' ∧ Ext H w (own H m σ) m w' (own H m' σ') m' ∧ rep w' (own H m' σ') m' r v ∧ Kp r σ'
 | _=>False
def AYield [Globs] (P:Program) (id:Nat) (as9:List AV) (σ:zaa) (K:AEnd→zaa→Prop):Prop :=
 ∃ env ps assign body,σ[id]?=some (.lp .ready none env ps assign body)∧as9.length=ps.size ∧
  ∀ (H:Nat→Prop) (w:World) (m:Ids) (vs:Array Value) (L:Loop) (g:Nat),Glob w (own H m σ)→St H w m σ→reps w (own H m σ) m as9 vs.toList→m[id]?=some (some g)→w.heap[g]?=some (.loop L)→∀ n,
   RoundIn Fence.wide n P g L.fn ((L.params.zip vs).foldl (fun tmps (t, a) => tmps.setIfInBounds t a) L.tmps) L.assign L.body w fun e w' => ∃ x m' σ', St H w' m' σ' ∧ Ext H w (own H m σ) m w' (own H m' σ') m' ∧ zb5 w' (own H m' σ') m' x e ∧ K x σ'
theorem AYield.mono [Globs] {P : Program} {id : Nat} {as9 : List AV} {σ : zaa} {K K' : AEnd → zaa → Prop} (h : AYield P id as9 σ K) (hk : ∀ x σ', K x σ' → K' x σ') : AYield P id as9 σ K' := by
 obtain⟨env,ps,assign,body,h1,h2,h3⟩:=h
 exact ⟨env, ps, assign, body, h1, h2, fun H w m vs L g a b c d e n => (h3 H w m vs L g a b c d e n).mono fun _ _ ⟨x, m', σ', a, b, c, d⟩ => ⟨x, m', σ', a, b, c, hk _ _ d⟩⟩
def zj1 (K Kp : AV → zaa → Prop) : AEnd → zaa → Prop := fun x σ' => match x with | .ret r => K r σ' | .pan r => Kp r σ'
theorem OpOK.value [Globs] {P:Program} {w:World} {m:Ids} {σ:zaa} {K Kp:AV→zaa→Prop} {s:Sem Value} (h:VOK H w m σ K Kp (s.run P w)):OpOK H P w m σ K Kp ((do pure (Next.value (← s)):Sem Next).run P w):=by
 rw [Sem.run_bind]
 cases hr:s.run P w with
 | ok v w'=>rw [hr] at h;exact h
 | halt x w' =>
  rw [hr] at h
  cases x <;> first | exact h | exact h.elim
theorem OpOK.pure [Globs] {P:Program} {w:World} {m:Ids} {σ:zaa} (hs:St H w m σ) {K Kp:AV→zaa→Prop} {s:Sem Value} (h:∃ u r,s.run P w=.ok u w∧rep w (own H m σ) m r u∧K r σ):OpOK H P w m σ K Kp ((do pure (Next.value (← s)):Sem Next).run P w):=by
 obtain⟨u,r,h1,h2,h3⟩:=h
 exact OpOK.value (VOK.here hs h1 h2 h3)
def ziB [Globs] (P:Program) (f:AV) (args:List AV) (σ:zaa) (K Kp:AV→zaa→Prop):Prop :=
 match f with
 | .fn (.func g) first cap=>ACalls P g (first++args++cap) σ (zj1 K Kp)
 | .yl id=>AYield P id args σ (zj1 K Kp)
 | _=>False
def zhD [Globs] (P:Program) (x:AV) (name:String) (args:List AV) (σ:zaa) (K Kp:AV→zaa→Prop):Prop :=
 match zfv x with
 | some (t,v)=>∃ q:FuncId × AV,MethIn P t v name σ q.1 q.2∧ziB P (.fn (.func q.1) [q.2] []) args σ K Kp
 | none=>False
def wsd (x:AV) (K:AV→Prop):Prop:=match x with
 | .bsl id n=>K (.sd id n)
 | _=>False
theorem wsd_sound {P:Program} {w:World} {O:Nat→Prop} {m:Ids} {ts:Array TypeId} {ty:TypeId} {x:AV} {v:Value} {K:AV→Prop} (h:wsd x K) (hx:rep w O m x v):∃ u r,(Builtin.unsafeSliceData_ ts ty #[v]).run P w=.ok u w∧rep w O m r u∧K r:=by
 unfold wsd at h
 split at h
 ·rename_i id n
  simp only [rep] at hx
  rcases hx with ⟨rfl,rfl,h1⟩ | ⟨g,cap,c,rfl,hm,h1,h2,h3,h4,h5⟩
  ·exact⟨_,_,Lib.run_unsafeSliceData_nil w ts ty 0 0,by simp only [rep];exact⟨h1,none,rfl,.inl trivial⟩,h⟩
  ·exact⟨_,_,Lib.run_unsafeSliceData_row w ts ty _ n cap h5,by simp only [rep];exact⟨(List.getElem?_eq_some_iff.1 hm).1,_,rfl,.inr ⟨g,rfl,hm⟩⟩,h⟩
 ·exact h.elim
def wus (T:Tab) (ts:Array TypeId) (x y:AV) (σ:zaa) (K:AV→zaa→Prop):Prop :=
 match x,y,ts.toList with
 | .sd id k,.lit (.int .i64 n),[tp,_]=>n=k∧(k=0→K (.lit (.string ⟨#[]⟩)) σ)∧(k≠0→∃ tip ep,T tp=some tip∧tip.d=.ptr ep∧∃ te,T ep=some te∧te.size=1∧match σ[id]? with
  | some (.rt false e cs)=>e=ep∧k≤cs.length∧k≤9223372036854775807∧∃ bs:List UInt8,cs.take k=bs.map (fun b=>AV.lit (.int .u8 (b.toNat:Int)))∧(K (.lit (.string ⟨bs.toArray⟩)) (σ.set id (.ro cs))∨K (.lit (.string ⟨bs.toArray⟩)) (σ.set id (.fz e k cs)))
  | some (.fz e k' cs)=>e=ep∧k'=k∧k≤cs.length∧k≤9223372036854775807∧∃ bs:List UInt8,cs.take k=bs.map (fun b=>AV.lit (.int .u8 (b.toNat:Int)))∧K (.lit (.string ⟨bs.toArray⟩)) σ
  | _=>False)
 | _,_,_=>False
theorem freeze_same {w:World} {g k hi:Nat} {c:Array Value} {e:TypeId} (h:w.heap[g]?=some (.cells c e (0,hi))) (h0:k≠0) (hk:k≤hi):w.freeze ⟨g,0,none⟩ k=w:=by
 unfold World.freeze
 rw [if_neg h0]
 refine(congrArg (fun hp=>({ w with heap:=hp }:World)) (a₂:=w.heap) ?_:_=({ w with heap:=w.heap }:World))
 apply Array.ext_getElem?
 intro i
 rw [Array.getElem?_modify]
 split
 ·rename_i hi'
  subst hi'
  rw [h]
  have h1:(0 == hi)=false:=by rw [beq_eq_false_iff_ne];omega
  simp only [Option.map_some,h1,Bool.false_eq_true,if_false,Option.some.injEq,Obj.cells.injEq,true_and,Prod.mk.injEq]
  omega
 ·rfl
theorem zhE {w w':World} {O O':Nat→Prop} {m m':Ids} (h:Ext H w O m w' O' m') {b:Nat} (hc:∀ j,w'.cell? ⟨b,j,none⟩=w.cell? ⟨b,j,none⟩):(l:List AV)→(off:Nat)→zaJ w O m b l off→zaJ w' O' m' b l off
 | [],_,_=>by simp [zaJ]
 | a::l,off,hr=>by
  simp only [zaJ] at hr ⊢
  obtain⟨⟨v,e,h1⟩,h2⟩:=hr
  exact⟨⟨v,(hc off).trans e,zaP h a v h1⟩,zhE h hc l _ h2⟩
theorem wus_sound {P:Program} {T:Tab} (hT:zaD P T) {w:World} {m:Ids} {σ:zaa} (hs:St H w m σ) {ts:Array TypeId} {ty:TypeId} {x y:AV} {v u:Value} {K Kp:AV→zaa→Prop} (h:wus T ts x y σ K) (hx:rep w (own H m σ) m x v) (hy:rep w (own H m σ) m y u) :
  VOK H w m σ K Kp ((Builtin.unsafeString_ ts ty #[v,u]).run P w):=by
 unfold wus at h
 split at h
 ·rename_i _ _ _ id k n tp ti hts
  obtain⟨rfl,h0,h1⟩:=h
  have ets:ts=#[tp,ti]:=by
   apply Array.ext'
   simpa using hts
  subst ets
  simp only [rep] at hx hy
  subst hy
  obtain⟨_,p,rfl,hp⟩:=hx
  by_cases hk:k=0
  ·subst hk
   rw [show (Value.int .i64 ((0:Nat):Int))=.int .i64 0 from rfl,Lib.run_unsafeString_none]
   exact VOK.here hs rfl (by simp only [rep];rfl) (h0 rfl)
  ·obtain⟨tip,ep,htp,htd,te,hte,hsz,h⟩:=h1 hk
   obtain⟨g,rfl,hm⟩:=hp.resolve_left hk
   split at h
   ·rename_i e cs hcs
    obtain⟨rfl,hlen,h63,bs,hbs,h⟩:=h
    ·rcases hs.blk _ _ _ hcs hm with ⟨_,hc,hn⟩ | ⟨g',c,e1,hrow,hle,_,hat⟩
     ·cases hn
     ·cases e1
      obtain⟨lo,hi,k1,k2⟩:=hrow
      have hbl:=congrArg List.length hbs
      rw [List.length_take,List.length_map] at hbl
      have hbk:bs.length=k:=by omega
      obtain⟨d,hd,hf⟩:=(hT tp tip htp).und
      rw [htd] at hf
      simp only [TD.fits] at hf
      subst hf
      obtain⟨i,hi1,hi2,_⟩:=(hT e te hte).info
      have hcell1:P.cellsOf e=1:=by simp [Program.cellsOf,hi1,hi2,hsz]
      have hrun:=Lib.run_unsafeString_row (P:=P) w tp ti ty e hd hcell1 g c.size (by simp [World.shape?,k1]) bs (by intro he;rw [he] at hbk;exact hk hbk.symm) (by omega) (by omega) (fun j b hj=>by
       have hjk:j < k:=by have:=(List.getElem?_eq_some_iff.1 hj).1;omega
       have hn':cs[j]?=some (.lit (.int .u8 (b.toNat:Int))):=by
        have:=congrArg (fun l=>l[j]?) hbs
        simp only [List.getElem?_take,hjk,if_true,List.getElem?_map,hj,Option.map_some] at this
        exact this
       obtain⟨v,hv,hr⟩:=zbD hat j _ hn'
       simp only [rep] at hr
       subst hr
       rw [← hv]
       congr 2
       unfold Addr.add
       split
       ·rename_i h;subst h;rfl
       ·simp)
      rw [hbk] at hrun
      rw [hrun]
      have hfz:∀ c e f,w.heap[g]?=some (.cells c e f)→∃ f',(w.freeze ⟨g,0,none⟩ k).heap[g]?=some (.cells c e f'):=by
       intro c e f hc
       unfold World.freeze
       split
       ·exact⟨f,hc⟩
       ·simp only [Array.getElem?_modify,hc]
        exact⟨_,rfl⟩
      rcases h with h | h
      ·skip
       obtain⟨s1,x1⟩:=hs.freeze (w':=w.freeze ⟨g,0,none⟩ k) hcs hm (by unfold World.freeze;split <;> simp) (fun b hb=>by
        unfold World.freeze
        split
        ·rfl
        ·simp only [Array.getElem?_modify]
         rw [if_neg (fun e=>hb e.symm)]) (by unfold World.freeze;split <;> rfl) (by unfold World.freeze;split <;> rfl) (by unfold World.freeze;split <;> rfl) hfz
       exact⟨_,_,_,s1,x1,by simp only [rep],h⟩
      ·obtain⟨s1,x1⟩:=hs.turn (w':=w.freeze ⟨g,0,none⟩ k) (x':=.fz e k cs) hcs rfl rfl hm (by unfold World.freeze;split <;> simp) (fun b hb=>by
        unfold World.freeze
        split
        ·rfl
        ·simp only [Array.getElem?_modify]
         rw [if_neg (fun e=>hb e.symm)]) (by unfold World.freeze;split <;> rfl) (by unfold World.freeze;split <;> rfl) (by unfold World.freeze;split <;> rfl) (by
        rintro c' ⟨e',f,h1⟩
        obtain⟨f',h2⟩:=hfz _ _ _ h1
        exact⟨c',⟨e',f',h2⟩,rfl⟩) (fun hext=>by
        have hf2:∃ hi',(w.freeze ⟨g,0,none⟩ k).heap[g]?=some (.cells c e (0,hi'))∧k≤hi':=by
         unfold World.freeze
         rw [if_neg hk]
         simp only [Array.getElem?_modify,k1]
         by_cases hll:lo=hi
         ·exact⟨k,by simp [hll],Nat.le_refl _⟩
         ·exact⟨max hi k,by simp [hll],by omega⟩
        obtain⟨hi',f1,f2⟩:=hf2
        refine⟨g,rfl,c,hi',f1,f2,hle,?_⟩
        have hcell:∀ j,(w.freeze ⟨g,0,none⟩ k).cell? ⟨g,j,none⟩=w.cell? ⟨g,j,none⟩:=fun j=>by simp [World.cell?,f1,k1]
        exact zhE hext hcell _ _ hat)
       exact⟨_,_,_,s1,x1,by simp only [rep],h⟩
   ·rename_i e k' cs hcs
    obtain⟨rfl,rfl,hlen,h63,bs,hbs,h⟩:=h
    obtain⟨g',e1,c,hi',k1,k2,hle,hat⟩:=hs.blk _ _ _ hcs hm
    cases e1
    have hbl:=congrArg List.length hbs
    rw [List.length_take,List.length_map] at hbl
    have hbk:bs.length=k':=by omega
    obtain⟨d,hd,hf⟩:=(hT tp tip htp).und
    rw [htd] at hf
    simp only [TD.fits] at hf
    subst hf
    obtain⟨i,hi1,hi2,_⟩:=(hT e te hte).info
    have hcell1:P.cellsOf e=1:=by simp [Program.cellsOf,hi1,hi2,hsz]
    have hrun:=Lib.run_unsafeString_row (P:=P) w tp ti ty e hd hcell1 g c.size (by simp [World.shape?,k1]) bs (by intro he;rw [he] at hbk;exact hk hbk.symm) (by omega) (by omega) (fun j b hj=>by
     have hjk:j < k':=by have:=(List.getElem?_eq_some_iff.1 hj).1;omega
     have hn':cs[j]?=some (.lit (.int .u8 (b.toNat:Int))):=by
      have:=congrArg (fun l=>l[j]?) hbs
      simp only [List.getElem?_take,hjk,if_true,List.getElem?_map,hj,Option.map_some] at this
      exact this
     obtain⟨v,hv,hr⟩:=zbD hat j _ hn'
     simp only [rep] at hr
     subst hr
     rw [← hv]
     congr 2
     unfold Addr.add
     split
     ·rename_i h;subst h;rfl
     ·simp)
    rw [hbk,freeze_same k1 hk k2] at hrun
    exact VOK.here hs hrun (by simp only [rep]) h
   ·exact h.elim
 ·exact h.elim
def TD.isInt:TD→Bool
 | .int _=>true
 | _=>false
def wappO (T:Tab) (ts:Array TypeId) (s x:AV) (σ:zaa) (K:AV→zaa→Prop):Prop :=
 match ts.toList with
 | [t,u]=>match T u with
  | some tx=>if tx.d.isInt=true then wappZ T t s x σ K else zbA T ts s x σ K
  | none=>False
 | _=>False
def zda (T:Tab) (b:Builtin) (ts:Array TypeId) (args:List AV) (σ:zaa) (K Kp:AV→zaa→Prop):Prop :=
 match b,args with
 | .len,[x]=>match ts.toList with
  | [t]=>wlen T t x (fun r=>K r σ)
  | _=>False
 | .append,[s,x]=>wappO T ts s x σ K
 | .cap,[x]=>match ts.toList with
  | [t]=>wcap T t x (fun r=>K r σ)
  | _=>False
 | .min,xs=>zbW false xs (fun r=>K r σ)
 | .max,xs=>zbW true xs (fun r=>K r σ)
 | .panic,[.ifc t x]=>Kp (.ifc t x) σ
 | .unsafeSliceData,[x]=>wsd x (fun r=>K r σ)
 | .unsafeString,[x,y]=>wus T ts x y σ K
 | .delete,[x,i]=>wdelete T ts x i σ K
 | _,_=>False
def Wop [Globs] (P:Program) (T:Tab) (o:Op) (ev:Operand→AV) (σ:zaa) (K Kp:AV→zaa→Prop):Prop :=
 match o with
 | .move x | .assign x=>K (ev x) σ
 | .pick c a b=>zgv (ev c) (ev a) (ev b) (fun r=>K r σ)
 | .alloc e=>zhw T e σ K
 | .box e x=>wbox e (ev x) σ K
 | .build t ps=>zaY T t (zcj ev ps) (fun r=>K r σ)
 | .buildSlice t len ps=>zbL T t len (zcj ev ps) σ K
 | .load t a=>zen T t (ev a) σ (fun r=>K r σ)
 | .store t a x=>zgV T t (ev a) (ev x) σ K
 | .nilCheck x=>match ev x with
  | .ptr id off=>K (.ptr id off) σ
  | .rp cs=>K (.rp cs) σ
  | .fn (.func f) a b=>K (.fn (.func f) a b) σ
  | .yl id=>K (.yl id) σ
  | .fn (.method n) [.ifc t v] b=>(∃ f,mrow P t n f false=true)∧K (.fn (.method n) [.ifc t v] b) σ
  | _=>False
 | .binOp op t x y _=>zfw T op t x y ev (fun r=>K r σ)
 | .makeInterface t x=>wmkI T t (ev x) (fun r=>K r σ)
 | .typeAssert x _ a ok=>zeM P T a ok (ev x) (fun r=>K r σ)
 | .unOp op _ x=>wun op (ev x) (fun r=>K r σ)
 | .convert s d x=>zjb T s d (ev x) σ K
 | .makeFunc fn first cap=>K (.fn fn (first.toList.map ev) (cap.toList.map ev)) σ
 | .makeSlice t l c=>zjZ T t (ev l) (ev c) σ K
 | .slice t x lo hi none=>zbi T t (ev x) (lo.map ev) (hi.map ev) σ (fun r=>K r σ)
 | .slice t x lo hi (some mx)=>zgs T t (ev x) (lo.map ev) (hi.map ev) (ev mx) (fun r=>K r σ)
 | .fieldAddr s x f=>zag T s (ev x) f (fun r=>K r σ)
 | .field t x f=>zc6 T t (ev x) f (fun r=>K r σ)
 | .indexAddr t x i=>zbl T t (ev x) (ev i) (fun r=>K r σ)
 | .index t x i=>zeI T t (ev x) (ev i) (fun r=>K r σ)
 | .sliceToArrayPointer t x=>ziE T t (ev x) (fun r=>K r σ)
 | .extract x i=>zcd (ev x) i (fun r=>K r σ)
 | .call c=>match c.callee with
  | .value f=>ziB P (ev f) (c.args.toList.map ev) σ K Kp
  | .builtin b=>zda T b c.argTypes (c.args.toList.map ev) σ K Kp
  | .invoke r name=>zhD P (ev r) name (c.args.toList.map ev) σ K Kp
 | .panic x=>match ev x with
  | .ifc t v=>Kp (.ifc t v) σ
  | _=>False
 | .makeMap _ none=>K (.mpt σ.length) (σ++[.mpb [] []])
 | .lookup t x i ok=>wlookup P T t (ev x) (ev i) ok σ (fun r=>K r σ)
 | .mapUpdate t x i y | .insert t x i y=>wmapUpd T t (ev x) (ev i) (ev y) σ K
 | .range t x=>wrangeM T t (ev x) σ K
 | .next x s=>wnextM (ev x) s σ K
 | .entry x=>wentryM (ev x) σ (fun r=>K r σ)
 | _=>False
theorem reps_map {w:World} {O:Nat→Prop} {m:Ids} {ev:Operand→AV} {ρ:Operand→Value} (h:∀ x,rep w O m (ev x) (ρ x)):∀ (l:List Operand),reps w O m (l.map ev) (l.map ρ)
 | []=>by simp [reps]
 | x::l=>by
  simp only [List.map_cons,reps]
  exact⟨ρ x,_,rfl,h x,reps_map h l⟩
theorem ze3 {w:World} {O:Nat→Prop} {m:Ids} {ev:Operand→AV} {ρ:Operand→Value} (h:∀ x,rep w O m (ev x) (ρ x)) (x:Option Operand):zeC w O m (x.map ev) (x.map ρ):=by
 cases x with
 | none=>trivial
 | some x=>exact h x
theorem zdH {P:Program} {f:FuncId} (h:zaW P f=true) (args:Array Value) (w:World):(callFunc f args).run P w=.ok (.enter f args) w:=by
 unfold zaW at h
 split at h
 ·rename_i fn hfn
  simp only [Bool.and_eq_true,Bool.not_eq_true'] at h
  unfold callFunc
  rw [Sem.run_bind,run_program]
  simp only [Result.andThen_ok,hfn,h.1,h.2,Bool.false_eq_true,if_false,Sem.run_pure]
 ·cases h
theorem callFunc_sound [Globs] {P:Program} {w:World} {m:Ids} {σ:zaa} (hG:Glob w (own H m σ)) (hs:St H w m σ) {g:FuncId} {as9:List AV} {vs:Array Value} {K Kp:AV→zaa→Prop} (h:ACalls P g as9 σ (zj1 K Kp)) (hra:reps w (own H m σ) m as9 vs.toList) :
  OpOK H P w m σ K Kp ((callFunc g vs).run P w):=by
 cases hcb:zaW P g with
 | true =>
  rw [zdH hcb]
  exact⟨rfl,hcb,_,hra,h⟩
 | false =>
  rcases h H w m vs hG hs hra with ⟨h1, _⟩ | ⟨_, v, _, h2, a, m', σ', g1, g2, g3, g4⟩
  ·rw [hcb] at h1;cases h1
  ·rw [h2]
   cases a with
   | ret r => exact ⟨r, m', σ', g1, g2, g3, g4⟩
   | pan r=>exact g3.elim
theorem zcC [Globs] {P:Program} {T:Tab} (hT:zaD P T) {w:World} {m:Ids} {σ:zaa} (hG:Glob w (own H m σ)) (hs:St H w m σ) {o:Oper} {ev:Operand→AV} {ρ:Operand→Value} {K Kp:AV→zaa→Prop} (h:Wop P T o.op ev σ K Kp) (he:∀ x,rep w (own H m σ) m (ev x) (ρ x)) :
  OpOK H P w m σ K Kp ((execOp ρ o).run P w):=by
 have args:=fun (c:Array Operand)=>reps_map he c.toList
 unfold execOp
 unfold Wop at h
 cases hop:o.op <;> rw [hop] at h <;> simp only at h <;> first | exact h.elim | skip
 case move x=>exact⟨_,m,σ,hs,Ext.refl _ _ _,he x,h⟩
 case assign x=>exact⟨_,m,σ,hs,Ext.refl _ _ _,he x,h⟩
 case pick c a b =>
  unfold zgv at h
  split at h
  ·rename_i p hp
   have hc:=he c
   rw [hp] at hc
   simp only [rep] at hc
   simp only [hc,asBool,Sem.run_bind,Sem.run_pure,Result.andThen_ok]
   cases p with
   | true=>exact⟨_,m,σ,hs,Ext.refl _ _ _,he a,h.1 rfl⟩
   | false=>exact⟨_,m,σ,hs,Ext.refl _ _ _,he b,h.2 rfl⟩
  ·exact h.elim
 case alloc e=>exact OpOK.value (walloc_sound hT hs h)
 case box e x=>exact OpOK.value (wbox_sound hs h (he x))
 case build t ps =>
  refine OpOK.pure hs (wbuild_sound hT h ?_)
  simpa [zcj] using zeo he ps.toList
 case buildSlice t len ps =>
  refine OpOK.value (zdW hT hs h ?_)
  simpa [zcj] using zeo he ps.toList
 case load t a=>exact OpOK.pure hs (zfs hT hs h (he a))
 case store t a x =>
  obtain ⟨w', m', σ', h1, h2, h3, h4⟩ := wstore_sound hT hs h (he a) (he x)
  simp only [Sem.run_bind,h1,Result.andThen_ok,Sem.run_pure]
  exact ⟨m', σ', h2, h3, h4⟩
 case nilCheck x =>
  have hx:=he x
  split at h <;> rename_i heq <;> first | exact h.elim | skip
  all_goals
   rw [heq] at hx
   simp only [rep] at hx
  ·obtain⟨g,e1,e2⟩:=hx
   simp only [e1]
   exact⟨_,m,σ,hs,Ext.refl _ _ _,by simp only [rep];exact⟨g,rfl,e2⟩,h⟩
  ·obtain⟨b,off,e1,e2⟩:=hx
   simp only [e1]
   exact⟨_,m,σ,hs,Ext.refl _ _ _,by simp only [rep];exact⟨b,off,rfl,e2⟩,h⟩
  ·obtain⟨a,b,e1,e2⟩:=hx
   simp only [e1]
   exact⟨_,m,σ,hs,Ext.refl _ _ _,by simp only [rep];exact⟨a,b,rfl,e2⟩,h⟩
  ·obtain⟨g,e1,e2⟩:=hx
   simp only [e1]
   exact⟨_,m,σ,hs,Ext.refl _ _ _,by simp only [rep];exact⟨g,rfl,e2⟩,h⟩
  ·rename_i nm ti vi bi
   obtain⟨first,cap,e1,e2,e3⟩:=hx
   obtain⟨⟨f,hf⟩,hk⟩:=h
   have e2':=e2
   simp only [reps] at e2
   obtain⟨z,zs,e4,⟨u,rfl,hu⟩,rfl⟩:=e2
   have e5:first[0]?=some (.iface ti u):=by rw [← Array.getElem?_toList,e4];rfl
   have hpr:(program).run P w=.ok P w:=rfl
   simp only [e1,e5,Sem.run_bind,hpr,Result.andThen_ok,mrow_ahead hf,bne_self_eq_false,Bool.false_eq_true,if_false,Sem.run_pure]
   exact⟨_,m,σ,hs,Ext.refl _ _ _,by simp only [rep];exact⟨first,cap,rfl,e2',e3⟩,hk⟩
 case binOp op t x y ty =>
  exact OpOK.pure hs (wbinW_sound hT h (he x) (he y))
 case makeInterface t x=>exact OpOK.pure hs (wmkI_sound hT h (he x))
 case typeAssert x xt a ok=>exact OpOK.pure hs (wassert_sound hT h (he x))
 case unOp op t x=>exact OpOK.pure hs (wun_sound h (he x))
 case convert s d x=>exact OpOK.value (wconv_sound hT hs h (he x))
 case makeFunc fn first cap =>
  refine OpOK.pure hs ⟨_,.fn fn (first.toList.map ev) (cap.toList.map ev),rfl,?_,h⟩
  simp only [rep]
  exact⟨_,_,rfl,by simpa using args first,by simpa using args cap⟩
 case makeSlice t l c=>exact OpOK.value (zhx hT hs h (he l) (he c))
 case makeMap t r =>
  cases r with
  | some _=>exact h.elim
  | none =>
   obtain ⟨v, w', r, m', σ', h1, h2, h3, h4, h5⟩ := wmakeMap_sound (P := P) (t := t) hs h
   simp only [Option.map_none,Sem.run_bind,h1,Result.andThen_ok,Sem.run_pure]
   exact ⟨r, m', σ', h2, h3, h4, h5⟩
 case lookup t x i ok=>exact OpOK.pure hs (wlookup_sound hT hs h (he x) (he i))
 case mapUpdate t x i y =>
  obtain ⟨w', m', σ', h1, h2, h3, h4⟩ := zfZ hT hs h (he x) (he i) (he y)
  simp only [Sem.run_bind,h1,Result.andThen_ok,Sem.run_pure]
  exact ⟨m', σ', h2, h3, h4⟩
 case insert t x i y =>
  obtain ⟨w', m', σ', h1, h2, h3, h4⟩ := zfZ hT hs h (he x) (he i) (he y)
  simp only [Sem.run_bind,h1,Result.andThen_ok,Sem.run_pure]
  exact ⟨m', σ', h2, h3, h4⟩
 case range t x =>
  obtain ⟨v, w', r, m', σ', h1, h2, h3, h4, h5⟩ := wrangeM_sound (P := P) hT hs h (he x)
  simp only [Sem.run_bind,h1,Result.andThen_ok,Sem.run_pure]
  exact ⟨r, m', σ', h2, h3, h4, h5⟩
 case next x s =>
  obtain ⟨v, w', r, m', σ', h1, h2, h3, h4, h5⟩ := wnextM_sound (P := P) (ty := o.type) hs h (he x)
  simp only [Sem.run_bind,h1,Result.andThen_ok,Sem.run_pure]
  exact ⟨r, m', σ', h2, h3, h4, h5⟩
 case entry x=>exact OpOK.pure hs (wentryM_sound hs h (he x))
 case slice t x lo hi mx =>
  cases mx with
  | some mx=>exact OpOK.pure hs (wslice3_sound hT h (he x) (ze3 he lo) (ze3 he hi) (he mx))
  | none=>exact OpOK.pure hs (wslice_sound hT hs h (he x) (ze3 he lo) (ze3 he hi))
 case fieldAddr s x f=>exact OpOK.pure hs (wfieldAddr_sound hT h (he x))
 case field t x f=>exact OpOK.pure hs (wfield_sound hT h (he x))
 case indexAddr t x i=>exact OpOK.pure hs (windexAddr_sound hT h (he x) (he i))
 case index t x i=>exact OpOK.pure hs (windex_sound hT h (he x) (he i))
 case sliceToArrayPointer t x=>exact OpOK.pure hs (wtoArr_sound hT h (he x))
 case extract x i=>exact OpOK.pure hs (wextract_sound h (he x))
 case call c =>
  cases hc:c.callee <;> rw [hc] at h <;> simp only at h <;> first | exact h.elim | skip
  case value f =>
   unfold ziB at h
   split at h
   ·rename_i g first cap hf
    have hfr:=he f
    rw [hf] at hfr
    simp only [rep] at hfr
    obtain⟨x,y,e1,r1,r2⟩:=hfr
    simp only [resolve,hc,e1,Deferred.ofValue,Sem.run_bind,Sem.run_pure,Result.andThen_ok,invoke]
    have hra:=zby (zby r1 (args c.args)) r2
    cases hcb:zaW P g with
    | true =>
     rw [zdH hcb]
     refine⟨rfl,hcb,_,?_,h⟩
     simpa using hra
    | false =>
     rcases h H w m (x ++ c.args.map ρ ++ y) hG hs (by simpa using hra) with ⟨h1, _⟩ | ⟨_, v, _, h2, a, m', σ', g1, g2, g3, g4⟩
     ·rw [hcb] at h1;cases h1
     ·rw [h2]
      cases a with
      | ret r => exact ⟨r, m', σ', g1, g2, g3, g4⟩
      | pan r=>exact g3.elim
   ·rename_i id hf
    have hfr:=he f
    rw [hf] at hfr
    simp only [rep] at hfr
    obtain⟨g,e1,r1⟩:=hfr
    obtain⟨env,ps,as9,bd,h1,h2,h3⟩:=h
    obtain⟨g',e,L,k1,k2,k3,k4,k5,k6,k7⟩:=hs.blk id _ _ h1 r1
    cases e
    have ha:=args c.args
    have hsz:(c.args.map ρ).size=L.params.size:=by
     have:=zan ha
     simp at this
     rw [k4,← h2]
     simp
    simp only [resolve,hc,e1,Deferred.ofValue,Sem.run_bind,Sem.run_pure,Result.andThen_ok,invoke,Array.append_empty,Array.empty_append]
    rw [run_yield k1 hsz]
    refine⟨rfl,fun hG n=>(h3 H w m _ L g hG hs (by simpa using ha) r1 k1 n).mono ?_⟩
    rintro e w'' ⟨x, m', σ', g1, g2, g3, g4⟩
    exact ⟨x, m', σ', g1, g2, g3, by cases x <;> exact g4⟩
   ·exact h.elim
  case invoke r name =>
   unfold zhD at h
   split at h
   ·rename_i t v hr
    obtain⟨⟨f,a⟩,hm,hk⟩:=h
    obtain⟨u,e1,hu⟩:=zhz hr (he r)
    obtain⟨rv,hrun,hrv⟩:=hm H w m u hs hu
    simp only [resolve,hc,e1,Sem.run_bind,Sem.run_pure,Result.andThen_ok,invoke]
    have hx:(#[Value.iface t u]++c.args.map ρ)[0]?=some (.iface t u):=by
     rw [Array.getElem?_append_left (by simp)]
     rfl
    have hy:(#[Value.iface t u]++c.args.map ρ).extract 1 (#[Value.iface t u]++c.args.map ρ).size=c.args.map ρ:=by
     apply Array.ext'
     simp
     exact List.take_of_length_le (by simp)
    rw [hx]
    simp only [hy,callMethod,Sem.run_bind,run_program,Result.andThen_ok,hrun]
    simp only [ziB] at hk
    refine callFunc_sound hG hs hk ?_
    simp only [List.append_nil,Array.toList_append,List.cons_append,List.nil_append,reps]
    exact⟨rv,_,rfl,hrv,by simpa using args c.args⟩
   ·exact h.elim
  case builtin b =>
   simp only [resolve,hc,Sem.run_bind,Sem.run_pure,Result.andThen_ok,invoke]
   have ha:=args c.args
   unfold zda at h
   split at h
   ·rename_i x hx
    split at h
    ·rename_i t ht
     rw [hx] at ha
     simp only [reps] at ha
     obtain⟨v,_,e,hv,rfl⟩:=ha
     have e1:Array.map ρ c.args=#[v]:=by
      apply Array.ext'
      simpa using e
     have e2:c.argTypes=#[t]:=by
      apply Array.ext'
      simpa using ht
     rw [e1,e2]
     exact OpOK.pure hs (wlen_sound hT h hv)
    ·exact h.elim
   ·rename_i s x hx
    rw [hx] at ha
    simp only [reps] at ha
    obtain⟨v,_,e,hv,u,_,rfl,hu,rfl⟩:=ha
    have e1:Array.map ρ c.args=#[v,u]:=by
     apply Array.ext'
     simpa using e
    rw [e1]
    unfold wappO at h
    split at h
    ·rename_i t u hts
     split at h
     ·rename_i tx htx
      have e2:c.argTypes=#[t,u]:=by
       apply Array.ext'
       simpa using hts
      split at h
      ·rename_i hint
       obtain⟨k,hk⟩:∃ k,tx.d=.int k:=by
        cases hd:tx.d <;> rw [hd] at hint <;> first | exact⟨_,rfl⟩ | cases hint
       exact OpOK.value (wappZ_sound hT hs (ts:=c.argTypes) (t:=t) (t1:=u) (by rw [e2];rfl) (by rw [e2];rfl) htx hk h hv hu)
      ·exact OpOK.value (wappend_sound hT hs h hv hu)
     ·exact h.elim
    ·exact h.elim
   ·rename_i x hx
    split at h
    ·rename_i t ht
     rw [hx] at ha
     simp only [reps] at ha
     obtain⟨v,_,e,hv,rfl⟩:=ha
     have e1:Array.map ρ c.args=#[v]:=by
      apply Array.ext'
      simpa using e
     rw [e1]
     have e2:c.argTypes=#[t]:=by
      apply Array.ext'
      simpa using ht
     exact OpOK.pure hs (wcap_sound hT (t:=t) (by rw [e2];rfl) h hv)
    ·exact h.elim
   ·refine OpOK.pure hs (wmin_sound h ?_)
    simpa using ha
   ·refine OpOK.pure hs (wmax_sound h ?_)
    simpa using ha
   ·rename_i t x hx
    rw [hx] at ha
    simp only [reps,rep] at ha
    obtain⟨v,_,e,⟨u,rfl,hv⟩,rfl⟩:=ha
    have e1:Array.map ρ c.args=#[.iface t u]:=by
     apply Array.ext'
     simpa using e
    rw [e1]
    refine OpOK.value (s:=Instr.panic (.iface t u)) ?_
    exact⟨.ifc t x,m,σ,hs,Ext.refl _ _ _,by simp only [rep];exact⟨u,rfl,hv⟩,h⟩
   ·rename_i x hx
    rw [hx] at ha
    simp only [reps] at ha
    obtain⟨v,_,e,hv,rfl⟩:=ha
    have e1:Array.map ρ c.args=#[v]:=by
     apply Array.ext'
     simpa using e
    rw [e1]
    exact OpOK.pure hs (wsd_sound h hv)
   ·rename_i x y hx
    rw [hx] at ha
    simp only [reps] at ha
    obtain⟨v,_,e,hv,u,_,rfl,hu,rfl⟩:=ha
    have e1:Array.map ρ c.args=#[v,u]:=by
     apply Array.ext'
     simpa using e
    rw [e1]
    exact OpOK.value (wus_sound hT hs h hv hu)
   ·rename_i x i hx
    rw [hx] at ha
    simp only [reps] at ha
    obtain⟨v,_,e,hv,u,_,rfl,hu,rfl⟩:=ha
    have e1:Array.map ρ c.args=#[v,u]:=by
     apply Array.ext'
     simpa using e
    rw [e1]
    obtain ⟨y, w', r, m', σ', h1, h2, h3, h4, h5⟩ := wdelete_sound (P := P) (ty := o.type) hT hs h hv hu
    refine OpOK.value (s:=Builtin.delete_ c.argTypes o.type #[v,u]) ?_
    rw [h1]
    exact ⟨r, m', σ', h2, h3, h4, h5⟩
   ·exact h.elim
 case panic x =>
  have hx:=he x
  split at h
  ·rename_i t v heq
   rw [heq] at hx
   simp only [rep] at hx
   obtain⟨u,e,hv⟩:=hx
   refine OpOK.value (s:=Instr.panic (ρ x)) ?_
   rw [e]
   exact⟨.ifc t v,m,σ,hs,Ext.refl _ _ _,by simp only [rep];exact⟨u,rfl,hv⟩,h⟩
  ·exact h.elim
end Go.Eng
end

section
namespace Go.Eng
open Go
variable {H : Nat → Prop}
def zdX (σ:zaa):List Nat→zaa
 | []=>σ
 | i::r=>match σ[i]? with
  | some (.rw cs)=>zdX (σ.set i (.ro cs)) r
  | _=>zdX σ r
mutual
def frzA (σ:zaa):AV→AV→Prop
 | .ref id off len sz,b=>b=.ref id off len sz∨∃ cs,σ[id]?=some (.ro cs)∧off+len * sz≤cs.length∧b=.sl ((cs.drop off).take (len * sz)) len
 | .agg l,b=>∃ l',b=.agg l'∧frzL σ l l'
 | .tup l,b=>∃ l',b=.tup l'∧frzL σ l l'
 | .lit v,b=>b=.lit v∨(v=.slice none 0 0∧b=.sl [] 0)
 | a,b=>b=a
def frzL (σ:zaa):List AV→List AV→Prop
 | [],l=>l=[]
 | a::r,l=>∃ b l',l=b::l'∧frzA σ a b∧frzL σ r l'
end
mutual
theorem zdY {w:World} {m:Ids} {σ:zaa} (hs:St H w m σ):(a b:AV)→(v:Value)→frzA σ a b→rep w (own H m σ) m a v→rep w (own H m σ) m b v
 | .ref id off len sz,b,v,h,hr=>by
  simp only [frzA] at h
  rcases h with rfl | ⟨cs,hi,hle,rfl⟩
  ·exact hr
  ·simp only [rep] at hr ⊢
   rcases hr with ⟨rfl,rfl,rfl,_⟩ | ⟨g,cap,c,rfl,hm,hlc,hcm,_⟩
   ·exact⟨none,0,rfl,Nat.le_refl _,by simp [maxLen],.inl (by simp)⟩
   ·refine⟨_,cap,rfl,hlc,hcm,?_⟩
    rcases hs.blk id (.ro cs) (some g) hi hm with h2 | ⟨g',e,hO,hat⟩
    ·exact .inl (by simp [h2])
    ·cases e
     by_cases hne:cs=[]
     ·exact .inl (by simp [hne])
     ·have hat3:=zbu (zbE hat off) (len * sz)
      rw [Nat.zero_add] at hat3
      exact .inr ⟨g,off,rfl,hO,zbx hat hne,hat3⟩
 | .agg l,b,v,h,hr=>by
  simp only [frzA] at h
  obtain⟨l',rfl,h⟩:=h
  simp only [rep] at hr ⊢
  obtain⟨a,e,h1⟩:=hr
  exact⟨a,e,ze4 hs l l' _ h h1⟩
 | .tup l,b,v,h,hr=>by
  simp only [frzA] at h
  obtain⟨l',rfl,h⟩:=h
  simp only [rep] at hr ⊢
  obtain⟨a,e,h1⟩:=hr
  exact⟨a,e,ze4 hs l l' _ h h1⟩
 | .bot,b,v,h,hr=>by simp only [frzA] at h;subst h;exact hr
 | .lit _,b,v,h,hr=>by
  simp only [frzA] at h
  rcases h with rfl | ⟨rfl,rfl⟩
  ·exact hr
  ·simp only [rep] at hr ⊢
   subst hr
   exact⟨none,0,rfl,Nat.le_refl _,by simp [maxLen],.inl trivial⟩
 | .sl _ _,b,v,h,hr=>by simp only [frzA] at h;subst h;exact hr
 | .rp _,b,v,h,hr=>by simp only [frzA] at h;subst h;exact hr
 | .ptr _ _,b,v,h,hr=>by simp only [frzA] at h;subst h;exact hr
 | .yl _,b,v,h,hr=>by simp only [frzA] at h;subst h;exact hr
 | .mpt _,b,v,h,hr=>by simp only [frzA] at h;subst h;exact hr
 | .fn _ _ _,b,v,h,hr=>by simp only [frzA] at h;subst h;exact hr
 | .ifc _ _,b,v,h,hr=>by simp only [frzA] at h;subst h;exact hr
 | .sd _ _,b,v,h,hr=>by simp only [frzA] at h;subst h;exact hr
 | .bsl _ _,b,v,h,hr=>by simp only [frzA] at h;subst h;exact hr
theorem ze4 {w:World} {m:Ids} {σ:zaa} (hs:St H w m σ):(l l':List AV)→(vs:List Value)→frzL σ l l'→reps w (own H m σ) m l vs→reps w (own H m σ) m l' vs
 | [],l',vs,h,hr=>by simp only [frzL] at h;subst h;exact hr
 | a::l,l',vs,h,hr=>by
  simp only [frzL] at h
  obtain⟨b,r,rfl,h1,h2⟩:=h
  simp only [reps] at hr ⊢
  obtain⟨v,z,rfl,g1,g2⟩:=hr
  exact⟨v,z,rfl,zdY hs a b v h1 g1,ze4 hs l r z h2 g2⟩
end
theorem zcP {w:World} {m:Ids}:∀ (ids:List Nat) (σ:zaa),St H w m σ→St H w m (zdX σ ids)∧Ext H w (own H m σ) m w (own H m (zdX σ ids)) m
 | [],σ,hs=>⟨hs,Ext.refl _ _ _⟩
 | i::r,σ,hs=>by
  unfold zdX
  split
  ·rename_i cs hi
   obtain⟨h1,h2⟩:=hs.letgo (i:=i) (x:=.ro cs) (.inr ⟨cs,hi,0,cs.length,by simp,rfl⟩)
   obtain⟨h3,h4⟩:=zcP r _ h1
   exact⟨h3,h2.trans h4⟩
  ·exact zcP r σ hs
theorem ziJ {w:World} {m:Ids} {σ:zaa} (hs:St H w m σ) {b:Nat}:∀ (cs cs':List AV) (off:Nat),frzL σ cs cs'→zaJ w (own H m σ) m b cs off→zaJ w (own H m σ) m b cs' off
 | [],cs',off,hf,h=>by simp only [frzL] at hf;subst hf;exact h
 | a::l,cs',off,hf,h=>by
  simp only [frzL] at hf
  obtain⟨x,r,rfl,h1,h2⟩:=hf
  simp only [zaJ] at h ⊢
  obtain⟨⟨v,e,hv⟩,h⟩:=h
  exact⟨⟨v,e,zdY hs _ _ _ h1 hv⟩,ziJ hs l r _ h2 h⟩
theorem frzL_len {σ:zaa}:∀ (cs cs':List AV),frzL σ cs cs'→cs'.length=cs.length
 | [],cs',hf=>by simp only [frzL] at hf;subst hf;rfl
 | a::l,cs',hf=>by
  simp only [frzL] at hf
  obtain⟨x,r,rfl,h1,h2⟩:=hf
  simp only [List.length_cons,frzL_len l r h2]
theorem St.retell {w:World} {m:Ids} {σ:zaa} (hs:St H w m σ) {i:Nat} {cs cs':List AV} (hi:σ[i]?=some (.rw cs)) (hf:frzL σ cs cs') :
  St H w m (σ.set i (.rw cs'))∧Ext H w (own H m σ) m w (own H m (σ.set i (.rw cs'))) m:=by
 obtain⟨mi,hm⟩:=hs.id hi
 rcases hs.blk i _ _ hi hm with ⟨rfl,rfl⟩ | ⟨g,c,rfl,hr,hle,hat⟩
 ·simp only [frzL] at hf
  subst hf
  have e:σ.set i (.rw [])=σ:=by
   obtain⟨h1,h2⟩:=List.getElem?_eq_some_iff.1 hi
   rw [← h2];exact List.set_getElem_self h1
  rw [e]
  exact⟨hs,Ext.refl _ _ _⟩
 ·refine hs.write hi hm rfl (fun _ _=>rfl) rfl rfl rfl (fun c h=>⟨c,h,rfl⟩) (fun c' h=>?_) fun _=>ziJ hs _ _ _ hf hat
  have:=h.cel.eq hr.cel
  rw [frzL_len _ _ hf]
  cases this
  exact hle
end Go.Eng
end

section
namespace Go.Eng
open Go
variable {H : Nat → Prop} [Globs]
def zb6 (ops:Array Oper) (env:Env) (g:Option (Nat × Bool)) (run skip:Prop):Prop :=
 match g with
 | none=>run
 | some (j,want)=>match (ops[j]?).bind (·.dst) with
  | none=>skip
  | some d=>match (env[d]?).getD .bot with
   | .lit (.bool b)=>(b=want→run)∧(b≠want→skip)
   | .lit (.tuple _)=>skip
   | _=>False
def opsK (rest:Env→zaa→Post→Prop) (env:Env) (d:Option Tmp) (Q:Post):AV→zaa→Prop:=fun v σ=>rest (aput env d v) σ Q
def panK (env:Env) (Q:Post):AV→zaa→Prop:=fun v σ=>Q (.pan v) env σ
def wops (P:Program) (T:Tab) (ops:Array Oper):List Oper→Env→zaa→Post→Prop
 | [],env,σ,Q=>Q .normal env σ
 | o::rest,env,σ,Q =>
  zb6 ops env o.guard (Wop P T o.op (zaN env) σ (opsK (wops P T ops rest) env o.dst Q) (panK env Q)) (wops P T ops rest (aput env o.dst (.lit undef)) σ Q)
def Mk (b:Nat) (w:World) (O:Nat→Prop) (ds:List Deferred):Prop :=
 ∃ l:List Nat,ds=l.map (fun D=>{ target:=.collected D,args:=#[] })++Globs.base∧l.Nodup∧∀ D∈l,b≤D∧¬ O D∧w.heap[D]?=some (.deferred (some []))
theorem Mk.nil {b:Nat} {w:World} {O:Nat→Prop}:Mk b w O Globs.base:=⟨[],rfl,by simp,fun d hd=>by cases hd⟩
theorem Mk.mono {b:Nat} {w w':World} {O O':Nat→Prop} {m m':Ids} {ds:List Deferred} (h:Mk b w O ds) (k:Ext H w O m w' O' m'):Mk b w' O' ds:=by
 obtain⟨l,e,hn,h⟩:=h
 refine⟨l,e,hn,fun D hd=>?_⟩
 obtain⟨h1,h2,h3⟩:=h D hd
 have hlt:=(Array.getElem?_eq_some_iff.1 h3).1
 exact⟨h1,fun ho=>(k.own D ho).elim h2 (fun h=>by omega),(k.same D hlt h2).trans h3⟩
theorem Mk.own {b:Nat} {w:World} {O O':Nat→Prop} {ds:List Deferred} (h:Mk b w O ds) (k:∀ b,O' b→O b):Mk b w O' ds:=by
 obtain⟨l,e,hn,h⟩:=h
 exact⟨l,e,hn,fun D hd=>let ⟨h1,h2,h3⟩:=h D hd;⟨h1,fun ho=>h2 (k D ho),h3⟩⟩
theorem Mk.le {b b':Nat} {w:World} {O:Nat→Prop} {ds:List Deferred} (h:Mk b w O ds) (k:b'≤b):Mk b' w O ds:=by
 obtain⟨l,e,hn,h⟩:=h
 exact⟨l,e,hn,fun D hd=>let ⟨h1,h2,h3⟩:=h D hd;⟨Nat.le_trans k h1,h2,h3⟩⟩
def FR (r:Option Nat):Fence:={ Fence.wide with round:=r }
omit [Globs] in
theorem zgw {r:Option Nat} {n:Nat} {P:Program} {f:FuncId} {args:Array Value} {w:World} {R:Ending→World→Prop} (h:Calls P f args w R):CallsIn (FR r) n P f args w R :=
 ⟨trivial,fun cs _=>let ⟨e,w',fr,r,s,x⟩:=h cs;⟨e,w',fr,r,(comesIn_wide.2 s:ComesIn (Machine.fenced P Fence.wide) P _ _ _),x⟩⟩
def lift (H:Nat→Prop) (w0:World) (O0:Nat→Prop) (m0:Ids) (Q:Post):Exit→Act→World→Prop:=fun e a w =>
 ∃ x env σ m,St H w m σ∧Ext H w0 O0 m0 w (own H m σ) m∧reps w (own H m σ) m env a.tmps.toList∧Mk w0.heap.size w (own H m σ) a.defers∧xRep w (own H m σ) m x e∧Q x env σ
theorem zaO {w:World} {O:Nat→Prop} {m:Ids} {env:Env} {a:Act} (hG:Glob w O) (h:reps w O m env a.tmps.toList) (x:Operand):rep w O m (zaN env x) (a.eval x):=by
 cases x with
 | tmp t =>
  simp only [zaN,Act.eval]
  cases he:env[t]? with
  | none=>simp [rep]
  | some y =>
   obtain⟨v,hv,hr⟩:=zaL h t y he
   rw [Array.getElem?_toList] at hv
   simp only [Option.getD_some,Array.getD_eq_getD_getElem?,hv]
   exact hr
 | const v =>
  simp only [zaN,Act.eval]
  unfold zc9
  split
  ·rename_i cs
   simp only [rep]
   exact⟨cs,rfl,by simpa [zaE] using zcB (w:=w) (O:=O) (m:=m) cs.toList⟩
  ·simp only [rep]
 | global g =>
  simp only [zaN,Act.eval]
  split
  ·rename_i cs hg
   obtain⟨h1,h2,_,h3⟩:=hG.1 g cs hg
   simp only [rep]
   refine⟨g,0,rfl,h1,h2,zb0 fun j x hx=>?_⟩
   rw [List.getElem?_map,Option.map_eq_some_iff] at hx
   obtain⟨v,hv,rfl⟩:=hx
   exact⟨v,by rw [Nat.zero_add];exact h3 j v hv,by simp only [rep]⟩
  ·simp only [rep]
 | func f =>
  simp only [zaN,Act.eval,rep]
  exact⟨#[],#[],rfl,by simp [reps],by simp [reps]⟩
theorem zaM {w:World} {O:Nat→Prop} {m:Ids} {env:Env} {a:Act} (h:reps w O m env a.tmps.toList) (d:Option Tmp) {x:AV} {v:Value} (hx:rep w O m x v):reps w O m (aput env d x) (a.put d v).tmps.toList:=by
 cases d with
 | none=>exact h
 | some d =>
  simp only [aput,Act.put,Array.toList_setIfInBounds]
  exact zcW h d hx
theorem zaB (a:Act) (d:Option Tmp) (v:Value):(a.put d v).defers=a.defers:=by
 cases d <;> rfl
theorem zeq {r:Option Nat} {n:Nat} {P:Program} {w w0:World} {O0:Nat→Prop} {m0:Ids} {m:Ids} {σ:zaa} {o:Oper} {a:Act} {env:Env} {Q:Post} {K:AV→zaa→Prop} {next:Act→World→Prop}
  (hG:Glob w0 O0) (h0:Ext H w0 O0 m0 w (own H m σ) m) (hs:St H w m σ) (he:reps w (own H m σ) m env a.tmps.toList) (hd:Mk w0.heap.size w (own H m σ) a.defers)
  (hnd:∀ c,o.op≠.defer c)
  (h:OpOK H P w m σ K (panK env Q) ((execOp a.eval o).run P w))
  (hn : ∀ v r w' m' σ', Ext H w0 O0 m0 w' (own H m' σ') m' → St H w' m' σ' → reps w' (own H m' σ') m' (aput env o.dst r) (a.put o.dst v).tmps.toList → Mk w0.heap.size w' (own H m' σ') (a.put o.dst v).defers → K r σ' → next (a.put o.dst v) w') :
  o.wpIn (FR r) n P a w next (lift H w0 O0 m0 Q):=by
 refine⟨fun _ _=>trivial,?_⟩
 rw [Oper.semAt_eq _ _ _ hnd]
 generalize (execOp a.eval o).run P w=res at h
 cases res with
 | ok n w' =>
  cases n <;> simp only [OpOK] at h <;> first | exact h.elim | skip
  case value v =>
   obtain ⟨r, m', σ', h1, h2, h3, h4⟩ := h
   exact hn v r w' m' σ' (h0.trans h2) h1 (zaM (zah h2 _ _ he) _ h3) (by rw [zaB]; exact hd.mono h2) h4
  case skip =>
   obtain ⟨m', σ', h1, h2, h3⟩ := h
   exact hn undef (.lit undef) w' m' σ' (h0.trans h2) h1 (zaM (zah h2 _ _ he) _ (by simp only [rep])) (by rw [zaB]; exact hd.mono h2) h3
  case enter f args =>
   obtain⟨rfl,hcb,as9,h1,h2⟩:=h
   refine⟨fun h=>absurd h (by simp [FR,Fence.wide]),zgw (((h2 H w' m args (hG.mono h0) hs h1).calls hcb).mono ?_)⟩
   rintro e w'' ⟨x, m', σ', g1, g2, g3, g4⟩
   cases x with
   | ret r =>
    cases e <;> simp only [zb5] at g3
    rename_i v
    exact hn v r w'' m' σ' (h0.trans g2) g1 (zaM (zah g2 _ _ he) _ g3) (by rw [zaB]; exact hd.mono g2) g4
   | pan r =>
    cases e <;> simp only [zb5] at g3
    rename_i chain
    exact ⟨.pan r, env, σ', m', g1, h0.trans g2, zah g2 _ _ he, hd.mono g2, g3, g4⟩
  case round l f tmps as9 bd =>
   obtain⟨rfl,h2⟩:=h
   refine⟨fun h=>absurd h (by simp [FR,Fence.wide]),?_⟩
   have h3:=h2 (hG.mono h0) (n - 1)
   refine RoundIn.mono (R:=_) (show RoundIn (FR r) _ P l f tmps as9 bd _ _ from h3) ?_
   rintro e w'' ⟨x, m', σ', g1, g2, g3, g4⟩
   cases x with
   | ret r =>
    cases e <;> simp only [zb5] at g3
    rename_i v
    exact hn v r w'' m' σ' (h0.trans g2) g1 (zaM (zah g2 _ _ he) _ g3) (by rw [zaB]; exact hd.mono g2) g4
   | pan r =>
    cases e <;> simp only [zb5] at g3
    rename_i chain
    exact ⟨.pan r, env, σ', m', g1, h0.trans g2, zah g2 _ _ he, hd.mono g2, g3, g4⟩
 | halt x w' =>
  cases x <;> simp only [OpOK] at h
  rename_i v
  obtain ⟨r, m', σ', h1, h2, h3, h4⟩ := h
  exact ⟨.pan r, env, σ', m', h1, h0.trans h2, zah h2 _ _ he, hd.mono h2, ⟨v, rfl, h3⟩, h4⟩
theorem ziK {r:Option Nat} {n:Nat} {P:Program} {w w0:World} {O0:Nat→Prop} {m0:Ids} {o:Oper} {a:Act} {next:Act→World→Prop} {Q':Exit→Act→World→Prop}
  (h:o.wpIn (FR r) n P a w next (lift H w0 O0 m0 (fun y _ _=>match y with | .pan _=>False | _=>True))):o.wpIn (FR r) n P a w next Q':=by
 refine⟨h.1,?_⟩
 have h:=h.2
 have nop:∀ c a w,¬ lift H w0 O0 m0 (fun y _ _=>match y with | .pan _=>False | _=>True) (.panic c) a w:=by
  rintro c a w ⟨y,_,_,_,_,_,_,_,hxr,hf⟩
  cases y <;> simp only [xRep] at hxr
  exact hf.elim
 have noo:¬ LetsOut (lift H w0 O0 m0 (fun y _ _=>match y with | .pan _=>False | _=>True)):=by
  rintro⟨a',w',y,_,_,_,_,_,_,_,hxr,hf⟩
  cases y <;> simp only [xRep] at hxr
 generalize (o.semAt (FR r).round a.eval).run P w=res at h
 cases res with
 | ok x w' =>
  cases x <;> simp only [Oper.uponIn] at h ⊢ <;>
   first
    | exact h
    | exact⟨h.1,CallsIn.mono h.2 (fun e w'' he=>by cases e <;> first | exact he | exact(nop _ _ _ he).elim | exact(noo he).elim)⟩
    | exact⟨h.1,RoundIn.mono h.2 (fun e w'' he=>by cases e <;> first | exact he | exact(nop _ _ _ he).elim | exact(noo he).elim)⟩
 | halt x w'=>cases x <;> simp only [Oper.uponIn] at h ⊢ <;> first | exact h | exact(nop _ _ _ h).elim
theorem zct {P:Program} {T:Tab} {o:Op} {ev:Operand→AV} {σ:zaa} {K Kp:AV→zaa→Prop} (h:Wop P T o ev σ K Kp):∀ c,o≠.defer c:=by
 rintro c rfl
 exact h
theorem zbj {ops:Array Oper} {w:World} {O:Nat→Prop} {m:Ids} {env:Env} {a:Act} {o:Oper} {run skip:Prop} (h:zb6 ops env o.guard run skip) (he:reps w O m env a.tmps.toList) :
  (Region.wanted o (yielded ops a.tmps)=true∧run)∨(Region.wanted o (yielded ops a.tmps)=false∧skip):=by
 unfold zb6 at h
 unfold Region.wanted
 split at h
 ·rename_i hg
  rw [hg]
  exact .inl ⟨rfl,h⟩
 ·rename_i j want hg
  rw [hg]
  simp only
  unfold yielded
  split at h
  ·rename_i hd
   rw [hd]
   exact .inr ⟨by simp,h⟩
  ·rename_i d hd
   rw [hd]
   simp only [Option.bind_some]
   split at h
   ·rename_i b hb
    cases hx:env[d]? with
    | none=>simp [hx] at hb
    | some y =>
     simp only [hx,Option.getD_some] at hb
     subst hb
     obtain⟨v,hv,hr⟩:=zaL he d _ hx
     simp only [rep] at hr
     subst hr
     rw [Array.getElem?_toList] at hv
     simp only [hv]
     by_cases hbw:b=want
     ·exact .inl ⟨by simp [hbw],h.1 hbw⟩
     ·exact .inr ⟨by simp [hbw],h.2 hbw⟩
   ·rename_i l hb
    cases hx:env[d]? with
    | none=>simp [hx] at hb
    | some y =>
     simp only [hx,Option.getD_some] at hb
     subst hb
     obtain⟨v,hv,hr⟩:=zaL he d _ hx
     simp only [rep] at hr
     subst hr
     rw [Array.getElem?_toList] at hv
     simp only [hv]
     exact .inr ⟨by simp,h⟩
   ·exact h.elim
theorem ze5 {r:Option Nat} {n:Nat} {P:Program} {T:Tab} (hT:zaD P T) {ops:Array Oper} {w0:World} {O0:Nat→Prop} {m0:Ids} (hG:Glob w0 O0) {Q:Post}:∀ (l:List Oper) (env:Env) (σ:zaa) (a:Act) (w:World) (m:Ids),wops P T ops l env σ Q →
  Ext H w0 O0 m0 w (own H m σ) m→St H w m σ→reps w (own H m σ) m env a.tmps.toList→Mk w0.heap.size w (own H m σ) a.defers→wpListIn (FR r) n P ops (lift H w0 O0 m0 Q) l a w
 | [],env,σ,a,w,m,h,h0,hs,he,hd=>⟨.normal,env,σ,m,hs,h0,he,hd,trivial,h⟩
 | o::rest,env,σ,a,w,m,h,h0,hs,he,hd=>by
  simp only [wpListIn]
  simp only [wops] at h
  rcases zbj (a:=a) h he with ⟨hw,h⟩ | ⟨hw,h⟩
  ·rw [if_pos hw]
   have hop:=zcC hT (hG.mono h0) hs (o:=o) (ρ:=a.eval) h (zaO (hG.mono h0) he)
   exact zeq hG h0 hs he hd (zct h) hop fun v r w' m' σ' g1 g2 g3 g4 g5 => ze5 hT hG rest _ _ _ _ _ g5 g1 g2 g3 g4
  ·rw [if_neg (by simp [hw])]
   exact⟨fun _ _=>trivial,ze5 hT hG rest _ _ _ _ _ h h0 hs (zaM he _ (by simp only [rep])) (by rw [zaB];exact hd)⟩
mutual
def AV.ren (q:List Nat):AV→Option AV
 | .bot=>some .bot
 | .lit v=>some (.lit v)
 | .agg l=>(renL q l).map .agg
 | .tup l=>(renL q l).map .tup
 | .sl cs n=>(renL q cs).map (.sl · n)
 | .rp cs=>(renL q cs).map .rp
 | .ref id o l s=>(q[id]?).map (.ref · o l s)
 | .ptr id o=>(q[id]?).map (.ptr · o)
 | .yl id=>(q[id]?).map .yl
 | .mpt id=>(q[id]?).map .mpt
 | .fn f a b=>(renL q a).bind fun a'=>(renL q b).map fun b'=>.fn f a' b'
 | .ifc t a=>(a.ren q).map (.ifc t)
 | .sd id n=>(q[id]?).map (.sd · n)
 | .bsl id n=>(q[id]?).map (.bsl · n)
def renL (q:List Nat):List AV→Option (List AV)
 | []=>some []
 | a::l=>(a.ren q).bind fun a'=>(renL q l).map fun l'=>a'::l'
end
structure Ren (O:Nat→Prop) (m:Ids) (O':Nat→Prop) (m':Ids) (q:List Nat):Prop where
 own:∀ b,O' b→O b
 ids:∀ (i k g:Nat),q[i]?=some k→m[k]?=some (some g)→m'[i]?=some (some g)
 le:q.length≤m'.length
mutual
theorem zer {w:World} {O O':Nat→Prop} {m m':Ids} {q:List Nat} (R:Ren O m O' m' q):(x y:AV)→(v:Value)→x.ren q=some y→rep w O m y v→rep w O' m' x v
 | .bot,_,_,_,_=>by simp [rep]
 | .lit u,y,v,h,hr=>by
  simp only [AV.ren,Option.some.injEq] at h
  subst h
  simpa [rep] using hr
 | .agg l,y,v,h,hr=>by
  simp only [AV.ren,Option.map_eq_some_iff] at h
  obtain⟨l',h1,rfl⟩:=h
  simp only [rep] at hr ⊢
  obtain⟨a,e,h2⟩:=hr
  exact⟨a,e,zbB R l l' _ h1 h2⟩
 | .tup l,y,v,h,hr=>by
  simp only [AV.ren,Option.map_eq_some_iff] at h
  obtain⟨l',h1,rfl⟩:=h
  simp only [rep] at hr ⊢
  obtain⟨a,e,h2⟩:=hr
  exact⟨a,e,zbB R l l' _ h1 h2⟩
 | .sl cs n,y,v,h,hr=>by
  simp only [AV.ren,Option.map_eq_some_iff] at h
  obtain⟨l',h1,rfl⟩:=h
  simp only [rep] at hr ⊢
  obtain⟨ad,cap,e,e1,e2,h2⟩:=hr
  refine⟨ad,cap,e,e1,e2,?_⟩
  rcases h2 with rfl | ⟨b,off,e3,hO,hb,h3⟩
  ·cases cs with
   | nil=>exact .inl rfl
   | cons c cs =>
    simp only [renL,Option.bind_eq_some_iff,Option.map_eq_some_iff] at h1
    obtain⟨_,_,_,_,h1⟩:=h1
    cases h1
  ·exact .inr ⟨b,off,e3,fun ho=>hO (R.own b ho),hb,zbe R cs l' _ _ h1 h3⟩
 | .rp cs,y,v,h,hr=>by
  simp only [AV.ren,Option.map_eq_some_iff] at h
  obtain⟨l',h1,rfl⟩:=h
  simp only [rep] at hr ⊢
  obtain⟨b,off,e3,hO,hb,h3⟩:=hr
  exact⟨b,off,e3,fun ho=>hO (R.own b ho),hb,zbe R cs l' _ _ h1 h3⟩
 | .ref id o l s,y,v,h,hr=>by
  simp only [AV.ren,Option.map_eq_some_iff] at h
  obtain⟨k,h1,rfl⟩:=h
  simp only [rep] at hr ⊢
  rcases hr with ⟨e1,e2,e3,_⟩ | ⟨g,cap,c,e1,h2,rest⟩
  ·exact .inl ⟨e1,e2,e3,Nat.lt_of_lt_of_le (List.getElem?_eq_some_iff.1 h1).1 R.le⟩
  ·exact .inr ⟨g,cap,c,e1,R.ids _ _ _ h1 h2,rest⟩
 | .ptr id o,y,v,h,hr=>by
  simp only [AV.ren,Option.map_eq_some_iff] at h
  obtain⟨k,h1,rfl⟩:=h
  simp only [rep] at hr ⊢
  obtain⟨g,e1,h2⟩:=hr
  exact⟨g,e1,R.ids _ _ _ h1 h2⟩
 | .yl id,y,v,h,hr=>by
  simp only [AV.ren,Option.map_eq_some_iff] at h
  obtain⟨k,h1,rfl⟩:=h
  simp only [rep] at hr ⊢
  obtain⟨g,e1,h2⟩:=hr
  exact⟨g,e1,R.ids _ _ _ h1 h2⟩
 | .mpt id,y,v,h,hr=>by
  simp only [AV.ren,Option.map_eq_some_iff] at h
  obtain⟨k,h1,rfl⟩:=h
  simp only [rep] at hr ⊢
  obtain⟨g,e1,h2⟩:=hr
  exact⟨g,e1,R.ids _ _ _ h1 h2⟩
 | .fn f a b,y,v,h,hr=>by
  simp only [AV.ren,Option.bind_eq_some_iff,Option.map_eq_some_iff] at h
  obtain⟨a',h1,b',h2,rfl⟩:=h
  simp only [rep] at hr ⊢
  obtain⟨x,z,e,r1,r2⟩:=hr
  exact⟨x,z,e,zbB R a a' _ h1 r1,zbB R b b' _ h2 r2⟩
 | .ifc t a,y,v,h,hr=>by
  simp only [AV.ren,Option.map_eq_some_iff] at h
  obtain⟨a',h1,rfl⟩:=h
  simp only [rep] at hr ⊢
  obtain⟨u,e,r⟩:=hr
  exact⟨u,e,zer R a a' _ h1 r⟩
 | .sd id n,y,v,h,hr=>by
  simp only [AV.ren,Option.map_eq_some_iff] at h
  obtain⟨k,h1,rfl⟩:=h
  simp only [rep] at hr ⊢
  obtain⟨_,p,e,h2⟩:=hr
  refine⟨Nat.lt_of_lt_of_le (List.getElem?_eq_some_iff.1 h1).1 R.le,p,e,h2.imp (fun h=>h) ?_⟩
  rintro⟨g,e1,e2⟩
  exact⟨g,e1,R.ids _ _ _ h1 e2⟩
 | .bsl id n,y,v,h,hr=>by
  simp only [AV.ren,Option.map_eq_some_iff] at h
  obtain⟨k,h1,rfl⟩:=h
  simp only [rep] at hr ⊢
  rcases hr with ⟨e1,e2,_⟩ | ⟨g,cap,c,e1,h2,rest⟩
  ·exact .inl ⟨e1,e2,Nat.lt_of_lt_of_le (List.getElem?_eq_some_iff.1 h1).1 R.le⟩
  ·exact .inr ⟨g,cap,c,e1,R.ids _ _ _ h1 h2,rest⟩
theorem zbB {w:World} {O O':Nat→Prop} {m m':Ids} {q:List Nat} (R:Ren O m O' m' q):(l l':List AV)→(vs:List Value)→renL q l=some l'→reps w O m l' vs→reps w O' m' l vs
 | [],l',vs,h,hr=>by
  simp only [renL,Option.some.injEq] at h
  subst h
  simpa [reps] using hr
 | a::l,l',vs,h,hr=>by
  simp only [renL,Option.bind_eq_some_iff,Option.map_eq_some_iff] at h
  obtain⟨a',h1,l1,h2,rfl⟩:=h
  simp only [reps] at hr ⊢
  obtain⟨v,r,e,r1,r2⟩:=hr
  exact⟨v,r,e,zer R a a' _ h1 r1,zbB R l l1 _ h2 r2⟩
theorem zbe {w:World} {O O':Nat→Prop} {m m':Ids} {q:List Nat} (R:Ren O m O' m' q):(l l':List AV)→(b off:Nat)→renL q l=some l'→zaJ w O m b l' off→zaJ w O' m' b l off
 | [],_,_,_,_,_=>by simp [zaJ]
 | a::l,l',b,off,h,hr=>by
  simp only [renL,Option.bind_eq_some_iff,Option.map_eq_some_iff] at h
  obtain⟨a',h1,l1,h2,rfl⟩:=h
  simp only [zaJ] at hr ⊢
  obtain⟨⟨v,e,r1⟩,r2⟩:=hr
  exact⟨⟨v,e,zer R a a' _ h1 r1⟩,zbe R l l1 _ _ h2 r2⟩
end
def Blk.ren (q:List Nat):Blk→Option Blk
 | .rw cs=>(renL q cs).map .rw
 | .ro cs=>(renL q cs).map .ro
 | .rt x e cs=>(renL q cs).map (.rt x e)
 | .dead=>some .dead
 | .lp st pend env ps as9 bd=>(renL q env).map (.lp st pend · ps as9 bd)
 | .mpb ks vs=>(renL q vs).map (.mpb ks ·)
 | .mpi ks vs sn=>(renL q vs).map (.mpi ks · sn)
 | .fz e k cs=>(renL q cs).map (.fz e k ·)
def leR (q:List Nat):Env→Env→Prop
 | [],[]=>True
 | a::l,b::r=>(b=.bot∨b.ren q=some a)∧leR q l r
 | _,_=>False
def zaw (σ:zaa) (q:List Nat):List Nat→zaa→Prop
 | [],[]=>True
 | k::ks,x::xs=>(x=.dead∨∃ y,x.ren q=some y∧σ[k]?=some y)∧zaw σ q ks xs
 | _,_=>False
theorem leR_sound {w:World} {O O':Nat→Prop} {m m':Ids} {q:List Nat} (R:Ren O m O' m' q):∀ {e e':Env} {vs:List Value},leR q e e'→reps w O m e vs→reps w O' m' e' vs
 | [],[],_,_,h=>by simpa [reps] using h
 | a::l,b::r,vs,hle,h=>by
  simp only [reps] at h ⊢
  obtain⟨v,z,rfl,h1,h2⟩:=h
  refine⟨v,z,rfl,?_,leR_sound R hle.2 h2⟩
  rcases hle.1 with rfl | h3
  ·simp [rep]
  ·exact zer R _ _ _ h3 h1
 | [],_::_,_,hle,_=>hle.elim
 | _::_,[],_,hle,_=>hle.elim
theorem zf0 {σ : zaa} {q : List Nat} : ∀ {ks : List Nat} {σ' : zaa}, zaw σ q ks σ' → ∀ (i : Nat) (x : Blk), σ'[i]? = some x → x = .dead ∨ ∃ k y, ks[i]? = some k ∧ x.ren q = some y ∧ σ[k]? = some y
 | [],[],_,i,x,hx=>by simp at hx
 | k::ks,y::ys,h,0,x,hx=>by
  simp at hx
  subst hx
  rcases h.1 with h1 | ⟨z,h1,h2⟩
  ·exact .inl h1
  ·exact .inr ⟨k,z,by simp,h1,h2⟩
 | k::ks,y::ys,h,i+1,x,hx=>by
  simpa using zf0 h.2 i x (by simpa using hx)
 | [],_::_,h,_,_,_=>h.elim
 | _::_,[],h,_,_,_=>h.elim
def leI:Env→Env→Prop
 | [],[]=>True
 | a::l,b::r=>(b=.bot∨b=a)∧leI l r
 | _,_=>False
theorem leI_sound {w:World} {O:Nat→Prop} {m:Ids}:∀ {e e':Env} {vs:List Value},leI e e'→reps w O m e vs→reps w O m e' vs
 | [],[],_,_,h=>h
 | a::l,b::r,vs,hle,h=>by
  simp only [reps] at h ⊢
  obtain⟨v,z,rfl,h1,h2⟩:=h
  refine⟨v,z,rfl,?_,leI_sound hle.2 h2⟩
  rcases hle.1 with rfl | rfl
  ·simp [rep]
  ·exact h1
 | [],_::_,_,hle,_=>hle.elim
 | _::_,[],_,hle,_=>hle.elim
omit [Globs] in
theorem zjf {α:Type} {l:List α} {i:Nat} {x:α} (h:l[i]?=some x):l.set i x=l:=by
 apply List.ext_getElem?
 intro j
 by_cases hij:i=j
 ·subst hij
  have:=(List.getElem?_eq_some_iff.1 h).1
  rw [List.getElem?_set_self this,h]
 ·rw [List.getElem?_set_ne hij]
inductive Prep:Env→zaa→Env→zaa→Prop
 | refl (env:Env) (σ:zaa):Prep env σ env σ
 | nil {env e:Env} {σ s:zaa} (t:Tmp) (sz:Nat) (h:env[t]?=some (.lit (.slice none 0 0))) (k:Prep (env.set t (.ref σ.length 0 0 sz)) (σ++[.rw []]) e s):Prep env σ e s
 | frz {env e:Env} {σ s:zaa} (t:Tmp) {id off len sz:Nat} {cs:List AV} (h:env[t]?=some (.ref id off len sz)) (hc:σ[id]?=some (.rw cs)) (hle:off+len * sz≤cs.length) (k:Prep (env.set t (.sl ((cs.drop off).take (len * sz)) len)) (σ.set id (.ro cs)) e s):Prep env σ e s
 | ro {env e:Env} {σ s:zaa} (i:Nat) {ds:List AV} (h:σ[i]?=some (.rw ds)) (k:Prep env (σ.set i (.ro ds)) e s):Prep env σ e s
 | tell {env e:Env} {σ s:zaa} (i:Nat) {cs cs':List AV} (h:σ[i]?=some (.rw cs)) (hc:frzL σ cs cs') (k:Prep env (σ.set i (.rw cs')) e s):Prep env σ e s
 | telle {env e:Env} {σ s:zaa} (t:Tmp) {a b:AV} (h:env[t]?=some a) (hc:frzA σ a b) (k:Prep (env.set t b) σ e s):Prep env σ e s
 | mv {env e:Env} {σ s:zaa} (t:Tmp) {id off len sz:Nat} {cs:List AV} (h:env[t]?=some (.ref id off len sz)) (hc:σ[id]?=some (.rw cs)) (k:Prep (env.set t (.ref σ.length off len sz)) (σ.set id .dead++[.rw cs]) e s):Prep env σ e s
omit [Globs] in
theorem Prep.sound {w:World} {env e:Env} {σ s:zaa} (h:Prep env σ e s):∀ {m:Ids} {vs:List Value},St H w m σ→reps w (own H m σ) m env vs→∃ m',St H w m' s∧Ext H w (own H m σ) m w (own H m' s) m'∧reps w (own H m' s) m' e vs:=by
 induction h with
 | refl env σ=>intro m vs hs he;exact⟨m,hs,Ext.refl _ _ _,he⟩
 | @nil env e σ s t sz h k ih =>
  intro m vs hs he
  obtain⟨s1,x1⟩:=hs.more (w':=w) (g:=none) (x:=.rw []) (Nat.le_refl _) (fun _ _=>rfl) rfl rfl rfl (fun b hb=>by cases hb) (fun _=>.inl ⟨rfl,rfl⟩)
  obtain⟨v,hv,hr⟩:=zaL he t _ h
  simp only [rep] at hr
  have he1:=zah x1 _ _ he
  have:=zcW he1 t (x:=.ref σ.length 0 0 sz) (v:=v) (by
   simp only [rep]
   exact .inl ⟨hr,trivial,trivial,by simp [hs.len]⟩)
  rw [zjf hv] at this
  obtain⟨m',g1,g2,g3⟩:=ih s1 this
  exact⟨m',g1,x1.trans g2,g3⟩
 | @frz env e σ s t id off len sz cs h hc hle k ih =>
  intro m vs hs he
  obtain⟨s1,x1⟩:=hs.letgo (i:=id) (x:=.ro cs) (.inr ⟨cs,hc,0,cs.length,by simp,rfl⟩)
  obtain⟨v,hv,hr⟩:=zaL he t _ h
  have hr:=zaP x1 _ _ hr
  have he1:=zah x1 _ _ he
  have hil:id < σ.length:=(List.getElem?_eq_some_iff.1 hc).1
  have hn:rep w (own H m (σ.set id (.ro cs))) m (.sl ((cs.drop off).take (len * sz)) len) v:=by
   simp only [rep] at hr ⊢
   rcases hr with ⟨rfl,rfl,rfl,_⟩ | ⟨g,cap,c,rfl,hm,hlc,hcm,_⟩
   ·exact⟨none,0,rfl,Nat.le_refl _,by simp [maxLen],.inl (by simp)⟩
   ·refine⟨_,cap,rfl,hlc,hcm,?_⟩
    rcases s1.blk id (.ro cs) (some g) (by simp [hil]) hm with h2 | ⟨g',e,hO,hat⟩
    ·exact .inl (by simp [h2])
    ·cases e
     by_cases hne:cs=[]
     ·exact .inl (by simp [hne])
     ·have hat3:=zbu (zbE hat off) (len * sz)
      rw [Nat.zero_add] at hat3
      exact .inr ⟨g,off,rfl,hO,zbx hat hne,hat3⟩
  have:=zcW he1 t hn
  rw [zjf hv] at this
  obtain⟨m',g1,g2,g3⟩:=ih s1 this
  exact⟨m',g1,x1.trans g2,g3⟩
 | @ro env e σ s i ds h k ih =>
  intro m vs hs he
  obtain⟨s1,x1⟩:=hs.letgo (i:=i) (x:=.ro ds) (.inr ⟨ds,h,0,ds.length,by simp,rfl⟩)
  obtain⟨m',g1,g2,g3⟩:=ih s1 (zah x1 _ _ he)
  exact⟨m',g1,x1.trans g2,g3⟩
 | @tell env e σ s i cs cs' h hc k ih =>
  intro m vs hs he
  obtain⟨s1,x1⟩:=hs.retell h hc
  obtain⟨m',g1,g2,g3⟩:=ih s1 (zah x1 _ _ he)
  exact⟨m',g1,x1.trans g2,g3⟩
 | @telle env e σ s t a b h hc k ih =>
  intro m vs hs he
  obtain⟨v,hv,hr⟩:=zaL he t _ h
  have:=zcW he t (zdY hs _ _ _ hc hr)
  rw [zjf hv] at this
  exact ih hs this
 | @mv env e σ s t id off len sz cs h hc k ih =>
  intro m vs hs he
  obtain⟨mi,hmi⟩:=hs.id hc
  obtain⟨s1,x1⟩:=hs.move hc hmi
  obtain⟨v,hv,hr⟩:=zaL he t _ h
  have hr:=zaP x1 _ _ hr
  have he1:=zah x1 _ _ he
  have hn:rep w (own H (m++[mi]) (σ.set id .dead++[.rw cs])) (m++[mi]) (.ref σ.length off len sz) v:=by
   simp only [rep] at hr ⊢
   rcases hr with ⟨e1,e2,e3,_⟩ | ⟨g,cap,c,e1,hm,rest⟩
   ·exact .inl ⟨e1,e2,e3,by simp [hs.len]⟩
   ·refine .inr ⟨g,cap,c,e1,?_,rest⟩
    rw [x1.ids _ _ hmi] at hm
    cases hm
    rw [← hs.len]
    simp
  have:=zcW he1 t hn
  rw [zjf hv] at this
  obtain⟨m',g1,g2,g3⟩:=ih s1 this
  exact⟨m',g1,x1.trans g2,g3⟩
def fits1 (n0 : Nat) (env : Env) (σ : zaa) (env' : Env) (σ' : zaa) : Prop :=
 (σ' = σ ∧ leI env env') ∨ ∃ q : List Nat, q.length = σ'.length ∧ q.take n0 = List.range n0 ∧ q.Nodup ∧ leR q env env' ∧ zaw σ q q σ'
def fits (n0 : Nat) (env : Env) (σ : zaa) (env' : Env) (σ' : zaa) : Prop := ∃ e s, Prep env σ e s ∧ fits1 n0 e s env' σ'
omit [Globs] in
theorem zbv {n0 : Nat} {env env' : Env} {σ σ' : zaa} (t : Tmp) (sz : Nat) (h : env[t]? = some (.lit (.slice none 0 0))) (k : fits n0 (env.set t (.ref σ.length 0 0 sz)) (σ ++ [.rw []]) env' σ') : fits n0 env σ env' σ' :=
 let ⟨e,s,p,q⟩:=k;⟨e,s,.nil t sz h p,q⟩
omit [Globs] in
theorem zhF {n0 : Nat} {env env' : Env} {σ σ' : zaa} (i : Nat) {ds : List AV} (h : σ[i]? = some (.rw ds)) (k : fits n0 env (σ.set i (.ro ds)) env' σ') : fits n0 env σ env' σ' :=
 let ⟨e,s,p,q⟩:=k;⟨e,s,.ro i h p,q⟩
omit [Globs] in
theorem zf1 {n0 : Nat} {env env' : Env} {σ σ' : zaa} (i : Nat) {cs cs' : List AV} (h : σ[i]? = some (.rw cs)) (hc : frzL σ cs cs') (k : fits n0 env (σ.set i (.rw cs')) env' σ') : fits n0 env σ env' σ' :=
 let ⟨e,s,p,q⟩:=k;⟨e,s,.tell i h hc p,q⟩
omit [Globs] in
theorem fits_frz {n0 : Nat} {env env' : Env} {σ σ' : zaa} (t : Tmp) {id off len sz : Nat} {cs : List AV} (h : env[t]? = some (.ref id off len sz)) (hc : σ[id]? = some (.rw cs)) (hle : off + len * sz ≤ cs.length) (k : fits n0 (env.set t (.sl ((cs.drop off).take (len * sz)) len)) (σ.set id (.ro cs)) env' σ') : fits n0 env σ env' σ' :=
 let ⟨e,s,p,q⟩:=k;⟨e,s,.frz t h hc hle p,q⟩
theorem zbc {q:List Nat}:∀ {l l':List AV},renL q l=some l'→l'.length=l.length
 | [],l',h=>by
  simp only [renL,Option.some.injEq] at h
  simp [← h]
 | a::l,l',h=>by
  simp only [renL,Option.bind_eq_some_iff,Option.map_eq_some_iff] at h
  obtain⟨a',_,l1,h2,rfl⟩:=h
  simp [zbc h2]
theorem nodup_get {l:List Nat} (h:l.Nodup) {i j k:Nat} (hi:l[i]?=some k) (hj:l[j]?=some k):i=j:=by
 obtain⟨h1,e1⟩:=List.getElem?_eq_some_iff.1 hi
 obtain⟨h2,e2⟩:=List.getElem?_eq_some_iff.1 hj
 have hp:=List.pairwise_iff_getElem.1 h
 rcases Nat.lt_trichotomy i j with hlt | he | hlt
 ·exact absurd (e1.trans e2.symm) (hp i j h1 h2 hlt)
 ·exact he
 ·exact absurd (e2.trans e1.symm) (hp j i h2 h1 hlt)
theorem St.ren {w : World} {m : Ids} {σ σ' : zaa} {q : List Nat} (hs : St H w m σ) (hql : q.length = σ'.length) (hnd : q.Nodup) (hk : zaw σ q q σ') :
  ∃ m', St H w m' σ' ∧ Ren (own H m σ) m (own H m' σ') m' q ∧ m' = q.map (fun k => (m[k]?).join) := by
 let m':Ids:=q.map (fun k=>(m[k]?).join)
 have hget:∀ (i:Nat) (y:Option Nat),m'[i]?=some y→∃ k,q[i]?=some k∧(m[k]?).join=y:=by
  intro i y hy
  simp only [m',List.getElem?_map,Option.map_eq_some_iff] at hy
  exact hy
 have hrw : ∀ (i : Nat) (x : Blk), (σ'[i]? = some x ∧ x.owned = true) → ∃ k y, q[i]? = some k ∧ (σ[k]? = some y ∧ y.owned = true) := by
  rintro i x ⟨hi,ho⟩
  rcases zf0 hk i _ hi with h1 | ⟨k,y,h1,h2,h3⟩
  ·subst h1;cases ho
  ·refine⟨k,y,h1,h3,?_⟩
   cases x <;> simp only [Blk.ren,Option.map_eq_some_iff,Option.some.injEq] at h2 <;> first | (obtain⟨_,_,rfl⟩:=h2;exact ho) | (subst h2;exact ho)
 have hown : ∀ b, own H m' σ' b → own H m σ b := by
  rintro b (hH | ⟨i,cs,hi,hm⟩)
  ·exact .inl hH
  ·obtain⟨k,cs',h1,h2⟩:=hrw i cs hi
   obtain⟨k',h4,h5⟩:=hget i _ hm
   rw [h1] at h4
   cases h4
   refine .inr ⟨k,cs',h2,?_⟩
   cases hmk:m[k]? with
   | none=>simp [hmk] at h5
   | some z=>simp only [hmk,Option.join_some] at h5;rw [h5]
 have R : Ren (own H m σ) m (own H m' σ') m' q := by
  refine⟨hown,fun i k g h1 h2=>?_,by simp [m']⟩
  simp [m',h1,h2]
 refine⟨m',⟨by simp [m',hql],?_,?_,?_⟩,R,rfl⟩
 ·intro i x mi hx hmi
  obtain⟨k,h1,h2⟩:=hget i mi hmi
  rcases zf0 hk i x hx with rfl | ⟨k',y,h3,h4,h5⟩
  ·trivial
  ·rw [h1] at h3
   cases h3
   obtain⟨mk,hmk⟩:=hs.id h5
   rw [hmk,Option.join_some] at h2
   subst h2
   have hb:=hs.blk k y mk h5 hmk
   cases x with
   | dead=>trivial
   | ro cs =>
    simp only [Blk.ren,Option.map_eq_some_iff] at h4
    obtain⟨cs',h4,rfl⟩:=h4
    rcases hb with rfl | ⟨g,e,hO,hat⟩
    ·cases cs with
     | nil=>exact .inl rfl
     | cons c cs =>
      simp only [renL,Option.bind_eq_some_iff,Option.map_eq_some_iff] at h4
      obtain⟨_,_,_,_,h4⟩:=h4
      cases h4
    ·exact .inr ⟨g,e,fun ho=>hO (hown g ho),zbe R _ _ _ _ h4 hat⟩
   | rw cs =>
    simp only [Blk.ren,Option.map_eq_some_iff] at h4
    obtain⟨cs',h4,rfl⟩:=h4
    have hl:cs'.length=cs.length:=zbc h4
    rcases hb with ⟨rfl,e⟩ | ⟨g,c,e,hr,hle,hat⟩
    ·exact .inl ⟨List.eq_nil_of_length_eq_zero (by simpa using hl.symm),e⟩
    ·exact .inr ⟨g,c,e,hr,by omega,zbe R _ _ _ _ h4 hat⟩
   | rt xx ee cs =>
    simp only [Blk.ren,Option.map_eq_some_iff] at h4
    obtain⟨cs',h4,rfl⟩:=h4
    have hl:cs'.length=cs.length:=zbc h4
    rcases hb with ⟨e0,rfl,e⟩ | ⟨g,c,e,hr,hle,hx,hat⟩
    ·exact .inl ⟨e0,List.eq_nil_of_length_eq_zero (by simpa using hl.symm),e⟩
    ·exact .inr ⟨g,c,e,hr,by omega,fun h=>by rw [hx h,hl],zbe R _ _ _ _ h4 hat⟩
   | lp st pend env ps as9 bd =>
    simp only [Blk.ren,Option.map_eq_some_iff] at h4
    obtain⟨env',h4,rfl⟩:=h4
    obtain⟨g,e,L,h1,h2,h3,h4',h5,h6,h7⟩:=hb
    exact⟨g,e,L,h1,h2,h3,h4',h5,h6,zbB R _ _ _ h4 h7⟩
   | mpb ks vs =>
    simp only [Blk.ren,Option.map_eq_some_iff] at h4
    obtain⟨vs',h4,rfl⟩:=h4
    obtain⟨g,e,hM⟩:=hb
    exact⟨g,e,hM.imp rfl fun _ hl=>zbB R _ _ _ h4 hl⟩
   | mpi ks vs sn =>
    simp only [Blk.ren,Option.map_eq_some_iff] at h4
    obtain⟨vs',h4,rfl⟩:=h4
    obtain⟨g,e,hM⟩:=hb
    exact⟨g,e,hM.imp hown fun _ hl=>zbB R _ _ _ h4 hl⟩
   | fz fe fk fc =>
    simp only [Blk.ren,Option.map_eq_some_iff] at h4
    obtain⟨cs',h4,rfl⟩:=h4
    have hl:=zbc h4
    obtain⟨g,e,c,hi,k1,k1',k2,k3⟩:=hb
    exact⟨g,e,c,hi,k1,k1',by omega,zbe R _ _ _ _ h4 k3⟩
 ·intro i j ci cj g hi hj hmi hmj
  obtain⟨k,c1,h1,h2⟩:=hrw i ci hi
  obtain⟨l,c2,h3,h4⟩:=hrw j cj hj
  obtain⟨k',h5,h6⟩:=hget i _ hmi
  obtain⟨l',h7,h8⟩:=hget j _ hmj
  rw [h1] at h5
  rw [h3] at h7
  cases h5
  cases h7
  have e1:m[k]?=some (some g):=by
   cases hmk:m[k]? with
   | none=>simp [hmk] at h6
   | some z=>simp only [hmk,Option.join_some] at h6;rw [h6]
  have e2:m[l]?=some (some g):=by
   cases hmk:m[l]? with
   | none=>simp [hmk] at h8
   | some z=>simp only [hmk,Option.join_some] at h8;rw [h8]
  have hkl:=hs.inj k l c1 c2 g h2 h4 e1 e2
  subst hkl
  exact nodup_get hnd h1 h3
 ·intro b hb
  refine⟨(hs.hid b hb).1,fun i cs hi hm=>?_⟩
  obtain⟨k,cs',h1,h2⟩:=hrw i cs hi
  obtain⟨k',h4,h5⟩:=hget i _ hm
  rw [h1] at h4
  cases h4
  refine(hs.hid b hb).2 k cs' h2 ?_
  cases hmk:m[k]? with
  | none=>simp [hmk] at h5
  | some z=>simp only [hmk,Option.join_some] at h5;rw [h5]
theorem fits1_sound {w0 w : World} {O0 : Nat → Prop} {m0 : Ids} {m : Ids} {env env' : Env} {σ σ' : zaa} {vs : List Value} {n0 : Nat} (h : fits1 n0 env σ env' σ') (hs : St H w m σ) (he : reps w (own H m σ) m env vs)
  (h0:Ext H w0 O0 m0 w (own H m σ) m) (hm:m0.length=n0) :
  ∃ m', St H w m' σ' ∧ reps w (own H m' σ') m' env' vs ∧ Ext H w0 O0 m0 w (own H m' σ') m' ∧ ∀ b, own H m' σ' b → own H m σ b := by
 rcases h with ⟨rfl,h1⟩ | ⟨q,h1,h2,h3,h4,h5⟩
 ·exact⟨m,hs,leI_sound h1 he,h0,fun _ h=>h⟩
 obtain⟨m',g1,R,g3⟩:=hs.ren h1 h3 h5
 refine⟨m',g1,leR_sound R h4 he,⟨h0.heap,h0.same,fun b hb=>h0.own b (R.own b hb),fun i x hx=>?_,h0.rows,h0.os,h0.tape,h0.output,h0.hid⟩,R.own⟩
 have hi:=(List.getElem?_eq_some_iff.1 hx).1
 have hq:q[i]?=some i:=by
  have:=congrArg (fun l=>l[i]?) h2
  simp only [List.getElem?_take] at this
  rw [if_pos (by omega),List.getElem?_range (by omega)] at this
  exact this
 rw [g3,List.getElem?_map,hq]
 simp [h0.ids i x hx]
theorem zdZ {w0 w : World} {O0 : Nat → Prop} {m0 : Ids} {m : Ids} {env env' : Env} {σ σ' : zaa} {vs : List Value} {n0 : Nat} (h : fits n0 env σ env' σ') (hs : St H w m σ) (he : reps w (own H m σ) m env vs)
  (h0:Ext H w0 O0 m0 w (own H m σ) m) (hm:m0.length=n0) :
  ∃ m', St H w m' σ' ∧ reps w (own H m' σ') m' env' vs ∧ Ext H w0 O0 m0 w (own H m' σ') m' ∧ ∀ b ds, Mk b w (own H m σ) ds → Mk b w (own H m' σ') ds := by
 obtain⟨e,s,p,q⟩:=h
 obtain⟨m1,s1,x1,e1⟩:=p.sound hs he
 obtain⟨m2,s2,e2,x2,o2⟩:=fits1_sound q s1 e1 (h0.trans x1) hm
 exact⟨m2,s2,e2,x2,fun b ds hd=>(hd.mono x1).own o2⟩
def wnil (P:Program) (x:AV) (K:AV→Prop):Prop:=match x with
  | .ptr id off=>K (.ptr id off)
  | .rp cs=>K (.rp cs)
  | .fn (.func f) a b=>K (.fn (.func f) a b)
  | .yl id=>K (.yl id)
  | .fn (.method n) [.ifc t v] b=>(∃ f,mrow P t n f false=true)∧K (.fn (.method n) [.ifc t v] b)
  | _=>False
theorem St.old {w w':World} {m:Ids} {σ:zaa} (h:St H w m σ) (hsz:w.heap.size≤w'.heap.size) (hold:∀ b,b < w.heap.size→w'.heap[b]?=w.heap[b]?) (hos:w'.os=w.os) (htape:w'.tape=w.tape) (hout:w'.output=w.output) :
  St H w' m σ∧Ext H w (own H m σ) m w' (own H m σ) m:=by
 have hext:Ext H w (own H m σ) m w' (own H m σ) m:=by
  refine⟨hsz,fun b hb _=>hold b hb,fun b hb=>.inl hb,fun _ _ hx=>hx,fun b c hr=>⟨c,?_,rfl⟩,hos,htape,hout,fun b hb=>hold b (h.hid b hb).1⟩
  have hlt:=hr.lt
  obtain⟨e,f,h1⟩:=hr
  exact⟨e,f,(hold b hlt).trans h1⟩
 refine⟨⟨h.len,fun i x mi hx hmi=>?_,h.inj,fun b hb=>⟨Nat.lt_of_lt_of_le (h.hid b hb).1 hsz,(h.hid b hb).2⟩⟩,hext⟩
 have hb:=h.blk i x mi hx hmi
 cases x with
 | dead=>trivial
 | ro cs =>
  rcases hb with h1 | ⟨g,e1,h1,h2⟩
  ·exact .inl h1
  ·by_cases hcs:cs=[]
   ·exact .inl hcs
   ·have hlt:=zbx h2 hcs
    exact .inr ⟨g,e1,h1,zbb hext (hold g hlt) h2⟩
 | rw cs =>
  rcases hb with h1 | ⟨g,c,e1,hr,h1,h2⟩
  ·exact .inl h1
  ·exact .inr ⟨g,c,e1,hr.move (hold g hr.lt),h1,zbb hext (hold g hr.lt) h2⟩
 | rt xx ee cs =>
  rcases hb with h1 | ⟨g,c,e1,hr,h1,h1',h2⟩
  ·exact .inl h1
  ·exact .inr ⟨g,c,e1,hr.move (hold g hr.row.lt),h1,h1',zbb hext (hold g hr.row.lt) h2⟩
 | lp st pend env ps as9 bd =>
  obtain⟨g,e1,h1⟩:=hb
  exact⟨g,e1,h1.move hext (hold g h1.lt)⟩
 | mpb ks vs =>
  obtain⟨g,e1,h1⟩:=hb
  exact⟨g,e1,h1.move hext (hold g h1.lt)⟩
 | mpi ks vs sn =>
  obtain⟨g,e1,h1⟩:=hb
  exact⟨g,e1,h1.move hext (hold g h1.lt)⟩
 | fz fe fk fc =>
  obtain⟨g,e1,h1⟩:=hb
  exact⟨g,e1,h1.move hext (hold g h1.lt)⟩
end Go.Eng
end

