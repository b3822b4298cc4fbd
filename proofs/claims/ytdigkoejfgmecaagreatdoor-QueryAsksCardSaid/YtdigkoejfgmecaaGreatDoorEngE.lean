/-
  Regions whose order is open: each rule is proved sound. No condition.
-/
import Derived.Test.YtdigkoejfgmecaaGreatDoorEngD
import Derived.Still
set_option linter.unusedSimpArgs false
set_option linter.unusedVariables false
set_option linter.unusedSectionVars false
section
namespace Go.Eng
open Go
theorem aQ15 {P Q:Prop} (h:Q) (e:P=Q:=by first|(simp only [Bool.or_eq_true,List.any_eq_true];first|done|exact rfl)|exact rfl):P:=e ▸ h
theorem aQ16 {P Q:Prop} (h:Q) (e:P=Q:=by first|(simp only [zae,Array.getD_eq_getD_getElem?,Array.getElem?_replicate];first|done|exact rfl)|exact rfl):P:=e ▸ h
end Go.Eng
end

section
namespace Go.Eng
open Go
variable {H : Nat → Prop} [Globs]
def Det (F:(AV→Prop)→Prop):Prop:=∀ K,F K→∃ v,F (fun r=>r=v)∧K v
theorem zak {c:Prop} {F:(AV→Prop)→Prop} (h:Det F):Det (fun K=>c∧F K):=fun K hk=>by
 obtain⟨v,h1,h2⟩:=h K hk.2
 exact⟨v,⟨hk.1,h1⟩,h2⟩
theorem zaH (v:AV):Det (fun K=>K v):=fun _ hk=>⟨v,rfl,hk⟩
theorem zc7 {α:Type} {p:α→Prop} {F:α→(AV→Prop)→Prop} (h:∀ a,Det (F a)):Det (fun K=>∃ a,p a∧F a K):=fun K ⟨a,h1,h2⟩=>by
 obtain⟨v,h3,h4⟩:=h a K h2
 exact⟨v,⟨a,h1,h3⟩,h4⟩
theorem det_two {p:Bool} {F G:(AV→Prop)→Prop} (h:Det F) (g:Det G):Det (fun K=>(p=true→F K)∧(p=false→G K)):=fun K ⟨h1,h2⟩=>by
 cases p with
 | true=>obtain⟨v,h3,h4⟩:=h K (h1 rfl);exact⟨v,⟨fun _=>h3,fun e=>by cases e⟩,h4⟩
 | false=>obtain⟨v,h3,h4⟩:=g K (h2 rfl);exact⟨v,⟨fun e=>(by cases e),fun _=>h3⟩,h4⟩
theorem zeN (k:IntKind) (z:Int):Det (fun K=>zeH k z (fun v=>K (.lit v))):=by
 cases k <;> first | exact zak (zaH _) | exact zaH _
theorem det_wbin (T:Tab) (op:BinOp) (t:TypeId) (x y:AV):Det (wbin T op t x y):=by
 intro K h
 unfold wbin at h ⊢
 split at h
 ·split at h
  ·exact zak (zaH _) K h
  ·exact zak (zaH _) K h
  ·exact zak (zeN _ _) K h
  ·exact zak (zeN _ _) K h
  ·exact zak (zeN _ _) K h
  ·exact zak (zak (zeN _ _)) K h
  ·exact zak (zak (zaH _)) K h
  ·refine zak (F:=fun K=>match zdT op _ _ _ with | some v=>K (.lit v) | none=>match cmpV op _ _ with | some c=>K (.lit (.bool c)) | none=>False) ?_ K h
   intro K h
   split at h
   ·rename_i v hv;exact⟨_,by simp only [hv],h⟩
   ·rename_i hv
    split at h
    ·rename_i c hc;exact⟨_,by simp only [hv,hc],h⟩
    ·exact h.elim
 ·cases op <;> simp only [strV] at h ⊢ <;> first | exact h.elim | exact zaH _ K h | exact zak (zaH _) K h
 ·split at h
  ·exact zak (zaH _) K h
  ·exact zak (zaH _) K h
  ·exact h.elim
 ·split at h
  ·exact zak (zaH _) K h
  ·exact zak (zaH _) K h
  ·exact h.elim
 ·split at h
  ·exact zc7 (fun _=>zaH _) K h
  ·exact zc7 (fun _=>zaH _) K h
  ·exact h.elim
 ·exact h.elim
theorem det_wnilc (T:Tab) (op:BinOp) (t:TypeId) (x:AV):Det (zjc T op t x):=by
 intro K h
 unfold zjc at h ⊢
 split at h
 ·split at h
  ·exact zak (zaH _) K h
  ·exact zak (zaH _) K h
  ·exact h.2.elim
 ·exact h.elim
theorem det_wbinO (T:Tab) (op:BinOp) (t:TypeId) (x y:Operand) (ev:Operand→AV):Det (zjd T op t x y ev):=by
 intro K h
 unfold zjd at h ⊢
 split at h
 ·exact zak (det_wnilc _ _ _ _) K h
 ·exact det_wbin _ _ _ _ _ K h
theorem det_qbinW (T:Tab) (op:BinOp) (t:TypeId) (x y:Operand) (ev:Operand→AV):Det (zje T op t x y ev):=by
 intro K h
 unfold zje at h ⊢
 split at h
 ·exact h.elim
 ·exact det_wbinO _ _ _ _ _ _ K h
theorem det_wmkI (T:Tab) (t:TypeId) (x:AV):Det (wmkI T t x):=by
 intro K h
 unfold wmkI at h ⊢
 split at h
 ·exact zak (zaH _) K h
 ·exact h.elim
theorem det_wassert (P:Program) (T:Tab) (a:TypeId) (ok:Bool) (x:AV):Det (zeM P T a ok x):=by
 intro K h
 unfold zeM at h ⊢
 split at h
 ·exact h.elim
 ·split at h
  ·rename_i t v hx
   simp only [hx]
   split at h
   ·rename_i hc
    simp only [hc,if_true]
    split at h
    ·rename_i he
     simp only [he,if_true]
     exact zaH _ K h
    ·rename_i he
     simp only [he,if_false]
     exact zak (zaH _) K h
   ·rename_i hc
    simp only [hc,if_false]
    exact zc7 (fun b=>det_two (zaH _) (zak (zaH _))) K h
  ·rename_i ti _ _ hx
   simp only [hx]
   have hd:Det (fun K:AV→Prop=>if ti.zero.length=1∧ti.d.agg=true then ∃ z:Value,(∃ i,P.info? a=some i∧i.zero=some (.agg #[z]))∧K (.tup [.agg [.lit z],.lit (.bool false)]) else K (.tup [zAV ti,.lit (.bool false)])):=by
    intro K h
    by_cases hc:ti.zero.length=1∧ti.d.agg=true
    ·simp only [if_pos hc] at h ⊢
     obtain⟨z,hz,hk⟩:=h
     exact⟨_,⟨z,hz,rfl⟩,hk⟩
    ·simp only [if_neg hc] at h ⊢
     exact zaH _ K h
   exact zak (zak (zak hd)) K h
theorem det_wslice3 (T:Tab) (t:TypeId) (x:AV) (lo hi:Option AV) (mx:AV):Det (zgs T t x lo hi mx):=by
 intro K h
 unfold zgs at h ⊢
 split at h
 ·exact h.elim
 ·rename_i ti hti
  split at h
  ·rename_i hd
   simp only [hd]
   split at h
   ·exact zc7 (fun te=>zak (zak (zak (zak (zak (zaH _)))))) K h
   ·exact h.elim
  ·rename_i hd
   simp only [hd]
   split at h
   ·exact zak (zak (zak (zak (zaH _)))) K h
   ·exact h.elim
  ·rename_i hd
   simp only [hd]
   split at h
   ·exact zc7 (fun te=>zak (zak (zak (zak (zak (zaH _)))))) K h
   ·exact h.elim
  ·exact h.elim
theorem det_wun (op:UnOp) (x:AV):Det (wun op x):=by
 intro K h
 unfold wun at h ⊢
 split at h
 ·exact zeN _ _ K h
 ·split at h
  ·rename_i v hv;exact⟨_,by simp only [hv],h⟩
  ·exact h.elim
 ·exact⟨_,rfl,h⟩
 ·exact h.elim
theorem det_wextract (x:AV) (i:Nat):Det (zcd x i):=by
 intro K h
 unfold zcd at h ⊢
 split at h
 ·split at h
  ·rename_i a ha;exact⟨_,by simp only [ha],h⟩
  ·exact h.elim
 ·exact h.elim
theorem det_wpick (c a b:AV):Det (zgv c a b):=by
 intro K h
 unfold zgv at h ⊢
 split at h
 ·exact det_two (zaH _) (zaH _) K h
 ·exact h.elim
theorem zhG (mx:Bool) (xs:List AV):Det (zbW mx xs):=by
 intro K h
 unfold zbW at h ⊢
 split at h
 ·exact zak (zaH _) K h
 ·exact h.elim
theorem det_wlen (T:Tab) (t:TypeId) (x:AV):Det (wlen T t x):=by
 intro K h
 unfold wlen at h ⊢
 split at h
 ·rename_i ti hti
  split at h
  ·rename_i s hd;exact⟨_,by simp only [hd],h⟩
  ·rename_i hd;exact⟨_,by simp only [hd],h⟩
  ·rename_i hd
   split at h
   ·rename_i n hn;exact⟨_,by simp only [hd,hn],h⟩
   ·exact h.elim
  ·exact h.elim
 ·exact h.elim
theorem det_wpart (ti:TI) (l:List AV) (off:Nat):Det (zht ti l off):=by
 intro K ⟨h1,h2⟩
 unfold zht
 split at h2
 ·rename_i h;exact⟨_,⟨h1,by simp only [h,if_true]⟩,h2⟩
 ·rename_i h;exact⟨_,⟨h1,by rw [if_neg h];exact⟨h2.1,rfl⟩⟩,h2.2⟩
theorem det_windex (T:Tab) (t:TypeId) (x i:AV):Det (zeI T t x i):=by
 intro K h
 unfold zeI at h ⊢
 split at h
 ·split at h
  ·exact zak (zak (zaH _)) K h
  ·exact zak (zak (zc7 fun te=>det_wpart te _ _)) K h
  ·exact h.elim
 ·exact h.elim
theorem det_windexAddr (T:Tab) (t:TypeId) (x i:AV):Det (zbl T t x i):=by
 intro K h
 unfold zbl at h ⊢
 split at h
 ·split at h
  ·exact zc7 (fun te=>zak (zak (zak (zak (zaH _))))) K h
  ·exact zc7 (fun te=>zak (zak (zak (zaH _)))) K h
  ·exact zc7 (fun te=>zak (zak (zaH _))) K h
  ·exact zc7 (fun te=>zak (zak (zaH _))) K h
  ·exact h.elim
 ·exact h.elim
theorem det_wtoArr (T:Tab) (t:TypeId) (x:AV):Det (ziE T t x):=by
 intro K h
 unfold ziE at h ⊢
 split at h
 ·split at h
  ·exact zc7 (fun te=>zak (zak (zak (zak (zaH _))))) K h
  ·exact zak (zak (zaH _)) K h
  ·exact h.elim
 ·exact h.elim
theorem det_wfield (T:Tab) (t:TypeId) (x:AV) (f:Nat):Det (zc6 T t x f):=by
 intro K h
 unfold zc6 at h ⊢
 split at h
 ·split at h
  ·split at h
   ·exact zc7 (fun tf=>det_wpart tf _ _) K h
   ·exact h.elim
  ·exact h.elim
 ·exact h.elim
theorem det_wfieldAddr (T:Tab) (t:TypeId) (x:AV) (f:Nat):Det (zag T t x f):=by
 intro K h
 unfold zag at h ⊢
 split at h
 ·split at h
  ·rename_i hd
   simp only [hd]
   split at h
   ·rename_i hf
    obtain⟨h1,h2⟩:=h
    cases x <;> simp only at h2 <;> first | exact h2.elim | exact⟨_,⟨h1,rfl⟩,h2⟩
   ·exact h.elim
  ·rename_i hd
   simp only [hd]
   split at h
   ·rename_i hf
    obtain⟨h1,h2⟩:=h
    cases x <;> simp only at h2 <;> first | exact h2.elim | exact⟨_,⟨h1,rfl⟩,h2⟩
   ·exact h.elim
  ·exact h.elim
 ·exact h.elim
theorem det_wfin (ti:TI) (cs:List AV):Det (wfin ti cs):=by
 intro K ⟨h1,h2⟩
 unfold wfin
 split at h2
 ·rename_i h;exact⟨_,⟨h1,by simp only [h,if_true]⟩,h2⟩
 ·rename_i h;exact⟨_,⟨h1,by rw [if_neg h];exact⟨h2.1,rfl⟩⟩,h2.2⟩
theorem det_wload (T:Tab) (t:TypeId) (x:AV) (σ:zaa):Det (zen T t x σ):=by
 intro K h
 unfold zen at h ⊢
 split at h
 ·exact h.elim
 ·cases x <;> simp only at h ⊢ <;> first | exact h.elim | exact det_wfin _ _ K h | skip
  split at h
  ·exact det_wfin _ _ K h
  ·exact h.elim
theorem det_wnil (P:Program) (x:AV):Det (wnil P x):=by
 intro K h
 unfold wnil at h ⊢
 split at h <;> first | exact h.elim | exact⟨_,rfl,h⟩ | exact⟨_,⟨h.1,rfl⟩,h.2⟩
theorem det_wslice (T:Tab) (t:TypeId) (x:AV) (lo hi:Option AV) (σ:zaa):Det (zbi T t x lo hi σ):=by
 intro K h
 unfold zbi at h ⊢
 split at h
 ·exact h.elim
 ·split at h
  ·rename_i hd
   simp only [hd]
   split at h
   ·exact zak (zak (zak (zaH _))) K h
   ·exact h.elim
  ·rename_i hd
   simp only [hd]
   split at h
   ·exact zc7 (fun te=>zak (zak (zak (zak (zaH _))))) K h
   ·exact h.elim
  ·rename_i hd
   simp only [hd]
   split at h
   ·rename_i l hh _ _
    obtain⟨te,g1,g2,g3,g4,g5,h1,h2⟩:=h
    by_cases hc:l < hh∨l=0
    ·exact⟨_,⟨te,g1,g2,g3,g4,g5,fun _=>rfl,fun h3=>by omega⟩,h1 hc⟩
    ·exact⟨_,⟨te,g1,g2,g3,g4,g5,fun h3=>absurd h3 hc,fun _=>rfl⟩,h2 (by omega)⟩
   ·exact h.elim
  ·rename_i hd
   simp only [hd]
   split at h
   ·exact zak (zak (zak (zaH _))) K h
   ·exact h.elim
  ·rename_i hd
   simp only [hd]
   split at h
   ·exact zc7 (fun te=>zak (zak (zak (zak (zak (zaH _)))))) K h
   ·exact h.elim
  ·exact h.elim
def exq (A K:AV→Prop):Prop:=∃ v,A v∧K v
theorem det_exq (A:AV→Prop):Det (exq A):=fun _ ⟨v,h1,h2⟩=>⟨v,⟨v,h1,rfl⟩,h2⟩
def callV (P : Program) (f : FuncId) (as9 : List AV) (σ : zaa) (v : AV) : Prop := ACalls P f as9 σ (fun x σ' => x = .ret v ∧ σ' = σ)
def qconv (T : Tab) (s d : TypeId) (x : AV) (σ : zaa) (K : AV → Prop) : Prop := zjb T s d x σ (fun r σ' => σ' = σ ∧ K r)
theorem det_qconv (T:Tab) (s d:TypeId) (x:AV) (σ:zaa):Det (qconv T s d x σ):=by
 intro K h
 unfold qconv zjb at h ⊢
 split at h
 ·split at h
  ·rename_i hd;simp only [hd];exact⟨_,⟨trivial,rfl⟩,h.2⟩
  ·rename_i hd;simp only [hd];exact⟨_,⟨trivial,rfl⟩,h.2⟩
  ·rename_i hd hne
   simp only [hd]
   split at h
   ·rename_i e he
    obtain⟨h1,h2⟩:=h
    split at h2
    ·rename_i cs n hasl
     split at h2
     ·rename_i bs hbs
      refine⟨_,⟨h1,?_⟩,h2.2⟩
      simp only [hasl,hbs,and_self]
     ·exact h2.elim
    ·exact h2.elim
   ·exact h.elim
  ·rename_i hd
   obtain⟨_,_,_,h4,_⟩:=h
   have:=congrArg List.length h4
   simp at this
  ·exact h.elim
 ·exact h.elim
def zb7 (T:Tab) (t:TypeId) (len:Nat) (ps:List (Nat × AV)) (K:AV→Prop):Prop :=
 match T t with
 | some ti=>match ti.d with
  | .slice e=>∃ te,T e=some te∧te.zero.length=te.size∧len≤16777216∧len * te.size≤16777216∧match zbo (fun i=>some (i * te.size,te.size)) (zbz te.zero len) ps with
   | some cs=>K (.sl cs len)
   | none=>False
  | _=>False
 | none=>False
theorem det_qbuildSlice (T:Tab) (t:TypeId) (len:Nat) (ps:List (Nat × AV)):Det (zb7 T t len ps):=by
 intro K h
 unfold zb7 at h ⊢
 split at h
 ·split at h
  ·rename_i hd
   simp only [hd]
   obtain⟨te,g1,g2,g3,g4,h⟩:=h
   split at h
   ·rename_i cs hcs;exact⟨_,⟨te,g1,g2,g3,g4,by simp only [hcs]⟩,h⟩
   ·exact h.elim
  ·exact h.elim
 ·exact h.elim
def qmake (T:Tab) (t:TypeId) (l c:AV) (K:AV→Prop):Prop :=
 match T t,l,c with
 | some ti,.lit (.int _ l),.lit (.int _ c)=>match ti.d with
  | .slice e=>∃ te,T e=some te∧(te.zero.length=te.size∧0≤l∧l≤c∧c≤9223372036854775807∧c * te.bytes≤281474976710656)∧K (.sl (zbz te.zero l.toNat) l.toNat)
  | _=>False
 | _,_,_=>False
theorem det_qmake (T:Tab) (t:TypeId) (l c:AV):Det (qmake T t l c):=by
 intro K h
 unfold qmake at h ⊢
 split at h
 ·split at h
  ·rename_i hd
   simp only [hd]
   exact zc7 (fun te=>zak (zaH _)) K h
  ·exact h.elim
 ·exact h.elim
theorem det_wbuild (T:Tab) (t:TypeId) (ps:List (Nat × AV)):Det (zaY T t ps):=by
 intro K h
 unfold zaY at h ⊢
 split at h
 ·split at h
  ·rename_i hd
   simp only [hd]
   obtain⟨g1,h⟩:=h
   split at h
   ·rename_i cs hcs;exact⟨_,⟨g1,by simp only [hcs]⟩,h⟩
   ·exact h.elim
  ·rename_i hd
   simp only [hd]
   obtain⟨te,g1,h⟩:=h
   split at h
   ·rename_i cs hcs;exact⟨_,⟨te,g1,by simp only [hcs]⟩,h⟩
   ·exact h.elim
  ·exact h.elim
 ·exact h.elim
def zjg (P:Program) (f:AV) (args:List AV) (σ:zaa) (K:AV→Prop):Prop :=
 match f with
 | .fn (.func g) first cap=>exq (callV P g (first++args++cap) σ) K
 | _=>False
def zjh (P:Program) (x:AV) (name:String) (args:List AV) (σ:zaa) (K:AV→Prop):Prop :=
 match zfv x with
 | some (t,v)=>∃ q:FuncId × AV,MethIs P t v name q.1 q.2∧zjg P (.fn (.func q.1) [q.2] []) args σ K
 | none=>False
def zg9 (T:Tab) (b:Builtin) (ts:Array TypeId) (args:List AV) (K:AV→Prop):Prop :=
 match b,args with
 | .len,[x]=>match ts.toList with
  | [t]=>wlen T t x K
  | _=>False
 | .min,xs=>zbW false xs K
 | .max,xs=>zbW true xs K
 | .unsafeSliceData,[x]=>wsd x K
 | _,_=>False
def Qop (P:Program) (T:Tab) (o:Op) (ev:Operand→AV) (σ:zaa) (K:AV→Prop):Prop :=
 match o with
 | .move x | .assign x=>K (ev x)
 | .pick c a b=>zgv (ev c) (ev a) (ev b) K
 | .build t ps=>zaY T t (zcj ev ps) K
 | .buildSlice t len ps=>zb7 T t len (zcj ev ps) K
 | .makeSlice t l c=>qmake T t (ev l) (ev c) K
 | .load t a=>zen T t (ev a) σ K
 | .nilCheck x=>wnil P (ev x) K
 | .binOp op t x y _=>zje T op t x y ev K
 | .makeInterface t x=>wmkI T t (ev x) K
 | .typeAssert x _ a ok=>zeM P T a ok (ev x) K
 | .unOp op _ x=>wun op (ev x) K
 | .convert s d x=>qconv T s d (ev x) σ K
 | .makeFunc fn first cap=>K (.fn fn (first.toList.map ev) (cap.toList.map ev))
 | .slice t x lo hi none=>zbi T t (ev x) (lo.map ev) (hi.map ev) σ K
 | .slice t x lo hi (some mx)=>zgs T t (ev x) (lo.map ev) (hi.map ev) (ev mx) K
 | .fieldAddr s x f=>zag T s (ev x) f K
 | .field t x f=>zc6 T t (ev x) f K
 | .indexAddr t x i=>zbl T t (ev x) (ev i) K
 | .index t x i=>zeI T t (ev x) (ev i) K
 | .sliceToArrayPointer t x=>ziE T t (ev x) K
 | .extract x i=>zcd (ev x) i K
 | .call c=>match c.callee with
  | .value f=>zjg P (ev f) (c.args.toList.map ev) σ K
  | .builtin b=>zg9 T b c.argTypes (c.args.toList.map ev) K
  | .invoke r name=>zjh P (ev r) name (c.args.toList.map ev) σ K
 | _=>False
theorem det_qcall (P:Program) (f:AV) (args:List AV) (σ:zaa):Det (zjg P f args σ):=by
 intro K h
 unfold zjg at h ⊢
 split at h
 ·exact det_exq _ K h
 ·exact h.elim
theorem det_qinvoke (P:Program) (x:AV) (name:String) (args:List AV) (σ:zaa):Det (zjh P x name args σ):=by
 intro K h
 unfold zjh at h ⊢
 split at h
 ·exact zc7 (fun q=>det_qcall _ _ _ _) K h
 ·exact h.elim
theorem det_wsd (x:AV):Det (wsd x):=by
 intro K h
 unfold wsd at h ⊢
 split at h
 ·exact⟨_,rfl,h⟩
 ·exact h.elim
theorem det_Qop (P:Program) (T:Tab) (o:Op) (ev:Operand→AV) (σ:zaa):Det (Qop P T o ev σ):=by
 intro K h
 unfold Qop at h ⊢
 cases o <;> simp only at h ⊢ <;> first
  | exact h.elim
  | exact⟨_,rfl,h⟩
  | exact det_wpick _ _ _ K h
  | exact det_wbuild _ _ _ K h
  | exact det_qbuildSlice _ _ _ _ K h
  | exact det_qmake _ _ _ _ K h
  | exact det_wload _ _ _ _ K h
  | exact det_wnil _ _ K h
  | exact det_qbinW _ _ _ _ _ _ K h
  | exact det_wmkI _ _ _ K h
  | exact det_wassert _ _ _ _ _ K h
  | exact det_wun _ _ K h
  | exact det_qconv _ _ _ _ _ K h
  | exact det_wfieldAddr _ _ _ _ K h
  | exact det_wfield _ _ _ _ K h
  | exact det_windexAddr _ _ _ _ K h
  | exact det_windex _ _ _ _ K h
  | exact det_wtoArr _ _ _ K h
  | exact det_wextract _ _ K h
  | skip
 case slice t x lo hi mx =>
  cases mx with
  | none=>exact det_wslice _ _ _ _ _ _ K h
  | some _=>exact det_wslice3 _ _ _ _ _ _ K h
 case call c =>
  split at h
  ·exact det_qcall _ _ _ _ K h
  ·unfold zg9 at h ⊢
   split at h
   ·split at h
    ·rename_i t ht;exact det_wlen _ _ _ K h
    ·exact h.elim
   ·exact zhG _ _ K h
   ·exact zhG _ _ K h
   ·exact det_wsd _ K h
   ·exact h.elim
  ·exact det_qinvoke _ _ _ _ _ K h
end Go.Eng
end

section
namespace Go.Eng
open Go
variable {H : Nat → Prop} [Globs]
def zbX:Operand→List Tmp
 | .tmp t=>[t]
 | _=>[]
def usesOp:Op→List Tmp
 | .move x | .assign x=>zbX x
 | .pick c a b=>zbX c++zbX a++zbX b
 | .build _ ps | .buildSlice _ _ ps=>ps.toList.flatMap fun p=>zbX p.2
 | .makeSlice _ l c=>zbX l++zbX c
 | .load _ a=>zbX a
 | .nilCheck x=>zbX x
 | .binOp _ _ x y _=>zbX x++zbX y
 | .unOp _ _ x=>zbX x
 | .convert _ _ x=>zbX x
 | .makeFunc _ a b=>a.toList.flatMap zbX++b.toList.flatMap zbX
 | .slice _ x lo hi mx=>zbX x++(lo.map zbX).getD []++(hi.map zbX).getD []++(mx.map zbX).getD []
 | .makeInterface _ x=>zbX x
 | .typeAssert x _ _ _=>zbX x
 | .fieldAddr _ x _=>zbX x
 | .field _ x _=>zbX x
 | .indexAddr _ x i=>zbX x++zbX i
 | .index _ x i=>zbX x++zbX i
 | .sliceToArrayPointer _ x=>zbX x
 | .extract x _=>zbX x
 | .call c=>(match c.callee with | .value f=>zbX f | .invoke r _=>zbX r | _=>[])++c.args.toList.flatMap zbX
 | _=>[]
def gslot (ops:Array Oper):Option (Nat × Bool)→List Tmp
 | none=>[]
 | some (j,_)=>((ops[j]?).bind (·.dst)).toList
theorem zbp {env env':Env} {x:Operand} (h:∀ t∈zbX x,env[t]?=env'[t]?):zaN env x=zaN env' x:=by
 cases x with
 | tmp t=>simp only [zaN];rw [h t (by simp [zbX])]
 | _=>rfl
theorem ziL {env env':Env}:∀ {l:List Operand},(∀ t∈l.flatMap zbX,env[t]?=env'[t]?)→l.map (zaN env)=l.map (zaN env')
 | [],_=>rfl
 | x::l,h=>by
  simp only [List.map_cons]
  rw [zbp (fun t ht=>h t (by simp [ht])),ziL (l:=l) (fun t ht=>h t (by simp at ht ⊢;exact .inr ht))]
theorem zji {env env':Env}:∀ {l:List (Nat × Operand)},(∀ t∈l.flatMap (fun p=>zbX p.2),env[t]?=env'[t]?)→l.map (fun p=>(p.1,zaN env p.2))=l.map (fun p=>(p.1,zaN env' p.2))
 | [],_=>rfl
 | x::l,h=>by
  simp only [List.map_cons]
  rw [zbp (fun t ht=>h t (by simp [ht])),zji (l:=l) (fun t ht=>h t (by simp at ht ⊢;exact .inr ht))]
theorem opt_ev {env env':Env} {x:Option Operand} (h:∀ t∈(x.map zbX).getD [],env[t]?=env'[t]?):x.map (zaN env)=x.map (zaN env'):=by
 cases x with
 | none=>rfl
 | some x=>simp only [Option.map_some];rw [zbp h]
theorem Qop_ev {P:Program} {T:Tab} {o:Op} {env env':Env} {σ:zaa} {K:AV→Prop} (h:∀ t∈usesOp o,env[t]?=env'[t]?):Qop P T o (zaN env) σ K=Qop P T o (zaN env') σ K:=by
 unfold Qop
 cases o <;> (try simp only [usesOp,List.mem_append] at h) <;> (try simp only)
 case move x=>rw [zbp h]
 case assign x=>rw [zbp h]
 case pick c a b=>rw [zbp (x:=c) (fun t ht=>h t (.inl (.inl ht))),zbp (x:=a) (fun t ht=>h t (.inl (.inr ht))),zbp (x:=b) (fun t ht=>h t (.inr ht))]
 case build t ps=>unfold zcj;rw [zji h]
 case buildSlice t n ps=>unfold zcj;rw [zji h]
 case makeSlice t l c=>rw [zbp (x:=l) (fun t ht=>h t (.inl ht)),zbp (x:=c) (fun t ht=>h t (.inr ht))]
 case load t a=>rw [zbp h]
 case nilCheck x=>rw [zbp h]
 case binOp op t x y t' =>
  have e1:=zbp (x:=x) (fun t ht=>h t (.inl ht))
  have e2:=zbp (x:=y) (fun t ht=>h t (.inr ht))
  unfold zje
  split
  ·rfl
  ·unfold zjd
   split
   ·rw [e1];rfl
   ·rw [e1,e2]
 case makeInterface t x=>rw [zbp h]
 case typeAssert x xt a ok=>rw [zbp h]
 case unOp op t x=>rw [zbp h]
 case convert s d x=>rw [zbp h]
 case makeFunc f a b=>rw [ziL (l:=a.toList) (fun t ht=>h t (.inl ht)),ziL (l:=b.toList) (fun t ht=>h t (.inr ht))]
 case slice t x lo hi mx =>
  cases mx with
  | some mx=>simp only;rw [zbp (x:=x) (fun t ht=>h t (.inl (.inl (.inl ht)))),opt_ev (x:=lo) (fun t ht=>h t (.inl (.inl (.inr ht)))),opt_ev (x:=hi) (fun t ht=>h t (.inl (.inr ht))),zbp (x:=mx) (fun t ht=>h t (.inr ht))]
  | none=>simp only;rw [zbp (x:=x) (fun t ht=>h t (.inl (.inl (.inl ht)))),opt_ev (x:=lo) (fun t ht=>h t (.inl (.inl (.inr ht)))),opt_ev (x:=hi) (fun t ht=>h t (.inl (.inr ht)))]
 case fieldAddr s x f=>rw [zbp h]
 case field s x f=>rw [zbp h]
 case indexAddr t x i=>rw [zbp (x:=x) (fun t ht=>h t (.inl ht)),zbp (x:=i) (fun t ht=>h t (.inr ht))]
 case index t x i=>rw [zbp (x:=x) (fun t ht=>h t (.inl ht)),zbp (x:=i) (fun t ht=>h t (.inr ht))]
 case extract x i=>rw [zbp h]
 case sliceToArrayPointer t x=>rw [zbp h]
 case call c =>
  cases hc:c.callee with
  | value f =>
   simp only [hc] at h ⊢
   rw [zbp (x:=f) (fun t ht=>h t (.inl ht)),ziL (l:=c.args.toList) (fun t ht=>h t (.inr ht))]
  | builtin b =>
   simp only [hc] at h ⊢
   rw [ziL (l:=c.args.toList) (fun t ht=>h t (.inr ht))]
  | invoke r n =>
   simp only [hc] at h ⊢
   rw [zbp (x:=r) (fun t ht=>h t (.inl ht)),ziL (l:=c.args.toList) (fun t ht=>h t (.inr ht))]
def YA (P:Program) (T:Tab) (ops:Array Oper) (σ:zaa) (o:Oper) (env:Env) (v:AV):Prop :=
 zb6 ops env o.guard (Qop P T o.op (zaN env) σ (fun r=>r=v)) (v=.lit undef)
def uses (ops:Array Oper) (o:Oper):List Tmp:=usesOp o.op++gslot ops o.guard++o.dst.toList
theorem YA_ev {P:Program} {T:Tab} {ops:Array Oper} {σ:zaa} {o:Oper} {env env':Env} {v:AV} (h:∀ t∈usesOp o.op++gslot ops o.guard,env[t]?=env'[t]?) (hy:YA P T ops σ o env v):YA P T ops σ o env' v:=by
 simp only [List.mem_append] at h
 unfold YA at hy ⊢
 rw [Qop_ev (fun t ht=>h t (.inl ht))] at hy
 unfold zb6 at hy ⊢
 cases hg:o.guard with
 | none=>rw [hg] at hy;exact hy
 | some p =>
  obtain⟨j,want⟩:=p
  rw [hg] at hy
  simp only at hy ⊢
  cases hd:(ops[j]?).bind (·.dst) with
  | none=>rw [hd] at hy;exact hy
  | some d =>
   rw [hd] at hy
   simp only at hy ⊢
   rw [← h d (.inr (by simp [gslot,hg,hd]))]
   exact hy
theorem zes {P:Program} {T:Tab} {o:Op} {ev:Operand→AV} {σ:zaa} {K:AV→Prop} (h:Qop P T o ev σ K):∀ c,o≠.defer c:=by
 rintro c rfl
 exact h
theorem drop_new {w : World} {m : Ids} {σ : zaa} (hs : St H w m σ) {n sz : Nat} {cs : List AV} (hcl : cs.length = n * sz) (hzc : cls σ.length cs) {res : Result Value} (hv : VOK H w m σ (fun r σ' => r = .ref σ.length 0 n sz ∧ σ' = σ ++ [.rw cs]) (fun _ _ => False) res) :
  VOK H w m σ (fun r σ' => r = .sl cs n ∧ σ' = σ) (fun _ _ => False) res := by
 cases res with
 | ok u w' =>
  obtain ⟨r, m', σ', k1, k2, k3, rfl, rfl⟩ := hv
  obtain⟨l1,l2⟩:=k1.letgo (i:=σ.length) (x:=.ro cs) (.inr ⟨cs,by simp,0,cs.length,by simp,rfl⟩)
  have hset:(σ++[Blk.rw cs]).set σ.length (.ro cs)=σ++[.ro cs]:=by simp
  rw [hset] at l1 l2
  have hclo:=hs.clo
  obtain⟨c1,c2⟩:=l1.cut hclo
  have hm':m'.take σ.length=m:=by
   apply List.ext_getElem?
   intro i
   rw [List.getElem?_take]
   split
   ·rename_i hi
    obtain ⟨x, hx⟩ : ∃ x, m[i]? = some x := ⟨m[i]'(by rw [hs.len]; exact hi), by simp⟩
    rw [hx]
    exact k2.ids i x hx
   ·rename_i hi
    rw [List.getElem?_eq_none (by rw [hs.len];omega)]
  rw [hm'] at c1 c2
  have hrep:rep w' (own H m σ) m (.sl cs n) u:=by
   simp only [rep] at k3 ⊢
   rcases k3 with ⟨rfl,rfl,_,_⟩ | ⟨g,cap,c,rfl,hm,e1,e2,hrow,_⟩
   ·exact⟨none,0,rfl,Nat.le_refl _,by simp [maxLen],.inl (List.eq_nil_of_length_eq_zero (by simpa using hcl))⟩
   ·refine⟨_,cap,rfl,e1,e2,?_⟩
    by_cases hne:cs=[]
    ·exact .inl hne
    ·have hml:=l1.blk σ.length (.ro cs) (some g) (by simp) hm
     rcases hml with hml | ⟨g',e,hO,hat⟩
     ·exact absurd hml hne
     ·cases e
      refine .inr ⟨g,0,rfl,fun ho=>hO (c2.own g ho),hrow.lt,?_⟩
      have:=zcy c2 cs g 0 hzc hat
      rwa [hm'] at this
  exact⟨.sl cs n,m,σ,c1,⟨k2.heap,k2.same,fun b hb=>.inl hb,fun i x hx=>hx,k2.rows,k2.os,k2.tape,k2.output,k2.hid⟩,hrep,rfl,rfl⟩
 | halt x w' =>
  cases x <;> first | exact hv.elim | skip
  obtain⟨_,_,_,_,_,_,hf⟩:=hv
  exact hf.elim
theorem cls_lits (n:Nat):∀ (l:List Value),cls n (zaE l)
 | []=>trivial
 | _::l=>⟨trivial,cls_lits n l⟩
theorem cls_zeros (k:Nat) (z:List Value) (n:Nat):cls k (zbz z n):=by
 have:zbz z n=zaE ((List.range (n * z.length)).map fun j=>z.getD (j % z.length) undef):=by
  simp [zbz,zaE,List.map_map]
 rw [this]
 exact cls_lits _ _
theorem zhH {P : Program} {f : AV} {as9 : List AV} {σ : zaa} {v : AV} (h : zjg P f as9 σ (fun r => r = v)) : ziB P f as9 σ (fun r σ' => r = v ∧ σ' = σ) (fun _ _ => False) := by
 unfold zjg at h
 split at h
 ·rename_i g first cap
  obtain⟨u,h1,rfl⟩:=h
  simp only [ziB]
  refine ACalls.mono h1 ?_
  rintro x σ' ⟨rfl, rfl⟩
  exact⟨rfl,rfl⟩
 ·exact h.elim
theorem zf2 {P:Program} {T:Tab} (hT:zaD P T) {w:World} {m:Ids} {σ:zaa} (hG:Glob w (own H m σ)) (hs:St H w m σ) {o:Oper} {ev:Operand→AV} {ρ:Operand→Value} {v:AV} (h:Qop P T o.op ev σ (fun r=>r=v)) (he:∀ x,rep w (own H m σ) m (ev x) (ρ x)) :
  OpOK H P w m σ (fun r σ' => r = v ∧ σ' = σ) (fun _ _ => False) ((execOp ρ o).run P w) := by
 by_cases hbm:∃ t l c,o.op=.makeSlice t l c
 ·obtain⟨t,l,c,hop⟩:=hbm
  unfold execOp
  rw [hop] at h ⊢
  simp only [Qop] at h ⊢
  refine OpOK.value ?_
  unfold qmake at h
  split at h
  ·rename_i ti _ l' _ c' hti hl' hc'
   split at h
   ·rename_i e hd
    obtain⟨te,g1,⟨g2,g3,g4,g5,g6⟩,rfl⟩:=h
    refine drop_new hs (sz:=te.size) (by simp [zbz,g2]) (cls_zeros _ _ _) (zhx (Kp:=fun _ _=>False) hT hs ?_ (he l) (he c))
    rw [hl',hc']
    simp only [zjZ,hti,hd]
    exact⟨te,g1,g2,g3,g4,g5,g6,rfl,rfl⟩
   ·exact h.elim
  ·exact h.elim
 by_cases hb:∃ t n ps,o.op=.buildSlice t n ps
 ·obtain⟨t,n,ps,hop⟩:=hb
  have hps:zcX w (own H m σ) m (zcj ev ps) (ps.map fun (i,x)=>(i,ρ x)).toList:=by simpa [zcj] using zeo he ps.toList
  unfold execOp
  rw [hop] at h ⊢
  simp only [Qop] at h ⊢
  refine OpOK.value ?_
  unfold zb7 at h
  split at h
  ·rename_i ti hti
   split at h
   ·rename_i e hd
    obtain⟨te,g1,g2,g3,g4,h⟩:=h
    split at h
    ·rename_i cs hcs
     subst h
     have hb : zbL T t n (zcj ev ps) σ (fun r σ' => r = .ref σ.length 0 n te.size ∧ σ' = σ ++ [.rw cs]) := by
      unfold zbL
      rw [hti]
      simp only [hd]
      exact⟨te,g1,g2,g3,g4,by rw [hcs];exact⟨rfl,rfl⟩⟩
     have hv:=zdW (Kp:=fun _ _=>False) hT hs hb hps
     generalize (Instr.buildSlice t n (ps.map fun (i,x)=>(i,ρ x))).run P w=res at hv
     cases res with
     | ok u w' =>
      obtain ⟨r, m', σ', k1, k2, k3, rfl, rfl⟩ := hv
      have hlen:=zeL hcs
      obtain⟨l1,l2⟩:=k1.letgo (i:=σ.length) (x:=.ro cs) (.inr ⟨cs,by simp,0,cs.length,by simp,rfl⟩)
      have hset:(σ++[Blk.rw cs]).set σ.length (.ro cs)=σ++[.ro cs]:=by simp
      rw [hset] at l1 l2
      have hclo:=hs.clo
      obtain⟨c1,c2⟩:=l1.cut hclo
      have hm':m'.take σ.length=m:=by
       apply List.ext_getElem?
       intro i
       rw [List.getElem?_take]
       split
       ·rename_i hi
        obtain ⟨x, hx⟩ : ∃ x, m[i]? = some x := ⟨m[i]'(by rw [hs.len]; exact hi), by simp⟩
        rw [hx]
        exact k2.ids i x hx
       ·rename_i hi
        rw [List.getElem?_eq_none (by rw [hs.len];omega)]
      rw [hm'] at c1 c2
      have hrep:rep w' (own H m σ) m (.sl cs n) u:=by
       simp only [rep] at k3 ⊢
       have hcl:cs.length=n * te.size:=by
        rw [hlen]
        simp [zbz,g2]
       rcases k3 with ⟨rfl,rfl,_,_⟩ | ⟨g,cap,c,rfl,hm,e1,e2,hrow,_⟩
       ·exact⟨none,0,rfl,Nat.le_refl _,by simp [maxLen],.inl (List.eq_nil_of_length_eq_zero (by simpa using hcl))⟩
       ·refine⟨_,cap,rfl,e1,e2,?_⟩
        by_cases hne:cs=[]
        ·exact .inl hne
        ·have hml:=l1.blk σ.length (.ro cs) (some g) (by simp) hm
         rcases hml with hml | ⟨g',e,hO,hat⟩
         ·exact absurd hml hne
         ·cases e
          refine .inr ⟨g,0,rfl,fun ho=>hO (c2.own g ho),hrow.lt,?_⟩
          have hzc:cls σ.length cs:=by
           have hz:=zgr (w:=w) (O:=own H m σ) (m:=m) te.zero.toArray n
           rw [List.toList_toArray] at hz
           obtain⟨a',_,hr⟩:=zdq hcs hps hz
           rw [← hs.len]
           exact zej _ _ hr
          have:=zcy c2 cs g 0 hzc hat
          rwa [hm'] at this
      refine⟨.sl cs n,m,σ,c1,?_,hrep,rfl,rfl⟩
      refine⟨k2.heap,k2.same,fun b hb=>?_,fun i x hx=>hx,k2.rows,k2.os,k2.tape,k2.output,k2.hid⟩
      exact .inl hb
     | halt x w' =>
      cases x <;> first | exact hv.elim | skip
      obtain⟨_,_,_,_,_,_,hf⟩:=hv
      exact hf.elim
    ·exact h.elim
   ·exact h.elim
  ·exact h.elim
 · have hW : Wop P T o.op ev σ (fun r σ' => r = v ∧ σ' = σ) (fun _ _ => False) := by
    unfold Qop at h
    unfold Wop
    cases hop:o.op <;> rw [hop] at h <;> simp only at h ⊢ <;> first | exact h.elim | (simp only [and_true];exact h) | skip
    case binOp op t x y ty =>
     unfold zje at h
     unfold zfw
     split at h
     ·exact h.elim
     ·simp only [and_true];exact h
    case buildSlice t n ps=>exact absurd ⟨t,n,ps,hop⟩ hb
    case makeSlice t l c=>exact absurd ⟨t,l,c,hop⟩ hbm
    case convert s d x =>
     unfold qconv at h
     have : (fun (r : AV) (σ' : zaa) => r = v ∧ σ' = σ) = (fun r σ' => σ' = σ ∧ r = v) := by funext r σ'; exact propext ⟨fun h => ⟨h.2, h.1⟩, fun h => ⟨h.2, h.1⟩⟩
     rw [this]
     exact h
    case slice t x lo hi mx =>
     cases mx with
     | some _=>simp only [and_true] at h ⊢;exact h
     | none=>simp only [and_true] at h ⊢;exact h
    case call c =>
     cases hc:c.callee <;> rw [hc] at h <;> simp only at h ⊢ <;> first | exact h.elim | skip
     ·rename_i f
      exact zhH h
     ·unfold zjh at h
      unfold zhD
      split at h
      ·rename_i hi
       obtain⟨q,h1,h2⟩:=h
       simp only [hi]
       exact⟨q,h1.at',zhH h2⟩
      ·exact h.elim
     ·unfold zg9 at h
      split at h
      ·rename_i x hx
       split at h
       ·rename_i t ht
        simp only [zda,hx,ht,and_true]
        exact h
       ·exact h.elim
      ·simp only [zda,and_true];exact h
      ·simp only [zda,and_true];exact h
      ·rename_i x hx
       simp only [zda,hx,and_true]
       exact h
      ·exact h.elim
   exact zcC hT hG hs hW he
end Go.Eng
end

section
namespace Go.Eng
open Go
variable {H : Nat → Prop} [Globs]
def zao (p:Nat→Bool):Nat→List (Option Tmp × AV)→Env→Env
 | _,[],e=>e
 | k,x::r,e=>zao p (k+1) r (if p k then aput e x.1 x.2 else e)
theorem zfx (e:Env) (d:Option Tmp) (v:AV):(aput e d v).length=e.length:=by cases d <;> simp [aput]
theorem zb8 (p:Nat→Bool):∀ (l:List (Option Tmp × AV)) (k:Nat) (e:Env),(zao p k l e).length=e.length
 | [],_,_=>rfl
 | x::r,k,e=>by
  simp only [zao]
  rw [zb8 p r]
  split
  ·exact zfx _ _ _
  ·rfl
theorem zf3 {e:Env} {d:Option Tmp} {v:AV} {t:Tmp} (h:d≠some t):(aput e d v)[t]?=e[t]?:=by
 cases d with
 | none=>rfl
 | some d=>simp only [aput];rw [List.getElem?_set_ne (fun he=>h (by rw [he]))]
theorem zb1 {p p':Nat→Bool} {t:Tmp}:∀ (l:List (Option Tmp × AV)) (k:Nat) (e e':Env),e.length=e'.length→e[t]?=e'[t]? →
  (∀ j x,l[j]?=some x→x.1=some t→p (k+j)=p' (k+j))→(zao p k l e)[t]?=(zao p' k l e')[t]?
 | [],_,_,_,_,h,_=>h
 | x::r,k,e,e',hl,h,hp=>by
  simp only [zao]
  refine zb1 r (k+1) _ _ ?_ ?_ (fun j y hy hd=>?_)
  ·split <;> split <;> simp [zfx,hl]
  ·by_cases hd:x.1=some t
   ·have:=hp 0 x (by simp) hd
    rw [Nat.add_zero] at this
    rw [this]
    split
    ·rw [hd]
     simp only [aput]
     rw [List.getElem?_set,List.getElem?_set]
     simp [hl]
    ·exact h
   ·have e1:∀ (b:Bool) (z:Env),(if b then aput z x.1 x.2 else z)[t]?=z[t]?:=by
     intro b z
     split
     ·exact zf3 hd
     ·rfl
    rw [e1,e1]
    exact h
  ·have:=hp (j+1) y (by simpa using hy) hd
   rwa [show k+(j+1)=k+1+j by omega] at this
theorem zd0 {p:Nat→Bool} {t:Tmp} {v:AV}:∀ (l:List (Option Tmp × AV)) (k:Nat) (e:Env) (i:Nat),l[i]?=some (some t,v)→p (k+i)=true →
  (∀ j x,i < j→l[j]?=some x→x.1=some t→p (k+j)=false)→(zao p k l e)[t]?=if t < e.length then some v else none
 | x::r,k,e,0,hi,hp,hn=>by
  simp at hi
  subst hi
  simp only [zao]
  rw [Nat.add_zero] at hp
  rw [hp,if_pos rfl]
  have h1:(zao p (k+1) r (aput e (some t) v))[t]?=(zao (fun _=>false) (k+1) r (aput e (some t) v))[t]? :=
   zb1 r (k+1) _ _ rfl rfl (fun j y hy hd=>by
    have:=hn (j+1) y (by omega) (by simpa using hy) hd
    rwa [show k+(j+1)=k+1+j by omega] at this)
  have h2:∀ (l:List (Option Tmp × AV)) (k:Nat) (e:Env),zao (fun _=>false) k l e=e:=by
   intro l
   induction l with
   | nil=>intro k e;rfl
   | cons y l ih=>intro k e;simp only [zao,Bool.false_eq_true,if_false];exact ih _ _
  rw [h1,h2]
  simp only [aput,List.getElem?_set]
  simp
 | x::r,k,e,i+1,hi,hp,hn=>by
  simp only [zao]
  rw [zd0 r (k+1) _ i (by simpa using hi) (by rwa [show k+1+i=k+(i+1) by omega]) (fun j y hj hy hd=>by
   have:=hn (j+1) y (by omega) (by simpa using hy) hd
   rwa [show k+(j+1)=k+1+j by omega] at this)]
  split <;> simp [zfx]
theorem zaI {p p':Nat→Bool} (l:List (Option Tmp × AV)) (k:Nat) (e:Env) (h:∀ j,j < l.length→p (k+j)=p' (k+j)):zao p k l e=zao p' k l e:=by
 apply List.ext_getElem?
 intro t
 exact zb1 l k e e rfl rfl (fun j x hx _=>h j (List.getElem?_eq_some_iff.1 hx).1)
def wq (P:Program) (T:Tab) (ops:Array Oper) (σ:zaa):List Oper→Env→(Env→Prop)→Prop
 | [],env,Q=>Q env
 | o::rest,env,Q=>zb6 ops env o.guard (Qop P T o.op (zaN env) σ (fun v=>wq P T ops σ rest (aput env o.dst v) Q)) (wq P T ops σ rest (aput env o.dst (.lit undef)) Q)
theorem wguard_det {ops:Array Oper} {env:Env} {g:Option (Nat × Bool)} {F:(AV→Prop)→Prop} (hF:Det F) {K:AV→Prop} (h:zb6 ops env g (F K) (K (.lit undef))):∃ v,zb6 ops env g (F (fun r=>r=v)) (v=.lit undef)∧K v:=by
 unfold zb6 at h ⊢
 cases g with
 | none=>exact hF K h
 | some p =>
  obtain⟨j,want⟩:=p
  simp only at h ⊢
  cases hd:(ops[j]?).bind (·.dst) with
  | none=>rw [hd] at h;exact⟨_,rfl,h⟩
  | some d =>
   rw [hd] at h
   simp only at h ⊢
   split at h
   ·rename_i b hb
    by_cases hbw:b=want
    ·obtain⟨v,h1,h2⟩:=hF K (h.1 hbw)
     exact⟨v,⟨fun _=>h1,fun hn=>absurd hbw hn⟩,h2⟩
    ·exact⟨_,⟨fun hn=>absurd hn hbw,fun _=>rfl⟩,h.2 hbw⟩
   ·exact⟨_,rfl,h⟩
   ·exact h.elim
theorem zdt {P:Program} {T:Tab} {ops:Array Oper} {σ:zaa} {Q:Env→Prop}:∀ (l:List Oper) (env:Env),wq P T ops σ l env Q →
  ∃ xs:List (Option Tmp × AV),xs.length=l.length∧(∀ i o x,l[i]?=some o→xs[i]?=some x→x.1=o.dst∧YA P T ops σ o (zao (fun j=>decide (j < i)) 0 xs env) x.2)∧Q (zao (fun _=>true) 0 xs env)
 | [],env,h=>⟨[],rfl,fun i o x hi=>by simp at hi,h⟩
 | o::l,env,h=>by
  simp only [wq] at h
  obtain⟨v,h1,h2⟩:=wguard_det (K:=fun v=>wq P T ops σ l (aput env o.dst v) Q) (det_Qop P T o.op (zaN env) σ) h
  obtain⟨xs,h3,h4,h5⟩:=zdt l _ h2
  have shift:∀ (p:Nat→Bool) (k:Nat) (r:List (Option Tmp × AV)) (e:Env),zao p (k+1) r e=zao (fun j=>p (j+1)) k r e:=by
   intro p k r
   induction r generalizing k with
   | nil=>intro e;rfl
   | cons y r ih=>intro e;simp only [zao];exact ih _ _
  refine⟨(o.dst,v)::xs,by simp [h3],?_,?_⟩
  ·intro i o' x hi hx
   match i with
   | 0 =>
    simp at hi hx
    subst hi hx
    refine⟨rfl,?_⟩
    have:zao (fun j=>decide (j < 0)) 0 ((o.dst,v)::xs) env=env:=by
     rw [zaI (p':=fun _=>false) _ _ _ (fun j _=>by simp)]
     have h2:∀ (l:List (Option Tmp × AV)) (k:Nat) (e:Env),zao (fun _=>false) k l e=e:=by
      intro l
      induction l with
      | nil=>intro k e;rfl
      | cons y l ih=>intro k e;simp only [zao,Bool.false_eq_true,if_false];exact ih _ _
     exact h2 _ _ _
    rw [this]
    exact h1
   | i+1 =>
    simp only [List.getElem?_cons_succ] at hi hx
    obtain⟨g1,g2⟩:=h4 i o' x hi hx
    refine⟨g1,?_⟩
    simp only [zao]
    rw [if_pos (by simp),Nat.zero_add,shift]
    rw [zaI (p':=fun j=>decide (j < i)) _ _ _ (fun j _=>by simp)]
    exact g2
  ·simp only [zao,if_true]
   rw [Nat.zero_add,shift]
   exact h5
def anc (ops:Array Oper):Nat→Nat→Nat→Bool
 | 0,_,_=>false
 | f+1,i,j=>match ops[i]? with
  | none=>false
  | some o=>(o.after.any fun e=>Region.binds .any e && e.on == j) || o.after.any fun e=>Region.binds .any e && anc ops f e.on j
def zeE (ops:Array Oper) (i j:Nat):Bool :=
 match ops[i]?,ops[j]? with
 | some a,some b=>b.dst.toList.any (fun t=>(uses ops a).contains t) || a.dst.toList.any (fun t=>(uses ops b).contains t)
 | _,_=>false
def zb2 (ops:Array Oper):Bool :=
 (List.range ops.size).all fun i =>
  (match ops[i]? with
   | some o=>o.after.all fun e=>!Region.binds .any e || decide (e.on < i)
   | none=>true) &&
  (List.range i).all fun j=>!zeE ops i j || anc ops ops.size i j
def zae (l:Array Bool) (i:Nat):Bool:=l.getD i false
structure Closed (ops:Array Oper) (l:Array Bool):Prop where
 size:l.size=ops.size
 down:∀ (i:Nat) (o:Oper),ops[i]?=some o→zae l i=true→∀ e∈o.after,Region.binds .any e=true→zae l e.on=true
theorem zba {ops:Array Oper} {l:Array Bool} (hc:Closed ops l):∀ (f i j:Nat),(∀ o,ops[i]?=some o→∀ e∈o.after,Region.binds .any e=true→zae l e.on=true)→anc ops f i j=true→zae l j=true
 | 0,i,j,_,h=>by simp [anc] at h
 | f+1,i,j,hd,h=>by
  simp only [anc] at h
  split at h
  ·cases h
  ·rename_i o ho
   simp only [Bool.or_eq_true,Array.any_eq_true',Bool.and_eq_true,beq_iff_eq] at h
   rcases h with ⟨e,he,h1,h2⟩ | ⟨e,he,h1,h2⟩
   ·have hon:=hd o ho e he h1
    rwa [h2] at hon
   ·have hon:=hd o ho e he h1
    exact zba hc f e.on j (fun o' ho' e' he' hb'=>hc.down e.on o' ho' hon e' he' hb') h2
end Go.Eng
end

section
namespace Go.Eng
open Go
variable {H : Nat → Prop} [Globs]
def cnt (l:Array Bool):Nat→Nat
 | 0=>0
 | n+1=>cnt l n+if zae l n then 0 else 1
theorem cnt_le {l l':Array Bool} (h:∀ j,zae l j=true→zae l' j=true):∀ n,cnt l' n≤cnt l n
 | 0=>Nat.le_refl _
 | n+1=>by
  have:=cnt_le h n
  simp only [cnt]
  by_cases h1:zae l n=true
  ·simp [h1,h n h1];omega
  ·simp [h1];split <;> omega
theorem zf4 {l l':Array Bool} (h:∀ j,zae l j=true→zae l' j=true) {i:Nat} (h1:zae l i=false) (h2:zae l' i=true):∀ n,i < n→cnt l' n < cnt l n
 | 0,hi=>by omega
 | n+1,hi=>by
  simp only [cnt]
  by_cases he:i=n
  ·subst he
   have:=cnt_le h i
   simp [h1,h2]
   omega
  ·have:=zf4 h h1 h2 n (by omega)
   by_cases h3:zae l n=true
   ·simp [h3,h n h3];omega
   ·simp [h3];split <;> omega
theorem zdI {l:Array Bool}:∀ n,cnt l n=0→∀ i,i < n→zae l i=true
 | 0,_,i,hi=>by omega
 | n+1,h,i,hi=>by
  simp only [cnt] at h
  by_cases he:i=n
  ·subst he
   by_cases h1:zae l i=true
   ·exact h1
   ·simp [h1] at h
  ·exact zdI n (by omega) i (by omega)
theorem zaS {ops:Array Oper} {l:Array Bool} {i:Nat} (h:i∈Region.ready .any ops l):∃ o,ops[i]?=some o∧i < l.size∧zae l i=false∧∀ e∈o.after,Region.binds .any e=true→zae l e.on=true:=by
 simp only [Region.ready,List.mem_filter,List.mem_range,Bool.and_eq_true,Bool.not_eq_true'] at h
 obtain⟨hi,h1,h2⟩:=h
 have ho:ops[i]?=some ops[i]:=Array.getElem?_eq_getElem hi
 rw [ho] at h2
 simp only [Option.map_some,Option.getD_some] at h2
 refine⟨ops[i],ho,?_,?_,?_⟩
 ·rcases Nat.lt_or_ge i l.size with h3 | h3
  ·exact h3
  ·simp [Array.getD_eq_getD_getElem?,Array.getElem?_eq_none h3] at h1
 ·unfold zae
  rw [Array.getD_eq_getD_getElem?] at h1 ⊢
  cases hl:l[i]? with
  | none=>simp [hl] at h1
  | some b=>simp [hl] at h1 ⊢;exact h1
 ·intro e he hb
  rw [Array.all_eq_true'] at h2
  have:=h2 e he
  simp only [hb,Bool.not_true,Bool.false_or] at this
  exact this
theorem zet {ops:Array Oper} {l:Array Bool} {i:Nat} {o:Oper} (ho:ops[i]?=some o) (hsz:l.size=ops.size) (h1:zae l i=false) (h2:∀ e∈o.after,Region.binds .any e=true→zae l e.on=true):i∈Region.ready .any ops l:=by
 have hi:=(Array.getElem?_eq_some_iff.1 ho).1
 simp only [Region.ready,List.mem_filter,List.mem_range,Bool.and_eq_true,Bool.not_eq_true',ho,Option.map_some,Option.getD_some]
 refine⟨hi,?_,?_⟩
 ·unfold zae at h1
  rw [Array.getD_eq_getD_getElem?] at h1 ⊢
  rw [Array.getElem?_eq_getElem (by omega)] at h1 ⊢
  simpa using h1
 ·rw [Array.all_eq_true']
  intro e he
  by_cases hb:Region.binds .any e=true
  ·have:=h2 e he hb
   unfold zae at this
   simp [hb,this]
  ·simp [hb]
theorem zaf {l:Array Bool} {i j:Nat} (hi:i < l.size):zae (l.setIfInBounds i true) j=if i=j then true else zae l j:=by
 unfold zae
 rw [Array.getD_eq_getD_getElem?,Array.getD_eq_getD_getElem?,Array.getElem?_setIfInBounds]
 by_cases h:i=j
 ·subst h;simp [hi]
 ·simp [h]
theorem zbM {ops:Array Oper} (h:zb2 ops=true) {i:Nat} {o:Oper} (ho:ops[i]?=some o):∀ e∈o.after,Region.binds .any e=true→e.on < i:=by
 have hi:=(Array.getElem?_eq_some_iff.1 ho).1
 simp only [zb2,List.all_eq_true,List.mem_range,Bool.and_eq_true] at h
 have h1:=(h i hi).1
 rw [ho] at h1
 simp only [Array.all_eq_true'] at h1
 intro e he hb
 have:=h1 e he
 simpa [hb] using this
theorem zbK {ops:Array Oper} (h:zb2 ops=true) {i j:Nat} (hi:i < ops.size) (hj:j < i) (hc:zeE ops i j=true):anc ops ops.size i j=true:=by
 simp only [zb2,List.all_eq_true,List.mem_range,Bool.and_eq_true] at h
 have:=(h i hi).2 j hj
 simpa [hc] using this
end Go.Eng
end

section
namespace Go.Eng
open Go
variable {H : Nat → Prop} [Globs]
def zke (ops:Array Oper) (t:Nat):Bool :=
 (List.range t).all (fun j=>anc ops ops.size t j) && (List.range ops.size).all (fun i=>!decide (t < i) || anc ops ops.size i t)
theorem solid_up {ops:Array Oper} {t j:Nat} (h:zke ops t=true) (hj:j < t):anc ops ops.size t j=true:=by
 simp only [zke,Bool.and_eq_true,List.all_eq_true,List.mem_range] at h
 exact h.1 j hj
theorem zgx {ops:Array Oper} {t i:Nat} (h:zke ops t=true) (hi:i < ops.size) (hj:t < i):anc ops ops.size i t=true:=by
 simp only [zke,Bool.and_eq_true,List.all_eq_true,List.mem_range] at h
 simpa [hj] using h.2 i hi
theorem seg_any {r:Option Nat} {n:Nat} {P:Program} {T:Tab} (hT:zaD P T) {ops:Array Oper} {w0:World} {O0:Nat→Prop} {m0:Ids} (hG:Glob w0 O0) {Q:Post} {σ:zaa} {env:Env} {xs:List (Option Tmp × AV)} (hok:zb2 ops=true) {s t:Nat} (hst:s+xs.length=t) (htn:t≤ops.size)
  (hsol:t < ops.size→zke ops t=true)
  (hxs:∀ (i:Nat) (o:Oper) (x:Option Tmp × AV),ops[s+i]?=some o→xs[i]?=some x→x.1=o.dst∧YA P T ops σ o (zao (fun j=>decide (j < i)) 0 xs env) x.2)
  (hnext:∀ (fuel:Nat) (l:Array Bool) (a:Act) (w:World) (m:Ids),cnt l ops.size≤fuel→Closed ops l→(∀ i,i < ops.size→zae l i=decide (i < t))→Ext H w0 O0 m0 w (own H m σ) m→St H w m σ→reps w (own H m σ) m (zao (fun _=>true) 0 xs env) a.tmps.toList→Mk w0.heap.size w (own H m σ) a.defers →
   wpAnyIn (FR r) n P .any ops (lift H w0 O0 m0 Q) fuel l a w) :
  ∀ (fuel:Nat) (l:Array Bool) (a:Act) (w:World) (m:Ids),cnt l ops.size≤fuel→Closed ops l→(∀ i,i < s→zae l i=true)→(∀ i,i < ops.size→t≤i→zae l i=false)→Ext H w0 O0 m0 w (own H m σ) m→St H w m σ→reps w (own H m σ) m (zao (fun j=>zae l (s+j)) 0 xs env) a.tmps.toList→Mk w0.heap.size w (own H m σ) a.defers →
   wpAnyIn (FR r) n P .any ops (lift H w0 O0 m0 Q) fuel l a w:=by
 intro fuel
 induction fuel with
 | zero =>
  intro l a w m hc hcl hlo hhi h0 hs he hd
  have hall:=zdI (l:=l) ops.size (by omega)
  have htz:t=ops.size:=by
   rcases Nat.lt_or_ge t ops.size with h | h
   ·have:=hhi t h (Nat.le_refl _)
    rw [hall t h] at this
    cases this
   ·omega
  refine hnext 0 l a w m hc hcl (fun i hi=>by rw [hall i hi];simp;omega) h0 hs ?_ hd
  rw [zaI (p':=fun j=>zae l (s+j)) _ _ _ (fun j hj=>by rw [Nat.zero_add];exact(hall (s+j) (by omega)).symm)]
  exact he
 | succ fuel ih =>
  intro l a w m hc hcl hlo hhi h0 hs he hd
  by_cases hall:∀ i,i < t→zae l i=true
  ·refine hnext _ l a w m hc hcl (fun i hi=>?_) h0 hs ?_ hd
   ·by_cases hit:i < t
    ·rw [hall i hit];simp [hit]
    ·rw [hhi i hi (by omega)];simp [hit]
   ·rw [zaI (p':=fun j=>zae l (s+j)) _ _ _ (fun j hj=>by rw [Nat.zero_add];exact(hall (s+j) (by omega)).symm)]
    exact he
  refine⟨fun hr=>?_,fun i hi=>?_⟩
  ·refine absurd (fun i=>?_) hall
   induction i using Nat.strongRecOn with
   | _ i ihi =>
    intro hi
    cases h1:zae l i with
    | true=>rfl
    | false =>
     have ho : ops[i]? = some (ops[i]'(by omega)) := Array.getElem?_eq_getElem (by omega)
     have:=zet ho hcl.size h1 (fun e he hb=>ihi e.on (zbM hok ho e he hb) (by have:=zbM hok ho e he hb;omega))
     rw [hr] at this
     cases this
  ·obtain⟨o,ho,hil,hun,hdeps⟩:=zaS hi
   have hi':i < ops.size:=(Array.getElem?_eq_some_iff.1 ho).1
   have hdeps':∀ j,anc ops ops.size i j=true→zae l j=true:=fun j hj=>zba hcl _ i j (fun o' ho'=>by rw [ho] at ho';cases ho';exact hdeps) hj
   have hit:i < t:=by
    rcases Nat.lt_or_ge i t with h | h
    ·exact h
    ·have htz:t < ops.size:=by omega
     have hsl:=hsol htz
     rcases Nat.lt_or_ge t i with h2 | h2
     ·have:=hdeps' t (zgx hsl hi' h2)
      rw [hhi t htz (Nat.le_refl _)] at this
      cases this
     ·obtain rfl:i=t:=by omega
      exact absurd (fun j hj=>hdeps' j (solid_up hsl hj)) hall
   have his:s≤i:=by
    rcases Nat.lt_or_ge i s with h | h
    ·rw [hlo i h] at hun;cases hun
    ·exact h
   obtain⟨d,rfl⟩:∃ d,i=s+d:=⟨i - s,by omega⟩
   obtain ⟨x, hx⟩ : ∃ x, xs[d]? = some x := ⟨xs[d]'(by omega), by simp⟩
   obtain⟨hxd,hya⟩:=hxs d o x ho hx
   have hcl2:∀ (j:Nat) (y:Option Tmp × AV),j≠d→xs[j]?=some y→(∃ t,y.1=some t∧t∈uses ops o)→zae l (s+j)=decide (j < d):=by
    rintro j y hji hy ⟨t',hyt,htu⟩
    have hj0:=(List.getElem?_eq_some_iff.1 hy).1
    have hj':s+j < ops.size:=by omega
    have hoj:ops[s+j]?=some ops[s+j]:=Array.getElem?_eq_getElem hj'
    have hyd:=(hxs j _ y hoj hy).1
    rcases Nat.lt_or_gt_of_ne hji with hlt | hgt
    ·have hc:zeE ops (s+d) (s+j)=true:=by
      unfold zeE
      rw [ho,hoj]
      refine aQ15 ?_
      exact .inl ⟨t',by rw [← hyd,hyt];simp,by simpa using htu⟩
     rw [hdeps' _ (zbK hok hi' (by omega) hc)]
     simp [hlt]
    ·have hc:zeE ops (s+j) (s+d)=true:=by
      unfold zeE
      rw [ho,hoj]
      refine aQ15 ?_
      exact .inr ⟨t',by rw [← hyd,hyt];simp,by simpa using htu⟩
     have ha:=zbK hok hj' (by omega) hc
     cases hlj:zae l (s+j) with
     | false=>simp;omega
     | true =>
      have:=zba hcl _ (s+j) (s+d) (fun o' ho' e' he' hb'=>hcl.down (s+j) o' ho' hlj e' he' hb') ha
      rw [hun] at this
      cases this
   have hya':YA P T ops σ o (zao (fun j=>zae l (s+j)) 0 xs env) x.2:=by
    refine YA_ev (fun t' ht=>?_) hya
    refine zb1 xs 0 env env rfl rfl (fun j y hy hyt=>?_)
    rw [Nat.zero_add]
    by_cases hji:j=d
    ·subst hji;simp [hun]
    ·rw [hcl2 j y hji hy ⟨t',hyt,by unfold uses;simp only [List.mem_append] at ht ⊢;exact .inl ht⟩]
   have hnx:zao (fun j=>zae (l.setIfInBounds (s+d) true) (s+j)) 0 xs env=aput (zao (fun j=>zae l (s+j)) 0 xs env) o.dst x.2:=by
    apply List.ext_getElem?
    intro t'
    by_cases hdt:o.dst=some t'
    ·rw [zd0 xs 0 env d (by rw [hx,← hdt,← hxd]) (by rw [Nat.zero_add,zaf hil,if_pos rfl]) (fun j y hj hy hyt=>by
      rw [Nat.zero_add,zaf hil,if_neg (by omega),hcl2 j y (by omega) hy ⟨t',hyt,by unfold uses;simp [hdt]⟩]
      simp;omega)]
     rw [hdt]
     simp only [aput,List.getElem?_set,zb8]
     simp
    ·rw [zf3 hdt]
     refine zb1 xs 0 env env rfl rfl (fun j y hy hyt=>?_)
     rw [Nat.zero_add,zaf hil]
     by_cases hij:d=j
     ·subst hij
      rw [hx] at hy
      cases hy
      exact absurd (hxd ▸ hyt) hdt
     ·rw [if_neg (by omega)]
   have hcl':Closed ops (l.setIfInBounds (s+d) true):=by
    refine⟨by simpa using hcl.size,fun k ok hok' hlk e he hb=>?_⟩
    rw [zaf hil] at hlk ⊢
    by_cases hik:s+d=k
    ·subst hik
     rw [ho] at hok'
     cases hok'
     rw [hdeps e he hb]
     simp
    ·rw [if_neg hik] at hlk
     rw [hcl.down k ok hok' hlk e he hb]
     simp
   have hcnt:cnt (l.setIfInBounds (s+d) true) ops.size≤fuel:=by
    have:=zf4 (l:=l) (l':=l.setIfInBounds (s+d) true) (fun j hj=>by rw [zaf hil,hj];simp) hun (by rw [zaf hil,if_pos rfl]) ops.size hi'
    omega
   have hlo':∀ i,i < s→zae (l.setIfInBounds (s+d) true) i=true:=fun i h=>by rw [zaf hil,hlo i h];simp
   have hhi':∀ i,i < ops.size→t≤i→zae (l.setIfInBounds (s+d) true) i=false:=fun i h h2=>by rw [zaf hil,if_neg (by omega),hhi i h h2]
   unfold wpOpIn
   rw [ho]
   simp only
   rcases zbj (a:=a) hya' he with ⟨hw,h⟩ | ⟨hw,h⟩
   ·rw [if_pos hw]
    have hop:=zf2 hT (hG.mono h0) hs (o:=o) (ρ:=a.eval) h (zaO (hG.mono h0) he)
    have hop' : OpOK H P w m σ (fun r σ' => r = x.2 ∧ σ' = σ) (panK (zao (fun j => zae l (s + j)) 0 xs env) (fun y _ _ => match y with | .pan _ => False | _ => True)) ((execOp a.eval o).run P w) := hop
    refine ziK (H:=H) (w0:=w0) (O0:=O0) (m0:=m0) ?_
    exact zeq (Q := fun y _ _ => match y with | .pan _ => False | _ => True) (next := wpAnyIn (FR r) n P .any ops (lift H w0 O0 m0 Q) fuel (l.setIfInBounds (s + d) true)) hG h0 hs he hd (zes h) hop' (fun v r w' m' σ' g1 g2 g3 g4 ⟨g5, g6⟩ => by
     subst g5 g6
     exact ih _ _ _ m' hcnt hcl' hlo' hhi' g1 g2 (by rw [hnx];exact g3) g4)
   ·rw [if_neg (by simp [hw])]
    refine⟨fun _ _=>trivial,?_⟩
    refine ih _ _ _ m hcnt hcl' hlo' hhi' h0 hs ?_ (by rw [zaB];exact hd)
    rw [hnx,h]
    exact zaM he _ (by simp only [rep])
def wd (P:Program) (T:Tab) (ops:Array Oper):List Nat→List Oper→Env→zaa→Post→Prop
 | [],l,env,σ,Q=>wq P T ops σ l env (fun e=>Q .normal e σ)
 | k::ks,l,env,σ,Q=>wq P T ops σ (l.take k) env (fun e=>match l.drop k with
  | []=>False
  | o::rest=>zb6 ops e o.guard (Wop P T o.op (zaN e) σ (fun v σ1=>wd P T ops ks rest (aput e o.dst v) σ1 Q) (panK e Q)) (wd P T ops ks rest (aput e o.dst (.lit undef)) σ Q))
def zgy (ops:Array Oper):Nat→List Nat→Bool
 | _,[]=>true
 | s,k::ks=>zke ops (s+k) && zgy ops (s+k+1) ks
theorem ziM:∀ (l:List (Option Tmp × AV)) (k:Nat) (e:Env),zao (fun _=>false) k l e=e
 | [],_,_=>rfl
 | y::l,k,e=>by simp only [zao,Bool.false_eq_true,if_false];exact ziM l _ _
theorem wd_any {r:Option Nat} {n:Nat} {P:Program} {T:Tab} (hT:zaD P T) {ops:Array Oper} {w0:World} {O0:Nat→Prop} {m0:Ids} (hG:Glob w0 O0) {Q:Post} (hok:zb2 ops=true):∀ (ks:List Nat) (s:Nat) (env:Env) (σ:zaa) (fuel:Nat) (lst:Array Bool) (a:Act) (w:World) (m:Ids),
  s≤ops.size→zgy ops s ks=true→wd P T ops ks (ops.toList.drop s) env σ Q→cnt lst ops.size≤fuel→Closed ops lst→(∀ i,i < ops.size→zae lst i=decide (i < s))→Ext H w0 O0 m0 w (own H m σ) m→St H w m σ→reps w (own H m σ) m env a.tmps.toList→Mk w0.heap.size w (own H m σ) a.defers →
  wpAnyIn (FR r) n P .any ops (lift H w0 O0 m0 Q) fuel lst a w:=by
 have start:∀ (lst:Array Bool) (s:Nat) (xs:List (Option Tmp × AV)) (env:Env),s+xs.length≤ops.size→(∀ i,i < ops.size→zae lst i=decide (i < s))→zao (fun j=>zae lst (s+j)) 0 xs env=env:=by
  intro lst s xs env hl h
  rw [zaI (p':=fun _=>false) _ _ _ (fun j hj=>by rw [Nat.zero_add,h (s+j) (by omega)];simp),ziM]
 intro ks
 induction ks with
 | nil =>
  intro s env σ fuel lst a w m hsn _ h hc hcl hls h0 hs he hd
  obtain⟨xs,h1,h2,h3⟩:=zdt _ _ h
  have hxl:s+xs.length=ops.size:=by rw [h1];simp;omega
  refine seg_any hT hG hok (t:=ops.size) hxl (Nat.le_refl _) (fun h=>absurd h (Nat.lt_irrefl _)) (fun i o x ho hx=>h2 i o x (by rw [List.getElem?_drop,Array.getElem?_toList];exact ho) hx) ?_ fuel lst a w m hc hcl (fun i hi=>by rw [hls i (by omega)];simp [hi]) (fun i hi h=>by omega) h0 hs (by rw [start lst s xs env (by omega) hls];exact he) hd
  intro fuel l a w m hc hcl hall h0 hs he hd
  have hp:lift H w0 O0 m0 Q .normal a w:=⟨.normal,_,σ,m,hs,h0,he,hd,trivial,h3⟩
  have hr:Region.ready .any ops l=[]:=by
   cases hr:Region.ready .any ops l with
   | nil=>rfl
   | cons i r =>
    obtain⟨o,ho,_,h1,_⟩:=zaS (i:=i) (by rw [hr];simp)
    have hi:=(Array.getElem?_eq_some_iff.1 ho).1
    rw [hall i hi] at h1
    simp [hi] at h1
  cases fuel with
  | zero=>exact⟨hr,hp⟩
  | succ fuel=>exact⟨fun _=>hp,fun i hi=>by rw [hr] at hi;cases hi⟩
 | cons k ks ih =>
  intro s env σ fuel lst a w m hsn hsol h hc hcl hls h0 hs he hd
  simp only [zgy,Bool.and_eq_true] at hsol
  simp only [wd] at h
  obtain⟨xs,h1,h2,h3⟩:=zdt _ _ h
  split at h3
  ·exact h3.elim
  rename_i o rest hdr
  have hlen:k < (ops.toList.drop s).length:=by
   rcases Nat.lt_or_ge k (ops.toList.drop s).length with h | h
   ·exact h
   ·rw [List.drop_eq_nil_of_le h] at hdr;cases hdr
  have hlen':s+k < ops.size:=by simp at hlen;omega
  have hxl:xs.length=k:=by rw [h1,List.length_take];omega
  have hdd:ops.toList.drop (s+k)=o::rest:=by rw [← hdr,List.drop_drop]
  have ho:ops[s+k]?=some o:=by
   have:(ops.toList.drop (s+k))[0]?=some o:=by rw [hdd];rfl
   rw [List.getElem?_drop,Array.getElem?_toList] at this
   simpa using this
  have hrest:rest=ops.toList.drop (s+k+1):=by
   have:(ops.toList.drop (s+k)).drop 1=rest:=by rw [hdd];rfl
   rw [← this,List.drop_drop]
  refine seg_any hT hG hok (xs:=xs) (s:=s) (t:=s+k) (by omega) (by omega) (fun _=>hsol.1) (fun i o x ho hx=>h2 i o x ?_ hx) ?_ fuel lst a w m hc hcl (fun i hi=>by rw [hls i (by omega)];simp [hi]) (fun i hi h=>by rw [hls i hi];simp;omega) h0 hs (by rw [start lst s xs env (by omega) hls];exact he) hd
  ·have hik:=(List.getElem?_eq_some_iff.1 hx).1
   rw [List.getElem?_take,if_pos (by omega),List.getElem?_drop,Array.getElem?_toList]
   exact ho
  intro fuel l a w m hc hcl hall h0 hs he hd
  have hun:zae l (s+k)=false:=by rw [hall _ hlen'];simp
  have hedge:∀ e∈o.after,Region.binds .any e=true→zae l e.on=true:=fun e he hb=>by
   have:=zbM hok ho e he hb
   rw [hall _ (by omega)]
   simpa using this
  cases fuel with
  | zero =>
   have:=zdI (l:=l) ops.size (by omega) (s+k) hlen'
   rw [hun] at this
   cases this
  | succ fuel =>
   refine⟨fun hr=>?_,fun i hi=>?_⟩
   ·have:=zet ho hcl.size hun hedge
    rw [hr] at this
    cases this
   ·obtain⟨o',ho',hil,huni,hdeps⟩:=zaS hi
    have hi':i < ops.size:=(Array.getElem?_eq_some_iff.1 ho').1
    obtain rfl:i=s+k:=by
     rcases Nat.lt_trichotomy i (s+k) with h | h | h
     ·rw [hall i hi'] at huni
      simp [h] at huni
     ·exact h
     ·have:=zba hcl _ i (s+k) (fun o'' ho''=>by rw [ho'] at ho'';cases ho'';exact hdeps) (zgx hsol.1 hi' h)
      rw [hun] at this
      cases this
    have hcl':Closed ops (l.setIfInBounds (s+k) true):=by
     refine⟨by simpa using hcl.size,fun j ok hok' hlk e he hb=>?_⟩
     rw [zaf hil] at hlk ⊢
     by_cases hik:s+k=j
     ·subst hik
      rw [ho'] at hok'
      cases hok'
      rw [hdeps e he hb]
      simp
     ·rw [if_neg hik] at hlk
      rw [hcl.down j ok hok' hlk e he hb]
      simp
    have hcnt:cnt (l.setIfInBounds (s+k) true) ops.size≤fuel:=by
     have:=zf4 (l:=l) (l':=l.setIfInBounds (s+k) true) (fun j hj=>by rw [zaf hil,hj];simp) hun (by rw [zaf hil,if_pos rfl]) ops.size hi'
     omega
    have hls':∀ i,i < ops.size→zae (l.setIfInBounds (s+k) true) i=decide (i < s+k+1):=fun i h=>by
     rw [zaf hil]
     by_cases hik:s+k=i
     ·subst hik;simp
     ·rw [if_neg hik,hall i h]
      simp
      omega
    unfold wpOpIn
    rw [ho]
    simp only
    rcases zbj (a:=a) h3 he with ⟨hw,h⟩ | ⟨hw,h⟩
    ·rw [if_pos hw]
     have hop:=zcC hT (hG.mono h0) hs (o:=o) (ρ:=a.eval) h (zaO (hG.mono h0) he)
     exact zeq hG h0 hs he hd (zct h) hop fun v r w' m' σ' g1 g2 g3 g4 g5 => ih (s + k + 1) _ σ' fuel _ _ _ m' (by omega) hsol.2 (by rw [← hrest]; exact g5) hcnt hcl' hls' g1 g2 g3 g4
    ·rw [if_neg (by simp [hw])]
     refine⟨fun _ _=>trivial,?_⟩
     exact ih (s+k+1) _ σ fuel _ _ _ m (by omega) hsol.2 (by rw [← hrest];exact h) hcnt hcl' hls' h0 hs (zaM he _ (by simp only [rep])) (by rw [zaB];exact hd)
theorem zhI {r:Option Nat} {n:Nat} {P:Program} {T:Tab} (hT:zaD P T) {ops:Array Oper} {w0:World} {O0:Nat→Prop} {m0:Ids} (hG:Glob w0 O0) {Q:Post} {σ:zaa} {env:Env} {a:Act} {w:World} {m:Ids} {id:Nat} {ks:List Nat} (hm:P.follows .mixedOrders=true) (hok:zb2 ops=true) (hsol:zgy ops 0 ks=true)
  (h:wd P T ops ks ops.toList env σ Q) (h0:Ext H w0 O0 m0 w (own H m σ) m) (hs:St H w m σ) (he:reps w (own H m σ) m env a.tmps.toList) (hd:Mk w0.heap.size w (own H m σ) a.defers):(Code.region id ops true).wpIn (FR r) n P (lift H w0 O0 m0 Q) a w:=by
 refine wpIn_region_any hm ?_
 obtain⟨k1,k2⟩:=hs.old (w':={ heap:=w.heap,tape:=w.tape,drawn:=w.drawn+1,os:=w.os,output:=w.output }) (Nat.le_refl _) (fun _ _=>rfl) rfl rfl rfl
 refine wd_any hT hG hok ks 0 env σ ops.size _ a _ m (Nat.zero_le _) hsol (by simpa using h) ?_ ?_ ?_ (h0.trans k2) k1 (zah k2 _ _ he) hd
 ·have:∀ n,cnt (Array.replicate ops.size false) n≤n:=by
   intro n
   induction n with
   | zero=>exact Nat.le_refl _
   | succ n ih=>simp only [cnt];split <;> omega
  exact this _
 ·refine⟨by simp,fun i o ho hl=>?_⟩
  simp [zae,Array.getD_eq_getD_getElem?,Array.getElem?_replicate] at hl
  split at hl <;> simp at hl
 ·intro i hi
  simp [zae,Array.getD_eq_getD_getElem?,Array.getElem?_replicate,hi]
end Go.Eng
end

section
namespace Go.Eng
open Go
variable {H : Nat → Prop} [Globs]
inductive Tr where
 | done
 | nil
 | br (i:Nat) (t r:Tr)
def zdJ (ops:Array Oper):Nat→Array Bool→Tr
 | 0,_=>.done
 | n+1,l=>match Region.ready .any ops l with
  | []=>.done
  | rs=>rs.foldr (fun i acc=>.br i (zdJ ops n (l.setIfInBounds i true)) acc) .nil
def zcQ (P:Program) (T:Tab) (ops:Array Oper):Tr→Env→zaa→Post→Prop
 | .done,env,σ,Q=>Q .normal env σ
 | .nil,_,_,_=>True
 | .br i t r,env,σ,Q=>(match ops[i]? with
  | some o => zb6 ops env o.guard (Wop P T o.op (zaN env) σ (fun v σ' => zcQ P T ops t (aput env o.dst v) σ' Q) (panK env Q)) (zcQ P T ops t (aput env o.dst (.lit undef)) σ Q)
  | none=>False)∧zcQ P T ops r env σ Q
theorem zhJ {P:Program} {T:Tab} {ops:Array Oper} {env:Env} {σ:zaa} {Q:Post} {f:Nat→Tr}:∀ (rs:List Nat),zcQ P T ops (rs.foldr (fun i acc=>.br i (f i) acc) .nil) env σ Q→∀ i∈rs,(match ops[i]? with
  | some o => zb6 ops env o.guard (Wop P T o.op (zaN env) σ (fun v σ' => zcQ P T ops (f i) (aput env o.dst v) σ' Q) (panK env Q)) (zcQ P T ops (f i) (aput env o.dst (.lit undef)) σ Q)
  | none=>False)
 | [],_,i,hi=>by cases hi
 | j::rs,h,i,hi=>by
  simp only [List.foldr_cons,zcQ] at h
  rcases List.mem_cons.1 hi with rfl | hi
  ·exact h.1
  ·exact zhJ rs h.2 i hi
theorem tree_any {r:Option Nat} {n:Nat} {P:Program} {T:Tab} (hT:zaD P T) {ops:Array Oper} {w0:World} {O0:Nat→Prop} {m0:Ids} (hG:Glob w0 O0) {Q:Post}:∀ (fuel:Nat) (l:Array Bool) (env:Env) (σ:zaa) (a:Act) (w:World) (m:Ids),l.size=ops.size→cnt l ops.size≤fuel →
  zcQ P T ops (zdJ ops fuel l) env σ Q→Ext H w0 O0 m0 w (own H m σ) m→St H w m σ→reps w (own H m σ) m env a.tmps.toList→Mk w0.heap.size w (own H m σ) a.defers →
  wpAnyIn (FR r) n P .any ops (lift H w0 O0 m0 Q) fuel l a w:=by
 intro fuel
 induction fuel with
 | zero =>
  intro l env σ a w m hls hc h h0 hs he hd
  have hall:=zdI (l:=l) ops.size (by omega)
  have hr:Region.ready .any ops l=[]:=by
   cases hr:Region.ready .any ops l with
   | nil=>rfl
   | cons i rs =>
    obtain⟨o,ho,_,h1,_⟩:=zaS (i:=i) (by rw [hr];simp)
    have hi:=(Array.getElem?_eq_some_iff.1 ho).1
    rw [hall i hi] at h1
    simp at h1
  exact⟨hr,.normal,env,σ,m,hs,h0,he,hd,trivial,h⟩
 | succ fuel ih =>
  intro l env σ a w m hls hc h h0 hs he hd
  simp only [zdJ] at h
  refine⟨fun hr=>?_,fun i hi=>?_⟩
  ·rw [hr] at h
   exact⟨.normal,env,σ,m,hs,h0,he,hd,trivial,h⟩
  ·have h':zcQ P T ops ((Region.ready .any ops l).foldr (fun i acc=>.br i (zdJ ops fuel (l.setIfInBounds i true)) acc) .nil) env σ Q:=by
    cases hr:Region.ready .any ops l with
    | nil=>rw [hr] at hi;cases hi
    | cons j rs=>rw [hr] at h;exact h
   have hm:=zhJ _ h' i hi
   obtain⟨o,ho,_,hun,_⟩:=zaS hi
   have hi':=(Array.getElem?_eq_some_iff.1 ho).1
   have hil:i < l.size:=by rw [hls];exact hi'
   rw [ho] at hm
   simp only at hm
   have hcnt:cnt (l.setIfInBounds i true) ops.size≤fuel:=by
    have:=zf4 (l:=l) (l':=l.setIfInBounds i true) (fun j hj=>by rw [zaf hil,hj];simp) hun (by rw [zaf hil,if_pos rfl]) ops.size hi'
    omega
   unfold wpOpIn
   rw [ho]
   simp only
   rcases zbj (a:=a) hm he with ⟨hw,h⟩ | ⟨hw,h⟩
   ·rw [if_pos hw]
    have hop:=zcC hT (hG.mono h0) hs (o:=o) (ρ:=a.eval) h (zaO (hG.mono h0) he)
    exact zeq hG h0 hs he hd (zct h) hop fun v r w' m' σ' g1 g2 g3 g4 g5 => ih _ _ _ _ _ m' (by simpa using hls) hcnt g5 g1 g2 g3 g4
   ·rw [if_neg (by simp [hw])]
    exact⟨fun _ _=>trivial,ih _ _ _ _ _ m (by simpa using hls) hcnt h h0 hs (zaM he _ (by simp only [rep])) (by rw [zaB];exact hd)⟩
def zhK (ops:Array Oper):Array Bool:=Array.replicate ops.size false
theorem zhL {r:Option Nat} {n:Nat} {P:Program} {T:Tab} (hT:zaD P T) {ops:Array Oper} {w0:World} {O0:Nat→Prop} {m0:Ids} (hG:Glob w0 O0) {Q:Post} {σ:zaa} {env:Env} {a:Act} {w:World} {m:Ids} {id:Nat} (hm:P.follows .mixedOrders=true)
  (h:zcQ P T ops (zdJ ops ops.size (zhK ops)) env σ Q) (h0:Ext H w0 O0 m0 w (own H m σ) m) (hs:St H w m σ) (he:reps w (own H m σ) m env a.tmps.toList) (hd:Mk w0.heap.size w (own H m σ) a.defers):(Code.region id ops true).wpIn (FR r) n P (lift H w0 O0 m0 Q) a w:=by
 refine wpIn_region_any hm ?_
 obtain⟨k1,k2⟩:=hs.old (w':={ heap:=w.heap,tape:=w.tape,drawn:=w.drawn+1,os:=w.os,output:=w.output }) (Nat.le_refl _) (fun _ _=>rfl) rfl rfl rfl
 refine tree_any hT hG ops.size _ env σ a _ m (by simp) ?_ h (h0.trans k2) k1 (zah k2 _ _ he) (hd.mono k2)
 have:∀ n,cnt (Array.replicate ops.size false) n≤n:=by
  intro n
  induction n with
  | zero=>exact Nat.le_refl _
  | succ n ih=>simp only [cnt];split <;> omega
 exact this _
end Go.Eng
end

section
/-
 A region whose order is open,in which one variable is made at any time: it is hidden till all ahead of the place named is done. No condition.
-/
namespace Go.Eng
open Go
variable {H : Nat → Prop} [Globs]
def Hg (H:Nat→Prop) (g:Nat):Nat→Prop:=fun b=>H b∨b=g
omit [Globs] in
theorem own_Hg (g:Nat) (m:Ids) (σ:zaa) (b:Nat):own (Hg H g) m σ b ↔ own H m σ b∨b=g:=by
 unfold own Hg
 constructor
 ·rintro((h | h) | h)
  ·exact .inl (.inl h)
  ·exact .inr h
  ·exact .inl (.inr h)
 ·rintro((h | h) | h)
  ·exact .inl (.inl h)
  ·exact .inr h
  ·exact .inl (.inr h)
omit [Globs] in
theorem Ext.less {H':Nat→Prop} {w w':World} {O O':Nat→Prop} {m m':Ids} (h:Ext H' w O m w' O' m') (hh:∀ b,H b→H' b):Ext H w O m w' O' m' :=
 ⟨h.heap,h.same,h.own,h.ids,h.rows,h.os,h.tape,h.output,fun b hb=>h.hid b (hh b hb)⟩
omit [Globs] in
theorem blkRep_more {w w':World} {O O':Nat→Prop} {m m':Ids} (hext:Ext H w O m w' O' m') (hold:∀ b,b < w.heap.size→w'.heap[b]?=w.heap[b]?) {mi:Option Nat} {x:Blk} (hb:zfQ w O m mi x):zfQ w' O' m' mi x:=by
 cases x with
 | dead=>trivial
 | ro cs =>
  rcases hb with h1 | ⟨g',e1,h1,h2⟩
  ·exact .inl h1
  ·by_cases hcs:cs=[]
   ·exact .inl hcs
   ·have hlt:=zbx h2 hcs
    refine .inr ⟨g',e1,fun ho=>?_,zbb hext (hold g' hlt) h2⟩
    rcases hext.own g' ho with h3 | h3
    ·exact h1 h3
    ·omega
 | rw cs =>
  rcases hb with h1 | ⟨g',c,e1,hr,h1,h2⟩
  ·exact .inl h1
  ·exact .inr ⟨g',c,e1,hr.move (hold g' hr.lt),h1,zbb hext (hold g' hr.lt) h2⟩
 | rt xx ee cs =>
  rcases hb with h1 | ⟨g',c,e1,hr,h1,h1',h2⟩
  ·exact .inl h1
  ·exact .inr ⟨g',c,e1,hr.move (hold g' hr.row.lt),h1,h1',zbb hext (hold g' hr.row.lt) h2⟩
 | lp st pend env ps as9 bd =>
  obtain⟨g',e1,h1⟩:=hb
  exact⟨g',e1,h1.move hext (hold g' h1.lt)⟩
 | mpb ks vs =>
  obtain⟨g',e1,h1⟩:=hb
  exact⟨g',e1,h1.move hext (hold g' h1.lt)⟩
 | mpi ks vs sn =>
  obtain⟨g',e1,h1⟩:=hb
  exact⟨g',e1,h1.move hext (hold g' h1.lt)⟩
 | fz fe fk fc =>
  obtain⟨g',e1,h1⟩:=hb
  exact⟨g',e1,h1.move hext (hold g' h1.lt)⟩
omit [Globs] in
theorem St.hide {w w':World} {m:Ids} {σ:zaa} (h:St H w m σ) {o:Obj} (hheap:w'.heap=w.heap.push o) (hos:w'.os=w.os) (htape:w'.tape=w.tape) (hout:w'.output=w.output) :
  St (Hg H w.heap.size) w' m σ∧Ext H w (own H m σ) m w' (own (Hg H w.heap.size) m σ) m:=by
 have hold:∀ b,b < w.heap.size→w'.heap[b]?=w.heap[b]?:=fun b hb=>by rw [hheap,Array.getElem?_push_lt hb];simp [hb]
 have hext:Ext H w (own H m σ) m w' (own (Hg H w.heap.size) m σ) m:=by
  refine⟨by rw [hheap];simp,fun b hb _=>hold b hb,fun b hb=>?_,fun _ _ hx=>hx,fun b c hr=>⟨c,?_,rfl⟩,hos,htape,hout,fun b hb=>hold b (h.hid b hb).1⟩
  ·rcases (own_Hg _ m σ b).1 hb with h1 | h1
   ·exact .inl h1
   ·exact .inr (by omega)
  ·have hlt:=hr.lt
   obtain⟨e,f,h1⟩:=hr
   exact⟨e,f,(hold b hlt).trans h1⟩
 refine⟨⟨h.len,fun i x mi hx hmi=>blkRep_more hext hold (h.blk i x mi hx hmi),h.inj,fun b hb=>?_⟩,hext⟩
 rcases hb with hb | rfl
 ·obtain⟨h1,h2⟩:=h.hid b hb
  exact⟨Nat.lt_of_lt_of_le h1 hext.heap,h2⟩
 ·refine⟨by rw [hheap];simp,fun i x hx hm=>?_⟩
  have:=h.ownlt (.inr ⟨i,x,hx,hm⟩)
  omega
theorem oper_wpq {r:Option Nat} {n:Nat} {P:Program} {w:World} {m:Ids} {σ:zaa} {o:Oper} {a:Act} {K:AV→zaa→Prop} {next:Act→World→Prop} {Q':Exit→Act→World→Prop}
  (hG:Glob w (own H m σ)) (hs:St H w m σ)
  (hnd:∀ c,o.op≠.defer c)
  (h:OpOK H P w m σ K (fun _ _=>False) ((execOp a.eval o).run P w))
  (hn : ∀ v r w' m' σ', Ext H w (own H m σ) m w' (own H m' σ') m' → St H w' m' σ' → rep w' (own H m' σ') m' r v → K r σ' → next (a.put o.dst v) w') :
  o.wpIn (FR r) n P a w next Q':=by
 refine⟨fun _ _=>trivial,?_⟩
 rw [Oper.semAt_eq _ _ _ hnd]
 generalize (execOp a.eval o).run P w=res at h
 cases res with
 | ok n w' =>
  cases n <;> simp only [OpOK] at h <;> first | exact h.elim | skip
  case value v =>
   obtain ⟨r, m', σ', h1, h2, h3, h4⟩ := h
   exact hn v r w' m' σ' h2 h1 h3 h4
  case skip =>
   obtain ⟨m', σ', h1, h2, h3⟩ := h
   exact hn undef (.lit undef) w' m' σ' h2 h1 (by simp only [rep]) h3
  case enter f args =>
   obtain⟨rfl,hcb,as9,h1,h2⟩:=h
   refine⟨fun h=>absurd h (by simp [FR,Fence.wide]),zgw (((h2 H w' m args hG hs h1).calls hcb).mono ?_)⟩
   rintro e w'' ⟨x, m', σ', g1, g2, g3, g4⟩
   cases x with
   | ret r =>
    cases e <;> simp only [zb5] at g3
    rename_i v
    exact hn v r w'' m' σ' g2 g1 g3 g4
   | pan r=>exact g4.elim
  case round l f tmps as9 bd =>
   obtain⟨rfl,h2⟩:=h
   refine⟨fun h=>absurd h (by simp [FR,Fence.wide]),?_⟩
   have h3:=h2 hG (n - 1)
   refine RoundIn.mono (R:=_) (show RoundIn (FR r) _ P l f tmps as9 bd _ _ from h3) ?_
   rintro e w'' ⟨x, m', σ', g1, g2, g3, g4⟩
   cases x with
   | ret r =>
    cases e <;> simp only [zb5] at g3
    rename_i v
    exact hn v r w'' m' σ' g2 g1 g3 g4
   | pan r=>exact g4.elim
 | halt x w' =>
  cases x <;> simp only [OpOK] at h
  rename_i v
  obtain ⟨r, m', σ', h1, h2, h3, h4⟩ := h
  exact h4.elim
theorem zhM {t:Array Value} {d e:Nat} {u v:Value} (hne:d≠e) (h:t.setIfInBounds d v=t):(t.setIfInBounds e u).setIfInBounds d v=t.setIfInBounds e u:=by
 rw [Array.setIfInBounds_comm _ _ (fun h=>hne h.symm),h]
theorem zd1 (p:Nat→Bool):∀ (l r:List (Option Tmp × AV)) (k:Nat) (e:Env),zao p k (l++r) e=zao p (k+l.length) r (zao p k l e)
 | [],r,k,e=>rfl
 | x::l,r,k,e=>by
  simp only [List.cons_append,zao,List.length_cons]
  rw [zd1 p l r,Nat.add_assoc,Nat.add_comm 1]
theorem zfy (p:Nat→Bool):∀ (r:List (Option Tmp × AV)) (k n:Nat) (e:Env),zao p (k+n) r e=zao (fun j=>p (j+n)) k r e
 | [],_,_,_=>rfl
 | x::r,k,n,e=>by
  simp only [zao]
  rw [show k+n+1=(k+1)+n by omega,zfy p r]
end Go.Eng
end

section
/-
 A region whose order is open,in which one variable is made at any time and is stored into late,by a value that is told before;other operations may be done behind the store. No condition.
-/
namespace Go.Eng
open Go
variable {H : Nat → Prop} [Globs]
omit [Globs] in
theorem St.landX {w:World} {g:Nat} {c:Array Value} {e:TypeId} {m:Ids} {σ:zaa} {X:List AV} (hs:St (Hg H g) w m σ) (hg:¬ H g) (hc:w.heap[g]?=some (.cells c e (0,0))) (hX:reps w (own (Hg H g) m σ) m X c.toList) :
  St H w (m++[some g]) (σ++[.rw (X)])∧∀ Hx,Ext Hx w (own (Hg H g) m σ) m w (own H (m++[some g]) (σ++[.rw (X)])) (m++[some g]):=by
 have hO:∀ b,own H (m++[some g]) (σ++[.rw (X)]) b ↔ own (Hg H g) m σ b:=fun b=>by
  rw [zgo hs.len,own_Hg]
  simp [Blk.owned,eq_comm]
 have hext:∀ Hx,Ext Hx w (own (Hg H g) m σ) m w (own H (m++[some g]) (σ++[.rw (X)])) (m++[some g]):=fun Hx =>
  ⟨Nat.le_refl _,fun _ _ _=>rfl,fun b hb=>.inl ((hO b).1 hb),fun i x hx=>by
   rw [List.getElem?_append_left (List.getElem?_eq_some_iff.1 hx).1];exact hx,fun _ c h=>⟨c,h,rfl⟩,rfl,rfl,rfl,fun _ _=>rfl⟩
 have split:∀ (i:Nat) (x:Blk),(σ++[Blk.rw (X)])[i]?=some x→(i < σ.length∧σ[i]?=some x)∨(i=σ.length∧x=.rw (X)):=by
  intro i x hx
  rcases Nat.lt_trichotomy i σ.length with hi | hi | hi
  ·rw [List.getElem?_append_left hi] at hx
   exact .inl ⟨hi,hx⟩
  ·subst hi
   rw [List.getElem?_append_right (by omega)] at hx
   simp at hx
   exact .inr ⟨rfl,hx.symm⟩
  ·rw [List.getElem?_eq_none (by simp;omega)] at hx
   cases hx
 have idl:∀ (i:Nat) (x:Option Nat),i < σ.length→(m++[some g])[i]?=some x→m[i]?=some x:=fun i x hi hx=>by
  rwa [List.getElem?_append_left (by rw [hs.len];exact hi)] at hx
 have idr:∀ (x:Option Nat),(m++[some g])[σ.length]?=some x→x=some g:=fun x hx=>by
  rw [← hs.len,List.getElem?_append_right (by omega)] at hx
  simp at hx
  exact hx.symm
 have noold:∀ (i:Nat) (x:Blk),(σ[i]?=some x∧x.owned=true)→m[i]?≠some (some g):=(hs.hid g (.inr rfl)).2
 refine⟨⟨by simp [hs.len],?_,?_,?_⟩,hext⟩
 ·intro i x mi hx hmi
  rcases split i x hx with ⟨hi,hx⟩ | ⟨rfl,rfl⟩
  ·exact zfu (hext H) (fun b hb=>(hO b).1 hb) (hs.blk i x mi hx (idl i mi hi hmi))
  ·have:=idr mi hmi
   subst this
   have hl:=zan hX
   refine .inr ⟨g,c,rfl,⟨e,0,0,hc,.inl (Nat.le_refl _)⟩,by simp at hl;omega,zb0 fun j x hx=>?_⟩
   obtain⟨v,hv,hr⟩:=zaL hX j x hx
   refine⟨v,?_,zaP (hext H) _ _ hr⟩
   rw [Nat.zero_add,Cel.cell ⟨e,_,hc⟩,← Array.getElem?_toList]
   exact hv
 ·intro i j x y b hx hy hmi hmj
  rcases split i x hx.1 with ⟨hi,hx1⟩ | ⟨ei,hx1⟩
  ·rcases split j y hy.1 with ⟨hj,hy1⟩ | ⟨ej,hy1⟩
   ·exact hs.inj i j x y b ⟨hx1,hx.2⟩ ⟨hy1,hy.2⟩ (idl i _ hi hmi) (idl j _ hj hmj)
   ·subst ej
    have:=idr _ hmj
    cases this
    exact absurd (idl i _ hi hmi) (noold i x ⟨hx1,hx.2⟩)
  ·subst ei
   have:=idr _ hmi
   cases this
   rcases split j y hy.1 with ⟨hj,hy1⟩ | ⟨ej,hy1⟩
   ·exact absurd (idl j _ hj hmj) (noold j y ⟨hy1,hy.2⟩)
   ·exact ej.symm
 ·intro b hb
  obtain⟨h1,h2⟩:=hs.hid b (.inl hb)
  refine⟨h1,fun i x hx hmi=>?_⟩
  rcases split i x hx.1 with ⟨hi,hx1⟩ | ⟨ei,hx1⟩
  ·exact h2 i x ⟨hx1,hx.2⟩ (idl i _ hi hmi)
  ·subst ei
   have:=idr _ hmi
   cases this
   exact hg hb
omit [Globs] in
theorem blkRep_but {w w':World} {O O':Nat→Prop} {m m':Ids} {g:Nat} (hext:Ext H w O m w' O' m') (hO:∀ b,O' b→O b) (hold:∀ b,b≠g→w'.heap[b]?=w.heap[b]?) (hg:O g) {mi:Option Nat} {x:Blk} (hne:x.owned=true→mi≠some g) (hb:zfQ w O m mi x):zfQ w' O' m' mi x:=by
 cases x with
 | dead=>trivial
 | ro cs =>
  rcases hb with h1 | ⟨g',e1,h1,h2⟩
  ·exact .inl h1
  ·exact .inr ⟨g',e1,fun ho=>h1 (hO _ ho),zbb hext (hold g' (fun h=>h1 (h ▸ hg))) h2⟩
 | rw cs =>
  rcases hb with h1 | ⟨g',c,e1,hr,h1,h2⟩
  ·exact .inl h1
  ·have hn:g'≠g:=fun h=>hne rfl (by rw [e1,h])
   exact .inr ⟨g',c,e1,hr.move (hold g' hn),h1,zbb hext (hold g' hn) h2⟩
 | rt xx ee cs =>
  rcases hb with h1 | ⟨g',c,e1,hr,h1,h1',h2⟩
  ·exact .inl h1
  ·have hn:g'≠g:=fun h=>hne rfl (by rw [e1,h])
   exact .inr ⟨g',c,e1,hr.move (hold g' hn),h1,h1',zbb hext (hold g' hn) h2⟩
 | lp st pend env ps as9 bd =>
  obtain⟨g',e1,h1⟩:=hb
  have hn:g'≠g:=fun h=>hne rfl (by rw [e1,h])
  exact⟨g',e1,h1.move hext (hold g' hn)⟩
 | mpb ks vs =>
  obtain⟨g',e1,h1⟩:=hb
  have hn:g'≠g:=fun h=>hne rfl (by rw [e1,h])
  exact⟨g',e1,h1.move hext (hold g' hn)⟩
 | mpi ks vs sn =>
  obtain⟨g',e1,h1⟩:=hb
  have hn:g'≠g:=fun h=>hne rfl (by rw [e1,h])
  exact⟨g',e1,h1.move hext (hold g' hn)⟩
 | fz fe fk fc =>
  obtain⟨g',e1,h1⟩:=hb
  have hn:g'≠g:=fun h=>hne rfl (by rw [e1,h])
  exact⟨g',e1,h1.move hext (hold g' hn)⟩
omit [Globs] in
theorem St.late {P:Program} {w:World} {g:Nat} {c:Array Value} {e:TypeId} {m:Ids} {σ:zaa} (hs:St (Hg H g) w m σ) (hg:¬ H g) (hc:w.heap[g]?=some (.cells c e (0,0))) {X:List AV} {vs:List Value} (hX:reps w (own (Hg H g) m σ) m X vs) (hone:X.all AV.one=true) (hlen:vs.length=c.size) :
  ∃ w' c',(storeCells ⟨g,0,none⟩ vs).run P w=.ok () w'∧w'.heap[g]?=some (.cells c' e (0,0))∧c'.toList=vs∧St (Hg H g) w' m σ∧Ext H w (own (Hg H g) m σ) m w' (own (Hg H g) m σ) m:=by
 have hrow:Row w g c:=⟨e,0,0,hc,.inl (Nat.le_refl _)⟩
 have ho:=zdG hX hone
 obtain⟨w',c',h1,h2,h3,h4,h5,h6,h7,h8,h9⟩:=zbU (P:=P) (g:=g) (off:=0) vs 0 w c hrow (by omega) ho
 obtain⟨c2,k3⟩:=zcA (P:=P) (c:=c) vs 0 w w' c hc h1 ho hrow (by omega)
 have hcc:c2=c':=Cel.eq ⟨e,_,k3⟩ h2.cel
 subst hcc
 have hext:Ext H w (own (Hg H g) m σ) m w' (own (Hg H g) m σ) m:=by
  refine⟨by omega,fun b hb hO=>h5 b (fun h=>hO ((own_Hg g m σ b).2 (.inr h))),fun b hb=>.inl hb,fun _ _ h=>h,fun b c0 hb=>?_,h6,h7,h8,fun b hb=>h5 b (fun h=>hg (h ▸ hb))⟩
  by_cases hbg:b=g
  ·subst hbg
   have:=Cel.eq hb hrow.cel
   subst this
   exact⟨c2,h2.cel,h3⟩
  ·obtain⟨e0,f0,hb⟩:=hb
   exact⟨c0,⟨e0,f0,(h5 b hbg).trans hb⟩,rfl⟩
 refine⟨w',c2,h1,k3,?_,⟨hs.len,fun i x mi hx hmi=>?_,hs.inj,fun b hb=>?_⟩,hext⟩
 ·apply List.ext_getElem?
  intro j
  rw [Array.getElem?_toList,h9]
  by_cases hj:j < vs.length
  ·rw [if_pos (by omega)]
   simp
  ·rw [if_neg (by omega),List.getElem?_eq_none (by omega)]
   simp
   omega
 ·exact blkRep_but hext (fun _ h=>h) h5 ((own_Hg g m σ g).2 (.inr rfl)) (fun ho hm=>(hs.hid g (.inr rfl)).2 i x ⟨hx,ho⟩ (by rw [hmi,hm])) (hs.blk i x mi hx hmi)
 ·obtain⟨q1,q2⟩:=hs.hid b hb
  exact⟨by omega,q2⟩
def FS2 (H:Nat→Prop) (w0:World) (O0:Nat→Prop) (m0:Ids) (σ:zaa) (d:Tmp) (z:List Value) (X:List AV) (b b2:Bool) (env:Env) (a:Act) (w:World) (m:Ids):Prop :=
 ∃ H',(∀ b,H b→H' b)∧Ext H w0 O0 m0 w (own H' m σ) m∧St H' w m σ∧reps w (own H' m σ) m env a.tmps.toList∧Mk w0.heap.size w (own H' m σ) a.defers ∧
  match b with
  | false=>H'=H
  | true=>∃ g c e,¬ H g∧H'=Hg H g∧w.heap[g]?=some (.cells c e (0,0))∧(match b2 with | false=>c.toList=z | true=>reps w (own H' m σ) m X c.toList)∧a.tmps.setIfInBounds d (.pointer (some ⟨g,0,none⟩))=a.tmps
theorem segS_any {r:Option Nat} {n:Nat} {P:Program} {T:Tab} (hT:zaD P T) {ops:Array Oper} {w0:World} {O0:Nat→Prop} {m0:Ids} (hG:Glob w0 O0) {Q:Post} {σ:zaa} {env:Env} {xs:List (Option Tmp × AV)} (hok:zb2 ops=true) {t:Nat} (hst:xs.length=t) (htn:t≤ops.size)
  (hsol:t < ops.size→zke ops t=true) {f:Nat} {d:Tmp} {e:TypeId} {te:TI} {of:Oper} (hof:ops[f]?=some of) (hop:of.op=.alloc e) (hod:of.dst=some d) (hog:of.guard=none) (hte:T e=some te)
  (hdst:∀ (j:Nat) (o:Oper),ops[j]?=some o→j≠f→o.dst≠some d)
  (hxf:xs[f]?=some (some d,.bot)) {p:Nat} {opp:Oper} {bs:Tmp} {xv:AV} (hpo:ops[p]?=some opp) (hpop:opp.op=.store e (.tmp d) (.tmp bs)) (hpd:opp.dst=none) (hpg:opp.guard=none) (hpt:p < t) (hpf:anc ops ops.size p f=true)
  (hbs:∀ (j:Nat) (o:Oper),ops[j]?=some o→o.dst=some bs→anc ops ops.size p j=true∧j < p) (hxp:xs[p]?=some (none,.lit undef)) (hxv:(zao (fun j=>decide (j < p)) 0 xs env)[bs]?=some xv) (hlen:xv.cells.length=te.size) (hz:te.zero.length=te.size) (hone:xv.cells.all AV.one=true) (hdl:d < env.length)
  (hxs:∀ (i:Nat) (o:Oper) (x:Option Tmp × AV),i≠f→i≠p→ops[i]?=some o→xs[i]?=some x→x.1=o.dst∧YA P T ops σ o (zao (fun j=>decide (j < i)) 0 xs env) x.2)
  (hnext:∀ (fuel:Nat) (l:Array Bool) (a:Act) (w:World) (m:Ids),cnt l ops.size≤fuel→Closed ops l→(∀ i,i < ops.size→zae l i=decide (i < t))→FS2 H w0 O0 m0 σ d te.zero xv.cells true true (zao (fun _=>true) 0 xs env) a w m →
   wpAnyIn (FR r) n P .any ops (lift H w0 O0 m0 Q) fuel l a w) :
  ∀ (fuel:Nat) (l:Array Bool) (a:Act) (w:World) (m:Ids),cnt l ops.size≤fuel→Closed ops l→(∀ i,i < ops.size→t≤i→zae l i=false)→FS2 H w0 O0 m0 σ d te.zero xv.cells (zae l f) (zae l p) (zao (fun j=>zae l j) 0 xs env) a w m →
   wpAnyIn (FR r) n P .any ops (lift H w0 O0 m0 Q) fuel l a w:=by
 have hft:f < t:=by rw [← hst];exact(List.getElem?_eq_some_iff.1 hxf).1
 have hxd:∀ (i:Nat) (o:Oper) (x:Option Tmp × AV),ops[i]?=some o→xs[i]?=some x→x.1=o.dst:=fun i o x ho hx=>by
  by_cases hif:i=f
  ·subst hif
   rw [hof] at ho
   cases ho
   rw [hxf] at hx
   cases hx
   exact hod.symm
  ·by_cases hip:i=p
   ·subst hip
    rw [hpo] at ho
    cases ho
    rw [hxp] at hx
    cases hx
    exact hpd.symm
   ·exact(hxs i o x hif hip ho hx).1
 intro fuel
 induction fuel with
 | zero =>
  intro l a w m hc hcl hhi hF
  have hall:=zdI (l:=l) ops.size (by omega)
  have htz:t=ops.size:=by
   rcases Nat.lt_or_ge t ops.size with h | h
   ·have:=hhi t h (Nat.le_refl _)
    rw [hall t h] at this
    cases this
   ·omega
  refine hnext 0 l a w m hc hcl (fun i hi=>by rw [hall i hi];simp;omega) ?_
  rw [hall f (by omega),hall p (by omega)] at hF
  rw [zaI (p':=fun j=>zae l j) _ _ _ (fun j hj=>by rw [Nat.zero_add];exact(hall j (by omega)).symm)]
  exact hF
 | succ fuel ih =>
  intro l a w m hc hcl hhi hF
  by_cases hall:∀ i,i < t→zae l i=true
  ·refine hnext _ l a w m hc hcl (fun i hi=>?_) ?_
   ·by_cases hit:i < t
    ·rw [hall i hit];simp [hit]
    ·rw [hhi i hi (by omega)];simp [hit]
   ·rw [hall f hft,hall p hpt] at hF
    rw [zaI (p':=fun j=>zae l j) _ _ _ (fun j hj=>by rw [Nat.zero_add];exact(hall j (by omega)).symm)]
    exact hF
  refine⟨fun hr=>?_,fun i hi=>?_⟩
  ·refine absurd (fun i=>?_) hall
   induction i using Nat.strongRecOn with
   | _ i ihi =>
    intro hi
    cases h1:zae l i with
    | true=>rfl
    | false =>
     have ho : ops[i]? = some (ops[i]'(by omega)) := Array.getElem?_eq_getElem (by omega)
     have:=zet ho hcl.size h1 (fun e he hb=>ihi e.on (zbM hok ho e he hb) (by have:=zbM hok ho e he hb;omega))
     rw [hr] at this
     cases this
  ·obtain⟨o,ho,hil,hun,hdeps⟩:=zaS hi
   have hi':i < ops.size:=(Array.getElem?_eq_some_iff.1 ho).1
   have hdeps':∀ j,anc ops ops.size i j=true→zae l j=true:=fun j hj=>zba hcl _ i j (fun o' ho'=>by rw [ho] at ho';cases ho';exact hdeps) hj
   have hit:i < t:=by
    rcases Nat.lt_or_ge i t with h | h
    ·exact h
    ·have htz:t < ops.size:=by omega
     have hsl:=hsol htz
     rcases Nat.lt_or_ge t i with h2 | h2
     ·have:=hdeps' t (zgx hsl hi' h2)
      rw [hhi t htz (Nat.le_refl _)] at this
      cases this
     ·obtain rfl:i=t:=by omega
      exact absurd (fun j hj=>hdeps' j (solid_up hsl hj)) hall
   obtain ⟨x, hx⟩ : ∃ x, xs[i]? = some x := ⟨xs[i]'(by omega), by simp⟩
   have hxi:=hxd i o x ho hx
   have hcl2:∀ (j:Nat) (y:Option Tmp × AV),j≠i→xs[j]?=some y→(∃ t,y.1=some t∧t∈uses ops o)→zae l j=decide (j < i):=by
    rintro j y hji hy ⟨t',hyt,htu⟩
    have hj':j < ops.size:=by have:=(List.getElem?_eq_some_iff.1 hy).1;omega
    have hoj:ops[j]?=some ops[j]:=Array.getElem?_eq_getElem hj'
    have hyd:=hxd j _ y hoj hy
    rcases Nat.lt_or_gt_of_ne hji with hlt | hgt
    ·have hc:zeE ops i j=true:=by
      unfold zeE
      rw [ho,hoj]
      refine aQ15 ?_
      exact .inl ⟨t',by rw [← hyd,hyt];simp,by simpa using htu⟩
     rw [hdeps' _ (zbK hok hi' hlt hc)]
     simp [hlt]
    ·have hc:zeE ops j i=true:=by
      unfold zeE
      rw [ho,hoj]
      refine aQ15 ?_
      exact .inr ⟨t',by rw [← hyd,hyt];simp,by simpa using htu⟩
     have ha:=zbK hok hj' hgt hc
     cases hlj:zae l j with
     | false=>simp;omega
     | true =>
      have:=zba hcl _ j i (fun o' ho' e' he' hb'=>hcl.down j o' ho' hlj e' he' hb') ha
      rw [hun] at this
      cases this
   have hnx:zao (fun j=>zae (l.setIfInBounds i true) j) 0 xs env=aput (zao (fun j=>zae l j) 0 xs env) o.dst x.2:=by
    apply List.ext_getElem?
    intro t'
    by_cases hdt:o.dst=some t'
    ·rw [zd0 xs 0 env i (by rw [hx,← hdt,← hxi]) (by rw [Nat.zero_add,zaf hil,if_pos rfl]) (fun j y hj hy hyt=>by
      rw [Nat.zero_add,zaf hil,if_neg (by omega),hcl2 j y (by omega) hy ⟨t',hyt,by unfold uses;simp [hdt]⟩]
      simp;omega)]
     rw [hdt]
     simp only [aput,List.getElem?_set,zb8]
     simp
    ·rw [zf3 hdt]
     refine zb1 xs 0 env env rfl rfl (fun j y hy hyt=>?_)
     rw [Nat.zero_add,zaf hil]
     by_cases hij:i=j
     ·subst hij
      rw [hx] at hy
      cases hy
      exact absurd (hxi ▸ hyt) hdt
     ·rw [if_neg (by omega)]
   have hcl':Closed ops (l.setIfInBounds i true):=by
    refine⟨by simpa using hcl.size,fun k ok hok' hlk e he hb=>?_⟩
    rw [zaf hil] at hlk ⊢
    by_cases hik:i=k
    ·subst hik
     rw [ho] at hok'
     cases hok'
     rw [hdeps e he hb]
     simp
    ·rw [if_neg hik] at hlk
     rw [hcl.down k ok hok' hlk e he hb]
     simp
   have hcnt:cnt (l.setIfInBounds i true) ops.size≤fuel:=by
    have:=zf4 (l:=l) (l':=l.setIfInBounds i true) (fun j hj=>by rw [zaf hil,hj];simp) hun (by rw [zaf hil,if_pos rfl]) ops.size hi'
    omega
   have hhi':∀ i',i' < ops.size→t≤i'→zae (l.setIfInBounds i true) i'=false:=fun i' h h2=>by rw [zaf hil,if_neg (by omega),hhi i' h h2]
   obtain⟨H',hHH,h0,hs,he,hd,hfl⟩:=hF
   unfold wpOpIn
   rw [ho]
   simp only
   by_cases hif:i=f
   ·-- the variable is made
    subst hif
    rw [hof] at ho
    cases ho
    rw [hun] at hfl
    simp only at hfl
    subst hfl
    have hfp:i≠p:=fun h=>by
     subst h
     rw [hpo] at hof
     cases hof
     rw [hop] at hpop
     cases hpop
    have hpl:zae l p=false:=by
     cases hlp:zae l p with
     | false=>rfl
     | true =>
      have:=zba hcl _ p i (fun o' ho' e' he' hb'=>hcl.down p o' ho' hlp e' he' hb') hpf
      rw [hun] at this
      cases this
    rw [if_pos (by simp [Region.wanted,hog])]
    refine⟨fun _ _=>trivial,?_⟩
    rw [Oper.semAt_eq _ _ _ (by rw [hop];intro c hc;cases hc)]
    obtain⟨zv,hz,hzc⟩:=(hT e te hte).run_zero w
    have hrun:(execOp a.eval of).run P w=.ok (.value (.pointer (some ⟨w.heap.size,0,none⟩))) { w with heap:=w.heap.push (.cells zv.cells e) }:=by
     unfold execOp
     rw [hop]
     simp [Instr.alloc,hz,newVar,Go.newRow,run_newObj]
    rw [hrun]
    obtain⟨k1,k2⟩:=hs.hide (w':={ w with heap:=w.heap.push (.cells zv.cells e) }) (o:=.cells zv.cells e) rfl rfl rfl rfl
    refine ih _ _ _ m hcnt hcl' hhi' ⟨Hg H' w.heap.size,fun b hb=>.inl hb,h0.trans k2,k1,?_,?_,?_⟩
    ·rw [hnx]
     have:=hx.symm.trans hxf
     cases this
     exact zaM (zah k2 _ _ he) _ (by simp only [rep])
    ·rw [zaB];exact hd.mono k2
    ·rw [zaf hil,if_pos rfl,zaf hil,if_neg hfp,hpl]
     refine⟨w.heap.size,zv.cells,e,fun hb=>?_,rfl,by simp,hzc,?_⟩
     ·have:=(hs.hid _ hb).1
      omega
     ·rw [hod]
      simp [Act.put]
   ·by_cases hip:i=p
    ·-- the store into the variable
     subst hip
     rw [hpo] at ho
     cases ho
     have hlf:zae l f=true:=hdeps' f hpf
     rw [hlf,hun] at hfl
     obtain⟨g,c,e',g1,g2,g3,g4,g5⟩:=hfl
     simp only at g4
     subst g2
     have hel:=zan he
     have hel2:(zao (fun j=>zae l j) 0 xs env).length=env.length:=zb8 _ _ _ _
     have hds:d < a.tmps.size:=Nat.lt_of_lt_of_eq hdl (by rw [← Array.length_toList,hel,hel2])
     have hev:a.eval (.tmp d)=.pointer (some ⟨g,0,none⟩):=by
      simp only [Act.eval,Array.getD_eq_getD_getElem?]
      rw [← g5,Array.getElem?_setIfInBounds_self_of_lt hds]
      rfl
     have hxb:(zao (fun j=>zae l j) 0 xs env)[bs]?=some xv:=by
      rw [← hxv]
      refine zb1 xs 0 env env rfl rfl (fun j y hy hyt=>?_)
      rw [Nat.zero_add]
      have hj':j < ops.size:=by have:=(List.getElem?_eq_some_iff.1 hy).1;omega
      have hoj:ops[j]?=some ops[j]:=Array.getElem?_eq_getElem hj'
      have hyd:=hxd j _ y hoj hy
      obtain⟨b1,b2⟩:=hbs j _ hoj (by rw [← hyd,hyt])
      rw [hdeps' j b1]
      simp [b2]
     obtain⟨v,hv,hrv⟩:=zaL he bs xv hxb
     have hevb:a.eval (.tmp bs)=v:=by
      rw [Array.getElem?_toList] at hv
      simp only [Act.eval,Array.getD_eq_getD_getElem?,hv]
      rfl
     have hrc:=zdh hrv hone
     have hsz:v.cells.size=te.size:=by
      have:=zan hrc
      rw [hlen] at this
      simpa using this
     have hcs:c.size=te.size:=by
      have:=congrArg List.length g4
      rw [hz] at this
      simpa using this
     obtain⟨w',c',s1,s2,s3,s4,s5⟩:=St.late (P:=P) hs g1 g3 hrc hone (by simp;omega)
     have hrun:(execOp a.eval opp).run P w=.ok .skip w':=by
      unfold execOp
      rw [hpop]
      simp only [hev,hevb,Instr.storeAt,Instr.sureAddr,storeVar,Sem.run_bind,Sem.run_pure,Result.andThen_ok,(hT e te hte).run_sizeOf,hsz,ne_eq,not_true_eq_false,if_false,s1]
     rw [if_pos (by simp [Region.wanted,hpg])]
     refine⟨fun _ _=>trivial,?_⟩
     rw [Oper.semAt_eq _ _ _ (by rw [hpop];intro c hc;cases hc),hrun]
     have hput:a.put opp.dst undef=a:=by rw [hpd];rfl
     show wpAnyIn (FR r) n P .any ops (lift H w0 O0 m0 Q) fuel (l.setIfInBounds i true) (a.put opp.dst undef) w'
     rw [hput]
     refine ih _ _ _ m hcnt hcl' hhi' ⟨_,hHH,h0.trans s5,s4,?_,hd.mono s5,?_⟩
     ·rw [hnx,hpd]
      exact zah s5 _ _ he
     ·rw [zaf hil,if_neg hif,hlf,zaf hil,if_pos rfl]
      refine⟨g,c',e',g1,rfl,s2,?_,g5⟩
      simp only
      rw [s3]
      exact zah s5 _ _ hrc
    ·have hya:=(hxs i o x hif hip ho hx).2
     have hya':YA P T ops σ o (zao (fun j=>zae l j) 0 xs env) x.2:=by
      refine YA_ev (fun t' ht=>?_) hya
      refine zb1 xs 0 env env rfl rfl (fun j y hy hyt=>?_)
      rw [Nat.zero_add]
      by_cases hji:j=i
      ·subst hji;simp [hun]
      ·rw [hcl2 j y hji hy ⟨t',hyt,by unfold uses;simp only [List.mem_append] at ht ⊢;exact .inl ht⟩]
     have hlf:zae (l.setIfInBounds i true) f=zae l f:=by rw [zaf hil,if_neg hif]
     have hlp:zae (l.setIfInBounds i true) p=zae l p:=by rw [zaf hil,if_neg hip]
     have hod':o.dst≠some d:=hdst i o ho hif
     have keep:∀ (v:Value) (w':World) (m':Ids),(∀ vs,reps w (own H' m σ) m xv.cells vs→reps w' (own H' m' σ) m' xv.cells vs)→(∀ b,H' b→w'.heap[b]?=w.heap[b]?)→(match zae l f with
       | false=>H'=H
       | true=>∃ g c e,¬ H g∧H'=Hg H g∧w'.heap[g]?=some (.cells c e (0,0))∧(match zae l p with | false=>c.toList=te.zero | true=>reps w' (own H' m' σ) m' xv.cells c.toList)∧(a.put o.dst v).tmps.setIfInBounds d (.pointer (some ⟨g,0,none⟩))=(a.put o.dst v).tmps):=by
      intro v w' m' hm' hw
      revert hfl
      cases zae l f with
      | false=>exact fun h=>h
      | true =>
       rintro⟨g,c,e',g1,g2,g3,g4,g5⟩
       refine⟨g,c,e',g1,g2,(hw g (by rw [g2];exact .inr rfl)).trans g3,?_,?_⟩
       ·revert g4
        cases zae l p with
        | false=>exact fun h=>h
        | true=>exact fun h=>hm' _ h
       cases hd':o.dst with
       | none=>simpa [Act.put] using g5
       | some d' =>
        simp only [Act.put]
        exact zhM (fun h=>hod' (by rw [hd',h])) g5
     rcases zbj (a:=a) hya' he with ⟨hw,h⟩ | ⟨hw,h⟩
     ·rw [if_pos hw]
      have hop:=zf2 hT (hG.mono h0) hs (o:=o) (ρ:=a.eval) h (zaO (hG.mono h0) he)
      refine oper_wpq (hG.mono h0) hs (zes h) hop (fun v r w' m' σ' g1 g2 g3 ⟨g5, g6⟩ => ?_)
      subst g5 g6
      refine ih _ _ _ m' hcnt hcl' hhi' ⟨H',hHH,h0.trans (g1.less hHH),g2,?_,?_,?_⟩
      ·rw [hnx]
       exact zaM (zah g1 _ _ he) _ g3
      ·rw [zaB];exact hd.mono g1
      ·rw [hlf,hlp]
       exact keep v w' m' (fun vs h=>zah g1 _ _ h) g1.hid
     ·rw [if_neg (by simp [hw])]
      refine⟨fun _ _=>trivial,?_⟩
      refine ih _ _ _ m hcnt hcl' hhi' ⟨H',hHH,h0,hs,?_,?_,?_⟩
      ·rw [hnx,h]
       exact zaM he _ (by simp only [rep])
      ·rw [zaB];exact hd
      ·rw [hlf,hlp]
       exact keep undef w m (fun vs h=>h) fun _ _=>rfl
end Go.Eng
end

section
namespace Go.Eng
open Go
variable {H : Nat → Prop} [Globs]
theorem zeO:∀ (l:List (Option Tmp × AV)) (k:Nat) (e:Env),zao (fun _=>false) k l e=e
 | [],_,_=>rfl
 | y::l,k,e=>by simp only [zao,Bool.false_eq_true,if_false];exact zeO l _ _
theorem zd2 (L R:List (Option Tmp × AV)) (i:Nat) (e:Env):zao (fun j=>decide (j < L.length+i)) 0 (L++R) e=zao (fun j=>decide (j < i)) 0 R (zao (fun _=>true) 0 L e):=by
 rw [zd1,Nat.zero_add,zaI (p':=fun _=>true) L _ _ (fun j hj=>by simp;omega)]
 rw [← Nat.zero_add L.length,zfy,zaI (p':=fun j=>decide (j < i)) R _ _ (fun j hj=>by simp;omega)]
theorem zdu (L R:List (Option Tmp × AV)) (i:Nat) (hi:i≤L.length) (e:Env):zao (fun j=>decide (j < i)) 0 (L++R) e=zao (fun j=>decide (j < i)) 0 L e:=by
 rw [zd1,zaI (p':=fun _=>false) R _ _ (fun j hj=>by simp;omega),zeO]
theorem zcm (L R:List (Option Tmp × AV)) (e:Env):zao (fun _=>true) 0 (L++R) e=zao (fun _=>true) 0 R (zao (fun _=>true) 0 L e):=by
 rw [zd1,← Nat.zero_add L.length,zfy]
def wS4 (σ:zaa) (Q:Post) (d:Tmp) (x:AV):Env→Prop:=fun e=>Q .normal (e.set d (.ptr σ.length 0)) (σ++[.rw x.cells])
def wS3 (P:Program) (T:Tab) (ops:Array Oper) (σ:zaa) (Q:Post) (rest:List Oper) (d:Tmp) (te:TI) (x:AV) (e2:Env):Prop :=
 x.cells.length=te.size∧te.zero.length=te.size∧x.cells.all AV.one=true∧wq P T ops σ rest e2 (wS4 σ Q d x)
def wS2 (P:Program) (T:Tab) (ops:Array Oper) (σ:zaa) (Q:Post) (rest:List Oper) (d bs:Tmp) (te:TI):Env→Prop :=
 fun e2=>wS3 P T ops σ Q rest d te ((e2[bs]?).getD .bot) e2
def wS1 (P:Program) (T:Tab) (ops:Array Oper) (σ:zaa) (Q:Post) (mid rest:List Oper) (d bs:Tmp) (te:Option TI):Env→Prop :=
 fun e1=>match te with
  | some te=>wq P T ops σ mid (e1.set d .bot) (wS2 P T ops σ Q rest d bs te)
  | none=>False
def okS (ops:Array Oper) (f p:Nat) (d:Tmp) (e:TypeId) (bs:Tmp):Bool :=
 decide (f < p) && decide (p < ops.size) && anc ops ops.size p f &&
 (match ops[f]? with
  | some o=>(match o.op with | .alloc e'=>decide (e'=e) | _=>false) && decide (o.dst=some d) && o.guard.isNone
  | none=>false) &&
 (match ops[p]? with
  | some o=>(match o.op with | .store e' (.tmp d') (.tmp b')=>decide (e'=e) && decide (d'=d) && decide (b'=bs) | _=>false) && o.dst.isNone && o.guard.isNone
  | none=>false) &&
 ((List.range ops.size).all fun j=>decide (j=f) || (match ops[j]? with | some o=>!decide (o.dst=some d) | none=>true)) &&
 ((List.range ops.size).all fun j=>match ops[j]? with | some o=>!decide (o.dst=some bs) || (decide (j < p) && anc ops ops.size p j) | none=>true)
theorem drawS_sound {r:Option Nat} {n:Nat} {P:Program} {T:Tab} (hT:zaD P T) {ops:Array Oper} {w0:World} {O0:Nat→Prop} {m0:Ids} (hG:Glob w0 O0) {Q:Post} {σ:zaa} {env:Env} {a:Act} {w:World} {m:Ids} {id f p:Nat} {d bs:Tmp} {e:TypeId} (hm:P.follows .mixedOrders=true) (hok:zb2 ops=true) (hS:okS ops f p d e bs=true) (hdl:d < env.length)
  (h:wq P T ops σ (ops.toList.take f) env (wS1 P T ops σ Q ((ops.toList.take p).drop (f+1)) (ops.toList.drop (p+1)) d bs (T e))) (h0:Ext H w0 O0 m0 w (own H m σ) m) (hs:St H w m σ) (he:reps w (own H m σ) m env a.tmps.toList) (hd:Mk w0.heap.size w (own H m σ) a.defers):(Code.region id ops true).wpIn (FR r) n P (lift H w0 O0 m0 Q) a w:=by
 refine wpIn_region_any hm ?_
 obtain⟨k1,k2⟩:=hs.old (w':={ heap:=w.heap,tape:=w.tape,drawn:=w.drawn+1,os:=w.os,output:=w.output }) (Nat.le_refl _) (fun _ _=>rfl) rfl rfl rfl
 simp only [okS,Bool.and_eq_true,decide_eq_true_eq] at hS
 obtain⟨⟨⟨⟨⟨⟨hfp,hpn⟩,hanc⟩,hof⟩,hpo⟩,hdst⟩,hbs⟩:=hS
 cases hofo:ops[f]? with
 | none=>rw [hofo] at hof;cases hof
 | some of =>
 rw [hofo] at hof
 simp only [Bool.and_eq_true,decide_eq_true_eq] at hof
 obtain⟨⟨hop,hod⟩,hog⟩:=hof
 have hop:of.op=.alloc e:=by
  split at hop
  ·rename_i e' he'
   rw [he']
   simp only [decide_eq_true_eq] at hop
   rw [hop]
  ·cases hop
 have hog:of.guard=none:=by simpa using hog
 cases hopo:ops[p]? with
 | none=>rw [hopo] at hpo;cases hpo
 | some opp =>
 rw [hopo] at hpo
 simp only [Bool.and_eq_true] at hpo
 obtain⟨⟨hpop,hpd⟩,hpg⟩:=hpo
 have hpop:opp.op=.store e (.tmp d) (.tmp bs):=by
  split at hpop
  ·rename_i e' d' b' he'
   rw [he']
   simp only [Bool.and_eq_true,decide_eq_true_eq] at hpop
   obtain⟨⟨rfl,rfl⟩,rfl⟩:=hpop
   rfl
  ·cases hpop
 have hpd:opp.dst=none:=by simpa using hpd
 have hpg:opp.guard=none:=by simpa using hpg
 have hlo:∀ i,zae (Array.replicate ops.size false) i=false:=fun i=>by
  refine aQ16 ?_
  split <;> rfl
 obtain⟨xs1,a1,a2,h⟩:=zdt _ _ h
 unfold wS1 at h
 cases hte:T e with
 | none=>rw [hte] at h;exact h.elim
 | some te =>
 rw [hte] at h
 simp only at h
 obtain⟨xs2,b1,b2,h⟩:=zdt _ _ h
 unfold wS2 wS3 at h
 obtain⟨hl,hz,hone,h⟩:=h
 obtain⟨xs3,c1,c2,h⟩:=zdt _ _ h
 have hl1:xs1.length=f:=by rw [a1,List.length_take];simp;omega
 have hl2:xs2.length=p - (f+1):=by rw [b1,List.length_drop,List.length_take];simp;omega
 have hl3:xs3.length=ops.size - (p+1):=by rw [c1,List.length_drop];simp
 have hdst':∀ (j:Nat) (o:Oper),ops[j]?=some o→j≠f→o.dst≠some d:=by
  intro j o ho hj hod
  rw [List.all_eq_true] at hdst
  have:=hdst j (by simpa using (Array.getElem?_eq_some_iff.1 ho).1)
  simp [ho,hod,hj] at this
 have hbs':∀ (j:Nat) (o:Oper),ops[j]?=some o→o.dst=some bs→anc ops ops.size p j=true∧j < p:=by
  intro j o ho hob
  rw [List.all_eq_true] at hbs
  have:=hbs j (by simpa using (Array.getElem?_eq_some_iff.1 ho).1)
  simp [ho,hob] at this
  exact⟨this.2,this.1⟩
 have eA:∀ x:Env,zao (fun _=>true) 0 (xs1++[(some d,AV.bot)]) x=(zao (fun _=>true) 0 xs1 x).set d .bot:=fun x=>by rw [zcm];rfl
 have eB:∀ x:Env,zao (fun _=>true) 0 (xs2++[(none,AV.lit undef)]) x=zao (fun _=>true) 0 xs2 x:=fun x=>by rw [zcm];rfl
 have lA:(xs1++[(some d,AV.bot)]).length=f+1:=by simp [hl1]
 have lB:(xs2++[(none,AV.lit undef)]).length=p - f:=by simp [hl2];omega
 have hxlen:((xs1++[(some d,AV.bot)])++((xs2++[(none,AV.lit undef)])++xs3)).length=ops.size:=by simp only [List.length_append,hl1,hl2,hl3,List.length_cons,List.length_nil];omega
 have ep:zao (fun j=>decide (j < p)) 0 ((xs1++[(some d,AV.bot)])++((xs2++[(none,AV.lit undef)])++xs3)) env=zao (fun _=>true) 0 xs2 ((zao (fun _=>true) 0 xs1 env).set d .bot):=by
  have:=zd2 (xs1++[(some d,AV.bot)]) ((xs2++[(none,AV.lit undef)])++xs3) (p - (f+1)) env
  rw [lA,show f+1+(p - (f+1))=p by omega] at this
  rw [this,eA,List.append_assoc,zdu _ _ _ (by omega),zaI (p':=fun _=>true) xs2 _ _ (fun j hj=>by simp;omega)]
 refine segS_any (H:=H) (σ:=σ) (env:=env) hT hG (xs:=(xs1++[(some d,AV.bot)])++((xs2++[(none,AV.lit undef)])++xs3)) (t:=ops.size) hok hxlen (Nat.le_refl _) (fun h=>absurd h (Nat.lt_irrefl _)) hofo hop hod hog hte hdst' ?_ hopo hpop hpd hpg hpn hanc hbs' ?_ (xv:=((zao (fun _=>true) 0 xs2 ((zao (fun _=>true) 0 xs1 env).set d .bot))[bs]?).getD .bot) ?_ hl hz hone hdl ?_ ?_ ops.size _ a _ m ?_ ?_ ?_ ?_
 ·rw [List.getElem?_append_left (by omega),List.getElem?_append_right (by omega),hl1];simp
 ·rw [List.getElem?_append_right (by omega),lA,List.getElem?_append_left (by omega),List.getElem?_append_right (by omega),hl2];simp
 ·rw [ep]
  cases hq:(zao (fun _=>true) 0 xs2 ((zao (fun _=>true) 0 xs1 env).set d .bot))[bs]? with
  | some x=>rfl
  | none=>rw [hq] at hone;simp [AV.cells,AV.one] at hone
 ·intro i o x hif hip ho hx
  have hin:=(Array.getElem?_eq_some_iff.1 ho).1
  rcases Nat.lt_or_ge i f with hi | hi
  ·rw [List.append_assoc,List.getElem?_append_left (by omega)] at hx
   obtain⟨q1,q2⟩:=a2 i o x (by rw [List.getElem?_take,if_pos hi,Array.getElem?_toList];exact ho) hx
   refine⟨q1,?_⟩
   rw [List.append_assoc,zdu _ _ _ (by omega)]
   exact q2
  rcases Nat.lt_or_ge i p with hi2 | hi2
  ·obtain⟨j,rfl⟩:∃ j,i=f+1+j:=⟨i - (f+1),by omega⟩
   have hx':xs2[j]?=some x:=by
    rw [List.getElem?_append_right (by omega),lA,show f+1+j - (f+1)=j by omega,List.append_assoc,List.getElem?_append_left (by omega)] at hx
    exact hx
   obtain⟨q1,q2⟩:=b2 j o x (by rw [List.getElem?_drop,List.getElem?_take,if_pos (by omega),Array.getElem?_toList];exact ho) hx'
   refine⟨q1,?_⟩
   have:=zd2 (xs1++[(some d,AV.bot)]) ((xs2++[(none,AV.lit undef)])++xs3) j env
   rw [lA] at this
   rw [this,eA,List.append_assoc,zdu _ _ _ (by omega)]
   exact q2
  ·obtain⟨j,rfl⟩:∃ j,i=p+1+j:=⟨i - (p+1),by omega⟩
   have hx':xs3[j]?=some x:=by
    rw [List.getElem?_append_right (by omega),lA,List.getElem?_append_right (by omega),lB,show p+1+j - (f+1) - (p - f)=j by omega] at hx
    exact hx
   obtain⟨q1,q2⟩:=c2 j o x (by rw [List.getElem?_drop,Array.getElem?_toList];exact ho) hx'
   refine⟨q1,?_⟩
   have h1:=zd2 (xs1++[(some d,AV.bot)]) ((xs2++[(none,AV.lit undef)])++xs3) (p - f+j) env
   have h2:=zd2 (xs2++[(none,AV.lit undef)]) xs3 j ((zao (fun _=>true) 0 xs1 env).set d .bot)
   rw [lA,show f+1+(p - f+j)=p+1+j by omega] at h1
   rw [lB] at h2
   rw [h1,eA,h2,eB]
   exact q2
 ·intro fuel l a w m hc hcl hall ⟨H',hHH,h0,hs,he,hd,g,c,e',g1,g2,g3,g4,g5⟩
  subst g2
  simp only at g4
  obtain⟨l1,l2⟩:=hs.landX g1 g3 g4
  have hids:(m++[some g])[σ.length]?=some (some g):=by rw [← hs.len];simp
  have hfin:=zcW (zah (l2 H) _ _ he) d (x:=.ptr σ.length 0) (v:=.pointer (some ⟨g,0,none⟩)) (by simp only [rep];exact⟨g,rfl,hids⟩)
  have e1:a.tmps.toList.set d (.pointer (some ⟨g,0,none⟩))=a.tmps.toList:=by
   have:=congrArg Array.toList g5
   rwa [Array.toList_setIfInBounds] at this
  rw [e1,zcm,eA,zcm,eB] at hfin
  have hp:lift H w0 O0 m0 Q .normal a w:=⟨.normal,_,_,_,l1,h0.trans (l2 H),hfin,hd.mono (l2 H),trivial,h⟩
  have hr:Region.ready .any ops l=[]:=by
   cases hr:Region.ready .any ops l with
   | nil=>rfl
   | cons i r =>
    obtain⟨o,ho,_,h1,_⟩:=zaS (i:=i) (by rw [hr];simp)
    have hi:=(Array.getElem?_eq_some_iff.1 ho).1
    rw [hall i hi] at h1
    simp [hi] at h1
  cases fuel with
  | zero=>exact⟨hr,hp⟩
  | succ fuel=>exact⟨fun _=>hp,fun i hi=>by rw [hr] at hi;cases hi⟩
 ·have:∀ n,cnt (Array.replicate ops.size false) n≤n:=by
   intro n
   induction n with
   | zero=>exact Nat.le_refl _
   | succ n ih=>simp only [cnt];split <;> omega
  exact this _
 ·exact⟨by simp,fun i o ho hl=>by rw [hlo] at hl;cases hl⟩
 ·exact fun i _ _=>hlo i
 ·rw [hlo f,hlo p,zaI (p':=fun _=>false) _ _ _ (fun j _=>hlo _),zeO]
  exact⟨H,fun _ h=>h,h0.trans k2,k1,zah k2 _ _ he,hd.mono k2,rfl⟩
end Go.Eng
end

