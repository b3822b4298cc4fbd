/-
  Regions whose order is open, code, bodies of functions: each rule is proved sound. No condition.
-/
import Derived.Test.YtpdliefnabeoaaaEngD
import Derived.Still
import Derived.Below
set_option linter.unusedSimpArgs false
set_option linter.unusedVariables false
set_option linter.unusedSectionVars false
section
namespace Go.Eng
open Go
variable {H : Nat → Prop} [Globs]

/-! ### regions whose order is open: what their operations yield does not hang on it -/
def Det (F : (AV → Prop) → Prop) : Prop := ∀ K, F K → ∃ v, F (fun r => r = v) ∧ K v

theorem det_and {c : Prop} {F : (AV → Prop) → Prop} (h : Det F) : Det (fun K => c ∧ F K) := fun K hk => by
  obtain ⟨v, h1, h2⟩ := h K hk.2
  exact ⟨v, ⟨hk.1, h1⟩, h2⟩
theorem det_val (v : AV) : Det (fun K => K v) := fun _ hk => ⟨v, rfl, hk⟩
theorem det_false : Det (fun _ => False) := fun _ hk => hk.elim
theorem det_ex {α : Type} {p : α → Prop} {F : α → (AV → Prop) → Prop} (h : ∀ a, Det (F a)) : Det (fun K => ∃ a, p a ∧ F a K) := fun K ⟨a, h1, h2⟩ => by
  obtain ⟨v, h3, h4⟩ := h a K h2
  exact ⟨v, ⟨a, h1, h3⟩, h4⟩
theorem det_two {p : Bool} {F G : (AV → Prop) → Prop} (h : Det F) (g : Det G) : Det (fun K => (p = true → F K) ∧ (p = false → G K)) := fun K ⟨h1, h2⟩ => by
  cases p with
  | true => obtain ⟨v, h3, h4⟩ := h K (h1 rfl); exact ⟨v, ⟨fun _ => h3, fun e => by cases e⟩, h4⟩
  | false => obtain ⟨v, h3, h4⟩ := g K (h2 rfl); exact ⟨v, ⟨fun e => (by cases e), fun _ => h3⟩, h4⟩

theorem det_arith (k : IntKind) (z : Int) : Det (fun K => zdh k z (fun v => K (.lit v))) := by
  cases k <;> first | exact det_and (det_val _) | exact det_val _

theorem det_wbin (T : Tab) (op : BinOp) (t : TypeId) (x y : AV) : Det (wbin T op t x y) := by
  intro K h
  unfold wbin at h ⊢
  split at h
  · split at h
    · exact det_and (det_val _) K h
    · exact det_and (det_val _) K h
    · exact det_and (det_arith _ _) K h
    · exact det_and (det_arith _ _) K h
    · exact det_and (det_arith _ _) K h
    · exact det_and (det_and (det_arith _ _)) K h
    · exact det_and (det_and (det_val _)) K h
    · refine det_and (F := fun K => match zdf op _ _ _ with | some v => K (.lit v) | none => match cmpV op _ _ with | some c => K (.lit (.bool c)) | none => False) ?_ K h
      intro K h
      split at h
      · rename_i v hv; exact ⟨_, by simp only [hv], h⟩
      · rename_i hv
        split at h
        · rename_i c hc; exact ⟨_, by simp only [hv, hc], h⟩
        · exact h.elim
  · cases op <;> simp only [strV] at h ⊢ <;> first | exact h.elim | exact det_val _ K h | exact det_and (det_val _) K h
  · split at h
    · exact det_and (det_val _) K h
    · exact det_and (det_val _) K h
    · exact h.elim
  · split at h
    · exact det_and (det_val _) K h
    · exact det_and (det_val _) K h
    · exact h.elim
  · split at h
    · exact det_ex (fun _ => det_val _) K h
    · exact det_ex (fun _ => det_val _) K h
    · exact h.elim
  · exact h.elim

theorem det_wnilc (T : Tab) (op : BinOp) (t : TypeId) (x : AV) : Det (wnilc T op t x) := by
  intro K h
  unfold wnilc at h ⊢
  split at h
  · split at h
    · exact det_and (det_val _) K h
    · exact det_and (det_val _) K h
    · exact h.2.elim
  · exact h.elim

theorem det_wbinO (T : Tab) (op : BinOp) (t : TypeId) (x y : Operand) (ev : Operand → AV) : Det (wbinO T op t x y ev) := by
  intro K h
  unfold wbinO at h ⊢
  split at h
  · exact det_and (det_wnilc _ _ _ _) K h
  · exact det_wbin _ _ _ _ _ K h

theorem det_qbinW (T : Tab) (op : BinOp) (t : TypeId) (x y : Operand) (ev : Operand → AV) : Det (qbinW T op t x y ev) := by
  intro K h
  unfold qbinW at h ⊢
  split at h
  · exact h.elim
  · exact det_wbinO _ _ _ _ _ _ K h

theorem det_wmkI (T : Tab) (t : TypeId) (x : AV) : Det (wmkI T t x) := by
  intro K h
  unfold wmkI at h ⊢
  split at h
  · exact det_and (det_val _) K h
  · exact h.elim

theorem det_wassert (P : Program) (T : Tab) (a : TypeId) (ok : Bool) (x : AV) : Det (wassert P T a ok x) := by
  intro K h
  unfold wassert at h ⊢
  split at h
  · exact h.elim
  · split at h
    · rename_i t v hx
      simp only [hx]
      split at h
      · rename_i hc
        simp only [hc, if_true]
        split at h
        · rename_i he
          simp only [he, if_true]
          exact det_val _ K h
        · rename_i he
          simp only [he, if_false]
          exact det_and (det_val _) K h
      · rename_i hc
        simp only [hc, if_false]
        exact det_ex (fun b => det_two (det_val _) (det_and (det_val _))) K h
    · rename_i hx
      simp only [hx]
      exact det_and (det_and (det_and (det_val _))) K h

theorem det_wslice3 (T : Tab) (t : TypeId) (x : AV) (lo hi : Option AV) (mx : AV) : Det (wslice3 T t x lo hi mx) := by
  intro K h
  unfold wslice3 at h ⊢
  split at h
  · exact h.elim
  · rename_i ti hti
    split at h
    · rename_i hd
      simp only [hd]
      split at h
      · exact det_ex (fun te => det_and (det_and (det_and (det_and (det_and (det_val _)))))) K h
      · exact h.elim
    · rename_i hd
      simp only [hd]
      split at h
      · exact det_and (det_and (det_and (det_and (det_val _)))) K h
      · exact h.elim
    · rename_i hd
      simp only [hd]
      split at h
      · exact det_ex (fun te => det_and (det_and (det_and (det_and (det_and (det_val _)))))) K h
      · exact h.elim
    · exact h.elim

theorem det_wun (op : UnOp) (x : AV) : Det (wun op x) := by
  intro K h
  unfold wun at h ⊢
  split at h
  · exact det_arith _ _ K h
  · split at h
    · rename_i v hv; exact ⟨_, by simp only [hv], h⟩
    · exact h.elim
  · exact ⟨_, rfl, h⟩
  · exact h.elim

theorem det_wextract (x : AV) (i : Nat) : Det (wextract x i) := by
  intro K h
  unfold wextract at h ⊢
  split at h
  · split at h
    · rename_i a ha; exact ⟨_, by simp only [ha], h⟩
    · exact h.elim
  · exact h.elim

theorem det_wpick (c a b : AV) : Det (wpick c a b) := by
  intro K h
  unfold wpick at h ⊢
  split at h
  · exact det_two (det_val _) (det_val _) K h
  · exact h.elim

theorem det_wminmax (mx : Bool) (xs : List AV) : Det (wminmax mx xs) := by
  intro K h
  unfold wminmax at h ⊢
  split at h
  · exact det_and (det_val _) K h
  · exact h.elim

theorem det_wlen (T : Tab) (t : TypeId) (x : AV) : Det (wlen T t x) := by
  intro K h
  unfold wlen at h ⊢
  split at h
  · rename_i ti hti
    split at h
    · rename_i s hd; exact ⟨_, by simp only [hd], h⟩
    · rename_i hd; exact ⟨_, by simp only [hd], h⟩
    · rename_i hd
      split at h
      · rename_i n hn; exact ⟨_, by simp only [hd, hn], h⟩
      · exact h.elim
    · exact h.elim
  · exact h.elim

theorem det_wpart (ti : TI) (l : List AV) (off : Nat) : Det (wpart ti l off) := by
  intro K ⟨h1, h2⟩
  unfold wpart
  split at h2
  · rename_i h; exact ⟨_, ⟨h1, by simp only [h, if_true]⟩, h2⟩
  · rename_i h; exact ⟨_, ⟨h1, by rw [if_neg h]; exact ⟨h2.1, rfl⟩⟩, h2.2⟩

theorem det_windex (T : Tab) (t : TypeId) (x i : AV) : Det (windex T t x i) := by
  intro K h
  unfold windex at h ⊢
  split at h
  · split at h
    · exact det_and (det_and (det_val _)) K h
    · exact det_and (det_and (det_ex fun te => det_wpart te _ _)) K h
    · exact h.elim
  · exact h.elim

theorem det_windexAddr (T : Tab) (t : TypeId) (x i : AV) : Det (windexAddr T t x i) := by
  intro K h
  unfold windexAddr at h ⊢
  split at h
  · split at h
    · exact det_ex (fun te => det_and (det_and (det_and (det_and (det_val _))))) K h
    · exact det_ex (fun te => det_and (det_and (det_and (det_val _)))) K h
    · exact det_ex (fun te => det_and (det_and (det_val _))) K h
    · exact det_ex (fun te => det_and (det_and (det_val _))) K h
    · exact h.elim
  · exact h.elim

theorem det_wtoArr (T : Tab) (t : TypeId) (x : AV) : Det (wtoArr T t x) := by
  intro K h
  unfold wtoArr at h ⊢
  split at h
  · split at h
    · exact det_ex (fun te => det_and (det_and (det_and (det_and (det_val _))))) K h
    · exact det_and (det_and (det_val _)) K h
    · exact h.elim
  · exact h.elim

theorem det_wfield (T : Tab) (t : TypeId) (x : AV) (f : Nat) : Det (wfield T t x f) := by
  intro K h
  unfold wfield at h ⊢
  split at h
  · split at h
    · split at h
      · exact det_ex (fun tf => det_wpart tf _ _) K h
      · exact h.elim
    · exact h.elim
  · exact h.elim

theorem det_wfieldAddr (T : Tab) (t : TypeId) (x : AV) (f : Nat) : Det (zc5 T t x f) := by
  intro K h
  unfold zc5 at h ⊢
  split at h
  · split at h
    · rename_i hd
      simp only [hd]
      split at h
      · rename_i hf
        obtain ⟨h1, h2⟩ := h
        cases x <;> simp only at h2 <;> first | exact h2.elim | exact ⟨_, ⟨h1, rfl⟩, h2⟩
      · exact h.elim
    · rename_i hd
      simp only [hd]
      split at h
      · rename_i hf
        obtain ⟨h1, h2⟩ := h
        cases x <;> simp only at h2 <;> first | exact h2.elim | exact ⟨_, ⟨h1, rfl⟩, h2⟩
      · exact h.elim
    · exact h.elim
  · exact h.elim

theorem det_wfin (ti : TI) (cs : List AV) : Det (wfin ti cs) := by
  intro K ⟨h1, h2⟩
  unfold wfin
  split at h2
  · rename_i h; exact ⟨_, ⟨h1, by simp only [h, if_true]⟩, h2⟩
  · rename_i h; exact ⟨_, ⟨h1, by rw [if_neg h]; exact ⟨h2.1, rfl⟩⟩, h2.2⟩

theorem det_wload (T : Tab) (t : TypeId) (x : AV) (σ : Store) : Det (wload T t x σ) := by
  intro K h
  unfold wload at h ⊢
  split at h
  · exact h.elim
  · cases x <;> simp only at h ⊢ <;> first | exact h.elim | exact det_wfin _ _ K h | skip
    split at h
    · exact det_wfin _ _ K h
    · exact h.elim

theorem det_wnil (x : AV) : Det (wnil x) := by
  intro K h
  unfold wnil at h ⊢
  split at h <;> first | exact h.elim | exact ⟨_, rfl, h⟩

theorem det_wslice (T : Tab) (t : TypeId) (x : AV) (lo hi : Option AV) (σ : Store) : Det (wslice T t x lo hi σ) := by
  intro K h
  unfold wslice at h ⊢
  split at h
  · exact h.elim
  · split at h
    · rename_i hd
      simp only [hd]
      split at h
      · exact det_and (det_and (det_and (det_val _))) K h
      · exact h.elim
    · rename_i hd
      simp only [hd]
      split at h
      · exact det_ex (fun te => det_and (det_and (det_and (det_and (det_val _))))) K h
      · exact h.elim
    · rename_i hd
      simp only [hd]
      split at h
      · rename_i l hh _ _
        obtain ⟨te, g1, g2, g3, g4, g5, h1, h2⟩ := h
        by_cases hc : l < hh ∨ l = 0
        · exact ⟨_, ⟨te, g1, g2, g3, g4, g5, fun _ => rfl, fun h3 => by omega⟩, h1 hc⟩
        · exact ⟨_, ⟨te, g1, g2, g3, g4, g5, fun h3 => absurd h3 hc, fun _ => rfl⟩, h2 (by omega)⟩
      · exact h.elim
    · rename_i hd
      simp only [hd]
      split at h
      · exact det_and (det_and (det_and (det_val _))) K h
      · exact h.elim
    · rename_i hd
      simp only [hd]
      split at h
      · exact det_ex (fun te => det_and (det_and (det_and (det_and (det_and (det_val _)))))) K h
      · exact h.elim
    · exact h.elim

def exq (A K : AV → Prop) : Prop := ∃ v, A v ∧ K v
theorem det_exq (A : AV → Prop) : Det (exq A) := fun _ ⟨v, h1, h2⟩ => ⟨v, ⟨v, h1, rfl⟩, h2⟩

def callV (P : Program) (f : FuncId) (as : List AV) (σ : Store) (v : AV) : Prop := ACalls P f as σ (fun x σ' => x = .ret v ∧ σ' = σ)

def qconv (T : Tab) (s d : TypeId) (x : AV) (σ : Store) (K : AV → Prop) : Prop := wconv T s d x σ (fun r σ' => σ' = σ ∧ K r)
theorem det_qconv (T : Tab) (s d : TypeId) (x : AV) (σ : Store) : Det (qconv T s d x σ) := by
  intro K h
  unfold qconv wconv at h ⊢
  split at h
  · split at h
    · rename_i hd; simp only [hd]; exact ⟨_, ⟨trivial, rfl⟩, h.2⟩
    · rename_i hd; simp only [hd]; exact ⟨_, ⟨trivial, rfl⟩, h.2⟩
    · rename_i hd hne
      simp only [hd]
      split at h
      · rename_i e he
        obtain ⟨h1, h2⟩ := h
        split at h2
        · rename_i cs n hasl
          split at h2
          · rename_i bs hbs
            refine ⟨_, ⟨h1, ?_⟩, h2.2⟩
            simp only [hasl, hbs, and_self]
          · exact h2.elim
        · exact h2.elim
      · exact h.elim
    · rename_i hd
      obtain ⟨_, _, _, h4, _⟩ := h
      have := congrArg List.length h4
      simp at this
    · exact h.elim
  · exact h.elim

def qbuildSlice (T : Tab) (t : TypeId) (len : Nat) (ps : List (Nat × AV)) (K : AV → Prop) : Prop :=
  match T t with
  | some ti => match ti.d with
    | .slice e => ∃ te, T e = some te ∧ te.zero.length = te.size ∧ len ≤ 16777216 ∧ len * te.size ≤ 16777216 ∧ match zc7 (fun i => some (i * te.size, te.size)) (zeros te.zero len) ps with
      | some cs => K (.sl cs len)
      | none => False
    | _ => False
  | none => False
theorem det_qbuildSlice (T : Tab) (t : TypeId) (len : Nat) (ps : List (Nat × AV)) : Det (qbuildSlice T t len ps) := by
  intro K h
  unfold qbuildSlice at h ⊢
  split at h
  · split at h
    · rename_i hd
      simp only [hd]
      obtain ⟨te, g1, g2, g3, g4, h⟩ := h
      split at h
      · rename_i cs hcs; exact ⟨_, ⟨te, g1, g2, g3, g4, by simp only [hcs]⟩, h⟩
      · exact h.elim
    · exact h.elim
  · exact h.elim

/-- A new slice of zeros, that is only read. -/
def qmake (T : Tab) (t : TypeId) (l c : AV) (K : AV → Prop) : Prop :=
  match T t, l, c with
  | some ti, .lit (.int _ l), .lit (.int _ c) => match ti.d with
    | .slice e => ∃ te, T e = some te ∧ (te.zero.length = te.size ∧ 0 ≤ l ∧ l ≤ c ∧ c ≤ 9223372036854775807 ∧ c * te.bytes ≤ 281474976710656) ∧ K (.sl (zeros te.zero l.toNat) l.toNat)
    | _ => False
  | _, _, _ => False
theorem det_qmake (T : Tab) (t : TypeId) (l c : AV) : Det (qmake T t l c) := by
  intro K h
  unfold qmake at h ⊢
  split at h
  · split at h
    · rename_i hd
      simp only [hd]
      exact det_ex (fun te => det_and (det_val _)) K h
    · exact h.elim
  · exact h.elim

theorem det_wbuild (T : Tab) (t : TypeId) (ps : List (Nat × AV)) : Det (zdd T t ps) := by
  intro K h
  unfold zdd at h ⊢
  split at h
  · split at h
    · rename_i hd
      simp only [hd]
      obtain ⟨g1, h⟩ := h
      split at h
      · rename_i cs hcs; exact ⟨_, ⟨g1, by simp only [hcs]⟩, h⟩
      · exact h.elim
    · rename_i hd
      simp only [hd]
      obtain ⟨te, g1, h⟩ := h
      split at h
      · rename_i cs hcs; exact ⟨_, ⟨te, g1, by simp only [hcs]⟩, h⟩
      · exact h.elim
    · exact h.elim
  · exact h.elim

def qcall (P : Program) (f : AV) (args : List AV) (σ : Store) (K : AV → Prop) : Prop :=
  match f with
  | .fn (.func g) first cap => exq (callV P g (first ++ args ++ cap) σ) K
  | _ => False

def qinvoke (P : Program) (x : AV) (name : String) (args : List AV) (σ : Store) (K : AV → Prop) : Prop :=
  match ifaceOf x with
  | some (t, v) => ∃ q : FuncId × AV, MethIs P t v name q.1 q.2 ∧ qcall P (.fn (.func q.1) [q.2] []) args σ K
  | none => False

def qbuiltin (T : Tab) (b : Builtin) (ts : Array TypeId) (args : List AV) (K : AV → Prop) : Prop :=
  match b, args with
  | .len, [x] => match ts.toList with
    | [t] => wlen T t x K
    | _ => False
  | .min, xs => wminmax false xs K
  | .max, xs => wminmax true xs K
  | .unsafeSliceData, [x] => wsd x K
  | _, _ => False

/-- A quiet operation: it leaves the store as it is. -/
def Qop (P : Program) (T : Tab) (o : Op) (ev : Operand → AV) (σ : Store) (K : AV → Prop) : Prop :=
  match o with
  | .move x | .assign x => K (ev x)
  | .pick c a b => wpick (ev c) (ev a) (ev b) K
  | .build t ps => zdd T t (evParts ev ps) K
  | .buildSlice t len ps => qbuildSlice T t len (evParts ev ps) K
  | .makeSlice t l c => qmake T t (ev l) (ev c) K
  | .load t a => wload T t (ev a) σ K
  | .nilCheck x => wnil (ev x) K
  | .binOp op t x y _ => qbinW T op t x y ev K
  | .makeInterface t x => wmkI T t (ev x) K
  | .typeAssert x _ a ok => wassert P T a ok (ev x) K
  | .unOp op _ x => wun op (ev x) K
  | .convert s d x => qconv T s d (ev x) σ K
  | .makeFunc fn first cap => K (.fn fn (first.toList.map ev) (cap.toList.map ev))
  | .slice t x lo hi none => wslice T t (ev x) (lo.map ev) (hi.map ev) σ K
  | .slice t x lo hi (some mx) => wslice3 T t (ev x) (lo.map ev) (hi.map ev) (ev mx) K
  | .fieldAddr s x f => zc5 T s (ev x) f K
  | .field t x f => wfield T t (ev x) f K
  | .indexAddr t x i => windexAddr T t (ev x) (ev i) K
  | .index t x i => windex T t (ev x) (ev i) K
  | .sliceToArrayPointer t x => wtoArr T t (ev x) K
  | .extract x i => wextract (ev x) i K
  | .call c => match c.callee with
    | .value f => qcall P (ev f) (c.args.toList.map ev) σ K
    | .builtin b => qbuiltin T b c.argTypes (c.args.toList.map ev) K
    | .invoke r name => qinvoke P (ev r) name (c.args.toList.map ev) σ K
  | _ => False

theorem det_qcall (P : Program) (f : AV) (args : List AV) (σ : Store) : Det (qcall P f args σ) := by
  intro K h
  unfold qcall at h ⊢
  split at h
  · exact det_exq _ K h
  · exact h.elim
theorem det_qinvoke (P : Program) (x : AV) (name : String) (args : List AV) (σ : Store) : Det (qinvoke P x name args σ) := by
  intro K h
  unfold qinvoke at h ⊢
  split at h
  · exact det_ex (fun q => det_qcall _ _ _ _) K h
  · exact h.elim
theorem det_wsd (x : AV) : Det (wsd x) := by
  intro K h
  unfold wsd at h ⊢
  split at h
  · exact ⟨_, rfl, h⟩
  · exact h.elim

theorem det_Qop (P : Program) (T : Tab) (o : Op) (ev : Operand → AV) (σ : Store) : Det (Qop P T o ev σ) := by
  intro K h
  unfold Qop at h ⊢
  cases o <;> simp only at h ⊢ <;> first
    | exact h.elim
    | exact ⟨_, rfl, h⟩
    | exact det_wpick _ _ _ K h
    | exact det_wbuild _ _ _ K h
    | exact det_qbuildSlice _ _ _ _ K h
    | exact det_qmake _ _ _ _ K h
    | exact det_wload _ _ _ _ K h
    | exact det_wnil _ K h
    | exact det_qbinW _ _ _ _ _ _ K h
    | exact det_wmkI _ _ _ K h
    | exact det_wassert _ _ _ _ _ K h
    | exact det_wun _ _ K h
    | exact det_qconv _ _ _ _ _ K h
    | exact det_wfieldAddr _ _ _ _ K h
    | exact det_wfield _ _ _ _ K h
    | exact det_windexAddr _ _ _ _ K h
    | exact det_windex _ _ _ _ K h
    | exact det_wtoArr _ _ _ K h
    | exact det_wextract _ _ K h
    | skip
  case slice t x lo hi mx =>
    cases mx with
    | none => exact det_wslice _ _ _ _ _ _ K h
    | some _ => exact det_wslice3 _ _ _ _ _ _ K h
  case call c =>
    split at h
    · exact det_qcall _ _ _ _ K h
    · unfold qbuiltin at h ⊢
      split at h
      · split at h
        · rename_i t ht; exact det_wlen _ _ _ K h
        · exact h.elim
      · exact det_wminmax _ _ K h
      · exact det_wminmax _ _ K h
      · exact det_wsd _ K h
      · exact h.elim
    · exact det_qinvoke _ _ _ _ _ K h
end Go.Eng
end

section
namespace Go.Eng
open Go
variable {H : Nat → Prop} [Globs]

/-! ### the slots that an operation hangs on -/
def tmpOf : Operand → List Tmp
  | .tmp t => [t]
  | _ => []

def usesOp : Op → List Tmp
  | .move x | .assign x => tmpOf x
  | .pick c a b => tmpOf c ++ tmpOf a ++ tmpOf b
  | .build _ ps | .buildSlice _ _ ps => ps.toList.flatMap fun p => tmpOf p.2
  | .makeSlice _ l c => tmpOf l ++ tmpOf c
  | .load _ a => tmpOf a
  | .nilCheck x => tmpOf x
  | .binOp _ _ x y _ => tmpOf x ++ tmpOf y
  | .unOp _ _ x => tmpOf x
  | .convert _ _ x => tmpOf x
  | .makeFunc _ a b => a.toList.flatMap tmpOf ++ b.toList.flatMap tmpOf
  | .slice _ x lo hi mx => tmpOf x ++ (lo.map tmpOf).getD [] ++ (hi.map tmpOf).getD [] ++ (mx.map tmpOf).getD []
  | .makeInterface _ x => tmpOf x
  | .typeAssert x _ _ _ => tmpOf x
  | .fieldAddr _ x _ => tmpOf x
  | .field _ x _ => tmpOf x
  | .indexAddr _ x i => tmpOf x ++ tmpOf i
  | .index _ x i => tmpOf x ++ tmpOf i
  | .sliceToArrayPointer _ x => tmpOf x
  | .extract x _ => tmpOf x
  | .call c => (match c.callee with | .value f => tmpOf f | .invoke r _ => tmpOf r | _ => []) ++ c.args.toList.flatMap tmpOf
  | _ => []

def gslot (ops : Array Oper) : Option (Nat × Bool) → List Tmp
  | none => []
  | some (j, _) => ((ops[j]?).bind (·.dst)).toList

theorem tmp_ev {env env' : Env} {x : Operand} (h : ∀ t ∈ tmpOf x, env[t]? = env'[t]?) : aeval env x = aeval env' x := by
  cases x with
  | tmp t => simp only [aeval]; rw [h t (by simp [tmpOf])]
  | _ => rfl

theorem map_ev {env env' : Env} : ∀ {l : List Operand}, (∀ t ∈ l.flatMap tmpOf, env[t]? = env'[t]?) → l.map (aeval env) = l.map (aeval env')
  | [], _ => rfl
  | x :: l, h => by
    simp only [List.map_cons]
    rw [tmp_ev (fun t ht => h t (by simp [ht])), map_ev (l := l) (fun t ht => h t (by simp at ht ⊢; exact .inr ht))]

theorem parts_ev {env env' : Env} : ∀ {l : List (Nat × Operand)}, (∀ t ∈ l.flatMap (fun p => tmpOf p.2), env[t]? = env'[t]?) → l.map (fun p => (p.1, aeval env p.2)) = l.map (fun p => (p.1, aeval env' p.2))
  | [], _ => rfl
  | x :: l, h => by
    simp only [List.map_cons]
    rw [tmp_ev (fun t ht => h t (by simp [ht])), parts_ev (l := l) (fun t ht => h t (by simp at ht ⊢; exact .inr ht))]

theorem opt_ev {env env' : Env} {x : Option Operand} (h : ∀ t ∈ (x.map tmpOf).getD [], env[t]? = env'[t]?) : x.map (aeval env) = x.map (aeval env') := by
  cases x with
  | none => rfl
  | some x => simp only [Option.map_some]; rw [tmp_ev h]

theorem Qop_ev {P : Program} {T : Tab} {o : Op} {env env' : Env} {σ : Store} {K : AV → Prop} (h : ∀ t ∈ usesOp o, env[t]? = env'[t]?) : Qop P T o (aeval env) σ K = Qop P T o (aeval env') σ K := by
  unfold Qop
  cases o <;> (try simp only [usesOp, List.mem_append] at h) <;> (try simp only)
  case move x => rw [tmp_ev h]
  case assign x => rw [tmp_ev h]
  case pick c a b => rw [tmp_ev (x := c) (fun t ht => h t (.inl (.inl ht))), tmp_ev (x := a) (fun t ht => h t (.inl (.inr ht))), tmp_ev (x := b) (fun t ht => h t (.inr ht))]
  case build t ps => unfold evParts; rw [parts_ev h]
  case buildSlice t n ps => unfold evParts; rw [parts_ev h]
  case makeSlice t l c => rw [tmp_ev (x := l) (fun t ht => h t (.inl ht)), tmp_ev (x := c) (fun t ht => h t (.inr ht))]
  case load t a => rw [tmp_ev h]
  case nilCheck x => rw [tmp_ev h]
  case binOp op t x y t' =>
    have e1 := tmp_ev (x := x) (fun t ht => h t (.inl ht))
    have e2 := tmp_ev (x := y) (fun t ht => h t (.inr ht))
    unfold qbinW
    split
    · rfl
    · unfold wbinO
      split
      · rw [e1]; rfl
      · rw [e1, e2]
  case makeInterface t x => rw [tmp_ev h]
  case typeAssert x xt a ok => rw [tmp_ev h]
  case unOp op t x => rw [tmp_ev h]
  case convert s d x => rw [tmp_ev h]
  case makeFunc f a b => rw [map_ev (l := a.toList) (fun t ht => h t (.inl ht)), map_ev (l := b.toList) (fun t ht => h t (.inr ht))]
  case slice t x lo hi mx =>
    cases mx with
    | some mx => simp only; rw [tmp_ev (x := x) (fun t ht => h t (.inl (.inl (.inl ht)))), opt_ev (x := lo) (fun t ht => h t (.inl (.inl (.inr ht)))), opt_ev (x := hi) (fun t ht => h t (.inl (.inr ht))), tmp_ev (x := mx) (fun t ht => h t (.inr ht))]
    | none => simp only; rw [tmp_ev (x := x) (fun t ht => h t (.inl (.inl (.inl ht)))), opt_ev (x := lo) (fun t ht => h t (.inl (.inl (.inr ht)))), opt_ev (x := hi) (fun t ht => h t (.inl (.inr ht)))]
  case fieldAddr s x f => rw [tmp_ev h]
  case field s x f => rw [tmp_ev h]
  case indexAddr t x i => rw [tmp_ev (x := x) (fun t ht => h t (.inl ht)), tmp_ev (x := i) (fun t ht => h t (.inr ht))]
  case index t x i => rw [tmp_ev (x := x) (fun t ht => h t (.inl ht)), tmp_ev (x := i) (fun t ht => h t (.inr ht))]
  case extract x i => rw [tmp_ev h]
  case sliceToArrayPointer t x => rw [tmp_ev h]
  case call c =>
    cases hc : c.callee with
    | value f =>
      simp only [hc] at h ⊢
      rw [tmp_ev (x := f) (fun t ht => h t (.inl ht)), map_ev (l := c.args.toList) (fun t ht => h t (.inr ht))]
    | builtin b =>
      simp only [hc] at h ⊢
      rw [map_ev (l := c.args.toList) (fun t ht => h t (.inr ht))]
    | invoke r n =>
      simp only [hc] at h ⊢
      rw [tmp_ev (x := r) (fun t ht => h t (.inl ht)), map_ev (l := c.args.toList) (fun t ht => h t (.inr ht))]

/-- In this frame operation o yields v. -/
def YA (P : Program) (T : Tab) (ops : Array Oper) (σ : Store) (o : Oper) (env : Env) (v : AV) : Prop :=
  wguard ops env o.guard (Qop P T o.op (aeval env) σ (fun r => r = v)) (v = .lit undef)

def uses (ops : Array Oper) (o : Oper) : List Tmp := usesOp o.op ++ gslot ops o.guard ++ o.dst.toList

theorem YA_ev {P : Program} {T : Tab} {ops : Array Oper} {σ : Store} {o : Oper} {env env' : Env} {v : AV} (h : ∀ t ∈ usesOp o.op ++ gslot ops o.guard, env[t]? = env'[t]?) (hy : YA P T ops σ o env v) : YA P T ops σ o env' v := by
  simp only [List.mem_append] at h
  unfold YA at hy ⊢
  rw [Qop_ev (fun t ht => h t (.inl ht))] at hy
  unfold wguard at hy ⊢
  cases hg : o.guard with
  | none => rw [hg] at hy; exact hy
  | some p =>
    obtain ⟨j, want⟩ := p
    rw [hg] at hy
    simp only at hy ⊢
    cases hd : (ops[j]?).bind (·.dst) with
    | none => rw [hd] at hy; exact hy
    | some d =>
      rw [hd] at hy
      simp only at hy ⊢
      rw [← h d (.inr (by simp [gslot, hg, hd]))]
      exact hy

theorem Qop_nodefer {P : Program} {T : Tab} {o : Op} {ev : Operand → AV} {σ : Store} {K : AV → Prop} (h : Qop P T o ev σ K) : ∀ c, o ≠ .defer c := by
  rintro c rfl
  exact h

/-- A new block that is not named again. -/
theorem drop_new {w : World} {m : Ids} {σ : Store} (hs : St H w m σ) {n sz : Nat} {cs : List AV} (hcl : cs.length = n * sz) (hzc : cls σ.length cs) {res : Result Value} (hv : VOK H w m σ (fun r σ' => r = .ref σ.length 0 n sz ∧ σ' = σ ++ [.rw cs]) (fun _ _ => False) res) :
    VOK H w m σ (fun r σ' => r = .sl cs n ∧ σ' = σ) (fun _ _ => False) res := by
  cases res with
  | ok u w' =>
    obtain ⟨r, m', σ', k1, k2, k3, rfl, rfl⟩ := hv
    obtain ⟨l1, l2⟩ := k1.letgo (i := σ.length) (x := .ro cs) (.inr ⟨cs, by simp, 0, cs.length, by simp, rfl⟩)
    have hset : (σ ++ [Blk.rw cs]).set σ.length (.ro cs) = σ ++ [.ro cs] := by simp
    rw [hset] at l1 l2
    have hclo := hs.clo
    obtain ⟨c1, c2⟩ := l1.cut hclo
    have hm' : m'.take σ.length = m := by
      apply List.ext_getElem?
      intro i
      rw [List.getElem?_take]
      split
      · rename_i hi
        obtain ⟨x, hx⟩ : ∃ x, m[i]? = some x := ⟨m[i]'(by rw [hs.len]; exact hi), by simp⟩
        rw [hx]
        exact k2.ids i x hx
      · rename_i hi
        rw [List.getElem?_eq_none (by rw [hs.len]; omega)]
    rw [hm'] at c1 c2
    have hrep : rep w' (own H m σ) m (.sl cs n) u := by
      simp only [rep] at k3 ⊢
      rcases k3 with ⟨rfl, rfl, _, _⟩ | ⟨g, cap, c, rfl, hm, e1, e2, hrow, _⟩
      · exact ⟨none, 0, rfl, Nat.le_refl _, by simp [maxLen], .inl (List.eq_nil_of_length_eq_zero (by simpa using hcl))⟩
      · refine ⟨_, cap, rfl, e1, e2, ?_⟩
        by_cases hne : cs = []
        · exact .inl hne
        · have hml := l1.blk σ.length (.ro cs) (some g) (by simp) hm
          rcases hml with hml | ⟨g', e, hO, hat⟩
          · exact absurd hml hne
          · cases e
            refine .inr ⟨g, 0, rfl, fun ho => hO (c2.own g ho), hrow.lt, ?_⟩
            have := repAt_cut c2 cs g 0 hzc hat
            rwa [hm'] at this
    exact ⟨.sl cs n, m, σ, c1, ⟨k2.heap, k2.same, fun b hb => .inl hb, fun i x hx => hx, k2.rows, k2.os, k2.tape, k2.output, k2.hid⟩, hrep, rfl, rfl⟩
  | halt x w' =>
    cases x <;> first | exact hv.elim | skip
    obtain ⟨_, _, _, _, _, _, hf⟩ := hv
    exact hf.elim

theorem cls_lits (n : Nat) : ∀ (l : List Value), cls n (zc3 l)
  | [] => trivial
  | _ :: l => ⟨trivial, cls_lits n l⟩

theorem cls_zeros (k : Nat) (z : List Value) (n : Nat) : cls k (zeros z n) := by
  have : zeros z n = zc3 ((List.range (n * z.length)).map fun j => z.getD (j % z.length) undef) := by
    simp [zeros, zc3, List.map_map]
  rw [this]
  exact cls_lits _ _

theorem qcall_wcall {P : Program} {f : AV} {as : List AV} {σ : Store} {v : AV} (h : qcall P f as σ (fun r => r = v)) : wcall P f as σ (fun r σ' => r = v ∧ σ' = σ) (fun _ _ => False) := by
  unfold qcall at h
  split at h
  · rename_i g first cap
    obtain ⟨u, h1, rfl⟩ := h
    simp only [wcall]
    refine ACalls.mono h1 ?_
    rintro x σ' ⟨rfl, rfl⟩
    exact ⟨rfl, rfl⟩
  · exact h.elim

/-- A quiet operation, carried out. -/
theorem Qop_sound {P : Program} {T : Tab} (hT : TabOK P T) {w : World} {m : Ids} {σ : Store} (hG : Glob w (own H m σ)) (hs : St H w m σ) {o : Oper} {ev : Operand → AV} {ρ : Operand → Value} {v : AV} (h : Qop P T o.op ev σ (fun r => r = v)) (he : ∀ x, rep w (own H m σ) m (ev x) (ρ x)) :
    OpOK H P w m σ (fun r σ' => r = v ∧ σ' = σ) (fun _ _ => False) ((execOp ρ o).run P w) := by
  by_cases hbm : ∃ t l c, o.op = .makeSlice t l c
  · obtain ⟨t, l, c, hop⟩ := hbm
    unfold execOp
    rw [hop] at h ⊢
    simp only [Qop] at h ⊢
    refine OpOK.value ?_
    unfold qmake at h
    split at h
    · rename_i ti _ l' _ c' hti hl' hc'
      split at h
      · rename_i e hd
        obtain ⟨te, g1, ⟨g2, g3, g4, g5, g6⟩, rfl⟩ := h
        refine drop_new hs (sz := te.size) (by simp [zeros, g2]) (cls_zeros _ _ _) (wmake_sound (Kp := fun _ _ => False) hT hs ?_ (he l) (he c))
        rw [hl', hc']
        simp only [wmake, hti, hd]
        exact ⟨te, g1, g2, g3, g4, g5, g6, rfl, rfl⟩
      · exact h.elim
    · exact h.elim
  by_cases hb : ∃ t n ps, o.op = .buildSlice t n ps
  · obtain ⟨t, n, ps, hop⟩ := hb
    have hps : partsRep w (own H m σ) m (evParts ev ps) (ps.map fun (i, x) => (i, ρ x)).toList := by simpa [evParts] using partsRep_of he ps.toList
    unfold execOp
    rw [hop] at h ⊢
    simp only [Qop] at h ⊢
    refine OpOK.value ?_
    unfold qbuildSlice at h
    split at h
    · rename_i ti hti
      split at h
      · rename_i e hd
        obtain ⟨te, g1, g2, g3, g4, h⟩ := h
        split at h
        · rename_i cs hcs
          subst h
          have hb : wbuildSlice T t n (evParts ev ps) σ (fun r σ' => r = .ref σ.length 0 n te.size ∧ σ' = σ ++ [.rw cs]) := by
            unfold wbuildSlice
            rw [hti]
            simp only [hd]
            exact ⟨te, g1, g2, g3, g4, by rw [hcs]; exact ⟨rfl, rfl⟩⟩
          have hv := wbuildSlice_sound (Kp := fun _ _ => False) hT hs hb hps
          generalize (Instr.buildSlice t n (ps.map fun (i, x) => (i, ρ x))).run P w = res at hv
          cases res with
          | ok u w' =>
            obtain ⟨r, m', σ', k1, k2, k3, rfl, rfl⟩ := hv
            have hlen := afill_length hcs
            obtain ⟨l1, l2⟩ := k1.letgo (i := σ.length) (x := .ro cs) (.inr ⟨cs, by simp, 0, cs.length, by simp, rfl⟩)
            have hset : (σ ++ [Blk.rw cs]).set σ.length (.ro cs) = σ ++ [.ro cs] := by simp
            rw [hset] at l1 l2
            have hclo := hs.clo
            obtain ⟨c1, c2⟩ := l1.cut hclo
            have hm' : m'.take σ.length = m := by
              apply List.ext_getElem?
              intro i
              rw [List.getElem?_take]
              split
              · rename_i hi
                obtain ⟨x, hx⟩ : ∃ x, m[i]? = some x := ⟨m[i]'(by rw [hs.len]; exact hi), by simp⟩
                rw [hx]
                exact k2.ids i x hx
              · rename_i hi
                rw [List.getElem?_eq_none (by rw [hs.len]; omega)]
            rw [hm'] at c1 c2
            have hrep : rep w' (own H m σ) m (.sl cs n) u := by
              simp only [rep] at k3 ⊢
              have hcl : cs.length = n * te.size := by
                rw [hlen]
                simp [zeros, g2]
              rcases k3 with ⟨rfl, rfl, _, _⟩ | ⟨g, cap, c, rfl, hm, e1, e2, hrow, _⟩
              · exact ⟨none, 0, rfl, Nat.le_refl _, by simp [maxLen], .inl (List.eq_nil_of_length_eq_zero (by simpa using hcl))⟩
              · refine ⟨_, cap, rfl, e1, e2, ?_⟩
                by_cases hne : cs = []
                · exact .inl hne
                · have hml := l1.blk σ.length (.ro cs) (some g) (by simp) hm
                  rcases hml with hml | ⟨g', e, hO, hat⟩
                  · exact absurd hml hne
                  · cases e
                    refine .inr ⟨g, 0, rfl, fun ho => hO (c2.own g ho), hrow.lt, ?_⟩
                    have hzc : cls σ.length cs := by
                      have hz := zeros_spec (w := w) (O := own H m σ) (m := m) te.zero.toArray n
                      rw [List.toList_toArray] at hz
                      obtain ⟨a', _, hr⟩ := afill_sound hcs hps hz
                      rw [← hs.len]
                      exact reps_cl _ _ hr
                    have := repAt_cut c2 cs g 0 hzc hat
                    rwa [hm'] at this
            refine ⟨.sl cs n, m, σ, c1, ?_, hrep, rfl, rfl⟩
            refine ⟨k2.heap, k2.same, fun b hb => ?_, fun i x hx => hx, k2.rows, k2.os, k2.tape, k2.output, k2.hid⟩
            exact .inl hb
          | halt x w' =>
            cases x <;> first | exact hv.elim | skip
            obtain ⟨_, _, _, _, _, _, hf⟩ := hv
            exact hf.elim
        · exact h.elim
      · exact h.elim
    · exact h.elim
  · have hW : Wop P T o.op ev σ (fun r σ' => r = v ∧ σ' = σ) (fun _ _ => False) := by
      unfold Qop at h
      unfold Wop
      cases hop : o.op <;> rw [hop] at h <;> simp only at h ⊢ <;> first | exact h.elim | (simp only [and_true]; exact h) | skip
      case binOp op t x y ty =>
        unfold qbinW at h
        unfold wbinW
        split at h
        · exact h.elim
        · simp only [and_true]; exact h
      case buildSlice t n ps => exact absurd ⟨t, n, ps, hop⟩ hb
      case makeSlice t l c => exact absurd ⟨t, l, c, hop⟩ hbm
      case convert s d x =>
        unfold qconv at h
        have : (fun (r : AV) (σ' : Store) => r = v ∧ σ' = σ) = (fun r σ' => σ' = σ ∧ r = v) := by funext r σ'; exact propext ⟨fun h => ⟨h.2, h.1⟩, fun h => ⟨h.2, h.1⟩⟩
        rw [this]
        exact h
      case slice t x lo hi mx =>
        cases mx with
        | some _ => simp only [and_true] at h ⊢; exact h
        | none => simp only [and_true] at h ⊢; exact h
      case call c =>
        cases hc : c.callee <;> rw [hc] at h <;> simp only at h ⊢ <;> first | exact h.elim | skip
        · rename_i f
          exact qcall_wcall h
        · unfold qinvoke at h
          unfold winvoke
          split at h
          · rename_i hi
            obtain ⟨q, h1, h2⟩ := h
            simp only [hi]
            exact ⟨q, h1, qcall_wcall h2⟩
          · exact h.elim
        · unfold qbuiltin at h
          split at h
          · rename_i x hx
            split at h
            · rename_i t ht
              simp only [wbuiltin, hx, ht, and_true]
              exact h
            · exact h.elim
          · simp only [wbuiltin, and_true]; exact h
          · simp only [wbuiltin, and_true]; exact h
          · rename_i x hx
            simp only [wbuiltin, hx, and_true]
            exact h
          · exact h.elim
    exact Wop_sound hT hG hs hW he
end Go.Eng
end

section
namespace Go.Eng
open Go
variable {H : Nat → Prop} [Globs]

/-- The entries of a fold: what is put, where an index is in p. -/
def zdg (p : Nat → Bool) : Nat → List (Option Tmp × AV) → Env → Env
  | _, [], e => e
  | k, x :: r, e => zdg p (k + 1) r (if p k then aput e x.1 x.2 else e)

theorem aput_length (e : Env) (d : Option Tmp) (v : AV) : (aput e d v).length = e.length := by cases d <;> simp [aput]
theorem foldP_length (p : Nat → Bool) : ∀ (l : List (Option Tmp × AV)) (k : Nat) (e : Env), (zdg p k l e).length = e.length
  | [], _, _ => rfl
  | x :: r, k, e => by
    simp only [zdg]
    rw [foldP_length p r]
    split
    · exact aput_length _ _ _
    · rfl

theorem aput_get {e : Env} {d : Option Tmp} {v : AV} {t : Tmp} (h : d ≠ some t) : (aput e d v)[t]? = e[t]? := by
  cases d with
  | none => rfl
  | some d => simp only [aput]; rw [List.getElem?_set_ne (fun he => h (by rw [he]))]

theorem foldP_at {p p' : Nat → Bool} {t : Tmp} : ∀ (l : List (Option Tmp × AV)) (k : Nat) (e e' : Env), e.length = e'.length → e[t]? = e'[t]? →
    (∀ j x, l[j]? = some x → x.1 = some t → p (k + j) = p' (k + j)) → (zdg p k l e)[t]? = (zdg p' k l e')[t]?
  | [], _, _, _, _, h, _ => h
  | x :: r, k, e, e', hl, h, hp => by
    simp only [zdg]
    refine foldP_at r (k + 1) _ _ ?_ ?_ (fun j y hy hd => ?_)
    · split <;> split <;> simp [aput_length, hl]
    · by_cases hd : x.1 = some t
      · have := hp 0 x (by simp) hd
        rw [Nat.add_zero] at this
        rw [this]
        split
        · rw [hd]
          simp only [aput]
          rw [List.getElem?_set, List.getElem?_set]
          simp [hl]
        · exact h
      · have e1 : ∀ (b : Bool) (z : Env), (if b then aput z x.1 x.2 else z)[t]? = z[t]? := by
          intro b z
          split
          · exact aput_get hd
          · rfl
        rw [e1, e1]
        exact h
    · have := hp (j + 1) y (by simpa using hy) hd
      rwa [show k + (j + 1) = k + 1 + j by omega] at this

/-- The last one that is put at t tells. -/
theorem foldP_last {p : Nat → Bool} {t : Tmp} {v : AV} : ∀ (l : List (Option Tmp × AV)) (k : Nat) (e : Env) (i : Nat), l[i]? = some (some t, v) → p (k + i) = true →
    (∀ j x, i < j → l[j]? = some x → x.1 = some t → p (k + j) = false) → (zdg p k l e)[t]? = if t < e.length then some v else none
  | x :: r, k, e, 0, hi, hp, hn => by
    simp at hi
    subst hi
    simp only [zdg]
    rw [Nat.add_zero] at hp
    rw [hp, if_pos rfl]
    have h1 : (zdg p (k + 1) r (aput e (some t) v))[t]? = (zdg (fun _ => false) (k + 1) r (aput e (some t) v))[t]? :=
      foldP_at r (k + 1) _ _ rfl rfl (fun j y hy hd => by
        have := hn (j + 1) y (by omega) (by simpa using hy) hd
        rwa [show k + (j + 1) = k + 1 + j by omega] at this)
    have h2 : ∀ (l : List (Option Tmp × AV)) (k : Nat) (e : Env), zdg (fun _ => false) k l e = e := by
      intro l
      induction l with
      | nil => intro k e; rfl
      | cons y l ih => intro k e; simp only [zdg, Bool.false_eq_true, if_false]; exact ih _ _
    rw [h1, h2]
    simp only [aput, List.getElem?_set]
    simp
  | x :: r, k, e, i + 1, hi, hp, hn => by
    simp only [zdg]
    rw [foldP_last r (k + 1) _ i (by simpa using hi) (by rwa [show k + 1 + i = k + (i + 1) by omega]) (fun j y hj hy hd => by
      have := hn (j + 1) y (by omega) (by simpa using hy) hd
      rwa [show k + (j + 1) = k + 1 + j by omega] at this)]
    split <;> simp [aput_length]

theorem foldP_congr {p p' : Nat → Bool} (l : List (Option Tmp × AV)) (k : Nat) (e : Env) (h : ∀ j, j < l.length → p (k + j) = p' (k + j)) : zdg p k l e = zdg p' k l e := by
  apply List.ext_getElem?
  intro t
  exact foldP_at l k e e rfl rfl (fun j x hx _ => h j (List.getElem?_eq_some_iff.1 hx).1)

/-! ### the order that the text has -/
def wq (P : Program) (T : Tab) (ops : Array Oper) (σ : Store) : List Oper → Env → (Env → Prop) → Prop
  | [], env, Q => Q env
  | o :: rest, env, Q => wguard ops env o.guard (Qop P T o.op (aeval env) σ (fun v => wq P T ops σ rest (aput env o.dst v) Q)) (wq P T ops σ rest (aput env o.dst (.lit undef)) Q)

theorem wguard_det {ops : Array Oper} {env : Env} {g : Option (Nat × Bool)} {F : (AV → Prop) → Prop} (hF : Det F) {K : AV → Prop} (h : wguard ops env g (F K) (K (.lit undef))) : ∃ v, wguard ops env g (F (fun r => r = v)) (v = .lit undef) ∧ K v := by
  unfold wguard at h ⊢
  cases g with
  | none => exact hF K h
  | some p =>
    obtain ⟨j, want⟩ := p
    simp only at h ⊢
    cases hd : (ops[j]?).bind (·.dst) with
    | none => rw [hd] at h; exact ⟨_, rfl, h⟩
    | some d =>
      rw [hd] at h
      simp only at h ⊢
      split at h
      · rename_i b hb
        by_cases hbw : b = want
        · obtain ⟨v, h1, h2⟩ := hF K (h.1 hbw)
          exact ⟨v, ⟨fun _ => h1, fun hn => absurd hbw hn⟩, h2⟩
        · exact ⟨_, ⟨fun hn => absurd hn hbw, fun _ => rfl⟩, h.2 hbw⟩
      · exact ⟨_, rfl, h⟩
      · exact h.elim

theorem wq_vals {P : Program} {T : Tab} {ops : Array Oper} {σ : Store} {Q : Env → Prop} : ∀ (l : List Oper) (env : Env), wq P T ops σ l env Q →
    ∃ xs : List (Option Tmp × AV), xs.length = l.length ∧ (∀ i o x, l[i]? = some o → xs[i]? = some x → x.1 = o.dst ∧ YA P T ops σ o (zdg (fun j => decide (j < i)) 0 xs env) x.2) ∧ Q (zdg (fun _ => true) 0 xs env)
  | [], env, h => ⟨[], rfl, fun i o x hi => by simp at hi, h⟩
  | o :: l, env, h => by
    simp only [wq] at h
    obtain ⟨v, h1, h2⟩ := wguard_det (K := fun v => wq P T ops σ l (aput env o.dst v) Q) (det_Qop P T o.op (aeval env) σ) h
    obtain ⟨xs, h3, h4, h5⟩ := wq_vals l _ h2
    have shift : ∀ (p : Nat → Bool) (k : Nat) (r : List (Option Tmp × AV)) (e : Env), zdg p (k + 1) r e = zdg (fun j => p (j + 1)) k r e := by
      intro p k r
      induction r generalizing k with
      | nil => intro e; rfl
      | cons y r ih => intro e; simp only [zdg]; exact ih _ _
    refine ⟨(o.dst, v) :: xs, by simp [h3], ?_, ?_⟩
    · intro i o' x hi hx
      match i with
      | 0 =>
        simp at hi hx
        subst hi hx
        refine ⟨rfl, ?_⟩
        have : zdg (fun j => decide (j < 0)) 0 ((o.dst, v) :: xs) env = env := by
          rw [foldP_congr (p' := fun _ => false) _ _ _ (fun j _ => by simp)]
          have h2 : ∀ (l : List (Option Tmp × AV)) (k : Nat) (e : Env), zdg (fun _ => false) k l e = e := by
            intro l
            induction l with
            | nil => intro k e; rfl
            | cons y l ih => intro k e; simp only [zdg, Bool.false_eq_true, if_false]; exact ih _ _
          exact h2 _ _ _
        rw [this]
        exact h1
      | i + 1 =>
        simp only [List.getElem?_cons_succ] at hi hx
        obtain ⟨g1, g2⟩ := h4 i o' x hi hx
        refine ⟨g1, ?_⟩
        simp only [zdg]
        rw [if_pos (by simp), Nat.zero_add, shift]
        rw [foldP_congr (p' := fun j => decide (j < i)) _ _ _ (fun j _ => by simp)]
        exact g2
    · simp only [zdg, if_true]
      rw [Nat.zero_add, shift]
      exact h5

/-! ### what must stand ahead of what -/
def anc (ops : Array Oper) : Nat → Nat → Nat → Bool
  | 0, _, _ => false
  | f + 1, i, j => match ops[i]? with
    | none => false
    | some o => (o.after.any fun e => Region.binds .any e && e.on == j) || o.after.any fun e => Region.binds .any e && anc ops f e.on j

def clash (ops : Array Oper) (i j : Nat) : Bool :=
  match ops[i]?, ops[j]? with
  | some a, some b => b.dst.toList.any (fun t => (uses ops a).contains t) || a.dst.toList.any (fun t => (uses ops b).contains t)
  | _, _ => false

def okDraw (ops : Array Oper) : Bool :=
  (List.range ops.size).all fun i =>
    (match ops[i]? with
     | some o => o.after.all fun e => !Region.binds .any e || decide (e.on < i)
     | none => true) &&
    (List.range i).all fun j => !clash ops i j || anc ops ops.size i j

def listedB (l : Array Bool) (i : Nat) : Bool := l.getD i false

structure Closed (ops : Array Oper) (l : Array Bool) : Prop where
  size : l.size = ops.size
  down : ∀ (i : Nat) (o : Oper), ops[i]? = some o → listedB l i = true → ∀ e ∈ o.after, Region.binds .any e = true → listedB l e.on = true

theorem anc_listed {ops : Array Oper} {l : Array Bool} (hc : Closed ops l) : ∀ (f i j : Nat), (∀ o, ops[i]? = some o → ∀ e ∈ o.after, Region.binds .any e = true → listedB l e.on = true) → anc ops f i j = true → listedB l j = true
  | 0, i, j, _, h => by simp [anc] at h
  | f + 1, i, j, hd, h => by
    simp only [anc] at h
    split at h
    · cases h
    · rename_i o ho
      simp only [Bool.or_eq_true, Array.any_eq_true', Bool.and_eq_true, beq_iff_eq] at h
      rcases h with ⟨e, he, h1, h2⟩ | ⟨e, he, h1, h2⟩
      · have hon := hd o ho e he h1
        rwa [h2] at hon
      · have hon := hd o ho e he h1
        exact anc_listed hc f e.on j (fun o' ho' e' he' hb' => hc.down e.on o' ho' hon e' he' hb') h2

end Go.Eng
end

section
namespace Go.Eng
open Go
variable {H : Nat → Prop} [Globs]

def cnt (l : Array Bool) : Nat → Nat
  | 0 => 0
  | n + 1 => cnt l n + if listedB l n then 0 else 1

theorem cnt_le {l l' : Array Bool} (h : ∀ j, listedB l j = true → listedB l' j = true) : ∀ n, cnt l' n ≤ cnt l n
  | 0 => Nat.le_refl _
  | n + 1 => by
    have := cnt_le h n
    simp only [cnt]
    by_cases h1 : listedB l n = true
    · simp [h1, h n h1]; omega
    · simp [h1]; split <;> omega

theorem cnt_lt {l l' : Array Bool} (h : ∀ j, listedB l j = true → listedB l' j = true) {i : Nat} (h1 : listedB l i = false) (h2 : listedB l' i = true) : ∀ n, i < n → cnt l' n < cnt l n
  | 0, hi => by omega
  | n + 1, hi => by
    simp only [cnt]
    by_cases he : i = n
    · subst he
      have := cnt_le h i
      simp [h1, h2]
      omega
    · have := cnt_lt h h1 h2 n (by omega)
      by_cases h3 : listedB l n = true
      · simp [h3, h n h3]; omega
      · simp [h3]; split <;> omega

theorem cnt_zero {l : Array Bool} : ∀ n, cnt l n = 0 → ∀ i, i < n → listedB l i = true
  | 0, _, i, hi => by omega
  | n + 1, h, i, hi => by
    simp only [cnt] at h
    by_cases he : i = n
    · subst he
      by_cases h1 : listedB l i = true
      · exact h1
      · simp [h1] at h
    · exact cnt_zero n (by omega) i (by omega)

theorem mem_ready' {ops : Array Oper} {l : Array Bool} {i : Nat} (h : i ∈ Region.ready .any ops l) : ∃ o, ops[i]? = some o ∧ i < l.size ∧ listedB l i = false ∧ ∀ e ∈ o.after, Region.binds .any e = true → listedB l e.on = true := by
  simp only [Region.ready, List.mem_filter, List.mem_range, Bool.and_eq_true, Bool.not_eq_true'] at h
  obtain ⟨hi, h1, h2⟩ := h
  have ho : ops[i]? = some ops[i] := Array.getElem?_eq_getElem hi
  rw [ho] at h2
  simp only [Option.map_some, Option.getD_some] at h2
  refine ⟨ops[i], ho, ?_, ?_, ?_⟩
  · rcases Nat.lt_or_ge i l.size with h3 | h3
    · exact h3
    · simp [Array.getD_eq_getD_getElem?, Array.getElem?_eq_none h3] at h1
  · unfold listedB
    rw [Array.getD_eq_getD_getElem?] at h1 ⊢
    cases hl : l[i]? with
    | none => simp [hl] at h1
    | some b => simp [hl] at h1 ⊢; exact h1
  · intro e he hb
    rw [Array.all_eq_true'] at h2
    have := h2 e he
    simp only [hb, Bool.not_true, Bool.false_or] at this
    exact this

theorem ready_of {ops : Array Oper} {l : Array Bool} {i : Nat} {o : Oper} (ho : ops[i]? = some o) (hsz : l.size = ops.size) (h1 : listedB l i = false) (h2 : ∀ e ∈ o.after, Region.binds .any e = true → listedB l e.on = true) : i ∈ Region.ready .any ops l := by
  have hi := (Array.getElem?_eq_some_iff.1 ho).1
  simp only [Region.ready, List.mem_filter, List.mem_range, Bool.and_eq_true, Bool.not_eq_true', ho, Option.map_some, Option.getD_some]
  refine ⟨hi, ?_, ?_⟩
  · unfold listedB at h1
    rw [Array.getD_eq_getD_getElem?] at h1 ⊢
    rw [Array.getElem?_eq_getElem (by omega)] at h1 ⊢
    simpa using h1
  · rw [Array.all_eq_true']
    intro e he
    by_cases hb : Region.binds .any e = true
    · have := h2 e he hb
      unfold listedB at this
      simp [hb, this]
    · simp [hb]

theorem listed_set {l : Array Bool} {i j : Nat} (hi : i < l.size) : listedB (l.setIfInBounds i true) j = if i = j then true else listedB l j := by
  unfold listedB
  rw [Array.getD_eq_getD_getElem?, Array.getD_eq_getD_getElem?, Array.getElem?_setIfInBounds]
  by_cases h : i = j
  · subst h; simp [hi]
  · simp [h]

theorem okDraw_edge {ops : Array Oper} (h : okDraw ops = true) {i : Nat} {o : Oper} (ho : ops[i]? = some o) : ∀ e ∈ o.after, Region.binds .any e = true → e.on < i := by
  have hi := (Array.getElem?_eq_some_iff.1 ho).1
  simp only [okDraw, List.all_eq_true, List.mem_range, Bool.and_eq_true] at h
  have h1 := (h i hi).1
  rw [ho] at h1
  simp only [Array.all_eq_true'] at h1
  intro e he hb
  have := h1 e he
  simpa [hb] using this

theorem okDraw_clash {ops : Array Oper} (h : okDraw ops = true) {i j : Nat} (hi : i < ops.size) (hj : j < i) (hc : clash ops i j = true) : anc ops ops.size i j = true := by
  simp only [okDraw, List.all_eq_true, List.mem_range, Bool.and_eq_true] at h
  have := (h i hi).2 j hj
  simpa [hc] using this

theorem draw_any {r : Option Nat} {n : Nat} {P : Program} {T : Tab} (hT : TabOK P T) {ops : Array Oper} {w0 : World} {O0 : Nat → Prop} {m0 : Ids} (hG : Glob w0 O0) {Q : Post} {σ : Store} {env : Env} {xs : List (Option Tmp × AV)} (hok : okDraw ops = true) (hlen : xs.length = ops.size)
    (hxs : ∀ (i : Nat) (o : Oper) (x : Option Tmp × AV), ops[i]? = some o → xs[i]? = some x → x.1 = o.dst ∧ YA P T ops σ o (zdg (fun j => decide (j < i)) 0 xs env) x.2) (hQ : Q .normal (zdg (fun _ => true) 0 xs env) σ) :
    ∀ (fuel : Nat) (l : Array Bool) (a : Act) (w : World) (m : Ids), cnt l ops.size ≤ fuel → Closed ops l → Ext H w0 O0 m0 w (own H m σ) m → St H w m σ → reps w (own H m σ) m (zdg (listedB l) 0 xs env) a.tmps.toList → Mk w0.heap.size w (own H m σ) a.defers →
      wpAnyIn (FR r) n P .any ops (lift H w0 O0 m0 Q) fuel l a w := by
  have all : ∀ (l : Array Bool) (a : Act) (w : World) (m : Ids), (∀ i, i < ops.size → listedB l i = true) → Ext H w0 O0 m0 w (own H m σ) m → St H w m σ → reps w (own H m σ) m (zdg (listedB l) 0 xs env) a.tmps.toList → Mk w0.heap.size w (own H m σ) a.defers → lift H w0 O0 m0 Q .normal a w := by
    intro l a w m hall h0 hs he hd
    refine ⟨.normal, _, σ, m, hs, h0, he, hd, trivial, ?_⟩
    rw [foldP_congr (p' := fun _ => true) _ _ _ (fun j hj => by rw [Nat.zero_add]; exact hall j (by omega))]
    exact hQ
  intro fuel
  induction fuel with
  | zero =>
    intro l a w m hc hcl h0 hs he hd
    have hall := cnt_zero (l := l) ops.size (by omega)
    refine ⟨?_, all l a w m hall h0 hs he hd⟩
    cases hr : Region.ready .any ops l with
    | nil => rfl
    | cons i r =>
      obtain ⟨o, ho, _, h1, _⟩ := mem_ready' (i := i) (by rw [hr]; simp)
      rw [hall i (Array.getElem?_eq_some_iff.1 ho).1] at h1
      cases h1
  | succ fuel ih =>
    intro l a w m hc hcl h0 hs he hd
    refine ⟨fun hr => ?_, fun i hi => ?_⟩
    · -- nothing is ready: all are listed
      refine all l a w m (fun i => ?_) h0 hs he hd
      induction i using Nat.strongRecOn with
      | _ i ihi =>
        intro hi
        cases h1 : listedB l i with
        | true => rfl
        | false =>
          have ho : ops[i]? = some ops[i] := Array.getElem?_eq_getElem hi
          have := ready_of ho hcl.size h1 (fun e he hb => ihi e.on (okDraw_edge hok ho e he hb) (by have := okDraw_edge hok ho e he hb; omega))
          rw [hr] at this
          cases this
    · obtain ⟨o, ho, hil, hun, hdeps⟩ := mem_ready' hi
      have hi' : i < ops.size := (Array.getElem?_eq_some_iff.1 ho).1
      obtain ⟨x, hx⟩ : ∃ x, xs[i]? = some x := ⟨xs[i]'(by omega), by simp⟩
      obtain ⟨hxd, hya⟩ := hxs i o x ho hx
      have hcl2 : ∀ (j : Nat) (y : Option Tmp × AV), j ≠ i → xs[j]? = some y → (∃ t, y.1 = some t ∧ t ∈ uses ops o) → listedB l j = decide (j < i) := by
        rintro j y hji hy ⟨t, hyt, htu⟩
        have hj' : j < ops.size := by have := (List.getElem?_eq_some_iff.1 hy).1; omega
        have hoj : ops[j]? = some ops[j] := Array.getElem?_eq_getElem hj'
        have hyd := (hxs j _ y hoj hy).1
        rcases Nat.lt_or_gt_of_ne hji with hlt | hgt
        · have hc : clash ops i j = true := by
            unfold clash
            rw [ho, hoj]
            simp only [Bool.or_eq_true, List.any_eq_true]
            exact .inl ⟨t, by rw [← hyd, hyt]; simp, by simpa using htu⟩
          rw [anc_listed hcl _ i j (fun o' ho' => by rw [ho] at ho'; cases ho'; exact hdeps) (okDraw_clash hok hi' hlt hc)]
          simp [hlt]
        · have hc : clash ops j i = true := by
            unfold clash
            rw [ho, hoj]
            simp only [Bool.or_eq_true, List.any_eq_true]
            exact .inr ⟨t, by rw [← hyd, hyt]; simp, by simpa using htu⟩
          have ha := okDraw_clash hok hj' hgt hc
          cases hlj : listedB l j with
          | false => simp; omega
          | true =>
            have := anc_listed hcl _ j i (fun o' ho' e' he' hb' => hcl.down j o' ho' hlj e' he' hb') ha
            rw [hun] at this
            cases this
      have hya' : YA P T ops σ o (zdg (listedB l) 0 xs env) x.2 := by
        refine YA_ev (fun t ht => ?_) hya
        refine foldP_at xs 0 env env rfl rfl (fun j y hy hyt => ?_)
        rw [Nat.zero_add]
        by_cases hji : j = i
        · subst hji; simp [hun]
        · rw [hcl2 j y hji hy ⟨t, hyt, by unfold uses; simp only [List.mem_append] at ht ⊢; exact .inl ht⟩]
      have hnext : zdg (listedB (l.setIfInBounds i true)) 0 xs env = aput (zdg (listedB l) 0 xs env) o.dst x.2 := by
        apply List.ext_getElem?
        intro t
        by_cases hdt : o.dst = some t
        · rw [foldP_last xs 0 env i (by rw [hx, ← hdt, ← hxd]) (by rw [Nat.zero_add, listed_set hil, if_pos rfl]) (fun j y hj hy hyt => by
            rw [Nat.zero_add, listed_set hil, if_neg (by omega), hcl2 j y (by omega) hy ⟨t, hyt, by unfold uses; simp [hdt]⟩]
            simp; omega)]
          rw [hdt]
          simp only [aput, List.getElem?_set, foldP_length]
          simp
        · rw [aput_get hdt]
          refine foldP_at xs 0 env env rfl rfl (fun j y hy hyt => ?_)
          rw [Nat.zero_add, listed_set hil]
          by_cases hij : i = j
          · subst hij
            rw [hx] at hy
            cases hy
            exact absurd (hxd ▸ hyt) hdt
          · rw [if_neg hij]
      have hcl' : Closed ops (l.setIfInBounds i true) := by
        refine ⟨by simpa using hcl.size, fun k ok hok' hlk e he hb => ?_⟩
        rw [listed_set hil] at hlk ⊢
        by_cases hik : i = k
        · subst hik
          rw [ho] at hok'
          cases hok'
          rw [hdeps e he hb]
          simp
        · rw [if_neg hik] at hlk
          rw [hcl.down k ok hok' hlk e he hb]
          simp
      have hcnt : cnt (l.setIfInBounds i true) ops.size ≤ fuel := by
        have := cnt_lt (l := l) (l' := l.setIfInBounds i true) (fun j hj => by rw [listed_set hil, hj]; simp) hun (by rw [listed_set hil, if_pos rfl]) ops.size hi'
        omega
      unfold wpOpIn
      rw [ho]
      simp only
      rcases wguard_sound (a := a) hya' he with ⟨hw, h⟩ | ⟨hw, h⟩
      · rw [if_pos hw]
        have hop := Qop_sound hT (hG.mono h0) hs (o := o) (ρ := a.eval) h (aeval_sound (hG.mono h0) he)
        have hop' : OpOK H P w m σ (fun r σ' => r = x.2 ∧ σ' = σ) (panK (zdg (listedB l) 0 xs env) (fun y _ _ => match y with | .pan _ => False | _ => True)) ((execOp a.eval o).run P w) := hop
        refine wpIn_quiet (H := H) (w0 := w0) (O0 := O0) (m0 := m0) ?_
        exact oper_wp (Q := fun y _ _ => match y with | .pan _ => False | _ => True) (next := wpAnyIn (FR r) n P .any ops (lift H w0 O0 m0 Q) fuel (l.setIfInBounds i true)) hG h0 hs he hd (Qop_nodefer h) hop' (fun v r w' m' σ' g1 g2 g3 g4 ⟨g5, g6⟩ => by
          subst g5 g6
          exact ih _ _ _ m' hcnt hcl' g1 g2 (by rw [hnext]; exact g3) g4)
      · rw [if_neg (by simp [hw])]
        refine ⟨fun _ _ => trivial, ?_⟩
        refine ih _ _ _ m hcnt hcl' h0 hs ?_ (by rw [put_defers]; exact hd)
        rw [hnext, h]
        exact aput_sound he _ (by simp only [rep])

/-- A region whose order is open. -/
theorem draw_sound {r : Option Nat} {n : Nat} {P : Program} {T : Tab} (hT : TabOK P T) {ops : Array Oper} {w0 : World} {O0 : Nat → Prop} {m0 : Ids} (hG : Glob w0 O0) {Q : Post} {σ : Store} {env : Env} {a : Act} {w : World} {m : Ids} {id : Nat} (hm : P.follows .mixedOrders = true) (hok : okDraw ops = true)
    (h : wq P T ops σ ops.toList env (fun e => Q .normal e σ)) (h0 : Ext H w0 O0 m0 w (own H m σ) m) (hs : St H w m σ) (he : reps w (own H m σ) m env a.tmps.toList) (hd : Mk w0.heap.size w (own H m σ) a.defers) : (Code.region id ops true).wpIn (FR r) n P (lift H w0 O0 m0 Q) a w := by
  refine wpIn_region_any hm ?_
  obtain ⟨xs, h1, h2, h3⟩ := wq_vals _ _ h
  obtain ⟨k1, k2⟩ := hs.old (w' := { heap := w.heap, tape := w.tape, drawn := w.drawn + 1, os := w.os, output := w.output }) (Nat.le_refl _) (fun _ _ => rfl) rfl rfl rfl
  refine draw_any hT hG hok (by simpa using h1) (fun i o x ho hx => h2 i o x (by rwa [Array.getElem?_toList]) hx) h3 ops.size _ a _ m ?_ ?_ (h0.trans k2) k1 ?_ hd
  · have : ∀ n, cnt (Array.replicate ops.size false) n ≤ n := by
      intro n
      induction n with
      | zero => exact Nat.le_refl _
      | succ n ih => simp only [cnt]; split <;> omega
    exact this _
  · refine ⟨by simp, fun i o ho hl => ?_⟩
    simp [listedB, Array.getD_eq_getD_getElem?, Array.getElem?_replicate] at hl
    split at hl <;> simp at hl
  · rw [foldP_congr (p' := fun _ => false) _ _ _ (fun j hj => by
      simp [listedB, Array.getD_eq_getD_getElem?, Array.getElem?_replicate]
      split <;> simp)]
    have h2 : ∀ (l : List (Option Tmp × AV)) (k : Nat) (e : Env), zdg (fun _ => false) k l e = e := by
      intro l
      induction l with
      | nil => intro k e; rfl
      | cons y l ih => intro k e; simp only [zdg, Bool.false_eq_true, if_false]; exact ih _ _
    rw [h2]
    exact reps_mono k2 _ _ he
end Go.Eng
end

section
namespace Go.Eng
open Go
variable {H : Nat → Prop} [Globs]

/-- All ahead of it stand ahead of it, and it stands ahead of all behind it. -/
def solid (ops : Array Oper) (t : Nat) : Bool :=
  (List.range t).all (fun j => anc ops ops.size t j) && (List.range ops.size).all (fun i => !decide (t < i) || anc ops ops.size i t)
theorem solid_up {ops : Array Oper} {t j : Nat} (h : solid ops t = true) (hj : j < t) : anc ops ops.size t j = true := by
  simp only [solid, Bool.and_eq_true, List.all_eq_true, List.mem_range] at h
  exact h.1 j hj
theorem solid_down {ops : Array Oper} {t i : Nat} (h : solid ops t = true) (hi : i < ops.size) (hj : t < i) : anc ops ops.size i t = true := by
  simp only [solid, Bool.and_eq_true, List.all_eq_true, List.mem_range] at h
  simpa [hj] using h.2 i hi

theorem seg_any {r : Option Nat} {n : Nat} {P : Program} {T : Tab} (hT : TabOK P T) {ops : Array Oper} {w0 : World} {O0 : Nat → Prop} {m0 : Ids} (hG : Glob w0 O0) {Q : Post} {σ : Store} {env : Env} {xs : List (Option Tmp × AV)} (hok : okDraw ops = true) {s t : Nat} (hst : s + xs.length = t) (htn : t ≤ ops.size)
    (hsol : t < ops.size → solid ops t = true)
    (hxs : ∀ (i : Nat) (o : Oper) (x : Option Tmp × AV), ops[s + i]? = some o → xs[i]? = some x → x.1 = o.dst ∧ YA P T ops σ o (zdg (fun j => decide (j < i)) 0 xs env) x.2)
    (hnext : ∀ (fuel : Nat) (l : Array Bool) (a : Act) (w : World) (m : Ids), cnt l ops.size ≤ fuel → Closed ops l → (∀ i, i < ops.size → listedB l i = decide (i < t)) → Ext H w0 O0 m0 w (own H m σ) m → St H w m σ → reps w (own H m σ) m (zdg (fun _ => true) 0 xs env) a.tmps.toList → Mk w0.heap.size w (own H m σ) a.defers →
      wpAnyIn (FR r) n P .any ops (lift H w0 O0 m0 Q) fuel l a w) :
    ∀ (fuel : Nat) (l : Array Bool) (a : Act) (w : World) (m : Ids), cnt l ops.size ≤ fuel → Closed ops l → (∀ i, i < s → listedB l i = true) → (∀ i, i < ops.size → t ≤ i → listedB l i = false) → Ext H w0 O0 m0 w (own H m σ) m → St H w m σ → reps w (own H m σ) m (zdg (fun j => listedB l (s + j)) 0 xs env) a.tmps.toList → Mk w0.heap.size w (own H m σ) a.defers →
      wpAnyIn (FR r) n P .any ops (lift H w0 O0 m0 Q) fuel l a w := by
  intro fuel
  induction fuel with
  | zero =>
    intro l a w m hc hcl hlo hhi h0 hs he hd
    have hall := cnt_zero (l := l) ops.size (by omega)
    have htz : t = ops.size := by
      rcases Nat.lt_or_ge t ops.size with h | h
      · have := hhi t h (Nat.le_refl _)
        rw [hall t h] at this
        cases this
      · omega
    refine hnext 0 l a w m hc hcl (fun i hi => by rw [hall i hi]; simp; omega) h0 hs ?_ hd
    rw [foldP_congr (p' := fun j => listedB l (s + j)) _ _ _ (fun j hj => by rw [Nat.zero_add]; exact (hall (s + j) (by omega)).symm)]
    exact he
  | succ fuel ih =>
    intro l a w m hc hcl hlo hhi h0 hs he hd
    by_cases hall : ∀ i, i < t → listedB l i = true
    · refine hnext _ l a w m hc hcl (fun i hi => ?_) h0 hs ?_ hd
      · by_cases hit : i < t
        · rw [hall i hit]; simp [hit]
        · rw [hhi i hi (by omega)]; simp [hit]
      · rw [foldP_congr (p' := fun j => listedB l (s + j)) _ _ _ (fun j hj => by rw [Nat.zero_add]; exact (hall (s + j) (by omega)).symm)]
        exact he
    refine ⟨fun hr => ?_, fun i hi => ?_⟩
    · refine absurd (fun i => ?_) hall
      induction i using Nat.strongRecOn with
      | _ i ihi =>
        intro hi
        cases h1 : listedB l i with
        | true => rfl
        | false =>
          have ho : ops[i]? = some (ops[i]'(by omega)) := Array.getElem?_eq_getElem (by omega)
          have := ready_of ho hcl.size h1 (fun e he hb => ihi e.on (okDraw_edge hok ho e he hb) (by have := okDraw_edge hok ho e he hb; omega))
          rw [hr] at this
          cases this
    · obtain ⟨o, ho, hil, hun, hdeps⟩ := mem_ready' hi
      have hi' : i < ops.size := (Array.getElem?_eq_some_iff.1 ho).1
      have hdeps' : ∀ j, anc ops ops.size i j = true → listedB l j = true := fun j hj => anc_listed hcl _ i j (fun o' ho' => by rw [ho] at ho'; cases ho'; exact hdeps) hj
      have hit : i < t := by
        rcases Nat.lt_or_ge i t with h | h
        · exact h
        · have htz : t < ops.size := by omega
          have hsl := hsol htz
          rcases Nat.lt_or_ge t i with h2 | h2
          · have := hdeps' t (solid_down hsl hi' h2)
            rw [hhi t htz (Nat.le_refl _)] at this
            cases this
          · obtain rfl : i = t := by omega
            exact absurd (fun j hj => hdeps' j (solid_up hsl hj)) hall
      have his : s ≤ i := by
        rcases Nat.lt_or_ge i s with h | h
        · rw [hlo i h] at hun; cases hun
        · exact h
      obtain ⟨d, rfl⟩ : ∃ d, i = s + d := ⟨i - s, by omega⟩
      obtain ⟨x, hx⟩ : ∃ x, xs[d]? = some x := ⟨xs[d]'(by omega), by simp⟩
      obtain ⟨hxd, hya⟩ := hxs d o x ho hx
      have hcl2 : ∀ (j : Nat) (y : Option Tmp × AV), j ≠ d → xs[j]? = some y → (∃ t, y.1 = some t ∧ t ∈ uses ops o) → listedB l (s + j) = decide (j < d) := by
        rintro j y hji hy ⟨t', hyt, htu⟩
        have hj0 := (List.getElem?_eq_some_iff.1 hy).1
        have hj' : s + j < ops.size := by omega
        have hoj : ops[s + j]? = some ops[s + j] := Array.getElem?_eq_getElem hj'
        have hyd := (hxs j _ y hoj hy).1
        rcases Nat.lt_or_gt_of_ne hji with hlt | hgt
        · have hc : clash ops (s + d) (s + j) = true := by
            unfold clash
            rw [ho, hoj]
            simp only [Bool.or_eq_true, List.any_eq_true]
            exact .inl ⟨t', by rw [← hyd, hyt]; simp, by simpa using htu⟩
          rw [hdeps' _ (okDraw_clash hok hi' (by omega) hc)]
          simp [hlt]
        · have hc : clash ops (s + j) (s + d) = true := by
            unfold clash
            rw [ho, hoj]
            simp only [Bool.or_eq_true, List.any_eq_true]
            exact .inr ⟨t', by rw [← hyd, hyt]; simp, by simpa using htu⟩
          have ha := okDraw_clash hok hj' (by omega) hc
          cases hlj : listedB l (s + j) with
          | false => simp; omega
          | true =>
            have := anc_listed hcl _ (s + j) (s + d) (fun o' ho' e' he' hb' => hcl.down (s + j) o' ho' hlj e' he' hb') ha
            rw [hun] at this
            cases this
      have hya' : YA P T ops σ o (zdg (fun j => listedB l (s + j)) 0 xs env) x.2 := by
        refine YA_ev (fun t' ht => ?_) hya
        refine foldP_at xs 0 env env rfl rfl (fun j y hy hyt => ?_)
        rw [Nat.zero_add]
        by_cases hji : j = d
        · subst hji; simp [hun]
        · rw [hcl2 j y hji hy ⟨t', hyt, by unfold uses; simp only [List.mem_append] at ht ⊢; exact .inl ht⟩]
      have hnx : zdg (fun j => listedB (l.setIfInBounds (s + d) true) (s + j)) 0 xs env = aput (zdg (fun j => listedB l (s + j)) 0 xs env) o.dst x.2 := by
        apply List.ext_getElem?
        intro t'
        by_cases hdt : o.dst = some t'
        · rw [foldP_last xs 0 env d (by rw [hx, ← hdt, ← hxd]) (by rw [Nat.zero_add, listed_set hil, if_pos rfl]) (fun j y hj hy hyt => by
            rw [Nat.zero_add, listed_set hil, if_neg (by omega), hcl2 j y (by omega) hy ⟨t', hyt, by unfold uses; simp [hdt]⟩]
            simp; omega)]
          rw [hdt]
          simp only [aput, List.getElem?_set, foldP_length]
          simp
        · rw [aput_get hdt]
          refine foldP_at xs 0 env env rfl rfl (fun j y hy hyt => ?_)
          rw [Nat.zero_add, listed_set hil]
          by_cases hij : d = j
          · subst hij
            rw [hx] at hy
            cases hy
            exact absurd (hxd ▸ hyt) hdt
          · rw [if_neg (by omega)]
      have hcl' : Closed ops (l.setIfInBounds (s + d) true) := by
        refine ⟨by simpa using hcl.size, fun k ok hok' hlk e he hb => ?_⟩
        rw [listed_set hil] at hlk ⊢
        by_cases hik : s + d = k
        · subst hik
          rw [ho] at hok'
          cases hok'
          rw [hdeps e he hb]
          simp
        · rw [if_neg hik] at hlk
          rw [hcl.down k ok hok' hlk e he hb]
          simp
      have hcnt : cnt (l.setIfInBounds (s + d) true) ops.size ≤ fuel := by
        have := cnt_lt (l := l) (l' := l.setIfInBounds (s + d) true) (fun j hj => by rw [listed_set hil, hj]; simp) hun (by rw [listed_set hil, if_pos rfl]) ops.size hi'
        omega
      have hlo' : ∀ i, i < s → listedB (l.setIfInBounds (s + d) true) i = true := fun i h => by rw [listed_set hil, hlo i h]; simp
      have hhi' : ∀ i, i < ops.size → t ≤ i → listedB (l.setIfInBounds (s + d) true) i = false := fun i h h2 => by rw [listed_set hil, if_neg (by omega), hhi i h h2]
      unfold wpOpIn
      rw [ho]
      simp only
      rcases wguard_sound (a := a) hya' he with ⟨hw, h⟩ | ⟨hw, h⟩
      · rw [if_pos hw]
        have hop := Qop_sound hT (hG.mono h0) hs (o := o) (ρ := a.eval) h (aeval_sound (hG.mono h0) he)
        have hop' : OpOK H P w m σ (fun r σ' => r = x.2 ∧ σ' = σ) (panK (zdg (fun j => listedB l (s + j)) 0 xs env) (fun y _ _ => match y with | .pan _ => False | _ => True)) ((execOp a.eval o).run P w) := hop
        refine wpIn_quiet (H := H) (w0 := w0) (O0 := O0) (m0 := m0) ?_
        exact oper_wp (Q := fun y _ _ => match y with | .pan _ => False | _ => True) (next := wpAnyIn (FR r) n P .any ops (lift H w0 O0 m0 Q) fuel (l.setIfInBounds (s + d) true)) hG h0 hs he hd (Qop_nodefer h) hop' (fun v r w' m' σ' g1 g2 g3 g4 ⟨g5, g6⟩ => by
          subst g5 g6
          exact ih _ _ _ m' hcnt hcl' hlo' hhi' g1 g2 (by rw [hnx]; exact g3) g4)
      · rw [if_neg (by simp [hw])]
        refine ⟨fun _ _ => trivial, ?_⟩
        refine ih _ _ _ m hcnt hcl' hlo' hhi' h0 hs ?_ (by rw [put_defers]; exact hd)
        rw [hnx, h]
        exact aput_sound he _ (by simp only [rep])

/-- Runs of quiet operations, and one that may have effects behind each. -/
def wd (P : Program) (T : Tab) (ops : Array Oper) : List Nat → List Oper → Env → Store → Post → Prop
  | [], l, env, σ, Q => wq P T ops σ l env (fun e => Q .normal e σ)
  | k :: ks, l, env, σ, Q => wq P T ops σ (l.take k) env (fun e => match l.drop k with
    | [] => False
    | o :: rest => wguard ops e o.guard (Wop P T o.op (aeval e) σ (fun v σ1 => wd P T ops ks rest (aput e o.dst v) σ1 Q) (panK e Q)) (wd P T ops ks rest (aput e o.dst (.lit undef)) σ Q))

def okSolid (ops : Array Oper) : Nat → List Nat → Bool
  | _, [] => true
  | s, k :: ks => solid ops (s + k) && okSolid ops (s + k + 1) ks

theorem foldP_none : ∀ (l : List (Option Tmp × AV)) (k : Nat) (e : Env), zdg (fun _ => false) k l e = e
  | [], _, _ => rfl
  | y :: l, k, e => by simp only [zdg, Bool.false_eq_true, if_false]; exact foldP_none l _ _

theorem wd_any {r : Option Nat} {n : Nat} {P : Program} {T : Tab} (hT : TabOK P T) {ops : Array Oper} {w0 : World} {O0 : Nat → Prop} {m0 : Ids} (hG : Glob w0 O0) {Q : Post} (hok : okDraw ops = true) : ∀ (ks : List Nat) (s : Nat) (env : Env) (σ : Store) (fuel : Nat) (lst : Array Bool) (a : Act) (w : World) (m : Ids),
    s ≤ ops.size → okSolid ops s ks = true → wd P T ops ks (ops.toList.drop s) env σ Q → cnt lst ops.size ≤ fuel → Closed ops lst → (∀ i, i < ops.size → listedB lst i = decide (i < s)) → Ext H w0 O0 m0 w (own H m σ) m → St H w m σ → reps w (own H m σ) m env a.tmps.toList → Mk w0.heap.size w (own H m σ) a.defers →
    wpAnyIn (FR r) n P .any ops (lift H w0 O0 m0 Q) fuel lst a w := by
  have start : ∀ (lst : Array Bool) (s : Nat) (xs : List (Option Tmp × AV)) (env : Env), s + xs.length ≤ ops.size → (∀ i, i < ops.size → listedB lst i = decide (i < s)) → zdg (fun j => listedB lst (s + j)) 0 xs env = env := by
    intro lst s xs env hl h
    rw [foldP_congr (p' := fun _ => false) _ _ _ (fun j hj => by rw [Nat.zero_add, h (s + j) (by omega)]; simp), foldP_none]
  intro ks
  induction ks with
  | nil =>
    intro s env σ fuel lst a w m hsn _ h hc hcl hls h0 hs he hd
    obtain ⟨xs, h1, h2, h3⟩ := wq_vals _ _ h
    have hxl : s + xs.length = ops.size := by rw [h1]; simp; omega
    refine seg_any hT hG hok (t := ops.size) hxl (Nat.le_refl _) (fun h => absurd h (Nat.lt_irrefl _)) (fun i o x ho hx => h2 i o x (by rw [List.getElem?_drop, Array.getElem?_toList]; exact ho) hx) ?_ fuel lst a w m hc hcl (fun i hi => by rw [hls i (by omega)]; simp [hi]) (fun i hi h => by omega) h0 hs (by rw [start lst s xs env (by omega) hls]; exact he) hd
    intro fuel l a w m hc hcl hall h0 hs he hd
    have hp : lift H w0 O0 m0 Q .normal a w := ⟨.normal, _, σ, m, hs, h0, he, hd, trivial, h3⟩
    have hr : Region.ready .any ops l = [] := by
      cases hr : Region.ready .any ops l with
      | nil => rfl
      | cons i r =>
        obtain ⟨o, ho, _, h1, _⟩ := mem_ready' (i := i) (by rw [hr]; simp)
        have hi := (Array.getElem?_eq_some_iff.1 ho).1
        rw [hall i hi] at h1
        simp [hi] at h1
    cases fuel with
    | zero => exact ⟨hr, hp⟩
    | succ fuel => exact ⟨fun _ => hp, fun i hi => by rw [hr] at hi; cases hi⟩
  | cons k ks ih =>
    intro s env σ fuel lst a w m hsn hsol h hc hcl hls h0 hs he hd
    simp only [okSolid, Bool.and_eq_true] at hsol
    simp only [wd] at h
    obtain ⟨xs, h1, h2, h3⟩ := wq_vals _ _ h
    split at h3
    · exact h3.elim
    rename_i o rest hdr
    have hlen : k < (ops.toList.drop s).length := by
      rcases Nat.lt_or_ge k (ops.toList.drop s).length with h | h
      · exact h
      · rw [List.drop_eq_nil_of_le h] at hdr; cases hdr
    have hlen' : s + k < ops.size := by simp at hlen; omega
    have hxl : xs.length = k := by rw [h1, List.length_take]; omega
    have hdd : ops.toList.drop (s + k) = o :: rest := by rw [← hdr, List.drop_drop]
    have ho : ops[s + k]? = some o := by
      have : (ops.toList.drop (s + k))[0]? = some o := by rw [hdd]; rfl
      rw [List.getElem?_drop, Array.getElem?_toList] at this
      simpa using this
    have hrest : rest = ops.toList.drop (s + k + 1) := by
      have : (ops.toList.drop (s + k)).drop 1 = rest := by rw [hdd]; rfl
      rw [← this, List.drop_drop]
    refine seg_any hT hG hok (xs := xs) (s := s) (t := s + k) (by omega) (by omega) (fun _ => hsol.1) (fun i o x ho hx => h2 i o x ?_ hx) ?_ fuel lst a w m hc hcl (fun i hi => by rw [hls i (by omega)]; simp [hi]) (fun i hi h => by rw [hls i hi]; simp; omega) h0 hs (by rw [start lst s xs env (by omega) hls]; exact he) hd
    · have hik := (List.getElem?_eq_some_iff.1 hx).1
      rw [List.getElem?_take, if_pos (by omega), List.getElem?_drop, Array.getElem?_toList]
      exact ho
    intro fuel l a w m hc hcl hall h0 hs he hd
    have hun : listedB l (s + k) = false := by rw [hall _ hlen']; simp
    have hedge : ∀ e ∈ o.after, Region.binds .any e = true → listedB l e.on = true := fun e he hb => by
      have := okDraw_edge hok ho e he hb
      rw [hall _ (by omega)]
      simpa using this
    cases fuel with
    | zero =>
      have := cnt_zero (l := l) ops.size (by omega) (s + k) hlen'
      rw [hun] at this
      cases this
    | succ fuel =>
      refine ⟨fun hr => ?_, fun i hi => ?_⟩
      · have := ready_of ho hcl.size hun hedge
        rw [hr] at this
        cases this
      · obtain ⟨o', ho', hil, huni, hdeps⟩ := mem_ready' hi
        have hi' : i < ops.size := (Array.getElem?_eq_some_iff.1 ho').1
        obtain rfl : i = s + k := by
          rcases Nat.lt_trichotomy i (s + k) with h | h | h
          · rw [hall i hi'] at huni
            simp [h] at huni
          · exact h
          · have := anc_listed hcl _ i (s + k) (fun o'' ho'' => by rw [ho'] at ho''; cases ho''; exact hdeps) (solid_down hsol.1 hi' h)
            rw [hun] at this
            cases this
        have hcl' : Closed ops (l.setIfInBounds (s + k) true) := by
          refine ⟨by simpa using hcl.size, fun j ok hok' hlk e he hb => ?_⟩
          rw [listed_set hil] at hlk ⊢
          by_cases hik : s + k = j
          · subst hik
            rw [ho'] at hok'
            cases hok'
            rw [hdeps e he hb]
            simp
          · rw [if_neg hik] at hlk
            rw [hcl.down j ok hok' hlk e he hb]
            simp
        have hcnt : cnt (l.setIfInBounds (s + k) true) ops.size ≤ fuel := by
          have := cnt_lt (l := l) (l' := l.setIfInBounds (s + k) true) (fun j hj => by rw [listed_set hil, hj]; simp) hun (by rw [listed_set hil, if_pos rfl]) ops.size hi'
          omega
        have hls' : ∀ i, i < ops.size → listedB (l.setIfInBounds (s + k) true) i = decide (i < s + k + 1) := fun i h => by
          rw [listed_set hil]
          by_cases hik : s + k = i
          · subst hik; simp
          · rw [if_neg hik, hall i h]
            simp
            omega
        unfold wpOpIn
        rw [ho]
        simp only
        rcases wguard_sound (a := a) h3 he with ⟨hw, h⟩ | ⟨hw, h⟩
        · rw [if_pos hw]
          have hop := Wop_sound hT (hG.mono h0) hs (o := o) (ρ := a.eval) h (aeval_sound (hG.mono h0) he)
          exact oper_wp hG h0 hs he hd (Wop_nodefer h) hop fun v r w' m' σ' g1 g2 g3 g4 g5 => ih (s + k + 1) _ σ' fuel _ _ _ m' (by omega) hsol.2 (by rw [← hrest]; exact g5) hcnt hcl' hls' g1 g2 g3 g4
        · rw [if_neg (by simp [hw])]
          refine ⟨fun _ _ => trivial, ?_⟩
          exact ih (s + k + 1) _ σ fuel _ _ _ m (by omega) hsol.2 (by rw [← hrest]; exact h) hcnt hcl' hls' h0 hs (aput_sound he _ (by simp only [rep])) (by rw [put_defers]; exact hd)

/-- A region whose order is open. -/
theorem drawE_sound {r : Option Nat} {n : Nat} {P : Program} {T : Tab} (hT : TabOK P T) {ops : Array Oper} {w0 : World} {O0 : Nat → Prop} {m0 : Ids} (hG : Glob w0 O0) {Q : Post} {σ : Store} {env : Env} {a : Act} {w : World} {m : Ids} {id : Nat} {ks : List Nat} (hm : P.follows .mixedOrders = true) (hok : okDraw ops = true) (hsol : okSolid ops 0 ks = true)
    (h : wd P T ops ks ops.toList env σ Q) (h0 : Ext H w0 O0 m0 w (own H m σ) m) (hs : St H w m σ) (he : reps w (own H m σ) m env a.tmps.toList) (hd : Mk w0.heap.size w (own H m σ) a.defers) : (Code.region id ops true).wpIn (FR r) n P (lift H w0 O0 m0 Q) a w := by
  refine wpIn_region_any hm ?_
  obtain ⟨k1, k2⟩ := hs.old (w' := { heap := w.heap, tape := w.tape, drawn := w.drawn + 1, os := w.os, output := w.output }) (Nat.le_refl _) (fun _ _ => rfl) rfl rfl rfl
  refine wd_any hT hG hok ks 0 env σ ops.size _ a _ m (Nat.zero_le _) hsol (by simpa using h) ?_ ?_ ?_ (h0.trans k2) k1 (reps_mono k2 _ _ he) hd
  · have : ∀ n, cnt (Array.replicate ops.size false) n ≤ n := by
      intro n
      induction n with
      | zero => exact Nat.le_refl _
      | succ n ih => simp only [cnt]; split <;> omega
    exact this _
  · refine ⟨by simp, fun i o ho hl => ?_⟩
    simp [listedB, Array.getD_eq_getD_getElem?, Array.getElem?_replicate] at hl
    split at hl <;> simp at hl
  · intro i hi
    simp [listedB, Array.getD_eq_getD_getElem?, Array.getElem?_replicate, hi]
end Go.Eng
end

section
namespace Go.Eng
open Go
variable {H : Nat → Prop} [Globs]

/-! ### a region whose order is open, order by order -/
inductive Tr where
  | done
  | nil
  | br (i : Nat) (t r : Tr)

def mkTree (ops : Array Oper) : Nat → Array Bool → Tr
  | 0, _ => .done
  | n + 1, l => match Region.ready .any ops l with
    | [] => .done
    | rs => rs.foldr (fun i acc => .br i (mkTree ops n (l.setIfInBounds i true)) acc) .nil

def wtree (P : Program) (T : Tab) (ops : Array Oper) : Tr → Env → Store → Post → Prop
  | .done, env, σ, Q => Q .normal env σ
  | .nil, _, _, _ => True
  | .br i t r, env, σ, Q => (match ops[i]? with
    | some o => wguard ops env o.guard (Wop P T o.op (aeval env) σ (fun v σ' => wtree P T ops t (aput env o.dst v) σ' Q) (panK env Q)) (wtree P T ops t (aput env o.dst (.lit undef)) σ Q)
    | none => False) ∧ wtree P T ops r env σ Q

theorem wtree_mem {P : Program} {T : Tab} {ops : Array Oper} {env : Env} {σ : Store} {Q : Post} {f : Nat → Tr} : ∀ (rs : List Nat), wtree P T ops (rs.foldr (fun i acc => .br i (f i) acc) .nil) env σ Q → ∀ i ∈ rs, (match ops[i]? with
    | some o => wguard ops env o.guard (Wop P T o.op (aeval env) σ (fun v σ' => wtree P T ops (f i) (aput env o.dst v) σ' Q) (panK env Q)) (wtree P T ops (f i) (aput env o.dst (.lit undef)) σ Q)
    | none => False)
  | [], _, i, hi => by cases hi
  | j :: rs, h, i, hi => by
    simp only [List.foldr_cons, wtree] at h
    rcases List.mem_cons.1 hi with rfl | hi
    · exact h.1
    · exact wtree_mem rs h.2 i hi

theorem tree_any {r : Option Nat} {n : Nat} {P : Program} {T : Tab} (hT : TabOK P T) {ops : Array Oper} {w0 : World} {O0 : Nat → Prop} {m0 : Ids} (hG : Glob w0 O0) {Q : Post} : ∀ (fuel : Nat) (l : Array Bool) (env : Env) (σ : Store) (a : Act) (w : World) (m : Ids), l.size = ops.size → cnt l ops.size ≤ fuel →
    wtree P T ops (mkTree ops fuel l) env σ Q → Ext H w0 O0 m0 w (own H m σ) m → St H w m σ → reps w (own H m σ) m env a.tmps.toList → Mk w0.heap.size w (own H m σ) a.defers →
    wpAnyIn (FR r) n P .any ops (lift H w0 O0 m0 Q) fuel l a w := by
  intro fuel
  induction fuel with
  | zero =>
    intro l env σ a w m hls hc h h0 hs he hd
    have hall := cnt_zero (l := l) ops.size (by omega)
    have hr : Region.ready .any ops l = [] := by
      cases hr : Region.ready .any ops l with
      | nil => rfl
      | cons i rs =>
        obtain ⟨o, ho, _, h1, _⟩ := mem_ready' (i := i) (by rw [hr]; simp)
        have hi := (Array.getElem?_eq_some_iff.1 ho).1
        rw [hall i hi] at h1
        simp at h1
    exact ⟨hr, .normal, env, σ, m, hs, h0, he, hd, trivial, h⟩
  | succ fuel ih =>
    intro l env σ a w m hls hc h h0 hs he hd
    simp only [mkTree] at h
    refine ⟨fun hr => ?_, fun i hi => ?_⟩
    · rw [hr] at h
      exact ⟨.normal, env, σ, m, hs, h0, he, hd, trivial, h⟩
    · have h' : wtree P T ops ((Region.ready .any ops l).foldr (fun i acc => .br i (mkTree ops fuel (l.setIfInBounds i true)) acc) .nil) env σ Q := by
        cases hr : Region.ready .any ops l with
        | nil => rw [hr] at hi; cases hi
        | cons j rs => rw [hr] at h; exact h
      have hm := wtree_mem _ h' i hi
      obtain ⟨o, ho, _, hun, _⟩ := mem_ready' hi
      have hi' := (Array.getElem?_eq_some_iff.1 ho).1
      have hil : i < l.size := by rw [hls]; exact hi'
      rw [ho] at hm
      simp only at hm
      have hcnt : cnt (l.setIfInBounds i true) ops.size ≤ fuel := by
        have := cnt_lt (l := l) (l' := l.setIfInBounds i true) (fun j hj => by rw [listed_set hil, hj]; simp) hun (by rw [listed_set hil, if_pos rfl]) ops.size hi'
        omega
      unfold wpOpIn
      rw [ho]
      simp only
      rcases wguard_sound (a := a) hm he with ⟨hw, h⟩ | ⟨hw, h⟩
      · rw [if_pos hw]
        have hop := Wop_sound hT (hG.mono h0) hs (o := o) (ρ := a.eval) h (aeval_sound (hG.mono h0) he)
        exact oper_wp hG h0 hs he hd (Wop_nodefer h) hop fun v r w' m' σ' g1 g2 g3 g4 g5 => ih _ _ _ _ _ m' (by simpa using hls) hcnt g5 g1 g2 g3 g4
      · rw [if_neg (by simp [hw])]
        exact ⟨fun _ _ => trivial, ih _ _ _ _ _ m (by simpa using hls) hcnt h h0 hs (aput_sound he _ (by simp only [rep])) (by rw [put_defers]; exact hd)⟩

def allOff (ops : Array Oper) : Array Bool := Array.replicate ops.size false

theorem drawT_sound {r : Option Nat} {n : Nat} {P : Program} {T : Tab} (hT : TabOK P T) {ops : Array Oper} {w0 : World} {O0 : Nat → Prop} {m0 : Ids} (hG : Glob w0 O0) {Q : Post} {σ : Store} {env : Env} {a : Act} {w : World} {m : Ids} {id : Nat} (hm : P.follows .mixedOrders = true)
    (h : wtree P T ops (mkTree ops ops.size (allOff ops)) env σ Q) (h0 : Ext H w0 O0 m0 w (own H m σ) m) (hs : St H w m σ) (he : reps w (own H m σ) m env a.tmps.toList) (hd : Mk w0.heap.size w (own H m σ) a.defers) : (Code.region id ops true).wpIn (FR r) n P (lift H w0 O0 m0 Q) a w := by
  refine wpIn_region_any hm ?_
  obtain ⟨k1, k2⟩ := hs.old (w' := { heap := w.heap, tape := w.tape, drawn := w.drawn + 1, os := w.os, output := w.output }) (Nat.le_refl _) (fun _ _ => rfl) rfl rfl rfl
  refine tree_any hT hG ops.size _ env σ a _ m (by simp) ?_ h (h0.trans k2) k1 (reps_mono k2 _ _ he) (hd.mono k2)
  have : ∀ n, cnt (Array.replicate ops.size false) n ≤ n := by
    intro n
    induction n with
    | zero => exact Nat.le_refl _
    | succ n ih => simp only [cnt]; split <;> omega
  exact this _
end Go.Eng
end

section
/-
  A region whose order is open, in which one variable is made at any time: it is hidden till all ahead of the place named is done. No condition.
-/
namespace Go.Eng
open Go
variable {H : Nat → Prop} [Globs]

/-- One block more is hidden. -/
def Hg (H : Nat → Prop) (g : Nat) : Nat → Prop := fun b => H b ∨ b = g

omit [Globs] in
theorem own_Hg (g : Nat) (m : Ids) (σ : Store) (b : Nat) : own (Hg H g) m σ b ↔ own H m σ b ∨ b = g := by
  unfold own Hg
  constructor
  · rintro ((h | h) | h)
    · exact .inl (.inl h)
    · exact .inr h
    · exact .inl (.inr h)
  · rintro ((h | h) | h)
    · exact .inl (.inl h)
    · exact .inr h
    · exact .inl (.inr h)

omit [Globs] in
theorem Ext.less {H' : Nat → Prop} {w w' : World} {O O' : Nat → Prop} {m m' : Ids} (h : Ext H' w O m w' O' m') (hh : ∀ b, H b → H' b) : Ext H w O m w' O' m' :=
  ⟨h.heap, h.same, h.own, h.ids, h.rows, h.os, h.tape, h.output, fun b hb => h.hid b (hh b hb)⟩

omit [Globs] in
theorem blkRep_more {w w' : World} {O O' : Nat → Prop} {m m' : Ids} (hext : Ext H w O m w' O' m') (hold : ∀ b, b < w.heap.size → w'.heap[b]? = w.heap[b]?) {mi : Option Nat} {x : Blk} (hb : blkRep w O m mi x) : blkRep w' O' m' mi x := by
  cases x with
  | dead => trivial
  | ro cs =>
    rcases hb with h1 | ⟨g', e1, h1, h2⟩
    · exact .inl h1
    · by_cases hcs : cs = []
      · exact .inl hcs
      · have hlt := repAt_block h2 hcs
        refine .inr ⟨g', e1, fun ho => ?_, repAt_mono' hext (hold g' hlt) h2⟩
        rcases hext.own g' ho with h3 | h3
        · exact h1 h3
        · omega
  | rw cs =>
    rcases hb with h1 | ⟨g', c, e1, hr, h1, h2⟩
    · exact .inl h1
    · exact .inr ⟨g', c, e1, hr.move (hold g' hr.lt), h1, repAt_mono' hext (hold g' hr.lt) h2⟩
  | rt xx ee cs =>
    rcases hb with h1 | ⟨g', c, e1, hr, h1, h1', h2⟩
    · exact .inl h1
    · exact .inr ⟨g', c, e1, hr.move (hold g' hr.row.lt), h1, h1', repAt_mono' hext (hold g' hr.row.lt) h2⟩
  | lp st pend env ps as bd =>
    obtain ⟨g', e1, h1⟩ := hb
    exact ⟨g', e1, h1.move hext (hold g' h1.lt)⟩
  | mpb ks vs =>
    obtain ⟨g', e1, h1⟩ := hb
    exact ⟨g', e1, h1.move hext (hold g' h1.lt)⟩

omit [Globs] in
theorem St.hide {w w' : World} {m : Ids} {σ : Store} (h : St H w m σ) {o : Obj} (hheap : w'.heap = w.heap.push o) (hos : w'.os = w.os) (htape : w'.tape = w.tape) (hout : w'.output = w.output) :
    St (Hg H w.heap.size) w' m σ ∧ Ext H w (own H m σ) m w' (own (Hg H w.heap.size) m σ) m := by
  have hold : ∀ b, b < w.heap.size → w'.heap[b]? = w.heap[b]? := fun b hb => by rw [hheap, Array.getElem?_push_lt hb]; simp [hb]
  have hext : Ext H w (own H m σ) m w' (own (Hg H w.heap.size) m σ) m := by
    refine ⟨by rw [hheap]; simp, fun b hb _ => hold b hb, fun b hb => ?_, fun _ _ hx => hx, fun b c hr => ⟨c, ?_, rfl⟩, hos, htape, hout, fun b hb => hold b (h.hid b hb).1⟩
    · rcases (own_Hg _ m σ b).1 hb with h1 | h1
      · exact .inl h1
      · exact .inr (by omega)
    · have hlt := hr.lt
      obtain ⟨e, f, h1⟩ := hr
      exact ⟨e, f, (hold b hlt).trans h1⟩
  refine ⟨⟨h.len, fun i x mi hx hmi => blkRep_more hext hold (h.blk i x mi hx hmi), h.inj, fun b hb => ?_⟩, hext⟩
  rcases hb with hb | rfl
  · obtain ⟨h1, h2⟩ := h.hid b hb
    exact ⟨Nat.lt_of_lt_of_le h1 hext.heap, h2⟩
  · refine ⟨by rw [hheap]; simp, fun i x hx hm => ?_⟩
    have := h.ownlt (.inr ⟨i, x, hx, hm⟩)
    omega

omit [Globs] in
theorem St.land {w : World} {g : Nat} {c : Array Value} {e : TypeId} {m : Ids} {σ : Store} (hs : St (Hg H g) w m σ) (hg : ¬ H g) (hc : w.heap[g]? = some (.cells c e (0, 0))) :
    St H w (m ++ [some g]) (σ ++ [.rw (zc3 c.toList)]) ∧ ∀ Hx, Ext Hx w (own (Hg H g) m σ) m w (own H (m ++ [some g]) (σ ++ [.rw (zc3 c.toList)])) (m ++ [some g]) := by
  have hO : ∀ b, own H (m ++ [some g]) (σ ++ [.rw (zc3 c.toList)]) b ↔ own (Hg H g) m σ b := fun b => by
    rw [own_append hs.len, own_Hg]
    simp [Blk.owned, eq_comm]
  have hext : ∀ Hx, Ext Hx w (own (Hg H g) m σ) m w (own H (m ++ [some g]) (σ ++ [.rw (zc3 c.toList)])) (m ++ [some g]) := fun Hx =>
    ⟨Nat.le_refl _, fun _ _ _ => rfl, fun b hb => .inl ((hO b).1 hb), fun i x hx => by
      rw [List.getElem?_append_left (List.getElem?_eq_some_iff.1 hx).1]; exact hx, fun _ c h => ⟨c, h, rfl⟩, rfl, rfl, rfl, fun _ _ => rfl⟩
  have split : ∀ (i : Nat) (x : Blk), (σ ++ [Blk.rw (zc3 c.toList)])[i]? = some x → (i < σ.length ∧ σ[i]? = some x) ∨ (i = σ.length ∧ x = .rw (zc3 c.toList)) := by
    intro i x hx
    rcases Nat.lt_trichotomy i σ.length with hi | hi | hi
    · rw [List.getElem?_append_left hi] at hx
      exact .inl ⟨hi, hx⟩
    · subst hi
      rw [List.getElem?_append_right (by omega)] at hx
      simp at hx
      exact .inr ⟨rfl, hx.symm⟩
    · rw [List.getElem?_eq_none (by simp; omega)] at hx
      cases hx
  have idl : ∀ (i : Nat) (x : Option Nat), i < σ.length → (m ++ [some g])[i]? = some x → m[i]? = some x := fun i x hi hx => by
    rwa [List.getElem?_append_left (by rw [hs.len]; exact hi)] at hx
  have idr : ∀ (x : Option Nat), (m ++ [some g])[σ.length]? = some x → x = some g := fun x hx => by
    rw [← hs.len, List.getElem?_append_right (by omega)] at hx
    simp at hx
    exact hx.symm
  have noold : ∀ (i : Nat) (x : Blk), (σ[i]? = some x ∧ x.owned = true) → m[i]? ≠ some (some g) := (hs.hid g (.inr rfl)).2
  refine ⟨⟨by simp [hs.len], ?_, ?_, ?_⟩, hext⟩
  · intro i x mi hx hmi
    rcases split i x hx with ⟨hi, hx⟩ | ⟨rfl, rfl⟩
    · exact blkRep_stay (hext H) (fun b hb => (hO b).1 hb) (hs.blk i x mi hx (idl i mi hi hmi))
    · have := idr mi hmi
      subst this
      refine .inr ⟨g, c, rfl, ⟨e, 0, 0, hc, .inl (Nat.le_refl _)⟩, by simp [zc3], repAt_of fun j x hx => ?_⟩
      simp only [zc3, List.getElem?_map, Option.map_eq_some_iff] at hx
      obtain ⟨v, hv, rfl⟩ := hx
      refine ⟨v, ?_, by simp only [rep]⟩
      rw [Nat.zero_add, Cel.cell ⟨e, _, hc⟩, ← Array.getElem?_toList]
      exact hv
  · intro i j x y b hx hy hmi hmj
    rcases split i x hx.1 with ⟨hi, hx1⟩ | ⟨ei, hx1⟩
    · rcases split j y hy.1 with ⟨hj, hy1⟩ | ⟨ej, hy1⟩
      · exact hs.inj i j x y b ⟨hx1, hx.2⟩ ⟨hy1, hy.2⟩ (idl i _ hi hmi) (idl j _ hj hmj)
      · subst ej
        have := idr _ hmj
        cases this
        exact absurd (idl i _ hi hmi) (noold i x ⟨hx1, hx.2⟩)
    · subst ei
      have := idr _ hmi
      cases this
      rcases split j y hy.1 with ⟨hj, hy1⟩ | ⟨ej, hy1⟩
      · exact absurd (idl j _ hj hmj) (noold j y ⟨hy1, hy.2⟩)
      · exact ej.symm
  · intro b hb
    obtain ⟨h1, h2⟩ := hs.hid b (.inl hb)
    refine ⟨h1, fun i x hx hmi => ?_⟩
    rcases split i x hx.1 with ⟨hi, hx1⟩ | ⟨ei, hx1⟩
    · exact h2 i x ⟨hx1, hx.2⟩ (idl i _ hi hmi)
    · subst ei
      have := idr _ hmi
      cases this
      exact hg hb

/-- An operation that does not panic, in a frame. -/
theorem oper_wpq {r : Option Nat} {n : Nat} {P : Program} {w : World} {m : Ids} {σ : Store} {o : Oper} {a : Act} {K : AV → Store → Prop} {next : Act → World → Prop} {Q' : Exit → Act → World → Prop}
    (hG : Glob w (own H m σ)) (hs : St H w m σ)
    (hnd : ∀ c, o.op ≠ .defer c)
    (h : OpOK H P w m σ K (fun _ _ => False) ((execOp a.eval o).run P w))
    (hn : ∀ v r w' m' σ', Ext H w (own H m σ) m w' (own H m' σ') m' → St H w' m' σ' → rep w' (own H m' σ') m' r v → K r σ' → next (a.put o.dst v) w') :
    o.wpIn (FR r) n P a w next Q' := by
  refine ⟨fun _ _ => trivial, ?_⟩
  rw [Oper.semAt_eq _ _ _ hnd]
  generalize (execOp a.eval o).run P w = res at h
  cases res with
  | ok n w' =>
    cases n <;> simp only [OpOK] at h <;> first | exact h.elim | skip
    case value v =>
      obtain ⟨r, m', σ', h1, h2, h3, h4⟩ := h
      exact hn v r w' m' σ' h2 h1 h3 h4
    case skip =>
      obtain ⟨m', σ', h1, h2, h3⟩ := h
      exact hn undef (.lit undef) w' m' σ' h2 h1 (by simp only [rep]) h3
    case enter f args =>
      obtain ⟨rfl, hcb, as, h1, h2⟩ := h
      refine ⟨fun h => absurd h (by simp [FR, Fence.wide]), callsIn_FR (((h2 H w' m args hG hs h1).calls hcb).mono ?_)⟩
      rintro e w'' ⟨x, m', σ', g1, g2, g3, g4⟩
      cases x with
      | ret r =>
        cases e <;> simp only [zdc] at g3
        rename_i v
        exact hn v r w'' m' σ' g2 g1 g3 g4
      | pan r => exact g4.elim
    case round l f tmps as bd =>
      obtain ⟨rfl, h2⟩ := h
      refine ⟨fun h => absurd h (by simp [FR, Fence.wide]), ?_⟩
      have h3 := h2 hG (n - 1)
      refine RoundIn.mono (R := _) (show RoundIn (FR r) _ P l f tmps as bd _ _ from h3) ?_
      rintro e w'' ⟨x, m', σ', g1, g2, g3, g4⟩
      cases x with
      | ret r =>
        cases e <;> simp only [zdc] at g3
        rename_i v
        exact hn v r w'' m' σ' g2 g1 g3 g4
      | pan r => exact g4.elim
  | halt x w' =>
    cases x <;> simp only [OpOK] at h
    rename_i v
    obtain ⟨r, m', σ', h1, h2, h3, h4⟩ := h
    exact h4.elim

/-- The state ahead of landing. -/
def FS (H : Nat → Prop) (w0 : World) (O0 : Nat → Prop) (m0 : Ids) (σ : Store) (d : Tmp) (z : List Value) (b : Bool) (env : Env) (a : Act) (w : World) (m : Ids) : Prop :=
  ∃ H', (∀ b, H b → H' b) ∧ Ext H w0 O0 m0 w (own H' m σ) m ∧ St H' w m σ ∧ reps w (own H' m σ) m env a.tmps.toList ∧ Mk w0.heap.size w (own H' m σ) a.defers ∧
    match b with
    | false => H' = H
    | true => ∃ g c e, ¬ H g ∧ H' = Hg H g ∧ w.heap[g]? = some (.cells c e (0, 0)) ∧ c.toList = z ∧ a.tmps.setIfInBounds d (.pointer (some ⟨g, 0, none⟩)) = a.tmps

theorem tmps_comm {t : Array Value} {d e : Nat} {u v : Value} (hne : d ≠ e) (h : t.setIfInBounds d v = t) : (t.setIfInBounds e u).setIfInBounds d v = t.setIfInBounds e u := by
  rw [Array.setIfInBounds_comm _ _ (fun h => hne h.symm), h]

theorem segF_any {r : Option Nat} {n : Nat} {P : Program} {T : Tab} (hT : TabOK P T) {ops : Array Oper} {w0 : World} {O0 : Nat → Prop} {m0 : Ids} (hG : Glob w0 O0) {Q : Post} {σ : Store} {env : Env} {xs : List (Option Tmp × AV)} (hok : okDraw ops = true) {t : Nat} (hst : xs.length = t) (htn : t ≤ ops.size)
    (hsol : t < ops.size → solid ops t = true) {f : Nat} {d : Tmp} {e : TypeId} {te : TI} {of : Oper} (hof : ops[f]? = some of) (hop : of.op = .alloc e) (hod : of.dst = some d) (hog : of.guard = none) (hte : T e = some te)
    (hdst : ∀ (j : Nat) (o : Oper), ops[j]? = some o → j ≠ f → o.dst ≠ some d)
    (hxf : xs[f]? = some (some d, .bot))
    (hxs : ∀ (i : Nat) (o : Oper) (x : Option Tmp × AV), i ≠ f → ops[i]? = some o → xs[i]? = some x → x.1 = o.dst ∧ YA P T ops σ o (zdg (fun j => decide (j < i)) 0 xs env) x.2)
    (hnext : ∀ (fuel : Nat) (l : Array Bool) (a : Act) (w : World) (m : Ids), cnt l ops.size ≤ fuel → Closed ops l → (∀ i, i < ops.size → listedB l i = decide (i < t)) → FS H w0 O0 m0 σ d te.zero true (zdg (fun _ => true) 0 xs env) a w m →
      wpAnyIn (FR r) n P .any ops (lift H w0 O0 m0 Q) fuel l a w) :
    ∀ (fuel : Nat) (l : Array Bool) (a : Act) (w : World) (m : Ids), cnt l ops.size ≤ fuel → Closed ops l → (∀ i, i < ops.size → t ≤ i → listedB l i = false) → FS H w0 O0 m0 σ d te.zero (listedB l f) (zdg (fun j => listedB l j) 0 xs env) a w m →
      wpAnyIn (FR r) n P .any ops (lift H w0 O0 m0 Q) fuel l a w := by
  have hft : f < t := by rw [← hst]; exact (List.getElem?_eq_some_iff.1 hxf).1
  have hxd : ∀ (i : Nat) (o : Oper) (x : Option Tmp × AV), ops[i]? = some o → xs[i]? = some x → x.1 = o.dst := fun i o x ho hx => by
    by_cases hif : i = f
    · subst hif
      rw [hof] at ho
      cases ho
      rw [hxf] at hx
      cases hx
      exact hod.symm
    · exact (hxs i o x hif ho hx).1
  intro fuel
  induction fuel with
  | zero =>
    intro l a w m hc hcl hhi hF
    have hall := cnt_zero (l := l) ops.size (by omega)
    have htz : t = ops.size := by
      rcases Nat.lt_or_ge t ops.size with h | h
      · have := hhi t h (Nat.le_refl _)
        rw [hall t h] at this
        cases this
      · omega
    refine hnext 0 l a w m hc hcl (fun i hi => by rw [hall i hi]; simp; omega) ?_
    rw [hall f (by omega)] at hF
    rw [foldP_congr (p' := fun j => listedB l j) _ _ _ (fun j hj => by rw [Nat.zero_add]; exact (hall j (by omega)).symm)]
    exact hF
  | succ fuel ih =>
    intro l a w m hc hcl hhi hF
    by_cases hall : ∀ i, i < t → listedB l i = true
    · refine hnext _ l a w m hc hcl (fun i hi => ?_) ?_
      · by_cases hit : i < t
        · rw [hall i hit]; simp [hit]
        · rw [hhi i hi (by omega)]; simp [hit]
      · rw [hall f hft] at hF
        rw [foldP_congr (p' := fun j => listedB l j) _ _ _ (fun j hj => by rw [Nat.zero_add]; exact (hall j (by omega)).symm)]
        exact hF
    refine ⟨fun hr => ?_, fun i hi => ?_⟩
    · refine absurd (fun i => ?_) hall
      induction i using Nat.strongRecOn with
      | _ i ihi =>
        intro hi
        cases h1 : listedB l i with
        | true => rfl
        | false =>
          have ho : ops[i]? = some (ops[i]'(by omega)) := Array.getElem?_eq_getElem (by omega)
          have := ready_of ho hcl.size h1 (fun e he hb => ihi e.on (okDraw_edge hok ho e he hb) (by have := okDraw_edge hok ho e he hb; omega))
          rw [hr] at this
          cases this
    · obtain ⟨o, ho, hil, hun, hdeps⟩ := mem_ready' hi
      have hi' : i < ops.size := (Array.getElem?_eq_some_iff.1 ho).1
      have hdeps' : ∀ j, anc ops ops.size i j = true → listedB l j = true := fun j hj => anc_listed hcl _ i j (fun o' ho' => by rw [ho] at ho'; cases ho'; exact hdeps) hj
      have hit : i < t := by
        rcases Nat.lt_or_ge i t with h | h
        · exact h
        · have htz : t < ops.size := by omega
          have hsl := hsol htz
          rcases Nat.lt_or_ge t i with h2 | h2
          · have := hdeps' t (solid_down hsl hi' h2)
            rw [hhi t htz (Nat.le_refl _)] at this
            cases this
          · obtain rfl : i = t := by omega
            exact absurd (fun j hj => hdeps' j (solid_up hsl hj)) hall
      obtain ⟨x, hx⟩ : ∃ x, xs[i]? = some x := ⟨xs[i]'(by omega), by simp⟩
      have hxi := hxd i o x ho hx
      have hcl2 : ∀ (j : Nat) (y : Option Tmp × AV), j ≠ i → xs[j]? = some y → (∃ t, y.1 = some t ∧ t ∈ uses ops o) → listedB l j = decide (j < i) := by
        rintro j y hji hy ⟨t', hyt, htu⟩
        have hj' : j < ops.size := by have := (List.getElem?_eq_some_iff.1 hy).1; omega
        have hoj : ops[j]? = some ops[j] := Array.getElem?_eq_getElem hj'
        have hyd := hxd j _ y hoj hy
        rcases Nat.lt_or_gt_of_ne hji with hlt | hgt
        · have hc : clash ops i j = true := by
            unfold clash
            rw [ho, hoj]
            simp only [Bool.or_eq_true, List.any_eq_true]
            exact .inl ⟨t', by rw [← hyd, hyt]; simp, by simpa using htu⟩
          rw [hdeps' _ (okDraw_clash hok hi' hlt hc)]
          simp [hlt]
        · have hc : clash ops j i = true := by
            unfold clash
            rw [ho, hoj]
            simp only [Bool.or_eq_true, List.any_eq_true]
            exact .inr ⟨t', by rw [← hyd, hyt]; simp, by simpa using htu⟩
          have ha := okDraw_clash hok hj' hgt hc
          cases hlj : listedB l j with
          | false => simp; omega
          | true =>
            have := anc_listed hcl _ j i (fun o' ho' e' he' hb' => hcl.down j o' ho' hlj e' he' hb') ha
            rw [hun] at this
            cases this
      have hnx : zdg (fun j => listedB (l.setIfInBounds i true) j) 0 xs env = aput (zdg (fun j => listedB l j) 0 xs env) o.dst x.2 := by
        apply List.ext_getElem?
        intro t'
        by_cases hdt : o.dst = some t'
        · rw [foldP_last xs 0 env i (by rw [hx, ← hdt, ← hxi]) (by rw [Nat.zero_add, listed_set hil, if_pos rfl]) (fun j y hj hy hyt => by
            rw [Nat.zero_add, listed_set hil, if_neg (by omega), hcl2 j y (by omega) hy ⟨t', hyt, by unfold uses; simp [hdt]⟩]
            simp; omega)]
          rw [hdt]
          simp only [aput, List.getElem?_set, foldP_length]
          simp
        · rw [aput_get hdt]
          refine foldP_at xs 0 env env rfl rfl (fun j y hy hyt => ?_)
          rw [Nat.zero_add, listed_set hil]
          by_cases hij : i = j
          · subst hij
            rw [hx] at hy
            cases hy
            exact absurd (hxi ▸ hyt) hdt
          · rw [if_neg (by omega)]
      have hcl' : Closed ops (l.setIfInBounds i true) := by
        refine ⟨by simpa using hcl.size, fun k ok hok' hlk e he hb => ?_⟩
        rw [listed_set hil] at hlk ⊢
        by_cases hik : i = k
        · subst hik
          rw [ho] at hok'
          cases hok'
          rw [hdeps e he hb]
          simp
        · rw [if_neg hik] at hlk
          rw [hcl.down k ok hok' hlk e he hb]
          simp
      have hcnt : cnt (l.setIfInBounds i true) ops.size ≤ fuel := by
        have := cnt_lt (l := l) (l' := l.setIfInBounds i true) (fun j hj => by rw [listed_set hil, hj]; simp) hun (by rw [listed_set hil, if_pos rfl]) ops.size hi'
        omega
      have hhi' : ∀ i', i' < ops.size → t ≤ i' → listedB (l.setIfInBounds i true) i' = false := fun i' h h2 => by rw [listed_set hil, if_neg (by omega), hhi i' h h2]
      obtain ⟨H', hHH, h0, hs, he, hd, hfl⟩ := hF
      unfold wpOpIn
      rw [ho]
      simp only
      by_cases hif : i = f
      · -- the variable is made
        subst hif
        rw [hof] at ho
        cases ho
        rw [hun] at hfl
        simp only at hfl
        subst hfl
        rw [if_pos (by simp [Region.wanted, hog])]
        refine ⟨fun _ _ => trivial, ?_⟩
        rw [Oper.semAt_eq _ _ _ (by rw [hop]; intro c hc; cases hc)]
        obtain ⟨zv, hz, hzc⟩ := (hT e te hte).run_zero w
        have hrun : (execOp a.eval of).run P w = .ok (.value (.pointer (some ⟨w.heap.size, 0, none⟩))) { w with heap := w.heap.push (.cells zv.cells e) } := by
          unfold execOp
          rw [hop]
          simp [Instr.alloc, hz, newVar, Go.newRow, run_newObj]
        rw [hrun]
        obtain ⟨k1, k2⟩ := hs.hide (w' := { w with heap := w.heap.push (.cells zv.cells e) }) (o := .cells zv.cells e) rfl rfl rfl rfl
        refine ih _ _ _ m hcnt hcl' hhi' ⟨Hg H' w.heap.size, fun b hb => .inl hb, h0.trans k2, k1, ?_, ?_, ?_⟩
        · rw [hnx]
          have := hx.symm.trans hxf
          cases this
          exact aput_sound (reps_mono k2 _ _ he) _ (by simp only [rep])
        · rw [put_defers]; exact hd.mono k2
        · rw [listed_set hil, if_pos rfl]
          refine ⟨w.heap.size, zv.cells, e, fun hb => ?_, rfl, by simp, hzc, ?_⟩
          · have := (hs.hid _ hb).1
            omega
          · rw [hod]
            simp [Act.put]
      · have hya := (hxs i o x hif ho hx).2
        have hya' : YA P T ops σ o (zdg (fun j => listedB l j) 0 xs env) x.2 := by
          refine YA_ev (fun t' ht => ?_) hya
          refine foldP_at xs 0 env env rfl rfl (fun j y hy hyt => ?_)
          rw [Nat.zero_add]
          by_cases hji : j = i
          · subst hji; simp [hun]
          · rw [hcl2 j y hji hy ⟨t', hyt, by unfold uses; simp only [List.mem_append] at ht ⊢; exact .inl ht⟩]
        have hlf : listedB (l.setIfInBounds i true) f = listedB l f := by rw [listed_set hil, if_neg hif]
        have hod' : o.dst ≠ some d := hdst i o ho hif
        have keep : ∀ (v : Value) (w' : World), (∀ b, H' b → w'.heap[b]? = w.heap[b]?) → (match listedB l f with
            | false => H' = H
            | true => ∃ g c e, ¬ H g ∧ H' = Hg H g ∧ w'.heap[g]? = some (.cells c e (0, 0)) ∧ c.toList = te.zero ∧ (a.put o.dst v).tmps.setIfInBounds d (.pointer (some ⟨g, 0, none⟩)) = (a.put o.dst v).tmps) := by
          intro v w' hw
          revert hfl
          cases listedB l f with
          | false => exact fun h => h
          | true =>
            rintro ⟨g, c, e', g1, g2, g3, g4, g5⟩
            refine ⟨g, c, e', g1, g2, (hw g (by rw [g2]; exact .inr rfl)).trans g3, g4, ?_⟩
            cases hd' : o.dst with
            | none => simpa [Act.put] using g5
            | some d' =>
              simp only [Act.put]
              exact tmps_comm (fun h => hod' (by rw [hd', h])) g5
        rcases wguard_sound (a := a) hya' he with ⟨hw, h⟩ | ⟨hw, h⟩
        · rw [if_pos hw]
          have hop := Qop_sound hT (hG.mono h0) hs (o := o) (ρ := a.eval) h (aeval_sound (hG.mono h0) he)
          refine oper_wpq (hG.mono h0) hs (Qop_nodefer h) hop (fun v r w' m' σ' g1 g2 g3 ⟨g5, g6⟩ => ?_)
          subst g5 g6
          refine ih _ _ _ m' hcnt hcl' hhi' ⟨H', hHH, h0.trans (g1.less hHH), g2, ?_, ?_, ?_⟩
          · rw [hnx]
            exact aput_sound (reps_mono g1 _ _ he) _ g3
          · rw [put_defers]; exact hd.mono g1
          · rw [hlf]
            exact keep v w' g1.hid
        · rw [if_neg (by simp [hw])]
          refine ⟨fun _ _ => trivial, ?_⟩
          refine ih _ _ _ m hcnt hcl' hhi' ⟨H', hHH, h0, hs, ?_, ?_, ?_⟩
          · rw [hnx, h]
            exact aput_sound he _ (by simp only [rep])
          · rw [put_defers]; exact hd
          · rw [hlf]
            exact keep undef w fun _ _ => rfl

theorem foldP_app (p : Nat → Bool) : ∀ (l r : List (Option Tmp × AV)) (k : Nat) (e : Env), zdg p k (l ++ r) e = zdg p (k + l.length) r (zdg p k l e)
  | [], r, k, e => rfl
  | x :: l, r, k, e => by
    simp only [List.cons_append, zdg, List.length_cons]
    rw [foldP_app p l r, Nat.add_assoc, Nat.add_comm 1]
theorem foldP_shift (p : Nat → Bool) : ∀ (r : List (Option Tmp × AV)) (k n : Nat) (e : Env), zdg p (k + n) r e = zdg (fun j => p (j + n)) k r e
  | [], _, _, _ => rfl
  | x :: r, k, n, e => by
    simp only [zdg]
    rw [show k + n + 1 = (k + 1) + n by omega, foldP_shift p r]

/-- Behind the variable's place: the rest of what is ahead of place k; then it lands. -/
def wdL (P : Program) (T : Tab) (ops : Array Oper) (σ : Store) (Q : Post) (ks : List Nat) (rest : List Oper) (d : Tmp) (z : List Value) : Env → Prop :=
  fun e => wd P T ops ks rest (e.set d (.ptr σ.length 0)) (σ ++ [.rw (zc3 z)]) Q
def wdM (P : Program) (T : Tab) (ops : Array Oper) (σ : Store) (Q : Post) (ks : List Nat) (mid rest : List Oper) (d : Tmp) (te : Option TI) : Env → Prop :=
  fun e => match te with
    | some te => wq P T ops σ mid (e.set d .bot) (wdL P T ops σ Q ks rest d te.zero)
    | none => False

def okF (ops : Array Oper) (f k : Nat) (ks : List Nat) (d : Tmp) (e : TypeId) : Bool :=
  decide (f < k) && decide (k ≤ ops.size) && (!decide (k < ops.size) || solid ops k) && okSolid ops k ks &&
  (match ops[f]? with
   | some o => (match o.op with | .alloc e' => decide (e' = e) | _ => false) && decide (o.dst = some d) && o.guard.isNone
   | none => false) &&
  (List.range ops.size).all fun j => decide (j = f) || (match ops[j]? with | some o => !decide (o.dst = some d) | none => true)

theorem drawF_sound {r : Option Nat} {n : Nat} {P : Program} {T : Tab} (hT : TabOK P T) {ops : Array Oper} {w0 : World} {O0 : Nat → Prop} {m0 : Ids} (hG : Glob w0 O0) {Q : Post} {σ : Store} {env : Env} {a : Act} {w : World} {m : Ids} {id f k : Nat} {ks : List Nat} {d : Tmp} {e : TypeId} (hm : P.follows .mixedOrders = true) (hok : okDraw ops = true) (hF : okF ops f k ks d e = true)
    (h : wq P T ops σ (ops.toList.take f) env (wdM P T ops σ Q ks ((ops.toList.take k).drop (f + 1)) (ops.toList.drop k) d (T e))) (h0 : Ext H w0 O0 m0 w (own H m σ) m) (hs : St H w m σ) (he : reps w (own H m σ) m env a.tmps.toList) (hd : Mk w0.heap.size w (own H m σ) a.defers) : (Code.region id ops true).wpIn (FR r) n P (lift H w0 O0 m0 Q) a w := by
  refine wpIn_region_any hm ?_
  obtain ⟨k1, k2⟩ := hs.old (w' := { heap := w.heap, tape := w.tape, drawn := w.drawn + 1, os := w.os, output := w.output }) (Nat.le_refl _) (fun _ _ => rfl) rfl rfl rfl
  simp only [okF, Bool.and_eq_true, decide_eq_true_eq] at hF
  obtain ⟨⟨⟨⟨⟨hfk, hks⟩, hsolk⟩, hsol⟩, hof⟩, hdst⟩ := hF
  cases hofo : ops[f]? with
  | none => rw [hofo] at hof; cases hof
  | some of =>
  rw [hofo] at hof
  simp only [Bool.and_eq_true, decide_eq_true_eq] at hof
  obtain ⟨⟨hop, hod⟩, hog⟩ := hof
  have hop : of.op = .alloc e := by
    split at hop
    · rename_i e' he'
      rw [he']
      simp only [decide_eq_true_eq] at hop
      rw [hop]
    · cases hop
  have hog : of.guard = none := by simpa using hog
  have hlo : ∀ i, listedB (Array.replicate ops.size false) i = false := fun i => by
    simp only [listedB, Array.getD_eq_getD_getElem?, Array.getElem?_replicate]
    split <;> rfl
  obtain ⟨xs1, a1, a2, h⟩ := wq_vals _ _ h
  unfold wdM at h
  cases hte : T e with
  | none => rw [hte] at h; exact h.elim
  | some te =>
  rw [hte] at h
  simp only at h
  obtain ⟨xs2, b1, b2, h⟩ := wq_vals _ _ h
  have hl1 : xs1.length = f := by rw [a1, List.length_take]; simp; omega
  have hl2 : xs2.length = k - (f + 1) := by rw [b1, List.length_drop, List.length_take]; simp; omega
  have fold_f : ∀ (e : Env) (l : List (Option Tmp × AV)) (k : Nat), zdg (fun _ => false) k l e = e := fun e l k => by
    induction l generalizing k with
    | nil => rfl
    | cons y l ih => simp only [zdg, Bool.false_eq_true, if_false]; exact ih _
  have hdst' : ∀ (j : Nat) (o : Oper), ops[j]? = some o → j ≠ f → o.dst ≠ some d := by
    intro j o ho hj hod
    rw [List.all_eq_true] at hdst
    have := hdst j (by simpa using (Array.getElem?_eq_some_iff.1 ho).1)
    simp [ho, hod, hj] at this
  refine segF_any (H := H) (σ := σ) (env := env) hT hG (xs := xs1 ++ (some d, .bot) :: xs2) (t := k) hok (by simp [hl1, hl2]; omega) hks (fun h => by simpa [h] using hsolk) hofo hop hod hog hte hdst' (by rw [List.getElem?_append_right (by omega), hl1]; simp) ?_ ?_ ops.size _ a _ m ?_ ?_ ?_ ?_
  · intro i o x hif ho hx
    rcases Nat.lt_or_ge i f with hi | hi
    · rw [List.getElem?_append_left (by omega)] at hx
      obtain ⟨c1, c2⟩ := a2 i o x (by rw [List.getElem?_take, if_pos hi, Array.getElem?_toList]; exact ho) hx
      refine ⟨c1, ?_⟩
      rw [foldP_app, foldP_congr (p' := fun _ => false) ((some d, AV.bot) :: xs2) _ _ (fun j _ => by simp; omega), fold_f]
      exact c2
    · have hi : f + 1 ≤ i := by omega
      obtain ⟨j, rfl⟩ : ∃ j, i = f + 1 + j := ⟨i - (f + 1), by omega⟩
      have hx' : xs2[j]? = some x := by
        rw [List.getElem?_append_right (by omega), hl1, show f + 1 + j - f = j + 1 by omega, List.getElem?_cons_succ] at hx
        exact hx
      have hj := (List.getElem?_eq_some_iff.1 hx').1
      obtain ⟨c1, c2⟩ := b2 j o x (by rw [List.getElem?_drop, List.getElem?_take, if_pos (by omega), Array.getElem?_toList]; exact ho) hx'
      refine ⟨c1, ?_⟩
      rw [foldP_app, foldP_congr (p' := fun _ => true) xs1 _ _ (fun j _ => by simp; omega)]
      simp only [zdg]
      rw [hl1, if_pos (by simp; omega), Nat.zero_add, show f + 1 = 0 + (f + 1) by omega, foldP_shift, foldP_congr (p' := fun i => decide (i < j)) xs2 _ _ (fun i _ => by simp; omega)]
      exact c2
  · intro fuel l a w m hc hcl hall ⟨H', hHH, h0, hs, he, hd, g, c, e', g1, g2, g3, g4, g5⟩
    subst g2
    obtain ⟨l1, l2⟩ := hs.land g1 g3
    have hids : (m ++ [some g])[σ.length]? = some (some g) := by rw [← hs.len]; simp
    rw [g4] at l1 l2
    refine wd_any hT hG hok ks k ((zdg (fun _ => true) 0 xs2 ((zdg (fun _ => true) 0 xs1 env).set d .bot)).set d (.ptr σ.length 0)) (σ ++ [Blk.rw (zc3 te.zero)]) fuel l a w (m ++ [some g]) hks hsol (by unfold wdL at h; exact h) hc hcl hall (h0.trans (l2 H)) l1 ?_ (hd.mono (l2 H))
    · have := reps_set (reps_mono (l2 H) _ _ he) d (x := .ptr σ.length 0) (v := .pointer (some ⟨g, 0, none⟩)) (by simp only [rep]; exact ⟨g, rfl, hids⟩)
      have e1 : a.tmps.toList.set d (.pointer (some ⟨g, 0, none⟩)) = a.tmps.toList := by
        have := congrArg Array.toList g5
        rwa [Array.toList_setIfInBounds] at this
      rw [e1, foldP_app, hl1] at this
      simp only [zdg, if_true, aput] at this
      rw [Nat.zero_add, show f + 1 = 0 + (f + 1) by omega, foldP_shift] at this
      exact this
  · have : ∀ n, cnt (Array.replicate ops.size false) n ≤ n := by
      intro n
      induction n with
      | zero => exact Nat.le_refl _
      | succ n ih => simp only [cnt]; split <;> omega
    exact this _
  · exact ⟨by simp, fun i o ho hl => by rw [hlo] at hl; cases hl⟩
  · exact fun i _ _ => hlo i
  · rw [hlo f, foldP_congr (p' := fun _ => false) _ _ _ (fun j _ => hlo _), fold_f]
    exact ⟨H, fun _ h => h, h0.trans k2, k1, reps_mono k2 _ _ he, hd.mono k2, rfl⟩
end Go.Eng
end

section
/-
  A region whose order is open, in which one variable is made at any time and is stored into late, by a value that is told before; other operations may be done behind the store. No condition.
-/
namespace Go.Eng
open Go
variable {H : Nat → Prop} [Globs]

omit [Globs] in
theorem St.landX {w : World} {g : Nat} {c : Array Value} {e : TypeId} {m : Ids} {σ : Store} {X : List AV} (hs : St (Hg H g) w m σ) (hg : ¬ H g) (hc : w.heap[g]? = some (.cells c e (0, 0))) (hX : reps w (own (Hg H g) m σ) m X c.toList) :
    St H w (m ++ [some g]) (σ ++ [.rw (X)]) ∧ ∀ Hx, Ext Hx w (own (Hg H g) m σ) m w (own H (m ++ [some g]) (σ ++ [.rw (X)])) (m ++ [some g]) := by
  have hO : ∀ b, own H (m ++ [some g]) (σ ++ [.rw (X)]) b ↔ own (Hg H g) m σ b := fun b => by
    rw [own_append hs.len, own_Hg]
    simp [Blk.owned, eq_comm]
  have hext : ∀ Hx, Ext Hx w (own (Hg H g) m σ) m w (own H (m ++ [some g]) (σ ++ [.rw (X)])) (m ++ [some g]) := fun Hx =>
    ⟨Nat.le_refl _, fun _ _ _ => rfl, fun b hb => .inl ((hO b).1 hb), fun i x hx => by
      rw [List.getElem?_append_left (List.getElem?_eq_some_iff.1 hx).1]; exact hx, fun _ c h => ⟨c, h, rfl⟩, rfl, rfl, rfl, fun _ _ => rfl⟩
  have split : ∀ (i : Nat) (x : Blk), (σ ++ [Blk.rw (X)])[i]? = some x → (i < σ.length ∧ σ[i]? = some x) ∨ (i = σ.length ∧ x = .rw (X)) := by
    intro i x hx
    rcases Nat.lt_trichotomy i σ.length with hi | hi | hi
    · rw [List.getElem?_append_left hi] at hx
      exact .inl ⟨hi, hx⟩
    · subst hi
      rw [List.getElem?_append_right (by omega)] at hx
      simp at hx
      exact .inr ⟨rfl, hx.symm⟩
    · rw [List.getElem?_eq_none (by simp; omega)] at hx
      cases hx
  have idl : ∀ (i : Nat) (x : Option Nat), i < σ.length → (m ++ [some g])[i]? = some x → m[i]? = some x := fun i x hi hx => by
    rwa [List.getElem?_append_left (by rw [hs.len]; exact hi)] at hx
  have idr : ∀ (x : Option Nat), (m ++ [some g])[σ.length]? = some x → x = some g := fun x hx => by
    rw [← hs.len, List.getElem?_append_right (by omega)] at hx
    simp at hx
    exact hx.symm
  have noold : ∀ (i : Nat) (x : Blk), (σ[i]? = some x ∧ x.owned = true) → m[i]? ≠ some (some g) := (hs.hid g (.inr rfl)).2
  refine ⟨⟨by simp [hs.len], ?_, ?_, ?_⟩, hext⟩
  · intro i x mi hx hmi
    rcases split i x hx with ⟨hi, hx⟩ | ⟨rfl, rfl⟩
    · exact blkRep_stay (hext H) (fun b hb => (hO b).1 hb) (hs.blk i x mi hx (idl i mi hi hmi))
    · have := idr mi hmi
      subst this
      have hl := reps_length hX
      refine .inr ⟨g, c, rfl, ⟨e, 0, 0, hc, .inl (Nat.le_refl _)⟩, by simp at hl; omega, repAt_of fun j x hx => ?_⟩
      obtain ⟨v, hv, hr⟩ := reps_get hX j x hx
      refine ⟨v, ?_, rep_mono (hext H) _ _ hr⟩
      rw [Nat.zero_add, Cel.cell ⟨e, _, hc⟩, ← Array.getElem?_toList]
      exact hv
  · intro i j x y b hx hy hmi hmj
    rcases split i x hx.1 with ⟨hi, hx1⟩ | ⟨ei, hx1⟩
    · rcases split j y hy.1 with ⟨hj, hy1⟩ | ⟨ej, hy1⟩
      · exact hs.inj i j x y b ⟨hx1, hx.2⟩ ⟨hy1, hy.2⟩ (idl i _ hi hmi) (idl j _ hj hmj)
      · subst ej
        have := idr _ hmj
        cases this
        exact absurd (idl i _ hi hmi) (noold i x ⟨hx1, hx.2⟩)
    · subst ei
      have := idr _ hmi
      cases this
      rcases split j y hy.1 with ⟨hj, hy1⟩ | ⟨ej, hy1⟩
      · exact absurd (idl j _ hj hmj) (noold j y ⟨hy1, hy.2⟩)
      · exact ej.symm
  · intro b hb
    obtain ⟨h1, h2⟩ := hs.hid b (.inl hb)
    refine ⟨h1, fun i x hx hmi => ?_⟩
    rcases split i x hx.1 with ⟨hi, hx1⟩ | ⟨ei, hx1⟩
    · exact h2 i x ⟨hx1, hx.2⟩ (idl i _ hi hmi)
    · subst ei
      have := idr _ hmi
      cases this
      exact hg hb

omit [Globs] in
theorem blkRep_but {w w' : World} {O O' : Nat → Prop} {m m' : Ids} {g : Nat} (hext : Ext H w O m w' O' m') (hO : ∀ b, O' b → O b) (hold : ∀ b, b ≠ g → w'.heap[b]? = w.heap[b]?) (hg : O g) {mi : Option Nat} {x : Blk} (hne : x.owned = true → mi ≠ some g) (hb : blkRep w O m mi x) : blkRep w' O' m' mi x := by
  cases x with
  | dead => trivial
  | ro cs =>
    rcases hb with h1 | ⟨g', e1, h1, h2⟩
    · exact .inl h1
    · exact .inr ⟨g', e1, fun ho => h1 (hO _ ho), repAt_mono' hext (hold g' (fun h => h1 (h ▸ hg))) h2⟩
  | rw cs =>
    rcases hb with h1 | ⟨g', c, e1, hr, h1, h2⟩
    · exact .inl h1
    · have hn : g' ≠ g := fun h => hne rfl (by rw [e1, h])
      exact .inr ⟨g', c, e1, hr.move (hold g' hn), h1, repAt_mono' hext (hold g' hn) h2⟩
  | rt xx ee cs =>
    rcases hb with h1 | ⟨g', c, e1, hr, h1, h1', h2⟩
    · exact .inl h1
    · have hn : g' ≠ g := fun h => hne rfl (by rw [e1, h])
      exact .inr ⟨g', c, e1, hr.move (hold g' hn), h1, h1', repAt_mono' hext (hold g' hn) h2⟩
  | lp st pend env ps as bd =>
    obtain ⟨g', e1, h1⟩ := hb
    have hn : g' ≠ g := fun h => hne rfl (by rw [e1, h])
    exact ⟨g', e1, h1.move hext (hold g' hn)⟩
  | mpb ks vs =>
    obtain ⟨g', e1, h1⟩ := hb
    have hn : g' ≠ g := fun h => hne rfl (by rw [e1, h])
    exact ⟨g', e1, h1.move hext (hold g' hn)⟩

omit [Globs] in
/-- A whole value is stored into a variable that is still hidden. -/
theorem St.late {P : Program} {w : World} {g : Nat} {c : Array Value} {e : TypeId} {m : Ids} {σ : Store} (hs : St (Hg H g) w m σ) (hg : ¬ H g) (hc : w.heap[g]? = some (.cells c e (0, 0))) {X : List AV} {vs : List Value} (hX : reps w (own (Hg H g) m σ) m X vs) (hone : X.all AV.one = true) (hlen : vs.length = c.size) :
    ∃ w' c', (storeCells ⟨g, 0, none⟩ vs).run P w = .ok () w' ∧ w'.heap[g]? = some (.cells c' e (0, 0)) ∧ c'.toList = vs ∧ St (Hg H g) w' m σ ∧ Ext H w (own (Hg H g) m σ) m w' (own (Hg H g) m σ) m := by
  have hrow : Row w g c := ⟨e, 0, 0, hc, .inl (Nat.le_refl _)⟩
  have ho := reps_one hX hone
  obtain ⟨w', c', h1, h2, h3, h4, h5, h6, h7, h8, h9⟩ := storeCells_row (P := P) (g := g) (off := 0) vs 0 w c hrow (by omega) ho
  obtain ⟨c2, k3⟩ := storeCells_heap (P := P) (c := c) vs 0 w w' c hc h1 ho hrow (by omega)
  have hcc : c2 = c' := Cel.eq ⟨e, _, k3⟩ h2.cel
  subst hcc
  have hext : Ext H w (own (Hg H g) m σ) m w' (own (Hg H g) m σ) m := by
    refine ⟨by omega, fun b hb hO => h5 b (fun h => hO ((own_Hg g m σ b).2 (.inr h))), fun b hb => .inl hb, fun _ _ h => h, fun b c0 hb => ?_, h6, h7, h8, fun b hb => h5 b (fun h => hg (h ▸ hb))⟩
    by_cases hbg : b = g
    · subst hbg
      have := Cel.eq hb hrow.cel
      subst this
      exact ⟨c2, h2.cel, h3⟩
    · obtain ⟨e0, f0, hb⟩ := hb
      exact ⟨c0, ⟨e0, f0, (h5 b hbg).trans hb⟩, rfl⟩
  refine ⟨w', c2, h1, k3, ?_, ⟨hs.len, fun i x mi hx hmi => ?_, hs.inj, fun b hb => ?_⟩, hext⟩
  · apply List.ext_getElem?
    intro j
    rw [Array.getElem?_toList, h9]
    by_cases hj : j < vs.length
    · rw [if_pos (by omega)]
      simp
    · rw [if_neg (by omega), List.getElem?_eq_none (by omega)]
      simp
      omega
  · exact blkRep_but hext (fun _ h => h) h5 ((own_Hg g m σ g).2 (.inr rfl)) (fun ho hm => (hs.hid g (.inr rfl)).2 i x ⟨hx, ho⟩ (by rw [hmi, hm])) (hs.blk i x mi hx hmi)
  · obtain ⟨q1, q2⟩ := hs.hid b hb
    exact ⟨by omega, q2⟩

/-- The state ahead of landing: the variable holds what it was made with, or what was stored. -/
def FS2 (H : Nat → Prop) (w0 : World) (O0 : Nat → Prop) (m0 : Ids) (σ : Store) (d : Tmp) (z : List Value) (X : List AV) (b b2 : Bool) (env : Env) (a : Act) (w : World) (m : Ids) : Prop :=
  ∃ H', (∀ b, H b → H' b) ∧ Ext H w0 O0 m0 w (own H' m σ) m ∧ St H' w m σ ∧ reps w (own H' m σ) m env a.tmps.toList ∧ Mk w0.heap.size w (own H' m σ) a.defers ∧
    match b with
    | false => H' = H
    | true => ∃ g c e, ¬ H g ∧ H' = Hg H g ∧ w.heap[g]? = some (.cells c e (0, 0)) ∧ (match b2 with | false => c.toList = z | true => reps w (own H' m σ) m X c.toList) ∧ a.tmps.setIfInBounds d (.pointer (some ⟨g, 0, none⟩)) = a.tmps

theorem segS_any {r : Option Nat} {n : Nat} {P : Program} {T : Tab} (hT : TabOK P T) {ops : Array Oper} {w0 : World} {O0 : Nat → Prop} {m0 : Ids} (hG : Glob w0 O0) {Q : Post} {σ : Store} {env : Env} {xs : List (Option Tmp × AV)} (hok : okDraw ops = true) {t : Nat} (hst : xs.length = t) (htn : t ≤ ops.size)
    (hsol : t < ops.size → solid ops t = true) {f : Nat} {d : Tmp} {e : TypeId} {te : TI} {of : Oper} (hof : ops[f]? = some of) (hop : of.op = .alloc e) (hod : of.dst = some d) (hog : of.guard = none) (hte : T e = some te)
    (hdst : ∀ (j : Nat) (o : Oper), ops[j]? = some o → j ≠ f → o.dst ≠ some d)
    (hxf : xs[f]? = some (some d, .bot)) {p : Nat} {opp : Oper} {bs : Tmp} {xv : AV} (hpo : ops[p]? = some opp) (hpop : opp.op = .store e (.tmp d) (.tmp bs)) (hpd : opp.dst = none) (hpg : opp.guard = none) (hpt : p < t) (hpf : anc ops ops.size p f = true)
    (hbs : ∀ (j : Nat) (o : Oper), ops[j]? = some o → o.dst = some bs → anc ops ops.size p j = true ∧ j < p) (hxp : xs[p]? = some (none, .lit undef)) (hxv : (zdg (fun j => decide (j < p)) 0 xs env)[bs]? = some xv) (hlen : xv.cells.length = te.size) (hz : te.zero.length = te.size) (hone : xv.cells.all AV.one = true) (hdl : d < env.length)
    (hxs : ∀ (i : Nat) (o : Oper) (x : Option Tmp × AV), i ≠ f → i ≠ p → ops[i]? = some o → xs[i]? = some x → x.1 = o.dst ∧ YA P T ops σ o (zdg (fun j => decide (j < i)) 0 xs env) x.2)
    (hnext : ∀ (fuel : Nat) (l : Array Bool) (a : Act) (w : World) (m : Ids), cnt l ops.size ≤ fuel → Closed ops l → (∀ i, i < ops.size → listedB l i = decide (i < t)) → FS2 H w0 O0 m0 σ d te.zero xv.cells true true (zdg (fun _ => true) 0 xs env) a w m →
      wpAnyIn (FR r) n P .any ops (lift H w0 O0 m0 Q) fuel l a w) :
    ∀ (fuel : Nat) (l : Array Bool) (a : Act) (w : World) (m : Ids), cnt l ops.size ≤ fuel → Closed ops l → (∀ i, i < ops.size → t ≤ i → listedB l i = false) → FS2 H w0 O0 m0 σ d te.zero xv.cells (listedB l f) (listedB l p) (zdg (fun j => listedB l j) 0 xs env) a w m →
      wpAnyIn (FR r) n P .any ops (lift H w0 O0 m0 Q) fuel l a w := by
  have hft : f < t := by rw [← hst]; exact (List.getElem?_eq_some_iff.1 hxf).1
  have hxd : ∀ (i : Nat) (o : Oper) (x : Option Tmp × AV), ops[i]? = some o → xs[i]? = some x → x.1 = o.dst := fun i o x ho hx => by
    by_cases hif : i = f
    · subst hif
      rw [hof] at ho
      cases ho
      rw [hxf] at hx
      cases hx
      exact hod.symm
    · by_cases hip : i = p
      · subst hip
        rw [hpo] at ho
        cases ho
        rw [hxp] at hx
        cases hx
        exact hpd.symm
      · exact (hxs i o x hif hip ho hx).1
  intro fuel
  induction fuel with
  | zero =>
    intro l a w m hc hcl hhi hF
    have hall := cnt_zero (l := l) ops.size (by omega)
    have htz : t = ops.size := by
      rcases Nat.lt_or_ge t ops.size with h | h
      · have := hhi t h (Nat.le_refl _)
        rw [hall t h] at this
        cases this
      · omega
    refine hnext 0 l a w m hc hcl (fun i hi => by rw [hall i hi]; simp; omega) ?_
    rw [hall f (by omega), hall p (by omega)] at hF
    rw [foldP_congr (p' := fun j => listedB l j) _ _ _ (fun j hj => by rw [Nat.zero_add]; exact (hall j (by omega)).symm)]
    exact hF
  | succ fuel ih =>
    intro l a w m hc hcl hhi hF
    by_cases hall : ∀ i, i < t → listedB l i = true
    · refine hnext _ l a w m hc hcl (fun i hi => ?_) ?_
      · by_cases hit : i < t
        · rw [hall i hit]; simp [hit]
        · rw [hhi i hi (by omega)]; simp [hit]
      · rw [hall f hft, hall p hpt] at hF
        rw [foldP_congr (p' := fun j => listedB l j) _ _ _ (fun j hj => by rw [Nat.zero_add]; exact (hall j (by omega)).symm)]
        exact hF
    refine ⟨fun hr => ?_, fun i hi => ?_⟩
    · refine absurd (fun i => ?_) hall
      induction i using Nat.strongRecOn with
      | _ i ihi =>
        intro hi
        cases h1 : listedB l i with
        | true => rfl
        | false =>
          have ho : ops[i]? = some (ops[i]'(by omega)) := Array.getElem?_eq_getElem (by omega)
          have := ready_of ho hcl.size h1 (fun e he hb => ihi e.on (okDraw_edge hok ho e he hb) (by have := okDraw_edge hok ho e he hb; omega))
          rw [hr] at this
          cases this
    · obtain ⟨o, ho, hil, hun, hdeps⟩ := mem_ready' hi
      have hi' : i < ops.size := (Array.getElem?_eq_some_iff.1 ho).1
      have hdeps' : ∀ j, anc ops ops.size i j = true → listedB l j = true := fun j hj => anc_listed hcl _ i j (fun o' ho' => by rw [ho] at ho'; cases ho'; exact hdeps) hj
      have hit : i < t := by
        rcases Nat.lt_or_ge i t with h | h
        · exact h
        · have htz : t < ops.size := by omega
          have hsl := hsol htz
          rcases Nat.lt_or_ge t i with h2 | h2
          · have := hdeps' t (solid_down hsl hi' h2)
            rw [hhi t htz (Nat.le_refl _)] at this
            cases this
          · obtain rfl : i = t := by omega
            exact absurd (fun j hj => hdeps' j (solid_up hsl hj)) hall
      obtain ⟨x, hx⟩ : ∃ x, xs[i]? = some x := ⟨xs[i]'(by omega), by simp⟩
      have hxi := hxd i o x ho hx
      have hcl2 : ∀ (j : Nat) (y : Option Tmp × AV), j ≠ i → xs[j]? = some y → (∃ t, y.1 = some t ∧ t ∈ uses ops o) → listedB l j = decide (j < i) := by
        rintro j y hji hy ⟨t', hyt, htu⟩
        have hj' : j < ops.size := by have := (List.getElem?_eq_some_iff.1 hy).1; omega
        have hoj : ops[j]? = some ops[j] := Array.getElem?_eq_getElem hj'
        have hyd := hxd j _ y hoj hy
        rcases Nat.lt_or_gt_of_ne hji with hlt | hgt
        · have hc : clash ops i j = true := by
            unfold clash
            rw [ho, hoj]
            simp only [Bool.or_eq_true, List.any_eq_true]
            exact .inl ⟨t', by rw [← hyd, hyt]; simp, by simpa using htu⟩
          rw [hdeps' _ (okDraw_clash hok hi' hlt hc)]
          simp [hlt]
        · have hc : clash ops j i = true := by
            unfold clash
            rw [ho, hoj]
            simp only [Bool.or_eq_true, List.any_eq_true]
            exact .inr ⟨t', by rw [← hyd, hyt]; simp, by simpa using htu⟩
          have ha := okDraw_clash hok hj' hgt hc
          cases hlj : listedB l j with
          | false => simp; omega
          | true =>
            have := anc_listed hcl _ j i (fun o' ho' e' he' hb' => hcl.down j o' ho' hlj e' he' hb') ha
            rw [hun] at this
            cases this
      have hnx : zdg (fun j => listedB (l.setIfInBounds i true) j) 0 xs env = aput (zdg (fun j => listedB l j) 0 xs env) o.dst x.2 := by
        apply List.ext_getElem?
        intro t'
        by_cases hdt : o.dst = some t'
        · rw [foldP_last xs 0 env i (by rw [hx, ← hdt, ← hxi]) (by rw [Nat.zero_add, listed_set hil, if_pos rfl]) (fun j y hj hy hyt => by
            rw [Nat.zero_add, listed_set hil, if_neg (by omega), hcl2 j y (by omega) hy ⟨t', hyt, by unfold uses; simp [hdt]⟩]
            simp; omega)]
          rw [hdt]
          simp only [aput, List.getElem?_set, foldP_length]
          simp
        · rw [aput_get hdt]
          refine foldP_at xs 0 env env rfl rfl (fun j y hy hyt => ?_)
          rw [Nat.zero_add, listed_set hil]
          by_cases hij : i = j
          · subst hij
            rw [hx] at hy
            cases hy
            exact absurd (hxi ▸ hyt) hdt
          · rw [if_neg (by omega)]
      have hcl' : Closed ops (l.setIfInBounds i true) := by
        refine ⟨by simpa using hcl.size, fun k ok hok' hlk e he hb => ?_⟩
        rw [listed_set hil] at hlk ⊢
        by_cases hik : i = k
        · subst hik
          rw [ho] at hok'
          cases hok'
          rw [hdeps e he hb]
          simp
        · rw [if_neg hik] at hlk
          rw [hcl.down k ok hok' hlk e he hb]
          simp
      have hcnt : cnt (l.setIfInBounds i true) ops.size ≤ fuel := by
        have := cnt_lt (l := l) (l' := l.setIfInBounds i true) (fun j hj => by rw [listed_set hil, hj]; simp) hun (by rw [listed_set hil, if_pos rfl]) ops.size hi'
        omega
      have hhi' : ∀ i', i' < ops.size → t ≤ i' → listedB (l.setIfInBounds i true) i' = false := fun i' h h2 => by rw [listed_set hil, if_neg (by omega), hhi i' h h2]
      obtain ⟨H', hHH, h0, hs, he, hd, hfl⟩ := hF
      unfold wpOpIn
      rw [ho]
      simp only
      by_cases hif : i = f
      · -- the variable is made
        subst hif
        rw [hof] at ho
        cases ho
        rw [hun] at hfl
        simp only at hfl
        subst hfl
        have hfp : i ≠ p := fun h => by
          subst h
          rw [hpo] at hof
          cases hof
          rw [hop] at hpop
          cases hpop
        have hpl : listedB l p = false := by
          cases hlp : listedB l p with
          | false => rfl
          | true =>
            have := anc_listed hcl _ p i (fun o' ho' e' he' hb' => hcl.down p o' ho' hlp e' he' hb') hpf
            rw [hun] at this
            cases this
        rw [if_pos (by simp [Region.wanted, hog])]
        refine ⟨fun _ _ => trivial, ?_⟩
        rw [Oper.semAt_eq _ _ _ (by rw [hop]; intro c hc; cases hc)]
        obtain ⟨zv, hz, hzc⟩ := (hT e te hte).run_zero w
        have hrun : (execOp a.eval of).run P w = .ok (.value (.pointer (some ⟨w.heap.size, 0, none⟩))) { w with heap := w.heap.push (.cells zv.cells e) } := by
          unfold execOp
          rw [hop]
          simp [Instr.alloc, hz, newVar, Go.newRow, run_newObj]
        rw [hrun]
        obtain ⟨k1, k2⟩ := hs.hide (w' := { w with heap := w.heap.push (.cells zv.cells e) }) (o := .cells zv.cells e) rfl rfl rfl rfl
        refine ih _ _ _ m hcnt hcl' hhi' ⟨Hg H' w.heap.size, fun b hb => .inl hb, h0.trans k2, k1, ?_, ?_, ?_⟩
        · rw [hnx]
          have := hx.symm.trans hxf
          cases this
          exact aput_sound (reps_mono k2 _ _ he) _ (by simp only [rep])
        · rw [put_defers]; exact hd.mono k2
        · rw [listed_set hil, if_pos rfl, listed_set hil, if_neg hfp, hpl]
          refine ⟨w.heap.size, zv.cells, e, fun hb => ?_, rfl, by simp, hzc, ?_⟩
          · have := (hs.hid _ hb).1
            omega
          · rw [hod]
            simp [Act.put]
      · by_cases hip : i = p
        · -- the store into the variable
          subst hip
          rw [hpo] at ho
          cases ho
          have hlf : listedB l f = true := hdeps' f hpf
          rw [hlf, hun] at hfl
          obtain ⟨g, c, e', g1, g2, g3, g4, g5⟩ := hfl
          simp only at g4
          subst g2
          have hel := reps_length he
          have hel2 : (zdg (fun j => listedB l j) 0 xs env).length = env.length := foldP_length _ _ _ _
          have hds : d < a.tmps.size := Nat.lt_of_lt_of_eq hdl (by rw [← Array.length_toList, hel, hel2])
          have hev : a.eval (.tmp d) = .pointer (some ⟨g, 0, none⟩) := by
            simp only [Act.eval, Array.getD_eq_getD_getElem?]
            rw [← g5, Array.getElem?_setIfInBounds_self_of_lt hds]
            rfl
          have hxb : (zdg (fun j => listedB l j) 0 xs env)[bs]? = some xv := by
            rw [← hxv]
            refine foldP_at xs 0 env env rfl rfl (fun j y hy hyt => ?_)
            rw [Nat.zero_add]
            have hj' : j < ops.size := by have := (List.getElem?_eq_some_iff.1 hy).1; omega
            have hoj : ops[j]? = some ops[j] := Array.getElem?_eq_getElem hj'
            have hyd := hxd j _ y hoj hy
            obtain ⟨b1, b2⟩ := hbs j _ hoj (by rw [← hyd, hyt])
            rw [hdeps' j b1]
            simp [b2]
          obtain ⟨v, hv, hrv⟩ := reps_get he bs xv hxb
          have hevb : a.eval (.tmp bs) = v := by
            rw [Array.getElem?_toList] at hv
            simp only [Act.eval, Array.getD_eq_getD_getElem?, hv]
            rfl
          have hrc := reps_cells hrv hone
          have hsz : v.cells.size = te.size := by
            have := reps_length hrc
            rw [hlen] at this
            simpa using this
          have hcs : c.size = te.size := by
            have := congrArg List.length g4
            rw [hz] at this
            simpa using this
          obtain ⟨w', c', s1, s2, s3, s4, s5⟩ := St.late (P := P) hs g1 g3 hrc hone (by simp; omega)
          have hrun : (execOp a.eval opp).run P w = .ok .skip w' := by
            unfold execOp
            rw [hpop]
            simp only [hev, hevb, Instr.storeAt, Instr.sureAddr, storeVar, Sem.run_bind, Sem.run_pure, Result.andThen_ok, (hT e te hte).run_sizeOf, hsz, ne_eq, not_true_eq_false, if_false, s1]
          rw [if_pos (by simp [Region.wanted, hpg])]
          refine ⟨fun _ _ => trivial, ?_⟩
          rw [Oper.semAt_eq _ _ _ (by rw [hpop]; intro c hc; cases hc), hrun]
          have hput : a.put opp.dst undef = a := by rw [hpd]; rfl
          show wpAnyIn (FR r) n P .any ops (lift H w0 O0 m0 Q) fuel (l.setIfInBounds i true) (a.put opp.dst undef) w'
          rw [hput]
          refine ih _ _ _ m hcnt hcl' hhi' ⟨_, hHH, h0.trans s5, s4, ?_, hd.mono s5, ?_⟩
          · rw [hnx, hpd]
            exact reps_mono s5 _ _ he
          · rw [listed_set hil, if_neg hif, hlf, listed_set hil, if_pos rfl]
            refine ⟨g, c', e', g1, rfl, s2, ?_, g5⟩
            simp only
            rw [s3]
            exact reps_mono s5 _ _ hrc
        · have hya := (hxs i o x hif hip ho hx).2
          have hya' : YA P T ops σ o (zdg (fun j => listedB l j) 0 xs env) x.2 := by
            refine YA_ev (fun t' ht => ?_) hya
            refine foldP_at xs 0 env env rfl rfl (fun j y hy hyt => ?_)
            rw [Nat.zero_add]
            by_cases hji : j = i
            · subst hji; simp [hun]
            · rw [hcl2 j y hji hy ⟨t', hyt, by unfold uses; simp only [List.mem_append] at ht ⊢; exact .inl ht⟩]
          have hlf : listedB (l.setIfInBounds i true) f = listedB l f := by rw [listed_set hil, if_neg hif]
          have hlp : listedB (l.setIfInBounds i true) p = listedB l p := by rw [listed_set hil, if_neg hip]
          have hod' : o.dst ≠ some d := hdst i o ho hif
          have keep : ∀ (v : Value) (w' : World) (m' : Ids), (∀ vs, reps w (own H' m σ) m xv.cells vs → reps w' (own H' m' σ) m' xv.cells vs) → (∀ b, H' b → w'.heap[b]? = w.heap[b]?) → (match listedB l f with
              | false => H' = H
              | true => ∃ g c e, ¬ H g ∧ H' = Hg H g ∧ w'.heap[g]? = some (.cells c e (0, 0)) ∧ (match listedB l p with | false => c.toList = te.zero | true => reps w' (own H' m' σ) m' xv.cells c.toList) ∧ (a.put o.dst v).tmps.setIfInBounds d (.pointer (some ⟨g, 0, none⟩)) = (a.put o.dst v).tmps) := by
            intro v w' m' hm' hw
            revert hfl
            cases listedB l f with
            | false => exact fun h => h
            | true =>
              rintro ⟨g, c, e', g1, g2, g3, g4, g5⟩
              refine ⟨g, c, e', g1, g2, (hw g (by rw [g2]; exact .inr rfl)).trans g3, ?_, ?_⟩
              · revert g4
                cases listedB l p with
                | false => exact fun h => h
                | true => exact fun h => hm' _ h
              cases hd' : o.dst with
              | none => simpa [Act.put] using g5
              | some d' =>
                simp only [Act.put]
                exact tmps_comm (fun h => hod' (by rw [hd', h])) g5
          rcases wguard_sound (a := a) hya' he with ⟨hw, h⟩ | ⟨hw, h⟩
          · rw [if_pos hw]
            have hop := Qop_sound hT (hG.mono h0) hs (o := o) (ρ := a.eval) h (aeval_sound (hG.mono h0) he)
            refine oper_wpq (hG.mono h0) hs (Qop_nodefer h) hop (fun v r w' m' σ' g1 g2 g3 ⟨g5, g6⟩ => ?_)
            subst g5 g6
            refine ih _ _ _ m' hcnt hcl' hhi' ⟨H', hHH, h0.trans (g1.less hHH), g2, ?_, ?_, ?_⟩
            · rw [hnx]
              exact aput_sound (reps_mono g1 _ _ he) _ g3
            · rw [put_defers]; exact hd.mono g1
            · rw [hlf, hlp]
              exact keep v w' m' (fun vs h => reps_mono g1 _ _ h) g1.hid
          · rw [if_neg (by simp [hw])]
            refine ⟨fun _ _ => trivial, ?_⟩
            refine ih _ _ _ m hcnt hcl' hhi' ⟨H', hHH, h0, hs, ?_, ?_, ?_⟩
            · rw [hnx, h]
              exact aput_sound he _ (by simp only [rep])
            · rw [put_defers]; exact hd
            · rw [hlf, hlp]
              exact keep undef w m (fun vs h => h) fun _ _ => rfl

end Go.Eng
end

section
namespace Go.Eng
open Go
variable {H : Nat → Prop} [Globs]

theorem foldP_off : ∀ (l : List (Option Tmp × AV)) (k : Nat) (e : Env), zdg (fun _ => false) k l e = e
  | [], _, _ => rfl
  | y :: l, k, e => by simp only [zdg, Bool.false_eq_true, if_false]; exact foldP_off l _ _
theorem foldP_cut (L R : List (Option Tmp × AV)) (i : Nat) (e : Env) : zdg (fun j => decide (j < L.length + i)) 0 (L ++ R) e = zdg (fun j => decide (j < i)) 0 R (zdg (fun _ => true) 0 L e) := by
  rw [foldP_app, Nat.zero_add, foldP_congr (p' := fun _ => true) L _ _ (fun j hj => by simp; omega)]
  rw [← Nat.zero_add L.length, foldP_shift, foldP_congr (p' := fun j => decide (j < i)) R _ _ (fun j hj => by simp; omega)]
theorem foldP_pre (L R : List (Option Tmp × AV)) (i : Nat) (hi : i ≤ L.length) (e : Env) : zdg (fun j => decide (j < i)) 0 (L ++ R) e = zdg (fun j => decide (j < i)) 0 L e := by
  rw [foldP_app, foldP_congr (p' := fun _ => false) R _ _ (fun j hj => by simp; omega), foldP_off]
theorem foldP_all (L R : List (Option Tmp × AV)) (e : Env) : zdg (fun _ => true) 0 (L ++ R) e = zdg (fun _ => true) 0 R (zdg (fun _ => true) 0 L e) := by
  rw [foldP_app, ← Nat.zero_add L.length, foldP_shift]

def wS4 (σ : Store) (Q : Post) (d : Tmp) (x : AV) : Env → Prop := fun e => Q .normal (e.set d (.ptr σ.length 0)) (σ ++ [.rw x.cells])
def wS3 (P : Program) (T : Tab) (ops : Array Oper) (σ : Store) (Q : Post) (rest : List Oper) (d : Tmp) (te : TI) (x : AV) (e2 : Env) : Prop :=
  x.cells.length = te.size ∧ te.zero.length = te.size ∧ x.cells.all AV.one = true ∧ wq P T ops σ rest e2 (wS4 σ Q d x)
def wS2 (P : Program) (T : Tab) (ops : Array Oper) (σ : Store) (Q : Post) (rest : List Oper) (d bs : Tmp) (te : TI) : Env → Prop :=
  fun e2 => wS3 P T ops σ Q rest d te ((e2[bs]?).getD .bot) e2
def wS1 (P : Program) (T : Tab) (ops : Array Oper) (σ : Store) (Q : Post) (mid rest : List Oper) (d bs : Tmp) (te : Option TI) : Env → Prop :=
  fun e1 => match te with
    | some te => wq P T ops σ mid (e1.set d .bot) (wS2 P T ops σ Q rest d bs te)
    | none => False
def okS (ops : Array Oper) (f p : Nat) (d : Tmp) (e : TypeId) (bs : Tmp) : Bool :=
  decide (f < p) && decide (p < ops.size) && anc ops ops.size p f &&
  (match ops[f]? with
   | some o => (match o.op with | .alloc e' => decide (e' = e) | _ => false) && decide (o.dst = some d) && o.guard.isNone
   | none => false) &&
  (match ops[p]? with
   | some o => (match o.op with | .store e' (.tmp d') (.tmp b') => decide (e' = e) && decide (d' = d) && decide (b' = bs) | _ => false) && o.dst.isNone && o.guard.isNone
   | none => false) &&
  ((List.range ops.size).all fun j => decide (j = f) || (match ops[j]? with | some o => !decide (o.dst = some d) | none => true)) &&
  ((List.range ops.size).all fun j => match ops[j]? with | some o => !decide (o.dst = some bs) || (decide (j < p) && anc ops ops.size p j) | none => true)

theorem drawS_sound {r : Option Nat} {n : Nat} {P : Program} {T : Tab} (hT : TabOK P T) {ops : Array Oper} {w0 : World} {O0 : Nat → Prop} {m0 : Ids} (hG : Glob w0 O0) {Q : Post} {σ : Store} {env : Env} {a : Act} {w : World} {m : Ids} {id f p : Nat} {d bs : Tmp} {e : TypeId} (hm : P.follows .mixedOrders = true) (hok : okDraw ops = true) (hS : okS ops f p d e bs = true) (hdl : d < env.length)
    (h : wq P T ops σ (ops.toList.take f) env (wS1 P T ops σ Q ((ops.toList.take p).drop (f + 1)) (ops.toList.drop (p + 1)) d bs (T e))) (h0 : Ext H w0 O0 m0 w (own H m σ) m) (hs : St H w m σ) (he : reps w (own H m σ) m env a.tmps.toList) (hd : Mk w0.heap.size w (own H m σ) a.defers) : (Code.region id ops true).wpIn (FR r) n P (lift H w0 O0 m0 Q) a w := by
  refine wpIn_region_any hm ?_
  obtain ⟨k1, k2⟩ := hs.old (w' := { heap := w.heap, tape := w.tape, drawn := w.drawn + 1, os := w.os, output := w.output }) (Nat.le_refl _) (fun _ _ => rfl) rfl rfl rfl
  simp only [okS, Bool.and_eq_true, decide_eq_true_eq] at hS
  obtain ⟨⟨⟨⟨⟨⟨hfp, hpn⟩, hanc⟩, hof⟩, hpo⟩, hdst⟩, hbs⟩ := hS
  cases hofo : ops[f]? with
  | none => rw [hofo] at hof; cases hof
  | some of =>
  rw [hofo] at hof
  simp only [Bool.and_eq_true, decide_eq_true_eq] at hof
  obtain ⟨⟨hop, hod⟩, hog⟩ := hof
  have hop : of.op = .alloc e := by
    split at hop
    · rename_i e' he'
      rw [he']
      simp only [decide_eq_true_eq] at hop
      rw [hop]
    · cases hop
  have hog : of.guard = none := by simpa using hog
  cases hopo : ops[p]? with
  | none => rw [hopo] at hpo; cases hpo
  | some opp =>
  rw [hopo] at hpo
  simp only [Bool.and_eq_true] at hpo
  obtain ⟨⟨hpop, hpd⟩, hpg⟩ := hpo
  have hpop : opp.op = .store e (.tmp d) (.tmp bs) := by
    split at hpop
    · rename_i e' d' b' he'
      rw [he']
      simp only [Bool.and_eq_true, decide_eq_true_eq] at hpop
      obtain ⟨⟨rfl, rfl⟩, rfl⟩ := hpop
      rfl
    · cases hpop
  have hpd : opp.dst = none := by simpa using hpd
  have hpg : opp.guard = none := by simpa using hpg
  have hlo : ∀ i, listedB (Array.replicate ops.size false) i = false := fun i => by
    simp only [listedB, Array.getD_eq_getD_getElem?, Array.getElem?_replicate]
    split <;> rfl
  obtain ⟨xs1, a1, a2, h⟩ := wq_vals _ _ h
  unfold wS1 at h
  cases hte : T e with
  | none => rw [hte] at h; exact h.elim
  | some te =>
  rw [hte] at h
  simp only at h
  obtain ⟨xs2, b1, b2, h⟩ := wq_vals _ _ h
  unfold wS2 wS3 at h
  obtain ⟨hl, hz, hone, h⟩ := h
  obtain ⟨xs3, c1, c2, h⟩ := wq_vals _ _ h
  have hl1 : xs1.length = f := by rw [a1, List.length_take]; simp; omega
  have hl2 : xs2.length = p - (f + 1) := by rw [b1, List.length_drop, List.length_take]; simp; omega
  have hl3 : xs3.length = ops.size - (p + 1) := by rw [c1, List.length_drop]; simp
  have hdst' : ∀ (j : Nat) (o : Oper), ops[j]? = some o → j ≠ f → o.dst ≠ some d := by
    intro j o ho hj hod
    rw [List.all_eq_true] at hdst
    have := hdst j (by simpa using (Array.getElem?_eq_some_iff.1 ho).1)
    simp [ho, hod, hj] at this
  have hbs' : ∀ (j : Nat) (o : Oper), ops[j]? = some o → o.dst = some bs → anc ops ops.size p j = true ∧ j < p := by
    intro j o ho hob
    rw [List.all_eq_true] at hbs
    have := hbs j (by simpa using (Array.getElem?_eq_some_iff.1 ho).1)
    simp [ho, hob] at this
    exact ⟨this.2, this.1⟩
  have eA : ∀ x : Env, zdg (fun _ => true) 0 (xs1 ++ [(some d, AV.bot)]) x = (zdg (fun _ => true) 0 xs1 x).set d .bot := fun x => by rw [foldP_all]; rfl
  have eB : ∀ x : Env, zdg (fun _ => true) 0 (xs2 ++ [(none, AV.lit undef)]) x = zdg (fun _ => true) 0 xs2 x := fun x => by rw [foldP_all]; rfl
  have lA : (xs1 ++ [(some d, AV.bot)]).length = f + 1 := by simp [hl1]
  have lB : (xs2 ++ [(none, AV.lit undef)]).length = p - f := by simp [hl2]; omega
  have hxlen : ((xs1 ++ [(some d, AV.bot)]) ++ ((xs2 ++ [(none, AV.lit undef)]) ++ xs3)).length = ops.size := by simp only [List.length_append, hl1, hl2, hl3, List.length_cons, List.length_nil]; omega
  have ep : zdg (fun j => decide (j < p)) 0 ((xs1 ++ [(some d, AV.bot)]) ++ ((xs2 ++ [(none, AV.lit undef)]) ++ xs3)) env = zdg (fun _ => true) 0 xs2 ((zdg (fun _ => true) 0 xs1 env).set d .bot) := by
    have := foldP_cut (xs1 ++ [(some d, AV.bot)]) ((xs2 ++ [(none, AV.lit undef)]) ++ xs3) (p - (f + 1)) env
    rw [lA, show f + 1 + (p - (f + 1)) = p by omega] at this
    rw [this, eA, List.append_assoc, foldP_pre _ _ _ (by omega), foldP_congr (p' := fun _ => true) xs2 _ _ (fun j hj => by simp; omega)]
  refine segS_any (H := H) (σ := σ) (env := env) hT hG (xs := (xs1 ++ [(some d, AV.bot)]) ++ ((xs2 ++ [(none, AV.lit undef)]) ++ xs3)) (t := ops.size) hok hxlen (Nat.le_refl _) (fun h => absurd h (Nat.lt_irrefl _)) hofo hop hod hog hte hdst' ?_ hopo hpop hpd hpg hpn hanc hbs' ?_ (xv := ((zdg (fun _ => true) 0 xs2 ((zdg (fun _ => true) 0 xs1 env).set d .bot))[bs]?).getD .bot) ?_ hl hz hone hdl ?_ ?_ ops.size _ a _ m ?_ ?_ ?_ ?_
  · rw [List.getElem?_append_left (by omega), List.getElem?_append_right (by omega), hl1]; simp
  · rw [List.getElem?_append_right (by omega), lA, List.getElem?_append_left (by omega), List.getElem?_append_right (by omega), hl2]; simp
  · rw [ep]
    cases hq : (zdg (fun _ => true) 0 xs2 ((zdg (fun _ => true) 0 xs1 env).set d .bot))[bs]? with
    | some x => rfl
    | none => rw [hq] at hone; simp [AV.cells, AV.one] at hone
  · intro i o x hif hip ho hx
    have hin := (Array.getElem?_eq_some_iff.1 ho).1
    rcases Nat.lt_or_ge i f with hi | hi
    · rw [List.append_assoc, List.getElem?_append_left (by omega)] at hx
      obtain ⟨q1, q2⟩ := a2 i o x (by rw [List.getElem?_take, if_pos hi, Array.getElem?_toList]; exact ho) hx
      refine ⟨q1, ?_⟩
      rw [List.append_assoc, foldP_pre _ _ _ (by omega)]
      exact q2
    rcases Nat.lt_or_ge i p with hi2 | hi2
    · obtain ⟨j, rfl⟩ : ∃ j, i = f + 1 + j := ⟨i - (f + 1), by omega⟩
      have hx' : xs2[j]? = some x := by
        rw [List.getElem?_append_right (by omega), lA, show f + 1 + j - (f + 1) = j by omega, List.append_assoc, List.getElem?_append_left (by omega)] at hx
        exact hx
      obtain ⟨q1, q2⟩ := b2 j o x (by rw [List.getElem?_drop, List.getElem?_take, if_pos (by omega), Array.getElem?_toList]; exact ho) hx'
      refine ⟨q1, ?_⟩
      have := foldP_cut (xs1 ++ [(some d, AV.bot)]) ((xs2 ++ [(none, AV.lit undef)]) ++ xs3) j env
      rw [lA] at this
      rw [this, eA, List.append_assoc, foldP_pre _ _ _ (by omega)]
      exact q2
    · obtain ⟨j, rfl⟩ : ∃ j, i = p + 1 + j := ⟨i - (p + 1), by omega⟩
      have hx' : xs3[j]? = some x := by
        rw [List.getElem?_append_right (by omega), lA, List.getElem?_append_right (by omega), lB, show p + 1 + j - (f + 1) - (p - f) = j by omega] at hx
        exact hx
      obtain ⟨q1, q2⟩ := c2 j o x (by rw [List.getElem?_drop, Array.getElem?_toList]; exact ho) hx'
      refine ⟨q1, ?_⟩
      have h1 := foldP_cut (xs1 ++ [(some d, AV.bot)]) ((xs2 ++ [(none, AV.lit undef)]) ++ xs3) (p - f + j) env
      have h2 := foldP_cut (xs2 ++ [(none, AV.lit undef)]) xs3 j ((zdg (fun _ => true) 0 xs1 env).set d .bot)
      rw [lA, show f + 1 + (p - f + j) = p + 1 + j by omega] at h1
      rw [lB] at h2
      rw [h1, eA, h2, eB]
      exact q2
  · intro fuel l a w m hc hcl hall ⟨H', hHH, h0, hs, he, hd, g, c, e', g1, g2, g3, g4, g5⟩
    subst g2
    simp only at g4
    obtain ⟨l1, l2⟩ := hs.landX g1 g3 g4
    have hids : (m ++ [some g])[σ.length]? = some (some g) := by rw [← hs.len]; simp
    have hfin := reps_set (reps_mono (l2 H) _ _ he) d (x := .ptr σ.length 0) (v := .pointer (some ⟨g, 0, none⟩)) (by simp only [rep]; exact ⟨g, rfl, hids⟩)
    have e1 : a.tmps.toList.set d (.pointer (some ⟨g, 0, none⟩)) = a.tmps.toList := by
      have := congrArg Array.toList g5
      rwa [Array.toList_setIfInBounds] at this
    rw [e1, foldP_all, eA, foldP_all, eB] at hfin
    have hp : lift H w0 O0 m0 Q .normal a w := ⟨.normal, _, _, _, l1, h0.trans (l2 H), hfin, hd.mono (l2 H), trivial, h⟩
    have hr : Region.ready .any ops l = [] := by
      cases hr : Region.ready .any ops l with
      | nil => rfl
      | cons i r =>
        obtain ⟨o, ho, _, h1, _⟩ := mem_ready' (i := i) (by rw [hr]; simp)
        have hi := (Array.getElem?_eq_some_iff.1 ho).1
        rw [hall i hi] at h1
        simp [hi] at h1
    cases fuel with
    | zero => exact ⟨hr, hp⟩
    | succ fuel => exact ⟨fun _ => hp, fun i hi => by rw [hr] at hi; cases hi⟩
  · have : ∀ n, cnt (Array.replicate ops.size false) n ≤ n := by
      intro n
      induction n with
      | zero => exact Nat.le_refl _
      | succ n ih => simp only [cnt]; split <;> omega
    exact this _
  · exact ⟨by simp, fun i o ho hl => by rw [hlo] at hl; cases hl⟩
  · exact fun i _ _ => hlo i
  · rw [hlo f, hlo p, foldP_congr (p' := fun _ => false) _ _ _ (fun j _ => hlo _), foldP_off]
    exact ⟨H, fun _ h => h, h0.trans k2, k1, reps_mono k2 _ _ he, hd.mono k2, rfl⟩
end Go.Eng
end

section
namespace Go.Eng
open Go
variable {H : Nat → Prop} [Globs]

def seqQ (next : Env → Store → Prop) (Q : Post) : Post := fun x env σ =>
  match x with
  | .normal => next env σ
  | x => Q x env σ

def blockQ (id : Nat) (Q : Post) : Post := fun x env σ =>
  match x with
  | .exit i => if i = id then Q .normal env σ else Q (.exit i) env σ
  | x => Q x env σ

/-- A loop: by frames that an index tells; each round goes to a smaller one. -/
def loopQ {ι : Type} (n0 : Nat) (I : ι → Prop) (E : ι → Env) (S : ι → Store) (μ : ι → Nat) (i : ι) (Q : Post) : Post := fun x env σ =>
  match x with
  | .normal => ∃ j, I j ∧ μ j < μ i ∧ fits n0 env σ (E j) (S j)
  | x => Q x env σ

def wloop (n0 : Nat) (body : Env → Store → Post → Prop) (env : Env) (σ : Store) (Q : Post) : Prop :=
  ∃ (ι : Type) (I : ι → Prop) (E : ι → Env) (S : ι → Store) (μ : ι → Nat) (i : ι), I i ∧ fits n0 env σ (E i) (S i) ∧ ∀ i, I i → body (E i) (S i) (loopQ n0 I E S μ i Q)

/-- Behind a region whose order is open. -/
def atN (Q : Post) (σ : Store) : Env → Prop := fun e => Q .normal e σ

/-- No loop over a function stands in it. -/
def noRF : Code → Bool
  | .rangeFunc .. => false
  | .seq a b => noRF a && noRF b
  | .cond _ a b => noRF a && noRF b
  | .block _ c => noRF c
  | .loop c => noRF c
  | .scope c => noRF c
  | _ => true

/-- Behind a loop over a function: by what its record tells. -/
def rangeK (env : Env) (i : Nat) (Q : Post) : AEnd → Store → Prop
  | .ret _, σ' => ∃ st pend e ps as bd, σ'[i]? = some (.lp st pend e ps as bd) ∧ st ≠ .busy ∧ (match pend with
    | none => Q .normal env (σ'.set i .dead)
    | some (.exit k) => Q (.exit k) env (σ'.set i .dead)
    | some .ret => Q .ret env (σ'.set i .dead)
    | _ => False)
  | .pan _, _ => False

/-- Whatever the order was: a frame and a store of this form. -/
def fitQ (n0 : Nat) (E : Env) (S : Store) : Post := fun x env σ => match x with
  | .normal => fits n0 env σ E S
  | _ => False

def W (P : Program) (T : Tab) (n0 : Nat) : Code → Env → Store → Post → Prop
  | .skip, env, σ, Q => Q .normal env σ
  | .region _ ops false, env, σ, Q => wops P T ops ops.toList env σ Q
  | .region _ ops true, env, σ, Q => (P.follows .mixedOrders = true ∧ okDraw ops = true ∧ ∃ ks, okSolid ops 0 ks = true ∧ wd P T ops ks ops.toList env σ Q) ∨
    (P.follows .mixedOrders = true ∧ ∃ E S, wtree P T ops (mkTree ops ops.size (allOff ops)) env σ (fitQ n0 E S) ∧ Q .normal E S) ∨
    (P.follows .mixedOrders = true ∧ okDraw ops = true ∧ ∃ f k ks d e, okF ops f k ks d e = true ∧ wq P T ops σ (ops.toList.take f) env (wdM P T ops σ Q ks ((ops.toList.take k).drop (f + 1)) (ops.toList.drop k) d (T e))) ∨
    (P.follows .mixedOrders = true ∧ okDraw ops = true ∧ ∃ f p d e bs, okS ops f p d e bs = true ∧ d < env.length ∧ wq P T ops σ (ops.toList.take f) env (wS1 P T ops σ Q ((ops.toList.take p).drop (f + 1)) (ops.toList.drop (p + 1)) d bs (T e)))
  | .seq a b, env, σ, Q => W P T n0 a env σ (seqQ (fun env σ => W P T n0 b env σ Q) Q)
  | .cond c a b, env, σ, Q => match aeval env c with
    | .lit (.bool p) => (p = true → W P T n0 a env σ Q) ∧ (p = false → W P T n0 b env σ Q)
    | _ => False
  | .block id c, env, σ, Q => W P T n0 c env σ (blockQ id Q)
  | .loop c, env, σ, Q => wloop n0 (W P T n0 c) env σ Q
  | .exit id, env, σ, Q => Q (.exit id) env σ
  | .ret, env, σ, Q => Q .ret env σ
  | .rangeFunc g ps assign body, env, σ, Q => match aeval env g with
    | .fn (.func gf) [] cap => callable P gf = true ∧ ACalls P gf (.yl σ.length :: cap) (σ ++ [.lp .ready none env ps assign body]) (rangeK env σ.length Q)
    | _ => False
  | _, _, _, _ => False

theorem putObj_size (w : World) (g : Nat) (o : Obj) : (w.putObj g o).heap.size = w.heap.size := by simp [World.putObj]

/-- The record of a loop turns. -/
theorem St.loop {w : World} {m : Ids} {σ : Store} (hs : St H w m σ) {i g : Nat} {st : LoopState} {pend : Option Code} {env : List AV} {ps : Array Tmp} {as bd : Code} (hi : σ[i]? = some (.lp st pend env ps as bd)) (hm : m[i]? = some (some g)) {L : Loop} (hL : w.heap[g]? = some (.loop L)) (st' : LoopState) (pend' : Option Code) :
    St H (w.putObj g (.loop { L with state := st', pending := pend' })) m (σ.set i (.lp st' pend' env ps as bd)) ∧ Ext H w (own H m σ) m (w.putObj g (.loop { L with state := st', pending := pend' })) (own H m (σ.set i (.lp st' pend' env ps as bd))) m := by
  obtain ⟨g', e, L', k1, k2, k3, k4, k5, k6, k7⟩ := hs.blk i _ _ hi hm
  cases e
  rw [hL] at k1
  cases k1
  refine hs.turn hi rfl rfl hm (putObj_size _ _ _) (fun b hb => World.putObj_heap_other hb) rfl rfl rfl ?_ ?_
  · rintro c ⟨e, f, h1⟩
    rw [hL] at h1
    cases h1
  · intro hext
    exact ⟨g, rfl, _, World.putObj_heap_same (Array.getElem?_eq_some_iff.1 hL).1, rfl, rfl, k4, k5, k6, reps_mono hext _ _ k7⟩

theorem W_sound {r : Option Nat} {n : Nat} {P : Program} {T : Tab} (hT : TabOK P T) {n0 : Nat} : ∀ (c : Code) (env : Env) (σ : Store) (Q : Post) (w0 : World) (O0 : Nat → Prop) (m0 : Ids) (a : Act) (w : World) (m : Ids), W P T n0 c env σ Q →
    (r = none ∨ noRF c = true) → Glob w0 O0 → m0.length = n0 → Ext H w0 O0 m0 w (own H m σ) m → St H w m σ → reps w (own H m σ) m env a.tmps.toList → Mk w0.heap.size w (own H m σ) a.defers → c.wpIn (FR r) n P (lift H w0 O0 m0 Q) a w := by
  intro c
  induction c with
  | skip =>
    intro env σ Q w0 O0 m0 a w m h hr hG hn h0 hs he hd
    exact wpIn_skip ⟨.normal, env, σ, m, hs, h0, he, hd, trivial, h⟩
  | region id ops draw =>
    intro env σ Q w0 O0 m0 a w m h hr hG hn h0 hs he hd
    cases draw with
    | true =>
      rcases h with ⟨h1, h2, ks, h3, h4⟩ | ⟨h1, E, S, h2, h3⟩ | ⟨h1, h2, f, k, ks, d, e, h3, h4⟩ | ⟨h1, h2, f, p, d, e, bs, h3, h5, h4⟩
      · exact drawE_sound hT hG h1 h2 h3 h4 h0 hs he hd
      · refine wpIn_mono (drawT_sound hT hG h1 h2 h0 hs he hd) ?_
        rintro e a' w' ⟨x', env', σ', m', g1, g2, g3, g4, g5, g6⟩
        cases x' <;> simp only [fitQ] at g6
        cases e <;> simp only [xRep] at g5
        obtain ⟨m2, s2, e2, x2, o2⟩ := fits_sound g6 g1 g3 g2 hn
        exact ⟨.normal, E, S, m2, s2, x2, e2, o2 _ _ g4, trivial, h3⟩
      · exact drawF_sound hT hG h1 h2 h3 h4 h0 hs he hd
      · exact drawS_sound hT hG h1 h2 h3 h5 h4 h0 hs he hd
    | false => exact wpIn_region_list (wops_sound hT hG _ _ _ _ _ _ h h0 hs he hd)
  | seq x y ihx ihy =>
    intro env σ Q w0 O0 m0 a w m h hr hG hn h0 hs he hd
    refine wpIn_seq (wpIn_mono (ihx env σ _ w0 O0 m0 a w m h (hr.imp id fun h => by simp only [noRF, Bool.and_eq_true] at h; exact h.1) hG hn h0 hs he hd) ?_)
    rintro e a' w' ⟨x', env', σ', m', g1, g2, g3, g4, g5, g6⟩
    cases x' with
    | normal =>
      cases e <;> simp only [xRep] at g5
      exact ihy env' σ' Q w0 O0 m0 a' w' m' g6 (hr.imp id fun h => by simp only [noRF, Bool.and_eq_true] at h; exact h.2) hG hn g2 g1 g3 g4
    | exit i =>
      cases e <;> simp only [xRep] at g5
      exact ⟨.exit i, env', σ', m', g1, g2, g3, g4, g5, g6⟩
    | ret =>
      cases e <;> simp only [xRep] at g5
      exact ⟨.ret, env', σ', m', g1, g2, g3, g4, trivial, g6⟩
    | pan r =>
      cases e <;> simp only [xRep] at g5
      exact ⟨.pan r, env', σ', m', g1, g2, g3, g4, g5, g6⟩
  | cond c x y ihx ihy =>
    intro env σ Q w0 O0 m0 a w m h hr hG hn h0 hs he hd
    simp only [W] at h
    split at h
    · rename_i p hp
      have hc := aeval_sound (hG.mono h0) he c
      rw [hp] at hc
      simp only [rep] at hc
      exact wpIn_cond_split hc (fun ht => ihx env σ Q w0 O0 m0 a w m (h.1 ht) (hr.imp id fun h => by simp only [noRF, Bool.and_eq_true] at h; exact h.1) hG hn h0 hs he hd) (fun hf => ihy env σ Q w0 O0 m0 a w m (h.2 hf) (hr.imp id fun h => by simp only [noRF, Bool.and_eq_true] at h; exact h.2) hG hn h0 hs he hd)
    · exact h.elim
  | block id c ih =>
    intro env σ Q w0 O0 m0 a w m h hr hG hn h0 hs he hd
    refine wpIn_block (wpIn_mono (ih env σ _ w0 O0 m0 a w m h (hr.imp (fun h => h) fun h => by simp only [noRF] at h; exact h) hG hn h0 hs he hd) ?_)
    rintro e a' w' ⟨x', env', σ', m', g1, g2, g3, g4, g5, g6⟩
    cases x' with
    | normal =>
      cases e <;> simp only [xRep] at g5
      exact ⟨.normal, env', σ', m', g1, g2, g3, g4, trivial, g6⟩
    | exit i =>
      cases e <;> simp only [xRep] at g5
      subst g5
      simp only [blockQ] at g6
      simp only [Exit.inBlock]
      split
      · rename_i hi
        rw [if_pos hi] at g6
        exact ⟨.normal, env', σ', m', g1, g2, g3, g4, trivial, g6⟩
      · rename_i hi
        rw [if_neg hi] at g6
        exact ⟨.exit i, env', σ', m', g1, g2, g3, g4, rfl, g6⟩
    | ret =>
      cases e <;> simp only [xRep] at g5
      exact ⟨.ret, env', σ', m', g1, g2, g3, g4, trivial, g6⟩
    | pan r =>
      cases e <;> simp only [xRep] at g5
      exact ⟨.pan r, env', σ', m', g1, g2, g3, g4, g5, g6⟩
  | loop c ih =>
    intro env σ Q w0 O0 m0 a w m h hr hG hn h0 hs he hd
    obtain ⟨ι, I, E, S, μ, i, hi, hfit, hround⟩ := h
    obtain ⟨m1, s1, e1, x1, o1⟩ := fits_sound hfit hs he h0 hn
    replace hd := o1 _ _ hd
    clear hfit hs he h0 o1
    have hrr := hr
    clear hr
    intro b k cs hro hb hr
    have key : ∀ n i a w m, μ i = n → I i → St H w m (S i) → reps w (own H m (S i)) m (E i) a.tmps.toList → Mk w0.heap.size w (own H m (S i)) a.defers → Ext H w0 O0 m0 w (own H m (S i)) m →
        ∃ e a' w', lift H w0 O0 m0 Q e a' w' ∧ ArrivesIn (Machine.fenced P (FR r)) P (lone (b.atR a (.code c :: .inLoop c :: k)) cs w) b k cs e a' w' := by
      intro n
      induction n using Nat.strongRecOn with
      | _ n ihn =>
        intro i a w m hμ hi hs he hd h0
        obtain ⟨e, a1, w1, hq, harr⟩ := ih (E i) (S i) _ w0 O0 m0 a w m (hround i hi) (hrr.imp id fun h => by simp only [noRF] at h; exact h) hG hn h0 hs he hd b (.inLoop c :: k) cs hro hb hr
        obtain ⟨x', env', σ', m', g1, g2, g3, g4, g5, g6⟩ := hq
        cases x' with
        | normal =>
          cases e <;> simp only [xRep] at g5
          obtain ⟨j, hj, hlt, hf⟩ := g6
          obtain ⟨m2, s2, e2, x2, o2⟩ := fits_sound hf g1 g3 g2 hn
          obtain ⟨e', a2, w2, hq2, harr2⟩ := ihn (μ j) (hμ ▸ hlt) j a1 w1 m2 rfl hj s2 e2 (o2 _ _ g4) x2
          exact ⟨e', a2, w2, hq2, .of_steps (StepsIn.trans harr (.one (fenced_calm hb hr rfl) stepR_inLoop)) harr2⟩
        | exit id =>
          cases e <;> simp only [xRep] at g5
          exact ⟨.exit _, a1, w1, ⟨.exit id, env', σ', m', g1, g2, g3, g4, g5, g6⟩, .pass (x := .inLoop c) rfl (fun _ _ => .inl (by simp)) harr⟩
        | ret =>
          cases e <;> simp only [xRep] at g5
          exact ⟨.ret, a1, w1, ⟨.ret, env', σ', m', g1, g2, g3, g4, trivial, g6⟩, .pass (x := .inLoop c) rfl (fun _ _ => .inl (by simp)) harr⟩
        | pan r =>
          cases e <;> simp only [xRep] at g5
          exact ⟨.panic _, a1, w1, ⟨.pan r, env', σ', m', g1, g2, g3, g4, g5, g6⟩, .pass (x := .inLoop c) rfl (fun _ _ => .inl (by simp)) harr⟩
    obtain ⟨e, a', w', hq, harr⟩ := key _ i a w m1 rfl hi s1 e1 hd x1
    exact ⟨e, a', w', hq, .of_steps (.one (fenced_calm hb hr rfl) stepR_loop) harr⟩
  | exit id =>
    intro env σ Q w0 O0 m0 a w m h hr hG hn h0 hs he hd
    exact wpIn_exit ⟨.exit id, env, σ, m, hs, h0, he, hd, rfl, h⟩
  | ret =>
    intro env σ Q w0 O0 m0 a w m h hr hG hn h0 hs he hd
    exact wpIn_ret ⟨.ret, env, σ, m, hs, h0, he, hd, trivial, h⟩
  | rangeFunc f ps x y _ _ =>
    intro env σ Q w0 O0 m0 a w m h hr hG hn h0 hs he hd
    have hrn : r = none := hr.resolve_right (by simp [noRF])
    subst hrn
    simp only [W] at h
    split at h
    case h_2 => exact h.elim
    rename_i gf cap hf
    have hfr := aeval_sound (hG.mono h0) he f
    rw [hf] at hfr
    simp only [rep, reps] at hfr
    obtain ⟨xx, lb, e1, hxx, r2⟩ := hfr
    have hxe : xx = #[] := by cases xx; simp at hxx; simp [hxx]
    subst hxe
    refine wpIn_rangeFunc fun fn _ => ?_
    obtain ⟨wa, hwa⟩ : ∃ wa, w.alloc (.deferred (some [])) = wa := ⟨_, rfl⟩
    obtain ⟨sa, xa⟩ := hs.old (w' := wa) (by rw [← hwa]; simp) (fun b hb => by rw [← hwa]; exact RowKit.Below.heap_alloc _ _ _ hb) (by rw [← hwa]; rfl) (by rw [← hwa]; rfl) (by rw [← hwa]; rfl)
    have hsz : wa.heap.size = w.heap.size + 1 := by rw [← hwa]; simp
    obtain ⟨L, hL⟩ : ∃ L : Loop, L = { state := .ready, pending := none, fn := fn, tmps := a.tmps, params := ps, assign := x, body := y, defers := w.heap.size } := ⟨_, rfl⟩
    obtain ⟨w1, hw1⟩ : ∃ w1, wa.alloc (.loop L) = w1 := ⟨_, rfl⟩
    have hnew : w1.heap[w.heap.size + 1]? = some (.loop L) := by rw [← hw1, ← hsz]; exact World.alloc_heap_new wa _
    obtain ⟨s1, x1⟩ := sa.more (w' := w1) (g := some (w.heap.size + 1)) (x := .lp .ready none env ps x y) (by rw [← hw1]; simp) (fun b hb => by rw [← hw1]; exact RowKit.Below.heap_alloc _ _ _ hb) (by rw [← hw1]; rfl) (by rw [← hw1]; rfl) (by rw [← hw1]; rfl) (fun b hb => by cases hb; omega)
      (fun hext => ⟨_, rfl, L, hnew, by rw [hL], by rw [hL], by rw [hL], by rw [hL], by rw [hL], by rw [hL]; exact reps_mono hext _ _ (reps_mono xa _ _ he)⟩)
    have hD : wa.heap[w.heap.size]? = some (.deferred (some [])) := by rw [← hwa]; exact World.alloc_heap_new w _
    have hDo : ¬ own H m σ w.heap.size := fun ho => by have := hs.ownlt ho; omega
    have hmk : Mk w0.heap.size wa (own H m σ) ({ target := .collected w.heap.size, args := #[] } :: a.defers) := by
      obtain ⟨l, e, hnd, hl⟩ := hd
      refine ⟨w.heap.size :: l, by rw [e]; rfl, List.nodup_cons.2 ⟨fun hm => ?_, hnd⟩, fun D hD' => ?_⟩
      · have := (Array.getElem?_eq_some_iff.1 (hl _ hm).2.2).1
        omega
      · rcases List.mem_cons.1 hD' with rfl | hD'
        · exact ⟨h0.heap, hDo, hD⟩
        · obtain ⟨g1, g2, g3⟩ := hl D hD'
          exact ⟨g1, g2, by rw [xa.same D (Array.getElem?_eq_some_iff.1 g3).1 g2]; exact g3⟩
    have e0 := h0.trans (xa.trans x1)
    refine ⟨w.heap.size + 1, [{ target := .collected w.heap.size, args := #[] }], w1, { target := .fn (.func gf) lb, args := #[.func (.yield (w.heap.size + 1)) #[] #[]] }, w1, gf,
      #[.func (.yield (w.heap.size + 1)) #[] #[]] ++ lb, w1, ?_, ?_, fun _ _ => trivial, ?_, fun h => absurd h (by simp [FR, Fence.wide]), ?_⟩
    · show (Instr.enterLoop fn a.tmps ps x y none).run P w = _
      rw [run_enterLoop_outer, ← hw1, ← hwa, hL]
    · simp only [resolve, e1]
      simp [go_sem]
    · simp only [invoke]
      rw [run_callFunc h.1]
    · have hl : (m ++ [some (w.heap.size + 1)])[σ.length]? = some (some (w.heap.size + 1)) := newId sa _
      refine callsIn_FR ((CallsR.calls (h.2 H w1 _ _ (hG.mono e0) s1 ?_) h.1).mono ?_)
      · simp only [reps, Array.toList_append]
        exact ⟨_, lb.toList, rfl, by simp only [rep]; exact ⟨_, rfl, hl⟩, reps_mono x1 _ _ (reps_mono xa _ _ r2)⟩
      · rintro e w3 ⟨z, m3, σ3, g1, g2, g3, g4⟩
        cases z with
        | pan r => exact g4.elim
        | ret r =>
          cases e <;> simp only [zdc] at g3
          obtain ⟨st, pend, e', ps', as', bd', k1, k2, k3⟩ := g4
          have hm3 := g2.ids _ _ hl
          obtain ⟨g', eg, L3, q1, q2, q3, q4⟩ := g1.blk _ _ _ k1 hm3
          cases eg
          obtain ⟨t1, t2⟩ := g1.loop k1 hm3 q1 .exhausted pend
          obtain ⟨u1, u2⟩ := t1.letgo (i := σ.length) (x := .dead) (.inl rfl)
          have hss : (σ3.set σ.length (.lp .exhausted pend e' ps' as' bd')).set σ.length .dead = σ3.set σ.length .dead := by simp
          rw [hss] at u1 u2
          have tot := x1.trans (g2.trans (t2.trans u2))
          have hend := run_endLoop (P := P) q1 (by rw [q2]; exact k2)
          refine ⟨pend, _, by rw [hend, q3], ?_⟩
          have base : ∀ (ex : AX) (e : Exit), xRep (w3.putObj (w.heap.size + 1) (.loop { L3 with state := .exhausted, pending := pend })) (own H m3 (σ3.set σ.length .dead)) m3 ex e → Q ex env (σ3.set σ.length .dead) →
              lift H w0 O0 m0 Q e { a with defers := [{ target := .collected w.heap.size, args := #[] }] ++ a.defers } (w3.putObj (w.heap.size + 1) (.loop { L3 with state := .exhausted, pending := pend })) := fun ex e hx hq =>
            ⟨ex, env, _, m3, u1, h0.trans (xa.trans tot), reps_mono tot _ _ (reps_mono xa _ _ he), hmk.mono tot, hx, hq⟩
          split at k3
          · exact base .normal .normal trivial k3
          · exact wpIn_exit (base (.exit _) (.exit _) rfl k3)
          · exact wpIn_ret (base .ret .ret trivial k3)
          · exact k3.elim
  | scope c _ => intro env σ Q w0 O0 m0 a w m h; exact h.elim
  | label l => intro env σ Q w0 O0 m0 a w m h; exact h.elim
  | goto l => intro env σ Q w0 O0 m0 a w m h; exact h.elim
  | refuse s => intro env σ Q w0 O0 m0 a w m h; exact h.elim
end Go.Eng
end

section
namespace Go.Eng
open Go
section
variable (G : Globs) (b : List Deferred) (P : Program) (T : Tab)
/-- The same instance, with another base. -/
abbrev onBase : Globs := ⟨G.tab, b⟩
theorem Wop_base : @Wop (onBase G b) = @Wop G := rfl
theorem Qop_base : @Qop (onBase G b) = @Qop G := rfl
theorem wops_base (ops : Array Oper) : ∀ l, @wops (onBase G b) P T ops l = @wops G P T ops l
  | [] => rfl
  | o :: rest => by
    funext env σ Q
    simp only [wops, wops_base ops rest]
    rfl
theorem wq_base (ops : Array Oper) (σ : Store) : ∀ l, @wq (onBase G b) P T ops σ l = @wq G P T ops σ l
  | [] => rfl
  | o :: rest => by
    funext env Q
    simp only [wq, wq_base ops σ rest]
    rfl
theorem wd_base (ops : Array Oper) : ∀ ks, @wd (onBase G b) P T ops ks = @wd G P T ops ks
  | [] => by
    funext l env σ Q
    simp only [wd, wq_base]
  | k :: ks => by
    funext l env σ Q
    simp only [wd, wq_base, wd_base ops ks]
    rfl
theorem wtree_base (ops : Array Oper) : ∀ t, @wtree (onBase G b) P T ops t = @wtree G P T ops t
  | .done => rfl
  | .nil => rfl
  | .br i t r => by
    funext env σ Q
    simp only [wtree, wtree_base ops t, wtree_base ops r]
    rfl
theorem wdM_base (ops : Array Oper) : @wdM (onBase G b) P T ops = @wdM G P T ops := by
  funext σ Q ks mid rest d te e
  cases te with
  | none => rfl
  | some te =>
    show @wq (onBase G b) P T ops σ mid _ (fun e => @wd (onBase G b) P T ops ks rest _ _ Q) = @wq G P T ops σ mid _ (fun e => @wd G P T ops ks rest _ _ Q)
    rw [wq_base, wd_base]
theorem wS1_base (ops : Array Oper) : @wS1 (onBase G b) P T ops = @wS1 G P T ops := by
  funext σ Q mid rest d bs te e
  cases te with
  | none => rfl
  | some te =>
    show @wq (onBase G b) P T ops σ mid _ (fun e2 => _ ∧ _ ∧ _ ∧ @wq (onBase G b) P T ops σ rest e2 _) = @wq G P T ops σ mid _ (fun e2 => _ ∧ _ ∧ _ ∧ @wq G P T ops σ rest e2 _)
    simp only [wq_base]
theorem W_base (n0 : Nat) : ∀ c, @W (onBase G b) P T n0 c = @W G P T n0 c := by
  intro c
  induction c with
  | region id ops draw =>
    funext env σ Q
    cases draw with
    | false => simp only [W, wops_base]
    | true => simp only [W, wd_base, wtree_base, wq_base, wdM_base, wS1_base]
  | seq x y ihx ihy =>
    funext env σ Q
    simp only [W, ihx, ihy]
  | cond c x y ihx ihy =>
    funext env σ Q
    simp only [W, ihx, ihy]
    rfl
  | block id x ih =>
    funext env σ Q
    simp only [W, ih]
  | loop x ih =>
    funext env σ Q
    simp only [W, ih]
  | _ =>
    funext env σ Q
    first | rfl | (simp only [W]; rfl)
end
end Go.Eng
end

section
namespace Go.Eng
open Go
variable {H : Nat → Prop} [Globs]

/-! ### a function's body -/
def wres (T : Tab) (env : Env) (σ : Store) : List ResultVar → (List AV → Prop) → Prop
  | [], K => K []
  | .tmp t :: r, K => wres T env σ r fun l => K ((env[t]?).getD .bot :: l)
  | .cell a t :: r, K => wload T t ((env[a]?).getD .bot) σ fun v => wres T env σ r fun l => K (v :: l)

def packR : List AV → AV
  | [x] => x
  | l => .tup l

/-- What is handed back, and the store behind it, by the ids that the caller is told. -/
def endR (n0 : Nat) (r : AV) (σ : Store) (K : AV → Store → Prop) : Prop :=
  ∃ (q : List Nat) (r' : AV) (σ' : Store), q.length = σ'.length ∧ q.take n0 = List.range n0 ∧ q.Nodup ∧ r'.ren q = some r ∧ zc8 σ q q σ' ∧ K r' σ'
/-- A slice of the store is handed back to be read alone; the store is let go. -/
def endF (n0 : Nat) (r : AV) (σ : Store) (K : AV → Store → Prop) : Prop :=
  n0 = 0 ∧ ∃ id off len sz cs, r = .ref id off len sz ∧ σ[id]? = some (.rw cs) ∧ off + len * sz ≤ cs.length ∧ renL [] cs = some cs ∧ K (.sl ((cs.drop off).take (len * sz)) len) []
/-- .. are handed back so. -/
def endS (n0 : Nat) (r : AV) (σ : Store) (K : AV → Store → Prop) : Prop :=
  ∃ (ids : List Nat) (r1 : AV), frzA (setRo σ ids) r r1 ∧ endR n0 r1 (setRo σ ids) K

/-- No slice is handed back as one without cells. -/
def endN (n0 : Nat) (r : AV) (K : AV → Store → Prop) : Prop := n0 = 0 ∧ r = .lit (.slice none 0 0) ∧ (K (.sl [] 0) [] ∨ ∃ sz, K (.ref 0 0 0 sz) [.rw []])
def endQ (n0 : Nat) (r : AV) (σ : Store) (K : AV → Store → Prop) : Prop := endR n0 r σ K ∨ endF n0 r σ K ∨ (endN n0 r K ∨ endS n0 r σ K) ∨ K r σ

def retQ (T : Tab) (n0 : Nat) (rs : List ResultVar) (K : AEnd → Store → Prop) : Post := fun x env σ =>
  match x with
  | .normal | .ret => wres T env σ rs fun l => endQ n0 (packR l) σ (fun r σ' => K (.ret r) σ')
  | .pan r => endQ n0 r σ (fun r σ' => K (.pan r) σ')
  | .exit _ => False

def resF (tmps : Array Value) : ResultVar → Sem Value
  | .tmp t => pure (tmps.getD t undef)
  | .cell a t => do loadVar t (← asAddr (tmps.getD a undef))

theorem results_eq (fn : Func) (tmps : Array Value) : results fn tmps = (do let vs ← fn.results.mapM (resF tmps); pure (if h : vs.size = 1 then vs[0] else .tuple vs)) := rfl

theorem tmp_sound {w : World} {O : Nat → Prop} {m : Ids} {env : Env} {a : Act} (h : reps w O m env a.tmps.toList) (t : Nat) : rep w O m ((env[t]?).getD .bot) (a.tmps.getD t undef) := by
  cases he : env[t]? with
  | none => simp [rep]
  | some y =>
    obtain ⟨v, hv, hr⟩ := reps_get h t y he
    rw [Array.getElem?_toList] at hv
    simp only [Option.getD_some, Array.getD_eq_getD_getElem?, hv]
    exact hr

theorem wload_ptr_some {T : Tab} {w : World} {O : Nat → Prop} {m : Ids} {σ : Store} {t : TypeId} {x : AV} {v : Value} {K : AV → Prop} (h : wload T t x σ K) (hr : rep w O m x v) : ∃ a, v = .pointer (some a) := by
  unfold wload at h
  split at h
  · exact h.elim
  · cases x <;> simp only at h <;> first | exact h.elim | skip
    · simp only [rep] at hr
      obtain ⟨b, off, e, _⟩ := hr
      exact ⟨_, e⟩
    · simp only [rep] at hr
      obtain ⟨g, e, _⟩ := hr
      exact ⟨_, e⟩

theorem wres_sound {P : Program} {T : Tab} (hT : TabOK P T) {w : World} {m : Ids} {σ : Store} (hs : St H w m σ) {env : Env} {a : Act} (he : reps w (own H m σ) m env a.tmps.toList) : ∀ (rs : List ResultVar) (K : List AV → Prop), wres T env σ rs K →
    ∃ (vs : List Value) (l : List AV), (rs.mapM (resF a.tmps)).run P w = .ok vs w ∧ reps w (own H m σ) m l vs ∧ K l
  | [], K, h => ⟨[], [], by simp, by simp [reps], h⟩
  | .tmp t :: rs, K, h => by
    obtain ⟨vs, l, h2, h3, h4⟩ := wres_sound hT hs he rs _ h
    refine ⟨a.tmps.getD t undef :: vs, _, ?_, ?_, h4⟩
    · simp only [List.mapM_cons, Sem.run_bind, resF, Sem.run_pure, Result.andThen_ok, h2]
    · simp only [reps]
      exact ⟨_, _, rfl, tmp_sound he t, h3⟩
  | .cell c t :: rs, K, h => by
    simp only [wres] at h
    have hr := tmp_sound he c
    obtain ⟨ad, ha⟩ := wload_ptr_some h hr
    obtain ⟨v, r, h1, h2, h3⟩ := wload_sound (P := P) hT hs h hr
    obtain ⟨vs, l, h4, h5, h6⟩ := wres_sound hT hs he rs _ h3
    refine ⟨v :: vs, _, ?_, ?_, h6⟩
    · rw [ha] at h1
      simp only [Instr.loadAt, Instr.sureAddr, Sem.run_bind, Sem.run_pure, Result.andThen_ok] at h1
      simp only [List.mapM_cons, Sem.run_bind, resF, ha, asAddr, Sem.run_pure, Result.andThen_ok, h1, h4]
    · simp only [reps]
      exact ⟨_, _, rfl, h2, h5⟩

theorem endR_sound {w0 w : World} {O0 : Nat → Prop} {m0 m : Ids} {σ : Store} {r : AV} {v : Value} {n0 : Nat} {K : AV → Store → Prop} (h : endR n0 r σ K) (hs : St H w m σ) (hr : rep w (own H m σ) m r v) (h0 : Ext H w0 O0 m0 w (own H m σ) m) (hn : m0.length = n0) :
    ∃ r' m' σ', St H w m' σ' ∧ Ext H w0 O0 m0 w (own H m' σ') m' ∧ rep w (own H m' σ') m' r' v ∧ K r' σ' := by
  obtain ⟨q, r', σ', h1, h2, h3, h4, h5, h6⟩ := h
  obtain ⟨m', g1, R, g3⟩ := hs.ren h1 h3 h5
  refine ⟨r', m', σ', g1, ⟨h0.heap, h0.same, fun b hb => h0.own b (R.own b hb), fun i x hx => ?_, h0.rows, h0.os, h0.tape, h0.output, h0.hid⟩, rep_ren R _ _ _ h4 hr, h6⟩
  have hi := (List.getElem?_eq_some_iff.1 hx).1
  have hq : q[i]? = some i := by
    have := congrArg (fun l => l[i]?) h2
    simp only [List.getElem?_take] at this
    rw [if_pos (by omega), List.getElem?_range (by omega)] at this
    exact this
  rw [g3, List.getElem?_map, hq]
  simp [h0.ids i x hx]

theorem endQ_sound {w0 w : World} {O0 : Nat → Prop} {m0 m : Ids} {σ : Store} {r : AV} {v : Value} {n0 : Nat} {K : AV → Store → Prop} (h : endQ n0 r σ K) (hs : St H w m σ) (hr : rep w (own H m σ) m r v) (h0 : Ext H w0 O0 m0 w (own H m σ) m) (hn : m0.length = n0) :
    ∃ r' m' σ', St H w m' σ' ∧ Ext H w0 O0 m0 w (own H m' σ') m' ∧ rep w (own H m' σ') m' r' v ∧ K r' σ' := by
  rcases h with h | ⟨rfl, id, off, len, sz, cs, rfl, hi, hle, hc, hk⟩ | (⟨rfl, rfl, hk⟩ | ⟨ids, r1, hf, hk⟩) | hk
  rotate_right
  · exact ⟨r, m, σ, hs, h0, hr, hk⟩
  rotate_right
  · obtain ⟨s1, x1⟩ := setRo_sound ids σ hs
    exact endR_sound hk s1 (frzA_sound s1 r r1 v hf (rep_mono x1 _ _ hr)) (h0.trans x1) hn
  · exact endR_sound h hs hr h0 hn
  · have hm0 : m0 = [] := List.eq_nil_of_length_eq_zero hn
    subst hm0
    obtain ⟨k1, k2⟩ := hs.letgo (i := id) (x := .ro cs) (.inr ⟨cs, hi, 0, cs.length, by simp, rfl⟩)
    have hil : id < σ.length := (List.getElem?_eq_some_iff.1 hi).1
    have s0 : St H w [] [] := ⟨rfl, fun i x mi hx => by simp at hx, fun i j ci cj g hx => by simp at hx, fun b hb => ⟨(hs.hid b hb).1, fun i cs hi => by simp at hi⟩⟩
    refine ⟨_, [], [], s0, ⟨h0.heap, h0.same, fun b hb => ?_, fun i x hx => by simp at hx, h0.rows, h0.os, h0.tape, h0.output, h0.hid⟩, ?_, hk⟩
    · rcases hb with hH | ⟨i, cs, hi, _⟩
      · exact h0.own b (.inl hH)
      · simp at hi
    · simp only [rep] at hr ⊢
      rcases hr with ⟨rfl, rfl, rfl, _⟩ | ⟨g, cap, c, rfl, hm, hlc, hcm, _⟩
      · exact ⟨none, 0, rfl, Nat.le_refl _, by simp [maxLen], .inl (by simp)⟩
      · refine ⟨_, cap, rfl, hlc, hcm, ?_⟩
        rcases k1.blk id (.ro cs) (some g) (by simp [hil]) hm with h2 | ⟨g', e, hO, hat⟩
        · exact .inl (by simp [h2])
        · cases e
          by_cases hne : cs = []
          · exact .inl (by simp [hne])
          · have R : Ren (own H m (σ.set id (.ro cs))) m (own H [] []) [] [] := ⟨fun b hb => by
              rcases hb with hH | ⟨i, cs, hi, _⟩
              · exact .inl hH
              · simp at hi, fun i k g h1 => by simp at h1, by simp⟩
            have hat2 := repAt_ren R cs cs _ _ hc hat
            have hat3 := repAt_take (repAt_drop hat2 off) (len * sz)
            rw [Nat.zero_add] at hat3
            exact .inr ⟨g, off, rfl, fun ho => hO (R.own g ho), repAt_block hat hne, hat3⟩
  · have hm0 : m0 = [] := List.eq_nil_of_length_eq_zero hn
    subst hm0
    have s0 : St H w [] [] := ⟨rfl, fun i x mi hx => by simp at hx, fun i j ci cj g hx => by simp at hx, fun b hb => ⟨(hs.hid b hb).1, fun i cs hi => by simp at hi⟩⟩
    have x0 : Ext H w0 O0 [] w (own H [] []) [] := ⟨h0.heap, h0.same, fun b hb => by
      rcases hb with hH | ⟨i, cs, hi, _⟩
      · exact h0.own b (.inl hH)
      · simp at hi, fun i x hx => by simp at hx, h0.rows, h0.os, h0.tape, h0.output, h0.hid⟩
    rcases hk with hk | ⟨sz, hk⟩
    rotate_right
    · have hmore := s0.more (w' := w) (g := none) (x := .rw []) (Nat.le_refl _) (fun _ _ => rfl) rfl rfl rfl (fun b hb => by cases hb) (fun _ => .inl ⟨rfl, rfl⟩)
      refine ⟨_, _, _, hmore.1, x0.trans hmore.2, ?_, hk⟩
      simp only [rep] at hr ⊢
      exact .inl ⟨hr, trivial, trivial, by simp⟩
    refine ⟨_, [], [], s0, x0, ?_, hk⟩
    · simp only [rep] at hr ⊢
      subst hr
      exact ⟨none, 0, rfl, Nat.le_refl _, by simp [maxLen], .inl (by trivial)⟩

theorem run_results {P : Program} {T : Tab} (hT : TabOK P T) {fn : Func} {w : World} {m : Ids} {σ : Store} (hs : St H w m σ) {env : Env} {a : Act} {K : List AV → Prop} (he : reps w (own H m σ) m env a.tmps.toList) (h : wres T env σ fn.results.toList K) :
    ∃ v l, (results fn a.tmps).run P w = .ok v w ∧ rep w (own H m σ) m (packR l) v ∧ K l := by
  obtain ⟨vs, l, h1, h2, hK⟩ := wres_sound (P := P) hT hs he _ _ h
  rw [results_eq, Sem.run_bind, Array.mapM_eq_mapM_toList, Sem.run_map, h1]
  simp only [Result.andThen_ok, Sem.run_pure]
  refine ⟨_, l, rfl, ?_, hK⟩
  match l, vs, h2 with
  | [], vs, h2 =>
    simp only [reps] at h2
    subst h2
    simp [packR, rep, reps]
  | [x], vs, h2 =>
    simp only [reps] at h2
    obtain ⟨v, _, rfl, h3, rfl⟩ := h2
    simpa [packR] using h3
  | x :: y :: r, vs, h2 =>
    have hl := reps_length h2
    simp only [List.length_cons] at hl
    have : ¬ (vs.toArray.size = 1) := by simp; omega
    rw [dif_neg this]
    simp only [packR, rep]
    exact ⟨_, rfl, h2⟩

theorem reps_bots {w : World} {O : Nat → Prop} {m : Ids} : ∀ (n : Nat) (v : Value), reps w O m (List.replicate n .bot) (List.replicate n v)
  | 0, _ => by simp [reps]
  | n + 1, v => by
    simp only [List.replicate_succ, reps]
    exact ⟨v, _, rfl, by simp [rep], reps_bots n v⟩

/-! ### the marks of loops over functions, at the end -/
/-- Worlds that differ in blocks alone that hold neither cells nor a loop. -/
structure Alike (w w' : World) : Prop where
  cell : ∀ a, w'.cell? a = w.cell? a
  size : w'.heap.size = w.heap.size
  row : ∀ g c, Row w g c → Row w' g c
  rowT : ∀ g c e, RowT w g c e → RowT w' g c e
  cel : ∀ g c, Cel w g c → Cel w' g c
  loop : ∀ (g : Nat) (L : Loop), w.heap[g]? = some (.loop L) → w'.heap[g]? = some (.loop L)
  map : ∀ (g : Nat) (es : Array MapEntry) (c : Nat), w.heap[g]? = some (.map es c) → w'.heap[g]? = some (.map es c)

mutual
theorem rep_alike {w w' : World} {O : Nat → Prop} {m : Ids} (h : Alike w w') : (x : AV) → (v : Value) → rep w O m x v → rep w' O m x v
  | .bot, _, _ => by simp [rep]
  | .lit u, v, hr => by simpa [rep] using hr
  | .agg l, v, hr => by
    simp only [rep] at hr ⊢
    obtain ⟨a, e, h1⟩ := hr
    exact ⟨a, e, reps_alike h l _ h1⟩
  | .tup l, v, hr => by
    simp only [rep] at hr ⊢
    obtain ⟨a, e, h1⟩ := hr
    exact ⟨a, e, reps_alike h l _ h1⟩
  | .sl cs len, v, hr => by
    simp only [rep] at hr ⊢
    obtain ⟨ad, cap, e, h1, h2, h3⟩ := hr
    refine ⟨ad, cap, e, h1, h2, h3.imp id ?_⟩
    rintro ⟨b, off, e1, hO, hb, hat⟩
    exact ⟨b, off, e1, hO, by rw [h.size]; exact hb, repAt_alike h b cs off hat⟩
  | .rp cs, v, hr => by
    simp only [rep] at hr ⊢
    obtain ⟨b, off, e1, hO, hb, hat⟩ := hr
    exact ⟨b, off, e1, hO, by rw [h.size]; exact hb, repAt_alike h b cs off hat⟩
  | .ref id off len sz, v, hr => by
    simp only [rep] at hr ⊢
    rcases hr with h1 | ⟨g, cap, c, e1, e2, e3, e4, hr, e5⟩
    · exact .inl h1
    · exact .inr ⟨g, cap, c, e1, e2, e3, e4, h.cel g c hr, e5⟩
  | .ptr id off, v, hr => by simpa only [rep] using hr
  | .yl id, v, hr => by simpa only [rep] using hr
  | .mpt id, v, hr => by simpa only [rep] using hr
  | .fn f a b, v, hr => by
    simp only [rep] at hr ⊢
    obtain ⟨x, y, e, h1, h2⟩ := hr
    exact ⟨x, y, e, reps_alike h a _ h1, reps_alike h b _ h2⟩
  | .ifc t a, v, hr => by
    simp only [rep] at hr ⊢
    obtain ⟨u, e, h1⟩ := hr
    exact ⟨u, e, rep_alike h a _ h1⟩
  | .sd id n, v, hr => by simpa only [rep] using hr
  | .bsl id n, v, hr => by
    simp only [rep] at hr ⊢
    rcases hr with h1 | ⟨g, cap, c, e1, e2, e3, e4, hr, e5⟩
    · exact .inl h1
    · exact .inr ⟨g, cap, c, e1, e2, e3, e4, h.cel g c hr, e5⟩
theorem reps_alike {w w' : World} {O : Nat → Prop} {m : Ids} (h : Alike w w') : (l : List AV) → (vs : List Value) → reps w O m l vs → reps w' O m l vs
  | [], _, hr => by simpa [reps] using hr
  | a :: l, vs, hr => by
    simp only [reps] at hr ⊢
    obtain ⟨v, r, e, h1, h2⟩ := hr
    exact ⟨v, r, e, rep_alike h a _ h1, reps_alike h l _ h2⟩
theorem repAt_alike {w w' : World} {O : Nat → Prop} {m : Ids} (h : Alike w w') (b : Nat) : (l : List AV) → (off : Nat) → zdb w O m b l off → zdb w' O m b l off
  | [], _, _ => by simp [zdb]
  | a :: l, off, hr => by
    simp only [zdb] at hr ⊢
    obtain ⟨⟨v, e, h1⟩, h2⟩ := hr
    exact ⟨⟨v, (h.cell _).trans e, rep_alike h a _ h1⟩, repAt_alike h b l _ h2⟩
end

theorem Alike.deferred {w : World} {D : Nat} {x : Option (List Deferred)} (hD : w.heap[D]? = some (.deferred x)) (y : Option (List Deferred)) : Alike w (w.putObj D (.deferred y)) := by
  have hlt := (Array.getElem?_eq_some_iff.1 hD).1
  refine ⟨fun a => ?_, putObj_size _ _ _, fun g c hr => ?_, fun g c e hr => ?_, fun g c hr => ?_, fun g L hL => ?_, fun g es c hL => ?_⟩
  · by_cases ha : a.block = D
    · simp only [World.cell?, ha, World.putObj_heap_same hlt, hD]
    · simp only [World.cell?, World.putObj_heap_other ha]
  · obtain ⟨e, lo, hi, h1, h2⟩ := hr
    refine ⟨e, lo, hi, ?_, h2⟩
    rw [World.putObj_heap_other]
    · exact h1
    · rintro rfl; rw [hD] at h1; cases h1
  · obtain ⟨lo, hi, h1, h2⟩ := hr
    refine ⟨lo, hi, ?_, h2⟩
    rw [World.putObj_heap_other]
    · exact h1
    · rintro rfl; rw [hD] at h1; cases h1
  · obtain ⟨e, f, h1⟩ := hr
    refine ⟨e, f, ?_⟩
    rw [World.putObj_heap_other]
    · exact h1
    · rintro rfl; rw [hD] at h1; cases h1
  · rw [World.putObj_heap_other]
    · exact hL
    · rintro rfl; rw [hD] at hL; cases hL
  · rw [World.putObj_heap_other]
    · exact hL
    · rintro rfl; rw [hD] at hL; cases hL

theorem St.alike {w w' : World} {m : Ids} {σ : Store} (hs : St H w m σ) (h : Alike w w') : St H w' m σ := by
  refine ⟨hs.len, fun i x mi hx hmi => ?_, hs.inj, fun b hb => ⟨by rw [h.size]; exact (hs.hid b hb).1, (hs.hid b hb).2⟩⟩
  have hb := hs.blk i x mi hx hmi
  cases x with
  | dead => trivial
  | ro cs => exact hb.imp (fun h => h) fun ⟨g, e, h1, h2⟩ => ⟨g, e, h1, repAt_alike h g _ _ h2⟩
  | rw cs => exact hb.imp (fun h => h) fun ⟨g, c, e, h1, h2, h3⟩ => ⟨g, c, e, h.row g c h1, h2, repAt_alike h g _ _ h3⟩
  | rt xx ee cs => exact hb.imp (fun h => h) fun ⟨g, c, e, h1, h2, h2', h3⟩ => ⟨g, c, e, h.rowT g c _ h1, h2, h2', repAt_alike h g _ _ h3⟩
  | lp st pend env ps as bd =>
    obtain ⟨g, e, L, k1, k2, k3, k4, k5, k6, k7⟩ := hb
    exact ⟨g, e, L, h.loop g L k1, k2, k3, k4, k5, k6, reps_alike h _ _ k7⟩
  | mpb ks vs =>
    obtain ⟨g, e, es, c, k1, k2, k7⟩ := hb
    exact ⟨g, e, es, c, h.map g es c k1, k2, reps_alike h _ _ k7⟩

/-- A world of a function's own doing, in which a block of marks has been shut. -/
theorem Ext.shut {w0 w : World} {O0 O : Nat → Prop} {m0 m : Ids} (h : Ext H w0 O0 m0 w O m) {D : Nat} (hb : w0.heap.size ≤ D) {x : Option (List Deferred)} (hD : w.heap[D]? = some (.deferred x)) (y : Option (List Deferred)) (hh : ∀ b, H b → b < w0.heap.size) : Ext H w0 O0 m0 (w.putObj D (.deferred y)) O m where
  heap := by rw [putObj_size]; exact h.heap
  same b hlt ho := by rw [World.putObj_heap_other (by omega)]; exact h.same b hlt ho
  own := h.own
  ids := h.ids
  rows g c hr := by
    obtain ⟨c', r', e'⟩ := h.rows g c hr
    exact ⟨c', (Alike.deferred hD y).cel g c' r', e'⟩
  os := h.os
  tape := h.tape
  output := h.output
  hid b hb' := by rw [World.putObj_heap_other (by have := hh b hb'; omega)]; exact h.hid b hb'

theorem leaves_marks {P : Program} {fn : Func} {tmps : Array Value} {R : Ending → World → Prop} {u : FrameMode} {J : World → Prop} {b : Nat} (hu : u ≠ .run) (hJ : ∀ D w, b ≤ D → J w → w.heap[D]? = some (.deferred (some [])) → J (w.putObj D (.deferred none))) (hfin : ∀ w, J w → LeavesIn Fence.wide 0 P fn tmps R [] u w) :
    ∀ (l : List Nat) (w : World), l.Nodup → (∀ D ∈ l, b ≤ D ∧ w.heap[D]? = some (.deferred (some []))) → J w → LeavesInM Fence.wide 0 P fn tmps R (l.map (fun D => { target := .collected D, args := #[] })) u w
  | [], w, _, _, h => hfin w h
  | D :: l, w, hn, hl, h => by
    obtain ⟨h1, h2⟩ := hl D (by simp)
    obtain ⟨n1, n2⟩ := List.nodup_cons.1 hn
    refine ⟨hu, .inl ⟨D, _, rfl, run_takeDeferred h2, leaves_marks hu hJ hfin l _ n2 (fun E hE => ?_) (hJ D w h1 h h2)⟩⟩
    obtain ⟨h3, h4⟩ := hl E (List.mem_cons_of_mem _ hE)
    exact ⟨h3, by rw [World.putObj_heap_other (by rintro rfl; exact n1 hE)]; exact h4⟩

theorem ACalls.body {P : Program} {T : Tab} (hT : TabOK P T) {f : FuncId} {fn : Func} {c : Code} {as : List AV} {σ : Store} {K : AEnd → Store → Prop} {n : Nat} {rs : List ResultVar} (hf : P.funcs[f]? = some fn) (hc : callable P f = true) (hb : fn.body = some c) (hn : fn.ntmps = n) (hrs : fn.results.toList = rs)
    (h : W P T σ.length c (as ++ List.replicate (n - as.length) .bot) σ (retQ T σ.length rs K)) : ACalls P f as σ K := by
  refine fun H w m vs hg hs hr => .inl ⟨hc, callsIn_wide.1 (callsIn_of_wp_marks (F := Fence.wide) (n := 0) hf hb trivial ?_)⟩
  have hl := reps_length hr
  replace h := (congrFun (congrFun (congrFun (W_base ‹Globs› [] P T σ.length c) (as ++ List.replicate (n - as.length) .bot)) σ) (retQ T σ.length rs K)).mpr h
  letI GB : Globs := onBase ‹Globs› []
  have hw := W_sound (r := none) (n := 0) hT c _ σ _ w (own H m σ) m { tmps := vs ++ Array.replicate (fn.ntmps - vs.size) undef, defers := [] } w m h (.inl rfl) hg hs.len (Ext.refl _ _ _) hs (by
    simp only [Array.toList_append, Array.toList_replicate]
    refine reps_append hr ?_
    rw [show vs.size = as.length by simpa using hl, hn]
    exact reps_bots _ _) Mk.nil
  refine wpIn_mono (hw : c.wpIn Fence.wide 0 P _ _ _) ?_
  have hh : ∀ b, H b → b < w.heap.size := fun b hb => (hs.hid b hb).1
  rintro e a w' ⟨x, env, σ', m', g1, g2, g3, g4, g5, g6⟩
  have fin : wres T env σ' rs (fun l => endQ σ.length (packR l) σ' (fun r σ' => K (.ret r) σ')) → LeavesInM Fence.wide 0 P fn a.tmps (fun e w' => ∃ x m' σ', St H w' m' σ' ∧ Ext H w (own H m σ) m w' (own H m' σ') m' ∧ zdc w' (own H m' σ') m' x e ∧ K x σ') a.defers .returning w' := by
    intro hk
    rw [← hrs] at hk
    obtain ⟨ms, e, hnd, hms⟩ := g4
    rw [show (@Globs.base GB) = [] from rfl, List.append_nil] at e
    rw [e]
    refine leaves_marks (J := fun w' => St H w' m' σ' ∧ Ext H w (own H m σ) m w' (own H m' σ') m' ∧ reps w' (own H m' σ') m' env a.tmps.toList) (b := w.heap.size) (by simp) (fun D w' hD ⟨j1, j2, j3⟩ hd => ⟨j1.alike (.deferred hd _), j2.shut hD hd _ hh, reps_alike (.deferred hd _) _ _ j3⟩) ?_ ms w' hnd (fun D hD => ⟨(hms D hD).1, (hms D hD).2.2⟩) ⟨g1, g2, g3⟩
    rintro w' ⟨j1, j2, j3⟩
    obtain ⟨v, l, h1, h2, hk⟩ := run_results (P := P) hT j1 j3 hk
    obtain ⟨r', m2, σ2, k1, k2, k3, k4⟩ := endQ_sound hk j1 h2 j2 hs.len
    exact ⟨v, h1, .ret r', m2, σ2, k1, k2, k3, k4⟩
  cases x with
  | normal =>
    cases e <;> simp only [xRep] at g5
    exact fin g6
  | ret =>
    cases e <;> simp only [xRep] at g5
    exact fin g6
  | exit i => exact g6.elim
  | pan r =>
    cases e <;> simp only [xRep] at g5
    obtain ⟨v, rfl, h2⟩ := g5
    obtain ⟨ms, e, hnd, hms⟩ := g4
    rw [show (@Globs.base GB) = [] from rfl, List.append_nil] at e
    simp only [bodyPostM]
    rw [e]
    refine leaves_marks (J := fun w' => St H w' m' σ' ∧ Ext H w (own H m σ) m w' (own H m' σ') m' ∧ rep w' (own H m' σ') m' r v) (b := w.heap.size) (by simp) (fun D w' hD ⟨j1, j2, j3⟩ hd => ⟨j1.alike (.deferred hd _), j2.shut hD hd _ hh, rep_alike (.deferred hd _) _ _ j3⟩) ?_ ms w' hnd (fun D hD => ⟨(hms D hD).1, (hms D hD).2.2⟩) ⟨g1, g2, h2⟩
    rintro w' ⟨j1, j2, j3⟩
    obtain ⟨r', m2, σ2, k1, k2, k3, k4⟩ := endQ_sound g6 j1 j3 j2 hs.len
    exact ⟨.pan r', m2, σ2, k1, k2, ⟨v, rfl, k3⟩, k4⟩

/-! ### a call in a greater store -/
def AEnd.noid : AEnd → Prop
  | .ret r => r.ren [] = some r
  | .pan r => r.ren [] = some r

theorem St.none {w : World} (h : ∀ b, H b → b < w.heap.size) : St H w [] [] :=
  ⟨rfl, fun i x mi hx => by simp at hx, fun i j ci cj g hx => by simp at hx, fun b hb => ⟨h b hb, fun i cs hi => by simp at hi⟩⟩

/-- A call that is handed nothing of the store leaves it as it is. -/
theorem ACalls.pure {P : Program} {f : FuncId} {as : List AV} {σ : Store} {K K0 : AEnd → Store → Prop} (h : ACalls P f as [] K0) (has : renL [] as = some as) (hk : ∀ x σ', K0 x σ' → x.noid ∧ K x σ) : ACalls P f as σ K := by
  refine fun H w m vs hg hs hr => ?_
  have s0 : St (own H m σ) w [] [] := St.none fun b hb => hs.ownlt hb
  have r0 : reps w (own (own H m σ) [] []) [] as vs.toList := by
    refine reps_ren (q := []) ⟨?_, fun i k g h1 => by simp at h1, by simp⟩ _ _ _ has hr
    rintro b (hb | ⟨i, cs, hi, _⟩)
    · exact hb
    · simp at hi
  have g0 : Glob w (own (own H m σ) [] []) := fun g cs hgc => let ⟨a, b, c⟩ := hg g cs hgc; ⟨fun ho => a (by
    rcases ho with ho | ⟨i, x, ⟨hi, _⟩, _⟩
    · exact ho
    · simp at hi), b, c⟩
  refine (h (own H m σ) w [] vs g0 s0 r0).mono ?_
  rintro e w' ⟨x, m', σ', g1, g2, g3, g4⟩
  have hold : ∀ b, b < w.heap.size → w'.heap[b]? = w.heap[b]? := by
    intro b hb
    by_cases ho : own H m σ b
    · exact g2.hid b ho
    · refine g2.same b hb ?_
      rintro (hb' | ⟨i, cs, hi, _⟩)
      · exact ho hb'
      · simp at hi
  obtain ⟨k1, k2⟩ := hs.old g2.heap hold g2.os g2.tape g2.output
  obtain ⟨k3, k4⟩ := hk x σ' g4
  have R : Ren (own (own H m σ) m' σ') m' (own H m σ) m [] := ⟨fun b hb => .inl hb, fun i k g h1 => by simp at h1, by simp⟩
  refine ⟨x, m, σ, k1, k2, ?_, k4⟩
  cases x <;> cases e <;> simp only [zdc] at g3 <;> first | exact g3.elim | skip
  · exact rep_ren R _ _ _ k3 g3
  · obtain ⟨v, e1, h2⟩ := g3
    exact ⟨v, e1, rep_ren R _ _ _ k3 h2⟩

/-- Plain all through: no place in memory. -/
def AV.flat : AV → Prop
  | .lit _ => True
  | .agg l => ∀ x ∈ l, ∃ v, x = .lit v
  | .tup l => ∀ x ∈ l, ∃ v, x = .lit v
  | _ => False

def AEnd.flat : AEnd → Prop
  | .ret r => r.flat
  | .pan _ => False

theorem flat_reps {w w' : World} {O O' : Nat → Prop} {m m' : Ids} : ∀ (l : List AV) (vs : List Value), (∀ x ∈ l, ∃ v, x = .lit v) → reps w O m l vs → reps w' O' m' l vs
  | [], _, _, h => by simpa [reps] using h
  | a :: l, vs, hf, h => by
    simp only [reps] at h ⊢
    obtain ⟨v, r, e, h1, h2⟩ := h
    obtain ⟨u, rfl⟩ := hf a (by simp)
    exact ⟨v, r, e, by simpa [rep] using h1, flat_reps l r (fun x hx => hf x (by simp [hx])) h2⟩

theorem flat_rep {w w' : World} {O O' : Nat → Prop} {m m' : Ids} {x : AV} {v : Value} (hf : x.flat) (h : rep w O m x v) : rep w' O' m' x v := by
  cases x <;> simp only [AV.flat] at hf <;> simp only [rep] at h ⊢
  · exact h
  · obtain ⟨a, e, h1⟩ := h
    exact ⟨a, e, flat_reps _ _ hf h1⟩
  · obtain ⟨a, e, h1⟩ := h
    exact ⟨a, e, flat_reps _ _ hf h1⟩

/-- An argument as it is lent: a slice of the store is read only. -/
def see (σ : Store) (a b : AV) : Prop :=
  (a = b ∧ a.ren [] = some a) ∨
  (∃ id off len sz cs, a = .ref id off len sz ∧ rd σ id = some cs ∧ off + len * sz ≤ cs.length ∧ renL [] cs = some cs ∧ b = .sl ((cs.drop off).take (len * sz)) len) ∨
  (∃ id off cs, a = .ptr id off ∧ rd σ id = some cs ∧ off < cs.length ∧ renL [] cs = some cs ∧ b = .rp (cs.drop off))

def sees (σ : Store) : List AV → List AV → Prop
  | [], [] => True
  | a :: l, b :: r => see σ a b ∧ sees σ l r
  | _, _ => False

theorem see_sound {w : World} {m : Ids} {σ : Store} (hs : St H w m σ) {a b : AV} {v : Value} (h : see σ a b) (hr : rep w (own H m σ) m a v) : rep w (own (fun _ => False) [] []) [] b v := by
  have hno : ∀ b, ¬ own (fun _ => False) [] [] b := by
    rintro b (h | ⟨i, cs, hi, _⟩)
    · exact h
    · simp at hi
  have R : Ren (own H m σ) m (own (fun _ => False) [] []) [] [] := ⟨fun b hb => (hno b hb).elim, fun i k g h1 => by simp at h1, by simp⟩
  rcases h with ⟨rfl, h1⟩ | ⟨id, off, len, sz, cs, rfl, h1, h2, h3, rfl⟩ | ⟨id, off, cs, rfl, h1, h2, h3, rfl⟩
  · exact rep_ren R _ _ _ h1 hr
  · simp only [rep] at hr ⊢
    rcases hr with ⟨rfl, rfl, rfl, _⟩ | ⟨g, cap, c, rfl, hm, hlc, hcm, _⟩
    · exact ⟨none, 0, rfl, Nat.le_refl _, by simp [maxLen], .inl (by simp)⟩
    · refine ⟨_, cap, rfl, hlc, hcm, ?_⟩
      by_cases hne : cs = []
      · exact .inl (by simp [hne])
      · obtain ⟨g', hm', hat⟩ := rd_at hs h1 hne
        rw [hm] at hm'
        cases hm'
        have hlt := repAt_block hat hne
        have hat2 := repAt_ren R cs cs _ _ h3 hat
        have hat3 := repAt_take (repAt_drop hat2 off) (len * sz)
        rw [Nat.zero_add] at hat3
        exact .inr ⟨g, off, rfl, hno g, hlt, hat3⟩
  · simp only [rep] at hr ⊢
    obtain ⟨g, rfl, hm⟩ := hr
    have hne : cs ≠ [] := by rintro rfl; simp at h2
    obtain ⟨g', hm', hat⟩ := rd_at hs h1 hne
    rw [hm] at hm'
    cases hm'
    have hlt := repAt_block hat hne
    have hat2 := repAt_ren R cs cs _ _ h3 hat
    have hat3 := repAt_drop hat2 off
    rw [Nat.zero_add] at hat3
    exact ⟨g, off, rfl, hno g, hlt, hat3⟩

theorem sees_sound {w : World} {m : Ids} {σ : Store} (hs : St H w m σ) : ∀ {as bs : List AV} {vs : List Value}, sees σ as bs → reps w (own H m σ) m as vs → reps w (own (fun _ => False) [] []) [] bs vs
  | [], [], _, _, h => by simpa [reps] using h
  | a :: l, b :: r, vs, hl, h => by
    simp only [reps] at h ⊢
    obtain ⟨v, z, e, h1, h2⟩ := h
    exact ⟨v, z, e, see_sound hs hl.1 h1, sees_sound hs hl.2 h2⟩
  | [], _ :: _, _, hl, _ => hl.elim
  | _ :: _, [], _, hl, _ => hl.elim

/-- A call that is lent slices of the store, and hands back nothing that lies in memory. -/
theorem ACalls.lend {P : Program} {f : FuncId} {as bs : List AV} {σ : Store} {K K0 : AEnd → Store → Prop} (h : ACalls P f bs [] K0) (has : sees σ as bs) (hk : ∀ x σ', K0 x σ' → x.flat ∧ K x σ) : ACalls P f as σ K := by
  refine fun H w m vs hg hs hr => ?_
  have s0 : St (fun _ => False) w [] [] := St.none fun b hb => hb.elim
  have g0 : Glob w (own (fun _ => False) [] []) := fun g cs hgc => let ⟨a, b, c⟩ := hg g cs hgc; ⟨fun ho => by
    rcases ho with ho | ⟨i, x, ⟨hi, _⟩, _⟩
    · exact ho
    · simp at hi, b, c⟩
  refine (h _ w [] vs g0 s0 (sees_sound hs has hr)).mono ?_
  rintro e w' ⟨x, m', σ', g1, g2, g3, g4⟩
  have hold : ∀ b, b < w.heap.size → w'.heap[b]? = w.heap[b]? := by
    intro b hb
    refine g2.same b hb ?_
    rintro (h | ⟨i, cs, hi, _⟩)
    · exact h
    · simp at hi
  obtain ⟨k1, k2⟩ := hs.old g2.heap hold g2.os g2.tape g2.output
  obtain ⟨k3, k4⟩ := hk x σ' g4
  refine ⟨x, m, σ, k1, k2, ?_, k4⟩
  cases x <;> cases e <;> simp only [zdc] at g3 <;> first | exact g3.elim | exact k3.elim | skip
  exact flat_rep k3 g3

/-! ### a block is frozen for good, ahead of a call -/
theorem ACalls.freeze {P : Program} {f : FuncId} {pre post : List AV} {id off len sz : Nat} {cs : List AV} {σ : Store} {K : AEnd → Store → Prop} (hi : σ[id]? = some (.rw cs)) (hle : off + len * sz ≤ cs.length)
    (h : ACalls P f (pre ++ .sl ((cs.drop off).take (len * sz)) len :: post) (σ.set id (.ro cs)) K) : ACalls P f (pre ++ .ref id off len sz :: post) σ K := by
  refine fun H w m vs hg hs hr => ?_
  obtain ⟨k1, k2⟩ := hs.letgo (i := id) (x := .ro cs) (.inr ⟨cs, hi, 0, cs.length, by simp, rfl⟩)
  have hr' : reps w (own H m (σ.set id (.ro cs))) m (pre ++ .sl ((cs.drop off).take (len * sz)) len :: post) vs.toList := by
    have h1 := reps_mono k2 _ _ hr
    refine reps_of (by rw [reps_length h1]; simp) fun j x v hx hv => ?_
    by_cases hj : j = pre.length
    · subst hj
      simp at hx
      subst hx
      obtain ⟨v', hv', hr'⟩ := reps_get h1 pre.length (.ref id off len sz) (by simp)
      rw [hv] at hv'
      cases hv'
      simp only [rep] at hr' ⊢
      rcases hr' with ⟨rfl, rfl, rfl, _⟩ | ⟨g, cap, c, rfl, hm, hlc, hcm, _⟩
      · exact ⟨none, 0, rfl, Nat.le_refl _, by simp [maxLen], .inl (by simp)⟩
      · refine ⟨_, cap, rfl, hlc, hcm, ?_⟩
        have hil : id < σ.length := (List.getElem?_eq_some_iff.1 hi).1
        rcases k1.blk id (.ro cs) (some g) (by simp [hil]) hm with h2 | ⟨g', e, hO, hat⟩
        · exact .inl (by simp [h2])
        · cases e
          by_cases hne : cs = []
          · exact .inl (by simp [hne])
          · have hat3 := repAt_take (repAt_drop hat off) (len * sz)
            rw [Nat.zero_add] at hat3
            exact .inr ⟨g, off, rfl, hO, repAt_block hat hne, hat3⟩
    · obtain ⟨v', hv', hr'⟩ := reps_get h1 j x (by
        rcases Nat.lt_or_ge j pre.length with hlt | hge
        · rwa [List.getElem?_append_left hlt] at hx ⊢
        · rw [List.getElem?_append_right hge] at hx ⊢
          obtain ⟨d, hd⟩ : ∃ d, j - pre.length = d + 1 := ⟨j - pre.length - 1, by omega⟩
          rw [hd] at hx ⊢
          simpa using hx)
      rw [hv] at hv'
      cases hv'
      exact hr'
  refine (h H w m vs (hg.mono k2) k1 hr').mono ?_
  rintro e w' ⟨x, m', σ', g1, g2, g3, g4⟩
  exact ⟨x, m', σ', g1, k2.trans g2, g3, g4⟩
end Go.Eng
end

section
namespace Go.Eng
open Go
variable {H : Nat → Prop} [Globs]

/-! ### a round of a loop over a function -/
def setp (env : Env) : List Tmp → List AV → Env
  | p :: ps, a :: as => setp (env.set p a) ps as
  | _, _ => env

theorem setp_sound {w : World} {O : Nat → Prop} {m : Ids} : ∀ (ps : List Tmp) (as : List AV) (vs : List Value) (env : Env) (tmps : Array Value), reps w O m env tmps.toList → reps w O m as vs → ps.length = as.length →
    reps w O m (setp env ps as) ((ps.zip vs).foldl (fun t (p, v) => t.setIfInBounds p v) tmps).toList
  | [], [], vs, env, tmps, he, ha, _ => by simpa [setp] using he
  | p :: ps, a :: as, vs, env, tmps, he, ha, hl => by
    simp only [reps] at ha
    obtain ⟨v, r, rfl, h1, h2⟩ := ha
    simp only [setp, List.zip_cons_cons, List.foldl_cons]
    exact setp_sound ps as r _ _ (by rw [Array.toList_setIfInBounds]; exact reps_set he p h1) h2 (by simpa using hl)
  | [], _ :: _, _, _, _, _, _, hl => by simp at hl
  | _ :: _, [], _, _, _, _, _, hl => by simp at hl

/-- Behind a round's body. -/
def roundQ (id : Nat) (K : AEnd → Store → Prop) : Post := fun x _ σ2 => ∃ e ps as bd, σ2[id]? = some (.lp .busy none e ps as bd) ∧ (match x with
  | .normal => K (.ret (.lit (.bool true))) (σ2.set id (.lp .ready none e ps as bd))
  | .exit i => K (.ret (.lit (.bool false))) (σ2.set id (.lp .done (some (.exit i)) e ps as bd))
  | .ret => K (.ret (.lit (.bool false))) (σ2.set id (.lp .done (some .ret) e ps as bd))
  | .pan _ => False)

/-- Behind the assignment of what is yielded. -/
def assignQ (P : Program) (T : Tab) (n0 : Nat) (id : Nat) (body : Code) (K : AEnd → Store → Prop) : Post := fun x env1 σ1 => match x with
  | .normal => ∃ e ps as, σ1[id]? = some (.lp .ready none e ps as body) ∧ W P T n0 body env1 (σ1.set id (.lp .busy none e ps as body)) (roundQ id K)
  | _ => False

theorem AYield.of {P : Program} {T : Tab} (hT : TabOK P T) {id : Nat} {as : List AV} {σ : Store} {K : AEnd → Store → Prop} {env : List AV} {ps : Array Tmp} {assign body : Code} (hl : σ[id]? = some (.lp .ready none env ps assign body)) (hlen : as.length = ps.size) (hn1 : noRF assign = true) (hn2 : noRF body = true)
    (h : W P T σ.length assign (setp env ps.toList as) σ (assignQ P T σ.length id body K)) : AYield P id as σ K := by
  refine ⟨env, ps, assign, body, hl, hlen, fun H w m vs L g hg hs hr hm hL n => ?_⟩
  obtain ⟨g', e, L', k1, k2, k3, k4, k5, k6, k7⟩ := hs.blk id _ _ hl hm
  cases e
  rw [hL] at k1
  cases k1
  refine roundIn_of_wpIn trivial ?_
  rw [k5, k6]
  have htm : reps w (own H m σ) m (setp env ps.toList as) ((L.params.zip vs).foldl (fun tmps (t, a) => tmps.setIfInBounds t a) L.tmps).toList := by
    have := setp_sound ps.toList as vs.toList env L.tmps k7 hr (by simpa using hlen.symm)
    rw [k4]
    have e2 : ((ps.zip vs).foldl (fun tmps (x : Tmp × Value) => tmps.setIfInBounds x.1 x.2) L.tmps) = ((ps.toList.zip vs.toList).foldl (fun t x => t.setIfInBounds x.1 x.2) L.tmps) := by
      rw [← Array.foldl_toList, Array.toList_zip]
    rw [e2]
    exact this
  have conv := fun (n0 : Nat) (c : Code) (e : Env) (s : Store) (q : Post) (h : W P T n0 c e s q) => (congrFun (congrFun (congrFun (W_base ‹Globs› [] P T n0 c) e) s) q).mpr h
  replace h := conv _ _ _ _ _ h
  letI GB : Globs := onBase ‹Globs› []
  have hw := W_sound (r := some g) (n := n) hT assign _ σ _ w (own H m σ) m { tmps := (L.params.zip vs).foldl (fun tmps (t, a) => tmps.setIfInBounds t a) L.tmps, defers := [] } w m h (.inr hn1) hg hs.len (Ext.refl _ _ _) hs htm Mk.nil
  refine wpIn_mono (show assign.wpIn (Fence.wide.inRound g) n P _ _ _ from hw) ?_
  rintro ex a1 w1 ⟨x1, env1, σ1, m1, s1, e1, r1, d1, xr1, q1⟩
  cases x1 with
  | exit i => exact q1.elim
  | ret => exact q1.elim
  | pan r => exact q1.elim
  | normal =>
  cases ex <;> simp only [xRep] at xr1
  obtain ⟨e', ps', as', hl1, hb⟩ := q1
  have hm1 := e1.ids _ _ hm
  obtain ⟨g', eg, L1, q1, q2, q3, q4, q5, q6, q7⟩ := s1.blk id _ _ hl1 hm1
  cases eg
  refine ⟨_, run_beginRound q1 q2, ?_⟩
  obtain ⟨t1, t2⟩ := s1.loop hl1 hm1 q1 .busy none
  have hw1 : w1.putObj g (.loop { L1 with state := .busy }) = w1.putObj g (.loop { L1 with state := .busy, pending := none }) := by rw [← q3]
  rw [hw1]
  have hw2 := W_sound (r := some g) (n := n) hT body _ _ _ w (own H m σ) m a1 _ m1 (conv _ _ _ _ _ hb) (.inr hn2) hg hs.len (e1.trans t2) t1 (reps_mono t2 _ _ r1) (d1.mono t2)
  refine wpIn_mono (show body.wpIn (Fence.wide.inRound g) n P _ _ _ from hw2) ?_
  rintro ex a2 w2 ⟨x2, env2, σ2, m2, s2, e2, r2, d2, xr2, e3, ps3, as3, bd3, hl2, hk⟩
  have hm2 := e2.ids _ _ hm
  obtain ⟨g', eg, L2, u1, u2, u3, u4, u5, u6, u7⟩ := s2.blk id _ _ hl2 hm2
  cases eg
  have fin : ∀ (jump : Option Code), K (.ret (.lit (.bool jump.isNone))) (σ2.set id (.lp (if jump.isNone then .ready else .done) jump e3 ps3 as3 bd3)) →
      ∃ v w', (Instr.endRound g jump).run P w2 = .ok v w' ∧ ∃ x m' σ', St H w' m' σ' ∧ Ext H w (own H m σ) m w' (own H m' σ') m' ∧ zdc w' (own H m' σ') m' x (.returned v) ∧ K x σ' := by
    intro jump hk
    obtain ⟨t3, t4⟩ := s2.loop hl2 hm2 u1 (if jump.isNone then .ready else .done) jump
    exact ⟨_, _, run_endRound jump u1, .ret (.lit (.bool jump.isNone)), m2, _, t3, e2.trans t4, by simp only [zdc, rep], hk⟩
  cases x2 with
  | normal =>
    cases ex <;> simp only [xRep] at xr2
    exact fin none hk
  | exit i =>
    cases ex <;> simp only [xRep] at xr2
    subst xr2
    exact fin (some (.exit i)) hk
  | ret =>
    cases ex <;> simp only [xRep] at xr2
    exact fin (some .ret) hk
  | pan r => exact hk.elim

/-! ### a call that is handed places of the store -/
/-- The numbers of a greater store's blocks among a smaller one's: those of q; behind them the new ones. -/
def inv (n : Nat) (q : List Nat) (k : Nat) : List Nat :=
  (List.range n).map (fun i => if q.idxOf i < q.length then q.idxOf i else k) ++ List.range' q.length (k - q.length)

/-- The greater store behind the call. -/
def keepF (σ σ0 : Store) (p : List Nat) : List Nat → Nat → Store → Prop
  | [], _, [] => True
  | k :: ks, i, y :: ys => (y = .dead ∨ (∃ x, σ0[k]? = some x ∧ y.ren p = some x) ∨ (σ0.length ≤ k ∧ σ[i]? = some y)) ∧ keepF σ σ0 p ks (i + 1) ys
  | _, _, _ => False

theorem keepF_get {σ σ0 : Store} {p : List Nat} : ∀ {ks : List Nat} {j : Nat} {σ' : Store}, keepF σ σ0 p ks j σ' → σ'.length = ks.length ∧ ∀ (i : Nat) (y : Blk), σ'[i]? = some y →
    y = .dead ∨ (∃ k x, ks[i]? = some k ∧ σ0[k]? = some x ∧ y.ren p = some x) ∨ (∃ k, ks[i]? = some k ∧ σ0.length ≤ k ∧ σ[j + i]? = some y)
  | [], j, [], h => ⟨rfl, fun i y hy => by simp at hy⟩
  | k :: ks, j, y :: ys, h => by
    obtain ⟨h1, h2⟩ := keepF_get h.2
    refine ⟨by simp [h1], fun i z hz => ?_⟩
    cases i with
    | zero =>
      simp at hz
      subst hz
      rcases h.1 with h3 | ⟨x, h3, h4⟩ | ⟨h3, h4⟩
      · exact .inl h3
      · exact .inr (.inl ⟨k, x, by simp, h3, h4⟩)
      · exact .inr (.inr ⟨k, by simp, h3, by simpa using h4⟩)
    | succ i =>
      have := h2 i z (by simpa using hz)
      rw [show j + 1 + i = j + (i + 1) by omega] at this
      simpa using this
  | [], _, _ :: _, h => h.elim
  | _ :: _, _, [], h => h.elim

def AEnd.ren (p : List Nat) : AEnd → AEnd → Prop
  | .ret x, .ret y => x.ren p = some y
  | .pan x, .pan y => x.ren p = some y
  | _, _ => False

theorem inv_get {n k i j : Nat} {q : List Nat} (hk : q.length ≤ k) (h : (inv n q k)[i]? = some j) : (i < n ∧ ((j = q.idxOf i ∧ q[j]? = some i) ∨ (j = k ∧ i ∉ q))) ∨ (n ≤ i ∧ j = q.length + (i - n) ∧ j < k) := by
  unfold inv at h
  rcases Nat.lt_or_ge i n with hi | hi
  · rw [List.getElem?_append_left (by simpa using hi), List.getElem?_map, List.getElem?_range hi] at h
    simp only [Option.map_some, Option.some.injEq] at h
    refine .inl ⟨hi, ?_⟩
    split at h
    · rename_i hlt
      refine .inl ⟨h.symm, ?_⟩
      rw [← h]
      rw [List.getElem?_eq_getElem hlt]
      simp
    · rename_i hlt
      refine .inr ⟨h.symm, fun hm => hlt ?_⟩
      exact List.idxOf_lt_length_of_mem hm
  · rw [List.getElem?_append_right (by simpa using hi)] at h
    simp only [List.length_map, List.length_range] at h
    obtain ⟨h1, h2⟩ := List.getElem?_eq_some_iff.1 h
    simp at h1 h2
    exact .inr ⟨hi, by omega, by omega⟩

theorem ACalls.frame {P : Program} {f : FuncId} {as as0 : List AV} {σ σ0 : Store} {K K0 : AEnd → Store → Prop} (q : List Nat) (h : ACalls P f as0 σ0 K0) (hql : q.length = σ0.length) (hnd : q.Nodup) (hk : zc8 σ q q σ0) (has : renL q as0 = some as)
    (hK : ∀ x0 σ1, K0 x0 σ1 → ∃ x σ', keepF σ σ1 (inv σ.length q σ1.length) (inv σ.length q σ1.length) 0 σ' ∧ AEnd.ren (inv σ.length q σ1.length) x x0 ∧ K x σ') : ACalls P f as σ K := by
  refine fun H w m vs hg hs hr => ?_
  obtain ⟨mq, sq, R, hmq⟩ := hs.ren hql hnd hk
  let H' : Nat → Prop := fun b => own H m σ b ∧ ¬ ∃ (i : Nat) (x : Blk), (σ0[i]? = some x ∧ x.owned = true) ∧ mq[i]? = some (some b)
  have hO : ∀ b, own H' mq σ0 b ↔ own H m σ b := by
    intro b
    constructor
    · rintro (hb | ⟨i, x, hx, hm⟩)
      · exact hb.1
      · exact R.own b (.inr ⟨i, x, hx, hm⟩)
    · intro hb
      by_cases hx : ∃ (i : Nat) (x : Blk), (σ0[i]? = some x ∧ x.owned = true) ∧ mq[i]? = some (some b)
      · exact .inr hx
      · exact .inl ⟨hb, hx⟩
  have hOe : own H' mq σ0 = own H m σ := funext fun b => propext (hO b)
  have R' : Ren (own H m σ) m (own H m σ) mq q := ⟨fun b hb => hb, R.ids, R.le⟩
  have idq : ∀ (i k : Nat), q[i]? = some k → k < σ.length → ∃ y, mq[i]? = some y ∧ m[k]? = some y := by
    intro i k hi hk
    obtain ⟨y, hy⟩ : ∃ y, m[k]? = some y := ⟨m[k]'(by rw [hs.len]; exact hk), by simp⟩
    exact ⟨y, by rw [hmq, List.getElem?_map, hi]; simp [hy], hy⟩
  have orig : ∀ (i : Nat) (x : Blk), σ0[i]? = some x → x = .dead ∨ ∃ k y, q[i]? = some k ∧ x.ren q = some y ∧ σ[k]? = some y := fun i x hx => keepB_get hk i x hx
  have ownren : ∀ (x y : Blk), x.ren q = some y → y.owned = x.owned := by
    intro x y hxy
    cases x <;> simp only [Blk.ren, Option.map_eq_some_iff, Option.some.injEq] at hxy <;> first | (obtain ⟨_, _, rfl⟩ := hxy; rfl) | (subst hxy; rfl)
  have s0 : St H' w mq σ0 := by
    refine ⟨sq.len, fun i x mi hx hmi => ?_, sq.inj, fun b hb => ⟨hs.ownlt hb.1, fun i x hx hm => hb.2 ⟨i, x, hx, hm⟩⟩⟩
    rw [hOe]
    rcases orig i x hx with rfl | ⟨k, y, h1, h2, h3⟩
    · trivial
    · obtain ⟨mi', e1, e2⟩ := idq i k h1 (List.getElem?_eq_some_iff.1 h3).1
      rw [hmi] at e1
      cases e1
      have hb := hs.blk k y mi h3 e2
      cases x with
      | dead => trivial
      | ro cs =>
        simp only [Blk.ren, Option.map_eq_some_iff] at h2
        obtain ⟨cs', h4, rfl⟩ := h2
        rcases hb with rfl | ⟨g, e, hO, hat⟩
        · exact .inl (List.eq_nil_of_length_eq_zero (by rw [← renL_length h4]; rfl))
        · exact .inr ⟨g, e, hO, repAt_ren R' _ _ _ _ h4 hat⟩
      | rw cs =>
        simp only [Blk.ren, Option.map_eq_some_iff] at h2
        obtain ⟨cs', h4, rfl⟩ := h2
        have hl := renL_length h4
        rcases hb with ⟨rfl, e⟩ | ⟨g, c, e, hr, hle, hat⟩
        · exact .inl ⟨List.eq_nil_of_length_eq_zero (by rw [← hl]; rfl), e⟩
        · exact .inr ⟨g, c, e, hr, by omega, repAt_ren R' _ _ _ _ h4 hat⟩
      | rt xx ee cs =>
        simp only [Blk.ren, Option.map_eq_some_iff] at h2
        obtain ⟨cs', h4, rfl⟩ := h2
        have hl := renL_length h4
        rcases hb with ⟨e0, rfl, e⟩ | ⟨g, c, e, hr, hle, hx, hat⟩
        · exact .inl ⟨e0, List.eq_nil_of_length_eq_zero (by rw [← hl]; rfl), e⟩
        · exact .inr ⟨g, c, e, hr, by omega, fun h => by rw [hx h, hl], repAt_ren R' _ _ _ _ h4 hat⟩
      | lp st pend env ps as bd =>
        simp only [Blk.ren, Option.map_eq_some_iff] at h2
        obtain ⟨env', h4, rfl⟩ := h2
        obtain ⟨g, e, L, k1, k2, k3, k4, k5, k6, k7⟩ := hb
        exact ⟨g, e, L, k1, k2, k3, k4, k5, k6, reps_ren R' _ _ _ h4 k7⟩
      | mpb ks vs =>
        simp only [Blk.ren, Option.map_eq_some_iff] at h2
        obtain ⟨vs', h4, rfl⟩ := h2
        obtain ⟨g, e, hM⟩ := hb
        exact ⟨g, e, hM.imp rfl fun _ hl => reps_ren R' _ _ _ h4 hl⟩
  have r0 : reps w (own H' mq σ0) mq as0 vs.toList := by rw [hOe]; exact reps_ren R' _ _ _ has hr
  refine (h H' w mq vs (by rw [hOe]; exact hg) s0 r0).mono ?_
  rintro e w' ⟨x0, m1, σ1, g1, g2, g3, g4⟩
  rw [hOe] at g2
  obtain ⟨x, σ', k1, k2, k3⟩ := hK x0 σ1 g4
  have hkle : q.length ≤ σ1.length := by rw [← g1.len]; have := g2.idlen; rw [sq.len] at this; omega
  obtain ⟨hlen, hget⟩ := keepF_get k1
  generalize hp : inv σ.length q σ1.length = p at k1 k2 hlen hget
  have pg : ∀ (i j : Nat), p[i]? = some j → (i < σ.length ∧ ((j = q.idxOf i ∧ q[j]? = some i) ∨ (j = σ1.length ∧ i ∉ q))) ∨ (σ.length ≤ i ∧ j = q.length + (i - σ.length) ∧ j < σ1.length) := fun i j hij => inv_get hkle (by rw [hp]; exact hij)
  have plen : p.length = σ.length + (σ1.length - q.length) := by rw [← hp]; simp [inv]
  let m2 : Ids := m ++ m1.drop q.length
  have m2len : m2.length = p.length := by simp [m2, plen, hs.len, g1.len]
  have m2l : ∀ i, i < σ.length → m2[i]? = m[i]? := fun i hi => by simp only [m2]; rw [List.getElem?_append_left (by rw [hs.len]; exact hi)]
  have agree : ∀ (i j : Nat), p[i]? = some j → j < σ1.length → m2[i]? = m1[j]? := by
    intro i j hij hj
    rcases pg i j hij with ⟨hi, ⟨_, h1⟩ | ⟨h1, _⟩⟩ | ⟨hi, h1, _⟩
    · rw [m2l i hi]
      obtain ⟨y, e1, e2⟩ := idq j i h1 hi
      rw [e2, g2.ids _ _ e1]
    · omega
    · simp only [m2]
      rw [List.getElem?_append_right (by rw [hs.len]; exact hi), List.getElem?_drop, hs.len, h1]
  have ownren' : ∀ (x y : Blk), x.ren p = some y → y.owned = x.owned := by
    intro x y hxy
    cases x <;> simp only [Blk.ren, Option.map_eq_some_iff, Option.some.injEq] at hxy <;> first | (obtain ⟨_, _, rfl⟩ := hxy; rfl) | (subst hxy; rfl)
  have own2 : ∀ (i : Nat) (y : Blk) (b : Nat), (σ'[i]? = some y ∧ y.owned = true) → m2[i]? = some (some b) → (i < σ.length ∧ i ∉ q ∧ σ[i]? = some y ∧ m[i]? = some (some b)) ∨ (∃ j x, p[i]? = some j ∧ (σ1[j]? = some x ∧ x.owned = true) ∧ m1[j]? = some (some b)) := by
    rintro i y b ⟨hy, ho⟩ hb
    rcases hget i y hy with rfl | ⟨j, x, h1, h2, h3⟩ | ⟨j, h1, h2, h3⟩
    · cases ho
    · refine .inr ⟨j, x, h1, ⟨h2, by rw [ownren' _ _ h3]; exact ho⟩, ?_⟩
      rw [← agree i j h1 (List.getElem?_eq_some_iff.1 h2).1]; exact hb
    · rw [Nat.zero_add] at h3
      have hi := (List.getElem?_eq_some_iff.1 h3).1
      rcases pg i j h1 with ⟨_, ⟨h4, h5⟩ | ⟨_, h5⟩⟩ | ⟨h4, _⟩
      · have := (List.getElem?_eq_some_iff.1 h5).1
        omega
      · exact .inl ⟨hi, h5, h3, by rw [← m2l i hi]; exact hb⟩
      · omega
  have frm : ∀ (i : Nat) (y : Blk) (b : Nat), i ∉ q → σ[i]? = some y → y.owned = true → m[i]? = some (some b) → H' b := by
    intro i y b hi hy ho hb
    refine ⟨.inr ⟨i, y, ⟨hy, ho⟩, hb⟩, ?_⟩
    rintro ⟨j, x, ⟨hx, hxo⟩, hm⟩
    rcases orig j x hx with rfl | ⟨k, z, h1, h2, h3⟩
    · cases hxo
    · obtain ⟨y', e1, e2⟩ := idq j k h1 (List.getElem?_eq_some_iff.1 h3).1
      rw [hm] at e1
      cases e1
      have := hs.inj i k y z b ⟨hy, ho⟩ ⟨h3, by rw [ownren _ _ h2]; exact hxo⟩ hb e2
      subst this
      exact hi (List.mem_of_getElem? h1)
  have HH : ∀ b, H b → H' b := fun b hb => ⟨.inl hb, by
    rintro ⟨j, x, ⟨hx, hxo⟩, hm⟩
    rcases orig j x hx with rfl | ⟨k, z, h1, h2, h3⟩
    · cases hxo
    · obtain ⟨y', e1, e2⟩ := idq j k h1 (List.getElem?_eq_some_iff.1 h3).1
      rw [hm] at e1
      cases e1
      exact (hs.hid b hb).2 k z ⟨h3, by rw [ownren _ _ h2]; exact hxo⟩ e2⟩
  have own3 : ∀ b, own H m2 σ' b → own H' m1 σ1 b := by
    rintro b (hb | ⟨i, y, hy, hm⟩)
    · exact .inl (HH b hb)
    · rcases own2 i y b hy hm with ⟨h1, h2, h3, h4⟩ | ⟨j, x, h1, h2, h3⟩
      · exact .inl (frm i y b h2 h3 hy.2 h4)
      · exact .inr ⟨j, x, h2, h3⟩
  have ext : Ext H w (own H m σ) m w' (own H m2 σ') m2 := by
    refine ⟨g2.heap, g2.same, fun b hb => g2.own b (own3 b hb), fun i y hy => ?_, g2.rows, g2.os, g2.tape, g2.output, fun b hb => g2.hid b (HH b hb)⟩
    rw [m2l i (by rw [← hs.len]; exact (List.getElem?_eq_some_iff.1 hy).1)]
    exact hy
  have R2 : Ren (own H' m1 σ1) m1 (own H m2 σ') m2 p := by
    refine ⟨own3, fun i j g hij hg' => ?_, by rw [m2len]; exact Nat.le_refl _⟩
    rw [agree i j hij (by rw [← g1.len]; exact (List.getElem?_eq_some_iff.1 hg').1)]
    exact hg'
  refine ⟨x, m2, σ', ⟨by rw [m2len, hlen], fun i y mi hy hmi => ?_, fun i j y z b hy hz hmi hmj => ?_, fun b hb => ⟨Nat.lt_of_lt_of_le (hs.hid b hb).1 g2.heap, fun i y hy hm => ?_⟩⟩, ext, ?_, k3⟩
  · rcases hget i y hy with rfl | ⟨j, x1, h1, h2, h3⟩ | ⟨j, h1, h2, h3⟩
    · trivial
    · have hmj : m1[j]? = some mi := by rw [← agree i j h1 (List.getElem?_eq_some_iff.1 h2).1]; exact hmi
      have hb := g1.blk j x1 mi h2 hmj
      cases y with
      | dead => trivial
      | ro cs =>
        simp only [Blk.ren, Option.map_eq_some_iff] at h3
        obtain ⟨cs', h4, rfl⟩ := h3
        rcases hb with rfl | ⟨g, e, hO, hat⟩
        · exact .inl (List.eq_nil_of_length_eq_zero (by rw [← renL_length h4]; rfl))
        · exact .inr ⟨g, e, fun ho => hO (own3 _ ho), repAt_ren R2 _ _ _ _ h4 hat⟩
      | rw cs =>
        simp only [Blk.ren, Option.map_eq_some_iff] at h3
        obtain ⟨cs', h4, rfl⟩ := h3
        have hl := renL_length h4
        rcases hb with ⟨rfl, e⟩ | ⟨g, c, e, hr, hle, hat⟩
        · exact .inl ⟨List.eq_nil_of_length_eq_zero (by rw [← hl]; rfl), e⟩
        · exact .inr ⟨g, c, e, hr, by omega, repAt_ren R2 _ _ _ _ h4 hat⟩
      | rt xx ee cs =>
        simp only [Blk.ren, Option.map_eq_some_iff] at h3
        obtain ⟨cs', h4, rfl⟩ := h3
        have hl := renL_length h4
        rcases hb with ⟨e0, rfl, e⟩ | ⟨g, c, e, hr, hle, hx, hat⟩
        · exact .inl ⟨e0, List.eq_nil_of_length_eq_zero (by rw [← hl]; rfl), e⟩
        · exact .inr ⟨g, c, e, hr, by omega, fun h => by rw [hx h, hl], repAt_ren R2 _ _ _ _ h4 hat⟩
      | lp st pend env ps as bd =>
        simp only [Blk.ren, Option.map_eq_some_iff] at h3
        obtain ⟨env', h4, rfl⟩ := h3
        obtain ⟨g, e, L, k1, k2, k3, k4, k5, k6, k7⟩ := hb
        exact ⟨g, e, L, k1, k2, k3, k4, k5, k6, reps_ren R2 _ _ _ h4 k7⟩
      | mpb ks vs =>
        simp only [Blk.ren, Option.map_eq_some_iff] at h3
        obtain ⟨vs', h4, rfl⟩ := h3
        obtain ⟨g, e, hM⟩ := hb
        exact ⟨g, e, hM.imp rfl fun _ hl => reps_ren R2 _ _ _ h4 hl⟩
    · rw [Nat.zero_add] at h3
      have hi := (List.getElem?_eq_some_iff.1 h3).1
      have hnq : i ∉ q := by
        rcases pg i j h1 with ⟨_, ⟨_, h5⟩ | ⟨_, h5⟩⟩ | ⟨h4, _⟩
        · have := (List.getElem?_eq_some_iff.1 h5).1
          omega
        · exact h5
        · omega
      have hmi' : m[i]? = some mi := by rw [← m2l i hi]; exact hmi
      have hb := hs.blk i y mi h3 hmi'
      cases y with
      | dead => trivial
      | ro cs =>
        rcases hb with h4 | ⟨g, e, hO, hat⟩
        · exact .inl h4
        · by_cases hcs : cs = []
          · exact .inl hcs
          · have hlt := repAt_block hat hcs
            exact .inr ⟨g, e, fun ho => (ext.own g ho).elim hO (fun h => by omega), repAt_move ext g (g2.same g hlt hO) _ _ hat⟩
      | rw cs =>
        rcases hb with h4 | ⟨g, c, e, hr, hle, hat⟩
        · exact .inl h4
        · subst e
          have hh := g2.hid g (frm i _ g hnq h3 rfl hmi')
          exact .inr ⟨g, c, rfl, hr.move hh, hle, repAt_move ext g hh _ _ hat⟩
      | rt xx ee cs =>
        rcases hb with h4 | ⟨g, c, e, hr, hle, hx, hat⟩
        · exact .inl h4
        · subst e
          have hh := g2.hid g (frm i _ g hnq h3 rfl hmi')
          exact .inr ⟨g, c, rfl, hr.move hh, hle, hx, repAt_move ext g hh _ _ hat⟩
      | lp st pend env ps as bd =>
        obtain ⟨g, e, h4⟩ := hb
        subst e
        exact ⟨g, rfl, h4.move ext (g2.hid g (frm i _ g hnq h3 rfl hmi'))⟩
      | mpb ks vs =>
        obtain ⟨g, e, h4⟩ := hb
        subst e
        exact ⟨g, rfl, h4.move ext (g2.hid g (frm i _ g hnq h3 rfl hmi'))⟩
  · rcases own2 i y b hy hmi with ⟨h1, h2, h3, h4⟩ | ⟨a, x1, h1, h2, h3⟩ <;> rcases own2 j z b hz hmj with ⟨h5, h6, h7, h8⟩ | ⟨c, x2, h5, h6, h7⟩
    · exact hs.inj i j y z b ⟨h3, hy.2⟩ ⟨h7, hz.2⟩ h4 h8
    · exact absurd h7 ((g1.hid b (frm i y b h2 h3 hy.2 h4)).2 c x2 h6)
    · exact absurd h3 ((g1.hid b (frm j z b h6 h7 hz.2 h8)).2 a x1 h2)
    · have := g1.inj a c x1 x2 b h2 h6 h3 h7
      subst this
      have ha := (List.getElem?_eq_some_iff.1 h2.1).1
      rcases pg i a h1 with ⟨_, ⟨_, h8⟩ | ⟨h8, _⟩⟩ | ⟨h8, h9, _⟩ <;> rcases pg j a h5 with ⟨_, ⟨_, h10⟩ | ⟨h10, _⟩⟩ | ⟨h10, h11, _⟩
      · rw [h8] at h10; cases h10; rfl
      · omega
      · have := (List.getElem?_eq_some_iff.1 h8).1; omega
      · omega
      · omega
      · omega
      · have := (List.getElem?_eq_some_iff.1 h10).1; omega
      · omega
      · omega
  · rcases own2 i y b hy hm with ⟨h1, h2, h3, h4⟩ | ⟨j, x1, h1, h2, h3⟩
    · exact (hs.hid b hb).2 i y ⟨h3, hy.2⟩ h4
    · exact (g1.hid b (HH b hb)).2 j x1 h2 h3
  · cases x <;> cases x0 <;> simp only [AEnd.ren] at k2 <;> cases e <;> simp only [zdc] at g3 ⊢
    · exact rep_ren R2 _ _ _ k2 g3
    · obtain ⟨v, e1, h2⟩ := g3
      exact ⟨v, e1, rep_ren R2 _ _ _ k2 h2⟩
end Go.Eng
end

section
namespace Go.Eng
open Go

/-! ### a table of types, checked by program -/
def TD.fitsB : TD → TypeDesc → Bool
  | .bool, .bool => true
  | .int k, .int k' => decide (k = k')
  | .str, .string => true
  | .slice e, .slice e' => e == e'
  | .array n e, .array n' e' => n == n' && e == e'
  | .ptr e, .pointer e' => e == e'
  | .struct fs, .struct gs => gs.toList.map (fun f => (f.type, f.offset)) == fs
  | .bld fs, .struct gs => gs.toList.map (fun f => (f.type, f.offset)) == fs
  | .iface, .interface _ => true
  | .map k e, .map k' e' => k == k' && e == e'
  | .other, .struct _ => false
  | .other, .array _ _ => false
  | .other, _ => true
  | _, _ => false

theorem TD.fits_of {x : TD} {d : TypeDesc} (h : x.fitsB d = true) : x.fits d := by
  cases x <;> cases d <;> simp only [TD.fitsB, Bool.false_eq_true, Bool.and_eq_true, beq_iff_eq, decide_eq_true_eq] at h <;> simp only [TD.fits] <;> first
    | rfl
    | (subst h; rfl)
    | (obtain ⟨rfl, rfl⟩ := h; rfl)
    | exact ⟨_, rfl, h⟩
    | exact ⟨_, rfl⟩
    | trivial

def eqV : Value → Value → Bool
  | .bool a, .bool b => a == b
  | .int k a, .int k' b => decide (k = k') && decide (a = b)
  | .string a, .string b => decide (a.data.toList = b.data.toList)
  | .pointer none, .pointer none => true
  | .slice none 0 0, .slice none 0 0 => true
  | .map none, .map none => true
  | .nilFunc, .nilFunc => true
  | .nilIface, .nilIface => true
  | _, _ => false

theorem eqV_eq {a b : Value} (h : eqV a b = true) : a = b := by
  unfold eqV at h
  split at h <;> first | rfl | (cases h; done) | skip
  · simp at h; rw [h]
  · simp at h; obtain ⟨rfl, rfl⟩ := h; rfl
  · rename_i x y
    simp only [decide_eq_true_eq] at h
    have : x.data = y.data := Array.ext' h
    obtain ⟨x⟩ := x
    obtain ⟨y⟩ := y
    simp only at this
    rw [this]

def eqVs : List Value → List Value → Bool
  | [], [] => true
  | a :: l, b :: r => eqV a b && eqVs l r
  | _, _ => false

theorem eqVs_eq : ∀ {l r : List Value}, eqVs l r = true → l = r
  | [], [], _ => rfl
  | a :: l, b :: r, h => by
    simp only [eqVs, Bool.and_eq_true] at h
    rw [eqV_eq h.1, eqVs_eq h.2]
  | [], _ :: _, h => by cases h
  | _ :: _, [], h => by cases h

def chk (P : Program) (t : TypeId) (ti : TI) : Bool :=
  match P.underlying t, P.info? t with
  | some d, some i => ti.d.fitsB d && i.size == ti.size && i.bytes == ti.bytes && (match i.zero with | some z => eqVs z.cells.toList ti.zero | none => false) && (!ti.eqs || (!P.stoodInHeld t && match d with | .struct gs => gs.toList.all fun g => g.name != "_" | _ => true))
  | _, _ => false

theorem chk_ok {P : Program} {t : TypeId} {ti : TI} (h : chk P t ti = true) : TyOK P t ti := by
  unfold chk at h
  split at h
  · rename_i d i hd hi
    simp only [Bool.and_eq_true, beq_iff_eq] at h
    obtain ⟨⟨⟨⟨h1, h2⟩, h3⟩, h4⟩, h5⟩ := h
    refine ⟨fun he => ?_, ⟨d, hd, TD.fits_of h1⟩, i, hi, h2, h3, ?_⟩
    · rw [he] at h5
      simp only [Bool.not_true, Bool.false_or, Bool.and_eq_true, Bool.not_eq_true'] at h5
      refine ⟨h5.1, fun gs hg g hm => ?_⟩
      rw [hd] at hg
      cases hg
      exact List.all_eq_true.1 h5.2 g hm
    split at h4
    · rename_i z hz
      exact ⟨z, hz, eqVs_eq h4⟩
    · cases h4
  · cases h

def tabOf (l : List (TypeId × TI)) : Tab := fun t => l.lookup t

theorem tabOf_ok {P : Program} {l : List (TypeId × TI)} (h : l.all (fun p => chk P p.1 p.2) = true) : TabOK P (tabOf l) := by
  intro t ti ht
  unfold tabOf at ht
  induction l with
  | nil => simp at ht
  | cons p l ih =>
    simp only [List.all_cons, Bool.and_eq_true] at h
    rw [List.lookup_cons] at ht
    split at ht
    · rename_i he
      simp only [beq_iff_eq] at he
      cases ht
      rw [he]
      exact chk_ok h.1
    · exact ih h.2 ht
end Go.Eng
end

section
namespace Go.Eng
open Go

/-! ### the steps, as equations -/
def wcond (x : AV) (A B : Env → Store → Prop) (env : Env) (σ : Store) : Prop :=
  match x with
  | .lit (.bool p) => (p = true → A env σ) ∧ (p = false → B env σ)
  | _ => False
theorem wcond_true (A B : Env → Store → Prop) (env : Env) (σ : Store) : wcond (.lit (.bool true)) A B env σ = A env σ := by simp [wcond]
theorem wcond_false (A B : Env → Store → Prop) (env : Env) (σ : Store) : wcond (.lit (.bool false)) A B env σ = B env σ := by simp [wcond]
theorem wcond_dec (p : Prop) [Decidable p] (A B : Env → Store → Prop) (env : Env) (σ : Store) : wcond (.lit (.bool (decide p))) A B env σ = ((p → A env σ) ∧ (¬ p → B env σ)) := by simp [wcond]
theorem wcond_any (p : Bool) (A B : Env → Store → Prop) (env : Env) (σ : Store) : wcond (.lit (.bool p)) A B env σ = ((p = true → A env σ) ∧ (p = false → B env σ)) := rfl

section
variable [Globs] {P : Program} {T : Tab} {n0 : Nat}

def kont (P : Program) (T : Tab) (n0 : Nat) (c : Code) (Q : Post) (env : Env) (σ : Store) : Prop := W P T n0 c env σ Q
theorem kont_eq (c : Code) (Q : Post) (env : Env) (σ : Store) : kont P T n0 c Q env σ = W P T n0 c env σ Q := rfl

theorem W_skip (env : Env) (σ : Store) (Q : Post) : W P T n0 .skip env σ Q = Q .normal env σ := rfl
theorem W_region (id : Nat) (l : List Oper) (env : Env) (σ : Store) (Q : Post) : W P T n0 (.region id l.toArray false) env σ Q = wops P T l.toArray l env σ Q := by simp [W]
theorem W_draw {id : Nat} {l : List Oper} {env : Env} {σ : Store} {Q : Post} (h1 : P.follows .mixedOrders = true) (h2 : okDraw l.toArray = true) (h3 : wq P T l.toArray σ l env (atN Q σ)) : W P T n0 (.region id l.toArray true) env σ Q := by
  simp only [W]
  exact .inl ⟨h1, h2, [], rfl, h3⟩
/-- What comes behind a run of quiet operations: one that may have effects. -/
def wdE (P : Program) (T : Tab) (ops : Array Oper) (ks : List Nat) (σ : Store) (Q : Post) : List Oper → Env → Prop
  | [], _ => False
  | o :: rest, e => wguard ops e o.guard (Wop P T o.op (aeval e) σ (opsK (wd P T ops ks rest) e o.dst Q) (panK e Q)) (wd P T ops ks rest (aput e o.dst (.lit undef)) σ Q)
theorem wd_nil (ops : Array Oper) (l : List Oper) (env : Env) (σ : Store) (Q : Post) : wd P T ops [] l env σ Q = wq P T ops σ l env (atN Q σ) := rfl
theorem wd_cons (ops : Array Oper) (k : Nat) (ks : List Nat) (l : List Oper) (env : Env) (σ : Store) (Q : Post) : wd P T ops (k :: ks) l env σ Q = wq P T ops σ (l.take k) env (wdE P T ops ks σ Q (l.drop k)) := by
  simp only [wd]
  congr 1
  funext e
  cases l.drop k <;> rfl
theorem wdE_one (ops : Array Oper) (ks : List Nat) (d : Option Tmp) (op : Op) (ty : TypeId) (pos : String) (after : Array Edge) (rest : List Oper) (env : Env) (σ : Store) (Q : Post) : wdE P T ops ks σ Q ({ dst := d, op := op, type := ty, pos := pos, after := after, guard := none } :: rest) env =
    Wop P T op (aeval env) σ (opsK (wd P T ops ks rest) env d Q) (panK env Q) := rfl
theorem W_drawE (ks : List Nat) {id : Nat} {l : List Oper} {env : Env} {σ : Store} {Q : Post} (h1 : P.follows .mixedOrders = true) (h2 : okDraw l.toArray = true) (h4 : okSolid l.toArray 0 ks = true) (h3 : wd P T l.toArray ks l env σ Q) : W P T n0 (.region id l.toArray true) env σ Q := by
  simp only [W]
  exact .inl ⟨h1, h2, ks, h4, by simpa using h3⟩
/-- Order by order, to a frame that does not tell which one it was. -/
theorem W_drawT (t : Tr) (E : Env) (S : Store) {id : Nat} {l : List Oper} {env : Env} {σ : Store} {Q : Post} (h1 : P.follows .mixedOrders = true) (h2 : mkTree l.toArray l.toArray.size (allOff l.toArray) = t) (h3 : wtree P T l.toArray t env σ (fitQ n0 E S)) (h4 : Q .normal E S) : W P T n0 (.region id l.toArray true) env σ Q := by
  simp only [W]
  exact .inr (.inl ⟨h1, E, S, by rw [h2]; exact h3, h4⟩)
/-- One variable is made at any time ahead of place k. -/
theorem W_drawF (f k : Nat) (ks : List Nat) (d : Tmp) (e : TypeId) {id : Nat} {l : List Oper} {env : Env} {σ : Store} {Q : Post} (h1 : P.follows .mixedOrders = true) (h2 : okDraw l.toArray = true) (h4 : okF l.toArray f k ks d e = true) (h3 : wq P T l.toArray σ (l.take f) env (wdM P T l.toArray σ Q ks ((l.take k).drop (f + 1)) (l.drop k) d (T e))) : W P T n0 (.region id l.toArray true) env σ Q := by
  simp only [W]
  exact .inr (.inr (.inl ⟨h1, h2, f, k, ks, d, e, h4, by simpa using h3⟩))
/-- One variable is made at any time ahead of the store into it; what does not touch it may be done behind the store. -/
theorem W_drawS (f p : Nat) (d : Tmp) (e : TypeId) (bs : Tmp) {id : Nat} {l : List Oper} {env : Env} {σ : Store} {Q : Post} (h1 : P.follows .mixedOrders = true) (h2 : okDraw l.toArray = true) (h4 : okS l.toArray f p d e bs = true) (h5 : d < env.length) (h3 : wq P T l.toArray σ (l.take f) env (wS1 P T l.toArray σ Q ((l.take p).drop (f + 1)) (l.drop (p + 1)) d bs (T e))) : W P T n0 (.region id l.toArray true) env σ Q := by
  simp only [W]
  exact .inr (.inr (.inr ⟨h1, h2, f, p, d, e, bs, h4, h5, by simpa using h3⟩))
theorem wS1_some (ops : Array Oper) (σ : Store) (Q : Post) (mid rest : List Oper) (d bs : Tmp) (te : TI) (env : Env) : wS1 P T ops σ Q mid rest d bs (some te) env = wq P T ops σ mid (env.set d .bot) (wS2 P T ops σ Q rest d bs te) := rfl
theorem wS2_eq (ops : Array Oper) (σ : Store) (Q : Post) (rest : List Oper) (d bs : Tmp) (te : TI) (env : Env) : wS2 P T ops σ Q rest d bs te env = wS3 P T ops σ Q rest d te ((env[bs]?).getD .bot) env := rfl
theorem wS4_eq (σ : Store) (Q : Post) (d : Tmp) (x : AV) (env : Env) : wS4 σ Q d x env = Q .normal (env.set d (.ptr σ.length 0)) (σ ++ [.rw x.cells]) := rfl
theorem wdM_some (ops : Array Oper) (σ : Store) (Q : Post) (ks : List Nat) (mid rest : List Oper) (d : Tmp) (te : TI) (env : Env) : wdM P T ops σ Q ks mid rest d (some te) env = wq P T ops σ mid (env.set d .bot) (wdL P T ops σ Q ks rest d te.zero) := rfl
theorem wdL_eq (ops : Array Oper) (σ : Store) (Q : Post) (ks : List Nat) (rest : List Oper) (d : Tmp) (z : List Value) (env : Env) : wdL P T ops σ Q ks rest d z env = wd P T ops ks rest (env.set d (.ptr σ.length 0)) (σ ++ [.rw (zc3 z)]) Q := rfl
def treeK (P : Program) (T : Tab) (ops : Array Oper) (t : Tr) (env : Env) (d : Option Tmp) (Q : Post) : AV → Store → Prop := fun v σ' => wtree P T ops t (aput env d v) σ' Q
theorem treeK_eq (ops : Array Oper) (t : Tr) (env : Env) (d : Option Tmp) (Q : Post) (v : AV) (σ : Store) : treeK P T ops t env d Q v σ = wtree P T ops t (aput env d v) σ Q := rfl
def wtop (P : Program) (T : Tab) (ops : Array Oper) (o : Option Oper) (t : Tr) (env : Env) (σ : Store) (Q : Post) : Prop := match o with
  | some o => wguard ops env o.guard (Wop P T o.op (aeval env) σ (treeK P T ops t env o.dst Q) (panK env Q)) (wtree P T ops t (aput env o.dst (.lit undef)) σ Q)
  | none => False
theorem wtree_done (ops : Array Oper) (env : Env) (σ : Store) (Q : Post) : wtree P T ops .done env σ Q = Q .normal env σ := rfl
theorem wtree_nil (ops : Array Oper) (env : Env) (σ : Store) (Q : Post) : wtree P T ops .nil env σ Q = True := rfl
theorem wtree_br (l : List Oper) (i : Nat) (t r : Tr) (env : Env) (σ : Store) (Q : Post) : wtree P T l.toArray (.br i t r) env σ Q = (wtop P T l.toArray (l[i]?) t env σ Q ∧ wtree P T l.toArray r env σ Q) := by
  rw [← List.getElem?_toArray]; rfl
theorem wtop_some (ops : Array Oper) (d : Option Tmp) (op : Op) (ty : TypeId) (pos : String) (after : Array Edge) (t : Tr) (env : Env) (σ : Store) (Q : Post) : wtop P T ops (some { dst := d, op := op, type := ty, pos := pos, after := after, guard := none }) t env σ Q = Wop P T op (aeval env) σ (treeK P T ops t env d Q) (panK env Q) := rfl
theorem fitQ_eq (E : Env) (S : Store) (env : Env) (σ : Store) : fitQ n0 E S .normal env σ = fits n0 env σ E S := rfl
theorem atN_eq (Q : Post) (σ : Store) (e : Env) : atN Q σ e = Q .normal e σ := rfl
theorem W_seq (a b : Code) (env : Env) (σ : Store) (Q : Post) : W P T n0 (.seq a b) env σ Q = W P T n0 a env σ (seqQ (kont P T n0 b Q) Q) := rfl
theorem W_cond (c : Operand) (a b : Code) (env : Env) (σ : Store) (Q : Post) : W P T n0 (.cond c a b) env σ Q = wcond (aeval env c) (kont P T n0 a Q) (kont P T n0 b Q) env σ := rfl
theorem W_block (id : Nat) (c : Code) (env : Env) (σ : Store) (Q : Post) : W P T n0 (.block id c) env σ Q = W P T n0 c env σ (blockQ id Q) := rfl
theorem W_loop (c : Code) (env : Env) (σ : Store) (Q : Post) : W P T n0 (.loop c) env σ Q = wloop n0 (W P T n0 c) env σ Q := rfl
theorem W_exit (id : Nat) (env : Env) (σ : Store) (Q : Post) : W P T n0 (.exit id) env σ Q = Q (.exit id) env σ := rfl
def wrange (P : Program) (x : AV) (ps : Array Tmp) (assign body : Code) (env : Env) (σ : Store) (Q : Post) : Prop :=
  match x with
  | .fn (.func gf) [] cap => callable P gf = true ∧ ACalls P gf (.yl σ.length :: cap) (σ ++ [.lp .ready none env ps assign body]) (rangeK env σ.length Q)
  | _ => False
theorem W_range (g : Operand) (ps : Array Tmp) (assign body : Code) (env : Env) (σ : Store) (Q : Post) : W P T n0 (.rangeFunc g ps assign body) env σ Q = wrange P (aeval env g) ps assign body env σ Q := rfl
theorem wrange_fn (gf : FuncId) (cap : List AV) (ps : Array Tmp) (assign body : Code) (env : Env) (σ : Store) (Q : Post) : wrange P (.fn (.func gf) [] cap) ps assign body env σ Q = (callable P gf = true ∧ ACalls P gf (.yl σ.length :: cap) (σ ++ [.lp .ready none env ps assign body]) (rangeK env σ.length Q)) := rfl
theorem W_ret (env : Env) (σ : Store) (Q : Post) : W P T n0 .ret env σ Q = Q .ret env σ := rfl

theorem seqQ_normal (n : Env → Store → Prop) (Q : Post) (env : Env) (σ : Store) : seqQ n Q .normal env σ = n env σ := rfl
theorem seqQ_exit (n : Env → Store → Prop) (Q : Post) (i : Nat) (env : Env) (σ : Store) : seqQ n Q (.exit i) env σ = Q (.exit i) env σ := rfl
theorem seqQ_ret (n : Env → Store → Prop) (Q : Post) (env : Env) (σ : Store) : seqQ n Q .ret env σ = Q .ret env σ := rfl
theorem seqQ_pan (n : Env → Store → Prop) (Q : Post) (r : AV) (env : Env) (σ : Store) : seqQ n Q (.pan r) env σ = Q (.pan r) env σ := rfl
theorem blockQ_normal (id : Nat) (Q : Post) (env : Env) (σ : Store) : blockQ id Q .normal env σ = Q .normal env σ := rfl
theorem blockQ_exit (id i : Nat) (Q : Post) (env : Env) (σ : Store) : blockQ id Q (.exit i) env σ = if i = id then Q .normal env σ else Q (.exit i) env σ := rfl
theorem blockQ_ret (id : Nat) (Q : Post) (env : Env) (σ : Store) : blockQ id Q .ret env σ = Q .ret env σ := rfl
theorem blockQ_pan (id : Nat) (Q : Post) (r : AV) (env : Env) (σ : Store) : blockQ id Q (.pan r) env σ = Q (.pan r) env σ := rfl
theorem loopQ_normal {ι : Type} (I : ι → Prop) (E : ι → Env) (S : ι → Store) (μ : ι → Nat) (i : ι) (Q : Post) (env : Env) (σ : Store) : loopQ n0 I E S μ i Q .normal env σ = ∃ j, I j ∧ μ j < μ i ∧ fits n0 env σ (E j) (S j) := rfl
theorem loopQ_exit {ι : Type} (I : ι → Prop) (E : ι → Env) (S : ι → Store) (μ : ι → Nat) (i : ι) (Q : Post) (k : Nat) (env : Env) (σ : Store) : loopQ n0 I E S μ i Q (.exit k) env σ = Q (.exit k) env σ := rfl
theorem loopQ_ret {ι : Type} (I : ι → Prop) (E : ι → Env) (S : ι → Store) (μ : ι → Nat) (i : ι) (Q : Post) (env : Env) (σ : Store) : loopQ n0 I E S μ i Q .ret env σ = Q .ret env σ := rfl
theorem loopQ_pan {ι : Type} (I : ι → Prop) (E : ι → Env) (S : ι → Store) (μ : ι → Nat) (i : ι) (Q : Post) (r : AV) (env : Env) (σ : Store) : loopQ n0 I E S μ i Q (.pan r) env σ = Q (.pan r) env σ := rfl

theorem wops_nil (ops : Array Oper) (env : Env) (σ : Store) (Q : Post) : wops P T ops [] env σ Q = Q .normal env σ := rfl
theorem wops_cons (ops : Array Oper) (o : Oper) (rest : List Oper) (env : Env) (σ : Store) (Q : Post) : wops P T ops (o :: rest) env σ Q =
    wguard ops env o.guard (Wop P T o.op (aeval env) σ (opsK (wops P T ops rest) env o.dst Q) (panK env Q)) (wops P T ops rest (aput env o.dst (.lit undef)) σ Q) := rfl
theorem wops_one (ops : Array Oper) (d : Option Tmp) (op : Op) (ty : TypeId) (pos : String) (after : Array Edge) (rest : List Oper) (env : Env) (σ : Store) (Q : Post) : wops P T ops ({ dst := d, op := op, type := ty, pos := pos, after := after, guard := none } :: rest) env σ Q =
    Wop P T op (aeval env) σ (opsK (wops P T ops rest) env d Q) (panK env Q) := rfl
theorem opsK_eq (rest : Env → Store → Post → Prop) (env : Env) (d : Option Tmp) (Q : Post) (v : AV) (σ : Store) : opsK rest env d Q v σ = rest (aput env d v) σ Q := rfl
theorem panK_eq (env : Env) (Q : Post) (v : AV) (σ : Store) : panK env Q v σ = Q (.pan v) env σ := rfl
theorem aput_some (env : Env) (d : Tmp) (v : AV) : aput env (some d) v = env.set d v := rfl
theorem aput_none (env : Env) (v : AV) : aput env none v = env := rfl
theorem aeval_glob {g : Nat} {cs : List Value} (h : Globs.tab g = some cs) (env : Env) : aeval env (.global g) = .rp (cs.map .lit) := by simp only [aeval, h]
theorem aeval_tmp (env : Env) (t : Tmp) : aeval env (.tmp t) = (env[t]?).getD .bot := rfl
theorem aeval_func (env : Env) (f : FuncId) : aeval env (.func f) = .fn (.func f) [] [] := rfl
theorem aeval_const (env : Env) (v : Value) : aeval env (.const v) = ofVal v := rfl
theorem ofVal_int (k : IntKind) (n : Int) : ofVal (.int k n) = .lit (.int k n) := rfl
theorem ofVal_bool (b : Bool) : ofVal (.bool b) = .lit (.bool b) := rfl
theorem ofVal_string (s : ByteArray) : ofVal (.string s) = .lit (.string s) := rfl
theorem ofVal_slice (a : Option Addr) (l c : Nat) : ofVal (.slice a l c) = .lit (.slice a l c) := rfl
theorem ofVal_pointer (a : Option Addr) : ofVal (.pointer a) = .lit (.pointer a) := rfl
theorem ofVal_nilFunc : ofVal .nilFunc = .lit .nilFunc := rfl
theorem ofVal_nilIface : ofVal .nilIface = .lit .nilIface := rfl
theorem ofVal_map (r : Option Nat) : ofVal (.map r) = .lit (.map r) := rfl
theorem ofVal_agg (l : List Value) : ofVal (.agg l.toArray) = .agg (l.map .lit) := by simp [ofVal]

variable {ev : Operand → AV} {σ : Store} {K Kp : AV → Store → Prop}
/-- K, the store given. -/
def onS (K : AV → Store → Prop) (σ : Store) : AV → Prop := fun r => K r σ
theorem onS_eq (K : AV → Store → Prop) (σ : Store) (r : AV) : onS K σ r = K r σ := rfl

theorem Wop_move (x : Operand) : Wop P T (.move x) ev σ K Kp = K (ev x) σ := rfl
theorem Wop_assign (x : Operand) : Wop P T (.assign x) ev σ K Kp = K (ev x) σ := rfl
theorem Wop_pick (c a b : Operand) : Wop P T (.pick c a b) ev σ K Kp = wpick (ev c) (ev a) (ev b) (onS K σ) := rfl
theorem Wop_alloc (e : TypeId) : Wop P T (.alloc e) ev σ K Kp = walloc T e σ K := rfl
theorem Wop_box (e : TypeId) (x : Operand) : Wop P T (.box e x) ev σ K Kp = wbox (ev x) σ K := rfl
theorem Wop_build (t : TypeId) (ps : List (Nat × Operand)) : Wop P T (.build t ps.toArray) ev σ K Kp = zdd T t (ps.map fun p => (p.1, ev p.2)) (onS K σ) := rfl
theorem Wop_buildSlice (t : TypeId) (n : Nat) (ps : List (Nat × Operand)) : Wop P T (.buildSlice t n ps.toArray) ev σ K Kp = wbuildSlice T t n (ps.map fun p => (p.1, ev p.2)) σ K := rfl
theorem Wop_load (t : TypeId) (a : Operand) : Wop P T (.load t a) ev σ K Kp = wload T t (ev a) σ (onS K σ) := rfl
theorem Wop_store (t : TypeId) (a x : Operand) : Wop P T (.store t a x) ev σ K Kp = wstore T t (ev a) (ev x) σ K := rfl
theorem wnil_ptr (id off : Nat) (K : AV → Prop) : wnil (.ptr id off) K = K (.ptr id off) := rfl
theorem wnil_rp (cs : List AV) (K : AV → Prop) : wnil (.rp cs) K = K (.rp cs) := rfl
theorem wnil_yl (id : Nat) (K : AV → Prop) : wnil (.yl id) K = K (.yl id) := rfl
theorem wnil_fn (f : FuncId) (a b : List AV) (K : AV → Prop) : wnil (.fn (.func f) a b) K = K (.fn (.func f) a b) := rfl
theorem Wop_nilCheck (x : Operand) : Wop P T (.nilCheck x) ev σ K Kp = wnil (ev x) (onS K σ) := by
  simp only [Wop, wnil]
  rfl
theorem Wop_binOp (op : BinOp) (t t' : TypeId) (x y : Operand) : Wop P T (.binOp op t x y t') ev σ K Kp = wbinW T op t x y ev (onS K σ) := rfl
theorem wbO_tmp (op : BinOp) (t : TypeId) (x : Operand) (a : Tmp) (K : AV → Prop) : wbinO T op t x (.tmp a) ev K = wbin T op t (ev x) (ev (.tmp a)) K := rfl
theorem wbW_tmp (op : BinOp) (t : TypeId) (x : Operand) (a : Tmp) (K : AV → Prop) : wbinW T op t x (.tmp a) ev K = wbin T op t (ev x) (ev (.tmp a)) K := rfl
theorem qbW_tmp (op : BinOp) (t : TypeId) (x : Operand) (a : Tmp) (K : AV → Prop) : qbinW T op t x (.tmp a) ev K = wbin T op t (ev x) (ev (.tmp a)) K := rfl
theorem wbO_int (op : BinOp) (t : TypeId) (x : Operand) (k : IntKind) (n : Int) (K : AV → Prop) : wbinO T op t x (.const (.int k n)) ev K = wbin T op t (ev x) (ev (.const (.int k n))) K := rfl
theorem wbW_int (op : BinOp) (t : TypeId) (x : Operand) (k : IntKind) (n : Int) (K : AV → Prop) : wbinW T op t x (.const (.int k n)) ev K = wbin T op t (ev x) (ev (.const (.int k n))) K := rfl
theorem qbW_int (op : BinOp) (t : TypeId) (x : Operand) (k : IntKind) (n : Int) (K : AV → Prop) : qbinW T op t x (.const (.int k n)) ev K = wbin T op t (ev x) (ev (.const (.int k n))) K := rfl
theorem wbO_str (op : BinOp) (t : TypeId) (x : Operand) (s : ByteArray) (K : AV → Prop) : wbinO T op t x (.const (.string s)) ev K = wbin T op t (ev x) (ev (.const (.string s))) K := rfl
theorem wbW_str (op : BinOp) (t : TypeId) (x : Operand) (s : ByteArray) (K : AV → Prop) : wbinW T op t x (.const (.string s)) ev K = wbin T op t (ev x) (ev (.const (.string s))) K := rfl
theorem qbW_str (op : BinOp) (t : TypeId) (x : Operand) (s : ByteArray) (K : AV → Prop) : qbinW T op t x (.const (.string s)) ev K = wbin T op t (ev x) (ev (.const (.string s))) K := rfl
theorem wbO_bool (op : BinOp) (t : TypeId) (x : Operand) (b : Bool) (K : AV → Prop) : wbinO T op t x (.const (.bool b)) ev K = wbin T op t (ev x) (ev (.const (.bool b))) K := rfl
theorem wbW_bool (op : BinOp) (t : TypeId) (x : Operand) (b : Bool) (K : AV → Prop) : wbinW T op t x (.const (.bool b)) ev K = wbin T op t (ev x) (ev (.const (.bool b))) K := rfl
theorem qbW_bool (op : BinOp) (t : TypeId) (x : Operand) (b : Bool) (K : AV → Prop) : qbinW T op t x (.const (.bool b)) ev K = wbin T op t (ev x) (ev (.const (.bool b))) K := rfl
theorem wbO_ptr (op : BinOp) (t : TypeId) (x : Operand) (p : Option Addr) (K : AV → Prop) : wbinO T op t x (.const (.pointer p)) ev K = wbin T op t (ev x) (ev (.const (.pointer p))) K := rfl
theorem wbW_ptr (op : BinOp) (t : TypeId) (x : Operand) (p : Option Addr) (K : AV → Prop) : wbinW T op t x (.const (.pointer p)) ev K = wbin T op t (ev x) (ev (.const (.pointer p))) K := rfl
theorem qbW_ptr (op : BinOp) (t : TypeId) (x : Operand) (p : Option Addr) (K : AV → Prop) : qbinW T op t x (.const (.pointer p)) ev K = wbin T op t (ev x) (ev (.const (.pointer p))) K := rfl
theorem wbO_agg (op : BinOp) (t : TypeId) (x : Operand) (a : Array Value) (K : AV → Prop) : wbinO T op t x (.const (.agg a)) ev K = wbin T op t (ev x) (ev (.const (.agg a))) K := rfl
theorem wbW_agg (op : BinOp) (t : TypeId) (x : Operand) (a : Array Value) (K : AV → Prop) : wbinW T op t x (.const (.agg a)) ev K = wbin T op t (ev x) (ev (.const (.agg a))) K := rfl
theorem qbW_agg (op : BinOp) (t : TypeId) (x : Operand) (a : Array Value) (K : AV → Prop) : qbinW T op t x (.const (.agg a)) ev K = wbin T op t (ev x) (ev (.const (.agg a))) K := rfl
theorem wbO_glob (op : BinOp) (t : TypeId) (x : Operand) (g : Nat) (K : AV → Prop) : wbinO T op t x (.global g) ev K = wbin T op t (ev x) (ev (.global g)) K := rfl
theorem wbW_glob (op : BinOp) (t : TypeId) (x : Operand) (g : Nat) (K : AV → Prop) : wbinW T op t x (.global g) ev K = wbin T op t (ev x) (ev (.global g)) K := rfl
theorem qbW_glob (op : BinOp) (t : TypeId) (x : Operand) (g : Nat) (K : AV → Prop) : qbinW T op t x (.global g) ev K = wbin T op t (ev x) (ev (.global g)) K := rfl
theorem wbW_nil (op : BinOp) (t : TypeId) (x : Operand) (env : Env) (K : AV → Prop) : wbinW T op t x (.const .nilIface) (aeval env) K = wnilc T op t (aeval env x) K := by
  simp [wbinW, wbinO, aeval, ofVal]
theorem qbW_nil (op : BinOp) (t : TypeId) (x : Operand) (env : Env) (K : AV → Prop) : qbinW T op t x (.const .nilIface) (aeval env) K = wnilc T op t (aeval env x) K := by
  simp [qbinW, wbinO, aeval, ofVal]
theorem wbW_nils (op : BinOp) (t : TypeId) (x : Operand) (env : Env) (K : AV → Prop) : wbinW T op t x (.const (.slice none 0 0)) (aeval env) K = wnils T op t (aeval env x) K := by
  simp [wbinW, aeval, ofVal]
theorem wbO_nil (op : BinOp) (t : TypeId) (x : Operand) (env : Env) (K : AV → Prop) : wbinO T op t x (.const .nilIface) (aeval env) K = wnilc T op t (aeval env x) K := by
  simp [wbinO, aeval, ofVal]
theorem Wop_mkI (t : TypeId) (x : Operand) : Wop P T (.makeInterface t x) ev σ K Kp = wmkI T t (ev x) (onS K σ) := rfl
theorem Wop_assert (x : Operand) (t a : TypeId) (ok : Bool) : Wop P T (.typeAssert x t a ok) ev σ K Kp = wassert P T a ok (ev x) (onS K σ) := rfl
theorem Wop_slice3 (t : TypeId) (x : Operand) (lo hi : Option Operand) (mx : Operand) : Wop P T (.slice t x lo hi (some mx)) ev σ K Kp = wslice3 T t (ev x) (lo.map ev) (hi.map ev) (ev mx) (onS K σ) := rfl
theorem Wop_invoke (r : Operand) (n : String) (as : List Operand) (ts : Array TypeId) : Wop P T (.call { callee := .invoke r n, args := as.toArray, argTypes := ts }) ev σ K Kp = winvoke P (ev r) n (as.map ev) σ K Kp := by simp [Wop]
theorem Wop_unOp (op : UnOp) (t : TypeId) (x : Operand) : Wop P T (.unOp op t x) ev σ K Kp = wun op (ev x) (onS K σ) := rfl
theorem Wop_convert (s d : TypeId) (x : Operand) : Wop P T (.convert s d x) ev σ K Kp = wconv T s d (ev x) σ K := rfl
theorem Wop_makeFunc (fn : Fn) (a b : List Operand) : Wop P T (.makeFunc fn a.toArray b.toArray) ev σ K Kp = K (.fn fn (a.map ev) (b.map ev)) σ := by simp [Wop]
theorem Wop_makeSlice (t : TypeId) (l c : Operand) : Wop P T (.makeSlice t l c) ev σ K Kp = wmake T t (ev l) (ev c) σ K := rfl
theorem Wop_slice (t : TypeId) (x : Operand) (lo hi : Option Operand) : Wop P T (.slice t x lo hi none) ev σ K Kp = wslice T t (ev x) (lo.map ev) (hi.map ev) σ (onS K σ) := rfl
theorem Wop_fieldAddr (s : TypeId) (x : Operand) (f : Nat) : Wop P T (.fieldAddr s x f) ev σ K Kp = zc5 T s (ev x) f (onS K σ) := rfl
theorem Wop_field (s : TypeId) (x : Operand) (f : Nat) : Wop P T (.field s x f) ev σ K Kp = wfield T s (ev x) f (onS K σ) := rfl
theorem Wop_indexAddr (t : TypeId) (x i : Operand) : Wop P T (.indexAddr t x i) ev σ K Kp = windexAddr T t (ev x) (ev i) (onS K σ) := rfl
theorem Wop_toArr (t : TypeId) (x : Operand) : Wop P T (.sliceToArrayPointer t x) ev σ K Kp = wtoArr T t (ev x) (onS K σ) := rfl
theorem Wop_index (t : TypeId) (x i : Operand) : Wop P T (.index t x i) ev σ K Kp = windex T t (ev x) (ev i) (onS K σ) := rfl
theorem Wop_extract (x : Operand) (i : Nat) : Wop P T (.extract x i) ev σ K Kp = wextract (ev x) i (onS K σ) := rfl
theorem Wop_call (f : Operand) (as : List Operand) (ts : Array TypeId) : Wop P T (.call { callee := .value f, args := as.toArray, argTypes := ts }) ev σ K Kp = wcall P (ev f) (as.map ev) σ K Kp := by simp [Wop]
theorem wcall_yl (id : Nat) (as : List AV) : wcall P (.yl id) as σ K Kp = AYield P id as σ (callK K Kp) := rfl
theorem wcall_fn (g : FuncId) (a c as : List AV) : wcall P (.fn (.func g) a c) as σ K Kp = ACalls P g (a ++ as ++ c) σ (callK K Kp) := rfl
theorem Wop_len (x : Operand) (t : TypeId) : Wop P T (.call { callee := .builtin .len, args := #[x], argTypes := #[t] }) ev σ K Kp = wlen T t (ev x) (onS K σ) := rfl
theorem Wop_append (s x : Operand) (ts : Array TypeId) : Wop P T (.call { callee := .builtin .append, args := #[s, x], argTypes := ts }) ev σ K Kp = wappO T ts (ev s) (ev x) σ K := rfl
theorem Wop_cap (x : Operand) (t : TypeId) : Wop P T (.call { callee := .builtin .cap, args := #[x], argTypes := #[t] }) ev σ K Kp = wcap T t (ev x) (onS K σ) := rfl
theorem Wop_min (x y : Operand) (ts : Array TypeId) : Wop P T (.call { callee := .builtin .min, args := #[x, y], argTypes := ts }) ev σ K Kp = wminmax false [ev x, ev y] (onS K σ) := rfl
theorem Wop_max (x y : Operand) (ts : Array TypeId) : Wop P T (.call { callee := .builtin .max, args := #[x, y], argTypes := ts }) ev σ K Kp = wminmax true [ev x, ev y] (onS K σ) := rfl
theorem wmin_int (k k' : IntKind) (x y : Int) (K : AV → Prop) : wminmax false [.lit (.int k x), .lit (.int k' y)] K = (k = k' ∧ K (.lit (.int k (min x y)))) := by simp [wminmax]
theorem wmax_int (k k' : IntKind) (x y : Int) (K : AV → Prop) : wminmax true [.lit (.int k x), .lit (.int k' y)] K = (k = k' ∧ K (.lit (.int k (max x y)))) := by simp [wminmax]
theorem callK_ret (K Kp : AV → Store → Prop) (r : AV) (σ : Store) : callK K Kp (.ret r) σ = K r σ := rfl
theorem callK_pan (K Kp : AV → Store → Prop) (r : AV) (σ : Store) : callK K Kp (.pan r) σ = Kp r σ := rfl
theorem retQ_one (t : Tmp) (K : AEnd → Store → Prop) (env : Env) (σ : Store) : retQ T n0 [.tmp t] K .ret env σ = endQ n0 ((env[t]?).getD .bot) σ (fun r σ' => K (.ret r) σ') := rfl
theorem retQ_two (t u : Tmp) (K : AEnd → Store → Prop) (env : Env) (σ : Store) : retQ T n0 [.tmp t, .tmp u] K .ret env σ = endQ n0 (.tup [(env[t]?).getD .bot, (env[u]?).getD .bot]) σ (fun r σ' => K (.ret r) σ') := rfl
theorem retQ_cell (t : Tmp) (ty : TypeId) (K : AEnd → Store → Prop) (env : Env) (σ : Store) : retQ T n0 [.cell t ty] K .ret env σ = wload T ty ((env[t]?).getD .bot) σ (fun v => endQ n0 v σ (fun r σ' => K (.ret r) σ')) := rfl
theorem retQ_none (K : AEnd → Store → Prop) (env : Env) (σ : Store) : retQ T n0 [] K .ret env σ = endQ n0 (.tup []) σ (fun r σ' => K (.ret r) σ') := rfl
theorem retQ_none' (K : AEnd → Store → Prop) (env : Env) (σ : Store) : retQ T n0 [] K .normal env σ = endQ n0 (.tup []) σ (fun r σ' => K (.ret r) σ') := rfl
end

section
variable [Globs] {P : Program} {T : Tab} {ev : Operand → AV} {σ : Store} {K : AV → Prop}
def wqK (P : Program) (T : Tab) (ops : Array Oper) (σ : Store) (rest : List Oper) (env : Env) (d : Option Tmp) (Q : Env → Prop) : AV → Prop := fun v => wq P T ops σ rest (aput env d v) Q
theorem wqK_eq (ops : Array Oper) (rest : List Oper) (env : Env) (d : Option Tmp) (Q : Env → Prop) (v : AV) : wqK P T ops σ rest env d Q v = wq P T ops σ rest (aput env d v) Q := rfl
theorem wq_nil (ops : Array Oper) (env : Env) (Q : Env → Prop) : wq P T ops σ [] env Q = Q env := rfl
theorem wq_one (ops : Array Oper) (d : Option Tmp) (op : Op) (ty : TypeId) (pos : String) (after : Array Edge) (rest : List Oper) (env : Env) (Q : Env → Prop) : wq P T ops σ ({ dst := d, op := op, type := ty, pos := pos, after := after, guard := none } :: rest) env Q =
    Qop P T op (aeval env) σ (wqK P T ops σ rest env d Q) := rfl
/-- A guarded one, its guard's slot given. -/
def wqG (x : AV) (want : Bool) (run skip : Prop) : Prop :=
  match x with
  | .lit (.bool b) => (b = want → run) ∧ (b ≠ want → skip)
  | .lit (.tuple _) => skip
  | _ => False
theorem wq_guard (l : List Oper) (d : Option Tmp) (op : Op) (ty : TypeId) (pos : String) (after : Array Edge) (j : Nat) (want : Bool) (rest : List Oper) (env : Env) (Q : Env → Prop) (t : Tmp) (h : (l[j]?).bind (·.dst) = some t) : wq P T l.toArray σ ({ dst := d, op := op, type := ty, pos := pos, after := after, guard := some (j, want) } :: rest) env Q =
    wqG ((env[t]?).getD .bot) want (Qop P T op (aeval env) σ (wqK P T l.toArray σ rest env d Q)) (wq P T l.toArray σ rest (aput env d (.lit undef)) Q) := by
  simp only [wq, wguard, List.getElem?_toArray, h, wqG]
  rfl
theorem Qop_move (x : Operand) : Qop P T (.move x) ev σ K = K (ev x) := rfl
theorem Qop_assign (x : Operand) : Qop P T (.assign x) ev σ K = K (ev x) := rfl
theorem Qop_pick (c a b : Operand) : Qop P T (.pick c a b) ev σ K = wpick (ev c) (ev a) (ev b) K := rfl
theorem Qop_build (t : TypeId) (ps : List (Nat × Operand)) : Qop P T (.build t ps.toArray) ev σ K = zdd T t (ps.map fun p => (p.1, ev p.2)) K := rfl
theorem Qop_buildSlice (t : TypeId) (n : Nat) (ps : List (Nat × Operand)) : Qop P T (.buildSlice t n ps.toArray) ev σ K = qbuildSlice T t n (ps.map fun p => (p.1, ev p.2)) K := rfl
theorem Qop_load (t : TypeId) (a : Operand) : Qop P T (.load t a) ev σ K = wload T t (ev a) σ K := rfl
theorem Qop_nilCheck (x : Operand) : Qop P T (.nilCheck x) ev σ K = wnil (ev x) K := rfl
theorem Qop_binOp (op : BinOp) (t t' : TypeId) (x y : Operand) : Qop P T (.binOp op t x y t') ev σ K = qbinW T op t x y ev K := rfl
theorem Qop_mkI (t : TypeId) (x : Operand) : Qop P T (.makeInterface t x) ev σ K = wmkI T t (ev x) K := rfl
theorem Qop_assert (x : Operand) (t a : TypeId) (ok : Bool) : Qop P T (.typeAssert x t a ok) ev σ K = wassert P T a ok (ev x) K := rfl
theorem Qop_slice3 (t : TypeId) (x : Operand) (lo hi : Option Operand) (mx : Operand) : Qop P T (.slice t x lo hi (some mx)) ev σ K = wslice3 T t (ev x) (lo.map ev) (hi.map ev) (ev mx) K := rfl
theorem Qop_invoke (r : Operand) (n : String) (as : List Operand) (ts : Array TypeId) : Qop P T (.call { callee := .invoke r n, args := as.toArray, argTypes := ts }) ev σ K = qinvoke P (ev r) n (as.map ev) σ K := by simp [Qop]
theorem Qop_unOp (op : UnOp) (t : TypeId) (x : Operand) : Qop P T (.unOp op t x) ev σ K = wun op (ev x) K := rfl
theorem Qop_convert (s d : TypeId) (x : Operand) : Qop P T (.convert s d x) ev σ K = qconv T s d (ev x) σ K := rfl
theorem Qop_makeFunc (fn : Fn) (a b : List Operand) : Qop P T (.makeFunc fn a.toArray b.toArray) ev σ K = K (.fn fn (a.map ev) (b.map ev)) := by simp [Qop]
theorem Qop_slice (t : TypeId) (x : Operand) (lo hi : Option Operand) : Qop P T (.slice t x lo hi none) ev σ K = wslice T t (ev x) (lo.map ev) (hi.map ev) σ K := rfl
theorem Qop_fieldAddr (s : TypeId) (x : Operand) (f : Nat) : Qop P T (.fieldAddr s x f) ev σ K = zc5 T s (ev x) f K := rfl
theorem Qop_field (s : TypeId) (x : Operand) (f : Nat) : Qop P T (.field s x f) ev σ K = wfield T s (ev x) f K := rfl
theorem Qop_indexAddr (t : TypeId) (x i : Operand) : Qop P T (.indexAddr t x i) ev σ K = windexAddr T t (ev x) (ev i) K := rfl
theorem Qop_toArr (t : TypeId) (x : Operand) : Qop P T (.sliceToArrayPointer t x) ev σ K = wtoArr T t (ev x) K := rfl
theorem Qop_index (t : TypeId) (x i : Operand) : Qop P T (.index t x i) ev σ K = windex T t (ev x) (ev i) K := rfl
theorem Qop_extract (x : Operand) (i : Nat) : Qop P T (.extract x i) ev σ K = wextract (ev x) i K := rfl
theorem Qop_call (f : Operand) (as : List Operand) (ts : Array TypeId) : Qop P T (.call { callee := .value f, args := as.toArray, argTypes := ts }) ev σ K = qcall P (ev f) (as.map ev) σ K := by simp [Qop]
theorem qcall_fn (g : FuncId) (a c as : List AV) : qcall P (.fn (.func g) a c) as σ K = exq (callV P g (a ++ as ++ c) σ) K := rfl
theorem Qop_len (x : Operand) (t : TypeId) : Qop P T (.call { callee := .builtin .len, args := #[x], argTypes := #[t] }) ev σ K = wlen T t (ev x) K := rfl
theorem Qop_min (x y : Operand) (ts : Array TypeId) : Qop P T (.call { callee := .builtin .min, args := #[x, y], argTypes := ts }) ev σ K = wminmax false [ev x, ev y] K := rfl
theorem Qop_max (x y : Operand) (ts : Array TypeId) : Qop P T (.call { callee := .builtin .max, args := #[x, y], argTypes := ts }) ev σ K = wminmax true [ev x, ev y] K := rfl
end

/-- Handed back: plain, and nothing of the store is kept. -/
theorem endQ_lit {v : Value} {σ : Store} {K : AV → Store → Prop} (h : K (.lit v) []) : endQ 0 (.lit v) σ K :=
  .inl ⟨[], .lit v, [], rfl, rfl, List.nodup_nil, rfl, trivial, h⟩
/-- Handed back: a slice, to be read. -/
theorem endQ_sl {id off len sz : Nat} {cs : List AV} {σ : Store} {K : AV → Store → Prop} (hi : σ[id]? = some (.rw cs)) (hle : off + len * sz ≤ cs.length) (hc : renL [] cs = some cs) (h : K (.sl ((cs.drop off).take (len * sz)) len) []) : endQ 0 (.ref id off len sz) σ K :=
  .inr (.inl ⟨rfl, id, off, len, sz, cs, rfl, hi, hle, hc, h⟩)
/-- Slices of blocks that are let go, handed back by their cells. -/
theorem endQ_frz {n0 : Nat} {r : AV} {σ : Store} {K : AV → Store → Prop} (ids : List Nat) (r1 : AV) (h : frzA (setRo σ ids) r r1) (hk : endR n0 r1 (setRo σ ids) K) : endQ n0 r σ K := .inr (.inr (.inl (.inr ⟨ids, r1, h, hk⟩)))
/-- Handed back: no slice, as one without cells. -/
theorem endQ_nilref {σ : Store} {K : AV → Store → Prop} (sz : Nat) (h : K (.ref 0 0 0 sz) [.rw []]) : endQ 0 (.lit (.slice none 0 0)) σ K :=
  .inr (.inr (.inl (.inl ⟨rfl, rfl, .inr ⟨sz, h⟩⟩)))
theorem endQ_nil {σ : Store} {K : AV → Store → Prop} (h : K (.sl [] 0) []) : endQ 0 (.lit (.slice none 0 0)) σ K :=
  .inr (.inr (.inl (.inl ⟨rfl, rfl, .inl h⟩)))
end Go.Eng
end

