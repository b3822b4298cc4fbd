/-
  What errors.As and strings.Join answer, what is tagged, boxes that are sealed; what the listed variable holds. No condition.
-/
import Derived.Test.YtbkhpohlpfcibaaGreatDoorAeaB
import Derived.Test.YtbkhpohlpfcibaaGreatDoorLib
import Derived.LaidMore
import Derived.LaidHandle
import Derived.Stop.LaidErr
import Derived.Lib.LaidTab
import Derived.Stop.Joined
set_option linter.unusedSimpArgs false
set_option linter.unusedVariables false
set_option linter.unusedSectionVars false
section
namespace Go.Proofs.YtbkhpohlpfcibaaGreatDoor
open Go Go.Eng
open Go.Extern

/-! ### types, told at run time -/
def hnd (t : Nat) : Value := .pointer (some ⟨2, t, none⟩)
def rvA (t k fl : Nat) : AV := .agg [.lit (hnd t), .ptr k 0, .lit (.int .u64 (fl : Int))]
theorem one_arg {vs : Array Value} {v : Value} (h : vs.toList = [v]) : vs = #[v] := Array.ext' (by simpa using h)
theorem two_arg {vs : Array Value} {v u : Value} (h : vs.toList = [v, u]) : vs = #[v, u] := Array.ext' (by simpa using h)
theorem unpackP (t : Addr) (w : World) : (ReflectliteValue.unpack (.iface 46 (.pointer (some t)))).run Tryz.prog w = .ok (.agg #[hnd 46, .pointer (some ⟨w.heap.size, 0, none⟩), .int .u64 150]) (w.alloc (.cells #[.pointer (some t)] 46)) := by kernel_rfl
theorem unpackE (n : Int) (w : World) : (ReflectliteValue.unpack (.iface 24 (.int .i64 n))).run Tryz.prog w = .ok (.agg #[hnd 24, .pointer (some ⟨w.heap.size, 0, none⟩), .int .u64 130]) (w.alloc (.cells #[.int .i64 n] 24)) := by kernel_rfl
theorem rep_rvA {w : World} {O : Nat → Prop} {m : Ids} {t k fl g : Nat} (hm : m[k]? = some (some g)) : rep w O m (rvA t k fl) (.agg #[hnd t, .pointer (some ⟨g, 0, none⟩), .int .u64 (fl : Int)]) := by
  simp only [rvA, rep, reps]
  exact ⟨_, rfl, _, _, rfl, rfl, _, _, rfl, ⟨g, rfl, hm⟩, _, _, rfl, rfl, rfl⟩
theorem rvA_rep {w : World} {O : Nat → Prop} {m : Ids} {t k fl : Nat} {v : Value} (h : rep w O m (rvA t k fl) v) : ∃ g, m[k]? = some (some g) ∧ v = .agg #[hnd t, .pointer (some ⟨g, 0, none⟩), .int .u64 (fl : Int)] := by
  simp only [rvA, rep, reps] at h
  obtain ⟨a, rfl, _, _, e1, rfl, _, _, rfl, ⟨g, rfl, hm⟩, _, _, rfl, rfl, rfl⟩ := h
  exact ⟨g, hm, by congr 1; exact Array.ext' (by simpa using e1)⟩
theorem valueOfP (id off : Nat) (σ : Store) : ACalls Tryz.prog 45 [.ifc 46 (.ptr id off)] σ (fun x σ' => x = .ret (rvA 46 σ.length 150) ∧ σ' = σ ++ [.rw [.ptr id off]]) := by
  refine ACalls.externK (by kernel_rfl) fun H w m vs hs hr => ?_
  simp only [reps, rep] at hr
  obtain ⟨_, _, e1, ⟨u, rfl, g, rfl, hm⟩, rfl⟩ := hr
  obtain rfl := one_arg e1
  obtain ⟨s1, x1⟩ := hs.alloc (w' := w.alloc (.cells #[.pointer (some ⟨g, off, none⟩)] 46)) (c := #[.pointer (some ⟨g, off, none⟩)]) (e := 46) (lo := 0) (hi := 0) (cs := [.ptr id off]) rfl (.inl (Nat.le_refl _)) rfl rfl rfl (by simp) (fun j x hx => by
    match j, hx with
    | 0, hx => cases hx; exact ⟨_, rfl, by simp only [rep]; exact ⟨g, rfl, hm⟩⟩)
  refine ⟨_, _, _, _, _, by rw [run_callFunc_extern Tryz.func45 (by kernel_rfl) (by kernel_rfl) (by kernel_rfl) (e := fun args => ReflectliteValue.unpack (args.getD 0 (.tuple #[]))) (by kernel_rfl)]; exact congrArg (fun r => Result.andThen r _) (unpackP _ w), s1, x1, rep_rvA (newId hs _), rfl, rfl⟩
theorem valueOfE (n : Int) (σ : Store) : ACalls Tryz.prog 45 [.ifc 24 (i64 n)] σ (fun x σ' => x = .ret (rvA 24 σ.length 130) ∧ σ' = σ ++ [.rw [i64 n]]) := by
  refine ACalls.externK (by kernel_rfl) fun H w m vs hs hr => ?_
  simp only [reps, rep, i64] at hr
  obtain ⟨_, _, e1, ⟨u, rfl, rfl⟩, rfl⟩ := hr
  obtain rfl := one_arg e1
  obtain ⟨s1, x1⟩ := hs.alloc (w' := w.alloc (.cells #[.int .i64 n] 24)) (c := #[.int .i64 n]) (e := 24) (lo := 0) (hi := 0) (cs := [i64 n]) rfl (.inl (Nat.le_refl _)) rfl rfl rfl (by simp) (fun j x hx => by
    match j, hx with
    | 0, hx => cases hx; exact ⟨.int .i64 n, rfl, by simp only [rep, i64]⟩)
  refine ⟨_, _, _, _, _, by rw [run_callFunc_extern Tryz.func45 (by kernel_rfl) (by kernel_rfl) (by kernel_rfl) (e := fun args => ReflectliteValue.unpack (args.getD 0 (.tuple #[]))) (by kernel_rfl)]; exact congrArg (fun r => Result.andThen r _) (unpackE _ w), s1, x1, rep_rvA (newId hs _), rfl, rfl⟩
theorem run_type (a : Addr) (w : World) : (ReflectliteValue.methodAny (ReflectliteValue.valueError "reflectlite.Value.Type" 0) (fun t _ _ _ => ReflectliteType.toType t) #[.agg #[hnd 46, .pointer (some a), .int .u64 150]]).run Tryz.prog w = .ok (rtypeV 2 46) w := by kernel_rfl
theorem valueType (k : Nat) (σ : Store) : ACalls Tryz.prog 46 [rvA 46 k 150] σ (fun x σ' => x = .ret (.lit (rtypeV 2 46)) ∧ σ' = σ) := by
  refine ACalls.extern (by kernel_rfl) fun w O m vs hr => ?_
  simp only [reps] at hr
  obtain ⟨v, _, e1, hv, rfl⟩ := hr
  obtain ⟨g, hm, rfl⟩ := rvA_rep hv
  obtain rfl := one_arg e1
  refine ⟨_, by rw [run_callFunc_extern Tryz.func46 (by kernel_rfl) (by kernel_rfl) (by kernel_rfl) (e := ReflectliteValue.methodAny (ReflectliteValue.valueError "reflectlite.Value.Type" 0) (fun t _ _ _ => ReflectliteType.toType t)) (by kernel_rfl)]; exact congrArg (fun r => Result.andThen r _) (run_type _ w), by simp only [rep]⟩
theorem partsP (a : Addr) (w : World) : (ReflectliteValue.parts (.agg #[hnd 46, .pointer (some a), .int .u64 150])).run Tryz.prog w = .ok (some (46, a, 150)) w := by kernel_rfl
theorem partsE (a : Addr) (w : World) : (ReflectliteValue.parts (.agg #[hnd 24, .pointer (some a), .int .u64 130])).run Tryz.prog w = .ok (some (24, a, 130)) w := by kernel_rfl
theorem partsV (a : Addr) (w : World) : (ReflectliteValue.parts (.agg #[hnd 24, .pointer (some a), .int .u64 386])).run Tryz.prog w = .ok (some (24, a, 386)) w := by kernel_rfl
theorem loadP {w : World} {a : Addr} {v : Value} (h : w.cell? a = some v) : (loadVar 46 a).run Tryz.prog w = .ok v w := by
  unfold loadVar
  rw [Sem.run_bind, (T_ok _ _ T46).run_isAgg]
  simp [tyPtr, TD.agg, run_load, h]
theorem loadE {w : World} {a : Addr} {v : Value} (h : w.cell? a = some v) : (loadVar 24 a).run Tryz.prog w = .ok v w := by
  unfold loadVar
  rw [Sem.run_bind, (T_ok _ _ T24).run_isAgg]
  simp [tyInt, TD.agg, run_load, h]
theorem cell_of {H : Nat → Prop} {w : World} {m : Ids} {σ : Store} (hs : St H w m σ) {k g : Nat} {x : AV} (hk : σ[k]? = some (.rw [x])) (hm : m[k]? = some (some g)) : ∃ v, w.cell? ⟨g, 0, none⟩ = some v ∧ rep w (own H m σ) m x v := by
  obtain ⟨g', h1, h2⟩ := rd_at hs (show rd σ k = some [x] by simp [rd, hk]) (by simp)
  rw [hm] at h1
  cases h1
  simp only [repAt] at h2
  exact h2.1
theorem valueNil {k id off : Nat} {σ : Store} (hk : σ[k]? = some (.rw [.ptr id off])) : ACalls Tryz.prog 47 [rvA 46 k 150] σ (fun x σ' => x = .ret (bl false) ∧ σ' = σ) := by
  refine ACalls.externK (by kernel_rfl) fun H w m vs hs hr => ?_
  simp only [reps] at hr
  obtain ⟨v, _, e1, hv, rfl⟩ := hr
  obtain ⟨g, hm, rfl⟩ := rvA_rep hv
  obtain rfl := one_arg e1
  obtain ⟨u, hc, hu⟩ := cell_of hs hk hm
  simp only [rep] at hu
  obtain ⟨g2, rfl, _⟩ := hu
  have run : (ReflectliteValue.method (ReflectliteValue.valueError "reflectlite.Value.IsNil" 0) ReflectliteValue.isNil #[.agg #[hnd 46, .pointer (some ⟨g, 0, none⟩), .int .u64 ((150 : Nat) : Int)]]).run Tryz.prog w = .ok (.bool false) w := by
    rw [show ∀ z f, ReflectliteValue.method z f #[.agg #[hnd 46, .pointer (some ⟨g, 0, none⟩), .int .u64 ((150 : Nat) : Int)]] = (ReflectliteValue.parts (.agg #[hnd 46, .pointer (some ⟨g, 0, none⟩), .int .u64 ((150 : Nat) : Int)]) >>= _) from fun _ _ => rfl]
    rw [Sem.run_bind, show ((150 : Nat) : Int) = 150 from rfl, partsP]
    simp [ReflectliteValue.isNil, loadP hc]
  refine ⟨_, _, .lit (.bool false), _, _, by rw [run_callFunc_extern Tryz.func47 (by kernel_rfl) (by kernel_rfl) (by kernel_rfl) (e := ReflectliteValue.method (ReflectliteValue.valueError "reflectlite.Value.IsNil" 0) ReflectliteValue.isNil) (by kernel_rfl)]; exact congrArg (fun r => Result.andThen r _) run, hs, Ext.refl _ _ _, by simp only [rep], rfl, rfl⟩
theorem elemOfP (w : World) : (Rtype.elem? 46).run Tryz.prog w = .ok (some 24) w := by kernel_rfl
theorem mkE (p : Addr) (w : World) : (ReflectliteValue.mk 24 p ReflectliteValue.flagAddr).run Tryz.prog w = .ok (.agg #[hnd 24, .pointer (some p), .int .u64 386]) w := by kernel_rfl
theorem valueElem {k id : Nat} {σ : Store} (hk : σ[k]? = some (.rw [.ptr id 0])) : ACalls Tryz.prog 73 [rvA 46 k 150] σ (fun x σ' => x = .ret (rvA 24 id 386) ∧ σ' = σ) := by
  refine ACalls.externK (by kernel_rfl) fun H w m vs hs hr => ?_
  simp only [reps] at hr
  obtain ⟨v, _, e1, hv, rfl⟩ := hr
  obtain ⟨g, hm, rfl⟩ := rvA_rep hv
  obtain rfl := one_arg e1
  obtain ⟨u, hc, hu⟩ := cell_of hs hk hm
  simp only [rep] at hu
  obtain ⟨g2, rfl, hm2⟩ := hu
  have run : (ReflectliteValue.method (ReflectliteValue.valueError "reflectlite.Value.Elem" 0) ReflectliteValue.elem #[.agg #[hnd 46, .pointer (some ⟨g, 0, none⟩), .int .u64 ((150 : Nat) : Int)]]).run Tryz.prog w = .ok (.agg #[hnd 24, .pointer (some ⟨g2, 0, none⟩), .int .u64 386]) w := by
    rw [show ∀ z f, ReflectliteValue.method z f #[.agg #[hnd 46, .pointer (some ⟨g, 0, none⟩), .int .u64 ((150 : Nat) : Int)]] = (ReflectliteValue.parts (.agg #[hnd 46, .pointer (some ⟨g, 0, none⟩), .int .u64 ((150 : Nat) : Int)]) >>= _) from fun _ _ => rfl]
    rw [Sem.run_bind, show ((150 : Nat) : Int) = 150 from rfl, partsP]
    simp [ReflectliteValue.elem, loadP hc, elemOfP, mkE]
  refine ⟨_, _, _, _, _, by rw [run_callFunc_extern Tryz.func73 (by kernel_rfl) (by kernel_rfl) (by kernel_rfl) (e := ReflectliteValue.method (ReflectliteValue.valueError "reflectlite.Value.Elem" 0) ReflectliteValue.elem) (by kernel_rfl)]; exact congrArg (fun r => Result.andThen r _) run, hs, Ext.refl _ _ _, rep_rvA hm2, rfl, rfl⟩
theorem getLit1 {a b : Value} (h1 : (#[a, b] : Array Value).size = 2) (h2 : 1 < 2) : (#[a, b] : Array Value).getLit 1 h1 h2 = b := rfl
theorem directE (w : World) : (Rtype.directlyAssignable 24 24).run Tryz.prog w = .ok true w := by kernel_rfl
theorem valueSet {j id : Nat} {n : Int} {old : AV} {σ : Store} (hj : σ[j]? = some (.rw [i64 n])) (hi : σ[id]? = some (.rw [old])) : ACalls Tryz.prog 74 [rvA 24 id 386, rvA 24 j 130] σ (fun x σ' => x = .ret (.tup []) ∧ σ' = σ.set id (.rw [i64 n])) := by
  refine ACalls.externK (by kernel_rfl) fun H w m vs hs hr => ?_
  simp only [reps] at hr
  obtain ⟨v, _, e1, hv, v2, _, rfl, hv2, rfl⟩ := hr
  obtain ⟨g, hm, rfl⟩ := rvA_rep hv
  obtain ⟨g2, hm2, rfl⟩ := rvA_rep hv2
  obtain rfl := two_arg e1
  obtain ⟨u, hc, hu⟩ := cell_of hs hj hm2
  simp only [rep, i64] at hu
  subst hu
  have hst : wstore T 24 (.ptr id 0) (i64 n) σ (fun x σ' => σ' = σ.set id (.rw [i64 n])) := by
    simp [wstore, T24, hi, AV.cells, i64, tyInt, AV.one, Value.oneCell', putAt]
  obtain ⟨w', m', σ', h1, h2, h3, rfl⟩ := wstore_sound T_ok (P := Tryz.prog) hs hst (show rep w (own H m σ) m (.ptr id 0) (.pointer (some ⟨g, 0, none⟩)) by simp only [rep]; exact ⟨g, rfl, hm⟩) (show rep w (own H m σ) m (i64 n) (.int .i64 n) by simp only [rep, i64])
  have h1' : (storeVar 24 ⟨g, 0, none⟩ (.int .i64 n)).run Tryz.prog w = .ok () w' := by
    simpa [Instr.storeAt, Instr.sureAddr] using h1
  have run : (ReflectliteValue.set #[.agg #[hnd 24, .pointer (some ⟨g, 0, none⟩), .int .u64 ((386 : Nat) : Int)], .agg #[hnd 24, .pointer (some ⟨g2, 0, none⟩), .int .u64 ((130 : Nat) : Int)]]).run Tryz.prog w = .ok (.tuple #[]) w' := by
    rw [show ReflectliteValue.set #[.agg #[hnd 24, .pointer (some ⟨g, 0, none⟩), .int .u64 ((386 : Nat) : Int)], .agg #[hnd 24, .pointer (some ⟨g2, 0, none⟩), .int .u64 ((130 : Nat) : Int)]] = (ReflectliteValue.parts (.agg #[hnd 24, .pointer (some ⟨g, 0, none⟩), .int .u64 ((386 : Nat) : Int)]) >>= _) from rfl]
    simp only [Sem.run_bind, show ((386 : Nat) : Int) = 386 from rfl, show ((130 : Nat) : Int) = 130 from rfl, partsV, partsE, Result.andThen_ok]
    simp [ReflectliteValue.flagAddr, loadE hc, directE, h1', getLit1, partsE]
  refine ⟨_, _, .tup [], m', _, by rw [run_callFunc_extern Tryz.func74 (by kernel_rfl) (by kernel_rfl) (by kernel_rfl) (e := ReflectliteValue.set) (by kernel_rfl)]; exact congrArg (fun r => Result.andThen r _) run, h2, h3, by simp only [rep, reps]; exact ⟨_, rfl, rfl⟩, rfl, rfl⟩
theorem run_typeOfE (v : Value) (w : World) : (ReflectliteType.typeOf #[.iface 24 v]).run Tryz.prog w = .ok (rtypeV 2 24) w := by kernel_rfl
theorem run_typeOfF (v : Value) (w : World) : (ReflectliteType.typeOf #[.iface 44 v]).run Tryz.prog w = .ok (rtypeV 2 44) w := by kernel_rfl
theorem typeOfE (x : AV) (σ : Store) : ACalls Tryz.prog 72 [.ifc 24 x] σ (fun y σ' => y = .ret (.lit (rtypeV 2 24)) ∧ σ' = σ) := by
  refine ACalls.extern (by kernel_rfl) fun w O m vs hr => ?_
  simp only [reps, rep] at hr
  obtain ⟨_, _, e1, ⟨u, rfl, _⟩, rfl⟩ := hr
  obtain rfl := one_arg e1
  exact ⟨_, by rw [run_callFunc_extern Tryz.func72 (by kernel_rfl) (by kernel_rfl) (by kernel_rfl) (e := ReflectliteType.typeOf) (by kernel_rfl)]; exact congrArg (fun r => Result.andThen r _) (run_typeOfE _ w), by simp only [rep]⟩
theorem typeOfF (x : AV) (σ : Store) : ACalls Tryz.prog 72 [.ifc 44 x] σ (fun y σ' => y = .ret (.lit (rtypeV 2 44)) ∧ σ' = σ) := by
  refine ACalls.extern (by kernel_rfl) fun w O m vs hr => ?_
  simp only [reps, rep] at hr
  obtain ⟨_, _, e1, ⟨u, rfl, _⟩, rfl⟩ := hr
  obtain rfl := one_arg e1
  exact ⟨_, by rw [run_callFunc_extern Tryz.func72 (by kernel_rfl) (by kernel_rfl) (by kernel_rfl) (e := ReflectliteType.typeOf) (by kernel_rfl)]; exact congrArg (fun r => Result.andThen r _) (run_typeOfF _ w), by simp only [rep]⟩
theorem ext1 {f : FuncId} {fn : Func} {e : Array Value → Sem Value} {a r : Value} (hf : Tryz.prog.funcs[f]? = some fn) (hname : (fn.name == "runtime.NumGoroutine") = false)
    (hb : fn.body.isNone = true) (hn : Extern.findNext fn = none) (he : Extern.find fn = some e) (hc : callable Tryz.prog f = false) (hrun : ∀ w, (e #[a]).run Tryz.prog w = .ok r w) (σ : Store) : ACalls Tryz.prog f [.lit a] σ (fun y σ' => y = .ret (.lit r) ∧ σ' = σ) := by
  refine ACalls.extern hc fun w O m vs hr => ?_
  simp only [reps, rep] at hr
  obtain ⟨_, _, e1, rfl, rfl⟩ := hr
  obtain rfl := one_arg e1
  exact ⟨_, by rw [run_callFunc_extern hf hname hb hn he, hrun]; rfl, by simp only [rep]⟩
theorem ext2 {f : FuncId} {fn : Func} {e : Array Value → Sem Value} {a b r : Value} (hf : Tryz.prog.funcs[f]? = some fn) (hname : (fn.name == "runtime.NumGoroutine") = false)
    (hb : fn.body.isNone = true) (hn : Extern.findNext fn = none) (he : Extern.find fn = some e) (hc : callable Tryz.prog f = false) (hrun : ∀ w, (e #[a, b]).run Tryz.prog w = .ok r w) (σ : Store) : ACalls Tryz.prog f [.lit a, .lit b] σ (fun y σ' => y = .ret (.lit r) ∧ σ' = σ) := by
  refine ACalls.extern hc fun w O m vs hr => ?_
  simp only [reps, rep] at hr
  obtain ⟨_, _, e1, rfl, _, _, rfl, rfl, rfl⟩ := hr
  obtain rfl := two_arg e1
  exact ⟨_, by rw [run_callFunc_extern hf hname hb hn he, hrun]; rfl, by simp only [rep]⟩
theorem kindP (σ : Store) : ACalls Tryz.prog 115 [.lit (hnd 46)] σ (fun y σ' => y = .ret (u8 22) ∧ σ' = σ) :=
  ext1 Tryz.func115 (by kernel_rfl) (by kernel_rfl) (by kernel_rfl) (e := ReflectliteType.abiMethod fun t => do pure (.int .u8 (← Rtype.kind t))) (by kernel_rfl) (by kernel_rfl) (by intro w; kernel_rfl) σ
theorem kindE (σ : Store) : ACalls Tryz.prog 115 [.lit (hnd 24)] σ (fun y σ' => y = .ret (u8 2) ∧ σ' = σ) :=
  ext1 Tryz.func115 (by kernel_rfl) (by kernel_rfl) (by kernel_rfl) (e := ReflectliteType.abiMethod fun t => do pure (.int .u8 (← Rtype.kind t))) (by kernel_rfl) (by kernel_rfl) (by intro w; kernel_rfl) σ
theorem relemP (σ : Store) : ACalls Tryz.prog 128 [.lit (.agg #[hnd 46])] σ (fun y σ' => y = .ret (.lit (rtypeV 2 24)) ∧ σ' = σ) :=
  ext1 Tryz.func128 (by kernel_rfl) (by kernel_rfl) (by kernel_rfl) (e := ReflectliteType.method ReflectliteType.elem) (by kernel_rfl) (by kernel_rfl) (by intro w; kernel_rfl) σ
theorem implE (σ : Store) : ACalls Tryz.prog 129 [.lit (.agg #[hnd 24]), .lit (rtypeV 2 31)] σ (fun y σ' => y = .ret (bl true) ∧ σ' = σ) :=
  ext2 Tryz.func129 (by kernel_rfl) (by kernel_rfl) (by kernel_rfl) (e := ReflectliteType.relation "Implements" ReflectliteType.implements_) (by kernel_rfl) (by kernel_rfl) (by intro w; kernel_rfl) σ
theorem assE (σ : Store) : ACalls Tryz.prog 126 [.lit (.agg #[hnd 24]), .lit (rtypeV 2 24)] σ (fun y σ' => y = .ret (bl true) ∧ σ' = σ) :=
  ext2 Tryz.func126 (by kernel_rfl) (by kernel_rfl) (by kernel_rfl) (e := ReflectliteType.relation "AssignableTo" ReflectliteType.assignableTo) (by kernel_rfl) (by kernel_rfl) (by intro w; kernel_rfl) σ
theorem assF (σ : Store) : ACalls Tryz.prog 126 [.lit (.agg #[hnd 44]), .lit (rtypeV 2 24)] σ (fun y σ' => y = .ret (bl false) ∧ σ' = σ) :=
  ext2 Tryz.func126 (by kernel_rfl) (by kernel_rfl) (by kernel_rfl) (e := ReflectliteType.relation "AssignableTo" ReflectliteType.assignableTo) (by kernel_rfl) (by kernel_rfl) (by intro w; kernel_rfl) σ
theorem methLit {t : TypeId} {v r : Value} {n : String} {f : FuncId} (h : ∀ w, (method (Tryz.prog.types.size + Made.depth) t v n).run Tryz.prog w = .ok (f, r) w) : MethIs Tryz.prog t (.lit v) n f (.lit r) := by
  intro w O m u hu
  simp only [rep] at hu
  subst hu
  exact ⟨r, h w, by simp only [rep]⟩
theorem mKindP : MethIs Tryz.prog 102 (.lit (.agg #[hnd 46])) "Kind" 115 (.lit (hnd 46)) := methLit (by intro w; kernel_rfl)
theorem mKindE : MethIs Tryz.prog 102 (.lit (.agg #[hnd 24])) "Kind" 115 (.lit (hnd 24)) := methLit (by intro w; kernel_rfl)
theorem mElemP : MethIs Tryz.prog 102 (.lit (.agg #[hnd 46])) "Elem" 128 (.lit (.agg #[hnd 46])) := methLit (by intro w; kernel_rfl)
theorem mImplE : MethIs Tryz.prog 102 (.lit (.agg #[hnd 24])) "Implements" 129 (.lit (.agg #[hnd 24])) := methLit (by intro w; kernel_rfl)
theorem mAssE : MethIs Tryz.prog 102 (.lit (.agg #[hnd 24])) "AssignableTo" 126 (.lit (.agg #[hnd 24])) := methLit (by intro w; kernel_rfl)
theorem mAssF : MethIs Tryz.prog 102 (.lit (.agg #[hnd 44])) "AssignableTo" 126 (.lit (.agg #[hnd 44])) := methLit (by intro w; kernel_rfl)

end Go.Proofs.YtbkhpohlpfcibaaGreatDoor
end

section
namespace Go.Proofs.YtbkhpohlpfcibaaGreatDoor
open Go Go.Eng

/-! ### errors -/
theorem mkI2_fault (t : TypeId) (x : AV) (K : AV → Prop) : mkI2 (some tyFault) t x K = K (.ifc t x) := mkI2_some rfl _ _
theorem bd_fault {t : TypeId} (ht : T t = some tyFault) (a : List UInt8) (n : Int) (K : AV → Prop) : wbuild T t [(0, str a), (1, i64 n)] K = K (.agg [str a, i64 n]) := by
  simp only [wbuild, ht, tyFault]
  simp [T9, T24, afill, tyStr, tyInt, toLits, AV.cells, AV.one, Value.oneCell', putAt, str, i64]
def errA (l : List UInt8) (n : Int) : AV := .ifc 44 (.agg [str l, i64 n])
def numA (n : Int) : AV := .ifc 24 (i64 n)
def tgtA : AV := .ifc 46 (.ptr 0 0)
theorem box_fault (l : List UInt8) (n : Int) (σ : Store) (K : AV → Store → Prop) : wbox (.agg [str l, i64 n]) σ K = K (.ptr σ.length 0) (σ ++ [.rw [str l, i64 n]]) := by
  simp [wbox, AV.cells, AV.one, str, i64, Value.oneCell']
theorem fa_fault {t : TypeId} (ht : T t = some tyFault) (id o : Nat) (K : AV → Prop) : wfieldAddr T t (.ptr id o) 1 K = K (.ptr id (o + 1)) := by
  simp [wfieldAddr, ht, tyFault, T24, tyInt]
theorem ld_f1 (a : AV) (n : Int) (K : AV → Prop) : ld2 (some tyInt) (some [a, i64 n]) 1 K = K (i64 n) := by
  simp [ld2, wfin, tyInt, TD.agg]
def rvB (t k fl : Nat) : Blk := .rw [.lit (hnd t), .ptr k 0, .lit (.int .u64 (fl : Int))]
theorem box_rv (t k fl : Nat) (σ : Store) (K : AV → Store → Prop) : wbox (rvA t k fl) σ K = K (.ptr σ.length 0) (σ ++ [rvB t k fl]) := by
  simp [wbox, rvA, rvB, hnd, AV.cells, AV.one, Value.oneCell']
theorem rd_rvB0 (t k fl : Nat) (σ : Store) : rd (rvB t k fl :: σ) 0 = some [.lit (hnd t), .ptr k 0, .lit (.int .u64 (fl : Int))] := rfl
theorem ld_rv (t k fl : Nat) (K : AV → Prop) : ld2 (some tyRV) (some [.lit (hnd t), .ptr k 0, .lit (.int .u64 (fl : Int))]) 0 K = K (rvA t k fl) := by
  simp [ld2, wfin, tyRV, TD.agg, rvA]
theorem al_rv (e : TypeId) (σ : Store) (K : AV → Store → Prop) : al1 T e (some tyRV) σ K = K (.ptr σ.length 0) (σ ++ [.rw [.lit (.pointer none), .lit (.pointer none), .lit (.int .u64 0)]]) := by
  simp [al1, tyRV, toLits]
theorem st_rv (a b c : AV) (t k fl id : Nat) (σ : Store) (K : AV → Store → Prop) : st2 (some tyRV) (some (.rw [a, b, c])) id 0 (rvA t k fl) σ K = K (.lit undef) (σ.set id (rvB t k fl)) := by
  simp [st2, tyRV, rvA, rvB, hnd, AV.cells, AV.one, Value.oneCell', putAt]
theorem winv_err (l : List UInt8) (m : Int) (n : String) (xs : List AV) (σ : Store) (KS Kp : AV → Store → Prop) : winvoke Tryz.prog (errA l m) n xs σ KS Kp = ∃ q : FuncId × AV, MethIs Tryz.prog 44 (.agg [str l, i64 m]) n q.1 q.2 ∧ ACalls Tryz.prog q.1 (q.2 :: xs) σ (callK KS Kp) := winvoke_ifc _ _ _ _
theorem winv_num (m : Int) (n : String) (xs : List AV) (σ : Store) (KS Kp : AV → Store → Prop) : winvoke Tryz.prog (numA m) n xs σ KS Kp = ∃ q : FuncId × AV, MethIs Tryz.prog 24 (i64 m) n q.1 q.2 ∧ ACalls Tryz.prog q.1 (q.2 :: xs) σ (callK KS Kp) := winvoke_ifc _ _ _ _
theorem winv_rt (t : Nat) (n : String) (xs : List AV) (σ : Store) (KS Kp : AV → Store → Prop) : winvoke Tryz.prog (.lit (rtypeV 2 t)) n xs σ KS Kp = ∃ q : FuncId × AV, MethIs Tryz.prog 102 (.lit (.agg #[hnd t])) n q.1 q.2 ∧ ACalls Tryz.prog q.1 (q.2 :: xs) σ (callK KS Kp) := winvoke_lit _ _ _ _
theorem qinv_rt (t : Nat) (n : String) (xs : List AV) (σ : Store) (K : AV → Prop) : qinvoke Tryz.prog (.lit (rtypeV 2 t)) n xs σ K = ∃ q : FuncId × AV, MethIs Tryz.prog 102 (.lit (.agg #[hnd t])) n q.1 q.2 ∧ exq (callV Tryz.prog q.1 (q.2 :: xs) σ) K := qinvoke_lit _ _ _ _
theorem isn_err (l : List UInt8) (n : Int) : isNilB (errA l n) = some false := rfl
theorem isn_num (n : Int) : isNilB (numA n) = some false := rfl
theorem isn_tgt : isNilB tgtA = some false := rfl
theorem ld_I (x : AV) (K : AV → Prop) : ld2 (some tyI) (some [x]) 0 K = K x := by simp [ld2, wfin, tyI, TD.agg]
theorem al_int (e : TypeId) (σ : Store) (K : AV → Store → Prop) : al1 T e (some tyInt) σ K = K (.ptr σ.length 0) (σ ++ [.rw [i64 0]]) := by
  simp [al1, tyInt, toLits, i64]
theorem ld_f0 (n : Int) (K : AV → Prop) : ld2 (some tyInt) (some [i64 n]) 0 K = K (i64 n) := by simp [ld2, wfin, tyInt, TD.agg]
theorem ifo_err (l : List UInt8) (n : Int) : ifaceOf (errA l n) = some (44, .agg [str l, i64 n]) := rfl
theorem ifo_num (n : Int) : ifaceOf (numA n) = some (24, i64 n) := rfl
theorem if_ok {α : Type} (a b : α) : (if true = true then a else b) = a := rfl
theorem fst_mk {α β : Type} (a : α) (b : β) : (a, b).1 = a := rfl
theorem snd_mk {α β : Type} (a : α) (b : β) : (a, b).2 = b := rfl
theorem ren_err (q : List Nat) (l : List UInt8) (n : Int) : (errA l n).ren q = some (errA l n) := by simp [errA, AV.ren, renL, ren_str, ren_i64]
theorem ren_num (q : List Nat) (n : Int) : (numA n).ren q = some (numA n) := by simp [numA, AV.ren, ren_i64]
theorem unwrap_ok (l : List UInt8) (n : Int) : ACalls Tryz.prog 120 [.agg [str l, i64 n]] [] (fun y _ => y = .ret (numA n)) := by
  refine ACalls.body T_ok Tryz.func120 (by kernel_rfl) rfl Tryz.ntmps120 (congrArg Array.toList Tryz.results120) ?_
  try simp -implicitDefEqProofs only [mkI2_fault, bd_fault, gl_errT, box_fault, box_rv, fa_fault T44, ld_f1, ld_rv, rd_rvB0, winv_err, winv_num, winv_rt, qinv_rt, fst_mk, snd_mk, if_ok, isn_err, isn_num, isn_tgt, ld_f0, al_int, ld_I, rd_rvB0, ifo_err, ifo_num, al_rv, st_rv, TB, SB, Int.reduceToNat, Nat.reduceAdd, Nat.reduceEqDiff, Nat.reduceLT, Nat.reduceMod, Nat.reducePow, Nat.reduceSub, if_true, reduceIte]
  exact endQ_noid (ren_num _ _) rfl
theorem as_ok (l : List UInt8) (n : Int) : ACalls Tryz.prog 48 [errA l n, tgtA, rvA 46 1 150, .lit (rtypeV 2 24)] [.rw [i64 0], .rw [.ptr 0 0], rvB 46 1 150]
    (fun y σ => y = .ret (bl true) ∧ σ = [.rw [i64 n], .rw [.ptr 0 0], rvB 46 1 150, rvB 46 1 150, .rw [i64 n]]) := by
  refine ACalls.body T_ok Tryz.func48 (by kernel_rfl) rfl Tryz.ntmps48 (congrArg Array.toList Tryz.results48) ?_
  try simp -implicitDefEqProofs only [mkI2_fault, bd_fault, gl_errT, box_fault, box_rv, fa_fault T44, ld_f1, ld_rv, rd_rvB0, winv_err, winv_num, winv_rt, qinv_rt, fst_mk, snd_mk, if_ok, isn_err, isn_num, isn_tgt, ld_f0, al_int, ld_I, rd_rvB0, ifo_err, ifo_num, al_rv, st_rv, TB, SB, Int.reduceToNat, Nat.reduceAdd, Nat.reduceEqDiff, Nat.reduceLT, Nat.reduceMod, Nat.reducePow, Nat.reduceSub, if_true, reduceIte]
  rw [W_loop]
  refine ⟨Nat, fun k => k ≤ 1, fun k => [(if k = 0 then errA l n else numA n), tgtA, rvA 46 1 150, .lit (rtypeV 2 24), .bot, .bot, .ptr 3 0, .bot, bl false, .bot, .bot, .bot, .bot, .bot, .bot, .bot, .bot, .bot, .bot, .bot, .bot, .bot, .bot, .bot, .bot, .bot, .bot, .bot, .bot, .bot, .bot, .bot, .bot, .bot, .bot, .bot, .bot, .bot, .bot, .bot, .bot, .bot, .bot, .bot, .bot, .bot, .bot, .bot, .bot, .bot, .bot, .bot, .bot, .bot, .bot, .bot, .bot, .bot, .bot, .bot, .bot, .bot], fun _ => [.rw [i64 0], .rw [.ptr 0 0], rvB 46 1 150, rvB 46 1 150], fun k => 1 - k, 0, by omega, ?_, ?_⟩
  · refine fits_here ?_
    try simp only [leI_nil, leI_bot, leI_same, leI_cons, List.getElem?_cons_zero, true_and, and_true, or_true, true_or, reduceCtorEq, false_or]
    exact .inr rfl
  · intro k hk
    rcases k with _ | k
    · simp only [if_true]
      try simp -implicitDefEqProofs only [mkI2_fault, bd_fault, gl_errT, box_fault, box_rv, fa_fault T44, ld_f1, ld_rv, rd_rvB0, winv_err, winv_num, winv_rt, qinv_rt, fst_mk, snd_mk, if_ok, isn_err, isn_num, isn_tgt, ld_f0, al_int, ld_I, rd_rvB0, ifo_err, ifo_num, al_rv, st_rv, TB, SB, Int.reduceToNat, Nat.reduceAdd, Nat.reduceEqDiff, Nat.reduceLT, Nat.reduceMod, Nat.reducePow, Nat.reduceSub, if_true, reduceIte]
      refine ACalls.same (typeOfF _ _) ?_
      try simp -implicitDefEqProofs only [mkI2_fault, bd_fault, gl_errT, box_fault, box_rv, fa_fault T44, ld_f1, ld_rv, rd_rvB0, winv_err, winv_num, winv_rt, qinv_rt, fst_mk, snd_mk, if_ok, isn_err, isn_num, isn_tgt, ld_f0, al_int, ld_I, rd_rvB0, ifo_err, ifo_num, al_rv, st_rv, TB, SB, Int.reduceToNat, Nat.reduceAdd, Nat.reduceEqDiff, Nat.reduceLT, Nat.reduceMod, Nat.reducePow, Nat.reduceSub, if_true, reduceIte]
      refine ⟨(_, _), mAssF, ?_⟩
      refine ACalls.same (assF _) ?_
      try simp -implicitDefEqProofs only [mkI2_fault, bd_fault, gl_errT, box_fault, box_rv, fa_fault T44, ld_f1, ld_rv, rd_rvB0, winv_err, winv_num, winv_rt, qinv_rt, fst_mk, snd_mk, if_ok, isn_err, isn_num, isn_tgt, ld_f0, al_int, ld_I, rd_rvB0, ifo_err, ifo_num, al_rv, st_rv, TB, SB, Int.reduceToNat, Nat.reduceAdd, Nat.reduceEqDiff, Nat.reduceLT, Nat.reduceMod, Nat.reducePow, Nat.reduceSub, if_true, reduceIte]
      refine ⟨false, by kernel_rfl, fun h => (by cases h), fun _ => ?_⟩
      try simp -implicitDefEqProofs only [mkI2_fault, bd_fault, gl_errT, box_fault, box_rv, fa_fault T44, ld_f1, ld_rv, rd_rvB0, winv_err, winv_num, winv_rt, qinv_rt, fst_mk, snd_mk, if_ok, isn_err, isn_num, isn_tgt, ld_f0, al_int, ld_I, rd_rvB0, ifo_err, ifo_num, al_rv, st_rv, TB, SB, Int.reduceToNat, Nat.reduceAdd, Nat.reduceEqDiff, Nat.reduceLT, Nat.reduceMod, Nat.reducePow, Nat.reduceSub, if_true, reduceIte]
      refine ⟨true, by kernel_rfl, fun _ => ?_, fun h => (by cases h)⟩
      refine ⟨(_, _), mrow_ok (f := 120) (ptr := false) (by kernel_rfl), ?_⟩
      refine (unwrap_ok l n).pure (by simp [renL, AV.ren, ren_str, ren_i64]) ?_
      rintro _ σ rfl
      refine ⟨by simp [AEnd.noid, ren_num], ?_⟩
      try simp -implicitDefEqProofs only [mkI2_fault, bd_fault, gl_errT, box_fault, box_rv, fa_fault T44, ld_f1, ld_rv, rd_rvB0, winv_err, winv_num, winv_rt, qinv_rt, fst_mk, snd_mk, if_ok, isn_err, isn_num, isn_tgt, ld_f0, al_int, ld_I, rd_rvB0, ifo_err, ifo_num, al_rv, st_rv, TB, SB, Int.reduceToNat, Nat.reduceAdd, Nat.reduceEqDiff, Nat.reduceLT, Nat.reduceMod, Nat.reducePow, Nat.reduceSub, if_true, reduceIte]
      rw [loopQ_normal]
      refine ⟨0 + 1, by omega, (by show 1 - (0 + 1) < 1 - 0; omega), fits_same (q := [0, 1, 2, 3]) rfl rfl (by decide) ?_ ?_⟩
      · try simp only [List.set_cons_zero, List.set_cons_succ, List.length_cons, List.length_nil, Nat.reduceAdd, List.cons_append, List.nil_append, leR_bot, leR_u8, leR_u32, leR_u64, leR_i64, leR_bl, leR_str, leR_lit, leR_nil, leR_cons, ren_u8, ren_u32, ren_u64, ren_i64, ren_bl, ren_str, renL_map u8 ren_u8, renL_map u32 ren_u32, AV.ren, keepB_nil, keepB_dead, keepB_rw u8 ren_u8, keepB_rw u32 ren_u32, keepB_rw i64 ren_i64, keepB_rw u64 ren_u64, renL_map u64 ren_u64, renL_map i64 ren_i64, List.getElem?_cons_zero, List.getElem?_cons_succ, Option.map_some, u32_inj, u64_inj, u8_inj, i64_inj, bl_inj, str_inj, true_and, and_true, or_true, true_or, reduceCtorEq, false_or, Option.some.injEq, Blk.rw.injEq, AV.sl.injEq, AV.ref.injEq, AV.ptr.injEq]
        simp [ren_num, tgtA, rvA, rtypeV, hnd, AV.ren, renL]
      · simp [keepB, rvB, Blk.ren, renL, AV.ren, ren_i64]
    · obtain rfl : k = 0 := by omega
      simp only [Nat.succ_ne_zero, if_false]
      try simp -implicitDefEqProofs only [mkI2_fault, bd_fault, gl_errT, box_fault, box_rv, fa_fault T44, ld_f1, ld_rv, rd_rvB0, winv_err, winv_num, winv_rt, qinv_rt, fst_mk, snd_mk, if_ok, isn_err, isn_num, isn_tgt, ld_f0, al_int, ld_I, rd_rvB0, ifo_err, ifo_num, al_rv, st_rv, TB, SB, Int.reduceToNat, Nat.reduceAdd, Nat.reduceEqDiff, Nat.reduceLT, Nat.reduceMod, Nat.reducePow, Nat.reduceSub, if_true, reduceIte]
      refine ACalls.same (typeOfE _ _) ?_
      try simp -implicitDefEqProofs only [mkI2_fault, bd_fault, gl_errT, box_fault, box_rv, fa_fault T44, ld_f1, ld_rv, rd_rvB0, winv_err, winv_num, winv_rt, qinv_rt, fst_mk, snd_mk, if_ok, isn_err, isn_num, isn_tgt, ld_f0, al_int, ld_I, rd_rvB0, ifo_err, ifo_num, al_rv, st_rv, TB, SB, Int.reduceToNat, Nat.reduceAdd, Nat.reduceEqDiff, Nat.reduceLT, Nat.reduceMod, Nat.reducePow, Nat.reduceSub, if_true, reduceIte]
      refine ⟨(_, _), mAssE, ?_⟩
      refine ACalls.same (assE _) ?_
      try simp -implicitDefEqProofs only [mkI2_fault, bd_fault, gl_errT, box_fault, box_rv, fa_fault T44, ld_f1, ld_rv, rd_rvB0, winv_err, winv_num, winv_rt, qinv_rt, fst_mk, snd_mk, if_ok, isn_err, isn_num, isn_tgt, ld_f0, al_int, ld_I, rd_rvB0, ifo_err, ifo_num, al_rv, st_rv, TB, SB, Int.reduceToNat, Nat.reduceAdd, Nat.reduceEqDiff, Nat.reduceLT, Nat.reduceMod, Nat.reducePow, Nat.reduceSub, if_true, reduceIte]
      refine ACalls.same (valueElem (id := 0) rfl) ?_
      try simp -implicitDefEqProofs only [mkI2_fault, bd_fault, gl_errT, box_fault, box_rv, fa_fault T44, ld_f1, ld_rv, rd_rvB0, winv_err, winv_num, winv_rt, qinv_rt, fst_mk, snd_mk, if_ok, isn_err, isn_num, isn_tgt, ld_f0, al_int, ld_I, rd_rvB0, ifo_err, ifo_num, al_rv, st_rv, TB, SB, Int.reduceToNat, Nat.reduceAdd, Nat.reduceEqDiff, Nat.reduceLT, Nat.reduceMod, Nat.reducePow, Nat.reduceSub, if_true, reduceIte]
      refine ACalls.mono (valueOfE n _) ?_
      rintro _ _ ⟨rfl, rfl⟩
      try simp -implicitDefEqProofs only [mkI2_fault, bd_fault, gl_errT, box_fault, box_rv, fa_fault T44, ld_f1, ld_rv, rd_rvB0, winv_err, winv_num, winv_rt, qinv_rt, fst_mk, snd_mk, if_ok, isn_err, isn_num, isn_tgt, ld_f0, al_int, ld_I, rd_rvB0, ifo_err, ifo_num, al_rv, st_rv, TB, SB, Int.reduceToNat, Nat.reduceAdd, Nat.reduceEqDiff, Nat.reduceLT, Nat.reduceMod, Nat.reducePow, Nat.reduceSub, if_true, reduceIte]
      refine ACalls.mono (valueSet (old := i64 0) (n := n) rfl rfl) ?_
      rintro _ _ ⟨rfl, rfl⟩
      try simp -implicitDefEqProofs only [mkI2_fault, bd_fault, gl_errT, box_fault, box_rv, fa_fault T44, ld_f1, ld_rv, rd_rvB0, winv_err, winv_num, winv_rt, qinv_rt, fst_mk, snd_mk, if_ok, isn_err, isn_num, isn_tgt, ld_f0, al_int, ld_I, rd_rvB0, ifo_err, ifo_num, al_rv, st_rv, TB, SB, Int.reduceToNat, Nat.reduceAdd, Nat.reduceEqDiff, Nat.reduceLT, Nat.reduceMod, Nat.reducePow, Nat.reduceSub, if_true, reduceIte]
      exact endQ_here ⟨rfl, rfl⟩
theorem As_ok (l : List UInt8) (n : Int) : ACalls Tryz.prog 27 [errA l n, tgtA] [.rw [i64 0]] (fun y σ => y = .ret (bl true) ∧ σ = [.rw [i64 n]]) := by
  refine ACalls.body T_ok Tryz.func27 (by kernel_rfl) rfl Tryz.ntmps27 (congrArg Array.toList Tryz.results27) ?_
  try simp -implicitDefEqProofs only [mkI2_fault, bd_fault, gl_errT, box_fault, box_rv, fa_fault T44, ld_f1, ld_rv, rd_rvB0, winv_err, winv_num, winv_rt, qinv_rt, fst_mk, snd_mk, if_ok, isn_err, isn_num, isn_tgt, ld_f0, al_int, ld_I, rd_rvB0, ifo_err, ifo_num, al_rv, st_rv, TB, SB, Int.reduceToNat, Nat.reduceAdd, Nat.reduceEqDiff, Nat.reduceLT, Nat.reduceMod, Nat.reducePow, Nat.reduceSub, if_true, reduceIte]
  refine ACalls.mono (valueOfP 0 0 _) ?_
  rintro _ _ ⟨rfl, rfl⟩
  try simp -implicitDefEqProofs only [mkI2_fault, bd_fault, gl_errT, box_fault, box_rv, fa_fault T44, ld_f1, ld_rv, rd_rvB0, winv_err, winv_num, winv_rt, qinv_rt, fst_mk, snd_mk, if_ok, isn_err, isn_num, isn_tgt, ld_f0, al_int, ld_I, rd_rvB0, ifo_err, ifo_num, al_rv, st_rv, TB, SB, Int.reduceToNat, Nat.reduceAdd, Nat.reduceEqDiff, Nat.reduceLT, Nat.reduceMod, Nat.reducePow, Nat.reduceSub, if_true, reduceIte]
  refine ACalls.same (valueType _ _) ?_
  try simp -implicitDefEqProofs only [mkI2_fault, bd_fault, gl_errT, box_fault, box_rv, fa_fault T44, ld_f1, ld_rv, rd_rvB0, winv_err, winv_num, winv_rt, qinv_rt, fst_mk, snd_mk, if_ok, isn_err, isn_num, isn_tgt, ld_f0, al_int, ld_I, rd_rvB0, ifo_err, ifo_num, al_rv, st_rv, TB, SB, Int.reduceToNat, Nat.reduceAdd, Nat.reduceEqDiff, Nat.reduceLT, Nat.reduceMod, Nat.reducePow, Nat.reduceSub, if_true, reduceIte]
  refine ⟨(_, _), mKindP, ?_⟩
  refine ACalls.same (kindP _) ?_
  try simp -implicitDefEqProofs only [mkI2_fault, bd_fault, gl_errT, box_fault, box_rv, fa_fault T44, ld_f1, ld_rv, rd_rvB0, winv_err, winv_num, winv_rt, qinv_rt, fst_mk, snd_mk, if_ok, isn_err, isn_num, isn_tgt, ld_f0, al_int, ld_I, rd_rvB0, ifo_err, ifo_num, al_rv, st_rv, TB, SB, Int.reduceToNat, Nat.reduceAdd, Nat.reduceEqDiff, Nat.reduceLT, Nat.reduceMod, Nat.reducePow, Nat.reduceSub, if_true, reduceIte]
  have e22 : (!decide ((22 : UInt8) = UInt8.ofNat 22)) = false := rfl
  simp only [e22]
  try simp -implicitDefEqProofs only [mkI2_fault, bd_fault, gl_errT, box_fault, box_rv, fa_fault T44, ld_f1, ld_rv, rd_rvB0, winv_err, winv_num, winv_rt, qinv_rt, fst_mk, snd_mk, if_ok, isn_err, isn_num, isn_tgt, ld_f0, al_int, ld_I, rd_rvB0, ifo_err, ifo_num, al_rv, st_rv, TB, SB, Int.reduceToNat, Nat.reduceAdd, Nat.reduceEqDiff, Nat.reduceLT, Nat.reduceMod, Nat.reducePow, Nat.reduceSub, if_true, reduceIte]
  refine ACalls.same (valueNil (id := 0) (off := 0) rfl) ?_
  try simp -implicitDefEqProofs only [mkI2_fault, bd_fault, gl_errT, box_fault, box_rv, fa_fault T44, ld_f1, ld_rv, rd_rvB0, winv_err, winv_num, winv_rt, qinv_rt, fst_mk, snd_mk, if_ok, isn_err, isn_num, isn_tgt, ld_f0, al_int, ld_I, rd_rvB0, ifo_err, ifo_num, al_rv, st_rv, TB, SB, Int.reduceToNat, Nat.reduceAdd, Nat.reduceEqDiff, Nat.reduceLT, Nat.reduceMod, Nat.reducePow, Nat.reduceSub, if_true, reduceIte]
  refine ⟨(_, _), mElemP, ?_⟩
  refine ACalls.same (relemP _) ?_
  try simp -implicitDefEqProofs only [mkI2_fault, bd_fault, gl_errT, box_fault, box_rv, fa_fault T44, ld_f1, ld_rv, rd_rvB0, winv_err, winv_num, winv_rt, qinv_rt, fst_mk, snd_mk, if_ok, isn_err, isn_num, isn_tgt, ld_f0, al_int, ld_I, rd_rvB0, ifo_err, ifo_num, al_rv, st_rv, TB, SB, Int.reduceToNat, Nat.reduceAdd, Nat.reduceEqDiff, Nat.reduceLT, Nat.reduceMod, Nat.reducePow, Nat.reduceSub, if_true, reduceIte]
  refine ⟨(_, _), mKindE, ?_⟩
  refine ACalls.same (kindE _) ?_
  try simp -implicitDefEqProofs only [mkI2_fault, bd_fault, gl_errT, box_fault, box_rv, fa_fault T44, ld_f1, ld_rv, rd_rvB0, winv_err, winv_num, winv_rt, qinv_rt, fst_mk, snd_mk, if_ok, isn_err, isn_num, isn_tgt, ld_f0, al_int, ld_I, rd_rvB0, ifo_err, ifo_num, al_rv, st_rv, TB, SB, Int.reduceToNat, Nat.reduceAdd, Nat.reduceEqDiff, Nat.reduceLT, Nat.reduceMod, Nat.reducePow, Nat.reduceSub, if_true, reduceIte]
  have e20 : (!decide ((2 : UInt8) = UInt8.ofNat 20)) = true := rfl
  simp only [e20]
  try simp -implicitDefEqProofs only [mkI2_fault, bd_fault, gl_errT, box_fault, box_rv, fa_fault T44, ld_f1, ld_rv, rd_rvB0, winv_err, winv_num, winv_rt, qinv_rt, fst_mk, snd_mk, if_ok, isn_err, isn_num, isn_tgt, ld_f0, al_int, ld_I, rd_rvB0, ifo_err, ifo_num, al_rv, st_rv, TB, SB, Int.reduceToNat, Nat.reduceAdd, Nat.reduceEqDiff, Nat.reduceLT, Nat.reduceMod, Nat.reducePow, Nat.reduceSub, if_true, reduceIte]
  refine ⟨(_, _), mImplE, ?_⟩
  refine ACalls.same (implE _) ?_
  try simp -implicitDefEqProofs only [mkI2_fault, bd_fault, gl_errT, box_fault, box_rv, fa_fault T44, ld_f1, ld_rv, rd_rvB0, winv_err, winv_num, winv_rt, qinv_rt, fst_mk, snd_mk, if_ok, isn_err, isn_num, isn_tgt, ld_f0, al_int, ld_I, rd_rvB0, ifo_err, ifo_num, al_rv, st_rv, TB, SB, Int.reduceToNat, Nat.reduceAdd, Nat.reduceEqDiff, Nat.reduceLT, Nat.reduceMod, Nat.reducePow, Nat.reduceSub, if_true, reduceIte]
  refine ACalls.mono (as_ok l n) ?_
  rintro _ _ ⟨rfl, rfl⟩
  try simp -implicitDefEqProofs only [mkI2_fault, bd_fault, gl_errT, box_fault, box_rv, fa_fault T44, ld_f1, ld_rv, rd_rvB0, winv_err, winv_num, winv_rt, qinv_rt, fst_mk, snd_mk, if_ok, isn_err, isn_num, isn_tgt, ld_f0, al_int, ld_I, rd_rvB0, ifo_err, ifo_num, al_rv, st_rv, TB, SB, Int.reduceToNat, Nat.reduceAdd, Nat.reduceEqDiff, Nat.reduceLT, Nat.reduceMod, Nat.reducePow, Nat.reduceSub, if_true, reduceIte]
  refine .inl ⟨[0], bl true, [.rw [i64 n]], rfl, rfl, by simp, by simp [AV.ren, ren_bl], ?_, rfl, rfl⟩
  simp [keepB, Blk.ren, renL, ren_i64]
theorem As_nil : ACalls Tryz.prog 27 [.lit .nilIface, tgtA] [.rw [i64 0]] (fun y σ => y = .ret (bl false) ∧ σ = [.rw [i64 0]]) := by
  refine ACalls.body T_ok Tryz.func27 (by kernel_rfl) rfl Tryz.ntmps27 (congrArg Array.toList Tryz.results27) ?_
  try simp -implicitDefEqProofs only [mkI2_fault, bd_fault, gl_errT, box_fault, box_rv, fa_fault T44, ld_f1, ld_rv, rd_rvB0, winv_err, winv_num, winv_rt, qinv_rt, fst_mk, snd_mk, if_ok, isn_err, isn_num, isn_tgt, ld_f0, al_int, ld_I, rd_rvB0, ifo_err, ifo_num, al_rv, st_rv, TB, SB, Int.reduceToNat, Nat.reduceAdd, Nat.reduceEqDiff, Nat.reduceLT, Nat.reduceMod, Nat.reducePow, Nat.reduceSub, if_true, reduceIte]
  exact endQ_here ⟨rfl, rfl⟩
theorem number_err (l : List UInt8) (n : Int) : ACalls Tryz.prog 15 [errA l n] [] (fun y _ => y = .ret (i64 n)) := by
  refine ACalls.body T_ok Tryz.func15 (by kernel_rfl) rfl Tryz.ntmps15 (congrArg Array.toList Tryz.results15) ?_
  try simp -implicitDefEqProofs only [mkI2_fault, bd_fault, gl_errT, box_fault, box_rv, fa_fault T44, ld_f1, ld_rv, rd_rvB0, winv_err, winv_num, winv_rt, qinv_rt, fst_mk, snd_mk, if_ok, isn_err, isn_num, isn_tgt, ld_f0, al_int, ld_I, rd_rvB0, ifo_err, ifo_num, al_rv, st_rv, TB, SB, Int.reduceToNat, Nat.reduceAdd, Nat.reduceEqDiff, Nat.reduceLT, Nat.reduceMod, Nat.reducePow, Nat.reduceSub, if_true, reduceIte]
  refine ACalls.frame ([0]) (As_ok l n) rfl (by decide) (by simp [keepB, keepF, bren_rw, bren_ro, bren_rt, bren_dead, bren_lp, renL, AV.ren, AEnd.ren, renL_u32, ren_str, ren_i64, ren_bl, ren_u8, ren_u32, ren_u64, List.getElem?_cons_zero, List.getElem?_cons_succ]) (by first | rfl | simp [keepB, keepF, bren_rw, bren_ro, bren_rt, bren_dead, bren_lp, renL, AV.ren, AEnd.ren, renL_u32, ren_str, ren_i64, ren_bl, ren_u8, ren_u32, ren_u64, List.getElem?_cons_zero, List.getElem?_cons_succ]) ?_
  rintro _ _ ⟨rfl, rfl⟩
  refine ⟨.ret (bl true), [.rw [i64 n]], (by show keepF _ _ ([0]) ([0]) 0 _; simp [keepB, keepF, bren_rw, bren_ro, bren_rt, bren_dead, bren_lp, renL, AV.ren, AEnd.ren, renL_u32, ren_str, ren_i64, ren_bl, ren_u8, ren_u32, ren_u64, List.getElem?_cons_zero, List.getElem?_cons_succ]), (by show AEnd.ren ([0]) _ _; first | rfl | simp [keepB, keepF, bren_rw, bren_ro, bren_rt, bren_dead, bren_lp, renL, AV.ren, AEnd.ren, renL_u32, ren_str, ren_i64, ren_bl, ren_u8, ren_u32, ren_u64, List.getElem?_cons_zero, List.getElem?_cons_succ]), ?_⟩
  try simp -implicitDefEqProofs only [mkI2_fault, bd_fault, gl_errT, box_fault, box_rv, fa_fault T44, ld_f1, ld_rv, rd_rvB0, winv_err, winv_num, winv_rt, qinv_rt, fst_mk, snd_mk, if_ok, isn_err, isn_num, isn_tgt, ld_f0, al_int, ld_I, rd_rvB0, ifo_err, ifo_num, al_rv, st_rv, TB, SB, Int.reduceToNat, Nat.reduceAdd, Nat.reduceEqDiff, Nat.reduceLT, Nat.reduceMod, Nat.reducePow, Nat.reduceSub, if_true, reduceIte]
  exact endQ_i64 rfl
theorem number_nil : ACalls Tryz.prog 15 [.lit .nilIface] [] (fun y _ => y = .ret (i64 0)) := by
  refine ACalls.body T_ok Tryz.func15 (by kernel_rfl) rfl Tryz.ntmps15 (congrArg Array.toList Tryz.results15) ?_
  try simp -implicitDefEqProofs only [mkI2_fault, bd_fault, gl_errT, box_fault, box_rv, fa_fault T44, ld_f1, ld_rv, rd_rvB0, winv_err, winv_num, winv_rt, qinv_rt, fst_mk, snd_mk, if_ok, isn_err, isn_num, isn_tgt, ld_f0, al_int, ld_I, rd_rvB0, ifo_err, ifo_num, al_rv, st_rv, TB, SB, Int.reduceToNat, Nat.reduceAdd, Nat.reduceEqDiff, Nat.reduceLT, Nat.reduceMod, Nat.reducePow, Nat.reduceSub, if_true, reduceIte]
  refine ACalls.frame ([0]) (As_nil) rfl (by decide) (by simp [keepB, keepF, bren_rw, bren_ro, bren_rt, bren_dead, bren_lp, renL, AV.ren, AEnd.ren, renL_u32, ren_str, ren_i64, ren_bl, ren_u8, ren_u32, ren_u64, List.getElem?_cons_zero, List.getElem?_cons_succ]) (by first | rfl | simp [keepB, keepF, bren_rw, bren_ro, bren_rt, bren_dead, bren_lp, renL, AV.ren, AEnd.ren, renL_u32, ren_str, ren_i64, ren_bl, ren_u8, ren_u32, ren_u64, List.getElem?_cons_zero, List.getElem?_cons_succ]) ?_
  rintro _ _ ⟨rfl, rfl⟩
  refine ⟨.ret (bl false), [.rw [i64 0]], (by show keepF _ _ ([0]) ([0]) 0 _; simp [keepB, keepF, bren_rw, bren_ro, bren_rt, bren_dead, bren_lp, renL, AV.ren, AEnd.ren, renL_u32, ren_str, ren_i64, ren_bl, ren_u8, ren_u32, ren_u64, List.getElem?_cons_zero, List.getElem?_cons_succ]), (by show AEnd.ren ([0]) _ _; first | rfl | simp [keepB, keepF, bren_rw, bren_ro, bren_rt, bren_dead, bren_lp, renL, AV.ren, AEnd.ren, renL_u32, ren_str, ren_i64, ren_bl, ren_u8, ren_u32, ren_u64, List.getElem?_cons_zero, List.getElem?_cons_succ]), ?_⟩
  try simp -implicitDefEqProofs only [mkI2_fault, bd_fault, gl_errT, box_fault, box_rv, fa_fault T44, ld_f1, ld_rv, rd_rvB0, winv_err, winv_num, winv_rt, qinv_rt, fst_mk, snd_mk, if_ok, isn_err, isn_num, isn_tgt, ld_f0, al_int, ld_I, rd_rvB0, ifo_err, ifo_num, al_rv, st_rv, TB, SB, Int.reduceToNat, Nat.reduceAdd, Nat.reduceEqDiff, Nat.reduceLT, Nat.reduceMod, Nat.reducePow, Nat.reduceSub, if_true, reduceIte]
  exact endQ_i64 rfl

end Go.Proofs.YtbkhpohlpfcibaaGreatDoor
end

section
namespace Go.Proofs.YtbkhpohlpfcibaaGreatDoor
open Go Go.Eng

/-! ### texts, one behind the other -/
theorem join_flat : ∀ l : List (List UInt8), Go.Lib.join l [] = l.flatten
  | [] => rfl
  | [x] => by simp [Go.Lib.join]
  | x :: y :: r => by
    have := join_flat (y :: r)
    rw [Go.Lib.join_cons] at this ⊢
    have e : ∀ r : List (List UInt8), Go.Lib.joinTail [] r = r.flatten := fun r => by simp [Go.Lib.joinTail]
    rw [e, List.flatten_cons]
    simp
theorem join_ok (l : List (List UInt8)) (h1 : l.length ≤ 1000000) (h2 : l.flatten.length ≤ 140737488355328) : ACalls Tryz.prog 33 [.sl (l.map str) l.length, str []] [] (fun x _ => x = .ret (str l.flatten)) :=
  acalls_below (by kernel_rfl) fun w O m vs hr => by
    simp only [reps, str, rep] at hr
    obtain ⟨_, _, e1, ⟨ad, cap, rfl, hlc, hcm, hcs⟩, _, _, rfl, rfl, rfl⟩ := hr
    have ev : vs = #[.slice ad l.length cap, .string ⟨[].toArray⟩] := by
      apply Array.ext'
      simpa using e1
    subst ev
    have fin : ∀ e w', e = Ending.returned (.string ⟨(Go.Lib.join ((l.map fun s => (⟨s.toArray⟩ : ByteArray)).map (·.data.toList)) []).toArray⟩) ∧ RowKit.Below w.heap.size w w' → (∃ u, e = .returned u ∧ ∀ (w' : World) (O : Nat → Prop) (m : Ids), rep w' O m (str l.flatten) u) ∧ RowKit.Below w.heap.size w w' := by
      rintro e w' ⟨rfl, hb⟩
      refine ⟨⟨_, rfl, fun w' O m => ?_⟩, hb⟩
      have e2 : (l.map fun s => (⟨s.toArray⟩ : ByteArray)).map (·.data.toList) = l := by
        rw [List.map_map]
        exact List.map_id'' (fun s => rfl) l
      rw [e2, join_flat]
      simp only [str, rep]
    rcases hcs with hn | ⟨b, off, rfl, _, hb, hat⟩
    · have hl : l = [] := by simpa using hn
      subst hl
      refine (Go.Proofs.Tryz.strings_Join_none ad cap ⟨[].toArray⟩ w).mono ?_
      rintro e w' ⟨rfl, rfl⟩
      exact fin _ _ ⟨rfl, RowKit.Below.refl _ _⟩
    · have hj := Go.Proofs.Tryz.strings_Join b off cap (l.map fun s => (⟨s.toArray⟩ : ByteArray)) ⟨[].toArray⟩ w (fun j x hx => by
        rw [List.getElem?_map] at hx
        cases hs : l[j]? with
        | none => rw [hs] at hx; cases hx
        | some s =>
          rw [hs] at hx
          cases hx
          obtain ⟨v, hv, hrep⟩ := repAt_get hat j (str s) (by rw [List.getElem?_map, hs]; rfl)
          simp only [str, rep] at hrep
          rw [hv, hrep]) hb (by simp; omega) (by simpa using hlc) (by
        have e2 : (l.map fun s => (⟨s.toArray⟩ : ByteArray)).map (·.data.toList) = l := by
          rw [List.map_map]
          exact List.map_id'' (fun s => rfl) l
        rw [e2]
        show (Go.Lib.join l []).length ≤ _
        rw [join_flat]
        exact h2)
      rw [List.length_map] at hj
      exact hj.mono fin
theorem bs_str2 (a b : List UInt8) (σ : Store) (K : AV → Store → Prop) : bs2 (some tyStr) 2 [(0, str a), (1, str b)] σ K = K (.ref σ.length 0 2 1) (σ ++ [.rw ([a, b].map str)]) := by
  simp [bs2, tyStr, afill, zeros, AV.cells, str, putAt, AV.one, Value.oneCell', List.range_succ]
theorem bs_str4 (a b c d : List UInt8) (σ : Store) (K : AV → Store → Prop) : bs2 (some tyStr) 4 [(0, str a), (1, str b), (2, str c), (3, str d)] σ K = K (.ref σ.length 0 4 1) (σ ++ [.rw ([a, b, c, d].map str)]) := by
  simp [bs2, tyStr, afill, zeros, AV.cells, str, putAt, AV.one, Value.oneCell', List.range_succ]
theorem joined_ok (l : List (List UInt8)) (h1 : l.length ≤ 1000000) (h2 : l.flatten.length ≤ 140737488355328) : ACalls Tryz.prog 20 [.sl (l.map str) l.length] [] (fun x _ => x = .ret (str l.flatten)) := by
  refine ACalls.body T_ok Tryz.func20 (by kernel_rfl) rfl Tryz.ntmps20 (congrArg Array.toList Tryz.results20) ?_
  try simp -implicitDefEqProofs only [bs_str4, bs_str2, TB, SB, Int.reduceToNat, Nat.reduceAdd, Nat.reduceEqDiff, Nat.reduceLT, Nat.reduceMod, Nat.reducePow, Nat.reduceSub, if_true, reduceIte]
  refine (join_ok l h1 h2).pure (by first | rfl | simp [renL, AV.ren, renL_u32, renL_map str ren_str, ren_u8, ren_u32, ren_u64, ren_i64, ren_bl, ren_str]) ?_
  rintro _ σ rfl
  refine ⟨by first | rfl | simp [AEnd.noid, AV.ren, renL, renL_u32, renL_map str ren_str, ren_u8, ren_u32, ren_u64, ren_i64, ren_bl, ren_str], ?_⟩
  try simp -implicitDefEqProofs only [bs_str4, bs_str2, TB, SB, Int.reduceToNat, Nat.reduceAdd, Nat.reduceEqDiff, Nat.reduceLT, Nat.reduceMod, Nat.reducePow, Nat.reduceSub, if_true, reduceIte]
  exact endQ_str rfl
theorem joined_ref {l : List (List UInt8)} {n id : Nat} {σ : Store} {K : AEnd → Store → Prop} (hn : n = l.length) (h1 : l.length ≤ 1000000) (h2 : l.flatten.length ≤ 140737488355328) (hr : rd σ id = some (l.map str)) (hk : K (.ret (str l.flatten)) σ) : ACalls Tryz.prog 20 [.ref id 0 n 1] σ K := by
  subst hn
  exact (joined_ok l h1 h2).lend ⟨.inr (.inl ⟨id, 0, l.length, 1, l.map str, rfl, hr, by simp, renL_map str ren_str _ _, by rw [List.drop_zero, List.take_of_length_le (by simp)]⟩), trivial⟩ (by
    rintro _ σ' rfl
    exact ⟨trivial, hk⟩)

end Go.Proofs.YtbkhpohlpfcibaaGreatDoor
end

section
namespace Go.Proofs.YtbkhpohlpfcibaaGreatDoor
open Go Go.Eng

/-! ### what is tagged, boxes -/
theorem fillL_le (s : List UInt8) : (fillL s 16).length ≤ s.length + 16 := by
  unfold fillL
  split
  · omega
  · have h0 : 0 ≤ (s.length : Int).tmod 16 := Int.tmod_nonneg _ (by omega)
    simp only [List.length_append, List.length_replicate]
    omega
theorem lowL_len (x : BitVec 64) (n : Nat) : (lowL x n).length = n := by simp [lowL]
def mixL (ad box : List UInt8) : List UInt8 := [fillL ad 16, fillL box 16, lowL (BitVec.ofInt 64 (ad.length : Int)) 8, lowL (BitVec.ofInt 64 (box.length : Int)) 8].flatten
theorem mixL_le (ad box : List UInt8) : (mixL ad box).length ≤ ad.length + box.length + 48 := by
  have := fillL_le ad; have := fillL_le box
  simp only [mixL, List.flatten_cons, List.flatten_nil, List.length_append, lowL_len, List.length_nil]
  omega
theorem Mixed_ok (ad box : List UInt8) (ha : ad.length ≤ 100000) (hb : box.length ≤ 100000) : ACalls Tryz.prog 10 [str ad, str box] [] (fun y _ => y = .ret (str (mixL ad box))) := by
  have h8 : clamp8 8 = 8 := rfl
  have hl := mixL_le ad box
  refine ACalls.body T_ok Tryz.func10 (by kernel_rfl) rfl Tryz.ntmps10 (congrArg Array.toList Tryz.results10) ?_
  try simp -implicitDefEqProofs only [mkI2_fault, bd_fault T44, isn_err, ld_f0, bs_str2, bs_str4, TB, SB, Int.reduceToNat, Nat.reduceAdd, Nat.reduceEqDiff, Nat.reduceLT, Nat.reduceMod, Nat.reducePow, Nat.reduceSub, if_true, reduceIte]
  refine (fill_ok ad 16 (by omega) (by omega)).pure (by simp [renL, AV.ren, renL_map u32 ren_u32, renL_map u64 ren_u64, renL_map i64 ren_i64, renL_map str ren_str, ren_u32, ren_i64, ren_str, ren_u64, ren_bl, ren_u8, renL_u32]) ?_
  rintro _ σ rfl
  refine ⟨by simp [AEnd.noid, renL, AV.ren, renL_map u32 ren_u32, renL_map u64 ren_u64, renL_map i64 ren_i64, renL_map str ren_str, ren_u32, ren_i64, ren_str, ren_u64, ren_bl, ren_u8, renL_u32], ?_⟩
  try simp -implicitDefEqProofs only [mkI2_fault, bd_fault T44, isn_err, ld_f0, bs_str2, bs_str4, TB, SB, Int.reduceToNat, Nat.reduceAdd, Nat.reduceEqDiff, Nat.reduceLT, Nat.reduceMod, Nat.reducePow, Nat.reduceSub, if_true, reduceIte]
  refine (fill_ok box 16 (by omega) (by omega)).pure (by simp [renL, AV.ren, renL_map u32 ren_u32, renL_map u64 ren_u64, renL_map i64 ren_i64, renL_map str ren_str, ren_u32, ren_i64, ren_str, ren_u64, ren_bl, ren_u8, renL_u32]) ?_
  rintro _ σ rfl
  refine ⟨by simp [AEnd.noid, renL, AV.ren, renL_map u32 ren_u32, renL_map u64 ren_u64, renL_map i64 ren_i64, renL_map str ren_str, ren_u32, ren_i64, ren_str, ren_u64, ren_bl, ren_u8, renL_u32], ?_⟩
  try simp -implicitDefEqProofs only [mkI2_fault, bd_fault T44, isn_err, ld_f0, bs_str2, bs_str4, TB, SB, Int.reduceToNat, Nat.reduceAdd, Nat.reduceEqDiff, Nat.reduceLT, Nat.reduceMod, Nat.reducePow, Nat.reduceSub, if_true, reduceIte]
  refine (low_ok (BitVec.ofInt 64 (ad.length : Int)) 8).pure (by simp [renL, AV.ren, renL_map u32 ren_u32, renL_map u64 ren_u64, renL_map i64 ren_i64, renL_map str ren_str, ren_u32, ren_i64, ren_str, ren_u64, ren_bl, ren_u8, renL_u32]) ?_
  rintro _ σ rfl
  refine ⟨by simp [AEnd.noid, renL, AV.ren, renL_map u32 ren_u32, renL_map u64 ren_u64, renL_map i64 ren_i64, renL_map str ren_str, ren_u32, ren_i64, ren_str, ren_u64, ren_bl, ren_u8, renL_u32], ?_⟩
  try simp -implicitDefEqProofs only [mkI2_fault, bd_fault T44, isn_err, ld_f0, bs_str2, bs_str4, TB, SB, Int.reduceToNat, Nat.reduceAdd, Nat.reduceEqDiff, Nat.reduceLT, Nat.reduceMod, Nat.reducePow, Nat.reduceSub, if_true, reduceIte]
  refine (low_ok (BitVec.ofInt 64 (box.length : Int)) 8).pure (by simp [renL, AV.ren, renL_map u32 ren_u32, renL_map u64 ren_u64, renL_map i64 ren_i64, renL_map str ren_str, ren_u32, ren_i64, ren_str, ren_u64, ren_bl, ren_u8, renL_u32]) ?_
  rintro _ σ rfl
  refine ⟨by simp [AEnd.noid, renL, AV.ren, renL_map u32 ren_u32, renL_map u64 ren_u64, renL_map i64 ren_i64, renL_map str ren_str, ren_u32, ren_i64, ren_str, ren_u64, ren_bl, ren_u8, renL_u32], ?_⟩
  try simp -implicitDefEqProofs only [mkI2_fault, bd_fault T44, isn_err, ld_f0, bs_str2, bs_str4, TB, SB, Int.reduceToNat, Nat.reduceAdd, Nat.reduceEqDiff, Nat.reduceLT, Nat.reduceMod, Nat.reducePow, Nat.reduceSub, if_true, reduceIte]
  simp only [h8]
  try simp -implicitDefEqProofs only [mkI2_fault, bd_fault T44, isn_err, ld_f0, bs_str2, bs_str4, TB, SB, Int.reduceToNat, Nat.reduceAdd, Nat.reduceEqDiff, Nat.reduceLT, Nat.reduceMod, Nat.reducePow, Nat.reduceSub, if_true, reduceIte]
  refine joined_ref (l := [fillL ad 16, fillL box 16, lowL (BitVec.ofInt 64 (ad.length : Int)) 8, lowL (BitVec.ofInt 64 (box.length : Int)) 8]) rfl (by simp) (by show (mixL ad box).length ≤ _; omega) rfl ?_
  try simp -implicitDefEqProofs only [mkI2_fault, bd_fault T44, isn_err, ld_f0, bs_str2, bs_str4, TB, SB, Int.reduceToNat, Nat.reduceAdd, Nat.reduceEqDiff, Nat.reduceLT, Nat.reduceMod, Nat.reducePow, Nat.reduceSub, if_true, reduceIte]
  exact endQ_str rfl
def wArg : List UInt8 := [97, 32, 107, 101, 121, 44, 32, 111, 114, 32, 97, 32, 110, 111, 110, 99, 101, 44, 32, 111, 102, 32, 97, 110, 111, 116, 104, 101, 114, 32, 115, 105, 122, 101]
theorem check_ok (key nonce : List UInt8) (h : rightN key nonce) : ACalls Tryz.prog 24 [str key, str nonce] [] (fun y _ => y = .ret (.lit .nilIface)) := by
  obtain ⟨h1, h2⟩ := h
  refine ACalls.body T_ok Tryz.func24 (by kernel_rfl) rfl Tryz.ntmps24 (congrArg Array.toList Tryz.results24) ?_
  try simp -implicitDefEqProofs only [mkI2_fault, bd_fault T44, isn_err, ld_f0, bs_str2, bs_str4, TB, SB, Int.reduceToNat, Nat.reduceAdd, Nat.reduceEqDiff, Nat.reduceLT, Nat.reduceMod, Nat.reducePow, Nat.reduceSub, if_true, reduceIte]
  rw [decide_eq_true (show ((key.length : Nat) : Int) = 32 by omega)]
  try simp -implicitDefEqProofs only [mkI2_fault, bd_fault T44, isn_err, ld_f0, bs_str2, bs_str4, TB, SB, Int.reduceToNat, Nat.reduceAdd, Nat.reduceEqDiff, Nat.reduceLT, Nat.reduceMod, Nat.reducePow, Nat.reduceSub, if_true, reduceIte]
  exact ⟨fun h => absurd (by omega) h, fun _ => endQ_noid rfl rfl⟩
theorem check_wrong (key nonce : List UInt8) (h : ¬ rightN key nonce) : ACalls Tryz.prog 24 [str key, str nonce] [] (fun y _ => y = .ret (errA wArg 1)) := by
  refine ACalls.body T_ok Tryz.func24 (by kernel_rfl) rfl Tryz.ntmps24 (congrArg Array.toList Tryz.results24) ?_
  try simp -implicitDefEqProofs only [mkI2_fault, bd_fault T44, isn_err, ld_f0, bs_str2, bs_str4, TB, SB, Int.reduceToNat, Nat.reduceAdd, Nat.reduceEqDiff, Nat.reduceLT, Nat.reduceMod, Nat.reducePow, Nat.reduceSub, if_true, reduceIte]
  by_cases hk : ((key.length : Nat) : Int) = 32
  · rw [decide_eq_true hk]
    try simp -implicitDefEqProofs only [mkI2_fault, bd_fault T44, isn_err, ld_f0, bs_str2, bs_str4, TB, SB, Int.reduceToNat, Nat.reduceAdd, Nat.reduceEqDiff, Nat.reduceLT, Nat.reduceMod, Nat.reducePow, Nat.reduceSub, if_true, reduceIte]
    exact ⟨fun _ => endQ_noid (ren_err _ _ _) rfl, fun hn => absurd ⟨by omega, by omega⟩ h⟩
  · rw [decide_eq_false hk]
    try simp -implicitDefEqProofs only [mkI2_fault, bd_fault T44, isn_err, ld_f0, bs_str2, bs_str4, TB, SB, Int.reduceToNat, Nat.reduceAdd, Nat.reduceEqDiff, Nat.reduceLT, Nat.reduceMod, Nat.reducePow, Nat.reduceSub, if_true, reduceIte]
    exact endQ_noid (ren_err _ _ _) rfl
def tagB (key nonce ad box : List UInt8) : List UInt8 := tagL ((blkL (startV key nonce) 0#32).take 32) (mixL ad box)
theorem tagL_len (key s : List UInt8) : (tagL key s).length = 16 := by
  rw [tagL, List.length_take, textN_length]; rfl
theorem tagB_len (key nonce ad box : List UInt8) : (tagB key nonce ad box).length = 16 := tagL_len _ _
theorem tag_ok (key nonce ad box : List UInt8) (h : rightN key nonce) (ha : ad.length ≤ 100000) (hb : box.length ≤ 100000) : ACalls Tryz.prog 26 [str key, str nonce, str ad, str box] [] (fun y _ => y = .ret (.tup [str (tagB key nonce ad box), .lit .nilIface])) := by
  have hl := mixL_le ad box
  have h64 := blkL_length (startV key nonce) 0#32
  have hkl : ((blkL (startV key nonce) 0#32).take 32).length = 32 := by rw [List.length_take, h64]; rfl
  refine ACalls.body T_ok Tryz.func26 (by kernel_rfl) rfl Tryz.ntmps26 (congrArg Array.toList Tryz.results26) ?_
  try simp -implicitDefEqProofs only [mkI2_fault, bd_fault T44, isn_err, ld_f0, bs_str2, bs_str4, TB, SB, Int.reduceToNat, Nat.reduceAdd, Nat.reduceEqDiff, Nat.reduceLT, Nat.reduceMod, Nat.reducePow, Nat.reduceSub, if_true, reduceIte]
  refine (Block_at key nonce 0#32 h).pure (by simp [renL, AV.ren, renL_map u32 ren_u32, renL_map u64 ren_u64, renL_map i64 ren_i64, renL_map str ren_str, ren_u32, ren_i64, ren_str, ren_u64, ren_bl, ren_u8, renL_u32]) ?_
  rintro _ σ rfl
  refine ⟨by simp [AEnd.noid, renL, AV.ren, renL_map u32 ren_u32, renL_map u64 ren_u64, renL_map i64 ren_i64, renL_map str ren_str, ren_u32, ren_i64, ren_str, ren_u64, ren_bl, ren_u8, renL_u32], ?_⟩
  try simp -implicitDefEqProofs only [mkI2_fault, bd_fault T44, isn_err, ld_f0, bs_str2, bs_str4, TB, SB, Int.reduceToNat, Nat.reduceAdd, Nat.reduceEqDiff, Nat.reduceLT, Nat.reduceMod, Nat.reducePow, Nat.reduceSub, if_true, reduceIte]
  refine W_draw (by kernel_rfl) (by kernel_rfl) ?_
  try simp -implicitDefEqProofs only [mkI2_fault, bd_fault T44, isn_err, ld_f0, bs_str2, bs_str4, TB, SB, Int.reduceToNat, Nat.reduceAdd, Nat.reduceEqDiff, Nat.reduceLT, Nat.reduceMod, Nat.reducePow, Nat.reduceSub, if_true, reduceIte]
  repeat (with_reducible refine And.intro (by first | omega | decide | (unfold inI; omega) | (simp only [List.length_append, List.length_reverse, List.length_take, List.length_drop, List.length_cons, List.length_nil, List.length_map, List.length_replicate]; omega)) ?_)
  refine exq_ok (Mixed_ok ad box ha hb) (by simp [renL, AV.ren, renL_map u32 ren_u32, renL_map u64 ren_u64, renL_map i64 ren_i64, renL_map str ren_str, ren_u32, ren_i64, ren_str, ren_u64, ren_bl, ren_u8, renL_u32]) (by simp [AEnd.noid, renL, AV.ren, renL_map u32 ren_u32, renL_map u64 ren_u64, renL_map i64 ren_i64, renL_map str ren_str, ren_u32, ren_i64, ren_str, ren_u64, ren_bl, ren_u8, renL_u32]) ?_
  try simp -implicitDefEqProofs only [mkI2_fault, bd_fault T44, isn_err, ld_f0, bs_str2, bs_str4, TB, SB, Int.reduceToNat, Nat.reduceAdd, Nat.reduceEqDiff, Nat.reduceLT, Nat.reduceMod, Nat.reducePow, Nat.reduceSub, if_true, reduceIte]
  refine exq_ok (Tag_at ((blkL (startV key nonce) 0#32).take 32) (mixL ad box) hkl (by omega)) (by simp [renL, AV.ren, renL_map u32 ren_u32, renL_map u64 ren_u64, renL_map i64 ren_i64, renL_map str ren_str, ren_u32, ren_i64, ren_str, ren_u64, ren_bl, ren_u8, renL_u32]) (by simp [AEnd.noid, renL, AV.ren, renL_map u32 ren_u32, renL_map u64 ren_u64, renL_map i64 ren_i64, renL_map str ren_str, ren_u32, ren_i64, ren_str, ren_u64, ren_bl, ren_u8, renL_u32]) ?_
  try simp -implicitDefEqProofs only [mkI2_fault, bd_fault T44, isn_err, ld_f0, bs_str2, bs_str4, TB, SB, Int.reduceToNat, Nat.reduceAdd, Nat.reduceEqDiff, Nat.reduceLT, Nat.reduceMod, Nat.reducePow, Nat.reduceSub, if_true, reduceIte]
  exact endQ_noid (by simp [AV.ren, renL, ren_str]) rfl
def sealL (key nonce ad s : List UInt8) : List UInt8 := [turnL (startV key nonce) 1#32 s, tagB key nonce ad (turnL (startV key nonce) 1#32 s)].flatten
theorem notLarge (s : List UInt8) (hs : s.length ≤ 100000) : ¬ largeN 1#32 s := by
  unfold largeN
  have : (1#32).toNat = 1 := rfl
  omega
theorem seal_ok (key nonce ad s : List UInt8) (h : rightN key nonce) (ha : ad.length ≤ 100000) (hs : s.length ≤ 65536) : ACalls Tryz.prog 14 [str key, str nonce, str ad, str s] [] (fun y _ => y = .ret (.tup [str (sealL key nonce ad s), .lit .nilIface])) := by
  have ht := turnL_length (startV key nonce) 1#32 s
  refine ACalls.body T_ok Tryz.func14 (by kernel_rfl) rfl Tryz.ntmps14 (congrArg Array.toList Tryz.results14) ?_
  try simp -implicitDefEqProofs only [mkI2_fault, bd_fault T44, isn_err, ld_f0, bs_str2, bs_str4, TB, SB, Int.reduceToNat, Nat.reduceAdd, Nat.reduceEqDiff, Nat.reduceLT, Nat.reduceMod, Nat.reducePow, Nat.reduceSub, if_true, reduceIte]
  refine (check_ok key nonce h).pure (by simp [renL, AV.ren, renL_map u32 ren_u32, renL_map u64 ren_u64, renL_map i64 ren_i64, renL_map str ren_str, ren_u32, ren_i64, ren_str, ren_u64, ren_bl, ren_u8, renL_u32]) ?_
  rintro _ σ rfl
  refine ⟨by simp [AEnd.noid, renL, AV.ren, renL_map u32 ren_u32, renL_map u64 ren_u64, renL_map i64 ren_i64, renL_map str ren_str, ren_u32, ren_i64, ren_str, ren_u64, ren_bl, ren_u8, renL_u32], ?_⟩
  try simp -implicitDefEqProofs only [mkI2_fault, bd_fault T44, isn_err, ld_f0, bs_str2, bs_str4, TB, SB, Int.reduceToNat, Nat.reduceAdd, Nat.reduceEqDiff, Nat.reduceLT, Nat.reduceMod, Nat.reducePow, Nat.reduceSub, if_true, reduceIte]
  refine ⟨fun hn => absurd hn (by omega), fun _ => ?_⟩
  refine (Turn_at key nonce 1#32 s (by omega) h (notLarge s (by omega))).pure (by simp [renL, AV.ren, renL_map u32 ren_u32, renL_map u64 ren_u64, renL_map i64 ren_i64, renL_map str ren_str, ren_u32, ren_i64, ren_str, ren_u64, ren_bl, ren_u8, renL_u32]) ?_
  rintro _ σ rfl
  refine ⟨by simp [AEnd.noid, renL, AV.ren, renL_map u32 ren_u32, renL_map u64 ren_u64, renL_map i64 ren_i64, renL_map str ren_str, ren_u32, ren_i64, ren_str, ren_u64, ren_bl, ren_u8, renL_u32], ?_⟩
  try simp -implicitDefEqProofs only [mkI2_fault, bd_fault T44, isn_err, ld_f0, bs_str2, bs_str4, TB, SB, Int.reduceToNat, Nat.reduceAdd, Nat.reduceEqDiff, Nat.reduceLT, Nat.reduceMod, Nat.reducePow, Nat.reduceSub, if_true, reduceIte]
  refine (tag_ok key nonce ad (turnL (startV key nonce) 1#32 s) h ha (by omega)).pure (by simp [renL, AV.ren, renL_map u32 ren_u32, renL_map u64 ren_u64, renL_map i64 ren_i64, renL_map str ren_str, ren_u32, ren_i64, ren_str, ren_u64, ren_bl, ren_u8, renL_u32]) ?_
  rintro _ σ rfl
  refine ⟨by simp [AEnd.noid, renL, AV.ren, renL_map u32 ren_u32, renL_map u64 ren_u64, renL_map i64 ren_i64, renL_map str ren_str, ren_u32, ren_i64, ren_str, ren_u64, ren_bl, ren_u8, renL_u32], ?_⟩
  try simp -implicitDefEqProofs only [mkI2_fault, bd_fault T44, isn_err, ld_f0, bs_str2, bs_str4, TB, SB, Int.reduceToNat, Nat.reduceAdd, Nat.reduceEqDiff, Nat.reduceLT, Nat.reduceMod, Nat.reducePow, Nat.reduceSub, if_true, reduceIte]
  refine joined_ref (l := [turnL (startV key nonce) 1#32 s, tagB key nonce ad (turnL (startV key nonce) 1#32 s)]) rfl (by simp) (by simp [tagB_len]; omega) rfl ?_
  try simp -implicitDefEqProofs only [mkI2_fault, bd_fault T44, isn_err, ld_f0, bs_str2, bs_str4, TB, SB, Int.reduceToNat, Nat.reduceAdd, Nat.reduceEqDiff, Nat.reduceLT, Nat.reduceMod, Nat.reducePow, Nat.reduceSub, if_true, reduceIte]
  exact endQ_noid (by simp [AV.ren, renL, ren_str]) rfl
theorem seal_wrong (key nonce ad s : List UInt8) (h : ¬ rightN key nonce) : ACalls Tryz.prog 14 [str key, str nonce, str ad, str s] [] (fun y _ => y = .ret (.tup [str [], errA wArg 1])) := by
  refine ACalls.body T_ok Tryz.func14 (by kernel_rfl) rfl Tryz.ntmps14 (congrArg Array.toList Tryz.results14) ?_
  try simp -implicitDefEqProofs only [mkI2_fault, bd_fault T44, isn_err, ld_f0, bs_str2, bs_str4, TB, SB, Int.reduceToNat, Nat.reduceAdd, Nat.reduceEqDiff, Nat.reduceLT, Nat.reduceMod, Nat.reducePow, Nat.reduceSub, if_true, reduceIte]
  refine (check_wrong key nonce h).pure (by simp [renL, AV.ren, ren_str]) ?_
  rintro _ σ rfl
  refine ⟨ren_err _ _ _, ?_⟩
  try simp -implicitDefEqProofs only [mkI2_fault, bd_fault T44, isn_err, ld_f0, bs_str2, bs_str4, TB, SB, Int.reduceToNat, Nat.reduceAdd, Nat.reduceEqDiff, Nat.reduceLT, Nat.reduceMod, Nat.reducePow, Nat.reduceSub, if_true, reduceIte]
  exact endQ_noid (by simp [AV.ren, renL, ren_str, ren_err]) rfl
theorem Seal_at (key nonce ad s : List UInt8) (h : rightN key nonce) (ha : ad.length ≤ 100000) (hs : s.length ≤ 65536) : ACalls Tryz.prog 7 [str key, str nonce, str ad, str s] [] (fun y _ => y = .ret (.tup [str (sealL key nonce ad s), i64 0])) := by
  refine ACalls.body T_ok Tryz.func7 (by kernel_rfl) rfl Tryz.ntmps7 (congrArg Array.toList Tryz.results7) ?_
  try simp -implicitDefEqProofs only [mkI2_fault, bd_fault T44, isn_err, ld_f0, bs_str2, bs_str4, TB, SB, Int.reduceToNat, Nat.reduceAdd, Nat.reduceEqDiff, Nat.reduceLT, Nat.reduceMod, Nat.reducePow, Nat.reduceSub, if_true, reduceIte]
  refine (seal_ok key nonce ad s h ha hs).pure (by simp [renL, AV.ren, renL_map u32 ren_u32, renL_map u64 ren_u64, renL_map i64 ren_i64, renL_map str ren_str, ren_u32, ren_i64, ren_str, ren_u64, ren_bl, ren_u8, renL_u32]) ?_
  rintro _ σ rfl
  refine ⟨by simp [AEnd.noid, renL, AV.ren, renL_map u32 ren_u32, renL_map u64 ren_u64, renL_map i64 ren_i64, renL_map str ren_str, ren_u32, ren_i64, ren_str, ren_u64, ren_bl, ren_u8, renL_u32], ?_⟩
  try simp -implicitDefEqProofs only [mkI2_fault, bd_fault T44, isn_err, ld_f0, bs_str2, bs_str4, TB, SB, Int.reduceToNat, Nat.reduceAdd, Nat.reduceEqDiff, Nat.reduceLT, Nat.reduceMod, Nat.reducePow, Nat.reduceSub, if_true, reduceIte]
  refine (number_nil).pure (by simp [renL, AV.ren, renL_map u32 ren_u32, renL_map u64 ren_u64, renL_map i64 ren_i64, renL_map str ren_str, ren_u32, ren_i64, ren_str, ren_u64, ren_bl, ren_u8, renL_u32]) ?_
  rintro _ σ rfl
  refine ⟨by simp [AEnd.noid, renL, AV.ren, renL_map u32 ren_u32, renL_map u64 ren_u64, renL_map i64 ren_i64, renL_map str ren_str, ren_u32, ren_i64, ren_str, ren_u64, ren_bl, ren_u8, renL_u32], ?_⟩
  try simp -implicitDefEqProofs only [mkI2_fault, bd_fault T44, isn_err, ld_f0, bs_str2, bs_str4, TB, SB, Int.reduceToNat, Nat.reduceAdd, Nat.reduceEqDiff, Nat.reduceLT, Nat.reduceMod, Nat.reducePow, Nat.reduceSub, if_true, reduceIte]
  exact endQ_noid (by simp [AV.ren, renL, ren_str, ren_i64]) rfl
theorem Seal_wrong (key nonce ad s : List UInt8) (h : ¬ rightN key nonce) : ACalls Tryz.prog 7 [str key, str nonce, str ad, str s] [] (fun y _ => y = .ret (.tup [str [], i64 1])) := by
  refine ACalls.body T_ok Tryz.func7 (by kernel_rfl) rfl Tryz.ntmps7 (congrArg Array.toList Tryz.results7) ?_
  try simp -implicitDefEqProofs only [mkI2_fault, bd_fault T44, isn_err, ld_f0, bs_str2, bs_str4, TB, SB, Int.reduceToNat, Nat.reduceAdd, Nat.reduceEqDiff, Nat.reduceLT, Nat.reduceMod, Nat.reducePow, Nat.reduceSub, if_true, reduceIte]
  refine (seal_wrong key nonce ad s h).pure (by simp [renL, AV.ren, ren_str]) ?_
  rintro _ σ rfl
  refine ⟨by simp [AEnd.noid, AV.ren, renL, ren_str, ren_err], ?_⟩
  try simp -implicitDefEqProofs only [mkI2_fault, bd_fault T44, isn_err, ld_f0, bs_str2, bs_str4, TB, SB, Int.reduceToNat, Nat.reduceAdd, Nat.reduceEqDiff, Nat.reduceLT, Nat.reduceMod, Nat.reducePow, Nat.reduceSub, if_true, reduceIte]
  refine (number_err wArg 1).pure (by simp [renL, ren_err]) ?_
  rintro _ σ rfl
  refine ⟨by simp [AEnd.noid, ren_i64], ?_⟩
  try simp -implicitDefEqProofs only [mkI2_fault, bd_fault T44, isn_err, ld_f0, bs_str2, bs_str4, TB, SB, Int.reduceToNat, Nat.reduceAdd, Nat.reduceEqDiff, Nat.reduceLT, Nat.reduceMod, Nat.reducePow, Nat.reduceSub, if_true, reduceIte]
  exact endQ_noid (by simp [AV.ren, renL, ren_str, ren_i64]) rfl

end Go.Proofs.YtbkhpohlpfcibaaGreatDoor
end

section
namespace Go.Eng
open Go
/-- What the variables hold is what the tables tell. -/
theorem Glob.of_vars [Globs] {w : World} (h : ∀ g cs, Globs.tab g = some cs → ∃ (P : Program) (n : String), P.globalNamed n = some g ∧ w.var? P n = some cs.toArray) : Glob w (own (fun _ => False) [] []) := by
  intro g cs hg
  obtain ⟨P, n, h1, h2⟩ := h g cs hg
  refine ⟨?_, ?_, fun j v hv => ?_⟩
  · rintro (hb | ⟨i, cs, hi, _⟩)
    · exact hb
    · simp at hi
  · have h3 := h2
    simp only [World.var?, h1, Option.bind_some] at h3
    split at h3
    · rename_i e
      rcases Nat.lt_or_ge g w.heap.size with hlt | hge
      · exact hlt
      · rw [Array.getElem?_eq_none hge] at e; cases e
    · cases h3
  · rw [World.var?_cell h1 h2 j, List.getElem?_toArray, hv]
end Go.Eng
namespace Go.Proofs.YtbkhpohlpfcibaaGreatDoor
open Go Go.Eng
def laid3 : List (String × DataW Unit) := Rows.aeadSealsRow.laid
/-- The name of the row's variable at place i. -/
def nm (i : Nat) : String := (laid3[i]?.map (·.1)).getD ""
theorem ownK : ownKnob Tryz.prog.godebug = none := by kernel_rfl
theorem laidOut : laidOutB Tryz.prog = true := by kernel_rfl
theorem oneRow : ((List.range Tryz.prog.types.size).filter fun t => Tryz.prog.rowNamed t [101, 114, 114, 111, 114]) = [31] := by kernel_rfl
theorem glob_of_laid {w : World} (h : laidMetH Tryz.prog laid3 w) : Glob w (own (fun _ => False) [] []) := by
  have h' : laidMet Tryz.prog [] w ∧ handlesMet Tryz.prog laid3 w := h
  obtain ⟨name, u, ty, e1, e2, e3, e4, e5⟩ := h'.2 _ (List.mem_singleton.2 rfl)
  have en : name = [101, 114, 114, 111, 114] := (Option.some.inj e1).symm
  subst en
  obtain rfl : u = 102 := Option.some.inj (e2.symm.trans (by kernel_rfl))
  have hm : ty ∈ (List.range Tryz.prog.types.size).filter fun t => Tryz.prog.rowNamed t [101, 114, 114, 111, 114] := List.mem_filter.2 ⟨List.mem_range.2 e3, e4⟩
  rw [oneRow] at hm
  obtain rfl := List.mem_singleton.1 hm
  have hh : typeHandle Tryz.prog 31 = .pointer (some ⟨2, 31, none⟩) := by kernel_rfl
  rw [hh] at e5
  refine Glob.of_vars fun g cs hg => ?_
  match g, hg with
  | 0, hg =>
    obtain rfl := Option.some.inj (show some [rtypeV 2 31] = some cs from hg)
    exact ⟨_, _, (by kernel_rfl : Tryz.prog.globalNamed (nm 0) = some 0), e5⟩
  | _ + 1, hg => exact nomatch (show none = some cs from hg)
theorem door_met (os : Os) (args : Array Value) : laidMetH Tryz.prog laid3 ((World.doorLaid Tryz.prog 400 os).forCall (fun _ _ => 0) ⟨#[], args, []⟩).memory :=
  laidMetH_of_parts3 (fuel := 8) (laidMet_of_run' 8 (by kernel_rfl) (by kernel_rfl)) (by kernel_rfl) (by kernel_rfl)
end Go.Proofs.YtbkhpohlpfcibaaGreatDoor
end

