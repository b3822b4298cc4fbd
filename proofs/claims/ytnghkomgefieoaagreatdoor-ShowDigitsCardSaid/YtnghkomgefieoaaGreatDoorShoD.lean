/-
  The law's walk, and what the listed variables hold. No condition.
-/
import Derived.Test.YtnghkomgefieoaaGreatDoorShoC
import Derived.LaidMore
import Derived.Lay
import Derived.LaidHandle
import Derived.Stop.LaidErr
import Derived.Lib.LaidTab
import Derived.Stop.Joined
import Derived.HandedShaped
import Derived.Shelf.Strings.Shaped
set_option linter.unusedSimpArgs false
set_option linter.unusedVariables false
set_option linter.unusedSectionVars false
section
namespace Go.Proofs.YtnghkomgefieoaaGreatDoor
open Go Go.Eng
def plB (c : UInt8) : Prop := 32 ≤ c.toNat ∧ c.toNat ≤ 126
def scn (m : Bool) : Bool → List UInt8 → Prop
  | _, [] => True
  | pb, c :: t => (plB c ∨ (m = true ∧ c = 10 ∧ pb = false)) ∧ scn m (decide (c = 32)) t
def fin : Bool → List UInt8 → Bool
  | pb, [] => pb
  | _, c :: t => fin (decide (c = 32)) t
section
variable {m : Bool}
theorem fin_app {a b : List UInt8} : ∀ {pb : Bool}, fin pb (a ++ b) = fin (fin pb a) b := by
  induction a with
  | nil => intro pb; rfl
  | cons c t ih => intro pb; exact ih
theorem scn_app {a b : List UInt8} : ∀ {pb : Bool}, scn m pb a → scn m (fin pb a) b → scn m pb (a ++ b) := by
  induction a with
  | nil => intro pb _ h; exact h
  | cons c t ih => intro pb h h2; exact ⟨h.1, ih h.2 h2⟩
theorem scn_pl {a : List UInt8} : ∀ {pb : Bool}, (∀ c, c ∈ a → plB c) → scn m pb a := by
  induction a with
  | nil => intro pb _; trivial
  | cons c t ih => intro pb h; exact ⟨.inl (h c (List.mem_cons_self ..)), ih fun x hx => h x (List.mem_cons_of_mem _ hx)⟩
def VT (m : Bool) (v : List UInt8) : Prop := (∀ pb, scn m pb v) ∧ ∀ pb, fin pb v = false
theorem fin_no {a : List UInt8} : ∀ {pb : Bool}, (∀ c, c ∈ a → c ≠ 32) → a ≠ [] → fin pb a = false := by
  induction a with
  | nil => intro pb _ h; exact absurd rfl h
  | cons c t ih =>
    intro pb h _
    cases t with
    | nil => exact decide_eq_false (h c (List.mem_cons_self ..))
    | cons d t => exact ih (pb := decide (c = 32)) (fun x hx => h x (List.mem_cons_of_mem _ hx)) (by simp)
theorem VT.of {a : List UInt8} (h : ∀ c, c ∈ a → 33 ≤ c.toNat ∧ c.toNat ≤ 126) (hn : a ≠ []) : VT m a :=
  ⟨fun _ => scn_pl fun c hc => ⟨Nat.le_of_succ_le (h c hc).1, (h c hc).2⟩, fun _ => fin_no (fun c hc he => by have := (h c hc).1; rw [he] at this; exact absurd this (by decide)) hn⟩
theorem VT.end {v a : List UInt8} {c : UInt8} (h : ∀ pb, scn m pb v) (hc : plB c) (hn : c ≠ 32) : VT m (v ++ [c]) :=
  ⟨fun _ => scn_app (h _) ⟨.inl hc, trivial⟩, fun _ => by rw [fin_app]; exact decide_eq_false hn⟩
theorem zge (u : Nat) : Go.Lib.decDigits u ≠ [] := by
  rw [Go.Lib.decDigits]
  split <;> simp
end
end Go.Proofs.YtnghkomgefieoaaGreatDoor
end

section
namespace Go.Proofs.YtnghkomgefieoaaGreatDoor
open Go Go.Eng
theorem dec_dg : ∀ (u : Nat) (c : UInt8), c ∈ Go.Lib.decDigits u → isDg c = true := by
  intro u
  induction u using Nat.strongRecOn with
  | _ u ih =>
    intro c hc
    rw [Go.Lib.decDigits] at hc
    rw [isDg_iff]
    split at hc
    · rename_i h
      simp only [List.mem_cons, List.not_mem_nil, or_false] at hc
      subst hc
      rw [UInt8.toNat_ofNat']
      omega
    · rcases List.mem_append.1 hc with hc | hc
      · exact isDg_iff.1 (ih (u / 10) (by omega) c hc)
      · simp only [List.mem_cons, List.not_mem_nil, or_false] at hc
        subst hc
        rw [UInt8.toNat_ofNat']
        omega
theorem digV_app : ∀ (a b : List UInt8) (n : Nat), digV n (a ++ b) = digV (digV n a) b
  | [], _, _ => rfl
  | c :: a, b, n => digV_app a b (10 * n + (c.toNat - 48))
theorem dec_val : ∀ u : Nat, digV 0 (Go.Lib.decDigits u) = u := by
  intro u
  induction u using Nat.strongRecOn with
  | _ u ih =>
    rw [Go.Lib.decDigits]
    split
    · rename_i h
      show 10 * 0 + ((UInt8.ofNat (48 + u)).toNat - 48) = u
      rw [UInt8.toNat_ofNat']
      omega
    · rw [digV_app, ih (u / 10) (by omega)]
      show 10 * (u / 10) + ((UInt8.ofNat (48 + u % 10)).toNat - 48) = u
      rw [UInt8.toNat_ofNat']
      omega
theorem dec_head : ∀ u : Nat, 0 < u → (Go.Lib.decDigits u).head? ≠ some 48 := by
  intro u
  induction u using Nat.strongRecOn with
  | _ u ih =>
    intro hu
    rw [Go.Lib.decDigits]
    split
    · rename_i h
      intro e
      have e := Option.some.inj e
      have := congrArg UInt8.toNat e
      rw [UInt8.toNat_ofNat'] at this
      change (48 + u) % 256 = 48 at this
      omega
    · rename_i h
      have := ih (u / 10) (by omega) (by omega)
      cases hd : Go.Lib.decDigits (u / 10) with
      | nil => exact absurd hd (zge _)
      | cons c t => rw [hd] at this; exact this
theorem runL_full {p : UInt8 → Bool} : ∀ (a b : List UInt8), (∀ c, c ∈ a → p c = true) → (∀ c, b.head? = some c → p c = false) → runL p (a ++ b) = a.length
  | [], b, _, hb => by
    cases b with
    | nil => rfl
    | cons c t => simp [runL, hb c rfl]
  | c :: a, b, ha, hb => by
    rw [List.cons_append, runL, if_pos (ha c (List.mem_cons_self ..)), runL_full a b (fun x hx => ha x (List.mem_cons_of_mem _ hx)) hb, List.length_cons]
theorem dec_wide (u : Nat) (b : List UInt8) (hb : ∀ c, b.head? = some c → isDg c = false) : digW (Go.Lib.decDigits u ++ b) = (Go.Lib.decDigits u).length := by
  unfold digW
  by_cases hu : u = 0
  · subst hu
    rw [show Go.Lib.decDigits 0 = [48] by rw [Go.Lib.decDigits]; rfl]
    rfl
  · have h1 := dec_head u (by omega)
    have h2 : (Go.Lib.decDigits u ++ b).head? ≠ some 48 := by
      cases hd : Go.Lib.decDigits u with
      | nil => exact absurd hd (zge _)
      | cons c t => rw [hd] at h1; exact h1
    rw [if_neg h2]
    exact runL_full _ _ (dec_dg u) hb
theorem dec_noneg (u : Nat) (b : List UInt8) : zcH (Go.Lib.decDigits u ++ b) = false := by
  cases hd : Go.Lib.decDigits u with
  | nil => exact absurd hd (zge _)
  | cons c t =>
    have := isDg_iff.1 (dec_dg u c (by rw [hd]; exact List.mem_cons_self ..))
    refine decide_eq_false fun e => ?_
    rw [Option.some.inj (show some c = some 45 from e)] at this
    exact absurd this.1 (by decide)
theorem zey {n : Int} (hn : inI n) (b : List UInt8) (hb : ∀ c, b.head? = some c → isDg c = false) : zdA (Go.Lib.itoa n ++ b) = some (n, (Go.Lib.itoa n).length) := by
  unfold inI at hn
  unfold Go.Lib.itoa
  split
  · rename_i h
    have hneg : zcH (45 :: Go.Lib.decDigits n.natAbs ++ b) = true := rfl
    have hne : (Go.Lib.decDigits n.natAbs).length ≠ 0 := fun e => zge _ (List.eq_nil_of_length_eq_zero e)
    unfold zdA
    dsimp only
    rw [hneg, if_pos rfl, List.cons_append, List.drop_succ_cons, List.drop_zero, dec_wide _ _ hb, if_neg hne, if_pos rfl, List.take_left, dec_val, if_pos (by omega), List.length_cons]
    exact congrArg some (Prod.ext (show -(n.natAbs : Int) = n by omega) (Nat.add_comm _ _))
  · rename_i h
    have hneg := dec_noneg n.toNat b
    have hne : (Go.Lib.decDigits n.toNat).length ≠ 0 := fun e => zge _ (List.eq_nil_of_length_eq_zero e)
    unfold zdA
    dsimp only
    simp only [hneg, Bool.false_eq_true, if_false, List.drop_zero, Nat.zero_add]
    rw [dec_wide _ _ hb, if_neg hne, List.take_left, dec_val, if_pos (by omega)]
    exact congrArg some (Prod.ext (show (n.toNat : Int) = n by omega) rfl)
theorem itoa_inj {n m : Int} (hn : inI n) (hm : inI m) (h : Go.Lib.itoa n = Go.Lib.itoa m) : n = m := by
  have h1 := zey hn [] (fun c hc => by cases hc)
  have h2 := zey hm [] (fun c hc => by cases hc)
  rw [h, h2] at h1
  exact (congrArg Prod.fst (Option.some.inj h1)).symm
end Go.Proofs.YtnghkomgefieoaaGreatDoor
end

section
namespace Go.Proofs.YtnghkomgefieoaaGreatDoor
open Go Go.Eng
theorem ShowDigits_ok (n m : Int) (hn : inI n) (hm : inI m) : ACalls Tryz.prog 5 [i64 n, i64 m] [] (fun y _ => y = .ret (bl true)) := by
  have hl := itoa_le hn
  have hN := Number_ok (Go.Lib.itoa n) 0 (by omega)
  have hp := zey hn [] (fun c hc => by cases hc)
  rw [List.append_nil] at hp
  have hA : numA 0 (zgi (Go.Lib.itoa n) 0) = .tup [i64 n, i64 (Go.Lib.itoa n).length, bl true] := by
    rw [zgi, if_pos (Int.le_refl 0)]
    show numA 0 (zdA (Go.Lib.itoa n)) = _
    rw [hp, numA, Int.zero_add]
  rw [hA] at hN
  refine ACalls.body T_ok Tryz.func5 (by kernel_rfl) rfl Tryz.ntmps5 (congrArg Array.toList Tryz.results5) ?_
  refine aQ33 ?_
  refine (works10_ok).pure aQ8 ?_
  rintro _ σ rfl
  refine ⟨by first | rfl | simp [AEnd.noid, AV.ren, renL, zaW, zaA str zao, zbI, za8, zbd, zap, zbr, zao], ?_⟩
  refine aQ33 ?_
  refine (zdu n hn).pure (by simp [renL, zap]) ?_
  rintro _ σ rfl
  refine ⟨zao _ _, ?_⟩
  refine aQ33 ?_
  refine hN.pure (by simp [renL, zao, zap]) ?_
  rintro _ σ rfl
  refine ⟨by simp [AEnd.noid, AV.ren, renL, zap, zbr], ?_⟩
  refine aQ33 ?_
  have d1 : decide (((Go.Lib.itoa n).length : Int) ≤ 20) = true := decide_eq_true (by omega)
  try simp -implicitDefEqProofs only [LM1, LB6, LB8, LB11, LB12, eq_self, zbi (T := T) 71 68 69 5 rfl, zam, zal, zaL, zbm, d1, TB, SB, Int.reduceToNat, Nat.reduceAdd, Nat.reduceEqDiff, Nat.reduceLT, Nat.reduceMod, Nat.reducePow, Nat.reduceSub, if_true, reduceIte]
  refine (zdu m hm).pure (by simp [renL, zap]) ?_
  rintro _ σ rfl
  refine ⟨zao _ _, ?_⟩
  refine aQ33 ?_
  refine zdP ?_
  by_cases h : n = m
  · subst h
    rw [decide_eq_true rfl, decide_eq_true rfl]
    rfl
  · rw [decide_eq_false h, decide_eq_false fun e => h (itoa_inj hn hm e)]
    rfl
end Go.Proofs.YtnghkomgefieoaaGreatDoor
end

section
namespace Go.Eng
open Go
theorem Glob.of_vars3 [Globs] {w : World} (h : ∀ g cs, Globs.tab g = some cs → ∃ (P : Program) (n : String), P.globalNamed n = some g ∧ w.var? P n = some cs.toArray) (hi : ∀ g, g ∈ Globs.ints → ∃ n : Int, w.cell? ⟨g, 0, none⟩ = some (.int .i64 n)) (he : ∀ g, g ∈ Globs.errs → ∃ (t : TypeId) (v : Value), w.cell? ⟨g, 0, none⟩ = some (.iface t v)) : Glob w (Go.Eng.own (fun _ => False) [] []) := by
  have no : ∀ g, ¬ Go.Eng.own (fun _ => False) [] [] g := by
    rintro g (hb | ⟨i, cs, hi, _⟩)
    · exact hb
    · simp at hi
  refine ⟨fun g cs hg => ?_, fun g hg => ?_, fun g hg => ?_⟩
  · obtain ⟨P, n, h1, h2⟩ := h g cs hg
    have hb : ∃ e f, w.heap[g]? = some (.cells cs.toArray e f) := by
      have h3 := h2
      simp only [World.var?, h1, Option.bind_some] at h3
      split at h3
      · rename_i cs' e' f' e
        cases Option.some.inj h3
        exact ⟨_, _, e⟩
      · cases h3
    refine ⟨no g, ?_, hb, fun j v hv => ?_⟩
    · obtain ⟨_, _, e⟩ := hb
      rcases Nat.lt_or_ge g w.heap.size with hlt | hge
      · exact hlt
      · rw [Array.getElem?_eq_none hge] at e; cases e
    · rw [World.var?_cell h1 h2 j, List.getElem?_toArray, hv]
  · obtain ⟨n, hn⟩ := hi g hg
    refine ⟨no g, ?_, n, hn⟩
    rcases Nat.lt_or_ge g w.heap.size with hlt | hge
    · exact hlt
    · simp [World.cell?, Array.getElem?_eq_none hge] at hn
  · obtain ⟨t, v, hn⟩ := he g hg
    refine ⟨no g, ?_, t, v, hn⟩
    rcases Nat.lt_or_ge g w.heap.size with hlt | hge
    · exact hlt
    · simp [World.cell?, Array.getElem?_eq_none hge] at hn
theorem wrap_and_shaped {H : Type} {enc : TypeId × Value → H} {a : Assume} {C : Checked} {os : Os} {f : FuncId} {fn : Func} {s : ChangeSpec} {conds : List PathCond} {apart fresh handsOn again : Bool} {X : World → Array Value → Prop}
    (hX : ∀ (w w' : World) (args : Array Value), w.heap = w'.heap → X w args → X w' args)
    (h1 : ownKnob C.prog.godebug = none) (h2 : os.Started) (h3 : C.prog.inits.idxOf? f = none) (hfn : C.prog.funcs[f]? = some fn)
    (h4 : ∃ (w : World) (tape : Tape) (i : Input), w.os = os ∧ (w.forCall tape i).Shaped C.prog ∧ i.vars = [] ∧ Input.okWide C.prog (w.forCall tape i) .any w.heap.size f i ∧
      ((s.pre enc C.prog fn conds apart (w.forCall tape i).memory i.args ∧ X (w.forCall tape i).memory i.args) ∧ sizedMet enc C.prog fn (OpenSpec.ofChange s) apart (w.forCall tape i).memory i.args) ∧ a.holds C.prog (lone (Frame.enter C.prog f i.args .normal) [] (w.forCall tape i)))
    (h5 : ∀ (W : World) (base : Nat) (args : Array Value) (ds gs : List (DataW H)) (before : List MemPlace),
      (∀ (j : Nat) t v, fn.params[j]? = some t → args[j]? = some v → Value.okWide C.prog W .any base t v) →
      DataW.Whole enc C.prog fn.params.toList s.vars apart W args.toList ds gs before →
      conds.all (PathCond.test C.prog ⟨fn.params.toList, ds, s.plain.varTypes C.prog, gs⟩) = true →
      (DataW.weightsEach C.prog (fn.params.toList ++ s.plain.varTypes C.prog) (ds ++ gs)).all (· ≤ reachBytes) = true → X W args → W.ShapedOpen C.prog →
      a.holds C.prog (lone (Frame.enter C.prog f args .normal) [] W) →
      Calls C.prog f args W fun e W' => ∃ v, e = .returned v ∧ s.post enc C.prog fn apart fresh handsOn again W args v W') :
    ReturnsInHanded a C os f .any (fun w args => (s.pre enc C.prog fn conds apart w args ∧ X w args) ∧ sizedMet enc C.prog fn (OpenSpec.ofChange s) apart w args) (s.post enc C.prog fn apart fresh handsOn again) := by
  refine returnsInHanded_of_calls h1 h2 h3 h4 ?_
  intro w tape i _ hsh _ hok hpre hh
  have hval : ∀ (j : Nat) t v, fn.params[j]? = some t → i.args[j]? = some v → Value.okWide C.prog (w.forCall tape i) .any w.heap.size t v := by
    obtain ⟨_, _, _, fn', hfn', _, _, _, _, hv⟩ := hok
    cases Option.some.inj (hfn'.symm.trans hfn)
    exact hv
  obtain ⟨⟨⟨ds, gs, bf, hw, hc⟩, hx⟩, hz⟩ := hpre
  have key := h5 (w.forCall tape i) w.heap.size i.args ds gs bf hval (DataW.Whole.of_heap (w' := w.forCall tape i) (by rfl) hw) hc (hz.weights hw) (hX _ _ _ (by rfl) hx) hsh hh
  refine key.mono ?_
  rintro e W' ⟨v, rfl, hp⟩
  exact ChangeSpec.post_blind hp
end Go.Eng
namespace Go.Proofs.YtnghkomgefieoaaGreatDoor
open Go Go.Eng
def zgj : List (String × DataW Unit) := Rows.showDigitsRow.laid
def nm (i : Nat) : String := (zgj[i]?.map (·.1)).getD ""
theorem ownK : ownKnob Tryz.prog.godebug = none := by kernel_rfl
theorem star : "*" ++ "errors.errorString" = "*errors.errorString" := by decide
theorem rowErr (u : TypeId) (h : Tryz.prog.typeName? 3 u = some "*errors.errorString") : u = 193 :=
  typeName_ptr_named (nm := "errors.errorString") (by rw [star]; kernel_rfl) (by kernel_rfl) (by decide) u (by rw [star]; exact h)
theorem gRange : Tryz.prog.globalNamed (nm 3) = some 3 := by kernel_rfl
theorem gSyntax : Tryz.prog.globalNamed (nm 4) = some 2 := by kernel_rfl
theorem tRange : (Tryz.prog.globals[3]?).map (·.type) = some 52 := by kernel_rfl
theorem tSyntax : (Tryz.prog.globals[2]?).map (·.type) = some 52 := by kernel_rfl
theorem cellsE : Tryz.prog.cellsOf 195 = 1 := by kernel_rfl
theorem cellsS : Tryz.prog.cellsOf 9 = 1 := by kernel_rfl
theorem glob_of_laid {w : World} (h : laidMetH Tryz.prog zgj w) (hsh : w.ShapedOpen Tryz.prog) : Glob w (Go.Eng.own (fun _ => False) [] []) := by
  have h' : laidMet Tryz.prog zgj w := by
    rw [MakeChecks.laidMetH_plain _ _ _ (by kernel_rfl)] at h
    exact h
  have hp := Go.Lib.tabIs_of_head (P := Tryz.prog) (W := w) (zs := Go.Lib.pow10Tab) (k := .u64) (g := 1) (t := 157) (e := 117) (n := 20) (by kernel_rfl) (by kernel_rfl) (by kernel_rfl) (by kernel_rfl) (by kernel_rfl) (by kernel_rfl) (h'.tail.tail)
  have hL := h'.tail.tail.tail
  obtain ⟨a0, s0, hv0, _, _, _⟩ := laid_sentinel hL gRange tRange Tryz.underlying52 rowErr Tryz.underlying193 Tryz.underlying195 rfl rfl Tryz.underlying9 cellsE cellsS
  obtain ⟨a1, s1, hv1, _, _, _⟩ := laid_sentinel hL.tail gSyntax tSyntax Tryz.underlying52 rowErr Tryz.underlying193 Tryz.underlying195 rfl rfl Tryz.underlying9 cellsE cellsS
  refine Glob.of_vars3 (fun g cs hg => ?_) (fun g hg => ?_) (fun g hg => ?_)
  · by_cases hgg : g = 1
    · subst hgg
      obtain rfl := Option.some.inj (show some powT = some cs from hg)
      exact ⟨_, _, (by kernel_rfl : Tryz.prog.globalNamed (nm 2) = some 1), hp⟩
    · exact absurd hg (by
        intro hg
        have : (none : Option (List Value)) = some cs := by
          rw [← hg]
          symm
          show (match g with | 1 => some powT | _ => none) = none
          split
          · exact absurd rfl hgg
          · rfl
        cases this)
  · have hg' : g = 6 := by
      have : g ∈ [6] := hg
      simpa using this
    subst hg'
    exact Go.Proofs.cell_of_shapedOpen_int (zero := #[.int .i64 0]) (t := 3) hsh (of_decide_eq_true (by kernel_rfl)) (by kernel_rfl) rfl (by kernel_rfl) (by kernel_rfl) Tryz.underlying3
  · have hg' : g = 3 ∨ g = 2 := by
      have : g ∈ [3, 2] := hg
      simpa using this
    rcases hg' with rfl | rfl
    · exact ⟨_, _, World.var?_cell gRange hv0 0⟩
    · exact ⟨_, _, World.var?_cell gSyntax hv1 0⟩
theorem door_met (os : Os) (args : Array Value) : laidMetH Tryz.prog zgj ((World.doorLaid Tryz.prog 4000 os).forCall (fun _ _ => 0) ⟨#[], args, []⟩).memory := by
  rw [MakeChecks.laidMetH_plain _ _ _ (by kernel_rfl)]
  exact laidMet_of_run' 8 (by kernel_rfl) (by kernel_rfl)
end Go.Proofs.YtnghkomgefieoaaGreatDoor
end

