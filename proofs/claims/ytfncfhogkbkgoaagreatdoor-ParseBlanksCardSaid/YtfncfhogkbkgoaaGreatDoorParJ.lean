/-
  The law's walk, and what the listed variables hold. No condition.
-/
import Derived.Test.YtfncfhogkbkgoaaGreatDoorParI
import Derived.LaidMore
import Derived.Lay
import Derived.LaidHandle
import Derived.Stop.LaidErr
import Derived.Lib.LaidTab
import Derived.Stop.Joined
import Derived.HandedShaped
import Derived.Shelf.Strings.Shaped
set_option linter.unusedSimpArgs false
set_option linter.unusedVariables false
set_option linter.unusedSectionVars false
section
namespace Go.Proofs.YtfncfhogkbkgoaaGreatDoor
open Go Go.Eng
theorem ParseN (s : List UInt8) (hs : s.length ≤ 1000000000000) : ACalls Tryz.prog 15 [str s] [] (fun y _ => y = .ret (parA s)) := Parse_ok s 1000000 hs sortN (fun _ => by omega)
theorem ParseN_ok (s : List UInt8) (hs : s.length ≤ 1000000000000) (h : (parR s).2.2 = 0) : ACalls Tryz.prog 15 [str s] [] (fun y _ => y = .ret (.tup [.sl ((parR s).1.flatMap nC) (parR s).1.length, i64 (parR s).2.1, i64 0])) := by
  have := ParseN s hs
  rw [parA, h, if_pos rfl] at this
  exact this
theorem ParseN_no (s : List UInt8) (hs : s.length ≤ 1000000000000) (h : (parR s).2.2 ≠ 0) : ACalls Tryz.prog 15 [str s] [] (fun y _ => y = .ret (.tup [nilS, i64 (parR s).2.1, i64 (parR s).2.2])) := by
  have := ParseN s hs
  rw [parA, if_neg h] at this
  exact this
theorem errOf_len {l : List Nd} (h : zcd l = 0) : l.length ≤ 120 := by
  unfold zcd at h
  split at h
  · cases h
  · omega
end Go.Proofs.YtfncfhogkbkgoaaGreatDoor
end

section
namespace Go.Proofs.YtfncfhogkbkgoaaGreatDoor
open Go Go.Eng
def blB (k : Nat) : UInt8 := [32, 9, 10, 13].getD (k % 4) 0
def blP : Nat → List UInt8
  | 0 => []
  | k + 1 => blB k :: blP k
def blQ : Nat → List UInt8
  | 0 => []
  | k + 1 => blQ k ++ [blB k]
theorem blB_bl (k : Nat) : isBl (blB k) = true := by
  have h : k % 4 < 4 := Nat.mod_lt _ (by decide)
  unfold blB
  generalize k % 4 = j at h
  match j, h with
  | 0, _ => rfl
  | 1, _ => rfl
  | 2, _ => rfl
  | 3, _ => rfl
theorem blP_bl : ∀ k, zc9 (blP k)
  | 0 => rfl
  | k + 1 => by
    have := zgF (a := [blB k]) (b := blP k) (by rw [zc9, zam, runL, blB_bl]; rfl) (blP_bl k)
    exact this
theorem blQ_bl : ∀ k, zc9 (blQ k)
  | 0 => rfl
  | k + 1 => zgF (blQ_bl k) (by rw [zc9, zam, runL, blB_bl]; rfl)
theorem zhT : ∀ k, (blP k).length = k
  | 0 => rfl
  | k + 1 => by rw [blP, List.length_cons, zhT k]
theorem blQ_len : ∀ k, (blQ k).length = k
  | 0 => rfl
  | k + 1 => by rw [blQ, List.length_append, blQ_len k]; rfl
theorem zhU (x y : Nat) : (x : Int).tmod (y : Int) = ((x % y : Nat) : Int) := by rw [Int.tmod_eq_emod_of_nonneg (by omega)]; rfl
theorem tmod_4 (x : Nat) : (x : Int).tmod 4 = ((x % 4 : Nat) : Int) := zhU x 4
theorem parR_blanks {s a b : List UInt8} (h : (parR s).2.2 = 0) (hl : (a ++ (s ++ b)).length ≤ 2048) (ha : zc9 a) (hb : zc9 b) : parR (a ++ (s ++ b)) = ((parR s).1, ((a ++ (s ++ b)).length : Int), 0) := by
  obtain ⟨i1, i2, i3, c, hv⟩ := parR_inv h
  rw [parR_of hl (hv.blanks ha hb), if_neg (by decide), if_pos i3]
set_option maxRecDepth 20000 in
set_option maxHeartbeats 4000000 in
theorem ParseBlanks_ok (s : List UInt8) (a b : UInt8) : ACalls Tryz.prog 5 [str s, u8 a, u8 b] [] (fun y _ => y = .ret (bl true)) := by
  refine ACalls.body T_ok Tryz.func5 (by kernel_rfl) rfl Tryz.ntmps5 (congrArg Array.toList Tryz.results5) ?_
  refine aQ36 ?_
  refine (works_ok).pure aQ10 ?_
  rintro _ σ rfl
  refine ⟨by first | rfl | simp [AEnd.noid, AV.ren, renL, zaG, zaB str zap, zaU, zaJ, zaM, zao, zaP, zap], ?_⟩
  refine aQ36 ?_
  refine ⟨fun hl => zbA rfl, fun hl => ?_⟩
  by_cases h : (parR s).2.2 = 0
  rotate_left
  · have hp := ParseN_no s (by omega) h
    have d4 := decide_eq_false h
    refine (hp).pure aQ10 ?_
    rintro _ σ rfl
    refine ⟨by first | rfl | simp [AEnd.noid, AV.ren, renL, zaG, zaB str zap, zaU, zaJ, zaM, zao, zaP, zap], ?_⟩
    refine aQ36 ?_
    refine ⟨fun _ => zbA rfl, fun h' => absurd h' h⟩
  have hp := ParseN_ok s (by omega) h
  obtain ⟨i1, i2, i3, c, hv⟩ := parR_inv h
  have hle := errOf_len i3
  generalize hpl : parR s = pr at hp
  refine hp.pure (by simp [renL, zap]) ?_
  rintro _ σ rfl
  refine ⟨by simp [AEnd.noid, AV.ren, renL, zcf, zao], ?_⟩
  refine aQ36 ?_
  obtain ⟨m, hm, hm9⟩ : ∃ m : Nat, ((a.toNat : Int).tmod 9) = (m : Int) ∧ m ≤ 8 := ⟨a.toNat % 9, zhU _ _, by omega⟩
  obtain ⟨n, hn, hn9⟩ : ∃ n : Nat, ((b.toNat : Int).tmod 9) = (n : Int) ∧ n ≤ 8 := ⟨b.toNat % 9, zhU _ _, by omega⟩
  rw [za0]
  refine ⟨Nat, fun k => k ≤ m, fun k => [str s, u8 a, u8 b, .bot, .bot, .bot, .bot, bl true, .sl (pr.1.flatMap nC) pr.1.length, .bot, .bot, str (blP k ++ s), i64 k, .bot, .bot, .bot, .bot, .bot, .bot, .bot, .bot, .bot, .bot, .bot, .bot, .bot, .bot, .bot, .bot, .bot, .bot, .bot, .bot, .bot, .bot, .bot, .bot, .bot, .bot, .bot, .bot, .bot, .bot, .bot, .bot, .bot, .bot, .bot, .bot, .bot, .bot, .bot, .bot, .bot, .bot, .bot, .bot, .bot, .bot, .bot, .bot, .bot, .bot, .bot, .bot, .bot, .bot, .bot, .bot, .bot, .bot, .bot, .bot, .bot, .bot, .bot, .bot, .bot, .bot, .bot, .bot, .bot, .bot, .bot], fun k => [], fun k => m - k, 0, Nat.zero_le _, zaj (q := []) rfl rfl (by decide) ?_ ?_, ?_⟩
  · refine aQ18 ?_
    exact ⟨by simp [zcf], .inr rfl, .inr rfl⟩
  · trivial
  · intro k hk
    try simp -implicitDefEqProofs only [LM4, eq_self, zak, zae, zaq, Nat.zero_mul, hm, tmod_4, TB, SB, Int.reduceToNat, Nat.reduceAdd, Nat.reduceEqDiff, Nat.reduceLT, Nat.reduceMod, Nat.reducePow, Nat.reduceSub, if_true, reduceIte]
    refine ⟨by decide, fun hlt => ?_, fun hge => ?_⟩
    · refine ⟨by decide, by omega, by omega, by simp only [List.length_append, zhT]; omega, by unfold inI; omega, ?_⟩
      rw [zan]
      refine ⟨k + 1, by omega, by (show m - (k + 1) < m - k); omega, zaj (q := []) rfl rfl (by decide) ?_ ?_⟩
      · refine aQ18 ?_
        exact ⟨by simp [zcf], .inr (by simp [blP, blB]), .inr (by omega)⟩
      · trivial
    · obtain rfl : k = m := by omega
      rw [za0]
      refine ⟨Nat, fun j => j ≤ n, fun j => [str s, u8 a, u8 b, .bot, .bot, .bot, .bot, bl true, .sl (pr.1.flatMap nC) pr.1.length, .bot, .bot, str (blP k ++ (s ++ blQ j)), .bot, i64 j, .bot, .bot, .bot, .bot, .bot, .bot, .bot, .bot, .bot, .bot, .bot, .bot, .bot, .bot, .bot, .bot, .bot, .bot, .bot, .bot, .bot, .bot, .bot, .bot, .bot, .bot, .bot, .bot, .bot, .bot, .bot, .bot, .bot, .bot, .bot, .bot, .bot, .bot, .bot, .bot, .bot, .bot, .bot, .bot, .bot, .bot, .bot, .bot, .bot, .bot, .bot, .bot, .bot, .bot, .bot, .bot, .bot, .bot, .bot, .bot, .bot, .bot, .bot, .bot, .bot, .bot, .bot, .bot, .bot, .bot], fun j => [], fun j => n - j, 0, Nat.zero_le _, zaj (q := []) rfl rfl (by decide) ?_ ?_, ?_⟩
      · refine aQ18 ?_
        exact ⟨by simp [zcf], .inr (by simp [blQ]), .inr rfl⟩
      · trivial
      · intro j hj
        try simp -implicitDefEqProofs only [LM4, eq_self, zak, zae, zaq, Nat.zero_mul, hn, tmod_4, TB, SB, Int.reduceToNat, Nat.reduceAdd, Nat.reduceEqDiff, Nat.reduceLT, Nat.reduceMod, Nat.reducePow, Nat.reduceSub, if_true, reduceIte]
        refine ⟨by decide, fun hlt => ?_, fun hge => ?_⟩
        · refine ⟨by decide, by omega, by omega, by simp only [List.length_append, zhT, blQ_len, List.length_cons, List.length_nil]; omega, by unfold inI; omega, ?_⟩
          rw [zan]
          refine ⟨j + 1, by omega, by (show n - (j + 1) < n - j); omega, zaj (q := []) rfl rfl (by decide) ?_ ?_⟩
          · refine aQ18 ?_
            exact ⟨by simp [zcf], .inr (by simp [blQ, blB]), .inr (by omega)⟩
          · trivial
        · obtain rfl : j = n := by omega
          have hlen : (blP k ++ (s ++ blQ j)).length ≤ 2048 := by simp only [List.length_append, zhT, blQ_len]; omega
          subst hpl
          have hb := parR_blanks h hlen (blP_bl k) (blQ_bl j)
          have hp2 := ParseN_ok (blP k ++ (s ++ blQ j)) (by omega) (by rw [hb])
          rw [hb] at hp2
          generalize blP k ++ (s ++ blQ j) = t at hp2 hlen ⊢
          have hsame := Same_ok (parR s).1 (parR s).1 (by omega)
          generalize parR s = pr at hp2 hsame ⊢
          refine hp2.pure (by simp [renL, zap]) ?_
          rintro _ σ rfl
          refine ⟨by simp [AEnd.noid, AV.ren, renL, zcf, zao], ?_⟩
          refine aQ36 ?_
          replace hsame := hsame.mono (K' := fun y _ => y = .ret (bl true)) fun _ _ h => by rw [h.1, decide_eq_true rfl]
          refine hsame.pure (by simp [renL, AV.ren, zcf]) ?_
          rintro _ σ rfl
          refine ⟨by simp [AEnd.noid, zaP], ?_⟩
          refine aQ36 ?_
          exact zbA rfl
end Go.Proofs.YtfncfhogkbkgoaaGreatDoor
end

section
namespace Go.Eng
open Go
theorem Glob.of_vars3 [Globs] {w : World} (h : ∀ g cs, Globs.tab g = some cs → ∃ (P : Program) (n : String), P.globalNamed n = some g ∧ w.var? P n = some cs.toArray) (hi : ∀ g, g ∈ Globs.ints → ∃ n : Int, w.cell? ⟨g, 0, none⟩ = some (.int .i64 n)) (he : ∀ g, g ∈ Globs.errs → ∃ (t : TypeId) (v : Value), w.cell? ⟨g, 0, none⟩ = some (.iface t v)) : Glob w (Go.Eng.own (fun _ => False) [] []) := by
  have no : ∀ g, ¬ Go.Eng.own (fun _ => False) [] [] g := by
    rintro g (hb | ⟨i, cs, hi, _⟩)
    · exact hb
    · simp at hi
  refine ⟨fun g cs hg => ?_, fun g hg => ?_, fun g hg => ?_⟩
  · obtain ⟨P, n, h1, h2⟩ := h g cs hg
    refine ⟨no g, ?_, fun j v hv => ?_⟩
    · have h3 := h2
      simp only [World.var?, h1, Option.bind_some] at h3
      split at h3
      · rename_i e
        rcases Nat.lt_or_ge g w.heap.size with hlt | hge
        · exact hlt
        · rw [Array.getElem?_eq_none hge] at e; cases e
      · cases h3
    · rw [World.var?_cell h1 h2 j, List.getElem?_toArray, hv]
  · obtain ⟨n, hn⟩ := hi g hg
    refine ⟨no g, ?_, n, hn⟩
    rcases Nat.lt_or_ge g w.heap.size with hlt | hge
    · exact hlt
    · simp [World.cell?, Array.getElem?_eq_none hge] at hn
  · obtain ⟨t, v, hn⟩ := he g hg
    refine ⟨no g, ?_, t, v, hn⟩
    rcases Nat.lt_or_ge g w.heap.size with hlt | hge
    · exact hlt
    · simp [World.cell?, Array.getElem?_eq_none hge] at hn
theorem wrap_and_shaped {H : Type} {enc : TypeId × Value → H} {a : Assume} {C : Checked} {os : Os} {f : FuncId} {fn : Func} {s : ChangeSpec} {conds : List PathCond} {apart fresh handsOn again : Bool} {X : World → Array Value → Prop}
    (hX : ∀ (w w' : World) (args : Array Value), w.heap = w'.heap → X w args → X w' args)
    (h1 : ownKnob C.prog.godebug = none) (h2 : os.Started) (h3 : C.prog.inits.idxOf? f = none) (hfn : C.prog.funcs[f]? = some fn)
    (h4 : ∃ (w : World) (tape : Tape) (i : Input), w.os = os ∧ (w.forCall tape i).Shaped C.prog ∧ i.vars = [] ∧ Input.okWide C.prog (w.forCall tape i) .any w.heap.size f i ∧
      ((s.pre enc C.prog fn conds apart (w.forCall tape i).memory i.args ∧ X (w.forCall tape i).memory i.args) ∧ sizedMet enc C.prog fn (OpenSpec.ofChange s) apart (w.forCall tape i).memory i.args) ∧ a.holds C.prog (lone (Frame.enter C.prog f i.args .normal) [] (w.forCall tape i)))
    (h5 : ∀ (W : World) (base : Nat) (args : Array Value) (ds gs : List (DataW H)) (before : List MemPlace),
      (∀ (j : Nat) t v, fn.params[j]? = some t → args[j]? = some v → Value.okWide C.prog W .any base t v) →
      DataW.Whole enc C.prog fn.params.toList s.vars apart W args.toList ds gs before →
      conds.all (PathCond.test C.prog ⟨fn.params.toList, ds, s.plain.varTypes C.prog, gs⟩) = true →
      (DataW.weightsEach C.prog (fn.params.toList ++ s.plain.varTypes C.prog) (ds ++ gs)).all (· ≤ reachBytes) = true → X W args → W.ShapedOpen C.prog →
      a.holds C.prog (lone (Frame.enter C.prog f args .normal) [] W) →
      Calls C.prog f args W fun e W' => ∃ v, e = .returned v ∧ s.post enc C.prog fn apart fresh handsOn again W args v W') :
    ReturnsInHanded a C os f .any (fun w args => (s.pre enc C.prog fn conds apart w args ∧ X w args) ∧ sizedMet enc C.prog fn (OpenSpec.ofChange s) apart w args) (s.post enc C.prog fn apart fresh handsOn again) := by
  refine returnsInHanded_of_calls h1 h2 h3 h4 ?_
  intro w tape i _ hsh _ hok hpre hh
  have hval : ∀ (j : Nat) t v, fn.params[j]? = some t → i.args[j]? = some v → Value.okWide C.prog (w.forCall tape i) .any w.heap.size t v := by
    obtain ⟨_, _, _, fn', hfn', _, _, _, _, hv⟩ := hok
    cases Option.some.inj (hfn'.symm.trans hfn)
    exact hv
  obtain ⟨⟨⟨ds, gs, bf, hw, hc⟩, hx⟩, hz⟩ := hpre
  have key := h5 (w.forCall tape i) w.heap.size i.args ds gs bf hval (DataW.Whole.of_heap (w' := w.forCall tape i) (by rfl) hw) hc (hz.weights hw) (hX _ _ _ (by rfl) hx) hsh hh
  refine key.mono ?_
  rintro e W' ⟨v, rfl, hp⟩
  exact ChangeSpec.post_blind hp
end Go.Eng
namespace Go.Proofs.YtfncfhogkbkgoaaGreatDoor
open Go Go.Eng
def zih : List (String × DataW Unit) := Rows.parseChecksRow.laid
def nm (i : Nat) : String := (zih[i]?.map (·.1)).getD ""
def dt (i : Nat) : DataW Unit := (zih[i]?.map (·.2)).getD .nil
theorem ownK : ownKnob Tryz.prog.godebug = none := by kernel_rfl
theorem oneRow : ((List.range Tryz.prog.types.size).filter fun t => Tryz.prog.rowNamed t [101, 114, 114, 111, 114]) = [54] := by kernel_rfl
def plain5 : List (String × DataW Unit) := [(nm 0, dt 0), (nm 1, dt 1), (nm 2, dt 2), (nm 4, dt 4), (nm 5, dt 5)]
theorem star : "*" ++ "errors.errorString" = "*errors.errorString" := by decide
theorem rowErr (u : TypeId) (h : Tryz.prog.typeName? 3 u = some "*errors.errorString") : u = 153 :=
  typeName_ptr_named (nm := "errors.errorString") (by rw [star]; kernel_rfl) (by kernel_rfl) (by decide) u (by rw [star]; exact h)
theorem gRange : Tryz.prog.globalNamed (nm 4) = some 2 := by kernel_rfl
theorem gSyntax : Tryz.prog.globalNamed (nm 5) = some 1 := by kernel_rfl
theorem tRange : (Tryz.prog.globals[2]?).map (·.type) = some 54 := by kernel_rfl
theorem tSyntax : (Tryz.prog.globals[1]?).map (·.type) = some 54 := by kernel_rfl
theorem cellsE : Tryz.prog.cellsOf 155 = 1 := by kernel_rfl
theorem cellsS : Tryz.prog.cellsOf 9 = 1 := by kernel_rfl
theorem glob_of_laid {w : World} (h : laidMetH Tryz.prog zih w) (hsh : w.ShapedOpen Tryz.prog) : Glob w (Go.Eng.own (fun _ => False) [] []) := by
  have h' : laidMet Tryz.prog plain5 w ∧ handlesMet Tryz.prog [(nm 3, dt 3)] w := h
  have hL := h'.1.tail.tail.tail
  obtain ⟨a0, s0, hv0, _, _, _⟩ := laid_sentinel hL gRange tRange Tryz.underlying54 rowErr Tryz.underlying153 Tryz.underlying155 rfl rfl Tryz.underlying9 cellsE cellsS
  obtain ⟨a1, s1, hv1, _, _, _⟩ := laid_sentinel hL.tail gSyntax tSyntax Tryz.underlying54 rowErr Tryz.underlying153 Tryz.underlying155 rfl rfl Tryz.underlying9 cellsE cellsS
  obtain ⟨name, u, ty, e1, e2, e3, e4, e5⟩ := h'.2 _ (List.mem_singleton.2 rfl)
  have en : name = [101, 114, 114, 111, 114] := (Option.some.inj e1).symm
  subst en
  obtain rfl : u = 127 := Option.some.inj (e2.symm.trans (by kernel_rfl))
  have hm : ty ∈ (List.range Tryz.prog.types.size).filter fun t => Tryz.prog.rowNamed t [101, 114, 114, 111, 114] := List.mem_filter.2 ⟨List.mem_range.2 e3, e4⟩
  rw [oneRow] at hm
  obtain rfl := List.mem_singleton.1 hm
  have hh : typeHandle Tryz.prog 54 = .pointer (some ⟨7, 54, none⟩) := by kernel_rfl
  rw [hh] at e5
  refine Glob.of_vars3 (fun g cs hg => ?_) (fun g hg => ?_) (fun g hg => ?_)
  · by_cases hgg : g = 0
    · subst hgg
      obtain rfl := Option.some.inj (show some [zbt 7 54] = some cs from hg)
      exact ⟨_, _, (by kernel_rfl : Tryz.prog.globalNamed (nm 3) = some 0), e5⟩
    · exact absurd hg (by
        intro hg
        have : (none : Option (List Value)) = some cs := by
          rw [← hg]
          symm
          show (match g with | 0 => some [zbt 7 54] | _ => none) = none
          split
          · exact absurd rfl hgg
          · rfl
        cases this)
  · have hg' : g = 3 := by
      have : g ∈ [3] := hg
      simpa using this
    subst hg'
    exact Go.Proofs.cell_of_shapedOpen_int (zero := #[.int .i64 0]) (t := 3) hsh (of_decide_eq_true (by kernel_rfl)) (by kernel_rfl) rfl (by kernel_rfl) (by kernel_rfl) Tryz.underlying3
  · have hg' : g = 2 ∨ g = 1 := by
      have : g ∈ [2, 1] := hg
      simpa using this
    rcases hg' with rfl | rfl
    · exact ⟨_, _, World.var?_cell gRange hv0 0⟩
    · exact ⟨_, _, World.var?_cell gSyntax hv1 0⟩
theorem door_met (os : Os) (args : Array Value) : laidMetH Tryz.prog zih ((World.doorLaid Tryz.prog 4000 os).forCall (fun _ _ => 0) ⟨#[], args, []⟩).memory :=
  laidMetH_of_parts3 (fuel := 8) (laidMet_of_run' 8 (by kernel_rfl) (by kernel_rfl)) (by kernel_rfl) (by kernel_rfl)
end Go.Proofs.YtfncfhogkbkgoaaGreatDoor
end

