/-
  The law's walk, and what the listed variables hold. No condition.
-/
import Derived.Test.YtfncfhogkbkgoaaGreatDoorParI
import Derived.LaidMore
import Derived.Lay
import Derived.LaidHandle
import Derived.Stop.LaidErr
import Derived.Lib.LaidTab
import Derived.Stop.Joined
import Derived.HandedShaped
import Derived.Shelf.Strings.Shaped
set_option linter.unusedSimpArgs false
set_option linter.unusedVariables false
set_option linter.unusedSectionVars false
section
namespace Go.Eng
open Go
theorem aQ38 {P Q : Prop} (h : Q) (e : P = Q := by first|(simp -implicitDefEqProofs only [LB1, LB18, eq_self, zad, TB, SB, Int.reduceToNat, Nat.reduceAdd, Nat.reduceEqDiff, Nat.reduceLT, Nat.reduceMod, Nat.reducePow, Nat.reduceSub, if_true, reduceIte];first|done|exact rfl)|exact rfl) : P := e ▸ h
end Go.Eng
end

section
namespace Go.Proofs.YtfncfhogkbkgoaaGreatDoor
open Go Go.Eng
theorem ParseN (s : List UInt8) (hs : s.length ≤ 1000000000000) : ACalls Tryz.prog 15 [str s] [] (fun y _ => y = .ret (parA s)) := Parse_ok s 1000000 hs sortN (fun _ => by omega)
theorem zgE (s : List UInt8) (hs : s.length ≤ 1000000000000) (h : (parR s).2.2 = 0) : ACalls Tryz.prog 15 [str s] [] (fun y _ => y = .ret (.tup [.sl ((parR s).1.flatMap nC) (parR s).1.length, i64 (parR s).2.1, i64 0])) := by
  have := ParseN s hs
  rw [parA, h, if_pos rfl] at this
  exact this
theorem zdo (s : List UInt8) (hs : s.length ≤ 1000000000000) (h : (parR s).2.2 ≠ 0) : ACalls Tryz.prog 15 [str s] [] (fun y _ => y = .ret (.tup [nilS, i64 (parR s).2.1, i64 (parR s).2.2])) := by
  have := ParseN s hs
  rw [parA, if_neg h] at this
  exact this
theorem len_nilN (e : TypeId) {K : AV → Prop} : len2 (some (tySl e)) nilS K = K (i64 0) := rfl
end Go.Proofs.YtfncfhogkbkgoaaGreatDoor
end

section
namespace Go.Proofs.YtfncfhogkbkgoaaGreatDoor
namespace turned
open Go Go.Eng
set_option linter.defProp false in
def LB18 := And.intro @conv_u16_i64 (@len_nilN)
def T : Tab := tabOf [(3, za2), (4, tyBool), (5, tyU8), (9, zbg), (30, za2), (44, tyU16), (48, tyNd), (29, tySl 48)]
theorem T_ok : zaP Tryz.prog T := tabOf_ok (by kernel_rfl)
theorem T3 : T 3 = some (za2) := rfl
theorem T4 : T 4 = some (tyBool) := rfl
theorem T5 : T 5 = some (tyU8) := rfl
theorem T9 : T 9 = some (zbg) := rfl
theorem T30 : T 30 = some (za2) := rfl
theorem T44 : T 44 = some (tyU16) := rfl
theorem T48 : T 48 = some (tyNd) := rfl
theorem T29 : T 29 = some (tySl 48) := rfl
set_option linter.defProp false in
def TB := And.intro T3 (And.intro T4 (And.intro T5 (And.intro T9 (And.intro T30 (And.intro T44 (And.intro T48 (T29)))))))
set_option maxRecDepth 8000
theorem tmod_nn (x y : Nat) : (x : Int).tmod (y : Int) = ((x % y : Nat) : Int) := by rw [Int.tmod_eq_emod_of_nonneg (by omega)]; rfl
set_option maxRecDepth 20000 in
set_option maxHeartbeats 4000000 in
theorem ParseCuts_ok (s : List UInt8) (a : Int) (ha : 0 ≤ a ∧ a ≤ 65535) : ACalls Tryz.prog 7 [str s, .lit (.int .u16 a)] [] (fun y _ => y = .ret (bl true)) := by
  have he : ∀ σ : zac, endQ 0 (bl true) σ (fun r _ => AEnd.ret r = .ret (bl true)) := fun σ => zch rfl
  refine ACalls.body T_ok Tryz.func7 (by kernel_rfl) rfl Tryz.ntmps7 (congrArg Array.toList Tryz.results7) ?_
  refine aQ38 ?_
  refine (works_ok).pure aQ10 ?_
  rintro _ σ rfl
  refine ⟨by first | rfl | simp [AEnd.noid, AV.ren, renL, zaD, zaz str zan, zaQ, zaH, zaJ, zao, zaL, zan], ?_⟩
  refine aQ38 ?_
  by_cases h2 : s.length < 2
  · try simp -implicitDefEqProofs only [LB1, LB18, eq_self, zad, decide_eq_true (by omega : (s.length : Int) < 2), TB, SB, Int.reduceToNat, Nat.reduceAdd, Nat.reduceEqDiff, Nat.reduceLT, Nat.reduceMod, Nat.reducePow, Nat.reduceSub, if_true, reduceIte]
    exact he _
  by_cases h4 : 400 < s.length
  · try simp -implicitDefEqProofs only [LB1, LB18, eq_self, zad, decide_eq_false (by omega : ¬ (s.length : Int) < 2), decide_eq_true (by omega : 400 < (s.length : Int)), TB, SB, Int.reduceToNat, Nat.reduceAdd, Nat.reduceEqDiff, Nat.reduceLT, Nat.reduceMod, Nat.reducePow, Nat.reduceSub, if_true, reduceIte]
    exact he _
  obtain ⟨c0, s', hss⟩ : ∃ c0 s', s = c0 :: s' := by
    cases s with
    | nil => simp at h2
    | cons c0 s' => exact ⟨c0, s', rfl⟩
  have g0 : s.getD 0 0 = c0 := by rw [hss]; rfl
  have hd : s.headD 0 = c0 := by rw [hss]; rfl
  try simp -implicitDefEqProofs only [LB1, LB18, eq_self, zad, decide_eq_false (by omega : ¬ (s.length : Int) < 2), decide_eq_false (by omega : ¬ 400 < (s.length : Int)), g0, TB, SB, Int.reduceToNat, Nat.reduceAdd, Nat.reduceEqDiff, Nat.reduceLT, Nat.reduceMod, Nat.reducePow, Nat.reduceSub, if_true, reduceIte]
  refine ⟨by decide, by omega, ?_⟩
  have u1 : UInt8.ofNat 91 = 91 := rfl
  have u2 : UInt8.ofNat 123 = 123 := rfl
  have u3 : UInt8.ofNat 34 = 34 := rfl
  by_cases e1 : c0 = 91
  rotate_left
  · by_cases e2 : c0 = 123
    rotate_left
    · by_cases e3 : c0 = 34
      rotate_left
      · try simp -implicitDefEqProofs only [LB1, LB18, eq_self, zad, u1, u2, u3, g0, decide_eq_false e1, decide_eq_false e2, decide_eq_false e3, TB, SB, Int.reduceToNat, Nat.reduceAdd, Nat.reduceEqDiff, Nat.reduceLT, Nat.reduceMod, Nat.reducePow, Nat.reduceSub, if_true, reduceIte]
        repeat (with_reducible refine And.intro aQ9 ?_)
        exact he _
      · try simp -implicitDefEqProofs only [LB1, LB18, eq_self, zad, u1, u2, u3, g0, decide_eq_false e1, decide_eq_false e2, decide_eq_true e3, TB, SB, Int.reduceToNat, Nat.reduceAdd, Nat.reduceEqDiff, Nat.reduceLT, Nat.reduceMod, Nat.reducePow, Nat.reduceSub, if_true, reduceIte]
        repeat (with_reducible refine And.intro aQ9 ?_)
        refine ⟨fun _ => he _, fun hlast => ?_⟩
        have e32 : ((UInt8.ofNat 32).toNat : Int) = 32 := rfl
        have elen : ((s.length : Int) - 1).toNat = s.length - 1 := by omega
        rw [e32, elen] at hlast
        have hh : s.headD 0 = 91 ∨ s.headD 0 = 123 ∨ s.headD 0 = 34 := by rw [hd]; exact .inr (.inr e3)
        have hlt : 32 < (s.getD (s.length - 1) 0).toNat := by omega
        by_cases h : (parR s).2.2 = 0
        rotate_left
        · have hp := zdo s (by omega) h
          have d4 := decide_eq_false h
          refine (hp).pure aQ10 ?_
          rintro _ σ rfl
          refine ⟨by first | rfl | simp [AEnd.noid, AV.ren, renL, zaD, zaz str zan, zaQ, zaH, zaJ, zao, zaL, zan], ?_⟩
          refine aQ38 ?_
          refine ⟨fun _ => he _, fun h' => absurd h' h⟩
        have hp := zgE s (by omega) h
        obtain ⟨k, rfl⟩ : ∃ k : Nat, a = k := ⟨a.toNat, by omega⟩
        have hcut := zhT h hh hlt (Nat.mod_lt k (by omega : 0 < s.length))
        obtain ⟨q1, q2, q3⟩ := hcut
        generalize hpr : parR s = pr at hp
        refine hp.pure (by simp [renL, zan]) ?_
        rintro _ σ rfl
        refine ⟨by simp [AEnd.noid, AV.ren, renL, zdL, zao], ?_⟩
        have hw : IntKind.i64.wrap (k : Int) = (k : Int) := zce (by omega) (by omega)
        try simp -implicitDefEqProofs only [LB1, LB18, eq_self, zad, hw, tmod_nn, TB, SB, Int.reduceToNat, Nat.reduceAdd, Nat.reduceEqDiff, Nat.reduceLT, Nat.reduceMod, Nat.reducePow, Nat.reduceSub, if_true, reduceIte]
        have hm := Nat.mod_lt k (by omega : 0 < s.length)
        generalize k % s.length = n at q1 q2 q3 hm ⊢
        repeat (with_reducible refine And.intro aQ9 ?_)
        have hp2 := zdo (s.take n) (by rw [List.length_take]; omega) (by rw [q1]; decide)
        rw [q1] at hp2
        refine (hp2).pure aQ10 ?_
        rintro _ σ rfl
        refine ⟨by first | rfl | simp [AEnd.noid, AV.ren, renL, zaD, zaz str zan, zaQ, zaH, zaJ, zao, zaL, zan], ?_⟩
        refine aQ38 ?_
        try simp -implicitDefEqProofs only [LB1, LB18, eq_self, zad, decide_eq_true q3, TB, SB, Int.reduceToNat, Nat.reduceAdd, Nat.reduceEqDiff, Nat.reduceLT, Nat.reduceMod, Nat.reducePow, Nat.reduceSub, if_true, reduceIte]
        exact he _
    · try simp -implicitDefEqProofs only [LB1, LB18, eq_self, zad, u1, u2, u3, g0, decide_eq_false e1, decide_eq_true e2, TB, SB, Int.reduceToNat, Nat.reduceAdd, Nat.reduceEqDiff, Nat.reduceLT, Nat.reduceMod, Nat.reducePow, Nat.reduceSub, if_true, reduceIte]
      repeat (with_reducible refine And.intro aQ9 ?_)
      refine ⟨fun _ => he _, fun hlast => ?_⟩
      have e32 : ((UInt8.ofNat 32).toNat : Int) = 32 := rfl
      have elen : ((s.length : Int) - 1).toNat = s.length - 1 := by omega
      rw [e32, elen] at hlast
      have hh : s.headD 0 = 91 ∨ s.headD 0 = 123 ∨ s.headD 0 = 34 := by rw [hd]; exact .inr (.inl e2)
      have hlt : 32 < (s.getD (s.length - 1) 0).toNat := by omega
      by_cases h : (parR s).2.2 = 0
      rotate_left
      · have hp := zdo s (by omega) h
        have d4 := decide_eq_false h
        refine (hp).pure aQ10 ?_
        rintro _ σ rfl
        refine ⟨by first | rfl | simp [AEnd.noid, AV.ren, renL, zaD, zaz str zan, zaQ, zaH, zaJ, zao, zaL, zan], ?_⟩
        refine aQ38 ?_
        refine ⟨fun _ => he _, fun h' => absurd h' h⟩
      have hp := zgE s (by omega) h
      obtain ⟨k, rfl⟩ : ∃ k : Nat, a = k := ⟨a.toNat, by omega⟩
      have hcut := zhT h hh hlt (Nat.mod_lt k (by omega : 0 < s.length))
      obtain ⟨q1, q2, q3⟩ := hcut
      generalize hpr : parR s = pr at hp
      refine hp.pure (by simp [renL, zan]) ?_
      rintro _ σ rfl
      refine ⟨by simp [AEnd.noid, AV.ren, renL, zdL, zao], ?_⟩
      have hw : IntKind.i64.wrap (k : Int) = (k : Int) := zce (by omega) (by omega)
      try simp -implicitDefEqProofs only [LB1, LB18, eq_self, zad, hw, tmod_nn, TB, SB, Int.reduceToNat, Nat.reduceAdd, Nat.reduceEqDiff, Nat.reduceLT, Nat.reduceMod, Nat.reducePow, Nat.reduceSub, if_true, reduceIte]
      have hm := Nat.mod_lt k (by omega : 0 < s.length)
      generalize k % s.length = n at q1 q2 q3 hm ⊢
      repeat (with_reducible refine And.intro aQ9 ?_)
      have hp2 := zdo (s.take n) (by rw [List.length_take]; omega) (by rw [q1]; decide)
      rw [q1] at hp2
      refine (hp2).pure aQ10 ?_
      rintro _ σ rfl
      refine ⟨by first | rfl | simp [AEnd.noid, AV.ren, renL, zaD, zaz str zan, zaQ, zaH, zaJ, zao, zaL, zan], ?_⟩
      refine aQ38 ?_
      try simp -implicitDefEqProofs only [LB1, LB18, eq_self, zad, decide_eq_true q3, TB, SB, Int.reduceToNat, Nat.reduceAdd, Nat.reduceEqDiff, Nat.reduceLT, Nat.reduceMod, Nat.reducePow, Nat.reduceSub, if_true, reduceIte]
      exact he _
  · try simp -implicitDefEqProofs only [LB1, LB18, eq_self, zad, u1, u2, u3, g0, decide_eq_true e1, TB, SB, Int.reduceToNat, Nat.reduceAdd, Nat.reduceEqDiff, Nat.reduceLT, Nat.reduceMod, Nat.reducePow, Nat.reduceSub, if_true, reduceIte]
    repeat (with_reducible refine And.intro aQ9 ?_)
    refine ⟨fun _ => he _, fun hlast => ?_⟩
    have e32 : ((UInt8.ofNat 32).toNat : Int) = 32 := rfl
    have elen : ((s.length : Int) - 1).toNat = s.length - 1 := by omega
    rw [e32, elen] at hlast
    have hh : s.headD 0 = 91 ∨ s.headD 0 = 123 ∨ s.headD 0 = 34 := by rw [hd]; exact .inl e1
    have hlt : 32 < (s.getD (s.length - 1) 0).toNat := by omega
    by_cases h : (parR s).2.2 = 0
    rotate_left
    · have hp := zdo s (by omega) h
      have d4 := decide_eq_false h
      refine (hp).pure aQ10 ?_
      rintro _ σ rfl
      refine ⟨by first | rfl | simp [AEnd.noid, AV.ren, renL, zaD, zaz str zan, zaQ, zaH, zaJ, zao, zaL, zan], ?_⟩
      refine aQ38 ?_
      refine ⟨fun _ => he _, fun h' => absurd h' h⟩
    have hp := zgE s (by omega) h
    obtain ⟨k, rfl⟩ : ∃ k : Nat, a = k := ⟨a.toNat, by omega⟩
    have hcut := zhT h hh hlt (Nat.mod_lt k (by omega : 0 < s.length))
    obtain ⟨q1, q2, q3⟩ := hcut
    generalize hpr : parR s = pr at hp
    refine hp.pure (by simp [renL, zan]) ?_
    rintro _ σ rfl
    refine ⟨by simp [AEnd.noid, AV.ren, renL, zdL, zao], ?_⟩
    have hw : IntKind.i64.wrap (k : Int) = (k : Int) := zce (by omega) (by omega)
    try simp -implicitDefEqProofs only [LB1, LB18, eq_self, zad, hw, tmod_nn, TB, SB, Int.reduceToNat, Nat.reduceAdd, Nat.reduceEqDiff, Nat.reduceLT, Nat.reduceMod, Nat.reducePow, Nat.reduceSub, if_true, reduceIte]
    have hm := Nat.mod_lt k (by omega : 0 < s.length)
    generalize k % s.length = n at q1 q2 q3 hm ⊢
    repeat (with_reducible refine And.intro aQ9 ?_)
    have hp2 := zdo (s.take n) (by rw [List.length_take]; omega) (by rw [q1]; decide)
    rw [q1] at hp2
    refine (hp2).pure aQ10 ?_
    rintro _ σ rfl
    refine ⟨by first | rfl | simp [AEnd.noid, AV.ren, renL, zaD, zaz str zan, zaQ, zaH, zaJ, zao, zaL, zan], ?_⟩
    refine aQ38 ?_
    try simp -implicitDefEqProofs only [LB1, LB18, eq_self, zad, decide_eq_true q3, TB, SB, Int.reduceToNat, Nat.reduceAdd, Nat.reduceEqDiff, Nat.reduceLT, Nat.reduceMod, Nat.reducePow, Nat.reduceSub, if_true, reduceIte]
    exact he _
end turned
end Go.Proofs.YtfncfhogkbkgoaaGreatDoor
end

section
namespace Go.Eng
open Go
theorem Glob.of_vars3 [Globs] {w : World} (h : ∀ g cs, Globs.tab g = some cs → ∃ (P : Program) (n : String), P.globalNamed n = some g ∧ w.var? P n = some cs.toArray) (hi : ∀ g, g ∈ Globs.ints → ∃ n : Int, w.cell? ⟨g, 0, none⟩ = some (.int .i64 n)) (he : ∀ g, g ∈ Globs.errs → ∃ (t : TypeId) (v : Value), w.cell? ⟨g, 0, none⟩ = some (.iface t v)) : Glob w (Go.Eng.own (fun _ => False) [] []) := by
  have no : ∀ g, ¬ Go.Eng.own (fun _ => False) [] [] g := by
    rintro g (hb | ⟨i, cs, hi, _⟩)
    · exact hb
    · simp at hi
  refine ⟨fun g cs hg => ?_, fun g hg => ?_, fun g hg => ?_⟩
  · obtain ⟨P, n, h1, h2⟩ := h g cs hg
    refine ⟨no g, ?_, fun j v hv => ?_⟩
    · have h3 := h2
      simp only [World.var?, h1, Option.bind_some] at h3
      split at h3
      · rename_i e
        rcases Nat.lt_or_ge g w.heap.size with hlt | hge
        · exact hlt
        · rw [Array.getElem?_eq_none hge] at e; cases e
      · cases h3
    · rw [World.var?_cell h1 h2 j, List.getElem?_toArray, hv]
  · obtain ⟨n, hn⟩ := hi g hg
    refine ⟨no g, ?_, n, hn⟩
    rcases Nat.lt_or_ge g w.heap.size with hlt | hge
    · exact hlt
    · simp [World.cell?, Array.getElem?_eq_none hge] at hn
  · obtain ⟨t, v, hn⟩ := he g hg
    refine ⟨no g, ?_, t, v, hn⟩
    rcases Nat.lt_or_ge g w.heap.size with hlt | hge
    · exact hlt
    · simp [World.cell?, Array.getElem?_eq_none hge] at hn
theorem wrap_and_shaped {H : Type} {enc : TypeId × Value → H} {a : Assume} {C : Checked} {os : Os} {f : FuncId} {fn : Func} {s : ChangeSpec} {conds : List PathCond} {apart fresh handsOn again : Bool} {X : World → Array Value → Prop}
    (hX : ∀ (w w' : World) (args : Array Value), w.heap = w'.heap → X w args → X w' args)
    (h1 : ownKnob C.prog.godebug = none) (h2 : os.Started) (h3 : C.prog.inits.idxOf? f = none) (hfn : C.prog.funcs[f]? = some fn)
    (h4 : ∃ (w : World) (tape : Tape) (i : Input), w.os = os ∧ (w.forCall tape i).Shaped C.prog ∧ i.vars = [] ∧ Input.okWide C.prog (w.forCall tape i) .any w.heap.size f i ∧
      ((s.pre enc C.prog fn conds apart (w.forCall tape i).memory i.args ∧ X (w.forCall tape i).memory i.args) ∧ sizedMet enc C.prog fn (OpenSpec.ofChange s) apart (w.forCall tape i).memory i.args) ∧ a.holds C.prog (lone (Frame.enter C.prog f i.args .normal) [] (w.forCall tape i)))
    (h5 : ∀ (W : World) (base : Nat) (args : Array Value) (ds gs : List (DataW H)) (before : List MemPlace),
      (∀ (j : Nat) t v, fn.params[j]? = some t → args[j]? = some v → Value.okWide C.prog W .any base t v) →
      DataW.Whole enc C.prog fn.params.toList s.vars apart W args.toList ds gs before →
      conds.all (PathCond.test C.prog ⟨fn.params.toList, ds, s.plain.varTypes C.prog, gs⟩) = true →
      (DataW.weightsEach C.prog (fn.params.toList ++ s.plain.varTypes C.prog) (ds ++ gs)).all (· ≤ reachBytes) = true → X W args → W.ShapedOpen C.prog →
      a.holds C.prog (lone (Frame.enter C.prog f args .normal) [] W) →
      Calls C.prog f args W fun e W' => ∃ v, e = .returned v ∧ s.post enc C.prog fn apart fresh handsOn again W args v W') :
    ReturnsInHanded a C os f .any (fun w args => (s.pre enc C.prog fn conds apart w args ∧ X w args) ∧ sizedMet enc C.prog fn (OpenSpec.ofChange s) apart w args) (s.post enc C.prog fn apart fresh handsOn again) := by
  refine returnsInHanded_of_calls h1 h2 h3 h4 ?_
  intro w tape i _ hsh _ hok hpre hh
  have hval : ∀ (j : Nat) t v, fn.params[j]? = some t → i.args[j]? = some v → Value.okWide C.prog (w.forCall tape i) .any w.heap.size t v := by
    obtain ⟨_, _, _, fn', hfn', _, _, _, _, hv⟩ := hok
    cases Option.some.inj (hfn'.symm.trans hfn)
    exact hv
  obtain ⟨⟨⟨ds, gs, bf, hw, hc⟩, hx⟩, hz⟩ := hpre
  have key := h5 (w.forCall tape i) w.heap.size i.args ds gs bf hval (DataW.Whole.of_heap (w' := w.forCall tape i) (by rfl) hw) hc (hz.weights hw) (hX _ _ _ (by rfl) hx) hsh hh
  refine key.mono ?_
  rintro e W' ⟨v, rfl, hp⟩
  exact ChangeSpec.post_blind hp
end Go.Eng
namespace Go.Proofs.YtfncfhogkbkgoaaGreatDoor
open Go Go.Eng
def zig : List (String × DataW Unit) := Rows.parseChecksRow.laid
def nm (i : Nat) : String := (zig[i]?.map (·.1)).getD ""
def dt (i : Nat) : DataW Unit := (zig[i]?.map (·.2)).getD .nil
theorem ownK : ownKnob Tryz.prog.godebug = none := by kernel_rfl
theorem oneRow : ((List.range Tryz.prog.types.size).filter fun t => Tryz.prog.rowNamed t [101, 114, 114, 111, 114]) = [54] := by kernel_rfl
def plain5 : List (String × DataW Unit) := [(nm 0, dt 0), (nm 1, dt 1), (nm 2, dt 2), (nm 4, dt 4), (nm 5, dt 5)]
theorem star : "*" ++ "errors.errorString" = "*errors.errorString" := by decide
theorem rowErr (u : TypeId) (h : Tryz.prog.typeName? 3 u = some "*errors.errorString") : u = 153 :=
  typeName_ptr_named (nm := "errors.errorString") (by rw [star]; kernel_rfl) (by kernel_rfl) (by decide) u (by rw [star]; exact h)
theorem gRange : Tryz.prog.globalNamed (nm 4) = some 2 := by kernel_rfl
theorem gSyntax : Tryz.prog.globalNamed (nm 5) = some 1 := by kernel_rfl
theorem tRange : (Tryz.prog.globals[2]?).map (·.type) = some 54 := by kernel_rfl
theorem tSyntax : (Tryz.prog.globals[1]?).map (·.type) = some 54 := by kernel_rfl
theorem cellsE : Tryz.prog.cellsOf 155 = 1 := by kernel_rfl
theorem cellsS : Tryz.prog.cellsOf 9 = 1 := by kernel_rfl
theorem glob_of_laid {w : World} (h : laidMetH Tryz.prog zig w) (hsh : w.ShapedOpen Tryz.prog) : Glob w (Go.Eng.own (fun _ => False) [] []) := by
  have h' : laidMet Tryz.prog plain5 w ∧ handlesMet Tryz.prog [(nm 3, dt 3)] w := h
  have hL := h'.1.tail.tail.tail
  obtain ⟨a0, s0, hv0, _, _, _⟩ := laid_sentinel hL gRange tRange Tryz.underlying54 rowErr Tryz.underlying153 Tryz.underlying155 rfl rfl Tryz.underlying9 cellsE cellsS
  obtain ⟨a1, s1, hv1, _, _, _⟩ := laid_sentinel hL.tail gSyntax tSyntax Tryz.underlying54 rowErr Tryz.underlying153 Tryz.underlying155 rfl rfl Tryz.underlying9 cellsE cellsS
  obtain ⟨name, u, ty, e1, e2, e3, e4, e5⟩ := h'.2 _ (List.mem_singleton.2 rfl)
  have en : name = [101, 114, 114, 111, 114] := (Option.some.inj e1).symm
  subst en
  obtain rfl : u = 127 := Option.some.inj (e2.symm.trans (by kernel_rfl))
  have hm : ty ∈ (List.range Tryz.prog.types.size).filter fun t => Tryz.prog.rowNamed t [101, 114, 114, 111, 114] := List.mem_filter.2 ⟨List.mem_range.2 e3, e4⟩
  rw [oneRow] at hm
  obtain rfl := List.mem_singleton.1 hm
  have hh : typeHandle Tryz.prog 54 = .pointer (some ⟨7, 54, none⟩) := by kernel_rfl
  rw [hh] at e5
  refine Glob.of_vars3 (fun g cs hg => ?_) (fun g hg => ?_) (fun g hg => ?_)
  · by_cases hgg : g = 0
    · subst hgg
      obtain rfl := Option.some.inj (show some [zbt 7 54] = some cs from hg)
      exact ⟨_, _, (by kernel_rfl : Tryz.prog.globalNamed (nm 3) = some 0), e5⟩
    · exact absurd hg (by
        intro hg
        have : (none : Option (List Value)) = some cs := by
          rw [← hg]
          symm
          show (match g with | 0 => some [zbt 7 54] | _ => none) = none
          split
          · exact absurd rfl hgg
          · rfl
        cases this)
  · have hg' : g = 3 := by
      have : g ∈ [3] := hg
      simpa using this
    subst hg'
    exact Go.Proofs.cell_of_shapedOpen_int (zero := #[.int .i64 0]) (t := 3) hsh (of_decide_eq_true (by kernel_rfl)) (by kernel_rfl) rfl (by kernel_rfl) (by kernel_rfl) Tryz.underlying3
  · have hg' : g = 2 ∨ g = 1 := by
      have : g ∈ [2, 1] := hg
      simpa using this
    rcases hg' with rfl | rfl
    · exact ⟨_, _, World.var?_cell gRange hv0 0⟩
    · exact ⟨_, _, World.var?_cell gSyntax hv1 0⟩
theorem door_met (os : Os) (args : Array Value) : laidMetH Tryz.prog zig ((World.doorLaid Tryz.prog 4000 os).forCall (fun _ _ => 0) ⟨#[], args, []⟩).memory :=
  laidMetH_of_parts3 (fuel := 8) (laidMet_of_run' 8 (by kernel_rfl) (by kernel_rfl)) (by kernel_rfl) (by kernel_rfl)
end Go.Proofs.YtfncfhogkbkgoaaGreatDoor
end

