/-
  What comes in, the law's walk, and what the listed variables hold. No condition.
-/
import Derived.Test.YtgfcmbinpmpmgaaGreatDoorWirG
import Derived.WalkKit
import Derived.ProofKit
import Derived.OpenShut
import Derived.ShutString
import Derived.SliceStrings
import Derived.LaidMore
import Derived.Lay
import Derived.LaidHandle
import Derived.Stop.LaidErr
import Derived.Lib.LaidTab
import Derived.Stop.Joined
import Derived.HandedShaped
import Derived.Shelf.Strings.Shaped
set_option linter.unusedSimpArgs false
set_option linter.unusedVariables false
set_option linter.unusedSectionVars false
section
namespace Go.Eng
open Go
theorem aQ19 {P : Prop} (e : P := by simp [AEnd.noid, AV.ren, renL, zai str zah, zak, zah]) : P := e
end Go.Eng
end

section
namespace Go.Proofs.YtgfcmbinpmpmgaaGreatDoor
open Go Go.Eng
def O0 : Nat → Prop := own (fun _ => False) [] []
theorem no_own (b : Nat) : ¬ own (fun _ => False) [] [] b := by
  rintro (hb | ⟨i, cs, hi, _⟩)
  · exact hb
  · simp at hi
theorem add_none (b off n : Nat) : (⟨b, off, none⟩ : Addr).add n = ⟨b, off + n, none⟩ := by
  by_cases h : n = 0
  · subst h
    simp [Addr.add]
  · simp [Addr.add, h]
theorem four {cs : List Value} (h : cs.length = 4) : ∃ a b c d, cs = [a, b, c, d] := by
  match cs, h with
  | [a, b, c, d], _ => exact ⟨a, b, c, d, rfl⟩
theorem two {cs : List Value} (h : cs.length = 2) : ∃ a b, cs = [a, b] := by
  match cs, h with
  | [a, b], _ => exact ⟨a, b, rfl⟩
section
open Go.ChangeShapes Go.WideShapes Go.ChangeAt Go.RowKit
variable {H : Type} {enc : TypeId × Value → H} {P : Program} {w : World} {base : Nat} {held : Bool}
theorem strs_of {t e : TypeId} {fuel : Nat} {v : Value} {x : DataW H × List MemPlace} (ht : P.underlying t = some (.slice e)) (he : P.underlying e = some .string) (hc : P.cellsOf e = 1)
    (h : DataW.trod enc P w base (fun _ => true) held fuel t [v] = some x) : ∃ a l c z, v = .slice a l c ∧ IsStrs w a l c z := by
  rcases open_strings ht he hc h with ⟨hcs, _⟩ | ⟨x, l, c, zs, hcs, _, hl, hm, hz, _, hcell, hwz⟩
  · simp at hcs
    exact ⟨_, _, _, [], hcs, .inl ⟨rfl, rfl, rfl, rfl⟩⟩
  · simp at hcs
    exact ⟨_, _, _, zs, hcs, .inr ⟨_, rfl, hl, hm, by simpa using hz, hcell, hwz⟩⟩
def IsRy (w : World) (v : Value) : Prop := ∃ (k : Int) (a : Option Addr) (l c : Nat) (z : List ByteArray) (s : ByteArray) (n : Int), v = .agg #[.int .i64 k, .slice a l c, .string s, .int .i64 n] ∧ IsStrs w a l c z
theorem open_ry {r : Reach} {b0 : Nat} {t te tv ts ti : TypeId} {f0 f1 f2 f3 : Field} {v : Value} {d : DataW H} {ps : List MemPlace} (ht : P.underlying t = some (.struct #[f0, f1, f2, f3])) (h0 : f0.type = te ∧ f0.offset = 0) (h1 : f1.type = tv ∧ f1.offset = 1) (h2 : f2.type = ts ∧ f2.offset = 2) (h3 : f3.type = ti ∧ f3.offset = 3)
    (hte : P.underlying te = some (.int .i64)) (hv : P.underlying tv = some (.slice ts)) (hts : P.underlying ts = some .string) (hti : P.underlying ti = some (.int .i64))
    (c0 : P.cellsOf te = 1) (c1 : P.cellsOf tv = 1) (c2 : P.cellsOf ts = 1) (c3 : P.cellsOf ti = 1) (c4 : P.cellsOf t = 4)
    (hval : Value.okWide P w r b0 t v) (hd : DataW.Trod enc P w base (fun _ => true) held t v d ps) : IsRy w v := by
  obtain ⟨cs, rfl, _⟩ := okWide_struct ht hval
  obtain ⟨fuel, hf⟩ := hd
  obtain ⟨xs, n, _, _, hl, hlen, hx⟩ := DataW.trod_struct ht hf
  obtain ⟨cs⟩ := cs
  simp only [Value.cells] at hl hx
  rw [c4] at hl
  obtain ⟨v0, v1, v2, v3, rfl⟩ := four hl
  have g0 := hx 0 f0 rfl
  have g1 := hx 1 f1 rfl
  have g2 := hx 2 f2 rfl
  have g3 := hx 3 f3 rfl
  rw [h0.1, h0.2, c0] at g0
  rw [h1.1, h1.2, c1] at g1
  rw [h2.1, h2.2, c2] at g2
  rw [h3.1, h3.2, c3] at g3
  match xs, hlen with
  | [x0, x1, x2, x3], _ =>
    obtain ⟨k, e0, _, w0⟩ := DataW.trod_int hte g0
    obtain ⟨a, l, c, z, rfl, w1⟩ := strs_of hv hts c2 g1
    obtain ⟨s, e2, _, w2⟩ := DataW.trod_string hts g2
    obtain ⟨m, e3, _, w3⟩ := DataW.trod_int hti g3
    simp at e0 e2 e3
    subst e0 e2 e3
    exact ⟨k, a, l, c, z, s, m, rfl, w1⟩
end
theorem strs_len {w : World} {a : Option Addr} {len cap : Nat} {z : List ByteArray} (h : IsStrs w a len cap z) : len ≤ maxLen := by
  rcases h with ⟨_, rfl, _⟩ | ⟨_, _, h1, h2, _⟩
  · exact Nat.zero_le _
  · omega
theorem rep_ry {w : World} {v : Value} (h : IsRy w v) : ∃ x : Ry, x.boxes.length ≤ 9223372036854775807 ∧ rep w (own (fun _ => False) [] []) [] (ryA x) v := by
  obtain ⟨k, a, l, c, z, s, n, rfl, w1⟩ := h
  have hl := strs_len w1
  obtain ⟨o, ho, hr⟩ := rep_strs (O := own (fun _ => False) [] []) (m := []) no_own w1
  refine ⟨⟨k, o, s.data.toList, n⟩, by (try dsimp only); unfold maxLen at hl; omega, ?_⟩
  simp only [ryA, slW]
  rw [rep]
  refine ⟨_, rfl, ?_⟩
  simp only [reps]
  exact ⟨_, _, rfl, rep_i64 _, _, _, rfl, (by rw [ho] at hr ⊢; exact hr), _, _, rfl, rep_str _, _, _, rfl, rep_i64 _, rfl⟩
end Go.Proofs.YtgfcmbinpmpmgaaGreatDoor
end

section
namespace Go.Proofs.YtgfcmbinpmpmgaaGreatDoor
open Go Go.Eng
theorem byte_e {e : Int} (h0 : 0 ≤ e) (h1 : e ≤ 255) : (((bigL (BitVec.ofInt 64 e) 1).getD 0 0).toNat : Int) = e := by
  rw [big1, sw8, List.getD_cons_zero]
  have : (UInt8.ofBitVec (BitVec.ofInt 8 e)).toNat = (BitVec.ofInt 8 e).toNat := rfl
  rw [this, BitVec.toNat_ofInt]
  simp only [Nat.reducePow]
  omega
theorem mod_n {n : Int} (h0 : 0 ≤ n) (h1 : n ≤ 1073741824) : IntKind.i64.wrap ((zaX (bigL (BitVec.ofInt 64 n) 4) % 8589934592#64).toNat : Int) = n := by
  have e := zf1 h0 (by omega)
  rw [BitVec.toNat_umod, rd_big4 (by omega), e]
  simp only [BitVec.toNat_ofNat, Nat.reducePow, Nat.reduceMod]
  rw [Nat.mod_eq_of_lt (by omega), zfi (by omega) (by omega)]
  omega
theorem refY_rep {r : Ry} (h : mayY r = true) : refY (bigL (BitVec.ofInt 64 128) 1 :: repT r) = r := by
  obtain ⟨h1, h2, h3, h4, h5, h6, h7⟩ := zfZ h
  obtain ⟨e, l, hd, n⟩ := r
  dsimp only at h1 h2 h4 h5
  simp only [refY, repT, List.cons_append, List.nil_append, List.getD_cons_succ, List.getD_cons_zero, List.drop_succ_cons, List.drop_zero]
  rw [byte_e h1 h2, mod_n h4 h5]
theorem rgetY_eq (b : List UInt8) : zhF b = getY b := by
  by_cases h : (getY b).2 = 0
  · have h1 := getY_back h
    generalize getY b = G at h h1 ⊢
    obtain ⟨r, e⟩ := G
    dsimp only at h h1
    subst h
    obtain ⟨m, hb⟩ := putY_0 (r := r) (by rw [h1])
    rw [h1] at hb
    dsimp only at hb
    have hs : zav b = (bigL (BitVec.ofInt 64 128) 1 :: repT r, 0) := by rw [hb, zfW, zdk]
    rw [zhF, hs]
    dsimp only
    rw [refY_rep m, h1, if_neg (by decide), if_neg (by simp [repT]; omega), if_neg (by simp [repT, zbr]), if_neg (by simp), if_neg (by simp)]
  · rw [getY_bad h, zhF]
    split
    · rfl
    split
    · rfl
    split
    · rfl
    split
    · rfl
    split
    · rfl
    rename_i e1 e2
    have e1 := Decidable.not_not.1 e1
    have e2 := Decidable.not_not.1 e2
    have := getY_put (r := refY (zav b).1) e1
    rw [e2] at this
    exact absurd (by rw [this]) h
theorem getY_le (b : List UInt8) : (getY b).1.boxes.length ≤ 800 := by
  by_cases h : (getY b).2 = 0
  · have h1 := getY_back h
    obtain ⟨m, _⟩ := putY_0 (r := (getY b).1) (by rw [h1])
    exact (zfZ m).2.2.2.2.2.1
  · rw [getY_bad h]
    simp [ry0]
set_option maxHeartbeats 4000000 in
theorem lawWReplies (r s : Ry) (b : List UInt8) (jr : r.boxes.length ≤ 9223372036854775807) (js : s.boxes.length ≤ 9223372036854775807) : ACalls Tryz.prog 4 [ryA r, ryA s, str b] [] (fun y _ => y = .ret (bl true)) := by
  have he : ∀ σ : zae, endQ 0 (bl true) σ (fun r _ => AEnd.ret r = .ret (bl true)) := fun σ => zat rfl
  have hfr := fewY_ok r jr
  have hfs := fewY_ok s js
  have hpr := zg5 r
  have rpr := rputY_ok r
  have or' := ofY_ok r
  have os' := ofY_ok s
  have sm := zg7 r s
  have rsm := rsameY_ok r s
  have hgl := getY_le b
  have hg := getY_ok b
  have rg := rgetY_ok b
  rw [rgetY_eq] at rg
  have og := ofY_ok (getY b).1
  have rgs := rsameY_ok (getY b).1 (getY b).1 (by omega)
  rw [decide_eq_true rfl] at rgs
  generalize getY b = G at hgl hg rg og rgs
  obtain ⟨⟨ge, gx, gh, gn⟩, g2⟩ := G
  generalize hD : decide (r = s) = D at sm rsm
  obtain ⟨e, x, hd, n⟩ := r
  obtain ⟨e', x', hd', n'⟩ := s
  generalize putY ⟨e, x, hd, n⟩ = P at hpr rpr
  obtain ⟨pa, pe⟩ := P
  dsimp only at hpr rpr sm rsm hgl hg rg og rgs
  simp only [ryA, zcQ] at hfr hfs hpr rpr or' os' sm rsm hg rg og rgs ⊢
  refine ACalls.body T_ok Tryz.func4 (by kernel_rfl) rfl Tryz.ntmps4 (congrArg Array.toList Tryz.results4) ?_
  try simp -implicitDefEqProofs only [LM1, LB25, eq_self, zaa (h := T44), zac, zad, zab, zaf, zal T105, TB, SB, Int.reduceToNat, Nat.reduceAdd, Nat.reduceEqDiff, Nat.reduceLT, Nat.reduceMod, Nat.reducePow, Nat.reduceSub, if_true, reduceIte]
  refine works19_ok.pure rfl ?_
  rintro _ σ rfl
  refine ⟨zaz _ _, ?_⟩
  try simp -implicitDefEqProofs only [LM1, LB25, eq_self, zaa (h := T44), zac, zad, zab, zaf, zal T105, TB, SB, Int.reduceToNat, Nat.reduceAdd, Nat.reduceEqDiff, Nat.reduceLT, Nat.reduceMod, Nat.reducePow, Nat.reduceSub, if_true, reduceIte]
  refine hfr.pure aQ18 ?_
  rintro _ σ ⟨b1, rfl, hb1⟩
  refine ⟨zaz _ _, ?_⟩
  cases b1 with
  | false =>
    try simp -implicitDefEqProofs only [LM1, LB25, eq_self, zaa (h := T44), zac, zad, zab, zaf, zal T105, TB, SB, Int.reduceToNat, Nat.reduceAdd, Nat.reduceEqDiff, Nat.reduceLT, Nat.reduceMod, Nat.reducePow, Nat.reduceSub, if_true, reduceIte]
    exact he _
  | true =>
    obtain ⟨hx30, hx200, hh80⟩ := hb1 rfl
    dsimp only at hx30 hx200 hh80
    try simp -implicitDefEqProofs only [LM1, LB25, eq_self, zaa (h := T44), zac, zad, zab, zaf, zal T105, TB, SB, Int.reduceToNat, Nat.reduceAdd, Nat.reduceEqDiff, Nat.reduceLT, Nat.reduceMod, Nat.reducePow, Nat.reduceSub, if_true, reduceIte]
    refine hfs.pure aQ18 ?_
    rintro _ σ ⟨b2, rfl, hb2⟩
    refine ⟨zaz _ _, ?_⟩
    cases b2 with
    | false =>
      try simp -implicitDefEqProofs only [LM1, LB25, eq_self, zaa (h := T44), zac, zad, zab, zaf, zal T105, TB, SB, Int.reduceToNat, Nat.reduceAdd, Nat.reduceEqDiff, Nat.reduceLT, Nat.reduceMod, Nat.reducePow, Nat.reduceSub, if_true, reduceIte]
      exact he _
    | true =>
      obtain ⟨hy30, hy200, hk80⟩ := hb2 rfl
      dsimp only at hy30 hy200 hk80
      try simp -implicitDefEqProofs only [LM1, LB25, eq_self, zaa (h := T44), zac, zad, zab, zaf, zal T105, TB, SB, Int.reduceToNat, Nat.reduceAdd, Nat.reduceEqDiff, Nat.reduceLT, Nat.reduceMod, Nat.reducePow, Nat.reduceSub, if_true, reduceIte]
      refine ⟨fun h4 => he _, fun h4 => ?_⟩
      refine hpr.pure aQ18 ?_
      rintro _ σ rfl
      refine ⟨zdl _ _ _, ?_⟩
      try simp -implicitDefEqProofs only [LM1, LB25, eq_self, zaa (h := T44), zac, zad, zab, zaf, zal T105, TB, SB, Int.reduceToNat, Nat.reduceAdd, Nat.reduceEqDiff, Nat.reduceLT, Nat.reduceMod, Nat.reducePow, Nat.reduceSub, if_true, reduceIte]
      refine or'.pure aQ18 ?_
      rintro _ σ rfl
      refine ⟨by simp [AEnd.noid, AV.ren, renL, zai str zah, zak, zah], ?_⟩
      try simp -implicitDefEqProofs only [LM1, LB25, eq_self, zaa (h := T44), zac, zad, zab, zaf, zal T105, TB, SB, Int.reduceToNat, Nat.reduceAdd, Nat.reduceEqDiff, Nat.reduceLT, Nat.reduceMod, Nat.reducePow, Nat.reduceSub, if_true, reduceIte]
      refine rpr.pure aQ18 ?_
      rintro _ σ rfl
      refine ⟨zdl _ _ _, ?_⟩
      try simp -implicitDefEqProofs only [LM1, LB25, eq_self, zaa (h := T44), zac, zad, zab, zaf, zal T105, TB, SB, Int.reduceToNat, Nat.reduceAdd, Nat.reduceEqDiff, Nat.reduceLT, Nat.reduceMod, Nat.reducePow, Nat.reduceSub, if_true, reduceIte]
      refine (hg (by omega)).pure (by simp [renL, zah]) ?_
      rintro _ σ rfl
      refine ⟨by simp [AEnd.noid, AV.ren, renL, zai str zah, zak, zah], ?_⟩
      try simp -implicitDefEqProofs only [LM1, LB25, eq_self, zaa (h := T44), zac, zad, zab, zaf, zal T105, TB, SB, Int.reduceToNat, Nat.reduceAdd, Nat.reduceEqDiff, Nat.reduceLT, Nat.reduceMod, Nat.reducePow, Nat.reduceSub, if_true, reduceIte]
      refine (rg (by omega)).pure (by simp [renL, zah]) ?_
      rintro _ σ rfl
      refine ⟨by simp [AEnd.noid, AV.ren, renL, zai str zah, zak, zah], ?_⟩
      try simp -implicitDefEqProofs only [LM1, LB25, eq_self, zaa (h := T44), zac, zad, zab, zaf, zal T105, TB, SB, Int.reduceToNat, Nat.reduceAdd, Nat.reduceEqDiff, Nat.reduceLT, Nat.reduceMod, Nat.reducePow, Nat.reduceSub, if_true, reduceIte]
      refine zdo (by kernel_rfl) (by kernel_rfl) ?_
      try simp -implicitDefEqProofs only [LM1, LB25, eq_self, zaa (h := T44), zac, zad, zab, zaf, zal T105, TB, SB, Int.reduceToNat, Nat.reduceAdd, Nat.reduceEqDiff, Nat.reduceLT, Nat.reduceMod, Nat.reducePow, Nat.reduceSub, if_true, reduceIte]
      refine zbB og aQ18 aQ19 ?_
      try simp -implicitDefEqProofs only [LM1, LB25, eq_self, zaa (h := T44), zac, zad, zab, zaf, zal T105, TB, SB, Int.reduceToNat, Nat.reduceAdd, Nat.reduceEqDiff, Nat.reduceLT, Nat.reduceMod, Nat.reducePow, Nat.reduceSub, if_true, reduceIte]
      refine zbB rgs aQ18 (zaz _ _) ?_
      try simp -implicitDefEqProofs only [LM1, LB25, eq_self, zaa (h := T44), zac, zad, zab, zaf, zal T105, TB, SB, Int.reduceToNat, Nat.reduceAdd, Nat.reduceEqDiff, Nat.reduceLT, Nat.reduceMod, Nat.reducePow, Nat.reduceSub, if_true, reduceIte]
      refine zdo (by kernel_rfl) (by kernel_rfl) ?_
      try simp -implicitDefEqProofs only [LM1, LB25, eq_self, zaa (h := T44), zac, zad, zab, zaf, zal T105, TB, SB, Int.reduceToNat, Nat.reduceAdd, Nat.reduceEqDiff, Nat.reduceLT, Nat.reduceMod, Nat.reducePow, Nat.reduceSub, if_true, reduceIte]
      refine zbB or' aQ18 aQ19 ?_
      try simp -implicitDefEqProofs only [LM1, LB25, eq_self, zaa (h := T44), zac, zad, zab, zaf, zal T105, TB, SB, Int.reduceToNat, Nat.reduceAdd, Nat.reduceEqDiff, Nat.reduceLT, Nat.reduceMod, Nat.reducePow, Nat.reduceSub, if_true, reduceIte]
      refine zbB os' aQ18 aQ19 ?_
      try simp -implicitDefEqProofs only [LM1, LB25, eq_self, zaa (h := T44), zac, zad, zab, zaf, zal T105, TB, SB, Int.reduceToNat, Nat.reduceAdd, Nat.reduceEqDiff, Nat.reduceLT, Nat.reduceMod, Nat.reducePow, Nat.reduceSub, if_true, reduceIte]
      refine zbB (rsm (by omega)) aQ18 (zaz _ _) ?_
      try simp -implicitDefEqProofs only [LM1, LB25, eq_self, zaa (h := T44), zac, zad, zab, zaf, zal T105, TB, SB, Int.reduceToNat, Nat.reduceAdd, Nat.reduceEqDiff, Nat.reduceLT, Nat.reduceMod, Nat.reducePow, Nat.reduceSub, if_true, reduceIte]
      refine (sm (by omega)).pure aQ18 ?_
      rintro _ σ rfl
      refine ⟨zaz _ _, ?_⟩
      try simp -implicitDefEqProofs only [LM1, LB25, eq_self, zaa (h := T44), zac, zad, zab, zaf, zal T105, TB, SB, Int.reduceToNat, Nat.reduceAdd, Nat.reduceEqDiff, Nat.reduceLT, Nat.reduceMod, Nat.reducePow, Nat.reduceSub, if_true, reduceIte]
      refine zat ?_
      simp
end Go.Proofs.YtgfcmbinpmpmgaaGreatDoor
end

section
namespace Go.Eng
open Go
theorem Glob.of_vars2 [Globs] {w : World} (h : ∀ g cs, Globs.tab g = some cs → ∃ (P : Program) (n : String), P.globalNamed n = some g ∧ w.var? P n = some cs.toArray) (hi : ∀ g, g ∈ Globs.ints → ∃ n : Int, w.cell? ⟨g, 0, none⟩ = some (.int .i64 n)) : Glob w (Go.Eng.own (fun _ => False) [] []) := by
  have no : ∀ g, ¬ Go.Eng.own (fun _ => False) [] [] g := by
    rintro g (hb | ⟨i, cs, hi, _⟩)
    · exact hb
    · simp at hi
  refine ⟨fun g cs hg => ?_, fun g hg => ?_⟩
  · obtain ⟨P, n, h1, h2⟩ := h g cs hg
    refine ⟨no g, ?_, fun j v hv => ?_⟩
    · have h3 := h2
      simp only [World.var?, h1, Option.bind_some] at h3
      split at h3
      · rename_i e
        rcases Nat.lt_or_ge g w.heap.size with hlt | hge
        · exact hlt
        · rw [Array.getElem?_eq_none hge] at e; cases e
      · cases h3
    · rw [World.var?_cell h1 h2 j, List.getElem?_toArray, hv]
  · obtain ⟨n, hn⟩ := hi g hg
    refine ⟨no g, ?_, n, hn⟩
    rcases Nat.lt_or_ge g w.heap.size with hlt | hge
    · exact hlt
    · simp [World.cell?, Array.getElem?_eq_none hge] at hn
theorem wrap_and_shaped {H : Type} {enc : TypeId × Value → H} {a : Assume} {C : Checked} {os : Os} {f : FuncId} {fn : Func} {s : ChangeSpec} {conds : List PathCond} {zhp fresh handsOn again : Bool} {X : World → Array Value → Prop}
    (hX : ∀ (w w' : World) (args : Array Value), w.heap = w'.heap → X w args → X w' args)
    (h1 : ownKnob C.prog.godebug = none) (h2 : os.Started) (h3 : C.prog.inits.idxOf? f = none) (hfn : C.prog.funcs[f]? = some fn)
    (h4 : ∃ (w : World) (tape : Tape) (i : Input), w.os = os ∧ (w.forCall tape i).Shaped C.prog ∧ i.vars = [] ∧ Input.okWide C.prog (w.forCall tape i) .any w.heap.size f i ∧
      ((s.pre enc C.prog fn conds zhp (w.forCall tape i).memory i.args ∧ X (w.forCall tape i).memory i.args) ∧ sizedMet enc C.prog fn (OpenSpec.ofChange s) zhp (w.forCall tape i).memory i.args) ∧ a.holds C.prog (lone (Frame.enter C.prog f i.args .normal) [] (w.forCall tape i)))
    (h5 : ∀ (W : World) (base : Nat) (args : Array Value) (ds gs : List (DataW H)) (before : List MemPlace),
      (∀ (j : Nat) t v, fn.params[j]? = some t → args[j]? = some v → Value.okWide C.prog W .any base t v) →
      DataW.Whole enc C.prog fn.params.toList s.vars zhp W args.toList ds gs before →
      conds.all (PathCond.test C.prog ⟨fn.params.toList, ds, s.plain.varTypes C.prog, gs⟩) = true →
      (DataW.weightsEach C.prog (fn.params.toList ++ s.plain.varTypes C.prog) (ds ++ gs)).all (· ≤ reachBytes) = true → X W args → W.ShapedOpen C.prog →
      a.holds C.prog (lone (Frame.enter C.prog f args .normal) [] W) →
      Calls C.prog f args W fun e W' => ∃ v, e = .returned v ∧ s.post enc C.prog fn zhp fresh handsOn again W args v W') :
    ReturnsInHanded a C os f .any (fun w args => (s.pre enc C.prog fn conds zhp w args ∧ X w args) ∧ sizedMet enc C.prog fn (OpenSpec.ofChange s) zhp w args) (s.post enc C.prog fn zhp fresh handsOn again) := by
  refine returnsInHanded_of_calls h1 h2 h3 h4 ?_
  intro w tape i _ hsh _ hok hpre hh
  have hval : ∀ (j : Nat) t v, fn.params[j]? = some t → i.args[j]? = some v → Value.okWide C.prog (w.forCall tape i) .any w.heap.size t v := by
    obtain ⟨_, _, _, fn', hfn', _, _, _, _, hv⟩ := hok
    cases Option.some.inj (hfn'.symm.trans hfn)
    exact hv
  obtain ⟨⟨⟨ds, gs, bf, hw, hc⟩, hx⟩, hz⟩ := hpre
  have key := h5 (w.forCall tape i) w.heap.size i.args ds gs bf hval (DataW.Whole.of_heap (w' := w.forCall tape i) (by rfl) hw) hc (hz.weights hw) (hX _ _ _ (by rfl) hx) hsh hh
  refine key.mono ?_
  rintro e W' ⟨v, rfl, hp⟩
  exact ChangeSpec.post_blind hp
end Go.Eng
namespace Go.Proofs.YtgfcmbinpmpmgaaGreatDoor
open Go Go.Eng
def zhG : List (String × DataW Unit) := Rows.wireRepliesRow.laid
theorem ownK : ownKnob Tryz.prog.godebug = none := by kernel_rfl
theorem laidOut : laidOutB Tryz.prog = true := by kernel_rfl
theorem glob_of_laid {w : World} (h : laidMetH Tryz.prog zhG w) (hsh : w.ShapedOpen Tryz.prog) : Glob w (Go.Eng.own (fun _ => False) [] []) := by
  refine Glob.of_vars2 (fun g cs hg => nomatch (show none = some cs from hg)) (fun g hg => ?_)
  have hg' : g = 0 := by
    have : g ∈ [0] := hg
    simpa using this
  subst hg'
  exact Go.Proofs.cell_of_shapedOpen_int (zero := #[.int .i64 0]) (t := 3) hsh (of_decide_eq_true (by kernel_rfl)) (by kernel_rfl) rfl (by kernel_rfl) (by kernel_rfl) Tryz.underlying3
theorem laid_met (os : Os) (args : Array Value) : laidMetH Tryz.prog zhG ((World.laidAll Tryz.prog os zhG).forCall (fun _ _ => 0) ⟨#[], args, []⟩).memory := by
  rw [MakeChecks.laidMetH_plain _ _ _ (by kernel_rfl)]
  exact laidMet_laidAll _ (by kernel_rfl) (by kernel_rfl)
end Go.Proofs.YtgfcmbinpmpmgaaGreatDoor
end

