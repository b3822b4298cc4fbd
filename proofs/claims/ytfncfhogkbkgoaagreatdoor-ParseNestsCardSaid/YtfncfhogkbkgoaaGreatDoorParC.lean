/-
  Numbers, keys, words, bounds. No condition.
-/
import Derived.Test.YtfncfhogkbkgoaaGreatDoorParB
import Derived.Test.YtfncfhogkbkgoaaGreatDoorLib
set_option linter.unusedSimpArgs false
set_option linter.unusedVariables false
set_option linter.unusedSectionVars false
section
namespace Go.Eng
open Go
theorem aQ2 {a b : zac} {c : Nat} {d : zac} (p : List Nat) (e : zad a b p p c d := by simp [LB3, LB9, LB11, zaf, zad, renL, AV.ren, AEnd.ren, List.getElem?_cons_zero, List.getElem?_cons_succ]) : zad a b p p c d := e
theorem aQ3 {a b : zac} {c : Nat} {d : zac} (p : List Nat) (e : zad a b p p c d := by simp [LM1, zaf, zad, renL, AV.ren, AEnd.ren, List.getElem?_cons_zero, List.getElem?_cons_succ]) : zad a b p p c d := e
theorem aQ6 {a b : AEnd} (p : List Nat) (e : AEnd.ren p a b := by first | rfl | simp [LB3, LB9, LB11, zaf, zad, renL, AV.ren, AEnd.ren, List.getElem?_cons_zero, List.getElem?_cons_succ]) : AEnd.ren p a b := e
theorem aQ7 {a b : AEnd} (p : List Nat) (e : AEnd.ren p a b := by first | rfl | simp [LM1, zaf, zad, renL, AV.ren, AEnd.ren, List.getElem?_cons_zero, List.getElem?_cons_succ]) : AEnd.ren p a b := e
theorem aQ30 {P Q : Prop} (h : Q) (e : P = Q := by first|(simp -implicitDefEqProofs only [LM9, eq_self, zae, TB, SB, Int.reduceToNat, Nat.reduceAdd, Nat.reduceEqDiff, Nat.reduceLT, Nat.reduceMod, Nat.reducePow, Nat.reduceSub, if_true, reduceIte];first|done|exact rfl)|exact rfl) : P := e ▸ h
theorem aQ31 {P Q : Prop} (h : Q) (e : P = Q := by first|(simp -implicitDefEqProofs only [LM9, eq_self, zae, zap, TB, SB, Int.reduceToNat, Nat.reduceAdd, Nat.reduceEqDiff, Nat.reduceLT, Nat.reduceMod, Nat.reducePow, Nat.reduceSub, if_true, reduceIte];first|done|exact rfl)|exact rfl) : P := e ▸ h
end Go.Eng
end

section
namespace Go.Proofs.YtfncfhogkbkgoaaGreatDoor
open Go Go.Eng
set_option linter.defProp false in
def LB10 := And.intro @len_rC (And.intro @zhQ (And.intro @zhR (And.intro @fr_0 (And.intro @fr_1 (And.intro @fr_2 (And.intro @ld_r0' (And.intro @ld_r1' (And.intro @ld_r2' (And.intro @bd_flt (@zf7))))))))))
set_option linter.defProp false in
def LM9 := And.intro LM2 (LB10)
theorem digV_ge : ∀ (ds : List UInt8) (n : Nat), n ≤ digV n ds
  | [], _ => Nat.le_refl _
  | c :: r, n => by
    have := digV_ge r (10 * n + (c.toNat - 48))
    show n ≤ digV (10 * n + (c.toNat - 48)) r
    omega
theorem isDg_iff {c : UInt8} : isDg c = true ↔ 48 ≤ c.toNat ∧ c.toNat ≤ 57 := by simp [isDg]
theorem uintM (ds : List UInt8) : ∀ (acc : Nat), acc < 18446744073709551616 → (∀ c ∈ ds, isDg c = true) → Lib.parseUintM 18446744073709551615 acc ds = if digV acc ds < 18446744073709551616 then .ok (digV acc ds) else .range := by
  induction ds with
  | nil =>
    intro acc h _
    show Lib.NumEnd.ok acc = if acc < 18446744073709551616 then Lib.NumEnd.ok acc else .range
    rw [if_pos h]
  | cons c r ih =>
    intro acc h hd
    have hc := isDg_iff.1 (hd c (by simp))
    have hg := digV_ge r (10 * acc + (c.toNat - 48))
    have e1 : digV acc (c :: r) = digV (10 * acc + (c.toNat - 48)) r := rfl
    rw [e1, Lib.parseUintM, if_pos hc]
    by_cases h1 : 1844674407370955162 ≤ acc
    · rw [if_pos h1, if_neg (by omega)]
    · rw [if_neg h1]
      by_cases h2 : 18446744073709551615 < acc * 10 + (c.toNat - 48)
      · rw [if_pos h2, if_neg (by omega)]
      · rw [if_neg h2, ih _ (by omega) (fun x hx => hd x (by simp [hx])), show acc * 10 + (c.toNat - 48) = 10 * acc + (c.toNat - 48) by omega]
theorem runL_all (p : UInt8 → Bool) : ∀ (l : List UInt8) (k : Nat), k ≤ runL p l → ∀ c ∈ l.take k, p c = true
  | [], k, _, c, hc => by simp at hc
  | a :: l, 0, _, c, hc => by simp at hc
  | a :: l, k + 1, h, c, hc => by
    rw [runL] at h
    split at h
    · rename_i ha
      rw [List.take_succ_cons, List.mem_cons] at hc
      rcases hc with rfl | hc
      · exact ha
      · exact runL_all p l k (by omega) c hc
    · omega
theorem digW_all (l : List UInt8) : ∀ c ∈ l.take (digW l), isDg c = true := by
  unfold digW
  split
  · rename_i h
    cases l with
    | nil => cases h
    | cons a l =>
      intro c hc
      simp only [List.take_succ_cons, List.take_zero, List.mem_singleton] at hc
      rw [List.head?_cons] at h
      rw [hc, Option.some.inj h]
      rfl
  · exact runL_all isDg l _ (Nat.le_refl _)
theorem uintB {ds : List UInt8} (h0 : ds ≠ []) (hd : ∀ c ∈ ds, isDg c = true) : Lib.parseUintB 64 ds = if digV 0 ds < 18446744073709551616 then .ok (digV 0 ds) else .range := by
  rw [Lib.parseUintB, if_neg h0]
  exact uintM ds 0 (by decide) hd
def numT (l : List UInt8) : List UInt8 := l.take ((if zbD l then 1 else 0) + digW (l.drop (if zbD l then 1 else 0)))
theorem numPL_lib (l : List UInt8) (hd : digW (l.drop (if zbD l then 1 else 0)) ≠ 0) : Lib.parseIntB 64 (numT l) = match zch l with | some x => .ok x.1 | none => .range := by
  rw [numT, zch, if_neg hd]
  cases hn : zbD l with
  | true =>
    rw [hn, if_pos rfl] at hd
    rw [if_pos rfl]
    obtain ⟨a, r, rfl⟩ : ∃ a r, l = a :: r := by
      cases l with
      | nil => cases hn
      | cons a r => exact ⟨a, r, rfl⟩
    have ha : a = 45 := by simpa [zbD] using hn
    subst ha
    rw [List.drop_succ_cons, List.drop_zero] at hd ⊢
    have hne : r.take (digW r) ≠ [] := by
      have h1 := zeR r
      intro h
      have := congrArg List.length h
      rw [List.length_take, List.length_nil] at this
      omega
    rw [show 1 + digW r = digW r + 1 by omega, List.take_succ_cons, Lib.parseIntB]
    rw [if_pos (by decide), uintB hne (digW_all r)]
    by_cases h1 : digV 0 (r.take (digW r)) ≤ 9223372036854775808
    · rw [if_pos (by omega)]
      dsimp only
      rw [if_neg (by simp), if_neg (by simp; omega), if_pos (by decide), if_pos rfl, if_pos h1]
    · rw [if_pos rfl, if_neg h1]
      by_cases h2 : digV 0 (r.take (digW r)) < 18446744073709551616
      · rw [if_pos h2]
        dsimp only
        rw [if_neg (by simp), if_pos (by simp; omega)]
      · rw [if_neg h2]
  | false =>
    rw [hn, if_neg (by decide), List.drop_zero] at hd
    rw [if_neg (by decide), List.drop_zero, Nat.zero_add, if_neg (by decide)]
    have h1 := zeR l
    have hall := digW_all l
    obtain ⟨k, hk⟩ : ∃ k, digW l = k + 1 := ⟨digW l - 1, by omega⟩
    rw [hk] at h1 hall ⊢
    obtain ⟨a, r, rfl⟩ : ∃ a r, l = a :: r := by
      cases l with
      | nil => simp at h1
      | cons a r => exact ⟨a, r, rfl⟩
    rw [List.take_succ_cons] at hall ⊢
    have ha := isDg_iff.1 (hall a (by simp))
    rw [Lib.parseIntB]
    rw [if_neg (by omega), uintB (by simp) hall]
    by_cases h2 : digV 0 (a :: r.take k) < 9223372036854775808
    · rw [if_pos (by omega)]
      dsimp only
      rw [if_neg (by simp; omega), if_neg (by omega), if_neg (by omega), if_pos h2]
    · rw [if_neg h2]
      by_cases h3 : digV 0 (a :: r.take k) < 18446744073709551616
      · rw [if_pos h3]
        dsimp only
        rw [if_pos (by simp; omega)]
      · rw [if_neg h3]
theorem two_args {vs : Array Value} {a b c : Value} (h : vs.toList = [a, b, c]) : vs = #[a, b, c] := Array.ext' (by simpa using h)
theorem zgG (t : List UInt8) (v : Int) (hl : t.length ≤ 1000000000) (h : Lib.parseIntB 64 t = .ok v) : ACalls Tryz.prog 26 [str t, i64 10, i64 64] [] (fun x _ => x = .ret (.tup [i64 v, .lit .nilIface])) :=
  acalls_below (by kernel_rfl) fun w O m vs hr => by
    simp only [reps, str, rep, i64] at hr
    obtain ⟨_, _, e1, rfl, _, _, rfl, rfl, _, _, rfl, rfl, rfl⟩ := hr
    obtain rfl := two_args e1
    refine (Tryz.strconv_ParseInt_10_at64_ok ⟨t.toArray⟩ (by simp [ByteArray.size]; omega) v (by simpa using h) w).mono ?_
    rintro e w' ⟨rfl, hw⟩
    refine ⟨⟨_, rfl, fun w' O m => ?_⟩, ?_⟩
    · simp only [rep]
      exact ⟨_, rfl, by simp [reps, rep, i64]⟩
    · rcases hw with rfl | ⟨t', rfl⟩
      · exact ⟨rfl, rfl, rfl, Nat.le_refl _, fun _ _ => rfl⟩
      · exact Lib.bytesWorld_below _ _ _
theorem zeA (t : List UInt8) (hl : t.length ≤ 1000000000) (h : Lib.parseIntB 64 t = .range) : ACalls Tryz.prog 26 [str t, i64 10, i64 64] [] (fun x _ => x = .ret (.tup [i64 (Lib.intSat 64 t), .ifc 95 .bot])) :=
  acalls_belowE 2 (by simp [Globs.errs]) (by kernel_rfl) fun w O m vs ty x hx hr => by
    simp only [reps, str, rep, i64] at hr
    obtain ⟨_, _, e1, rfl, _, _, rfl, rfl, _, _, rfl, rfl, rfl⟩ := hr
    obtain rfl := two_args e1
    refine (Tryz.strconv_ParseInt_10_at64_range ⟨t.toArray⟩ (by simp [ByteArray.size]; omega) (by simpa using h) (.iface ty x) w hx (.inr ⟨_, _, rfl⟩)).mono ?_
    rintro e w' ⟨N, rfl, _, _, hb⟩
    refine ⟨⟨_, rfl, fun w' O m => ?_⟩, hb⟩
    simp only [rep, reps, i64]
    exact ⟨_, rfl, _, _, rfl, rfl, _, _, rfl, ⟨_, rfl, trivial⟩, rfl⟩
def zhT (s : List UInt8) (at' : Int) : Option (Int × Nat) := if 0 ≤ at' then zch (s.drop at'.toNat) else none
def numA (at' : Int) : Option (Int × Nat) → AV
  | some x => .tup [i64 x.1, i64 (at' + x.2), bl true]
  | none => .tup [i64 0, i64 at', bl false]
theorem numA_ren (at' : Int) (x : Option (Int × Nat)) (q : List Nat) : (numA at' x).ren q = some (numA at' x) := by
  cases x <;> simp [numA, AV.ren, renL, zam, zaL]
theorem zc6 {at' : Int} {x : Option (Int × Nat)} {a b c : AV} {σ : zac} {K : AV → zac → Prop} (h0 : AV.tup [a, b, c] = numA at' x) (h : K (numA at' x) []) : endQ 0 (.tup [a, b, c]) σ K := by
  rw [h0]
  exact zax (numA_ren _ _ _) h
theorem zgH (s : List UInt8) (at' : Int) (hs : s.length ≤ 1000000000) : ACalls Tryz.prog 11 [str s, i64 at'] [] (fun y _ => y = .ret (numA at' (zhT s at'))) := by
  refine ACalls.body T_ok Tryz.func11 (by kernel_rfl) rfl Tryz.ntmps11 (congrArg Array.toList Tryz.results11) ?_
  by_cases hn : at' < 0
  · try simp -implicitDefEqProofs only [LM9, eq_self, zae, decide_eq_true hn, TB, SB, Int.reduceToNat, Nat.reduceAdd, Nat.reduceEqDiff, Nat.reduceLT, Nat.reduceMod, Nat.reducePow, Nat.reduceSub, if_true, reduceIte]
    refine zc6 (at' := at') (x := zhT s at') ?_ rfl
    rw [zhT, if_neg (by omega)]
    rfl
  obtain ⟨p, rfl⟩ : ∃ p : Nat, at' = p := ⟨at'.toNat, by omega⟩
  have hqa : zhT s (p : Int) = zch (s.drop p) := by rw [zhT, if_pos (by omega)]; rfl
  rw [hqa]
  rcases Nat.lt_or_ge p s.length with hp | hp
  rotate_left
  · try simp -implicitDefEqProofs only [LM9, eq_self, zae, decide_eq_false hn, decide_eq_true (show (s.length : Int) ≤ p by omega), TB, SB, Int.reduceToNat, Nat.reduceAdd, Nat.reduceEqDiff, Nat.reduceLT, Nat.reduceMod, Nat.reducePow, Nat.reduceSub, if_true, reduceIte]
    refine zc6 (at' := p) (x := zch (s.drop p)) ?_ rfl
    rw [List.drop_eq_nil_of_le hp]
    rfl
  have hneg : zbD (s.drop p) = decide (s.getD p 0 = UInt8.ofNat 45) := by
    rw [zbD, zdn hp]
    exact decide_eq_decide.2 ⟨fun e => Option.some.inj e, fun e => congrArg some e⟩
  have hdd : ∀ b, (s.drop p).drop b = s.drop (p + b) := fun b => by rw [List.drop_drop]
  obtain ⟨b, hb⟩ : ∃ b, b = if zbD (s.drop p) then 1 else 0 := ⟨_, rfl⟩
  have hb1 : p + b ≤ s.length := by rw [hb]; split <;> omega
  have hd := digits_ok s (p + b) hb1 hs
  have hdw := zeR (s.drop (p + b))
  rw [List.length_drop] at hdw
  obtain ⟨d, hde⟩ : ∃ d, d = digW (s.drop (p + b)) := ⟨_, rfl⟩
  rw [← hde] at hd hdw
  have e0 : d = 0 → zch (s.drop p) = none := fun h => by
    rw [zch, if_pos (by rw [← hb, hdd, ← hde, h])]
  have hT : numT (s.drop p) = (s.drop p).take (b + d) := by rw [numT, ← hb, hdd, ← hde]
  have hlib : d ≠ 0 → Lib.parseIntB 64 ((s.drop p).take (b + d)) = match zch (s.drop p) with | some x => .ok x.1 | none => .range := fun h => by
    rw [← hT]
    exact numPL_lib _ (by rw [← hb, hdd, ← hde]; exact h)
  have hend : ∀ x, zch (s.drop p) = some x → x.2 = b + d := fun x hx => by
    rw [zch] at hx
    rw [← hb, hdd, ← hde] at hx
    split at hx
    · cases hx
    · split at hx
      · split at hx
        · cases hx; rfl
        · cases hx
      · split at hx
        · cases hx; rfl
        · cases hx
  have sl : ((s.take (p + (b + d))).drop p) = (s.drop p).take (b + d) := by rw [List.drop_take, show p + (b + d) - p = b + d by omega]
  have hlen : ((s.drop p).take (b + d)).length ≤ 1000000000 := by rw [List.length_take, List.length_drop]; omega
  cases hng : zbD (s.drop p) with
  | true =>
    rw [hng] at hneg hb
    rw [if_pos rfl] at hb
    subst hb
    try simp -implicitDefEqProofs only [LM9, eq_self, zae, decide_eq_false hn, decide_eq_false (show ¬ (s.length : Int) ≤ p by omega), hneg.symm, TB, SB, Int.reduceToNat, Nat.reduceAdd, Nat.reduceEqDiff, Nat.reduceLT, Nat.reduceMod, Nat.reducePow, Nat.reduceSub, if_true, reduceIte]
    refine ⟨by omega, by omega, by unfold inI; omega, ?_⟩
    rw [show (p : Int) + 1 = ((p + 1 : Nat) : Int) by omega]
    refine (hd).pure aQ10 ?_
    rintro _ σ rfl
    refine ⟨by first | rfl | simp [AEnd.noid, AV.ren, renL, zaE, zay str zao, zaS, zaI, zaJ, zam, zaL, zao], ?_⟩
    refine aQ30 ?_
    refine ⟨fun h0 => ?_, fun h0 => ⟨by omega, by omega, by omega, ?_⟩⟩
    · refine zc6 (at' := p) (x := none) rfl ?_
      rw [e0 (by omega)]
    · have hd0 : d ≠ 0 := by omega
      have sl' : ((s.take (p + 1 + d)).drop p) = (s.drop p).take (1 + d) := by rw [← sl, show p + (1 + d) = p + 1 + d by omega]
      rw [sl']
      have hr := hlib hd0
      cases hx : zch (s.drop p) with
      | none =>
        rw [hx] at hr
        refine (zeA _ hlen hr).pure aQ10 ?_
        rintro _ σ rfl
        refine ⟨by first | rfl | simp [AEnd.noid, AV.ren, renL, zaE, zay str zao, zaS, zaI, zaJ, zam, zaL, zao], ?_⟩
        refine aQ30 ?_
        refine zc6 (at' := p) (x := none) rfl ?_
        rfl
      | some x =>
        have he := hend x hx
        rw [hx] at hr
        refine (zgG _ x.1 hlen hr).pure aQ10 ?_
        rintro _ σ rfl
        refine ⟨by first | rfl | simp [AEnd.noid, AV.ren, renL, zaE, zay str zao, zaS, zaI, zaJ, zam, zaL, zao], ?_⟩
        refine aQ30 ?_
        refine zc6 (at' := p) (x := some x) ?_ rfl
        simp only [numA]
        rw [he, show ((p : Int) + ((1 + d : Nat) : Int)) = ((p + 1 + d : Nat) : Int) by omega]
  | false =>
    rw [hng] at hneg hb
    rw [if_neg (by decide)] at hb
    subst hb
    try simp -implicitDefEqProofs only [LM9, eq_self, zae, decide_eq_false hn, decide_eq_false (show ¬ (s.length : Int) ≤ p by omega), hneg.symm, TB, SB, Int.reduceToNat, Nat.reduceAdd, Nat.reduceEqDiff, Nat.reduceLT, Nat.reduceMod, Nat.reducePow, Nat.reduceSub, if_true, reduceIte]
    refine ⟨by omega, by omega, ?_⟩
    refine (hd).pure aQ10 ?_
    rintro _ σ rfl
    refine ⟨by first | rfl | simp [AEnd.noid, AV.ren, renL, zaE, zay str zao, zaS, zaI, zaJ, zam, zaL, zao], ?_⟩
    refine aQ30 ?_
    refine ⟨fun h0 => ?_, fun h0 => ⟨by omega, by omega, by omega, ?_⟩⟩
    · refine zc6 (at' := p) (x := none) rfl ?_
      rw [e0 (by omega)]
    · have hd0 : d ≠ 0 := by omega
      have sl' : ((s.take (p + d)).drop p) = (s.drop p).take (0 + d) := by rw [← sl, show p + (0 + d) = p + d by omega]
      rw [sl']
      have hr := hlib hd0
      cases hx : zch (s.drop p) with
      | none =>
        rw [hx] at hr
        refine (zeA _ hlen hr).pure aQ10 ?_
        rintro _ σ rfl
        refine ⟨by first | rfl | simp [AEnd.noid, AV.ren, renL, zaE, zay str zao, zaS, zaI, zaJ, zam, zaL, zao], ?_⟩
        refine aQ30 ?_
        refine zc6 (at' := p) (x := none) rfl ?_
        rfl
      | some x =>
        have he := hend x hx
        rw [hx] at hr
        refine (zgG _ x.1 hlen hr).pure aQ10 ?_
        rintro _ σ rfl
        refine ⟨by first | rfl | simp [AEnd.noid, AV.ren, renL, zaE, zay str zao, zaS, zaI, zaJ, zam, zaL, zao], ?_⟩
        refine aQ30 ?_
        refine zc6 (at' := p) (x := some x) ?_ rfl
        simp only [numA]
        rw [he, show ((p : Int) + ((0 + d : Nat) : Int)) = ((p + d : Nat) : Int) by omega]
end Go.Proofs.YtfncfhogkbkgoaaGreatDoor
end

section
namespace Go.Proofs.YtfncfhogkbkgoaaGreatDoor
open Go Go.Eng
set_option linter.defProp false in
def LB11 := And.intro @zbg (@za0)
def mpS (ks : List (List UInt8)) (zs : List Int) : Blk := .mpb (ks.map keyV) (zs.map i64)
theorem zfO (ks : List (List UInt8)) (zs : List Int) (q : List Nat) : (mpS ks zs).ren q = some (mpS ks zs) := by
  simp only [mpS, bren_mpb, zea, Option.map_some]
def mS (s : List UInt8) (p tw : Int) (ks : List (List UInt8)) (zs : List Int) : zac := [.rw (rC s p tw), mpS ks zs]
def keyK' (s : List UInt8) (p : Nat) (tw : Int) (ks : List (List UInt8)) (zs : List Int) : AEnd → zac → Prop := fun y σ => match quoL (s.drop p) with
  | some x => y = .ret (str x.1) ∧ σ = mS s ((p + x.2 : Nat) : Int) (if x.1 ∈ ks ∧ tw < 0 then (p : Int) else tw) (zhS ks x.1) (zfc ks zs x.1 p)
  | none => y = .pan (flt p 2) ∧ σ = [.dead, .dead]
theorem pkey_ok (s : List UInt8) (p : Nat) (tw : Int) (ks : List (List UInt8)) (zs : List Int) (hz : zs.length = ks.length) (hs : s.length ≤ 1000000000) : ACalls Tryz.prog 97 [.ptr 0 0, .mpt 1] (mS s p tw ks zs) (keyK' s p tw ks zs) := by
  have h := ptext_ok s p tw hs
  unfold textK at h
  unfold rS at h
  unfold mS
  refine ACalls.body T_ok Tryz.func97 (by kernel_rfl) rfl Tryz.ntmps97 (congrArg Array.toList Tryz.results97) ?_
  refine aQ30 ?_
  cases hq : quoL (s.drop p) with
  | none =>
    rw [hq] at h
    refine ACalls.frame ([0]) (h) rfl (by decide) (by simp [LB3, LB9, LB11, zaf, zad, renL, AV.ren, AEnd.ren, List.getElem?_cons_zero, List.getElem?_cons_succ]) (by first | rfl | simp [LB3, LB9, LB11, zaf, zad, renL, AV.ren, AEnd.ren, List.getElem?_cons_zero, List.getElem?_cons_succ]) ?_
    rintro _ _ ⟨rfl, rfl⟩
    refine ⟨.pan (flt p 2), [.dead, mpS ks zs], (aQ2 ([0, 1])), (aQ6 ([0, 1])), ?_⟩
    refine aQ30 ?_
    refine zbl (za0 _ _ _) ?_
    unfold keyK'
    rw [hq]
    exact ⟨rfl, rfl⟩
  | some x =>
    rw [hq] at h
    refine ACalls.frame ([0]) (h) rfl (by decide) (by simp [LB3, LB9, LB11, zaf, zad, renL, AV.ren, AEnd.ren, List.getElem?_cons_zero, List.getElem?_cons_succ]) (by first | rfl | simp [LB3, LB9, LB11, zaf, zad, renL, AV.ren, AEnd.ren, List.getElem?_cons_zero, List.getElem?_cons_succ]) ?_
    rintro _ _ ⟨rfl, rfl⟩
    refine ⟨.ret (str x.1), [.rw (rC s ((p + x.2 : Nat) : Int) tw), mpS ks zs], (aQ2 ([0, 1])), (aQ6 ([0, 1])), ?_⟩
    refine aQ30 ?_
    have fin : ∀ (tw' : Int) (ks' : List (List UInt8)) (zs' : List Int), tw' = (if x.1 ∈ ks ∧ tw < 0 then (p : Int) else tw) → ks' = zhS ks x.1 → zs' = zfc ks zs x.1 p → endQ 2 (str x.1) [.rw (rC s ((p + x.2 : Nat) : Int) tw'), .mpb (ks'.map keyV) (zs'.map i64)] (fun r σ => keyK' s p tw ks zs (.ret r) σ) := by
      rintro _ _ _ rfl rfl rfl
      refine zas ?_
      unfold keyK'
      rw [hq]
      exact ⟨rfl, rfl⟩
    refine zfI true T66 T9 (l := ks) (vs := zs.map i64) rfl (by simp; omega) zhP (fun r hmem hr => ?_) (fun hnm => ?_)
    · have kU : zhS ks x.1 = ks := if_pos hmem
      have vU : zfc ks zs x.1 p = zs.set (ks.idxOf x.1) p := if_pos hmem
      by_cases ht : tw < 0
      · try simp -implicitDefEqProofs only [LM9, eq_self, zae, decide_eq_true ht, TB, SB, Int.reduceToNat, Nat.reduceAdd, Nat.reduceEqDiff, Nat.reduceLT, Nat.reduceMod, Nat.reducePow, Nat.reduceSub, if_true, reduceIte]
        refine zeM (l := ks) (vs := zs.map i64) T66 T9 rfl (fun _ => ?_) (fun h => absurd hmem h)
        rw [← List.map_set] 
        refine aQ30 ?_
        exact fin _ ks (zs.set (ks.idxOf x.1) p) (by rw [if_pos ⟨hmem, ht⟩]) kU.symm vU.symm
      · try simp -implicitDefEqProofs only [LM9, eq_self, zae, decide_eq_false ht, TB, SB, Int.reduceToNat, Nat.reduceAdd, Nat.reduceEqDiff, Nat.reduceLT, Nat.reduceMod, Nat.reducePow, Nat.reduceSub, if_true, reduceIte]
        refine zeM (l := ks) (vs := zs.map i64) T66 T9 rfl (fun _ => ?_) (fun h => absurd hmem h)
        rw [← List.map_set] 
        refine aQ30 ?_
        exact fin _ ks (zs.set (ks.idxOf x.1) p) (by rw [if_neg (fun h => ht h.2)]) kU.symm vU.symm
    · have kU : zhS ks x.1 = ks ++ [x.1] := if_neg hnm
      have vU : zfc ks zs x.1 p = zs ++ [(p : Int)] := if_neg hnm
      refine aQ30 ?_
      refine zeM (l := ks) (vs := zs.map i64) T66 T9 rfl (fun h => absurd h hnm) (fun _ => ?_)
      rw [show zs.map i64 ++ [i64 (p : Int)] = (zs ++ [(p : Int)]).map i64 by simp]
      refine aQ30 ?_
      exact fin _ (ks ++ [x.1]) (zs ++ [(p : Int)]) (by rw [if_neg (fun h => hnm h.1)]) kU.symm vU.symm
end Go.Proofs.YtfncfhogkbkgoaaGreatDoor
end

section
namespace Go.Proofs.YtfncfhogkbkgoaaGreatDoor
open Go Go.Eng
def outV (s : List UInt8) (p : Nat) (x : Except Nat ((List Nd × Int) × Nat)) : AEnd → zac → Prop := fun y σ => match x with
  | .ok x => y = .ret (slN x.1.1) ∧ σ = rS s ((p + x.2 : Nat) : Int) x.1.2
  | .error k => y = .pan (flt ((p + k : Nat) : Int) 2) ∧ σ = [.dead]
theorem zaa (q : List Nat) (l : List Nd) : (slN l).ren q = some (slN l) := ren_slN q l _
theorem zbE {s : List UInt8} {p k : Nat} {x : Except Nat ((List Nd × Int) × Nat)} {σ : zac} (h : x = .error k) : endQ 1 (flt ((p + k : Nat) : Int) 2) σ (fun r σ => outV s p x (.pan r) σ) := by
  refine zbl (za0 _ _ _) ?_
  subst h
  exact ⟨rfl, rfl⟩
theorem zap {K : AV → Prop} (k : Int) (j : Int) : zbp T 48 [(0, i64 k), (1, i64 j)] K = K (nA ⟨k, j, [], 0⟩) := by
  simp [zbp, T48, tyNd, T3, T2, T46, T9, zb8, zaF, zcH, zbV, za7, zbd, za4, nA, nC]
  try rfl
theorem ndF : RowF nC 4 := ⟨fun _ => rfl, fun _ => all_n, fun q n => by simp [nC, renL, zam, zao]⟩
theorem zgI {s : List UInt8} {p tw : Int} {l : List Nd} {j n : Nat} {rest : zac} {K : AV → zac → Prop} (hj : rest[j]? = some (.rw (l.flatMap nC))) (hn : n = l.length) (h : K (slN l) (rS s p tw)) : endQ 1 (.ref (j + 1) 0 n 4) (.rw (rC s p tw) :: rest) K := by
  have hjl := (List.getElem?_eq_some_iff.1 hj).1
  have e1 : zdU (.rw (rC s p tw) :: rest) [j + 1] = .rw (rC s p tw) :: rest.set j (.ro (l.flatMap nC)) := by
    simp only [zdU, List.getElem?_cons_succ, hj, List.set_cons_succ]
  refine zhH [j + 1] (slN l) ?_ ?_
  · rw [e1]
    exact ndF.frz (by rw [List.getElem?_cons_succ, List.getElem?_set_self hjl]) hn
  · rw [e1]
    refine ⟨[0], slN l, rS s p tw, rfl, rfl, by decide, zaa _ _, ⟨.inr ⟨_, ?_, rfl⟩, trivial⟩, h⟩
    rw [zaH, zbg]
    rfl
theorem number_ok (s : List UInt8) (p : Nat) (tw : Int) (hp : p ≤ s.length) (hs : s.length ≤ 1000000000) : ACalls Tryz.prog 76 [.ptr 0 0] (rS s p tw) (outV s p (zfM tw (s.drop p))) := by
  have h := zgH s p hs
  have hna : zhT s p = zch (s.drop p) := by rw [zhT, if_pos (by omega)]; rfl
  rw [hna] at h
  have hw := wrong_ok s p tw hp hs
  have hf := zfN s p tw ((p + zed (s.drop p) : Nat) : Int)
  unfold rS at hw hf ⊢
  refine ACalls.body T_ok Tryz.func76 (by kernel_rfl) rfl Tryz.ntmps76 (congrArg Array.toList Tryz.results76) ?_
  refine aQ31 ?_
  refine zdk (by kernel_rfl) (by kernel_rfl) ?_
  refine aQ31 ?_
  cases hx : zch (s.drop p) with
  | none =>
    rw [hx] at h
    simp only [numA] at h
    refine zd9 (h) aQ10 aQ13 ?_
    refine aQ31 ?_
    refine ACalls.frame ([0]) (hw) rfl (by decide) (by simp [LB3, LB9, LB11, zaf, zad, renL, AV.ren, AEnd.ren, List.getElem?_cons_zero, List.getElem?_cons_succ]) (by first | rfl | simp [LB3, LB9, LB11, zaf, zad, renL, AV.ren, AEnd.ren, List.getElem?_cons_zero, List.getElem?_cons_succ]) ?_
    rintro _ _ ⟨rfl, rfl⟩
    refine ⟨.ret (i64 ((p + zed (s.drop p) : Nat) : Int)), [.rw (rC s p tw)], (aQ2 ([0])), (aQ6 ([0])), ?_⟩
    refine aQ31 ?_
    refine ACalls.frame ([0]) (hf) rfl (by decide) (by simp [LB3, LB9, LB11, zaf, zad, renL, AV.ren, AEnd.ren, List.getElem?_cons_zero, List.getElem?_cons_succ]) (by first | rfl | simp [LB3, LB9, LB11, zaf, zad, renL, AV.ren, AEnd.ren, List.getElem?_cons_zero, List.getElem?_cons_succ]) ?_
    rintro _ _ ⟨rfl, rfl⟩
    refine ⟨.pan (flt ((p + zed (s.drop p) : Nat) : Int) 2), [.dead], (aQ2 ([0])), (aQ6 ([0])), ?_⟩
    refine aQ31 ?_
    refine zbE ?_
    rw [zfM, hx]
  | some x =>
    rw [hx] at h
    simp only [numA] at h
    refine zd9 (h) aQ10 aQ13 ?_
    refine aQ31 ?_
    rw [show (p : Int) + (x.2 : Int) = ((p + x.2 : Nat) : Int) by omega]
    refine zgI (j := 0) (l := [⟨2, x.1, [], 0⟩]) rfl rfl ?_
    rw [zfM, hx]
    exact ⟨rfl, rfl⟩
theorem wordW_at : ∀ (w l : List UInt8) (i : Nat), i ≤ zcl w l → i < w.length → ((l.drop i).head? = some (w.getD i 0) ↔ i + 1 ≤ zcl w l)
  | [], _, i, _, h => by simp at h
  | a :: w, [], i, h, _ => by
    simp only [zcl] at h ⊢
    simp
  | a :: w, b :: l, 0, _, _ => by
    rw [List.drop_zero, List.head?_cons, zcl]
    by_cases hb : b = a
    · simp [hb]
    · simp [hb]
  | a :: w, b :: l, i + 1, h, hw => by
    have hb : b = a := by
      rw [zcl] at h
      split at h
      · assumption
      · omega
    rw [zcl, if_pos hb] at h ⊢
    rw [List.drop_succ_cons]
    have := wordW_at w l i (by omega) (by simpa using hw)
    rw [show (a :: w).getD (i + 1) 0 = w.getD i 0 by simp [List.getD_eq_getElem?_getD]]
    exact this.trans ⟨fun h => by omega, fun h => by omega⟩
theorem zhU : ∀ (w l : List UInt8), zcl w l ≤ w.length ∧ zcl w l ≤ l.length
  | [], l => ⟨Nat.le_refl _, Nat.zero_le _⟩
  | _ :: _, [] => ⟨Nat.zero_le _, Nat.le_refl _⟩
  | a :: w, b :: l => by
    have := zhU w l
    simp only [zcl, List.length_cons]
    split <;> omega
def wordsL : List (List UInt8 × Nd) := [(wNull, ⟨0, 0, [], 0⟩), (ziq, ⟨1, 0, [], 0⟩), (wTrue, ⟨1, 1, [], 0⟩)]
def wKS : List Value := (wordsL.map (·.1)).map keyV
def wVS : List AV := wordsL.map fun x => nA x.2
theorem wVS_ren (q : List Nat) : renL q wVS = some wVS := by
  simp [wVS, wordsL, renL, ren_nA]
def zhV (sn : List Nat) : Nat := (if 0 ∈ sn then 0 else 1) + (if 1 ∈ sn then 0 else 1) + (if 2 ∈ sn then 0 else 1)
theorem untried_lt {sn : List Nat} {j : Nat} (hj : j < 3) (h : j ∉ sn) : zhV (sn ++ [j]) < zhV sn := by
  unfold zhV
  simp only [List.mem_append, List.mem_singleton]
  match j, hj, h with
  | 0, _, h => simp only [h, if_false, or_true, if_true]; simp
  | 1, _, h => simp only [h, if_false, or_true, if_true]; simp
  | 2, _, h => simp only [h, if_false, or_true, if_true]; simp
end Go.Proofs.YtfncfhogkbkgoaaGreatDoor
end

section
namespace Go.Proofs.YtfncfhogkbkgoaaGreatDoor
open Go Go.Eng
set_option linter.defProp false in
def LB12 := And.intro @zhK (And.intro @wVS_ren (@zfO))
set_option linter.defProp false in
def LM1 := And.intro LB3 (And.intro LB9 (And.intro LB11 (LB12)))
theorem word_ok (s : List UInt8) (p : Nat) (tw : Int) (hp : p ≤ s.length) (hs : s.length ≤ 1000000000) : ACalls Tryz.prog 77 [.ptr 0 0] (rS s p tw) (outV s p (zec tw (s.drop p))) := by
  have hf := zfN s p tw p
  unfold rS at hf ⊢
  refine ACalls.body T_ok Tryz.func77 (by kernel_rfl) rfl Tryz.ntmps77 (congrArg Array.toList Tryz.results77) ?_
  refine aQ31 ?_
  refine zeM (l := []) (vs := []) (s := wNull) T166 T9 rfl (fun h => by cases h) (fun _ => ?_)
  refine aQ31 ?_
  refine zeM (l := [wNull]) (vs := [nA ⟨0, 0, [], 0⟩]) (s := ziq) T166 T9 rfl (fun h => absurd h (by decide)) (fun _ => ?_)
  refine aQ31 ?_
  refine zeM (l := [wNull, ziq]) (vs := [nA ⟨0, 0, [], 0⟩, nA ⟨1, 0, [], 0⟩]) (s := wTrue) T166 T9 rfl (fun h => absurd h (by decide)) (fun _ => ?_)
  refine aQ31 ?_
  refine range_m (ks := wKS) (vs := wVS) T166 rfl ?_
  refine aQ31 ?_
  rw [zaX]
  refine ⟨List Nat, fun sn => ∀ j, j ∈ sn → isAt s p ((wordsL.getD j ([], n0d)).1.getD 0 0) = false, fun sn => [.ptr 0 0, .bot, .lit (.slice none 0 0), .bot, .bot, .bot, .bot, .bot, .bot, .bot, .bot, .bot, .bot, .ptr 2 0, .bot, .bot, .bot, .bot, .bot, .bot, .bot, .bot, .bot, .bot, .bot, .bot, .bot, .bot, .bot, .bot, .bot, .bot, .bot, .bot, .bot, .bot, .bot, .bot, .bot, .bot, .bot, .bot, .bot], fun sn => [.rw (rC s p tw), .dead, .mpi wKS wVS sn], fun sn => zhV sn, [], ?_, zaj (q := [0, 1, 2]) rfl rfl (by decide) ?_ ?_, ?_⟩
  · intro j hj
    cases hj
  · first|exact aQ20 trivial|refine aQ20 ?_
  · simp [zaf, zaH, zhK, wVS_ren, zbg]
  · intro sn hsn
    refine aQ31 ?_
    refine next_m (ks := wKS) (vs := wVS) rfl (fun hall => ?_) (fun j k v hj hk hv => ?_)
    · refine aQ31 ?_
      refine ACalls.frame ([0]) (hf) rfl (by decide) (by simp [LM1, zaf, zad, renL, AV.ren, AEnd.ren, List.getElem?_cons_zero, List.getElem?_cons_succ]) (by first | rfl | simp [LM1, zaf, zad, renL, AV.ren, AEnd.ren, List.getElem?_cons_zero, List.getElem?_cons_succ]) ?_
      rintro _ _ ⟨rfl, rfl⟩
      refine ⟨.pan (flt p 2), [.dead, .dead, .mpi wKS wVS sn], (aQ3 ([0, 1, 1])), (aQ7 ([0, 1, 1])), ?_⟩
      refine aQ31 ?_
      refine zbE (k := 0) ?_
      have n0 := hsn 0 (hall 0 (by decide))
      have n1 := hsn 1 (hall 1 (by decide))
      have n2 := hsn 2 (hall 2 (by decide))
      rw [zec, if_neg (show ¬ (s.drop p).head? = some 110 from of_decide_eq_false n0), if_neg (show ¬ (s.drop p).head? = some 102 from of_decide_eq_false n1), if_neg (show ¬ (s.drop p).head? = some 116 from of_decide_eq_false n2)]
    · have hj3 : j < 3 := (List.getElem?_eq_some_iff.1 hk).1
      obtain ⟨x, hx⟩ : ∃ x, wordsL[j]? = some x := ⟨_, List.getElem?_eq_getElem hj3⟩
      have hk' : k = keyV x.1 := by
        rw [wKS, List.map_map, List.getElem?_map, hx] at hk
        exact (Option.some.inj hk).symm
      have hv' : v = nA x.2 := by
        rw [wVS, List.getElem?_map, hx] at hv
        exact (Option.some.inj hv).symm
      subst hk' hv'
      rw [ofVal_key]
      refine aQ31 ?_
      refine entry_m (ks := wKS) (vs := wVS) (sn' := sn) rfl rfl hk hv ?_
      rw [ofVal_key]
      have hx4 : 4 ≤ x.1.length ∧ x.1.length ≤ 5 := by
        match j, hj3, hx with
        | 0, _, hx => cases hx; decide
        | 1, _, hx => cases hx; decide
        | 2, _, hx => cases hx; decide
      have hwx : isAt s p (x.1.getD 0 0) = true → zec tw (s.drop p) = zdW x.1 x.2 tw (s.drop p) := fun h => by
        have h := of_decide_eq_true h
        match j, hj3, hx with
        | 0, _, hx =>
          cases hx
          rw [zec, h]
          rfl
        | 1, _, hx =>
          cases hx
          rw [zec, h]
          rfl
        | 2, _, hx =>
          cases hx
          rw [zec, h]
          rfl
      have hget : wordsL.getD j ([], n0d) = x := by rw [List.getD_eq_getElem?_getD, hx]; rfl
      refine aQ31 ?_
      refine ⟨by omega, by omega, ?_⟩
      have his := is_ok s p tw (x.1.getD 0 0) hp
      unfold rS at his
      cases hb : isAt s p (x.1.getD 0 0) with
      | false =>
        rw [hb] at his
        refine ACalls.frame ([0]) (his) rfl (by decide) (by simp [LM1, zaf, zad, renL, AV.ren, AEnd.ren, List.getElem?_cons_zero, List.getElem?_cons_succ]) (by first | rfl | simp [LM1, zaf, zad, renL, AV.ren, AEnd.ren, List.getElem?_cons_zero, List.getElem?_cons_succ]) ?_
        rintro _ _ ⟨rfl, rfl⟩
        refine ⟨.ret (bl false), [.rw (rC s p tw), .dead, .mpi wKS wVS (sn ++ [j]), .rw (nC x.2)], (aQ3 ([0, 1, 1, 1])), (aQ7 ([0, 1, 1, 1])), ?_⟩
        refine aQ31 ?_
        rw [zal]
        refine ⟨sn ++ [j], fun i hi => ?_, untried_lt hj3 hj, zaj (q := [0, 1, 2]) rfl rfl (by decide) ?_ ?_⟩
        · rcases List.mem_append.1 hi with hi | hi
          · exact hsn i hi
          · simp only [List.mem_singleton] at hi
            subst hi
            rw [hget]
            exact hb
        · first|exact aQ20 trivial|refine aQ20 ?_
        · simp [zaf, zaH, zhK, wVS_ren, zbg]
      | true =>
        rw [hb] at his
        refine ACalls.frame ([0]) (his) rfl (by decide) (by simp [LM1, zaf, zad, renL, AV.ren, AEnd.ren, List.getElem?_cons_zero, List.getElem?_cons_succ]) (by first | rfl | simp [LM1, zaf, zad, renL, AV.ren, AEnd.ren, List.getElem?_cons_zero, List.getElem?_cons_succ]) ?_
        rintro _ _ ⟨rfl, rfl⟩
        refine ⟨.ret (bl true), [.rw (rC s p tw), .dead, .mpi wKS wVS (sn ++ [j]), .rw (nC x.2)], (aQ3 ([0, 1, 1, 1])), (aQ7 ([0, 1, 1, 1])), ?_⟩
        refine aQ31 ?_
        rw [zaX]
        have hww := zhU x.1 (s.drop p)
        rw [List.length_drop] at hww
        refine ⟨Nat, fun i => i ≤ x.1.length ∧ i ≤ zcl x.1 (s.drop p), fun i => [.ptr 0 0, .bot, .lit (.slice none 0 0), .bot, str x.1, .ptr 3 0, .bot, .bot, .bot, .bot, .bot, .bot, .bot, .bot, .bot, .bot, .bot, .bot, .bot, .bot, .bot, .bot, .bot, .bot, .bot, i64 x.1.length, i64 i, .bot, .bot, .bot, .bot, .bot, .bot, .bot, .bot, .bot, .bot, .bot, .bot, .bot, .bot, .bot, .bot], fun i => [.rw (rC s ((p + i : Nat) : Int) tw), .dead, .dead, .rw (nC x.2)], fun i => x.1.length - i, 0, ⟨Nat.zero_le _, Nat.zero_le _⟩, zaj (q := [0, 1, 2, 3]) rfl rfl (by decide) ?_ ?_, ?_⟩
        · refine aQ20 ?_
          exact .inr rfl
        · simp [zaf, zaH, zcx, zbg]
        · rintro i ⟨hi1, hi2⟩
          refine aQ31 ?_
          refine ⟨fun hlt => ?_, fun hge => ?_⟩
          · refine ⟨by omega, by omega, ?_⟩
            have hwt := zgF s (p + i) tw (x.1.getD i 0) (by omega) hs
            have hat := wordW_at x.1 (s.drop p) i hi2 (by omega)
            rw [List.drop_drop] at hat
            unfold zit at hwt
            unfold rS at hwt
            cases hb2 : isAt s (p + i) (x.1.getD i 0) with
            | true =>
              rw [hb2] at hwt
              refine ACalls.frame ([0]) (hwt) rfl (by decide) (by simp [LM1, zaf, zad, renL, AV.ren, AEnd.ren, List.getElem?_cons_zero, List.getElem?_cons_succ]) (by first | rfl | simp [LM1, zaf, zad, renL, AV.ren, AEnd.ren, List.getElem?_cons_zero, List.getElem?_cons_succ]) ?_
              rintro _ _ ⟨rfl, rfl⟩
              refine ⟨.ret (.tup []), [.rw (rC s ((p + i + 1 : Nat) : Int) tw), .dead, .dead, .rw (nC x.2)], (aQ3 ([0, 1, 1, 1])), (aQ7 ([0, 1, 1, 1])), ?_⟩
              refine aQ31 ?_
              have hi3 := hat.1 (of_decide_eq_true hb2)
              refine ⟨by unfold inI; omega, ?_⟩
              rw [zal]
              refine ⟨i + 1, ⟨by omega, hi3⟩, (by show x.1.length - (i + 1) < x.1.length - i; omega), zaj (q := [0, 1, 2, 3]) rfl rfl (by decide) ?_ ?_⟩
              · refine aQ20 ?_
                exact .inr (by omega)
              · simp [zaf, zaH, zcx, zbg, Nat.add_assoc]
            | false =>
              rw [hb2] at hwt
              refine ACalls.frame ([0]) (hwt) rfl (by decide) (by simp [LM1, zaf, zad, renL, AV.ren, AEnd.ren, List.getElem?_cons_zero, List.getElem?_cons_succ]) (by first | rfl | simp [LM1, zaf, zad, renL, AV.ren, AEnd.ren, List.getElem?_cons_zero, List.getElem?_cons_succ]) ?_
              rintro _ _ ⟨rfl, rfl⟩
              refine ⟨.pan (flt ((p + i : Nat) : Int) 2), [.dead, .dead, .dead, .rw (nC x.2)], (aQ3 ([0, 1, 1, 1])), (aQ7 ([0, 1, 1, 1])), ?_⟩
              refine aQ31 ?_
              refine zbE (k := i) ?_
              have hni : ¬ i + 1 ≤ zcl x.1 (s.drop p) := fun h => (of_decide_eq_false hb2) (hat.2 h)
              have hwi : zcl x.1 (s.drop p) = i := by omega
              rw [hwx hb, zdW, hwi, if_neg (by omega)]
          · have hil : i = x.1.length := by omega
            subst hil
            refine zgI (j := 3) (l := [x.2]) rfl rfl ?_
            rw [hwx hb, zdW, if_pos (by omega)]
            exact ⟨rfl, rfl⟩
end Go.Proofs.YtfncfhogkbkgoaaGreatDoor
end

section
namespace Go.Proofs.YtfncfhogkbkgoaaGreatDoor
open Go Go.Eng
theorem qbF_le : ∀ (n : Nat) (l : List UInt8) (x : List UInt8 × Nat), qbF n l = some x → x.2 ≤ l.length ∧ 1 ≤ x.2
  | 0, l, x, h => by cases h
  | n + 1, [], x, h => by cases h
  | n + 1, c :: r, x, h => by
    rw [qbF] at h
    simp only [List.length_cons]
    split at h
    · cases h
    · split at h
      · cases h; simp
      · split at h
        · split at h
          · cases h
          · rename_i b k he
            cases hq : qbF n (r.drop k) with
            | none => rw [hq] at h; cases h
            | some y =>
              rw [hq] at h
              cases h
              have := qbF_le n _ y hq
              rw [List.length_drop] at this
              simp only
              omega
        · cases hq : qbF n r with
          | none => rw [hq] at h; cases h
          | some y =>
            rw [hq] at h
            cases h
            have := qbF_le n _ y hq
            simp only
            omega
theorem zhW {l : List UInt8} {x : List UInt8 × Nat} (h : quoL l = some x) : x.2 ≤ l.length ∧ 2 ≤ x.2 := by
  rw [quoL] at h
  split at h
  · rename_i h0
    cases l with
    | nil => cases h0
    | cons a l =>
      rw [List.drop_succ_cons, List.drop_zero] at h
      cases hq : qbL l with
      | none => rw [hq] at h; cases h
      | some y =>
        rw [hq] at h
        cases h
        have := qbF_le _ _ y hq
        simp only [List.length_cons]
        omega
  · cases h
theorem numPL_le {l : List UInt8} {x : Int × Nat} (h : zch l = some x) : x.2 ≤ l.length ∧ 1 ≤ x.2 := by
  rw [zch] at h
  obtain ⟨b, hb⟩ : ∃ b, b = if zbD l then 1 else 0 := ⟨_, rfl⟩
  rw [← hb] at h
  have h1 := zeR (l.drop b)
  rw [List.length_drop] at h1
  by_cases h0 : digW (l.drop b) = 0
  · rw [if_pos h0] at h
    cases h
  rw [if_neg h0] at h
  by_cases h2 : zbD l = true
  · rw [if_pos h2] at h
    by_cases h3 : digV 0 ((l.drop b).take (digW (l.drop b))) ≤ 9223372036854775808
    · rw [if_pos h3] at h
      cases h
      simp only
      omega
    · rw [if_neg h3] at h
      cases h
  · rw [if_neg h2] at h
    by_cases h3 : digV 0 ((l.drop b).take (digW (l.drop b))) < 9223372036854775808
    · rw [if_pos h3] at h
      cases h
      simp only
      omega
    · rw [if_neg h3] at h
      cases h
theorem negBad_le {l : List UInt8} : zed l ≤ l.length := by
  rw [zed]
  split
  · rename_i h
    cases l with
    | nil => simp [zbD] at h
    | cons a l => simp
  · exact Nat.zero_le _
def GoodV (V : PV) : Prop := ∀ tw p l, match V tw p l with
  | .ok x => 1 ≤ x.2 ∧ x.2 ≤ l.length ∧ x.1.1.length ≤ x.2 ∧ 1 ≤ x.1.1.length
  | .error k => k ≤ l.length
def zf1 {γ : Type} (wt cnt : γ → Nat) (a : Nat) (l : List UInt8) (g : γ) (x : Except Nat (γ × Nat)) : Prop := match x with
  | .ok x => a ≤ x.2 ∧ 1 ≤ x.2 ∧ x.2 ≤ l.length ∧ wt x.1 ≤ wt g + x.2 ∧ cnt x.1 = cnt g + 1
  | .error k => k ≤ l.length
def zg0 {γ : Type} (wt cnt : γ → Nat) (a : Nat) (first : Bool) (l : List UInt8) (g : γ) (x : Except Nat (γ × Nat)) : Prop := match x with
  | .ok x => 1 ≤ x.2 ∧ x.2 ≤ l.length ∧ wt x.1 + 1 ≤ wt g + x.2 ∧ cnt g ≤ cnt x.1 ∧ (cnt x.1 - cnt g) * (a + 1) + (if first then 0 else 1) ≤ x.2
  | .error k => k ≤ l.length
theorem zdp {γ : Type} (wt cnt : γ → Nat) (a : Nat) (e : UInt8) (step : γ → Nat → List UInt8 → Except Nat (γ × Nat)) (hstep : ∀ g p l, zf1 wt cnt a l g (step g p l)) : ∀ (n : Nat) (first : Bool) (g : γ) (p : Nat) (l : List UInt8), zg0 wt cnt a first l g (za3 e step n first g p l)
  | 0, _, _, _, l => Nat.zero_le _
  | n + 1, first, g, p, l => by
    rw [za3]
    by_cases h1 : l.head? = some e
    · rw [if_pos h1]
      have : 1 ≤ l.length := by
        cases l with
        | nil => cases h1
        | cons a l => simp
      refine ⟨Nat.le_refl _, this, Nat.le_refl _, Nat.le_refl _, ?_⟩
      simp only [Nat.sub_self, Nat.zero_mul, Nat.zero_add]
      split <;> omega
    rw [if_neg h1]
    by_cases h2 : (!first && decide (l.head? ≠ some 44)) = true
    · rw [if_pos h2]
      exact Nat.zero_le _
    rw [if_neg h2]
    have hw : (if first then 0 else 1 + zan (l.drop 1)) ≤ l.length ∧ (first = false → 1 ≤ (if first then 0 else 1 + zan (l.drop 1))) := by
      cases first with
      | true => exact ⟨Nat.zero_le _, fun h => by cases h⟩
      | false =>
        have hl : 1 ≤ l.length := by
          cases l with
          | nil => simp at h2
          | cons a l => simp
        have := za1 (l.drop 1)
        rw [List.length_drop] at this
        simp only [Bool.false_eq_true, if_false]
        exact ⟨by omega, fun _ => by omega⟩
    generalize (if first then 0 else 1 + zan (l.drop 1)) = w at hw
    have hs := hstep g (p + w) (l.drop w)
    dsimp only
    cases hx : step g (p + w) (l.drop w) with
    | error k =>
      rw [hx] at hs
      simp only [zf1, List.length_drop] at hs
      show w + k ≤ l.length
      omega
    | ok x =>
      rw [hx] at hs
      obtain ⟨g', c⟩ := x
      simp only [zf1, List.length_drop] at hs
      dsimp only
      have hb := za1 (l.drop (w + c))
      rw [List.length_drop] at hb
      have ih := zdp wt cnt a e step hstep n false g' (p + (w + c + zan (l.drop (w + c)))) (l.drop (w + c + zan (l.drop (w + c))))
      generalize zan (l.drop (w + c)) = b at hb ih
      cases hy : za3 e step n false g' (p + (w + c + b)) (l.drop (w + c + b)) with
      | error k =>
        rw [hy] at ih
        simp only [zg0, List.length_drop] at ih
        show w + c + b + k ≤ l.length
        omega
      | ok y =>
        rw [hy] at ih
        obtain ⟨g'', k⟩ := y
        simp only [zg0, List.length_drop, Bool.false_eq_true, if_false] at ih
        simp only [zg0]
        obtain ⟨i1, i2, i3, i4, i5⟩ := ih
        obtain ⟨s1, s0, s2, s3, s4⟩ := hs
        refine ⟨by omega, by omega, by omega, by omega, ?_⟩
        have e1 : cnt g'' - cnt g = (cnt g'' - cnt g') + 1 := by omega
        rw [e1, Nat.succ_mul]
        cases first with
        | true => simp only [if_true]; omega
        | false =>
          have := hw.2 rfl
          simp only [Bool.false_eq_true, if_false]
          omega
theorem zfP {V : PV} (hV : GoodV V) (g : List (List Nd) × Int) (p : Nat) (l : List UInt8) : zf1 (fun g => g.1.flatten.length) (fun g => g.1.length) 1 l g (zbQ V g p l) := by
  have h := hV g.2 p l
  rw [zbQ]
  cases hx : V g.2 p l with
  | error k => rw [hx] at h; exact h
  | ok x =>
    rw [hx] at h
    obtain ⟨x, c⟩ := x
    simp only at h
    simp only [zf1]
    refine ⟨h.1, h.1, h.2.1, ?_, by simp⟩
    rw [List.flatten_append, List.length_append]
    simp only [List.flatten_cons, List.flatten_nil, List.append_nil]
    omega
def memW (ms : List Mem) : Nat := (ms.flatMap memR).length
theorem zdq {V : PV} (hV : GoodV V) (g : GO) (p : Nat) (l : List UInt8) : zf1 (fun g => memW g.1) (fun g => g.1.length) 4 l g (zbc V g p l) := by
  rw [zbc]
  cases hq : quoL l with
  | none => exact Nat.zero_le _
  | some x =>
    obtain ⟨key, c⟩ := x
    have hc := zhW hq
    dsimp only at hc ⊢
    have hb := za1 (l.drop c)
    rw [List.length_drop] at hb
    generalize hbe : c + zan (l.drop c) = b at hb
    by_cases h1 : (l.drop b).head? = some 58
    · rw [if_pos h1]
      have hbl : b < l.length := by
        rcases Nat.lt_or_ge b l.length with h | h
        · exact h
        · rw [zbM h] at h1; cases h1
      have hb2 := za1 (l.drop (b + 1))
      rw [List.length_drop] at hb2
      generalize hbe2 : b + 1 + zan (l.drop (b + 1)) = b2 at hb2
      have h := hV (twK g.1 g.2.1 p key) (p + b2) (l.drop b2)
      cases hx : V (twK g.1 g.2.1 p key) (p + b2) (l.drop b2) with
      | error k =>
        rw [hx] at h
        simp only [List.length_drop] at h
        simp only [zf1]
        omega
      | ok x =>
        rw [hx] at h
        obtain ⟨x, c2⟩ := x
        simp only [List.length_drop] at h
        simp only [zf1]
        refine ⟨by omega, by omega, by omega, ?_, by simp⟩
        simp only [memW, List.flatMap_append, List.length_append, List.flatMap_cons, List.flatMap_nil, List.append_nil, memR, List.length_cons]
        omega
    · rw [if_neg h1]
      show b ≤ l.length
      omega
theorem zgJ (m : Mem) : ∀ l : List Mem, (insM m l).Perm (m :: l)
  | [] => .refl _
  | x :: xs => by
    rw [insM]
    split
    · exact .refl _
    · exact ((zgJ m xs).cons x).trans (.swap m x xs)
theorem zhh : ∀ (l acc : List Mem), (l.foldl (fun acc m => insM m acc) acc).Perm (acc ++ l)
  | [], acc => by simp
  | m :: l, acc => by
    rw [List.foldl_cons]
    refine (zhh l _).trans ?_
    refine ((zgJ m acc).append_right l).trans ?_
    exact List.perm_middle.symm
theorem zfQ (l : List Mem) : (zaQ l).Perm l := zhh l []
theorem memW_sort (ms : List Mem) : memW (zaQ ms) = memW ms := ((zfQ ms).flatMap_right memR).length_eq
theorem inW_le {l : List UInt8} (h : l.length ≠ 0) : inW l ≤ l.length ∧ 1 ≤ inW l := by
  have hb := za1 (l.drop 1)
  rw [List.length_drop] at hb
  unfold inW
  omega
theorem zhX {w : List UInt8} {n : Nd} (hw : 1 ≤ w.length) {tw : Int} {l : List UInt8} : match zdW w n tw l with
    | .ok x => 1 ≤ x.2 ∧ x.2 ≤ l.length ∧ x.1.1.length ≤ x.2 ∧ 1 ≤ x.1.1.length
    | .error k => k ≤ l.length := by
  have := zhU w l
  rw [zdW]
  by_cases h : zcl w l = w.length
  · rw [if_pos h]
    simp only [List.length_singleton]
    omega
  · rw [if_neg h]
    exact this.2
theorem zbX : ∀ n, GoodV (pvF n)
  | 0 => fun _ _ _ => Nat.zero_le _
  | n + 1 => fun tw p l => by
    have ih := zbX n
    rw [pvF]
    by_cases h0 : l.length = 0
    · rw [if_pos h0]
      exact Nat.zero_le _
    rw [if_neg h0]
    have hw := inW_le h0
    by_cases h1 : l.headD 0 = 91
    · rw [if_pos h1, zeS]
      have h := zdp _ _ 1 93 _ (zfP ih) (l.length + 1) true ([], tw) (p + inW l) (l.drop (inW l))
      cases hx : za3 93 (zbQ (pvF n)) (l.length + 1) true ([], tw) (p + inW l) (l.drop (inW l)) with
      | error k =>
        rw [hx] at h
        simp only [zg0, List.length_drop] at h
        show inW l + k ≤ l.length
        omega
      | ok x =>
        rw [hx] at h
        simp only [zg0, List.length_drop, List.flatten_nil, List.length_nil] at h
        simp only [zaB, List.length_cons]
        omega
    rw [if_neg h1]
    by_cases h2 : l.headD 0 = 123
    · rw [if_pos h2, objV]
      have h := zdp _ _ 4 125 _ (zdq ih) (l.length + 1) true ([], tw, []) (p + inW l) (l.drop (inW l))
      cases hx : za3 125 (zbc (pvF n)) (l.length + 1) true ([], tw, []) (p + inW l) (l.drop (inW l)) with
      | error k =>
        rw [hx] at h
        simp only [zg0, List.length_drop] at h
        show inW l + k ≤ l.length
        omega
      | ok x =>
        rw [hx] at h
        have hm : memW ([] : List Mem) = 0 := rfl
        have hs := memW_sort x.1.1
        simp only [zg0, List.length_drop, List.length_nil, hm] at h
        simp only [memW] at hs h
        simp only [objR, List.length_cons]
        omega
    rw [if_neg h2]
    by_cases h3 : l.headD 0 = 34
    · rw [if_pos h3, zgZ]
      cases hq : quoL l with
      | none => exact Nat.zero_le _
      | some x =>
        have := zhW hq
        simp only [List.length_singleton]
        omega
    rw [if_neg h3]
    by_cases h4 : l.headD 0 = 45 ∨ isDg (l.headD 0) = true
    · rw [if_pos h4, zfM]
      cases hq : zch l with
      | none => exact negBad_le
      | some x =>
        have := numPL_le hq
        simp only [List.length_singleton]
        omega
    rw [if_neg h4, zec]
    by_cases h5 : l.head? = some 110
    · rw [if_pos h5]
      exact zhX (w := wNull) (by decide)
    rw [if_neg h5]
    by_cases h6 : l.head? = some 102
    · rw [if_pos h6]
      exact zhX (w := ziq) (by decide)
    rw [if_neg h6]
    by_cases h7 : l.head? = some 116
    · rw [if_pos h7]
      exact zhX (w := wTrue) (by decide)
    rw [if_neg h7]
    exact Nat.zero_le _
theorem members_le {n : Nat} {tw : Int} {p : Nat} {l : List UInt8} {x : GO × Nat} (h : za3 125 (zbc (pvF n)) (l.length + 1) true ([], tw, []) (p + inW l) (l.drop (inW l)) = .ok x) : x.1.1.length * 5 ≤ l.length := by
  have h1 := zdp _ _ 4 125 _ (zdq (zbX n)) (l.length + 1) true ([], tw, []) (p + inW l) (l.drop (inW l))
  rw [h] at h1
  simp only [zg0, List.length_drop, List.length_nil, if_true] at h1
  omega
end Go.Proofs.YtfncfhogkbkgoaaGreatDoor
end

