/-
  Texts, numbers as bytes, and how texts are split and joined. No condition.
-/
import Derived.Test.YtgfcmbinpmpmgaaGreatDoorWirA
set_option linter.unusedSimpArgs false
set_option linter.unusedVariables false
set_option linter.unusedSectionVars false
section
namespace Go.Eng
open Go
theorem aQ2 {a b : zae} {c : Nat} {d : zae} (p : List Nat) (e : zaR a b p p c d := by simp [LM3, zau, zaR, renL, AV.ren, AEnd.ren, zbo, fS, gS, cC, nilS, zbp, zaJ, zai i64 zaj, zaE, wI, wO, zay, List.getElem?_cons_zero, List.getElem?_cons_succ]) : zaR a b p p c d := e
theorem aQ5 {a b : AEnd} (p : List Nat) (e : AEnd.ren p a b := by first | rfl | simp [LM3, zau, zaR, renL, AV.ren, AEnd.ren, zbo, fS, gS, cC, nilS, zbp, zaJ, zai i64 zaj, zaE, wI, wO, zay, List.getElem?_cons_zero, List.getElem?_cons_succ]) : AEnd.ren p a b := e
theorem aQ11 {P : Prop} (e : P := by simp only [List.length_drop]; omega) : P := e
theorem aQ33 {P Q : Prop} (h : Q) (e : P = Q := by first|(simp -implicitDefEqProofs only [LM8, zib T151, zaf T105, eq_self, zbX, TB, SB, Int.reduceToNat, Nat.reduceAdd, Nat.reduceEqDiff, Nat.reduceLT, Nat.reduceMod, Nat.reducePow, Nat.reduceSub, if_true, reduceIte];first|done|exact rfl)|exact rfl) : P := e ▸ h
theorem aQ34 {P Q : Prop} (h : Q) (e : P = Q := by first|(simp only [LB19, List.getElem?_cons_zero, true_and, and_true, or_true, true_or, reduceCtorEq, false_or];first|done|exact rfl)|exact rfl) : P := e ▸ h
theorem aQ35 {P Q : Prop} (h : Q) (e : P = Q := by first|(simp -implicitDefEqProofs only [LM8, zib T151, zaf T105, eq_self, zbX, al_c, bd_c T141, st_c (cC [] 0 nilS nilS) rfl, bd_nn T105, nilB_cgu, TB, SB, Int.reduceToNat, Nat.reduceAdd, Nat.reduceEqDiff, Nat.reduceLT, Nat.reduceMod, Nat.reducePow, Nat.reduceSub, if_true, reduceIte];first|done|exact rfl)|exact rfl) : P := e ▸ h
end Go.Eng
end

section
namespace Go.Proofs.YtgfcmbinpmpmgaaGreatDoor
open Go Go.Eng
def rdT : List UInt8 → Option (List UInt8 × Nat)
  | [] => none
  | [_] => none
  | c :: b :: r => if c = 0 then (if b = 0 then some ([], 2) else if b = 255 then (rdT r).map fun x => (0 :: x.1, x.2 + 2) else none) else (rdT (b :: r)).map fun x => (c :: x.1, x.2 + 1)
theorem rdT_1 {c : UInt8} (h : c ≠ 0) (r : List UInt8) : rdT (c :: r) = (rdT r).map fun x => (c :: x.1, x.2 + 1) := by
  cases r with
  | nil => rfl
  | cons b r => rw [rdT, if_neg h]
theorem rdT_00 (r : List UInt8) : rdT (0 :: 0 :: r) = some ([], 2) := by rw [rdT]; rfl
theorem zhZ (r : List UInt8) : rdT (0 :: 255 :: r) = (rdT r).map fun x => (0 :: x.1, x.2 + 2) := by rw [rdT]; rfl
theorem rdT_0x {b : UInt8} (h0 : b ≠ 0) (h1 : b ≠ 255) (r : List UInt8) : rdT (0 :: b :: r) = none := by rw [rdT, if_pos rfl, if_neg h0, if_neg h1]
theorem zhz : ∀ {t : List UInt8}, Lib.index t [0] = -1 → rdT t = none
  | [], _ => rfl
  | c :: t, h => by
    by_cases hc : c = 0
    · subst hc; rw [idx_0] at h; cases h
    · rw [idx_1 hc] at h
      have hge := Lib.index_ge t [0]
      split at h
      · rename_i h3
        rw [rdT_1 hc, zhz (by simpa using h3)]
        rfl
      · omega
theorem zhA : ∀ {t : List UInt8} {i : Nat}, Lib.index t [0] = i → i < t.length ∧ t.drop i = 0 :: t.drop (i + 1) ∧ (∀ x, rdT (t.drop i) = x → rdT t = x.map fun y => (t.take i ++ y.1, i + y.2))
  | [], i, h => by simp [Lib.index] at h
  | c :: t, i, h => by
    by_cases hc : c = 0
    · subst hc
      rw [idx_0] at h
      obtain rfl : i = 0 := by omega
      refine ⟨by simp, rfl, fun x hx => ?_⟩
      rw [← hx]
      simp only [List.drop_zero, List.take_zero, List.nil_append, Nat.zero_add]
      cases rdT (0 :: t) <;> rfl
    · rw [idx_1 hc] at h
      have hge := Lib.index_ge t [0]
      split at h
      · omega
      · rename_i h3
        have h3' : Lib.index t [0] ≠ -1 := by simpa using h3
        match i, h with
        | 0, h => omega
        | i + 1, h =>
          obtain ⟨g1, g2, g3⟩ := zhA (t := t) (i := i) (by omega)
          refine ⟨by simp only [List.length_cons]; omega, by simpa using g2, fun x hx => ?_⟩
          rw [rdT_1 hc, g3 x (by simpa using hx)]
          cases x with
          | none => rfl
          | some y => simp; omega
theorem cut_ok (t : List UInt8) (h : t.length < 4294967281) : ACalls Tryz.prog 109 [str t, str [0]] [] (fun x _ => x = .ret (.tup [str (Lib.cut t [0]).1, str (Lib.cut t [0]).2.1, bl (Lib.cut t [0]).2.2])) := by
  refine ze7 0 (by simp [Globs.ints]) (by kernel_rfl) fun w O m vs n hn hr => ?_
  simp only [reps, str, rep] at hr
  obtain ⟨_, _, e1, rfl, _, _, rfl, rfl, rfl⟩ := hr
  have ev : vs = #[.string ⟨t.toArray⟩, .string ⟨[0].toArray⟩] := by
    apply Array.ext'
    simpa using e1
  subst ev
  refine (Tryz.strings_Cut _ ⟨[0].toArray⟩ n w (by simpa [ByteArray.size] using h) hn).mono ?_
  rintro e w' ⟨rfl, k, rfl⟩
  refine ⟨⟨_, rfl, fun w' O m => ?_⟩, ⟨rfl, rfl, rfl, Nat.le_refl _, fun _ _ => rfl⟩⟩
  simp only [rep]
  exact ⟨_, rfl, by simp [reps, rep, str, bl]⟩
end Go.Proofs.YtgfcmbinpmpmgaaGreatDoor
end

section
namespace Go.Proofs.YtgfcmbinpmpmgaaGreatDoor
open Go Go.Eng
set_option linter.defProp false in
def LB18 := And.intro @set_c1 (And.intro @len_cC (And.intro (fun {K} {id} => @fa_c0 K _ id T141) (And.intro (fun {K} {id} => @fa_c1 K _ id T141) (And.intro @ld_c0 (@ld_c1)))))
set_option linter.defProp false in
def LB19 := And.intro @leI_nil (And.intro @leI_bot (And.intro @leI_same (@leI_cons)))
set_option linter.defProp false in
def LM8 := And.intro LM2 (LB18)
theorem bs_u8_0 {σ : zae} {KS : AV → zae → Prop} : bs2 (some tyU8) 0 [] σ KS = KS (.ref σ.length 0 0 1) (σ ++ [.rw []]) := by
  simp [bs2, tyU8, zaZ, zbx]
theorem pieces_ok (t : List UInt8) : ACalls Tryz.prog 102 [str t] [] (fun x σ => x = .ret (.fn (.func 108) [] [.ptr 0 0]) ∧ σ = [.rw [str t]]) := by
  refine ACalls.body T_ok Tryz.func102 (by kernel_rfl) rfl Tryz.ntmps102 (congrArg Array.toList Tryz.results102) ?_
  refine aQ33 ?_
  exact zbg ⟨rfl, rfl⟩
theorem cut_cases (t : List UInt8) : (Lib.index t [0] = -1 ∧ Lib.cut t [0] = (t, [], false)) ∨ ∃ i : Nat, Lib.index t [0] = i ∧ Lib.cut t [0] = (t.take i, t.drop (i + 1), true) := by
  have hge := Lib.index_ge t [0]
  by_cases h : Lib.index t [0] = -1
  · exact .inl ⟨h, by rw [Lib.cut, h]; rfl⟩
  · refine .inr ⟨(Lib.index t [0]).toNat, by omega, ?_⟩
    rw [Lib.cut, if_pos (by omega)]
    rfl
theorem fpieces_range {s : List UInt8} {p : Nat} {env : List AV} {ps : Array Tmp} {A B : Code} {K : AEnd → zae → Prop} (t : List UInt8) (ht : t.length ≤ 1000000000) (hpt : p + t.length ≤ 1000000000)
    (hY0 : ∀ (w : List UInt8) (n : Nat), w.length ≤ 1000000000 → p + n ≤ 1000000000 → AYield Tryz.prog 6 [str w, i64 n] [.rw (cC s p nilS nilS), .rw [.ptr 0 0], .rw [], .rw [.ref 2 0 0 1], .rw [bl true], .rw [str t], .lp .ready none env ps A B] (fun x σ' => x = .ret (bl true) ∧ σ' = [.rw (cC s ((p + n : Nat) : Int) nilS nilS), .rw [.ptr 0 0], .dead, .rw [.ref 7 0 w.length 1], .rw [bl false], .rw [str t], .lp .ready none env ps A B, .rw (w.map u8)]))
    (hY1 : ∀ (u o w : List UInt8) (q n : Nat), o.length + w.length ≤ 1000000000 → p + q + n ≤ 1000000000 → AYield Tryz.prog 6 [str w, i64 n] [.rw (cC s ((p + q : Nat) : Int) nilS nilS), .rw [.ptr 0 0], .dead, .rw [.ref 7 0 o.length 1], .rw [bl false], .rw [str u], .lp .ready none env ps A B, .rw (o.map u8)] (fun x σ' => x = .ret (bl true) ∧ σ' = [.rw (cC s ((p + q + n : Nat) : Int) nilS nilS), .rw [.ptr 0 0], .dead, .rw [.ref 10 0 (o ++ [0] ++ w).length 1], .rw [bl false], .rw [str u], .lp .ready none env ps A B, .dead, .rw [u8 0], .dead, .rw ((o ++ [0] ++ w).map u8)]))
    (he : renL [0, 1, 2, 3, 4, 5, 6, 10] env = some env)
    (hp : rdT t = none → ∀ σ, K (.pan cgu) σ)
    (h0 : ∀ w n, rdT t = some (w, n) → K (.ret (.tup [])) [.rw (cC s ((p + n : Nat) : Int) nilS nilS), .rw [.ptr 0 0], .dead, .rw [.ref 7 0 w.length 1], .rw [bl false], .rw [str t], .lp .ready none env ps A B, .rw (w.map u8)])
    (h1 : ∀ w n u, rdT t = some (w, n) → K (.ret (.tup [])) [.rw (cC s ((p + n : Nat) : Int) nilS nilS), .rw [.ptr 0 0], .dead, .rw [.ref 10 0 w.length 1], .rw [bl false], .rw [str u], .lp .ready none env ps A B, .dead, .rw [u8 0], .dead, .rw (w.map u8)]) :
    ACalls Tryz.prog 108 [.yl 6, .ptr 5 0] [.rw (cC s p nilS nilS), .rw [.ptr 0 0], .rw [], .rw [.ref 2 0 0 1], .rw [bl true], .rw [str t], .lp .ready none env ps A B] K := by
  refine ACalls.body T_ok Tryz.func108 (by kernel_rfl) rfl Tryz.ntmps108 (congrArg Array.toList Tryz.results108) ?_
  refine aQ33 ?_
  rw [zaS]
  refine ⟨Option (List UInt8 × Nat), fun i => match i with
    | none => True
    | some (o, q) => q ≤ t.length ∧ o.length ≤ q ∧ rdT t = (rdT (t.drop q)).map fun x => (o ++ [0] ++ x.1, q + x.2), fun _ => [.yl 6, .ptr 5 0, .bot, .bot, .bot, .bot, .bot, .bot, .bot, .bot, .bot, .bot, .bot, .bot, .bot, .bot, .bot, .bot, .bot, .bot, .bot, .bot, .bot, .bot, .bot, .bot, .bot, .bot, .bot, .bot, .bot, .bot, .bot, .bot, .bot, .bot, .bot, .bot, .bot, .bot, .bot, .bot, .bot, .bot, .bot, .bot, .bot, .bot, .bot, .bot, .bot, .bot], fun i => match i with
    | none => [.rw (cC s p nilS nilS), .rw [.ptr 0 0], .rw [], .rw [.ref 2 0 0 1], .rw [bl true], .rw [str t], .lp .ready none env ps A B]
    | some (o, q) => [.rw (cC s ((p + q : Nat) : Int) nilS nilS), .rw [.ptr 0 0], .dead, .rw [.ref 7 0 o.length 1], .rw [bl false], .rw [str (t.drop q)], .lp .ready none env ps A B, .rw (o.map u8)], fun i => match i with
    | none => t.length + 1
    | some (o, q) => t.length - q, none, trivial, zd0 ?_, ?_⟩
  · first|exact aQ34 trivial|refine aQ34 ?_
  · intro i hi
    match i, hi with
    | none, _ =>
      refine aQ33 ?_
      have hul : t.length = t.length := by rfl
      rcases cut_cases t with ⟨hi, hc⟩ | ⟨i, hi, hc⟩
      · refine (cut_ok t (by omega)).pure (by simp [renL, zah]) ?_
        rintro _ σ rfl
        refine ⟨by simp [AEnd.noid, AV.ren, renL, zah, zaz], ?_⟩
        rw [hc]
        refine aQ33 ?_
        have g0 := zhz hi
        exact zbg (hp g0 _)
      · obtain ⟨g1, g2, g3⟩ := zhA hi
        have hil : (t.take i).length = i := by rw [List.length_take]; omega
        refine (cut_ok t (by omega)).pure (by simp [renL, zah]) ?_
        rintro _ σ rfl
        refine ⟨by simp [AEnd.noid, AV.ren, renL, zah, zaz], ?_⟩
        rw [hc]
        simp only
        try simp -implicitDefEqProofs only [LM8, zib T151, zaf T105, eq_self, zbX, hil, TB, SB, Int.reduceToNat, Nat.reduceAdd, Nat.reduceEqDiff, Nat.reduceLT, Nat.reduceMod, Nat.reducePow, Nat.reduceSub, if_true, reduceIte]
        refine ⟨by unfold inI; omega, fun hlt => ?_, fun hge => ⟨by unfold inI; omega, ?_⟩⟩
        · have g0 := g3 none (by rw [g2, List.drop_eq_nil_of_le (by omega)]; rfl)
          exact zbg (hp g0 _)
        · have e2 : ((i : Int) + 2) = ((i + 2 : Nat) : Int) := by omega
          obtain ⟨b, r, hbr⟩ : ∃ b r, t.drop (i + 1) = b :: r := by
            cases hd : t.drop (i + 1) with
            | nil => have := congrArg List.length hd; rw [List.length_drop] at this; simp only [List.length_nil] at this; omega
            | cons b r => exact ⟨b, r, rfl⟩
          have hsl : (t.take (i + 2)).drop i = [0, b] := by
            rw [List.drop_take, g2, hbr, show i + 2 - i = 2 by omega]
            rfl
          have hrest : t.drop (i + 2) = r := by
            have := congrArg (List.drop 1) hbr
            rw [List.drop_drop] at this
            exact this
          rw [e2]
          refine (hY0 (t.take i) (i + 2) (by rw [hil]; omega) (by omega)).mono ?_
          rintro _ σ ⟨rfl, rfl⟩
          refine aQ33 ?_
          have e3 : (((i + 2 : Nat) : Int) - 2).toNat = i := by omega
          rw [e3, hsl]
          refine ⟨by unfold inI; omega, by omega, by omega, by omega, fun h => ?_, fun h => ⟨by unfold inI; omega, by omega, by omega, by omega, fun h2 => ?_, fun h2 => ⟨by omega, by omega, ?_⟩⟩⟩
          · obtain rfl : b = 0 := by simpa using h
            have g4 := g3 (some ([], 2)) (by rw [g2, hbr, rdT_00])
            simp only [Option.map_some, List.append_nil] at g4
            exact zbg (h0 _ _ g4)
          · have g4 := g3 none (by rw [g2, hbr, rdT_0x (fun e => h (by rw [e])) (fun e => h2 (by rw [e]))])
            simp only [Option.map_none] at g4
            exact zbg (hp g4 _)
          · obtain rfl : b = 255 := by simpa using h2
            have g4 := g3 _ (by rw [g2, hbr, zhZ])
            rw [← hrest, Option.map_map] at g4
            refine ⟨some (t.take i, i + 2), ⟨by omega, by rw [hil]; omega, ?_⟩, (by show t.length - (i + 2) < t.length + 1; omega), zd0 ?_⟩
            · rw [g4]
              congr 1
              funext x
              simp [Function.comp]
              try omega
            · first|exact aQ34 trivial|refine aQ34 ?_
    | some (o, q), ⟨hq1, hq2, hq3⟩ =>
      refine aQ33 ?_
      have hul : (t.drop q).length = t.length - q := by rw [List.length_drop]
      rcases cut_cases (t.drop q) with ⟨hi, hc⟩ | ⟨i, hi, hc⟩
      · refine (cut_ok (t.drop q) (by omega)).pure (by simp [renL, zah]) ?_
        rintro _ σ rfl
        refine ⟨by simp [AEnd.noid, AV.ren, renL, zah, zaz], ?_⟩
        rw [hc]
        refine aQ33 ?_
        have g0 := zhz hi
        exact zbg (hp (hq3.trans (by rw [g0]; rfl)) _)
      · obtain ⟨g1, g2, g3⟩ := zhA hi
        have hil : ((t.drop q).take i).length = i := by rw [List.length_take]; omega
        refine (cut_ok (t.drop q) (by omega)).pure (by simp [renL, zah]) ?_
        rintro _ σ rfl
        refine ⟨by simp [AEnd.noid, AV.ren, renL, zah, zaz], ?_⟩
        rw [hc]
        simp only
        try simp -implicitDefEqProofs only [LM8, zib T151, zaf T105, eq_self, zbX, hil, TB, SB, Int.reduceToNat, Nat.reduceAdd, Nat.reduceEqDiff, Nat.reduceLT, Nat.reduceMod, Nat.reducePow, Nat.reduceSub, if_true, reduceIte]
        refine ⟨by unfold inI; omega, fun hlt => ?_, fun hge => ⟨by unfold inI; omega, ?_⟩⟩
        · have g0 := g3 none (by rw [g2, List.drop_eq_nil_of_le (by omega)]; rfl)
          exact zbg (hp (hq3.trans (by rw [g0]; rfl)) _)
        · have e2 : ((i : Int) + 2) = ((i + 2 : Nat) : Int) := by omega
          obtain ⟨b, r, hbr⟩ : ∃ b r, (t.drop q).drop (i + 1) = b :: r := by
            cases hd : (t.drop q).drop (i + 1) with
            | nil => have := congrArg List.length hd; rw [List.length_drop] at this; simp only [List.length_nil] at this; omega
            | cons b r => exact ⟨b, r, rfl⟩
          have hsl : ((t.drop q).take (i + 2)).drop i = [0, b] := by
            rw [List.drop_take, g2, hbr, show i + 2 - i = 2 by omega]
            rfl
          have hrest : (t.drop q).drop (i + 2) = r := by
            have := congrArg (List.drop 1) hbr
            rw [List.drop_drop] at this
            exact this
          rw [e2]
          refine (hY1 (t.drop q) o ((t.drop q).take i) q (i + 2) (by rw [hil]; omega) (by omega)).mono ?_
          rintro _ σ ⟨rfl, rfl⟩
          refine aQ33 ?_
          have e3 : (((i + 2 : Nat) : Int) - 2).toNat = i := by omega
          rw [e3, hsl]
          refine ⟨by unfold inI; omega, by omega, by omega, by omega, fun h => ?_, fun h => ⟨by unfold inI; omega, by omega, by omega, by omega, fun h2 => ?_, fun h2 => ⟨by omega, by omega, ?_⟩⟩⟩
          · obtain rfl : b = 0 := by simpa using h
            have g4 := g3 (some ([], 2)) (by rw [g2, hbr, rdT_00])
            simp only [Option.map_some, List.append_nil] at g4
            rw [g4] at hq3
            simp only [Option.map_some] at hq3
            rw [show p + q + (i + 2) = p + (q + (i + 2)) by omega]
            exact zbg (h1 _ _ _ hq3)
          · have g4 := g3 none (by rw [g2, hbr, rdT_0x (fun e => h (by rw [e])) (fun e => h2 (by rw [e]))])
            simp only [Option.map_none] at g4
            exact zbg (hp (hq3.trans (by rw [g4]; rfl)) _)
          · obtain rfl : b = 255 := by simpa using h2
            have g4 := g3 _ (by rw [g2, hbr, zhZ])
            rw [← hrest, Option.map_map] at g4
            refine ⟨some (o ++ [0] ++ (t.drop q).take i, q + (i + 2)), ⟨by omega, by simp only [List.length_append, List.length_singleton, hil]; omega, ?_⟩, (by show t.length - (q + (i + 2)) < t.length - q; omega), zal (q := [0, 1, 2, 3, 4, 5, 6, 10]) rfl rfl (by decide) ?_ ?_⟩
            · rw [hq3, g4, List.drop_drop, Option.map_map]
              congr 1
              funext x
              simp [Function.comp]
              try omega
            · first|exact aQ26 trivial|refine aQ26 ?_
            · rw [show p + q + (i + 2) = p + (q + (i + 2)) by omega]
              generalize o ++ [0] ++ List.take i (List.drop q t) = w
              rw [List.drop_drop]
              simp [LB1, LB12, zau, cC, nilS, renL, AV.ren, he, zai u8 zbA, zbo, zbp]
end Go.Proofs.YtgfcmbinpmpmgaaGreatDoor
end

section
namespace Go.Proofs.YtgfcmbinpmpmgaaGreatDoor
open Go Go.Eng
def zh0 (s : List UInt8) (p : Nat) : AEnd → zae → Prop := fun y σ => match rdT (s.drop p) with
  | some x => y = .ret (str x.1) ∧ σ = (fS s ((p + x.2 : Nat) : Int))
  | none => y = .pan cgu ∧ σ = [Blk.dead]
theorem ftext_ok (s : List UInt8) (p : Nat) (hs : s.length ≤ 1000000000) (hp : p ≤ s.length) : ACalls Tryz.prog 97 [.ptr 0 0] (fS s p) (zh0 s p) := by
  have hdl : (s.drop p).length = s.length - p := by rw [List.length_drop]
  unfold fS
  refine ACalls.body T_ok Tryz.func97 (by kernel_rfl) rfl Tryz.ntmps97 (congrArg Array.toList Tryz.results97) ?_
  try simp -implicitDefEqProofs only [LM8, zib T151, zaf T105, eq_self, zbX, bs_u8_0, TB, SB, Int.reduceToNat, Nat.reduceAdd, Nat.reduceEqDiff, Nat.reduceLT, Nat.reduceMod, Nat.reducePow, Nat.reduceSub, if_true, reduceIte]
  refine zbl [9] (by kernel_rfl) (by kernel_rfl) (by kernel_rfl) ?_
  refine aQ33 ?_
  refine ⟨by omega, by omega, ?_⟩
  refine ACalls.frame ([]) (pieces_ok (s.drop p)) rfl (by decide) (by simp [LM3, zau, zaR, renL, AV.ren, AEnd.ren, zhY, zbp, zaJ, zai i64 zaj, zaE, wI, wO, zay, List.getElem?_cons_zero, List.getElem?_cons_succ]) (by first | rfl | simp [LM3, zau, zaR, renL, AV.ren, AEnd.ren, zhY, zbp, zaJ, zai i64 zaj, zaE, wI, wO, zay, List.getElem?_cons_zero, List.getElem?_cons_succ]) ?_
  rintro _ _ ⟨rfl, rfl⟩
  refine ⟨.ret (.fn (.func 108) [] [.ptr 5 0]), [.rw (cC s p nilS nilS), .rw [.ptr 0 0], .rw [], .rw [.ref 2 0 0 1], .rw [bl true], .rw [str (s.drop p)]], (by show zaR _ _ ([1, 1, 1, 1, 1, 0]) ([1, 1, 1, 1, 1, 0]) 0 _; simp [LM3, zau, zaR, renL, AV.ren, AEnd.ren, zhY, zbp, zaJ, zai i64 zaj, zaE, wI, wO, zay, List.getElem?_cons_zero, List.getElem?_cons_succ]), (by show AEnd.ren ([1, 1, 1, 1, 1, 0]) _ _; first | rfl | simp [LM3, zau, zaR, renL, AV.ren, AEnd.ren, zhY, zbp, zaJ, zai i64 zaj, zaE, wI, wO, zay, List.getElem?_cons_zero, List.getElem?_cons_succ]), ?_⟩
  refine aQ33 ?_
  refine ⟨by kernel_rfl, ?_⟩
  refine fpieces_range (s.drop p) (by omega) (by omega) ?_ ?_ ?_ ?_ ?_ ?_
  · intro w n hw hn
    refine AYield.of T_ok rfl rfl rfl rfl ?_
    refine aQ33 ?_
    refine ⟨_, _, _, rfl, ?_⟩
    refine aQ33 ?_
    refine zbb u8 zhb rfl rfl T63 T9 tx_str T5 zfH (l := []) (ys := w) (m := w.length) rfl rfl (zhu w) (by omega) (by show _ * 1 ≤ _; omega) ?_
    refine aQ33 ?_
    refine ⟨by unfold inI; omega, ?_⟩
    refine ⟨_, _, _, _, rfl, rfl, ?_⟩
    rfl
  · intro u o w q n hw hn
    refine AYield.of T_ok rfl rfl rfl rfl ?_
    refine aQ33 ?_
    refine ⟨_, _, _, rfl, ?_⟩
    refine aQ33 ?_
    refine zbb u8 zhb rfl rfl T63 T63 (zcV _) T5 zfH (l := o) (ys := [UInt8.ofNat 0]) (m := 1) rfl rfl rfl (by omega) (by show _ * 1 ≤ _; omega) ?_
    refine aQ33 ?_
    refine zbb u8 zhb rfl rfl T63 T9 tx_str T5 zfH (l := o ++ [UInt8.ofNat 0]) (ys := w) (m := w.length) rfl (by simp) (zhu w) (by omega) (by show _ * 1 ≤ _; omega) ?_
    refine aQ33 ?_
    refine ⟨by unfold inI; omega, ?_⟩
    refine ⟨_, _, _, _, rfl, rfl, ?_⟩
    have e1 : (o ++ [0] ++ w).length = o.length + 1 + w.length := by simp only [List.length_append, List.length_singleton]
    rw [e1]
    rfl
  · simp [renL, AV.ren, zah, zaj]
  · intro h0 σ
    simp only [rangeK]
    refine aQ33 ?_
    exact zdG (zaJ _) (by unfold zh0; rw [h0]; exact ⟨rfl, rfl⟩)
  · intro w n h0
    refine ⟨_, _, _, _, _, _, rfl, by simp, ?_⟩
    refine aQ33 ?_
    refine ⟨Nat.le_refl _, ?_⟩
    rw [List.take_length]
    exact zey (zah _ _) (by unfold zh0; rw [h0]; exact ⟨rfl, rfl⟩)
  · intro w n u h0
    refine ⟨_, _, _, _, _, _, rfl, by simp, ?_⟩
    refine aQ33 ?_
    refine ⟨Nat.le_refl _, ?_⟩
    rw [List.take_length]
    exact zey (zah _ _) (by unfold zh0; rw [h0]; exact ⟨rfl, rfl⟩)
end Go.Proofs.YtgfcmbinpmpmgaaGreatDoor
end

section
namespace Go.Proofs.YtgfcmbinpmpmgaaGreatDoor
open Go Go.Eng
def nodR (s : List UInt8) (p : Nat) : Option (Nd × Nat) := match s.drop p with
  | [] => none
  | c :: r =>
    if c.toNat = 1 ∨ c.toNat = 5 ∨ c.toNat = 6 then some (⟨(c.toNat : Int) - 1, 0, [], 0⟩, p + 1)
    else if c.toNat = 2 then (match r with
      | [] => none
      | b :: _ => if b.toNat ≤ 1 then some (⟨1, b.toNat, [], 0⟩, p + 2) else none)
    else if c.toNat = 3 then (if r.length < 8 then none else some (⟨2, IntKind.i64.wrap (zbk (r.take 8) ^^^ 9223372036854775808#64).toNat, [], 0⟩, p + 9))
    else if c.toNat = 4 then (rdT r).map fun x => (⟨3, 0, x.1, 0⟩, p + 1 + x.2)
    else none
def zc9 (s : List UInt8) (p : Nat) : AEnd → zae → Prop := fun y σ => match nodR s p with
  | some x => y = .ret (nA x.1) ∧ σ = (fS s (x.2 : Int))
  | none => y = .pan cgu ∧ σ = [Blk.dead]
theorem fnode_ok (s : List UInt8) (p : Nat) (hs : s.length ≤ 1000000000) (hp : p ≤ s.length) : ACalls Tryz.prog 87 [.ptr 0 0] (fS s p) (zc9 s p) := by
  unfold fS
  refine ACalls.body T_ok Tryz.func87 (by kernel_rfl) rfl Tryz.ntmps87 (congrArg Array.toList Tryz.results87) ?_
  refine aQ33 ?_
  rcases Nat.eq_or_lt_of_le hp with hp0 | hp0
  · have hn : nodR s p = none := by
      rw [nodR, List.drop_eq_nil_of_le (by omega)]
    refine ACalls.frame ([0]) (zhf s p (by omega) (by omega)) rfl (by decide) (by simp [LM3, zau, zaR, renL, AV.ren, AEnd.ren, zbo, fS, gS, cC, nilS, zbp, zaJ, zai i64 zaj, zaE, wI, wO, zay, List.getElem?_cons_zero, List.getElem?_cons_succ]) (by first | rfl | simp [LM3, zau, zaR, renL, AV.ren, AEnd.ren, zbo, fS, gS, cC, nilS, zbp, zaJ, zai i64 zaj, zaE, wI, wO, zay, List.getElem?_cons_zero, List.getElem?_cons_succ]) ?_
    rintro _ _ ⟨rfl, rfl⟩
    refine ⟨.pan cgu, [.dead, .rw (nC n0d)], (aQ2 ([0, 1])), (aQ5 ([0, 1])), ?_⟩
    refine aQ33 ?_
    refine zdG (zaJ _) ?_
    unfold zc9
    rw [hn]
    exact ⟨rfl, rfl⟩
  · obtain ⟨c, r, hcr⟩ : ∃ c r, s.drop p = c :: r := ⟨s.getD p 0, s.drop (p + 1), by
      rw [List.drop_eq_getElem_cons hp0, List.getD_eq_getElem?_getD, List.getElem?_eq_getElem hp0]
      rfl⟩
    have hc : s.getD p 0 = c := by
      have := congrArg (fun l => l[0]?) hcr
      simp only [List.getElem?_drop, Nat.add_zero, List.getElem?_cons_zero] at this
      rw [List.getD_eq_getElem?_getD, this]
      rfl
    have hsg := zhe s p (by omega) hp0
    rw [hc] at hsg
    refine ACalls.frame ([0]) (hsg) rfl (by decide) (by simp [LM3, zau, zaR, renL, AV.ren, AEnd.ren, zbo, fS, gS, cC, nilS, zbp, zaJ, zai i64 zaj, zaE, wI, wO, zay, List.getElem?_cons_zero, List.getElem?_cons_succ]) (by first | rfl | simp [LM3, zau, zaR, renL, AV.ren, AEnd.ren, zbo, fS, gS, cC, nilS, zbp, zaJ, zai i64 zaj, zaE, wI, wO, zay, List.getElem?_cons_zero, List.getElem?_cons_succ]) ?_
    rintro _ _ ⟨rfl, rfl⟩
    refine ⟨.ret (u8 c), [.rw (cC s ((p + 1 : Nat) : Int) nilS nilS), .rw (nC n0d)], (aQ2 ([0, 1])), (aQ5 ([0, 1])), ?_⟩
    refine aQ33 ?_
    have hdr : s.drop (p + 1) = r := by
      have := congrArg (List.drop 1) hcr
      rw [List.drop_drop] at this
      exact this
    have hrl : r.length = s.length - (p + 1) := by rw [← hdr, List.length_drop]
    have hc8 := c.toNat_lt
    refine ⟨by unfold inI; omega, ?_⟩
    by_cases c1 : c.toNat = 1
    · have hn : nodR s p = some (⟨0, 0, [], 0⟩, p + 1) := by
        rw [nodR, hcr]
        simp only
        rw [if_pos (by omega), c1]
        rfl
      repeat' (first | (refine ⟨fun _ => ?_, fun h => absurd (by omega) h⟩) | (refine ⟨fun h => absurd h (by omega), fun _ => ?_⟩) | fail)
      rw [show ((c.toNat : Int)) - 1 = 0 by omega]
      refine zey (zaE _ _) ?_
      unfold zc9
      rw [hn]
      exact ⟨rfl, rfl⟩
    by_cases c5 : c.toNat = 5
    · have hn : nodR s p = some (⟨4, 0, [], 0⟩, p + 1) := by
        rw [nodR, hcr]
        simp only
        rw [if_pos (by omega), c5]
        rfl
      repeat' (first | (refine ⟨fun _ => ?_, fun h => absurd (by omega) h⟩) | (refine ⟨fun h => absurd h (by omega), fun _ => ?_⟩) | fail)
      rw [show ((c.toNat : Int)) - 1 = 4 by omega]
      refine zey (zaE _ _) ?_
      unfold zc9
      rw [hn]
      exact ⟨rfl, rfl⟩
    by_cases c6 : c.toNat = 6
    · have hn : nodR s p = some (⟨5, 0, [], 0⟩, p + 1) := by
        rw [nodR, hcr]
        simp only
        rw [if_pos (by omega), c6]
        rfl
      repeat' (first | (refine ⟨fun _ => ?_, fun h => absurd (by omega) h⟩) | (refine ⟨fun h => absurd h (by omega), fun _ => ?_⟩) | fail)
      rw [show ((c.toNat : Int)) - 1 = 5 by omega]
      refine zey (zaE _ _) ?_
      unfold zc9
      rw [hn]
      exact ⟨rfl, rfl⟩
    have nd0 : nodR s p = if c.toNat = 2 then (match r with
      | [] => none
      | b :: _ => if b.toNat ≤ 1 then some (⟨1, b.toNat, [], 0⟩, p + 2) else none)
    else if c.toNat = 3 then (if r.length < 8 then none else some (⟨2, IntKind.i64.wrap (zbk (r.take 8) ^^^ 9223372036854775808#64).toNat, [], 0⟩, p + 9))
    else if c.toNat = 4 then (rdT r).map fun x => (⟨3, 0, x.1, 0⟩, p + 1 + x.2)
    else none := by
      rw [nodR, hcr]
      simp only
      rw [if_neg (by omega)]
    by_cases c2 : c.toNat = 2
    · rw [if_pos c2] at nd0
      repeat' (first | (refine ⟨fun _ => ?_, fun h => absurd (by omega) h⟩) | (refine ⟨fun h => absurd h (by omega), fun _ => ?_⟩) | fail)
      rw [show ((c.toNat : Int)) - 1 = 1 by omega]
      cases r with
      | nil =>
        simp only [List.length_nil] at hrl
        refine ACalls.frame ([0]) (zhf s (p + 1) (by omega) (by omega)) rfl (by decide) (by simp [LM3, zau, zaR, renL, AV.ren, AEnd.ren, zbo, fS, gS, cC, nilS, zbp, zaJ, zai i64 zaj, zaE, wI, wO, zay, List.getElem?_cons_zero, List.getElem?_cons_succ]) (by first | rfl | simp [LM3, zau, zaR, renL, AV.ren, AEnd.ren, zbo, fS, gS, cC, nilS, zbp, zaJ, zai i64 zaj, zaE, wI, wO, zay, List.getElem?_cons_zero, List.getElem?_cons_succ]) ?_
        rintro _ _ ⟨rfl, rfl⟩
        refine ⟨.pan cgu, [.dead, .rw (nC n0d), .rw (nC ⟨1, 0, [], 0⟩)], (aQ2 ([0, 1, 1])), (aQ5 ([0, 1, 1])), ?_⟩
        refine aQ33 ?_
        refine zdG (zaJ _) ?_
        unfold zc9
        rw [nd0]
        exact ⟨rfl, rfl⟩
      | cons b r' =>
        simp only [List.length_cons] at hrl
        have hb : s.getD (p + 1) 0 = b := by
          have := congrArg (fun l => l[0]?) hdr
          simp only [List.getElem?_drop, Nat.add_zero, List.getElem?_cons_zero] at this
          rw [List.getD_eq_getElem?_getD, this]
          rfl
        have hsg2 := zhe s (p + 1) (by omega) (by omega)
        rw [hb] at hsg2
        refine ACalls.frame ([0]) (hsg2) rfl (by decide) (by simp [LM3, zau, zaR, renL, AV.ren, AEnd.ren, zbo, fS, gS, cC, nilS, zbp, zaJ, zai i64 zaj, zaE, wI, wO, zay, List.getElem?_cons_zero, List.getElem?_cons_succ]) (by first | rfl | simp [LM3, zau, zaR, renL, AV.ren, AEnd.ren, zbo, fS, gS, cC, nilS, zbp, zaJ, zai i64 zaj, zaE, wI, wO, zay, List.getElem?_cons_zero, List.getElem?_cons_succ]) ?_
        rintro _ _ ⟨rfl, rfl⟩
        refine ⟨.ret (u8 b), [.rw (cC s ((p + 1 + 1 : Nat) : Int) nilS nilS), .rw (nC n0d), .rw (nC ⟨1, 0, [], 0⟩)], (aQ2 ([0, 1, 1])), (aQ5 ([0, 1, 1])), ?_⟩
        refine aQ33 ?_
        simp only at nd0
        refine ⟨fun h => ?_, fun h => ?_⟩
        · rw [if_neg (by omega)] at nd0
          refine zdG (zaJ _) ?_
          unfold zc9
          rw [nd0]
          exact ⟨rfl, rfl⟩
        · rw [if_pos (by omega)] at nd0
          refine zey (zaE _ _) ?_
          unfold zc9
          rw [nd0]
          exact ⟨rfl, rfl⟩
    by_cases c3 : c.toNat = 3
    · rw [if_neg c2, if_pos c3] at nd0
      repeat' (first | (refine ⟨fun _ => ?_, fun h => absurd (by omega) h⟩) | (refine ⟨fun h => absurd h (by omega), fun _ => ?_⟩) | fail)
      rw [show ((c.toNat : Int)) - 1 = 2 by omega]
      by_cases h8 : r.length < 8
      · rw [if_pos h8] at nd0
        refine ACalls.frame ([0]) (ftake_no s (p + 1) 8 (by omega) (by omega) (by omega) (by omega)) rfl (by decide) (by simp [LM3, zau, zaR, renL, AV.ren, AEnd.ren, zbo, fS, gS, cC, nilS, zbp, zaJ, zai i64 zaj, zaE, wI, wO, zay, List.getElem?_cons_zero, List.getElem?_cons_succ]) (by first | rfl | simp [LM3, zau, zaR, renL, AV.ren, AEnd.ren, zbo, fS, gS, cC, nilS, zbp, zaJ, zai i64 zaj, zaE, wI, wO, zay, List.getElem?_cons_zero, List.getElem?_cons_succ]) ?_
        rintro _ _ ⟨rfl, rfl⟩
        refine ⟨.pan cgu, [.dead, .rw (nC n0d), .rw (nC ⟨2, 0, [], 0⟩)], (aQ2 ([0, 1, 1])), (aQ5 ([0, 1, 1])), ?_⟩
        refine aQ33 ?_
        refine zdG (zaJ _) ?_
        unfold zc9
        rw [nd0]
        exact ⟨rfl, rfl⟩
      · rw [if_neg h8] at nd0
        have htk := ftake_ok s (p + 1) 8 (by omega) (by omega)
        rw [hdr] at htk
        refine ACalls.frame ([0]) (htk) rfl (by decide) (by simp [LM3, zau, zaR, renL, AV.ren, AEnd.ren, zbo, fS, gS, cC, nilS, zbp, zaJ, zai i64 zaj, zaE, wI, wO, zay, List.getElem?_cons_zero, List.getElem?_cons_succ]) (by first | rfl | simp [LM3, zau, zaR, renL, AV.ren, AEnd.ren, zbo, fS, gS, cC, nilS, zbp, zaJ, zai i64 zaj, zaE, wI, wO, zay, List.getElem?_cons_zero, List.getElem?_cons_succ]) ?_
        rintro _ _ ⟨rfl, rfl⟩
        refine ⟨.ret (str (r.take 8)), [.rw (cC s ((p + 1 + 8 : Nat) : Int) nilS nilS), .rw (nC n0d), .rw (nC ⟨2, 0, [], 0⟩)], (aQ2 ([0, 1, 1])), (aQ5 ([0, 1, 1])), ?_⟩
        refine aQ33 ?_
        refine (zcj (r.take 8) (by rw [List.length_take]; omega)).pure aQ9 ?_
        rintro _ σ rfl
        refine ⟨by first | rfl | simp [AEnd.noid, AV.ren, renL, zbj, zai str zah, zbA, zbn, zbv, zaj, zaz, zah], ?_⟩
        refine aQ33 ?_
        try simp -implicitDefEqProofs only [LM8, zib T151, zaf T105, eq_self, zbX, zab, TB, SB, Int.reduceToNat, Nat.reduceAdd, Nat.reduceEqDiff, Nat.reduceLT, Nat.reduceMod, Nat.reducePow, Nat.reduceSub, if_true, reduceIte]
        refine zey (zaE _ _) ?_
        unfold zc9
        rw [nd0]
        exact ⟨rfl, rfl⟩
    by_cases c4 : c.toNat = 4
    · rw [if_neg c2, if_neg c3, if_pos c4] at nd0
      repeat' (first | (refine ⟨fun _ => ?_, fun h => absurd (by omega) h⟩) | (refine ⟨fun h => absurd h (by omega), fun _ => ?_⟩) | fail)
      rw [show ((c.toNat : Int)) - 1 = 3 by omega]
      have htx := ftext_ok s (p + 1) (by omega) (by omega)
      unfold zh0 at htx
      rw [hdr] at htx
      cases hx : rdT r with
      | none =>
        rw [hx] at htx nd0
        refine ACalls.frame ([0]) (htx) rfl (by decide) (by simp [LM3, zau, zaR, renL, AV.ren, AEnd.ren, zbo, fS, gS, cC, nilS, zbp, zaJ, zai i64 zaj, zaE, wI, wO, zay, List.getElem?_cons_zero, List.getElem?_cons_succ]) (by first | rfl | simp [LM3, zau, zaR, renL, AV.ren, AEnd.ren, zbo, fS, gS, cC, nilS, zbp, zaJ, zai i64 zaj, zaE, wI, wO, zay, List.getElem?_cons_zero, List.getElem?_cons_succ]) ?_
        rintro _ _ ⟨rfl, rfl⟩
        refine ⟨.pan cgu, [.dead, .rw (nC n0d), .rw (nC ⟨3, 0, [], 0⟩)], (aQ2 ([0, 1, 1])), (aQ5 ([0, 1, 1])), ?_⟩
        refine aQ33 ?_
        refine zdG (zaJ _) ?_
        unfold zc9
        rw [nd0]
        exact ⟨rfl, rfl⟩
      | some x =>
        rw [hx] at htx nd0
        refine ACalls.frame ([0]) (htx) rfl (by decide) (by simp [LM3, zau, zaR, renL, AV.ren, AEnd.ren, zbo, fS, gS, cC, nilS, zbp, zaJ, zai i64 zaj, zaE, wI, wO, zay, List.getElem?_cons_zero, List.getElem?_cons_succ]) (by first | rfl | simp [LM3, zau, zaR, renL, AV.ren, AEnd.ren, zbo, fS, gS, cC, nilS, zbp, zaJ, zai i64 zaj, zaE, wI, wO, zay, List.getElem?_cons_zero, List.getElem?_cons_succ]) ?_
        rintro _ _ ⟨rfl, rfl⟩
        refine ⟨.ret (str x.1), [.rw (cC s ((p + 1 + x.2 : Nat) : Int) nilS nilS), .rw (nC n0d), .rw (nC ⟨3, 0, [], 0⟩)], (aQ2 ([0, 1, 1])), (aQ5 ([0, 1, 1])), ?_⟩
        refine aQ33 ?_
        refine zey (zaE _ _) ?_
        unfold zc9
        rw [nd0]
        exact ⟨rfl, rfl⟩
    · rw [if_neg c2, if_neg c3, if_neg c4] at nd0
      repeat' (first | (refine ⟨fun _ => ?_, fun h => absurd (by omega) h⟩) | (refine ⟨fun h => absurd h (by omega), fun _ => ?_⟩) | fail)
      refine zdG (zaJ _) ?_
      unfold zc9
      rw [nd0]
      exact ⟨rfl, rfl⟩
end Go.Proofs.YtgfcmbinpmpmgaaGreatDoor
end

section
namespace Go.Proofs.YtgfcmbinpmpmgaaGreatDoor
open Go Go.Eng
section
variable {s : List UInt8} {K : AV → Prop} {KS : AV → zae → Prop} {σ : zae} {t e : TypeId} {id : Nat}
theorem al_c : al1 T e (some tyCr) σ KS = KS (.ptr σ.length 0) (σ ++ [.rw (cC [] 0 nilS nilS)]) := by
  simp [al1, tyCr, zaw, nilS, i64, str, cC]
theorem bd_c (ht : T t = some tyCr) : zaB T t [(0, str s)] K = K (.agg (cC s 0 nilS nilS)) := by
  simp [zaB, ht, tyCr, T9, T3, T139, T99, zaZ, zaw, zb7, zac, zaT, za0, tySl, tyStr, cC, nilS]
  try rfl
theorem st_c (x : List AV) (hx : x.length = 4) : st2 (some tyCr) (some (.rw x)) id 0 (.agg (cC s 0 nilS nilS)) σ KS = KS (.lit undef) (σ.set id (.rw (cC s 0 nilS nilS))) := by
  match x, hx with
  | [_, _, _, _], _ => simp [st2, tyCr, AV.cells, AV.one, Value.oneCell', zaT, cC, nilS, i64, str]
theorem bd_nn (ht : T t = some tyNd) : zaB T t [] K = K (nA n0d) := by
  simp [zaB, ht, tyNd, T3, T2, T103, T9, za0, tyStr, zaZ, zaw, nA, nC, n0d, i64, str]
end
theorem nilB_cgu : zhQ (recV (some cgu)) = some false := rfl
def oneR (s : List UInt8) : Nd × Nat × Bool := match nodR s 0 with
  | some x => (x.1, x.2, true)
  | none => (n0d, 0, false)
theorem oneP_ok (a : Nd) (b : Int) (c : Bool) (σ : zae) (K : zae → Prop) (h : K (.rw (nC n0d) :: .rw [i64 0] :: .rw [bl false] :: σ)) : DCalls Tryz.prog 86 [.ptr 0 0, .ptr 1 0, .ptr 2 0] (.rw (nC a) :: .rw [i64 b] :: .rw [bl c] :: σ) (some cgu) K := by
  refine DCalls.body (b := true) T_ok Tryz.func86 rfl Tryz.ntmps86 Tryz.results86 rfl ?_ ?_
  · first|exact aQ35 trivial|refine aQ35 ?_
  · refine aQ35 ?_
    exact h
theorem oneN_ok (a : Nd) (b : Int) (c : Bool) (σ : zae) (K : zae → Prop) (h : K (.rw (nC a) :: .rw [i64 b] :: .rw [bl c] :: σ)) : DCalls Tryz.prog 86 [.ptr 0 0, .ptr 1 0, .ptr 2 0] (.rw (nC a) :: .rw [i64 b] :: .rw [bl c] :: σ) none K := by
  refine DCalls.body (b := false) T_ok Tryz.func86 rfl Tryz.ntmps86 Tryz.results86 rfl ?_ ?_
  · refine aQ35 ?_
    exact ⟨rfl, rfl, rfl⟩
  · refine aQ35 ?_
    exact h
def oneT : Tr := (.br 0 (.br 1 (.br 2 (.br 3 (.br 4 (.br 5 .done .nil) .nil) .nil) (.br 3 (.br 2 (.br 4 (.br 5 .done .nil) .nil) .nil) .nil)) (.br 3 (.br 1 (.br 2 (.br 4 (.br 5 .done .nil) .nil) .nil) .nil) .nil)) (.br 1 (.br 0 (.br 2 (.br 3 (.br 4 (.br 5 .done .nil) .nil) .nil) (.br 3 (.br 2 (.br 4 (.br 5 .done .nil) .nil) .nil) .nil)) (.br 2 (.br 0 (.br 3 (.br 4 (.br 5 .done .nil) .nil) .nil) .nil) .nil)) .nil))
theorem one_ok (s : List UInt8) (hs : s.length ≤ 1000000000) : ACalls Tryz.prog 72 [str s] [] (fun y _ => y = .ret (.tup [nA (oneR s).1, i64 (oneR s).2.1, bl (oneR s).2.2])) := by
  have hnd := fnode_ok s 0 hs (by omega)
  unfold zc9 at hnd
  refine ACalls.bodyD T_ok Tryz.func72 (by kernel_rfl) rfl Tryz.ntmps72 (congrArg Array.toList Tryz.results72) ?_
  rw [WD_none rfl]
  refine aQ35 ?_
  rw [WD_some rfl]
  refine aQ35 ?_
  refine ⟨by kernel_rfl, ?_⟩
  refine aQ35 ?_
  cases hx : nodR s 0 with
  | none =>
    rw [hx] at hnd
    refine ACalls.frame ([3]) (hnd) rfl (by decide) (by simp [LM3, zau, zaR, renL, AV.ren, AEnd.ren, zbo, fS, gS, cC, nilS, zbp, zaJ, zai i64 zaj, zaE, wI, wO, zay, List.getElem?_cons_zero, List.getElem?_cons_succ]) (by first | rfl | simp [LM3, zau, zaR, renL, AV.ren, AEnd.ren, zbo, fS, gS, cC, nilS, zbp, zaJ, zai i64 zaj, zaE, wI, wO, zay, List.getElem?_cons_zero, List.getElem?_cons_succ]) ?_
    rintro _ _ ⟨rfl, rfl⟩
    refine ⟨.pan cgu, [.rw (nC n0d), .rw [i64 0], .rw [bl false], .dead], (aQ2 ([1, 1, 1, 0])), (aQ5 ([1, 1, 1, 0])), ?_⟩
    refine aQ35 ?_
    refine oneP_ok _ _ _ _ _ ?_
    refine aQ35 ?_
    exact zaL (by simp [AV.ren, renL, zaj, zaE, zaz]) (by unfold oneR; rw [hx]; rfl)
  | some x =>
    rw [hx] at hnd
    refine ACalls.frame ([3]) (hnd) rfl (by decide) (by simp [LM3, zau, zaR, renL, AV.ren, AEnd.ren, zbo, fS, gS, cC, nilS, zbp, zaJ, zai i64 zaj, zaE, wI, wO, zay, List.getElem?_cons_zero, List.getElem?_cons_succ]) (by first | rfl | simp [LM3, zau, zaR, renL, AV.ren, AEnd.ren, zbo, fS, gS, cC, nilS, zbp, zaJ, zai i64 zaj, zaE, wI, wO, zay, List.getElem?_cons_zero, List.getElem?_cons_succ]) ?_
    rintro _ _ ⟨rfl, rfl⟩
    refine ⟨.ret (nA x.1), [.rw (nC n0d), .rw [i64 0], .rw [bl false], .rw (cC s (x.2 : Int) nilS nilS)], (aQ2 ([1, 1, 1, 0])), (aQ5 ([1, 1, 1, 0])), ?_⟩
    refine aQ35 ?_
    refine W_drawT oneT ([.bot, .bot, .ptr 0 0, .ptr 1 0, .ptr 2 0, .bot, .bot, .bot, .bot, .bot, .bot, .bot, .bot]) [.rw (nC x.1), .rw [i64 x.2], .rw [bl true], .rw (cC s (x.2 : Int) nilS nilS)] (by kernel_rfl) (by kernel_rfl) ?_ ?_
    · unfold oneT
      refine aQ35 ?_
      repeat' (with_reducible refine And.intro ?_ ?_)
      all_goals
        refine zd0 ?_
        first|exact aQ34 trivial|refine aQ34 ?_
    refine aQ35 ?_
    refine oneN_ok _ _ _ _ _ ?_
    refine aQ35 ?_
    exact zaL (by simp [AV.ren, renL, zaj, zaE, zaz]) (by unfold oneR; rw [hx])
end Go.Proofs.YtgfcmbinpmpmgaaGreatDoor
end

section
namespace Go.Proofs.YtgfcmbinpmpmgaaGreatDoor
open Go Go.Eng
set_option linter.defProp false in
def LB20 := And.intro @box_str (@ld_str1)
def slS (l : List (List UInt8)) : AV := .sl (l.map str) l.length
theorem zbY (e : TypeId) (L : List (List (List UInt8))) (n : Nat) (k : Int) (K : AV → Prop) : ia3 (some (tySl e)) (.sl (L.map slS) n) k K = (0 ≤ k ∧ k < n ∧ n ≤ L.length ∧ K (.rp ((L.map slS).drop k.toNat))) := by
  simp [ia3, tySl]
theorem zej (e : TypeId) (L : List (List (List UInt8))) (k : Nat) (K : AV → Prop) : ld2 (some (tySl e)) (some ((L.map slS).drop k)) 0 K = (k < L.length ∧ K (slS (L.getD k []))) := by
  by_cases h : k < L.length
  · rw [← List.map_drop, List.drop_eq_getElem_cons h]
    simp [ld2, wfin, tySl, TD.agg, h]
    try (intro _; omega)
  · rw [List.drop_eq_nil_of_le (by simp; omega)]
    simp [ld2, wfin, tySl, h]
theorem asrc_S (σ : zae) (l : List (List UInt8)) : asrc σ 1 (.sl (l.map str) l.length) = some (l.map str, l.length) := by
  simp only [asrc, asl, Nat.mul_one, List.length_map, Nat.le_refl, if_true]
  rw [List.take_of_length_le (by simp)]
theorem wsl_ref_hi (id off len : Nat) (h : Int) (σ : zae) (K : AV → Prop) : zby T 44 (.ref id off len 1) none (some (i64 h)) σ K = (0 ≤ h ∧ h ≤ len ∧ K (.ref id off h.toNat 1)) := by
  simp [zby, T44, tySl, bnd, i64, T9, tyStr]
theorem grow_ok (n : Nat) (h : n ≤ 1000000) : ACalls Tryz.prog 65 [.lit (.slice none 0 0), i64 n] [] (fun y σ => y = .ret (.ref 0 0 0 1) ∧ σ = [.rw ([].map str)]) := by
  refine ACalls.body T_ok Tryz.func65 (by kernel_rfl) rfl Tryz.ntmps65 (congrArg Array.toList Tryz.results65) ?_
  try simp -implicitDefEqProofs only [LB6, LB17, LB20, Int.toNat_natCast, eq_self, decide_true, zbY, zej, zaa (h := T44), TB, SB, Int.reduceToNat, Nat.reduceAdd, Nat.reduceEqDiff, Nat.reduceLT, Nat.reduceMod, Nat.reducePow, Nat.reduceSub, if_true, reduceIte]
  refine ⟨fun hn => absurd hn (by omega), fun _ => ?_⟩
  repeat (with_reducible refine And.intro aQ8 ?_)
  refine ⟨fun h0 => ?_, fun h0 => ?_⟩
  · refine ⟨⟨_, rfl⟩, tyStr, rfl, h0, ⟨by decide, rfl⟩, by simp only [tyStr]; omega, by omega, ?_⟩
    rw [show tyStr.size = 1 from rfl, wsl_ref_hi]
    refine ⟨by omega, by omega, ?_⟩
    try simp -implicitDefEqProofs only [LB6, LB17, LB20, Int.toNat_natCast, eq_self, decide_true, zbY, zej, zaa (h := T44), TB, SB, Int.reduceToNat, Nat.reduceAdd, Nat.reduceEqDiff, Nat.reduceLT, Nat.reduceMod, Nat.reducePow, Nat.reduceSub, if_true, reduceIte]
    refine .inl ⟨[0], .ref 0 0 0 1, [.rw []], rfl, rfl, by simp, by simp [AV.ren], ?_, ?_⟩
    · simp [zau, Blk.ren, renL]
    · simp
  · have hn : n = 0 := by omega
    subst hn
    exact endQ_nilref 1 ⟨rfl, rfl⟩
theorem sequal_ok (a b : List (List UInt8)) (ha : a.length ≤ 1000000000000) : ACalls Tryz.prog 49 [.sl (a.map str) a.length, .sl (b.map str) b.length] [] (fun y _ => y = .ret (bl (decide (a = b)))) := by
  refine ACalls.body T_ok Tryz.func49 (by kernel_rfl) rfl Tryz.ntmps49 (congrArg Array.toList Tryz.results49) ?_
  try simp -implicitDefEqProofs only [LB6, LB17, LB20, Int.toNat_natCast, eq_self, decide_true, zbY, zej, zaa (h := T44), TB, SB, Int.reduceToNat, Nat.reduceAdd, Nat.reduceEqDiff, Nat.reduceLT, Nat.reduceMod, Nat.reducePow, Nat.reduceSub, if_true, reduceIte]
  refine ⟨fun hne => ?_, fun heq => ?_⟩
  · refine zas ?_
    rw [decide_eq_false (fun h => hne (by rw [h]))]
  have hl : a.length = b.length := by omega
  rw [zaS]
  refine ⟨Nat, fun k => k ≤ a.length ∧ ∀ i, i < k → a.getD i [] = b.getD i [], fun k => [.sl (a.map str) a.length, .sl (b.map str) b.length, .bot, .bot, bl false, .bot, .bot, .bot, .bot, .bot, .bot, .sl (a.map str) a.length, i64 a.length, i64 k, .bot, .bot, .bot, .bot, .bot, .bot, .bot, .bot, .bot, .bot, .bot, .bot], fun _ => [], fun k => a.length - k, 0, ⟨Nat.zero_le _, fun i hi => by omega⟩, ?_, ?_⟩
  · refine zal (q := []) rfl rfl (by decide) ?_ ?_
    · refine aQ26 ?_
      simp [zai str zah]
    · first|exact aQ26 trivial|refine aQ26 ?_
  · rintro k ⟨hk, hsame⟩
    try simp -implicitDefEqProofs only [LB6, LB17, LB20, Int.toNat_natCast, eq_self, decide_true, zbY, zej, zaa (h := T44), TB, SB, Int.reduceToNat, Nat.reduceAdd, Nat.reduceEqDiff, Nat.reduceLT, Nat.reduceMod, Nat.reducePow, Nat.reduceSub, if_true, reduceIte]
    refine ⟨fun hlt => ?_, fun hge => ?_⟩
    · refine zdn (by kernel_rfl) (by kernel_rfl) ?_
      try simp -implicitDefEqProofs only [LB6, LB17, LB20, Int.toNat_natCast, eq_self, decide_true, zbY, zej, zaa (h := T44), TB, SB, Int.reduceToNat, Nat.reduceAdd, Nat.reduceEqDiff, Nat.reduceLT, Nat.reduceMod, Nat.reducePow, Nat.reduceSub, if_true, reduceIte]
      repeat (with_reducible refine And.intro aQ8 ?_)
      refine ⟨fun hne => ?_, fun heq => ?_⟩
      · refine zas ?_
        rw [decide_eq_false (by rintro rfl; exact hne rfl)]
      · repeat (with_reducible refine And.intro aQ8 ?_)
        rw [zao]
        refine ⟨k + 1, ⟨by omega, fun i hi => ?_⟩, by omega, zal (q := []) rfl rfl (by decide) ?_ ?_⟩
        · rcases Nat.lt_succ_iff_lt_or_eq.1 hi with h | rfl
          · exact hsame i h
          · simpa using heq
        · refine aQ26 ?_
          simp [zai str zah]
        · first|exact aQ26 trivial|refine aQ26 ?_
    · obtain rfl : k = a.length := by omega
      try simp -implicitDefEqProofs only [LB6, LB17, LB20, Int.toNat_natCast, eq_self, decide_true, zbY, zej, zaa (h := T44), TB, SB, Int.reduceToNat, Nat.reduceAdd, Nat.reduceEqDiff, Nat.reduceLT, Nat.reduceMod, Nat.reducePow, Nat.reduceSub, if_true, reduceIte]
      refine zas ?_
      rw [decide_eq_true (List.ext_getElem hl fun i h1 h2 => by have := hsame i h1; simpa [h1, h2] using this)]
def flt (L : List (List (List UInt8))) (k : Nat) : List (List UInt8) := (L.take k).flatten
theorem zhB (L : List (List (List UInt8))) (k : Nat) (h : k < L.length) : flt L (k + 1) = flt L k ++ L.getD k [] := by
  rw [flt, List.take_succ_eq_append_getElem h, List.flatten_append]
  simp [flt, h]
theorem flt_le (L : List (List (List UInt8))) (B : Nat) (hB : ∀ l ∈ L, l.length ≤ B) : ∀ k, k ≤ L.length → (flt L k).length ≤ k * B
  | 0, _ => by simp [flt]
  | k + 1, h => by
    have ih := flt_le L B hB k (by omega)
    have hm : (L.getD k []).length ≤ B := by
      rw [show L.getD k [] = L[k]'(by omega) by simp [show k < L.length by omega]]
      exact hB _ (List.getElem_mem _)
    rw [zhB L k (by omega), List.length_append, Nat.succ_mul]
    omega
theorem zgu (q : List Nat) (l : List (List UInt8)) : (slS l).ren q = some (slS l) := by simp [slS, AV.ren, zai str zah]
theorem zfa (q : List Nat) (L : List (List (List UInt8))) : renL q (L.map slS) = some (L.map slS) := zai slS zgu q L
theorem concat_ok (L : List (List (List UInt8))) (hL : L.length ≤ 100) (hB : ∀ l ∈ L, l.length ≤ 10000) : ACalls Tryz.prog 43 [.sl (L.map slS) L.length] [] (fun y _ => y = .ret (slS L.flatten)) := by
  have hle := flt_le L 10000 hB
  have hmx : ∀ k, k ≤ L.length → (flt L k).length ≤ 1000000 := fun k hk => by
    have h1 := hle k hk
    have h2 : k * 10000 ≤ 100 * 10000 := Nat.mul_le_mul_right _ (by omega)
    omega
  refine ACalls.body T_ok Tryz.func43 (by kernel_rfl) rfl Tryz.ntmps43 (congrArg Array.toList Tryz.results43) ?_
  try simp -implicitDefEqProofs only [LB6, LB17, LB20, Int.toNat_natCast, eq_self, decide_true, zbY, zej, zaa (h := T44), TB, SB, Int.reduceToNat, Nat.reduceAdd, Nat.reduceEqDiff, Nat.reduceLT, Nat.reduceMod, Nat.reducePow, Nat.reduceSub, if_true, reduceIte]
  rw [zaS]
  refine ⟨Nat, fun k => k ≤ L.length, fun k => [.sl (L.map slS) L.length, .bot, .lit (.slice none 0 0), i64 (flt L k).length, .bot, .bot, .bot, .bot, .bot, .sl (L.map slS) L.length, i64 L.length, i64 k, .bot, .bot, .bot, .bot, .bot, .bot, .bot, .bot, .bot, .bot, .bot, .bot, .bot, .bot, .bot, .bot, .bot, .bot, .bot, .bot, .bot, .bot, .bot, .bot], fun _ => [], fun k => L.length - k, 0, Nat.zero_le _, ?_, ?_⟩
  · refine zal (q := []) rfl rfl (by decide) ?_ ?_
    · refine aQ26 ?_
      simp [zfa, AV.ren, flt]
    · first|exact aQ26 trivial|refine aQ26 ?_
  · intro k hk
    try simp -implicitDefEqProofs only [LB6, LB17, LB20, Int.toNat_natCast, eq_self, decide_true, zbY, zej, zaa (h := T44), TB, SB, Int.reduceToNat, Nat.reduceAdd, Nat.reduceEqDiff, Nat.reduceLT, Nat.reduceMod, Nat.reducePow, Nat.reduceSub, if_true, reduceIte]
    refine ⟨fun hlt => ?_, fun hge => ?_⟩
    · have hk' : k < L.length := by omega
      have hs := hmx (k + 1) hk'
      have he := zhB L k hk'
      rw [he, List.length_append] at hs
      have e5 : slS (L.getD k []) = AV.sl ((L.getD k []).map str) (L.getD k []).length := rfl
      repeat (with_reducible refine And.intro aQ8 ?_)
      simp only [e5]
      try simp -implicitDefEqProofs only [LB6, LB17, LB20, Int.toNat_natCast, eq_self, decide_true, zbY, zej, zaa (h := T44), TB, SB, Int.reduceToNat, Nat.reduceAdd, Nat.reduceEqDiff, Nat.reduceLT, Nat.reduceMod, Nat.reducePow, Nat.reduceSub, if_true, reduceIte]
      repeat (with_reducible refine And.intro aQ8 ?_)
      refine fun _ => ?_
      repeat (with_reducible refine And.intro aQ8 ?_)
      rw [zao]
      refine ⟨k + 1, hk', by (show L.length - (k + 1) < L.length - k); omega, zal (q := []) rfl rfl (by decide) ?_ ?_⟩
      · refine aQ26 ?_
        rw [he, List.length_append]
        simp [AV.ren, zfa, zaj]
      · first|exact aQ26 trivial|refine aQ26 ?_
    · obtain rfl : k = L.length := by omega
      try simp -implicitDefEqProofs only [LB6, LB17, LB20, Int.toNat_natCast, eq_self, decide_true, zbY, zej, zaa (h := T44), TB, SB, Int.reduceToNat, Nat.reduceAdd, Nat.reduceEqDiff, Nat.reduceLT, Nat.reduceMod, Nat.reducePow, Nat.reduceSub, if_true, reduceIte]
      refine ACalls.frame ([]) (grow_ok (flt L L.length).length (hmx _ (Nat.le_refl _))) rfl (by decide) (by simp [LB1, LB2, LB10, LB11, LB12, zau, zaR, renL, AV.ren, AEnd.ren, List.getElem?_cons_zero, List.getElem?_cons_succ]) (by first | rfl | simp [LB1, LB2, LB10, LB11, LB12, zau, zaR, renL, AV.ren, AEnd.ren, List.getElem?_cons_zero, List.getElem?_cons_succ]) ?_
      rintro _ _ ⟨rfl, rfl⟩
      refine ⟨.ret (.ref 0 0 0 1), [.rw ([].map str)], (by show zaR _ _ ([0]) ([0]) 0 _; simp [LB1, LB2, LB10, LB11, LB12, zau, zaR, renL, AV.ren, AEnd.ren, List.getElem?_cons_zero, List.getElem?_cons_succ]), (by show AEnd.ren ([0]) _ _; first | rfl | simp [LB1, LB2, LB10, LB11, LB12, zau, zaR, renL, AV.ren, AEnd.ren, List.getElem?_cons_zero, List.getElem?_cons_succ]), ?_⟩
      try simp -implicitDefEqProofs only [LB6, LB17, LB20, Int.toNat_natCast, eq_self, decide_true, zbY, zej, zaa (h := T44), TB, SB, Int.reduceToNat, Nat.reduceAdd, Nat.reduceEqDiff, Nat.reduceLT, Nat.reduceMod, Nat.reducePow, Nat.reduceSub, if_true, reduceIte]
      rw [zaS]
      refine ⟨Nat, fun k => k ≤ L.length, fun k => [.sl (L.map slS) L.length, .bot, .lit (.slice none 0 0), .bot, .bot, .bot, .ref 0 0 (flt L k).length 1, .bot, .bot, .bot, .bot, .bot, .bot, .bot, .bot, .bot, .bot, .bot, .bot, .bot, .bot, .bot, .bot, .bot, .bot, .sl (L.map slS) L.length, i64 L.length, i64 k, .bot, .bot, .bot, .bot, .bot, .bot, .bot, .bot], fun k => [.rw ((flt L k).map str)], fun k => L.length - k, 0, Nat.zero_le _, ?_, ?_⟩
      · refine zal (q := [0]) rfl rfl (by decide) ?_ ?_
        · refine aQ26 ?_
          simp [zfa, AV.ren, flt]
        · simp [zau, Blk.ren, renL, flt]
      · intro k hk
        try simp -implicitDefEqProofs only [LB6, LB17, LB20, Int.toNat_natCast, eq_self, decide_true, zbY, zej, zaa (h := T44), TB, SB, Int.reduceToNat, Nat.reduceAdd, Nat.reduceEqDiff, Nat.reduceLT, Nat.reduceMod, Nat.reducePow, Nat.reduceSub, if_true, reduceIte]
        refine ⟨fun hlt => ?_, fun hge => ?_⟩
        · have hk' : k < L.length := by omega
          have hs := hmx (k + 1) hk'
          have he := zhB L k hk'
          rw [he, List.length_append] at hs
          have e5 : slS (L.getD k []) = AV.sl ((L.getD k []).map str) (L.getD k []).length := rfl
          repeat (with_reducible refine And.intro aQ8 ?_)
          simp only [e5]
          try simp -implicitDefEqProofs only [LB6, LB17, LB20, Int.toNat_natCast, eq_self, decide_true, zbY, zej, zaa (h := T44), TB, SB, Int.reduceToNat, Nat.reduceAdd, Nat.reduceEqDiff, Nat.reduceLT, Nat.reduceMod, Nat.reducePow, Nat.reduceSub, if_true, reduceIte]
          refine zbb str zac rfl rfl T44 T44 (zcV _) T9 zbW (l := flt L k) (ys := L.getD k []) (m := (L.getD k []).length) rfl rfl (asrc_S _ _) (by omega) (by simp only [tyStr]; omega) ?_
          try simp -implicitDefEqProofs only [LB6, LB17, LB20, Int.toNat_natCast, eq_self, decide_true, zbY, zej, zaa (h := T44), TB, SB, Int.reduceToNat, Nat.reduceAdd, Nat.reduceEqDiff, Nat.reduceLT, Nat.reduceMod, Nat.reducePow, Nat.reduceSub, if_true, reduceIte]
          repeat (with_reducible refine And.intro aQ8 ?_)
          rw [zao]
          refine ⟨k + 1, hk', by (show L.length - (k + 1) < L.length - k); omega, zal (q := [1]) rfl rfl (by decide) ?_ ?_⟩
          · refine aQ26 ?_
            rw [he, List.length_append]
            simp [AV.ren, zfa, zaj]
          · rw [zdD str zah, he]
            exact ⟨rfl, trivial⟩
        · obtain rfl : k = L.length := by omega
          try simp -implicitDefEqProofs only [LB6, LB17, LB20, Int.toNat_natCast, eq_self, decide_true, zbY, zej, zaa (h := T44), TB, SB, Int.reduceToNat, Nat.reduceAdd, Nat.reduceEqDiff, Nat.reduceLT, Nat.reduceMod, Nat.reducePow, Nat.reduceSub, if_true, reduceIte]
          have hf : flt L L.length = L.flatten := by rw [flt, List.take_length]
          rw [hf]
          refine endQ_sl rfl (by rw [List.length_map]; omega) (zai str zah _ _) ?_
          rw [List.drop_zero, List.take_of_length_le (by rw [List.length_map]; omega)]
          rfl
end Go.Proofs.YtgfcmbinpmpmgaaGreatDoor
end

section
namespace Go.Proofs.YtgfcmbinpmpmgaaGreatDoor
open Go Go.Eng
theorem zda {σ : zae} {id n : Nat} {l : List (List UInt8)} (h : σ[id]? = some (.rw (l.map str))) (hn : n = l.length) : asrc σ 1 (.ref id 0 n 1) = some (l.map str, n) := by
  subst hn
  simp only [asrc, asl, rd, h, if_true, Option.bind_some, Nat.mul_one, Nat.zero_add, List.length_map, Nat.le_refl, List.drop_zero]
  rw [List.take_of_length_le (by simp)]
theorem zeL {α : Type} (f : α → AV) (hf : ∀ a, (f a).one = true) {ts : Array TypeId} {t t1 e : TypeId} {te : TI} {z : AV} {tx : TI} (h0 : ts[0]? = some t) (h1 : ts[1]? = some t1) (ht : T t = some (tySl e)) (ht1 : T t1 = some tx) (hx : (∀ k, tx.d ≠ .int k) ∧ tx.d ≠ .other) (he : T e = some te) (ho : one1 te z)
    {ys : List α} {m : Nat} {x : AV} {σ : zae} {KS : AV → zae → Prop} (hs : asrc σ 1 x = some (ys.map f, m)) (g1 : m ≤ 9223372036854775807) (g2 : m * te.bytes ≤ 140737488355328) (hk : KS (.ref σ.length 0 m 1) (σ ++ [.rw (ys.map f)])) : za5 T ts (.lit (.slice none 0 0)) x σ KS := by
  rw [append_nil h0 h1 ht ht1 hx he ho hs (zci f hf ys)]
  exact ⟨g1, g2, hk⟩
theorem zdp {σ : zae} {id n : Nat} {l : List (List UInt8)} (h : σ[id]? = some (.ro (l.map str))) (hn : n = l.length) : frzA σ (.ref id 0 n 1) (.sl (l.map str) l.length) := by
  subst hn
  refine .inr ⟨_, h, by simp, ?_⟩
  rw [List.drop_zero, List.take_of_length_le (by simp)]
theorem zgv (l : List (List UInt8)) (e : Int) (q : List Nat) : (AV.tup [slS l, i64 e]).ren q = some (.tup [slS l, i64 e]) := by simp [slS, AV.ren, renL, zai str zah, zaj]
theorem zcG {σ : zae} {e : Int} {K : AV → zae → Prop} (h : K (.tup [slS [], i64 e]) []) : endQ 0 (.tup [.lit (.slice none 0 0), i64 e]) σ K :=
  zbs [] (.tup [.sl [] 0, i64 e]) ⟨_, rfl, _, _, rfl, .inr ⟨rfl, rfl⟩, _, _, rfl, .inl rfl, rfl⟩ ⟨[], _, [], rfl, rfl, by decide, zgv [] e _, trivial, h⟩
theorem setRo_one {σ : zae} {id : Nat} {cs : List AV} (h : σ[id]? = some (.rw cs)) : (zbV σ [id])[id]? = some (.ro cs) := by
  have hl := (List.getElem?_eq_some_iff.1 h).1
  simp only [zbV, h]
  simp [hl]
theorem end_refE {σ : zae} {id : Nat} {l : List (List UInt8)} {e : Int} {K : AV → zae → Prop} (hi : σ[id]? = some (.rw (l.map str))) (h : K (.tup [slS l, i64 e]) []) : endQ 0 (.tup [.ref id 0 l.length 1, i64 e]) σ K :=
  zbs [id] (.tup [slS l, i64 e]) ⟨_, rfl, _, _, rfl, zdp (setRo_one hi) rfl, _, _, rfl, .inl rfl, rfl⟩ ⟨[], _, [], rfl, rfl, by decide, zgv l e _, trivial, h⟩
theorem zeg (s : List UInt8) (l : List (List UInt8)) : zaV (s :: l) = zdg 3 :: (escT s ++ zaV l) := by
  simp [zaV]
end Go.Proofs.YtgfcmbinpmpmgaaGreatDoor
end

section
namespace Go.Proofs.YtgfcmbinpmpmgaaGreatDoor
open Go Go.Eng
set_option linter.defProp false in
def LB21 := And.intro @zbY (@zej)
theorem rdT_le : ∀ (n : Nat) (s : List UInt8), s.length ≤ n → ∀ x, rdT s = some x → 2 ≤ x.2 ∧ x.2 ≤ s.length
  | 0, s, h, x, hx => by
    have : s = [] := List.eq_nil_of_length_eq_zero (by omega)
    subst this
    cases hx
  | n + 1, s, h, x, hx => by
    match s, h, hx with
    | [], _, hx => cases hx
    | [_], _, hx => cases hx
    | c :: b :: r, h, hx =>
      simp only [List.length_cons] at h ⊢
      rw [rdT] at hx
      split at hx
      · split at hx
        · cases hx; simp
        · split at hx
          · cases hr : rdT r with
            | none => rw [hr] at hx; cases hx
            | some y =>
              rw [hr] at hx
              cases hx
              have := rdT_le n r (by omega) y hr
              simp only; omega
          · cases hx
      · cases hr : rdT (b :: r) with
        | none => rw [hr] at hx; cases hx
        | some y =>
          rw [hr] at hx
          cases hx
          have := rdT_le n (b :: r) aQ7 y hr
          simp only [List.length_cons] at this ⊢; omega
def za2 : Nat → List UInt8 → Option (List (List UInt8))
  | 0, s => if s = [] then some [] else none
  | f + 1, s => if s = [] then some [] else match nodR s 0 with
    | some (n, e) => if n.kind = 3 then (za2 f (s.drop e)).map (n.text :: ·) else none
    | none => none
def zat (s : List UInt8) : List (List UInt8) × Int := match za2 s.length s with
  | some l => (l, 0)
  | none => ([], 5)
theorem nodR_le {s : List UInt8} {x : Nd × Nat} (h : nodR s 0 = some x) (h3 : x.1.kind = 3) : 1 ≤ x.2 ∧ x.2 ≤ s.length := by
  rw [nodR, List.drop_zero] at h
  match s, h with
  | [], h => cases h
  | c :: r, h =>
    simp only at h
    split at h
    · cases h; simp
    · split at h
      · match r, h with
        | [], h => cases h
        | b :: r, h =>
          simp only at h
          split at h
          · cases h; simp
          · cases h
      · split at h
        · split at h
          · cases h
          · cases h; simp only [List.length_cons]; omega
        · split at h
          · cases hr : rdT r with
            | none => rw [hr] at h; cases h
            | some y =>
              rw [hr] at h
              cases h
              have := rdT_le r.length r (Nat.le_refl _) y hr
              simp only [List.length_cons]; omega
          · cases h
theorem zck (f : Nat) : za2 f [] = some [] := by cases f <;> simp [za2]
theorem zeM : ∀ (f g : Nat) (s : List UInt8), s.length ≤ f → s.length ≤ g → za2 f s = za2 g s
  | 0, g, s, h, _ => by
    have : s = [] := List.eq_nil_of_length_eq_zero (by omega)
    subst this
    rw [zck, zck]
  | f + 1, 0, s, _, h => by
    have : s = [] := List.eq_nil_of_length_eq_zero (by omega)
    subst this
    rw [zck, zck]
  | f + 1, g + 1, s, hf, hg => by
    simp only [za2]
    split
    · rfl
    · cases hx : nodR s 0 with
      | none => rfl
      | some x =>
        obtain ⟨n, e⟩ := x
        simp only
        split
        · rename_i h3
          have := nodR_le hx h3
          rw [zeM f g (s.drop e) aQ11 aQ11]
        · rfl
def accA (l : List (List UInt8)) : AV := match l with
  | [] => nilS
  | _ :: _ => .ref 0 0 l.length 1
def accS (l : List (List UInt8)) : zae := match l with
  | [] => []
  | _ :: _ => [.rw (l.map str)]
theorem zdH : accA [] = .lit (.slice none 0 0) := rfl
theorem zcX (a : List UInt8) (l : List (List UInt8)) : accA (a :: l) = .ref 0 0 (a :: l).length 1 := rfl
theorem zdI : accS [] = [] := rfl
theorem zcY (a : List UInt8) (l : List (List UInt8)) : accS (a :: l) = [.rw ((a :: l).map str)] := rfl
theorem zhC (s : List UInt8) (hs : s.length ≤ 1000000000) : ACalls Tryz.prog 57 [str s] [] (fun y _ => y = .ret (.tup [slS (zat s).1, i64 (zat s).2])) := by
  refine ACalls.body T_ok Tryz.func57 (by kernel_rfl) rfl Tryz.ntmps57 (congrArg Array.toList Tryz.results57) ?_
  try simp -implicitDefEqProofs only [LB6, LB8, LB17, LB20, LB21, eq_self, zaa (h := T44), TB, SB, Int.reduceToNat, Nat.reduceAdd, Nat.reduceEqDiff, Nat.reduceLT, Nat.reduceMod, Nat.reducePow, Nat.reduceSub, if_true, reduceIte]
  rw [zaS]
  refine ⟨List (List UInt8) × List UInt8, fun x => x.1.length + x.2.length ≤ s.length ∧ za2 s.length s = (za2 x.2.length x.2).map (x.1 ++ ·), fun x => [str x.2, .bot, .bot, .bot, accA x.1, .bot, .bot, .bot, .bot, .bot, .bot, .bot, .bot, .bot, .bot, .bot, .bot, .bot, .bot, .bot, .bot, .bot, .bot, .bot, .bot, .bot, .bot, .bot, .bot, .bot, .bot, .bot], fun x => accS x.1, fun x => x.2.length, ([], s), ⟨by simp, by cases za2 s.length s <;> simp⟩, ?_, ?_⟩
  · refine zal (q := []) rfl rfl (by decide) ?_ ?_
    · refine aQ26 ?_
      simp [accA, nilS, AV.ren]
    · refine aQ26 ?_
      simp [accS, zau]
  · rintro ⟨acc, r⟩ ⟨hlen, heq⟩
    dsimp only at hlen heq ⊢
    try simp -implicitDefEqProofs only [LB6, LB8, LB17, LB20, LB21, eq_self, zaa (h := T44), TB, SB, Int.reduceToNat, Nat.reduceAdd, Nat.reduceEqDiff, Nat.reduceLT, Nat.reduceMod, Nat.reducePow, Nat.reduceSub, if_true, reduceIte]
    refine ⟨fun hne => ?_, fun he => ?_⟩
    · have hk : r ≠ [] := hne
      have hrl : r.length ≠ 0 := fun h => hk (List.eq_nil_of_length_eq_zero h)
      obtain ⟨rn, hrn⟩ : ∃ rn, r.length = rn + 1 := ⟨r.length - 1, by omega⟩
      have hone := one_ok r (by omega)
      cases hx : nodR r 0 with
      | none =>
        have e1 : oneR r = (n0d, 0, false) := by rw [oneR, hx]
        have e2 : zat s = ([], 5) := by rw [zat, heq, hrn, za2, if_neg hk, hx]; rfl
        rw [e1] at hone
        cases acc
        all_goals simp only [zdH, zcX, zdI, zcY]
        · skip
          refine (hone).pure aQ9 ?_
          rintro _ σ rfl
          refine ⟨by first | rfl | simp [AEnd.noid, AV.ren, renL, zbj, zai str zah, zbA, zbn, zbv, zaj, zaz, zah], ?_⟩
          try simp -implicitDefEqProofs only [LB6, LB8, LB17, LB20, LB21, eq_self, zaa (h := T44), TB, SB, Int.reduceToNat, Nat.reduceAdd, Nat.reduceEqDiff, Nat.reduceLT, Nat.reduceMod, Nat.reducePow, Nat.reduceSub, if_true, reduceIte]
          exact zcG (by rw [e2])
        · skip
          refine (hone).pure aQ9 ?_
          rintro _ σ rfl
          refine ⟨by first | rfl | simp [AEnd.noid, AV.ren, renL, zbj, zai str zah, zbA, zbn, zbv, zaj, zaz, zah], ?_⟩
          try simp -implicitDefEqProofs only [LB6, LB8, LB17, LB20, LB21, eq_self, zaa (h := T44), TB, SB, Int.reduceToNat, Nat.reduceAdd, Nat.reduceEqDiff, Nat.reduceLT, Nat.reduceMod, Nat.reducePow, Nat.reduceSub, if_true, reduceIte]
          exact zcG (by rw [e2])
      | some x =>
        obtain ⟨n, e⟩ := x
        have e1 : oneR r = (n, e, true) := by rw [oneR, hx]
        rw [e1] at hone
        by_cases h3 : n.kind = 3
        · have hle := nodR_le hx h3
          dsimp only at hle
          have e3 : za2 r.length r = (za2 (r.drop e).length (r.drop e)).map (n.text :: ·) := by
            rw [hrn, za2, if_neg hk, hx]
            simp only [h3, if_true]
            rw [zeM rn (r.drop e).length (r.drop e) aQ11 (Nat.le_refl _)]
          cases acc with
          | nil =>
            simp only [zdH, zdI]
            refine (hone).pure aQ9 ?_
            rintro _ σ rfl
            refine ⟨by first | rfl | simp [AEnd.noid, AV.ren, renL, zbj, zai str zah, zbA, zbn, zbv, zaj, zaz, zah], ?_⟩
            try simp -implicitDefEqProofs only [LB6, LB8, LB17, LB20, LB21, eq_self, zaa (h := T44), TB, SB, Int.reduceToNat, Nat.reduceAdd, Nat.reduceEqDiff, Nat.reduceLT, Nat.reduceMod, Nat.reducePow, Nat.reduceSub, if_true, reduceIte]
            refine ⟨fun h => absurd h3 h, fun _ => ?_⟩
            refine W_drawP [1, 2, 0, 5, 6, 7, 3, 4, 8, 9] [6, 0] (by kernel_rfl) (by kernel_rfl) (by kernel_rfl) (by kernel_rfl) ?_
            simp only [zcE, zgU, List.map_cons, List.map_nil, List.getElem?_cons_zero, List.getElem?_cons_succ, Option.getD_some]
            try simp -implicitDefEqProofs only [LB6, LB8, LB17, LB20, LB21, eq_self, zaa (h := T44), TB, SB, Int.reduceToNat, Nat.reduceAdd, Nat.reduceEqDiff, Nat.reduceLT, Nat.reduceMod, Nat.reducePow, Nat.reduceSub, if_true, reduceIte]
            refine ⟨by omega, by omega, ?_⟩
            refine zeL str zac rfl rfl T44 T44 (zcV _) T9 zbW (ys := [n.text]) (m := 1) (zda (l := [n.text]) rfl rfl) (by omega) (by simp only [tyStr]; omega) ?_
            try simp -implicitDefEqProofs only [LB6, LB8, LB17, LB20, LB21, eq_self, zaa (h := T44), TB, SB, Int.reduceToNat, Nat.reduceAdd, Nat.reduceEqDiff, Nat.reduceLT, Nat.reduceMod, Nat.reducePow, Nat.reduceSub, if_true, reduceIte]
            rw [zao]
            refine ⟨([n.text], r.drop e), ⟨by simp only [List.length_cons, List.length_nil, List.length_drop] at hlen ⊢; omega, by rw [heq, e3]; cases za2 (r.drop e).length (r.drop e) <;> rfl⟩, by (show (r.drop e).length < r.length); rw [List.length_drop]; omega, zal (q := [2]) rfl rfl (by decide) ?_ ?_⟩
            · refine aQ26 ?_
              simp [accA, AV.ren]
            · refine aQ26 ?_
              simp [accS, zau, Blk.ren, renL, zah]
          | cons a acc =>
            simp only [zcX, zcY]
            refine (hone).pure aQ9 ?_
            rintro _ σ rfl
            refine ⟨by first | rfl | simp [AEnd.noid, AV.ren, renL, zbj, zai str zah, zbA, zbn, zbv, zaj, zaz, zah], ?_⟩
            try simp -implicitDefEqProofs only [LB6, LB8, LB17, LB20, LB21, eq_self, zaa (h := T44), TB, SB, Int.reduceToNat, Nat.reduceAdd, Nat.reduceEqDiff, Nat.reduceLT, Nat.reduceMod, Nat.reducePow, Nat.reduceSub, if_true, reduceIte]
            refine ⟨fun h => absurd h3 h, fun _ => ?_⟩
            refine W_drawP [1, 2, 0, 5, 6, 7, 3, 4, 8, 9] [6, 0] (by kernel_rfl) (by kernel_rfl) (by kernel_rfl) (by kernel_rfl) ?_
            simp only [zcE, zgU, List.map_cons, List.map_nil, List.getElem?_cons_zero, List.getElem?_cons_succ, Option.getD_some]
            try simp -implicitDefEqProofs only [LB6, LB8, LB17, LB20, LB21, eq_self, zaa (h := T44), TB, SB, Int.reduceToNat, Nat.reduceAdd, Nat.reduceEqDiff, Nat.reduceLT, Nat.reduceMod, Nat.reducePow, Nat.reduceSub, if_true, reduceIte]
            refine ⟨by omega, by omega, ?_⟩
            refine zbb str zac rfl rfl T44 T44 (zcV _) T9 zbW (l := a :: acc) (ys := [n.text]) (m := 1) rfl rfl (zda (l := [n.text]) rfl rfl) (by simp only [List.length_cons] at hlen ⊢; omega) (by simp only [tyStr]; simp only [List.length_cons] at hlen ⊢; omega) ?_
            try simp -implicitDefEqProofs only [LB6, LB8, LB17, LB20, LB21, eq_self, zaa (h := T44), TB, SB, Int.reduceToNat, Nat.reduceAdd, Nat.reduceEqDiff, Nat.reduceLT, Nat.reduceMod, Nat.reducePow, Nat.reduceSub, if_true, reduceIte]
            rw [zao]
            refine ⟨(a :: acc ++ [n.text], r.drop e), ⟨by simp only [List.length_cons, List.length_append, List.length_nil, List.length_drop] at hlen ⊢; omega, by rw [heq, e3]; cases za2 (r.drop e).length (r.drop e) <;> simp⟩, by (show (r.drop e).length < r.length); rw [List.length_drop]; omega, zal (q := [3]) rfl rfl (by decide) ?_ ?_⟩
            · refine aQ26 ?_
              simp [accA, AV.ren]
            · refine aQ26 ?_
              refine ⟨.inr ⟨.rw ((a :: acc ++ [n.text]).map str), ?_, rfl⟩, trivial⟩
              show (Blk.rw ((a :: acc ++ [n.text]).map str)).ren [3] = _
              rw [za1, zai str zah]
              rfl
        · have e2 : zat s = ([], 5) := by rw [zat, heq, hrn, za2, if_neg hk, hx]; simp only [if_neg h3]; rfl
          cases acc
          all_goals simp only [zdH, zcX, zdI, zcY]
          · skip
            refine (hone).pure aQ9 ?_
            rintro _ σ rfl
            refine ⟨by first | rfl | simp [AEnd.noid, AV.ren, renL, zbj, zai str zah, zbA, zbn, zbv, zaj, zaz, zah], ?_⟩
            try simp -implicitDefEqProofs only [LB6, LB8, LB17, LB20, LB21, eq_self, zaa (h := T44), TB, SB, Int.reduceToNat, Nat.reduceAdd, Nat.reduceEqDiff, Nat.reduceLT, Nat.reduceMod, Nat.reducePow, Nat.reduceSub, if_true, reduceIte]
            exact ⟨fun _ => zcG (by rw [e2]), fun h => absurd h h3⟩
          · skip
            refine (hone).pure aQ9 ?_
            rintro _ σ rfl
            refine ⟨by first | rfl | simp [AEnd.noid, AV.ren, renL, zbj, zai str zah, zbA, zbn, zbv, zaj, zaz, zah], ?_⟩
            try simp -implicitDefEqProofs only [LB6, LB8, LB17, LB20, LB21, eq_self, zaa (h := T44), TB, SB, Int.reduceToNat, Nat.reduceAdd, Nat.reduceEqDiff, Nat.reduceLT, Nat.reduceMod, Nat.reducePow, Nat.reduceSub, if_true, reduceIte]
            exact ⟨fun _ => zcG (by rw [e2]), fun h => absurd h h3⟩
    · have hk : r = [] := by simpa using he
      subst hk
      have e2 : zat s = (acc, 0) := by rw [zat, heq, zck]; simp
      cases acc with
      | nil =>
        simp only [zdH, zdI]
        try simp -implicitDefEqProofs only [LB6, LB8, LB17, LB20, LB21, eq_self, zaa (h := T44), TB, SB, Int.reduceToNat, Nat.reduceAdd, Nat.reduceEqDiff, Nat.reduceLT, Nat.reduceMod, Nat.reducePow, Nat.reduceSub, if_true, reduceIte]
        exact zcG (by rw [e2])
      | cons a acc =>
        simp only [zcX, zcY]
        try simp -implicitDefEqProofs only [LB6, LB8, LB17, LB20, LB21, eq_self, zaa (h := T44), TB, SB, Int.reduceToNat, Nat.reduceAdd, Nat.reduceEqDiff, Nat.reduceLT, Nat.reduceMod, Nat.reducePow, Nat.reduceSub, if_true, reduceIte]
        exact end_refE (l := a :: acc) rfl (by rw [e2])
theorem rdT_esc : ∀ (s r : List UInt8), rdT (escT s ++ r) = some (s, (escT s).length)
  | [], r => rfl
  | c :: s, r => by
    have ih := rdT_esc s r
    unfold escT at ih ⊢
    by_cases hc : c = 0
    · subst hc
      rw [esc_0]
      simp only [List.cons_append]
      rw [zhZ, ih]
      simp
    · rw [esc_1 hc]
      simp only [List.cons_append]
      rw [rdT_1 hc, ih]
      simp
theorem nodR_text (s r : List UInt8) : nodR (zdg 3 :: (escT s ++ r)) 0 = some (⟨3, 0, s, 0⟩, 1 + (escT s).length) := by
  have h4 : (zdg 3).toNat = 4 := by decide
  rw [nodR, List.drop_zero]
  simp only [h4, rdT_esc]
  simp
theorem zgw : ∀ (l : List (List UInt8)) (f : Nat), (zaV l).length ≤ f → za2 f (zaV l) = some l
  | [], f, _ => by rw [show zaV [] = [] from rfl, zck]
  | s :: l, 0, h => by rw [zeg] at h; simp at h
  | s :: l, f + 1, h => by
    rw [zeg] at h ⊢
    have hd : (zdg 3 :: (escT s ++ zaV l)).drop (1 + (escT s).length) = zaV l := by
      rw [Nat.add_comm, List.drop_succ_cons, List.drop_left]
    rw [za2, if_neg (by simp), nodR_text]
    simp only [if_true]
    rw [hd, zgw l f (by simp only [List.length_cons, List.length_append] at h; omega)]
    rfl
theorem zcl (l : List (List UInt8)) : zat (zaV l) = (l, 0) := by rw [zat, zgw l _ (Nat.le_refl _)]
theorem joinL_inj {a b : List (List UInt8)} (h : zaV a = zaV b) : a = b := by
  have h1 := zcl a
  have h2 := zcl b
  rw [h, h2] at h1
  exact (congrArg Prod.fst h1).symm
end Go.Proofs.YtgfcmbinpmpmgaaGreatDoor
end

