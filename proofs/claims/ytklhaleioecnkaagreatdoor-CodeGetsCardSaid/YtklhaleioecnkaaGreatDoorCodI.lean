/-
  The document's reader of a map, the law's walk, and what the listed variables hold. No condition.
-/
import Derived.Test.YtklhaleioecnkaaGreatDoorCodH
import Derived.LaidMore
import Derived.Lay
import Derived.LaidHandle
import Derived.Stop.LaidErr
import Derived.Lib.LaidTab
import Derived.Stop.Joined
import Derived.HandedShaped
import Derived.Shelf.Strings.Shaped
set_option linter.unusedSimpArgs false
set_option linter.unusedVariables false
set_option linter.unusedSectionVars false
section
namespace Go.Eng
open Go
theorem aQ56 {P Q : Prop} (h : Q) (e : P = Q := by first|(simp -implicitDefEqProofs only [LM7, eq_self, zaB, zaj, zas, TB, SB, Int.reduceToNat, Nat.reduceAdd, Nat.reduceEqDiff, Nat.reduceLT, Nat.reduceMod, Nat.reducePow, Nat.reduceSub, if_true, reduceIte];first|done|exact rfl)|exact rfl) : P := e ▸ h
theorem aQ57 {P Q : Prop} (h : Q) (e : P = Q := by first|(simp only [Option.map_some, Function.comp_apply, List.append_assoc, List.cons_append, List.nil_append, Option.some.injEq, Prod.mk.injEq, true_and];first|done|exact rfl)|exact rfl) : P := e ▸ h
end Go.Eng
end

section
namespace Go.Proofs.YtklhaleioecnkaaGreatDoor
open Go Go.Eng
set_option linter.defProp false in
def LB24 := And.intro @zhK (And.intro @zhL (@ld_t1))
set_option linter.defProp false in
def LM7 := And.intro LM3 (And.intro LB23 (LB24))
theorem leB_geq (t last : List UInt8) : leB t last = !Op.bytesLess last t := by
  rw [leB, Go.Proofs.bytesLess_eq, Go.Proofs.bytesLess_eq]
  rcases Std.lt_trichotomy t last with h | h | h
  · rw [decide_eq_true h, decide_eq_false (fun h2 => List.lt_irrefl _ (List.lt_trans h h2))]
    rfl
  · subst h
    rw [decide_eq_true rfl, decide_eq_false (List.lt_irrefl _)]
    rfl
  · rw [decide_eq_false (fun h2 => List.lt_irrefl _ (List.lt_trans h h2)), decide_eq_true h, decide_eq_false (fun h2 => by subst h2; exact List.lt_irrefl _ h)]
    rfl
theorem kidsP_M {V : List UInt8 → Option (List Nd × Nat)} {g c : Nat} {last r : List UInt8} {b : UInt8} (h : b ≠ 0) : zbN V true (g + 1) c last (b :: r) = if b = 1 then match rdT r with
        | none => none
        | some x => if 0 < c ∧ leB x.1 last = true then none else match V (r.drop x.2) with
          | none => none
          | some y => (zbN V true g (c + 1) x.1 (r.drop (x.2 + y.2))).map fun z => (⟨3, 0, x.1, 0⟩ :: (y.1 ++ z.1), z.2.1 + 1, 1 + x.2 + y.2 + z.2.2)
      else none := by
  rw [zbN, if_neg h, if_pos rfl]
  by_cases h1 : b = 1
  · rw [if_pos h1, if_pos h1]
    cases rdT r with
    | none => rfl
    | some x =>
      dsimp only
      split
      · rfl
      · cases V (r.drop x.2) <;> rfl
  · rw [if_neg h1, if_neg h1]
set_option maxRecDepth 20000 in
set_option maxHeartbeats 8000000 in
theorem rv_map (s : List UInt8) (hs : s.length ≤ 1000) (f p d : Nat) (hlt : p < s.length) (hf : s.length - p ≤ f + 1) (hd : d + (s.length - p) ≤ 3000) (hm : (s.getD p 0).toNat = 6)
    (ih : ∀ p d : Nat, p ≤ s.length → s.length - p ≤ f → d + (s.length - p) ≤ 3000 → ACalls Tryz.prog 38 [str s, i64 p, i64 d] [] (fun y _ => y = .ret (seO (valP f (s.drop p)) p))) :
    ACalls Tryz.prog 38 [str s, i64 p, i64 d] [] (fun y _ => y = .ret (seO (valP (f + 1) (s.drop p)) p)) := by
  have e1 : (UInt8.ofNat 1).toNat = 1 := rfl
  have e6 : (UInt8.ofNat 6).toNat = 6 := rfl
  have hc := za1 hlt
  have c : decide ((s.length : Int) ≤ (p : Int)) = false := decide_eq_false (by omega)
  have c3 : decide (3000 < (d : Int)) = false := decide_eq_false (by omega)
  have d1 : decide ((s.getD p 0).toNat < (UInt8.ofNat 1).toNat) = false := decide_eq_false (by omega)
  have d6 : decide ((UInt8.ofNat 6).toNat < (s.getD p 0).toNat) = false := decide_eq_false (by omega)
  have hk : ((s.getD p 0).toNat : Int) - 1 = 5 := by omega
  have hv : valP (f + 1) (s.drop p) = (zbN (valP f) true f 0 [] (s.drop (p + 1))).map fun x => (⟨5, 0, [], (x.2.1 : Int)⟩ :: x.1, 1 + x.2.2) := by
    rw [hc, zcB, zcC, if_pos (by omega), hk]
    rfl
  rw [hv]
  refine ACalls.body T_ok Tryz.func38 (by kernel_rfl) rfl Tryz.ntmps38 (congrArg Array.toList Tryz.results38) ?_
  try simp -implicitDefEqProofs only [LM7, eq_self, zaB, zaj, zas, c, c3, d1, d6, TB, SB, Int.reduceToNat, Nat.reduceAdd, Nat.reduceEqDiff, Nat.reduceLT, Nat.reduceMod, Nat.reducePow, Nat.reduceSub, if_true, reduceIte]
  refine ⟨by omega, by omega, ?_⟩
  try simp -implicitDefEqProofs only [LM7, eq_self, zaB, zaj, zas, c, c3, d1, d6, TB, SB, Int.reduceToNat, Nat.reduceAdd, Nat.reduceEqDiff, Nat.reduceLT, Nat.reduceMod, Nat.reducePow, Nat.reduceSub, if_true, reduceIte]
  refine ⟨by omega, by omega, ?_⟩
  try simp -implicitDefEqProofs only [LM7, eq_self, zaB, zaj, zas, c, c3, d1, d6, TB, SB, Int.reduceToNat, Nat.reduceAdd, Nat.reduceEqDiff, Nat.reduceLT, Nat.reduceMod, Nat.reducePow, Nat.reduceSub, if_true, reduceIte]
  refine ⟨by omega, by omega, ?_⟩
  rw [hk]
  try simp -implicitDefEqProofs only [LM7, eq_self, zaB, zaj, zas, c, c3, d1, d6, TB, SB, Int.reduceToNat, Nat.reduceAdd, Nat.reduceEqDiff, Nat.reduceLT, Nat.reduceMod, Nat.reducePow, Nat.reduceSub, if_true, reduceIte]
  refine ⟨by unfold inI; omega, by unfold inI; omega, fun h => absurd h (by decide), fun _ => ?_⟩
  refine aQ56 ?_
  refine ⟨fun h => absurd h (by decide), fun _ => ?_⟩
  refine aQ56 ?_
  refine ⟨fun h => absurd h (by decide), fun _ => ?_⟩
  refine aQ56 ?_
  refine ⟨fun h => absurd h (by decide), fun _ => ?_⟩
  refine aQ56 ?_
  rw [zbB]
  refine ⟨Nat × Nat × Nat × List UInt8 × List Nd, totP f true s p, fun x => [str s, i64 x.2.1, i64 d, .bot, .bot, .bot, .ptr 0 0, i64 5, .ref 1 0 (x.2.2.2.2.length + 1) 4, str x.2.2.2.1, .bot, .bot, .bot, .bot, .bot, .bot, .bot, .bot, .bot, .bot, .bot, .bot, .bot, .bot, .bot, .bot, .bot, .bot, .bot, .bot, .bot, .bot, .bot, .bot, .bot, .bot, .bot, .bot, .bot, .bot, .bot, .bot, .bot, .bot, .bot, .bot, .bot, .bot, .bot, .bot, .bot, .bot, .bot, .bot, .bot, .bot, .bot, .bot, .bot, .bot, .bot, .bot, .bot, .bot, .bot, .bot, .bot, .bot, .bot, .bot, .bot, .bot, .bot, .bot, .bot, .bot, .bot, .bot, .bot, .bot, .bot, .bot, .bot, .bot, .bot, .bot, .bot, .bot, .bot, .bot, .bot, .bot, .bot, .bot, .bot, .bot, .bot, .bot, .bot, .bot, .bot, .bot, .bot, .bot, .bot, .bot, .bot, .bot, .bot, .bot, .bot, .bot, .bot, .bot, .bot, .bot, .bot, .bot, .bot, .bot, .bot, .bot, .bot, .bot, .bot, .bot, .bot, .bot, .bot, .bot, .bot, .bot, .bot, .bot, .bot, .bot, .bot, .bot, .bot, .bot, .bot, .bot, .bot, .bot, .bot, .bot, .bot, .bot, .bot, .bot, .bot, .bot, .bot, .bot, .bot, .bot, .bot, .bot, .bot, .bot, .bot, .bot, .bot, .bot, .bot, .bot, .bot, .bot, .bot, .bot, .bot, .bot, .bot, .bot, .bot, .bot, .bot, .bot, .bot, .bot, .bot], fun x => [.rw [.lit (.slice none 0 0), i64 0, bl false], .rw (kRow 5 x.2.2.1 x.2.2.2.2)], fun x => s.length - x.2.1, (f, p + 1, 0, [], []), ⟨by dsimp only; omega, by dsimp only; omega, by dsimp only; omega, by simp, by simp, ?_⟩, zan (q := [0, 1]) rfl rfl (by decide) ?_ ?_, ?_⟩
  · dsimp only
    cases zbN (valP f) true f 0 [] (s.drop (p + 1)) with
    | none => rfl
    | some y => simp
  · refine aQ24 ?_
    exact .inr (by omega)
  · refine aQ24 ?_
    have hb : Blk.rw (kRow 5 ((0 : Nat) : Int) []) = Blk.rw (List.flatMap nC [⟨5, 0, [], 0⟩]) := rfl
    rw [hb]
    simp [zak, zaC, renL, zam, zaf, AV.ren, zac, zal, zag]
  · rintro ⟨g, q, k, last, acc⟩ ⟨h1, h2, h3, h4, h5, h6⟩
    dsimp only at h1 h2 h3 h4 h5 h6 ⊢
    by_cases hql : q < s.length
    · have cq : decide ((q : Int) < (s.length : Int)) = true := decide_eq_true (by omega)
      by_cases h0 : s.getD q 0 = 0
      · have cz : decide (s.getD q 0 = UInt8.ofNat 0) = true := decide_eq_true h0
        try simp -implicitDefEqProofs only [LM7, eq_self, zaB, zaj, zas, cq, cz, TB, SB, Int.reduceToNat, Nat.reduceAdd, Nat.reduceEqDiff, Nat.reduceLT, Nat.reduceMod, Nat.reducePow, Nat.reduceSub, if_true, reduceIte]
        refine ⟨by omega, by omega, fun h => absurd h (by omega), fun _ => ⟨by unfold inI; omega, ?_⟩⟩
        obtain ⟨g, rfl⟩ : ∃ g', g = g' + 1 := ⟨g - 1, by omega⟩
        rw [za1 hql, h0, kidsP_end] at h6
        rw [h6, Option.map_some, Option.map_some, zep]
        dsimp only
        rw [Nat.add_zero, List.append_nil, show (q : Int) + 1 = (p : Int) + ((1 + (q - (p + 1) + 1) : Nat) : Int) by omega]
        exact zb9 (l := ⟨5, 0, [], k⟩ :: acc) [1] (ndF.frz (zdB rfl) rfl) rfl
      · have cz : decide (s.getD q 0 = UInt8.ofNat 0) = false := decide_eq_false h0
        try simp -implicitDefEqProofs only [LM7, eq_self, zaB, zaj, zas, cq, cz, TB, SB, Int.reduceToNat, Nat.reduceAdd, Nat.reduceEqDiff, Nat.reduceLT, Nat.reduceMod, Nat.reducePow, Nat.reduceSub, if_true, reduceIte]
        refine ⟨by omega, by omega, by unfold inI; omega, ?_⟩
        rw [show ((q : Int) + 1) = ((q + 1 : Nat) : Int) by omega]
        obtain ⟨g, rfl⟩ : ∃ g', g = g' + 1 := ⟨g - 1, by omega⟩
        have hdq := za1 hql
        have hkl := kidsP_M (V := valP f) (g := g) (c := k) (last := last) (r := s.drop (q + 1)) h0
        rw [← hdq] at hkl
        have hT := zhG s (q + 1) (by omega) (by omega)
        have hle := zgz (s.drop (q + 1)).length (s.drop (q + 1)) (Nat.le_refl _)
        cases hr : rdT (s.drop (q + 1)) with
        | none =>
          rw [hr] at hT hkl
          dsimp only at hkl
          rw [ite_self] at hkl
          rw [hkl] at h6
          rw [h6]
          refine hT.pure (by simp [renL, zag, zam]) ?_
          rintro _ σ rfl
          refine ⟨by simp [AEnd.noid, seR, zbv], ?_⟩
          rw [show seR none ((q + 1 : Nat) : Int) = .agg [.sl (([] : List Nd).flatMap nC) 0, i64 0, bl true] from rfl]
          by_cases hb1 : s.getD q 0 = 1
          · have cb : decide (s.getD q 0 = UInt8.ofNat 1) = true := decide_eq_true hb1
            try simp -implicitDefEqProofs only [LM7, eq_self, zaB, zaj, zas, cb, TB, SB, Int.reduceToNat, Nat.reduceAdd, Nat.reduceEqDiff, Nat.reduceLT, Nat.reduceMod, Nat.reducePow, Nat.reduceSub, if_true, reduceIte]
            refine ⟨by omega, by omega, ?_⟩
            exact zb9 (l := []) [] (.inr ⟨rfl, rfl⟩) rfl
          · have cb : decide (s.getD q 0 = UInt8.ofNat 1) = false := decide_eq_false hb1
            try simp -implicitDefEqProofs only [LM7, eq_self, zaB, zaj, zas, cb, TB, SB, Int.reduceToNat, Nat.reduceAdd, Nat.reduceEqDiff, Nat.reduceLT, Nat.reduceMod, Nat.reducePow, Nat.reduceSub, if_true, reduceIte]
            refine ⟨by omega, by omega, ?_⟩
            exact zb9 (l := []) [] (.inr ⟨rfl, rfl⟩) rfl
        | some x =>
          obtain ⟨t, m⟩ := x
          have hx := hle (t, m) hr
          rw [List.length_drop] at hx
          dsimp only at hx
          rw [hr] at hT hkl
          dsimp only at hkl
          refine hT.pure (by simp [renL, zag, zam]) ?_
          rintro _ σ rfl
          refine ⟨by simp [AEnd.noid, seR, zbv], ?_⟩
          rw [show seR (some (t, m)) ((q + 1 : Nat) : Int) = .agg [.sl (([⟨3, 0, t, 0⟩] : List Nd).flatMap nC) 1, i64 (((q + 1 : Nat) : Int) + (m : Int)), bl false] from rfl]
          by_cases hb1 : s.getD q 0 = 1
          rotate_left
          · have cb : decide (s.getD q 0 = UInt8.ofNat 1) = false := decide_eq_false hb1
            rw [if_neg hb1] at hkl
            rw [hkl] at h6
            rw [h6]
            try simp -implicitDefEqProofs only [LM7, eq_self, zaB, zaj, zas, cb, TB, SB, Int.reduceToNat, Nat.reduceAdd, Nat.reduceEqDiff, Nat.reduceLT, Nat.reduceMod, Nat.reducePow, Nat.reduceSub, if_true, reduceIte]
            refine ⟨by omega, by omega, ?_⟩
            exact zb9 (l := []) [] (.inr ⟨rfl, rfl⟩) rfl
          have cb : decide (s.getD q 0 = UInt8.ofNat 1) = true := decide_eq_true hb1
          rw [if_pos hb1, leB_geq] at hkl
          by_cases hk0 : 0 < k
          · have ck : decide (0 < (k : Int)) = true := decide_eq_true (by omega)
            rw [show kRow 5 (k : Int) acc = i64 5 :: i64 0 :: str [] :: i64 k :: acc.flatMap nC from rfl]
            try simp -implicitDefEqProofs only [LM7, eq_self, zaB, zaj, zas, cb, ck, TB, SB, Nat.reduceMul, Int.reduceToNat, Nat.reduceAdd, Nat.reduceEqDiff, Nat.reduceLT, Nat.reduceMod, Nat.reducePow, Nat.reduceSub, if_true, reduceIte]
            cases hB : Op.bytesLess last t with
            | false =>
              rw [hB, if_pos ⟨hk0, rfl⟩] at hkl
              rw [hkl] at h6
              rw [h6]
              refine aQ56 ?_
              refine ⟨by omega, by omega, by omega, by omega, by omega, by omega, by omega, ?_⟩
              exact zb9 (l := []) [] (.inr ⟨rfl, rfl⟩) rfl
            | true =>
            rw [hB, if_neg (fun h => by cases h.2)] at hkl
            refine aQ56 ?_
            refine ⟨by omega, by omega, by omega, by omega, by omega, by omega, by omega, by omega, by omega, by omega, ?_⟩
            refine zb2 rfl rfl T22 T22 T47 (l := ⟨5, 0, [], (k : Int)⟩ :: acc) (ys := [⟨3, 0, t, 0⟩]) (m := 1) rfl (by simp) (zeu _ [⟨3, 0, t, 0⟩]) rfl (by omega) ?_
            rw [show ((⟨5, 0, [], (k : Int)⟩ :: acc : List Nd) ++ ([⟨3, 0, t, 0⟩] : List Nd)).flatMap nC = i64 5 :: i64 0 :: str [] :: i64 k :: (acc ++ ([⟨3, 0, t, 0⟩] : List Nd)).flatMap nC from rfl]
            refine aQ56 ?_
            refine ⟨by unfold inI; omega, ?_⟩
            rw [show ((d : Int) + 1) = ((d + 1 : Nat) : Int) by omega, show (((q + 1 : Nat) : Int) + (m : Int)) = ((q + 1 + m : Nat) : Int) by omega]
            have hV := ih (q + 1 + m) (d + 1) (by omega) (by omega) (by omega)
            have hbd := zdn f (s.drop (q + 1 + m))
            rw [List.drop_drop] at hkl
            cases hvq : valP f (s.drop (q + 1 + m)) with
            | none =>
              rw [hvq] at hV hkl
              dsimp only at hkl
              rw [hkl] at h6
              rw [h6]
              refine hV.pure (by simp [renL, zag, zam]) ?_
              rintro _ σ rfl
              refine ⟨by simp [AEnd.noid, seO, zbv], ?_⟩
              rw [show seO none ((q + 1 + m : Nat) : Int) = .agg [.sl (([] : List Nd).flatMap nC) 0, i64 0, bl true] from rfl]
              refine aQ56 ?_
              exact zaK (zbv [] 0 true []) rfl
            | some z =>
              obtain ⟨l, e⟩ := z
              have hb := hbd l e hvq
              rw [List.length_drop] at hb
              rw [hvq] at hV hkl
              dsimp only at hkl
              rw [hkl, Option.map_map] at h6
              refine hV.pure (by simp [renL, zag, zam]) ?_
              rintro _ σ rfl
              refine ⟨by simp [AEnd.noid, seO, zbv], ?_⟩
              rw [show seO (some (l, e)) ((q + 1 + m : Nat) : Int) = .agg [.sl (l.flatMap nC) l.length, i64 (((q + 1 + m : Nat) : Int) + (e : Int)), bl false] from rfl]
              refine aQ56 ?_
              refine zb2 rfl rfl T22 T22 T47 (l := ⟨5, 0, [], (k : Int)⟩ :: (acc ++ [⟨3, 0, t, 0⟩])) (ys := l) (m := l.length) rfl (by simp) (zeu _ _) rfl (by omega) ?_
              rw [show ((⟨5, 0, [], (k : Int)⟩ :: (acc ++ [⟨3, 0, t, 0⟩]) : List Nd) ++ l).flatMap nC = i64 5 :: i64 0 :: str [] :: i64 k :: (acc ++ ([⟨3, 0, t, 0⟩] : List Nd) ++ l).flatMap nC from rfl]
              simp -implicitDefEqProofs only [LM7, eq_self, zaB, zaj, zas, TB, SB, Nat.reduceMul, Int.reduceToNat, Nat.reduceAdd, Nat.reduceEqDiff, Nat.reduceLT, Nat.reduceMod, Nat.reducePow, Nat.reduceSub, if_true, reduceIte]
              refine ⟨by omega, by omega, ?_⟩
              skip
              refine ⟨by unfold inI; omega, by omega, by omega, ?_⟩
              refine aQ56 ?_
              refine ⟨by simp, ?_⟩
              rw [zau]
              refine ⟨(g, q + 1 + m + e, k + 1, t, acc ++ [⟨3, 0, t, 0⟩] ++ l), ⟨by dsimp only; omega, by dsimp only; omega, by dsimp only; omega, by dsimp only; simp only [List.length_append, List.length_cons, List.length_nil]; omega, by dsimp only; simp only [List.length_append, List.length_cons, List.length_nil]; omega, ?_⟩, (by show s.length - (q + 1 + m + e) < s.length - q; omega), ?_⟩
              · dsimp only
                rw [h6, List.drop_drop, show q + 1 + (m + e) = q + 1 + m + e by omega]
                cases zbN (valP f) true g (k + 1) t (s.drop (q + 1 + m + e)) with
                | none => rfl
                | some y =>
                  refine aQ57 ?_
                  omega
              · refine zan (q := [0, 5]) rfl rfl (by decide) ?_ ?_
                · refine aQ24 ?_
                  exact ⟨.inr (by omega), by simp only [List.length_append, List.length_cons, List.length_nil]; omega⟩
                · refine aQ24 ?_
                  unfold kRow
                  exact aQ55 trivial
          · have ck : decide (0 < (k : Int)) = false := decide_eq_false (by omega)
            rw [show kRow 5 (k : Int) acc = i64 5 :: i64 0 :: str [] :: i64 k :: acc.flatMap nC from rfl]
            rw [if_neg (fun h => hk0 h.1)] at hkl
            try simp -implicitDefEqProofs only [LM7, eq_self, zaB, zaj, zas, cb, ck, TB, SB, Nat.reduceMul, Int.reduceToNat, Nat.reduceAdd, Nat.reduceEqDiff, Nat.reduceLT, Nat.reduceMod, Nat.reducePow, Nat.reduceSub, if_true, reduceIte]
            refine ⟨by omega, by omega, by omega, by omega, by omega, by omega, by omega, ?_⟩
            refine zb2 rfl rfl T22 T22 T47 (l := ⟨5, 0, [], (k : Int)⟩ :: acc) (ys := [⟨3, 0, t, 0⟩]) (m := 1) rfl (by simp) (zeu _ [⟨3, 0, t, 0⟩]) rfl (by omega) ?_
            rw [show ((⟨5, 0, [], (k : Int)⟩ :: acc : List Nd) ++ ([⟨3, 0, t, 0⟩] : List Nd)).flatMap nC = i64 5 :: i64 0 :: str [] :: i64 k :: (acc ++ ([⟨3, 0, t, 0⟩] : List Nd)).flatMap nC from rfl]
            refine aQ56 ?_
            refine ⟨by unfold inI; omega, ?_⟩
            rw [show ((d : Int) + 1) = ((d + 1 : Nat) : Int) by omega, show (((q + 1 : Nat) : Int) + (m : Int)) = ((q + 1 + m : Nat) : Int) by omega]
            have hV := ih (q + 1 + m) (d + 1) (by omega) (by omega) (by omega)
            have hbd := zdn f (s.drop (q + 1 + m))
            rw [List.drop_drop] at hkl
            cases hvq : valP f (s.drop (q + 1 + m)) with
            | none =>
              rw [hvq] at hV hkl
              dsimp only at hkl
              rw [hkl] at h6
              rw [h6]
              refine hV.pure (by simp [renL, zag, zam]) ?_
              rintro _ σ rfl
              refine ⟨by simp [AEnd.noid, seO, zbv], ?_⟩
              rw [show seO none ((q + 1 + m : Nat) : Int) = .agg [.sl (([] : List Nd).flatMap nC) 0, i64 0, bl true] from rfl]
              refine aQ56 ?_
              exact zaK (zbv [] 0 true []) rfl
            | some z =>
              obtain ⟨l, e⟩ := z
              have hb := hbd l e hvq
              rw [List.length_drop] at hb
              rw [hvq] at hV hkl
              dsimp only at hkl
              rw [hkl, Option.map_map] at h6
              refine hV.pure (by simp [renL, zag, zam]) ?_
              rintro _ σ rfl
              refine ⟨by simp [AEnd.noid, seO, zbv], ?_⟩
              rw [show seO (some (l, e)) ((q + 1 + m : Nat) : Int) = .agg [.sl (l.flatMap nC) l.length, i64 (((q + 1 + m : Nat) : Int) + (e : Int)), bl false] from rfl]
              refine aQ56 ?_
              refine zb2 rfl rfl T22 T22 T47 (l := ⟨5, 0, [], (k : Int)⟩ :: (acc ++ [⟨3, 0, t, 0⟩])) (ys := l) (m := l.length) rfl (by simp) (zeu _ _) rfl (by omega) ?_
              rw [show ((⟨5, 0, [], (k : Int)⟩ :: (acc ++ [⟨3, 0, t, 0⟩]) : List Nd) ++ l).flatMap nC = i64 5 :: i64 0 :: str [] :: i64 k :: (acc ++ ([⟨3, 0, t, 0⟩] : List Nd) ++ l).flatMap nC from rfl]
              simp -implicitDefEqProofs only [LM7, eq_self, zaB, zaj, zas, TB, SB, Nat.reduceMul, Int.reduceToNat, Nat.reduceAdd, Nat.reduceEqDiff, Nat.reduceLT, Nat.reduceMod, Nat.reducePow, Nat.reduceSub, if_true, reduceIte]
              refine ⟨by omega, by omega, ?_⟩
              skip
              refine ⟨by unfold inI; omega, by omega, by omega, ?_⟩
              refine aQ56 ?_
              refine ⟨by simp, ?_⟩
              rw [zau]
              refine ⟨(g, q + 1 + m + e, k + 1, t, acc ++ [⟨3, 0, t, 0⟩] ++ l), ⟨by dsimp only; omega, by dsimp only; omega, by dsimp only; omega, by dsimp only; simp only [List.length_append, List.length_cons, List.length_nil]; omega, by dsimp only; simp only [List.length_append, List.length_cons, List.length_nil]; omega, ?_⟩, (by show s.length - (q + 1 + m + e) < s.length - q; omega), ?_⟩
              · dsimp only
                rw [h6, List.drop_drop, show q + 1 + (m + e) = q + 1 + m + e by omega]
                cases zbN (valP f) true g (k + 1) t (s.drop (q + 1 + m + e)) with
                | none => rfl
                | some y =>
                  refine aQ57 ?_
                  omega
              · refine zan (q := [0, 5]) rfl rfl (by decide) ?_ ?_
                · refine aQ24 ?_
                  exact ⟨.inr (by omega), by simp only [List.length_append, List.length_cons, List.length_nil]; omega⟩
                · refine aQ24 ?_
                  unfold kRow
                  exact aQ55 trivial
    · have cq : decide ((q : Int) < (s.length : Int)) = false := decide_eq_false (by omega)
      try simp -implicitDefEqProofs only [LM7, eq_self, zaB, zaj, zas, cq, TB, SB, Int.reduceToNat, Nat.reduceAdd, Nat.reduceEqDiff, Nat.reduceLT, Nat.reduceMod, Nat.reducePow, Nat.reduceSub, if_true, reduceIte]
      refine ⟨fun _ => ?_, fun h => absurd (show (s.length : Int) ≤ q by omega) h⟩
      rw [List.drop_of_length_le (show s.length ≤ q by omega), kidsP_out] at h6
      rw [h6]
      exact zb9 (l := []) [] (.inr ⟨rfl, rfl⟩) rfl
end Go.Proofs.YtklhaleioecnkaaGreatDoor
end

section
namespace Go.Proofs.YtklhaleioecnkaaGreatDoor
open Go Go.Eng
set_option maxRecDepth 20000 in
theorem rvalue_ok (s : List UInt8) (hs : s.length ≤ 1000) : ∀ (f p d : Nat), p ≤ s.length → s.length - p ≤ f → d + (s.length - p) ≤ 3000 → ACalls Tryz.prog 38 [str s, i64 p, i64 d] [] (fun y _ => y = .ret (seO (valP f (s.drop p)) p)) := by
  have out : ∀ (f p d : Nat), p = s.length → ACalls Tryz.prog 38 [str s, i64 p, i64 d] [] (fun y _ => y = .ret (seO (valP f (s.drop p)) p)) := fun f p d hp => by
    subst hp
    have hv : valP f (s.drop s.length) = none := by
      rw [List.drop_length]
      cases f <;> rfl
    rw [hv, zhM]
    have c : decide ((s.length : Int) ≤ (s.length : Int)) = true := decide_eq_true (Int.le_refl _)
    refine ACalls.body T_ok Tryz.func38 (by kernel_rfl) rfl Tryz.ntmps38 (congrArg Array.toList Tryz.results38) ?_
    try simp -implicitDefEqProofs only [LM7, eq_self, zaB, zaj, zas, c, TB, SB, Int.reduceToNat, Nat.reduceAdd, Nat.reduceEqDiff, Nat.reduceLT, Nat.reduceMod, Nat.reducePow, Nat.reduceSub, if_true, reduceIte]
    exact zb9 (l := []) [] (.inr ⟨rfl, rfl⟩) rfl
  intro f
  induction f with
  | zero =>
    intro p d hp hf hd
    exact out 0 p d (by omega)
  | succ f ih =>
    intro p d hp hf hd
    by_cases hlt : p < s.length
    rotate_left
    · exact out (f + 1) p d (by omega)
    have h7 : (s.getD p 0).toNat = 0 ∨ (s.getD p 0).toNat = 1 ∨ (s.getD p 0).toNat = 2 ∨ (s.getD p 0).toNat = 3 ∨ (s.getD p 0).toNat = 4 ∨ (s.getD p 0).toNat = 5 ∨ (s.getD p 0).toNat = 6 ∨ 6 < (s.getD p 0).toNat := by omega
    rcases h7 with h | h | h | h | h | h | h | h
    · exact rv_low s hs f p d hlt hf hd h
    · exact rv_null s hs f p d hlt hf hd h
    · exact rv_bool s hs f p d hlt hf hd h
    · exact rv_num s hs f p d hlt hf hd h
    · exact rv_text s hs f p d hlt hf hd h
    · exact rv_list s hs f p d hlt hf hd h ih
    · exact rv_map s hs f p d hlt hf hd h ih
    · exact rv_high s hs f p d hlt hf hd h
theorem firstR_val (s : List UInt8) : zdA s = match valP s.length s with
    | none => ([], [], 5)
    | some x => (s.take x.2, s.drop x.2, 0) := by
  rw [zdA, zgA s s.length (Nat.le_refl _)]
  cases valP s.length s <;> rfl
theorem getR_val (s : List UInt8) : getR s = match valP s.length s with
    | none => ([], 5)
    | some x => if x.2 < s.length ∨ zbJ x.1 ≠ 0 then ([], 5) else (x.1, 0) := by
  rw [getR, zgA s s.length (Nat.le_refl _)]
  cases valP s.length s <;> rfl
set_option maxRecDepth 20000 in
theorem rFirst12_ok (s : List UInt8) (hs : s.length ≤ 1000) : ACalls Tryz.prog 18 [str s] [] (fun y _ => y = .ret (.tup [str (zdA s).1, str (zdA s).2.1, i64 (zdA s).2.2])) := by
  have hv := rvalue_ok s hs s.length 0 0 (by omega) (by omega) (by omega)
  have hbd := zdn s.length s
  rw [List.drop_zero] at hv
  rw [firstR_val]
  refine ACalls.body T_ok Tryz.func18 (by kernel_rfl) rfl Tryz.ntmps18 (congrArg Array.toList Tryz.results18) ?_
  refine aQ56 ?_
  cases hx : valP s.length s with
  | none =>
    rw [hx] at hv
    refine hv.pure (by simp [renL, zag, zam]) ?_
    rintro _ σ rfl
    refine ⟨by simp [AEnd.noid, seO, zbv], ?_⟩
    rw [show seO none ((0 : Nat) : Int) = .agg [.sl (([] : List Nd).flatMap nC) 0, i64 0, bl true] from rfl]
    refine aQ56 ?_
    exact zaK aQ19 rfl
  | some x =>
    obtain ⟨l, e⟩ := x
    have hb := hbd l e hx
    rw [hx] at hv
    refine hv.pure (by simp [renL, zag, zam]) ?_
    rintro _ σ rfl
    refine ⟨by simp [AEnd.noid, seO, zbv], ?_⟩
    rw [show seO (some (l, e)) ((0 : Nat) : Int) = .agg [.sl (l.flatMap nC) l.length, i64 (e : Int), bl false] by simp [seO, seA, slN]]
    refine aQ56 ?_
    refine zaN (by kernel_rfl) (by kernel_rfl) ?_
    refine aQ56 ?_
    exact ⟨by omega, by omega, by omega, by omega, zaK aQ19 rfl⟩
set_option maxRecDepth 20000 in
theorem rGet12_ok (s : List UInt8) (hs : s.length ≤ 1000) : ACalls Tryz.prog 16 [str s] [] (fun y _ => y = .ret (.tup [.sl ((getR s).1.flatMap nC) (getR s).1.length, i64 (getR s).2])) := by
  have hv := rvalue_ok s hs s.length 0 0 (by omega) (by omega) (by omega)
  have hbd := zdn s.length s
  rw [List.drop_zero] at hv
  rw [getR_val]
  refine ACalls.body T_ok Tryz.func16 (by kernel_rfl) rfl Tryz.ntmps16 (congrArg Array.toList Tryz.results16) ?_
  refine aQ56 ?_
  cases hx : valP s.length s with
  | none =>
    rw [hx] at hv
    refine hv.pure (by simp [renL, zag, zam]) ?_
    rintro _ σ rfl
    refine ⟨by simp [AEnd.noid, seO, zbv], ?_⟩
    rw [show seO none ((0 : Nat) : Int) = .agg [.sl (([] : List Nd).flatMap nC) 0, i64 0, bl true] from rfl]
    refine aQ56 ?_
    exact zem rfl
  | some x =>
    obtain ⟨l, e⟩ := x
    have hb := hbd l e hx
    rw [hx] at hv
    refine hv.pure (by simp [renL, zag, zam]) ?_
    rintro _ σ rfl
    refine ⟨by simp [AEnd.noid, seO, zbv], ?_⟩
    rw [show seO (some (l, e)) ((0 : Nat) : Int) = .agg [.sl (l.flatMap nC) l.length, i64 (e : Int), bl false] by simp [seO, seA, slN]]
    by_cases he : e = s.length
    · have ce : decide ((e : Int) = (s.length : Int)) = true := decide_eq_true (by omega)
      try simp -implicitDefEqProofs only [LM7, eq_self, zaB, zaj, zas, ce, TB, SB, Int.reduceToNat, Nat.reduceAdd, Nat.reduceEqDiff, Nat.reduceLT, Nat.reduceMod, Nat.reducePow, Nat.reduceSub, if_true, reduceIte]
      refine (rCheck_ok l (by omega)).pure (by simp [renL, AV.ren, zal]) ?_
      rintro _ σ rfl
      refine ⟨zam _ _, ?_⟩
      by_cases h0 : zbJ l = 0
      · have c0 := decide_eq_true h0
        rw [if_neg (fun h => by rcases h with h | h; omega; exact h h0)]
        try simp -implicitDefEqProofs only [LM7, eq_self, zaB, zaj, zas, c0, TB, SB, Int.reduceToNat, Nat.reduceAdd, Nat.reduceEqDiff, Nat.reduceLT, Nat.reduceMod, Nat.reducePow, Nat.reduceSub, if_true, reduceIte]
        exact zaK aQ14 rfl
      · have c0 := decide_eq_false h0
        rw [if_pos (.inr h0)]
        try simp -implicitDefEqProofs only [LM7, eq_self, zaB, zaj, zas, c0, TB, SB, Int.reduceToNat, Nat.reduceAdd, Nat.reduceEqDiff, Nat.reduceLT, Nat.reduceMod, Nat.reducePow, Nat.reduceSub, if_true, reduceIte]
        exact zem rfl
    · have ce : decide ((e : Int) = (s.length : Int)) = false := decide_eq_false (by omega)
      dsimp only
      rw [if_pos (.inl (by omega))]
      try simp -implicitDefEqProofs only [LM7, eq_self, zaB, zaj, zas, ce, TB, SB, Int.reduceToNat, Nat.reduceAdd, Nat.reduceEqDiff, Nat.reduceLT, Nat.reduceMod, Nat.reducePow, Nat.reduceSub, if_true, reduceIte]
      exact zem rfl
theorem zhg : ∀ (f : Nat) (s : List UInt8) (l : List (List UInt8)), za8 f s = some l → l.length ≤ f
  | 0, s, l, h => by
    rw [za8] at h
    split at h
    · cases h; exact Nat.le_refl _
    · cases h
  | f + 1, s, l, h => by
    rw [za8] at h
    split at h
    · cases h; exact Nat.zero_le _
    · split at h
      · rename_i n e _
        split at h
        · cases hr : za8 f (s.drop e) with
          | none => rw [hr] at h; cases h
          | some m =>
            rw [hr] at h
            cases h
            have := zhg f _ _ hr
            rw [List.length_cons]
            omega
        · cases h
      · cases h
theorem splitR_len (s : List UInt8) : (zbP s).1.length ≤ s.length := by
  rw [zbP]
  cases h : za8 s.length s with
  | none => simp
  | some l => exact zhg _ _ _ h
set_option maxRecDepth 20000 in
theorem lawGets (s : List UInt8) : ACalls Tryz.prog 4 [str s] [] (fun y _ => y = .ret (bl true)) := by
  refine ACalls.body T_ok Tryz.func4 (by kernel_rfl) rfl Tryz.ntmps4 (congrArg Array.toList Tryz.results4) ?_
  refine aQ56 ?_
  refine (works12_ok).pure aQ13 ?_
  rintro _ σ rfl
  refine ⟨by first | rfl | simp [AEnd.noid, AV.ren, renL, zbO, zax str zag, zbH, zbr, zbs, zam, zaf, zag], ?_⟩
  refine aQ56 ?_
  refine ⟨fun _ => zbZ rfl, fun hn => ?_⟩
  have hs : s.length ≤ 400 := by omega
  have hg : (getR s).1.length ≤ 1000000 := by
    rw [getR_val]
    cases hx : valP s.length s with
    | none => simp
    | some x =>
      have := zdn s.length s x.1 x.2 hx
      dsimp only
      split
      · simp
      · dsimp only
        omega
  have hsp := splitR_len s
  refine (get_ok s (by omega)).pure (by simp [renL, zag]) ?_
  rintro _ σ rfl
  refine ⟨by simp [AEnd.noid, AV.ren, renL, zal, zam], ?_⟩
  refine aQ56 ?_
  refine (rGet12_ok s (by omega)).pure (by simp [renL, zag]) ?_
  rintro _ σ rfl
  refine ⟨by simp [AEnd.noid, AV.ren, renL, zal, zam], ?_⟩
  refine aQ56 ?_
  refine (first_ok s (by omega)).pure (by simp [renL, zag]) ?_
  rintro _ σ rfl
  refine ⟨by simp [AEnd.noid, AV.ren, renL, zag, zam], ?_⟩
  refine aQ56 ?_
  refine (rFirst12_ok s (by omega)).pure (by simp [renL, zag]) ?_
  rintro _ σ rfl
  refine ⟨by simp [AEnd.noid, AV.ren, renL, zag, zam], ?_⟩
  refine aQ56 ?_
  refine (split_ok s (by omega)).pure (by simp [renL, zag]) ?_
  rintro _ σ rfl
  refine ⟨by simp [AEnd.noid, AV.ren, renL, zhD, zam], ?_⟩
  refine aQ56 ?_
  refine (rSplit_ok s (by omega)).pure (by simp [renL, zag]) ?_
  rintro _ σ rfl
  refine ⟨by simp [AEnd.noid, AV.ren, renL, zhD, zam], ?_⟩
  unfold slS
  refine aQ56 ?_
  refine (rSame_ok (getR s).1 (getR s).1 (by omega)).pure (by simp [renL, AV.ren, zal]) ?_
  rintro _ σ rfl
  refine ⟨zaf _ _, ?_⟩
  rw [decide_eq_true (rfl : (getR s).1 = (getR s).1)]
  refine aQ56 ?_
  refine (rtexts_ok (zbP s).1 (zbP s).1 (by omega)).pure (by simp [renL, AV.ren, zc3]) ?_
  rintro _ σ rfl
  refine ⟨zaf _ _, ?_⟩
  rw [decide_eq_true (rfl : (zbP s).1 = (zbP s).1)]
  refine aQ56 ?_
  exact zbZ rfl
end Go.Proofs.YtklhaleioecnkaaGreatDoor
end

section
namespace Go.Eng
open Go
theorem Glob.of_vars3 [Globs] {w : World} (h : ∀ g cs, Globs.tab g = some cs → ∃ (P : Program) (n : String), P.globalNamed n = some g ∧ w.var? P n = some cs.toArray) (hi : ∀ g, g ∈ Globs.ints → ∃ n : Int, w.cell? ⟨g, 0, none⟩ = some (.int .i64 n)) (he : ∀ g, g ∈ Globs.errs → ∃ (t : TypeId) (v : Value), w.cell? ⟨g, 0, none⟩ = some (.iface t v)) : Glob w (Go.Eng.own (fun _ => False) [] []) := by
  have no : ∀ g, ¬ Go.Eng.own (fun _ => False) [] [] g := by
    rintro g (hb | ⟨i, cs, hi, _⟩)
    · exact hb
    · simp at hi
  refine ⟨fun g cs hg => ?_, fun g hg => ?_, fun g hg => ?_⟩
  · obtain ⟨P, n, h1, h2⟩ := h g cs hg
    have hb : ∃ e f, w.heap[g]? = some (.cells cs.toArray e f) := by
      have h3 := h2
      simp only [World.var?, h1, Option.bind_some] at h3
      split at h3
      · rename_i cs' e' f' e
        cases Option.some.inj h3
        exact ⟨_, _, e⟩
      · cases h3
    refine ⟨no g, ?_, hb, fun j v hv => ?_⟩
    · obtain ⟨_, _, e⟩ := hb
      rcases Nat.lt_or_ge g w.heap.size with hlt | hge
      · exact hlt
      · rw [Array.getElem?_eq_none hge] at e; cases e
    · rw [World.var?_cell h1 h2 j, List.getElem?_toArray, hv]
  · obtain ⟨n, hn⟩ := hi g hg
    refine ⟨no g, ?_, n, hn⟩
    rcases Nat.lt_or_ge g w.heap.size with hlt | hge
    · exact hlt
    · simp [World.cell?, Array.getElem?_eq_none hge] at hn
  · obtain ⟨t, v, hn⟩ := he g hg
    refine ⟨no g, ?_, t, v, hn⟩
    rcases Nat.lt_or_ge g w.heap.size with hlt | hge
    · exact hlt
    · simp [World.cell?, Array.getElem?_eq_none hge] at hn
theorem wrap_and_shaped {H : Type} {enc : TypeId × Value → H} {a : Assume} {C : Checked} {os : Os} {f : FuncId} {fn : Func} {s : ChangeSpec} {conds : List PathCond} {apart fresh handsOn again : Bool} {X : World → Array Value → Prop}
    (hX : ∀ (w w' : World) (args : Array Value), w.heap = w'.heap → X w args → X w' args)
    (h1 : ownKnob C.prog.godebug = none) (h2 : os.Started) (h3 : C.prog.inits.idxOf? f = none) (hfn : C.prog.funcs[f]? = some fn)
    (h4 : ∃ (w : World) (tape : Tape) (i : Input), w.os = os ∧ (w.forCall tape i).Shaped C.prog ∧ i.vars = [] ∧ Input.okWide C.prog (w.forCall tape i) .any w.heap.size f i ∧
      ((s.pre enc C.prog fn conds apart (w.forCall tape i).memory i.args ∧ X (w.forCall tape i).memory i.args) ∧ sizedMet enc C.prog fn (OpenSpec.ofChange s) apart (w.forCall tape i).memory i.args) ∧ a.holds C.prog (lone (Frame.enter C.prog f i.args .normal) [] (w.forCall tape i)))
    (h5 : ∀ (W : World) (base : Nat) (args : Array Value) (ds gs : List (DataW H)) (before : List MemPlace),
      (∀ (j : Nat) t v, fn.params[j]? = some t → args[j]? = some v → Value.okWide C.prog W .any base t v) →
      DataW.Whole enc C.prog fn.params.toList s.vars apart W args.toList ds gs before →
      conds.all (PathCond.test C.prog ⟨fn.params.toList, ds, s.plain.varTypes C.prog, gs⟩) = true →
      (DataW.weightsEach C.prog (fn.params.toList ++ s.plain.varTypes C.prog) (ds ++ gs)).all (· ≤ reachBytes) = true → X W args → W.ShapedOpen C.prog →
      a.holds C.prog (lone (Frame.enter C.prog f args .normal) [] W) →
      Calls C.prog f args W fun e W' => ∃ v, e = .returned v ∧ s.post enc C.prog fn apart fresh handsOn again W args v W') :
    ReturnsInHanded a C os f .any (fun w args => (s.pre enc C.prog fn conds apart w args ∧ X w args) ∧ sizedMet enc C.prog fn (OpenSpec.ofChange s) apart w args) (s.post enc C.prog fn apart fresh handsOn again) := by
  refine returnsInHanded_of_calls h1 h2 h3 h4 ?_
  intro w tape i _ hsh _ hok hpre hh
  have hval : ∀ (j : Nat) t v, fn.params[j]? = some t → i.args[j]? = some v → Value.okWide C.prog (w.forCall tape i) .any w.heap.size t v := by
    obtain ⟨_, _, _, fn', hfn', _, _, _, _, hv⟩ := hok
    cases Option.some.inj (hfn'.symm.trans hfn)
    exact hv
  obtain ⟨⟨⟨ds, gs, bf, hw, hc⟩, hx⟩, hz⟩ := hpre
  have key := h5 (w.forCall tape i) w.heap.size i.args ds gs bf hval (DataW.Whole.of_heap (w' := w.forCall tape i) (by rfl) hw) hc (hz.weights hw) (hX _ _ _ (by rfl) hx) hsh hh
  refine key.mono ?_
  rintro e W' ⟨v, rfl, hp⟩
  exact ChangeSpec.post_blind hp
end Go.Eng
namespace Go.Proofs.YtklhaleioecnkaaGreatDoor
open Go Go.Eng
def zic : List (String × DataW Unit) := Rows.codeGetsRow.laid
def nm (i : Nat) : String := (zic[i]?.map (·.1)).getD ""
theorem ownK : ownKnob Tryz.prog.godebug = none := by kernel_rfl
theorem glob_of_laid {w : World} (h : laidMetH Tryz.prog zic w) (hsh : w.ShapedOpen Tryz.prog) : Glob w (Go.Eng.own (fun _ => False) [] []) := by
  refine Glob.of_vars3 (fun g cs hg => nomatch (show none = some cs from hg)) (fun g hg => ?_) (fun g hg => absurd (show g ∈ ([] : List Nat) from hg) (by simp))
  have hg' : g = 0 := by
    have : g ∈ [0] := hg
    simpa using this
  subst hg'
  exact Go.Proofs.cell_of_shapedOpen_int (zero := #[.int .i64 0]) (t := 3) hsh (of_decide_eq_true (by kernel_rfl)) (by kernel_rfl) rfl (by kernel_rfl) (by kernel_rfl) Tryz.underlying3
theorem laid_met (os : Os) (args : Array Value) : laidMetH Tryz.prog zic ((World.laidAll Tryz.prog os zic).forCall (fun _ _ => 0) ⟨#[], args, []⟩).memory := by
  rw [MakeChecks.laidMetH_plain _ _ _ (by kernel_rfl)]
  exact laidMet_laidAll _ (by kernel_rfl) (by kernel_rfl)
end Go.Proofs.YtklhaleioecnkaaGreatDoor
end

