/-
  The document's reader of a value. No condition.
-/
import Derived.Test.YtklhaleioecnkaaGreatDoorCodG
set_option linter.unusedSimpArgs false
set_option linter.unusedVariables false
set_option linter.unusedSectionVars false
section
namespace Go.Eng
open Go
theorem aQ53 {P Q : Prop} (h : Q) (e : P = Q := by first|(simp -implicitDefEqProofs only [LM3, eq_self, zaB, zaz, zaA, zbw, zaj, TB, SB, Int.reduceToNat, Nat.reduceAdd, Nat.reduceEqDiff, Nat.reduceLT, Nat.reduceMod, Nat.reducePow, Nat.reduceSub, if_true, reduceIte];first|done|exact rfl)|exact rfl) : P := e ▸ h
theorem aQ54 {P Q : Prop} (h : Q) (e : P = Q := by first|(simp -implicitDefEqProofs only [LM3, LB23, eq_self, zaB, zaj, zhK, zhL, zas, TB, SB, Int.reduceToNat, Nat.reduceAdd, Nat.reduceEqDiff, Nat.reduceLT, Nat.reduceMod, Nat.reducePow, Nat.reduceSub, if_true, reduceIte];first|done|exact rfl)|exact rfl) : P := e ▸ h
theorem aQ55 {P Q : Prop} (h : Q) (e : P = Q := by first|(simp [-List.flatMap_append, zak, zaC, renL, zam, zaf, AV.ren, zal, zag];first|done|exact rfl)|exact rfl) : P := e ▸ h
end Go.Eng
end

section
namespace Go.Proofs.YtklhaleioecnkaaGreatDoor
open Go Go.Eng
theorem zaz {T : Tab} {t : TypeId} {K : AV → Prop} (x y : UInt8) : wbin T .lss t (u8 x) (u8 y) K = K (bl (decide (x.toNat < y.toNat))) := by
  simp [wbin, u8, bl, zdX, cmpV]
theorem zaA {T : Tab} {t : TypeId} {K : AV → Prop} (x y : UInt8) : wbin T .gtr t (u8 x) (u8 y) K = K (bl (decide (y.toNat < x.toNat))) := by
  simp [wbin, u8, bl, zdX, cmpV]
theorem zbw (K : AV → Prop) : zaP T 47 [] K = K (nA ⟨0, 0, [], 0⟩) := by
  simp [zaP, T47, T45, T2, T9, T3, tyNd, zbi, zaI, zaG, tyStr, nA, nC, i64, str]
theorem add_top (x : BitVec 64) : x + 9223372036854775808#64 = x ^^^ 9223372036854775808#64 := by
  apply BitVec.eq_of_getLsbD_eq
  intro i hi
  have e : (9223372036854775808#64).toNat = 2 ^ 63 := rfl
  rw [BitVec.getLsbD_xor, BitVec.getLsbD, BitVec.toNat_add, e, Nat.testBit_mod_two_pow, decide_eq_true hi, Bool.true_and, Nat.add_comm]
  rw [show (9223372036854775808#64).getLsbD i = (2 ^ 63).testBit i from rfl, Nat.testBit_two_pow]
  by_cases h : i = 63
  · subst h
    rw [Nat.testBit_two_pow_add_eq]
    simp [BitVec.getLsbD]
  · rw [Nat.testBit_two_pow_add_gt (by omega)]
    rw [decide_eq_false (by omega)]
    simp [BitVec.getLsbD]
theorem sub_top (x : BitVec 64) : x - 9223372036854775808#64 = x ^^^ 9223372036854775808#64 := by
  rw [BitVec.sub_eq_add_neg, show -(9223372036854775808#64) = 9223372036854775808#64 by decide, add_top]
def seO : Option (List Nd × Nat) → Int → AV
  | none, _ => seA [] 0 true
  | some x, p => seA x.1 (p + x.2) false
theorem zhM (p : Int) : seO none p = seA [] 0 true := rfl
theorem zep (x : List Nd × Nat) (p : Int) : seO (some x) p = seA x.1 (p + x.2) false := rfl
theorem zcB {f : Nat} {c : UInt8} {r : List UInt8} : valP (f + 1) (c :: r) = match nodR (c :: r) 0 with
    | none => none
    | some (n, e) => if n.kind = 4 ∨ n.kind = 5 then (zbN (valP f) (decide (n.kind = 5)) f 0 [] ((c :: r).drop e)).map fun x => (⟨n.kind, n.num, n.text, (x.2.1 : Int)⟩ :: x.1, e + x.2.2) else some ([n], e) := rfl
theorem zcC {c : UInt8} {r : List UInt8} : nodR (c :: r) 0 = if c.toNat = 1 ∨ c.toNat = 5 ∨ c.toNat = 6 then some (⟨(c.toNat : Int) - 1, 0, [], 0⟩, 0 + 1)
    else if c.toNat = 2 then (match r with
      | [] => none
      | b :: _ => if b.toNat ≤ 1 then some (⟨1, b.toNat, [], 0⟩, 0 + 2) else none)
    else if c.toNat = 3 then (if r.length < 8 then none else some (⟨2, IntKind.i64.wrap (zbh (r.take 8) ^^^ 9223372036854775808#64).toNat, [], 0⟩, 0 + 9))
    else if c.toNat = 4 then (rdT r).map fun x => (⟨3, 0, x.1, 0⟩, 0 + 1 + x.2)
    else none := rfl
set_option maxRecDepth 20000 in
set_option maxHeartbeats 4000000 in
theorem rv_low (s : List UInt8) (hs : s.length ≤ 1000) (f p d : Nat) (hlt : p < s.length) (hf : s.length - p ≤ f + 1) (hd : d + (s.length - p) ≤ 3000) (hm : (s.getD p 0).toNat = 0) : ACalls Tryz.prog 38 [str s, i64 p, i64 d] [] (fun y _ => y = .ret (seO (valP (f + 1) (s.drop p)) p)) := by
    have e1 : (UInt8.ofNat 1).toNat = 1 := rfl
    have e6 : (UInt8.ofNat 6).toNat = 6 := rfl
    have hc := za1 hlt
    have c : decide ((s.length : Int) ≤ (p : Int)) = false := decide_eq_false (by omega)
    have c3 : decide (3000 < (d : Int)) = false := decide_eq_false (by omega)
    have d1 : decide ((s.getD p 0).toNat < (UInt8.ofNat 1).toNat) = true := decide_eq_true (by omega)
    have d6 : decide ((UInt8.ofNat 6).toNat < (s.getD p 0).toNat) = false := decide_eq_false (by omega)
    have hv : valP (f + 1) (s.drop p) = none := by
      rw [hc, zcB, zcC, if_neg (by omega), if_neg (by omega), if_neg (by omega), if_neg (by omega)]
    rw [hv, zhM]
    refine ACalls.body T_ok Tryz.func38 (by kernel_rfl) rfl Tryz.ntmps38 (congrArg Array.toList Tryz.results38) ?_
    try simp -implicitDefEqProofs only [LM3, eq_self, zaB, zaz, zaA, zbw, zaj, c, c3, d1, d6, TB, SB, Int.reduceToNat, Nat.reduceAdd, Nat.reduceEqDiff, Nat.reduceLT, Nat.reduceMod, Nat.reducePow, Nat.reduceSub, if_true, reduceIte]
    refine ⟨by omega, by omega, ?_⟩
    try simp -implicitDefEqProofs only [LM3, eq_self, zaB, zaz, zaA, zbw, zaj, c, c3, d1, d6, TB, SB, Int.reduceToNat, Nat.reduceAdd, Nat.reduceEqDiff, Nat.reduceLT, Nat.reduceMod, Nat.reducePow, Nat.reduceSub, if_true, reduceIte]
    exact zb9 (l := []) [] (.inr ⟨rfl, rfl⟩) rfl
set_option maxRecDepth 20000 in
set_option maxHeartbeats 4000000 in
theorem rv_high (s : List UInt8) (hs : s.length ≤ 1000) (f p d : Nat) (hlt : p < s.length) (hf : s.length - p ≤ f + 1) (hd : d + (s.length - p) ≤ 3000) (hm : 6 < (s.getD p 0).toNat) : ACalls Tryz.prog 38 [str s, i64 p, i64 d] [] (fun y _ => y = .ret (seO (valP (f + 1) (s.drop p)) p)) := by
    have e1 : (UInt8.ofNat 1).toNat = 1 := rfl
    have e6 : (UInt8.ofNat 6).toNat = 6 := rfl
    have hc := za1 hlt
    have c : decide ((s.length : Int) ≤ (p : Int)) = false := decide_eq_false (by omega)
    have c3 : decide (3000 < (d : Int)) = false := decide_eq_false (by omega)
    have d1 : decide ((s.getD p 0).toNat < (UInt8.ofNat 1).toNat) = false := decide_eq_false (by omega)
    have d6 : decide ((UInt8.ofNat 6).toNat < (s.getD p 0).toNat) = true := decide_eq_true (by omega)
    have hv : valP (f + 1) (s.drop p) = none := by
      rw [hc, zcB, zcC, if_neg (by omega), if_neg (by omega), if_neg (by omega), if_neg (by omega)]
    rw [hv, zhM]
    refine ACalls.body T_ok Tryz.func38 (by kernel_rfl) rfl Tryz.ntmps38 (congrArg Array.toList Tryz.results38) ?_
    try simp -implicitDefEqProofs only [LM3, eq_self, zaB, zaz, zaA, zbw, zaj, c, c3, d1, d6, TB, SB, Int.reduceToNat, Nat.reduceAdd, Nat.reduceEqDiff, Nat.reduceLT, Nat.reduceMod, Nat.reducePow, Nat.reduceSub, if_true, reduceIte]
    refine ⟨by omega, by omega, ?_⟩
    try simp -implicitDefEqProofs only [LM3, eq_self, zaB, zaz, zaA, zbw, zaj, c, c3, d1, d6, TB, SB, Int.reduceToNat, Nat.reduceAdd, Nat.reduceEqDiff, Nat.reduceLT, Nat.reduceMod, Nat.reducePow, Nat.reduceSub, if_true, reduceIte]
    refine ⟨by omega, by omega, ?_⟩
    try simp -implicitDefEqProofs only [LM3, eq_self, zaB, zaz, zaA, zbw, zaj, c, c3, d1, d6, TB, SB, Int.reduceToNat, Nat.reduceAdd, Nat.reduceEqDiff, Nat.reduceLT, Nat.reduceMod, Nat.reducePow, Nat.reduceSub, if_true, reduceIte]
    exact zb9 (l := []) [] (.inr ⟨rfl, rfl⟩) rfl
set_option maxRecDepth 20000 in
set_option maxHeartbeats 4000000 in
theorem rv_null (s : List UInt8) (hs : s.length ≤ 1000) (f p d : Nat) (hlt : p < s.length) (hf : s.length - p ≤ f + 1) (hd : d + (s.length - p) ≤ 3000) (hm : (s.getD p 0).toNat = 1) : ACalls Tryz.prog 38 [str s, i64 p, i64 d] [] (fun y _ => y = .ret (seO (valP (f + 1) (s.drop p)) p)) := by
    have e1 : (UInt8.ofNat 1).toNat = 1 := rfl
    have e6 : (UInt8.ofNat 6).toNat = 6 := rfl
    have hc := za1 hlt
    have c : decide ((s.length : Int) ≤ (p : Int)) = false := decide_eq_false (by omega)
    have c3 : decide (3000 < (d : Int)) = false := decide_eq_false (by omega)
    have d1 : decide ((s.getD p 0).toNat < (UInt8.ofNat 1).toNat) = false := decide_eq_false (by omega)
    have d6 : decide ((UInt8.ofNat 6).toNat < (s.getD p 0).toNat) = false := decide_eq_false (by omega)
    have q0 : decide (((s.getD p 0).toNat : Int) - 1 = 0) = true := decide_eq_true (by omega)
    have q3 : decide (((s.getD p 0).toNat : Int) - 1 = 3) = false := decide_eq_false (by omega)
    have q1 : decide (((s.getD p 0).toNat : Int) - 1 = 1) = false := decide_eq_false (by omega)
    have q2 : decide (((s.getD p 0).toNat : Int) - 1 = 2) = false := decide_eq_false (by omega)
    have q5 : decide (((s.getD p 0).toNat : Int) - 1 = 5) = false := decide_eq_false (by omega)
    have hv : valP (f + 1) (s.drop p) = some ([⟨0, 0, [], 0⟩], 1) := by
      rw [hc, zcB, zcC, if_pos (by omega), hm]
      rfl
    rw [hv, zep]
    refine ACalls.body T_ok Tryz.func38 (by kernel_rfl) rfl Tryz.ntmps38 (congrArg Array.toList Tryz.results38) ?_
    try simp -implicitDefEqProofs only [LM3, eq_self, zaB, zaz, zaA, zbw, zaj, c, c3, d1, d6, TB, SB, Int.reduceToNat, Nat.reduceAdd, Nat.reduceEqDiff, Nat.reduceLT, Nat.reduceMod, Nat.reducePow, Nat.reduceSub, if_true, reduceIte]
    refine ⟨by omega, by omega, ?_⟩
    try simp -implicitDefEqProofs only [LM3, eq_self, zaB, zaz, zaA, zbw, zaj, c, c3, d1, d6, TB, SB, Int.reduceToNat, Nat.reduceAdd, Nat.reduceEqDiff, Nat.reduceLT, Nat.reduceMod, Nat.reducePow, Nat.reduceSub, if_true, reduceIte]
    refine ⟨by omega, by omega, ?_⟩
    try simp -implicitDefEqProofs only [LM3, eq_self, zaB, zaz, zaA, zbw, zaj, c, c3, d1, d6, q0, q3, q1, q2, q5, TB, SB, Int.reduceToNat, Nat.reduceAdd, Nat.reduceEqDiff, Nat.reduceLT, Nat.reduceMod, Nat.reducePow, Nat.reduceSub, if_true, reduceIte]
    refine ⟨by omega, by omega, ?_⟩
    try simp -implicitDefEqProofs only [LM3, eq_self, zaB, zaz, zaA, zbw, zaj, c, c3, d1, d6, q0, q3, q1, q2, q5, TB, SB, Int.reduceToNat, Nat.reduceAdd, Nat.reduceEqDiff, Nat.reduceLT, Nat.reduceMod, Nat.reducePow, Nat.reduceSub, if_true, reduceIte]
    refine ⟨by unfold inI; omega, by unfold inI; omega, fun _ => ?_, fun h => absurd (show ((s.getD p 0).toNat : Int) - 1 = 0 by omega) h⟩
    refine aQ53 ?_
    refine zb9 (l := [⟨0, 0, [], 0⟩]) [1] (ndF.frz (zdB rfl) rfl) ?_
    rfl
set_option maxRecDepth 20000 in
set_option maxHeartbeats 4000000 in
theorem rv_text (s : List UInt8) (hs : s.length ≤ 1000) (f p d : Nat) (hlt : p < s.length) (hf : s.length - p ≤ f + 1) (hd : d + (s.length - p) ≤ 3000) (hm : (s.getD p 0).toNat = 4) : ACalls Tryz.prog 38 [str s, i64 p, i64 d] [] (fun y _ => y = .ret (seO (valP (f + 1) (s.drop p)) p)) := by
    have e1 : (UInt8.ofNat 1).toNat = 1 := rfl
    have e6 : (UInt8.ofNat 6).toNat = 6 := rfl
    have hc := za1 hlt
    have c : decide ((s.length : Int) ≤ (p : Int)) = false := decide_eq_false (by omega)
    have c3 : decide (3000 < (d : Int)) = false := decide_eq_false (by omega)
    have d1 : decide ((s.getD p 0).toNat < (UInt8.ofNat 1).toNat) = false := decide_eq_false (by omega)
    have d6 : decide ((UInt8.ofNat 6).toNat < (s.getD p 0).toNat) = false := decide_eq_false (by omega)
    have q0 : decide (((s.getD p 0).toNat : Int) - 1 = 0) = false := decide_eq_false (by omega)
    have q3 : decide (((s.getD p 0).toNat : Int) - 1 = 3) = true := decide_eq_true (by omega)
    have q1 : decide (((s.getD p 0).toNat : Int) - 1 = 1) = false := decide_eq_false (by omega)
    have q2 : decide (((s.getD p 0).toNat : Int) - 1 = 2) = false := decide_eq_false (by omega)
    have q5 : decide (((s.getD p 0).toNat : Int) - 1 = 5) = false := decide_eq_false (by omega)
    have hv : valP (f + 1) (s.drop p) = (rdT (s.drop (p + 1))).map fun x => ([⟨3, 0, x.1, 0⟩], 1 + x.2) := by
      rw [hc, zcB, zcC, if_neg (by omega), if_neg (by omega), if_neg (by omega), if_pos hm]
      cases rdT (s.drop (p + 1)) with
      | none => rfl
      | some x => simp
    rw [hv]
    refine ACalls.body T_ok Tryz.func38 (by kernel_rfl) rfl Tryz.ntmps38 (congrArg Array.toList Tryz.results38) ?_
    try simp -implicitDefEqProofs only [LM3, eq_self, zaB, zaz, zaA, zbw, zaj, c, c3, d1, d6, TB, SB, Int.reduceToNat, Nat.reduceAdd, Nat.reduceEqDiff, Nat.reduceLT, Nat.reduceMod, Nat.reducePow, Nat.reduceSub, if_true, reduceIte]
    refine ⟨by omega, by omega, ?_⟩
    try simp -implicitDefEqProofs only [LM3, eq_self, zaB, zaz, zaA, zbw, zaj, c, c3, d1, d6, TB, SB, Int.reduceToNat, Nat.reduceAdd, Nat.reduceEqDiff, Nat.reduceLT, Nat.reduceMod, Nat.reducePow, Nat.reduceSub, if_true, reduceIte]
    refine ⟨by omega, by omega, ?_⟩
    try simp -implicitDefEqProofs only [LM3, eq_self, zaB, zaz, zaA, zbw, zaj, c, c3, d1, d6, q0, q3, q1, q2, q5, TB, SB, Int.reduceToNat, Nat.reduceAdd, Nat.reduceEqDiff, Nat.reduceLT, Nat.reduceMod, Nat.reducePow, Nat.reduceSub, if_true, reduceIte]
    refine ⟨by omega, by omega, ?_⟩
    try simp -implicitDefEqProofs only [LM3, eq_self, zaB, zaz, zaA, zbw, zaj, c, c3, d1, d6, q0, q3, q1, q2, q5, TB, SB, Int.reduceToNat, Nat.reduceAdd, Nat.reduceEqDiff, Nat.reduceLT, Nat.reduceMod, Nat.reducePow, Nat.reduceSub, if_true, reduceIte]
    refine ⟨by unfold inI; omega, by unfold inI; omega, fun h => absurd h (by omega), fun _ => ?_⟩
    try simp -implicitDefEqProofs only [LM3, eq_self, zaB, zaz, zaA, zbw, zaj, q3, TB, SB, Int.reduceToNat, Nat.reduceAdd, Nat.reduceEqDiff, Nat.reduceLT, Nat.reduceMod, Nat.reducePow, Nat.reduceSub, if_true, reduceIte]
    refine ⟨fun _ => ?_, fun h => absurd (show ((s.getD p 0).toNat : Int) - 1 = 3 by omega) h⟩
    rw [show ((p : Int) + 1) = ((p + 1 : Nat) : Int) by omega]
    have hT := zhG s (p + 1) (by omega) (by omega)
    cases hr : rdT (s.drop (p + 1)) with
    | none =>
      rw [hr] at hT
      refine hT.pure (by simp [renL, zag, zam]) ?_
      rintro _ σ rfl
      refine ⟨by simp [AEnd.noid, seR, zbv], ?_⟩
      simp only [seR, seA, slN]
      refine aQ53 ?_
      exact zaK (zbv [] 0 true []) rfl
    | some x =>
      rw [hr] at hT
      refine hT.pure (by simp [renL, zag, zam]) ?_
      rintro _ σ rfl
      refine ⟨by simp [AEnd.noid, seR, zbv], ?_⟩
      simp only [seR, seA, slN]
      refine aQ53 ?_
      rw [zep, show (((p + 1 : Nat) : Int) + (x.2 : Int)) = (p : Int) + ((1 + x.2 : Nat) : Int) by omega]
      exact zaK (zbv [⟨3, 0, x.1, 0⟩] _ false []) rfl
set_option maxRecDepth 20000 in
set_option maxHeartbeats 4000000 in
theorem rv_bool (s : List UInt8) (hs : s.length ≤ 1000) (f p d : Nat) (hlt : p < s.length) (hf : s.length - p ≤ f + 1) (hd : d + (s.length - p) ≤ 3000) (hm : (s.getD p 0).toNat = 2) : ACalls Tryz.prog 38 [str s, i64 p, i64 d] [] (fun y _ => y = .ret (seO (valP (f + 1) (s.drop p)) p)) := by
    have e1 : (UInt8.ofNat 1).toNat = 1 := rfl
    have e6 : (UInt8.ofNat 6).toNat = 6 := rfl
    have hc := za1 hlt
    have c : decide ((s.length : Int) ≤ (p : Int)) = false := decide_eq_false (by omega)
    have c3 : decide (3000 < (d : Int)) = false := decide_eq_false (by omega)
    have d1 : decide ((s.getD p 0).toNat < (UInt8.ofNat 1).toNat) = false := decide_eq_false (by omega)
    have d6 : decide ((UInt8.ofNat 6).toNat < (s.getD p 0).toNat) = false := decide_eq_false (by omega)
    have q0 : decide (((s.getD p 0).toNat : Int) - 1 = 0) = false := decide_eq_false (by omega)
    have q3 : decide (((s.getD p 0).toNat : Int) - 1 = 3) = false := decide_eq_false (by omega)
    have q1 : decide (((s.getD p 0).toNat : Int) - 1 = 1) = true := decide_eq_true (by omega)
    have q2 : decide (((s.getD p 0).toNat : Int) - 1 = 2) = false := decide_eq_false (by omega)
    have q5 : decide (((s.getD p 0).toNat : Int) - 1 = 5) = false := decide_eq_false (by omega)
    have hv : valP (f + 1) (s.drop p) = (if p + 1 < s.length ∧ (s.getD (p + 1) 0).toNat ≤ 1 then some ([⟨1, (s.getD (p + 1) 0).toNat, [], 0⟩], 2) else none) := by
      rw [hc, zcB, zcC, if_neg (by omega), if_pos hm]
      by_cases h2 : p + 1 < s.length
      · rw [za1 h2]
        dsimp only
        by_cases h3 : (s.getD (p + 1) 0).toNat ≤ 1
        · rw [if_pos h3, if_pos ⟨h2, h3⟩]
          rfl
        · rw [if_neg h3, if_neg (fun h => h3 h.2)]
      · rw [List.drop_of_length_le (by omega), if_neg (fun h => h2 h.1)]
    rw [hv]
    have ep : ((p : Int) + 1) = ((p + 1 : Nat) : Int) := by omega
    refine ACalls.body T_ok Tryz.func38 (by kernel_rfl) rfl Tryz.ntmps38 (congrArg Array.toList Tryz.results38) ?_
    try simp -implicitDefEqProofs only [LM3, eq_self, zaB, zaz, zaA, zbw, zaj, c, c3, d1, d6, TB, SB, Int.reduceToNat, Nat.reduceAdd, Nat.reduceEqDiff, Nat.reduceLT, Nat.reduceMod, Nat.reducePow, Nat.reduceSub, if_true, reduceIte]
    refine ⟨by omega, by omega, ?_⟩
    try simp -implicitDefEqProofs only [LM3, eq_self, zaB, zaz, zaA, zbw, zaj, c, c3, d1, d6, TB, SB, Int.reduceToNat, Nat.reduceAdd, Nat.reduceEqDiff, Nat.reduceLT, Nat.reduceMod, Nat.reducePow, Nat.reduceSub, if_true, reduceIte]
    refine ⟨by omega, by omega, ?_⟩
    try simp -implicitDefEqProofs only [LM3, eq_self, zaB, zaz, zaA, zbw, zaj, c, c3, d1, d6, q0, q3, q1, q2, q5, TB, SB, Int.reduceToNat, Nat.reduceAdd, Nat.reduceEqDiff, Nat.reduceLT, Nat.reduceMod, Nat.reducePow, Nat.reduceSub, if_true, reduceIte]
    refine ⟨by omega, by omega, ?_⟩
    try simp -implicitDefEqProofs only [LM3, eq_self, zaB, zaz, zaA, zbw, zaj, c, c3, d1, d6, q0, q3, q1, q2, q5, TB, SB, Int.reduceToNat, Nat.reduceAdd, Nat.reduceEqDiff, Nat.reduceLT, Nat.reduceMod, Nat.reducePow, Nat.reduceSub, if_true, reduceIte]
    refine ⟨by unfold inI; omega, by unfold inI; omega, fun h => absurd h (by omega), fun _ => ?_⟩
    refine aQ53 ?_
    refine ⟨fun h => absurd h (by omega), fun _ => ?_⟩
    by_cases h2 : p + 1 < s.length
    · have c2 : decide ((s.length : Int) ≤ ((p + 1 : Nat) : Int)) = false := decide_eq_false (by omega)
      rw [ep]
      by_cases h3 : (s.getD (p + 1) 0).toNat ≤ 1
      · have c4 : decide ((UInt8.ofNat 1).toNat < (s.getD (p + 1) 0).toNat) = false := decide_eq_false (by omega)
        rw [if_pos ⟨h2, h3⟩]
        try simp -implicitDefEqProofs only [LM3, eq_self, zaB, zaz, zaA, zbw, zaj, c2, c4, TB, SB, Int.reduceToNat, Nat.reduceAdd, Nat.reduceEqDiff, Nat.reduceLT, Nat.reduceMod, Nat.reducePow, Nat.reduceSub, if_true, reduceIte]
        refine ⟨fun _ => ⟨by omega, by omega, by omega, by omega, by unfold inI; omega, ?_⟩, fun h => absurd (show ((s.getD p 0).toNat : Int) - 1 = 1 by omega) h⟩
        rw [zep, show (((p + 1 : Nat) : Int) + 1) = (p : Int) + ((2 : Nat) : Int) by omega, show ((s.getD p 0).toNat : Int) - 1 = 1 by omega]
        exact zb9 (l := [⟨1, (s.getD (p + 1) 0).toNat, [], 0⟩]) [1] (ndF.frz (zdB rfl) rfl) rfl
      · have c4 : decide ((UInt8.ofNat 1).toNat < (s.getD (p + 1) 0).toNat) = true := decide_eq_true (by omega)
        rw [if_neg (fun h => h3 h.2)]
        try simp -implicitDefEqProofs only [LM3, eq_self, zaB, zaz, zaA, zbw, zaj, c2, c4, TB, SB, Int.reduceToNat, Nat.reduceAdd, Nat.reduceEqDiff, Nat.reduceLT, Nat.reduceMod, Nat.reducePow, Nat.reduceSub, if_true, reduceIte]
        refine ⟨fun _ => ⟨by omega, by omega, ?_⟩, fun h => absurd (show ((s.getD p 0).toNat : Int) - 1 = 1 by omega) h⟩
        exact zb9 (l := []) [] (.inr ⟨rfl, rfl⟩) rfl
    · have c2 : decide ((s.length : Int) ≤ ((p + 1 : Nat) : Int)) = true := decide_eq_true (by omega)
      rw [ep, if_neg (fun h => h2 h.1)]
      try simp -implicitDefEqProofs only [LM3, eq_self, zaB, zaz, zaA, zbw, zaj, c2, TB, SB, Int.reduceToNat, Nat.reduceAdd, Nat.reduceEqDiff, Nat.reduceLT, Nat.reduceMod, Nat.reducePow, Nat.reduceSub, if_true, reduceIte]
      refine ⟨fun _ => ?_, fun h => absurd (show ((s.getD p 0).toNat : Int) - 1 = 1 by omega) h⟩
      exact zb9 (l := []) [] (.inr ⟨rfl, rfl⟩) rfl
set_option maxRecDepth 20000 in
set_option maxHeartbeats 4000000 in
theorem rv_num (s : List UInt8) (hs : s.length ≤ 1000) (f p d : Nat) (hlt : p < s.length) (hf : s.length - p ≤ f + 1) (hd : d + (s.length - p) ≤ 3000) (hm : (s.getD p 0).toNat = 3) : ACalls Tryz.prog 38 [str s, i64 p, i64 d] [] (fun y _ => y = .ret (seO (valP (f + 1) (s.drop p)) p)) := by
    have e1 : (UInt8.ofNat 1).toNat = 1 := rfl
    have e6 : (UInt8.ofNat 6).toNat = 6 := rfl
    have hc := za1 hlt
    have c : decide ((s.length : Int) ≤ (p : Int)) = false := decide_eq_false (by omega)
    have c3 : decide (3000 < (d : Int)) = false := decide_eq_false (by omega)
    have d1 : decide ((s.getD p 0).toNat < (UInt8.ofNat 1).toNat) = false := decide_eq_false (by omega)
    have d6 : decide ((UInt8.ofNat 6).toNat < (s.getD p 0).toNat) = false := decide_eq_false (by omega)
    have q0 : decide (((s.getD p 0).toNat : Int) - 1 = 0) = false := decide_eq_false (by omega)
    have q3 : decide (((s.getD p 0).toNat : Int) - 1 = 3) = false := decide_eq_false (by omega)
    have q1 : decide (((s.getD p 0).toNat : Int) - 1 = 1) = false := decide_eq_false (by omega)
    have q2 : decide (((s.getD p 0).toNat : Int) - 1 = 2) = true := decide_eq_true (by omega)
    have q5 : decide (((s.getD p 0).toNat : Int) - 1 = 5) = false := decide_eq_false (by omega)
    have hv : valP (f + 1) (s.drop p) = (if s.length < p + 9 then none else some ([⟨2, IntKind.i64.wrap (zbh ((s.drop (p + 1)).take 8) ^^^ 9223372036854775808#64).toNat, [], 0⟩], 9)) := by
      rw [hc, zcB, zcC, if_neg (by omega), if_neg (by omega), if_pos hm, List.length_drop]
      by_cases h2 : s.length < p + 9
      · rw [if_pos (by omega), if_pos h2]
      · rw [if_neg (by omega), if_neg h2]
        rfl
    rw [hv]
    have ep : ((p : Int) + 1) = ((p + 1 : Nat) : Int) := by omega
    refine ACalls.body T_ok Tryz.func38 (by kernel_rfl) rfl Tryz.ntmps38 (congrArg Array.toList Tryz.results38) ?_
    try simp -implicitDefEqProofs only [LM3, eq_self, zaB, zaz, zaA, zbw, zaj, c, c3, d1, d6, TB, SB, Int.reduceToNat, Nat.reduceAdd, Nat.reduceEqDiff, Nat.reduceLT, Nat.reduceMod, Nat.reducePow, Nat.reduceSub, if_true, reduceIte]
    refine ⟨by omega, by omega, ?_⟩
    try simp -implicitDefEqProofs only [LM3, eq_self, zaB, zaz, zaA, zbw, zaj, c, c3, d1, d6, TB, SB, Int.reduceToNat, Nat.reduceAdd, Nat.reduceEqDiff, Nat.reduceLT, Nat.reduceMod, Nat.reducePow, Nat.reduceSub, if_true, reduceIte]
    refine ⟨by omega, by omega, ?_⟩
    try simp -implicitDefEqProofs only [LM3, eq_self, zaB, zaz, zaA, zbw, zaj, c, c3, d1, d6, q0, q3, q1, q2, q5, TB, SB, Int.reduceToNat, Nat.reduceAdd, Nat.reduceEqDiff, Nat.reduceLT, Nat.reduceMod, Nat.reducePow, Nat.reduceSub, if_true, reduceIte]
    refine ⟨by omega, by omega, ?_⟩
    try simp -implicitDefEqProofs only [LM3, eq_self, zaB, zaz, zaA, zbw, zaj, c, c3, d1, d6, q0, q3, q1, q2, q5, TB, SB, Int.reduceToNat, Nat.reduceAdd, Nat.reduceEqDiff, Nat.reduceLT, Nat.reduceMod, Nat.reducePow, Nat.reduceSub, if_true, reduceIte]
    refine ⟨by unfold inI; omega, by unfold inI; omega, fun h => absurd h (by omega), fun _ => ?_⟩
    refine aQ53 ?_
    refine ⟨fun h => absurd h (by omega), fun _ => ?_⟩
    refine aQ53 ?_
    refine ⟨fun h => absurd h (by omega), fun _ => ?_⟩
    refine aQ53 ?_
    refine ⟨fun _ => ⟨by unfold inI; omega, fun h2 => ?_, fun h2 => ⟨by unfold inI; omega, by omega, by omega, by omega, ?_⟩⟩, fun h => absurd (show ((s.getD p 0).toNat : Int) - 1 = 2 by omega) h⟩
    · rw [if_pos (by omega)]
      exact zb9 (l := []) [] (.inr ⟨rfl, rfl⟩) rfl
    · rw [if_neg (by omega), show ((p : Int) + 1).toNat = p + 1 by omega, show ((p : Int) + 1 + 8).toNat = p + 9 by omega]
      refine (rreadBig_ok ((s.take (p + 9)).drop (p + 1)) (by rw [List.length_drop, List.length_take]; omega)).pure (by simp [renL, zag]) ?_
      rintro _ σ rfl
      refine ⟨zbs _ _, ?_⟩
      refine aQ53 ?_
      refine ⟨by unfold inI; omega, ?_⟩
      rw [zep, sub_top, List.drop_take, show p + 9 - (p + 1) = 8 by omega, show ((s.getD p 0).toNat : Int) - 1 = 2 by omega, show ((p : Int) + 1 + 8) = (p : Int) + ((9 : Nat) : Int) by omega]
      exact zb9 (l := [⟨2, IntKind.i64.wrap (zbh ((s.drop (p + 1)).take 8) ^^^ 9223372036854775808#64).toNat, [], 0⟩]) [1] (ndF.frz (zdB rfl) rfl) rfl
end Go.Proofs.YtklhaleioecnkaaGreatDoor
end

section
namespace Go.Proofs.YtklhaleioecnkaaGreatDoor
open Go Go.Eng
set_option linter.defProp false in
def LB23 := And.intro @zaz (And.intro @zaA (@zbw))
section
variable {K : AV → Prop} {KS : AV → zaa → Prop} {σ : zaa} {id : Nat}
theorem zhK (k c : Int) (t : List UInt8) (n : Int) (r : List AV) : ld2 (some zaG) (some (i64 k :: i64 n :: str t :: i64 c :: r)) 3 K = K (i64 c) := by simp [ld2, wfin, zaG, TD.agg]
theorem zhL (k c x : Int) (t : List UInt8) (n : Int) (r : List AV) : st2 (some zaG) (some (.rw (i64 k :: i64 n :: str t :: i64 c :: r))) id 3 (i64 x) σ KS = KS (.lit undef) (σ.set id (.rw (i64 k :: i64 n :: str t :: i64 x :: r))) := by simp [st2, zaG, zbU, zbG, zaR]
end
def kRow (k c : Int) (acc : List Nd) : List AV := i64 k :: i64 0 :: str [] :: i64 c :: acc.flatMap nC
theorem kidsP_end {V : List UInt8 → Option (List Nd × Nat)} {mp : Bool} {g c : Nat} {last r : List UInt8} : zbN V mp (g + 1) c last (0 :: r) = some ([], 0, 1) := by rw [zbN, if_pos rfl]
theorem kidsP_out {V : List UInt8 → Option (List Nd × Nat)} {mp : Bool} {g c : Nat} {last : List UInt8} : zbN V mp g c last [] = none := by cases g <;> rfl
theorem kidsP_L {V : List UInt8 → Option (List Nd × Nat)} {g c : Nat} {last r : List UInt8} {b : UInt8} (h : b ≠ 0) : zbN V false (g + 1) c last (b :: r) = match V (b :: r) with
    | none => none
    | some (l, e) => (zbN V false g (c + 1) last ((b :: r).drop e)).map fun x => (l ++ x.1, x.2.1 + 1, e + x.2.2) := by
  rw [zbN, if_neg h, if_neg (by decide)]
  cases V (b :: r) <;> rfl
def totP (f : Nat) (mp : Bool) (s : List UInt8) (p : Nat) (x : Nat × Nat × Nat × List UInt8 × List Nd) : Prop :=
  p + 1 ≤ x.2.1 ∧ x.2.1 ≤ s.length ∧ s.length - x.2.1 ≤ x.1 ∧ x.2.2.2.2.length + (p + 1) ≤ x.2.1 ∧ x.2.2.1 ≤ x.2.2.2.2.length ∧ zbN (valP f) mp f 0 [] (s.drop (p + 1)) = (zbN (valP f) mp x.1 x.2.2.1 x.2.2.2.1 (s.drop x.2.1)).map fun y => (x.2.2.2.2 ++ y.1, x.2.2.1 + y.2.1, (x.2.1 - (p + 1)) + y.2.2)
set_option maxRecDepth 20000 in
set_option maxHeartbeats 8000000 in
theorem rv_list (s : List UInt8) (hs : s.length ≤ 1000) (f p d : Nat) (hlt : p < s.length) (hf : s.length - p ≤ f + 1) (hd : d + (s.length - p) ≤ 3000) (hm : (s.getD p 0).toNat = 5)
    (ih : ∀ p d : Nat, p ≤ s.length → s.length - p ≤ f → d + (s.length - p) ≤ 3000 → ACalls Tryz.prog 38 [str s, i64 p, i64 d] [] (fun y _ => y = .ret (seO (valP f (s.drop p)) p))) :
    ACalls Tryz.prog 38 [str s, i64 p, i64 d] [] (fun y _ => y = .ret (seO (valP (f + 1) (s.drop p)) p)) := by
  have e1 : (UInt8.ofNat 1).toNat = 1 := rfl
  have e6 : (UInt8.ofNat 6).toNat = 6 := rfl
  have hc := za1 hlt
  have c : decide ((s.length : Int) ≤ (p : Int)) = false := decide_eq_false (by omega)
  have c3 : decide (3000 < (d : Int)) = false := decide_eq_false (by omega)
  have d1 : decide ((s.getD p 0).toNat < (UInt8.ofNat 1).toNat) = false := decide_eq_false (by omega)
  have d6 : decide ((UInt8.ofNat 6).toNat < (s.getD p 0).toNat) = false := decide_eq_false (by omega)
  have hk : ((s.getD p 0).toNat : Int) - 1 = 4 := by omega
  have hv : valP (f + 1) (s.drop p) = (zbN (valP f) false f 0 [] (s.drop (p + 1))).map fun x => (⟨4, 0, [], (x.2.1 : Int)⟩ :: x.1, 1 + x.2.2) := by
    rw [hc, zcB, zcC, if_pos (by omega), hk]
    rfl
  rw [hv]
  refine ACalls.body T_ok Tryz.func38 (by kernel_rfl) rfl Tryz.ntmps38 (congrArg Array.toList Tryz.results38) ?_
  try simp -implicitDefEqProofs only [LM3, LB23, eq_self, zaB, zaj, zhK, zhL, zas, c, c3, d1, d6, TB, SB, Int.reduceToNat, Nat.reduceAdd, Nat.reduceEqDiff, Nat.reduceLT, Nat.reduceMod, Nat.reducePow, Nat.reduceSub, if_true, reduceIte]
  refine ⟨by omega, by omega, ?_⟩
  try simp -implicitDefEqProofs only [LM3, LB23, eq_self, zaB, zaj, zhK, zhL, zas, c, c3, d1, d6, TB, SB, Int.reduceToNat, Nat.reduceAdd, Nat.reduceEqDiff, Nat.reduceLT, Nat.reduceMod, Nat.reducePow, Nat.reduceSub, if_true, reduceIte]
  refine ⟨by omega, by omega, ?_⟩
  try simp -implicitDefEqProofs only [LM3, LB23, eq_self, zaB, zaj, zhK, zhL, zas, c, c3, d1, d6, TB, SB, Int.reduceToNat, Nat.reduceAdd, Nat.reduceEqDiff, Nat.reduceLT, Nat.reduceMod, Nat.reducePow, Nat.reduceSub, if_true, reduceIte]
  refine ⟨by omega, by omega, ?_⟩
  rw [hk]
  try simp -implicitDefEqProofs only [LM3, LB23, eq_self, zaB, zaj, zhK, zhL, zas, c, c3, d1, d6, TB, SB, Int.reduceToNat, Nat.reduceAdd, Nat.reduceEqDiff, Nat.reduceLT, Nat.reduceMod, Nat.reducePow, Nat.reduceSub, if_true, reduceIte]
  refine ⟨by unfold inI; omega, by unfold inI; omega, fun h => absurd h (by decide), fun _ => ?_⟩
  refine aQ54 ?_
  refine ⟨fun h => absurd h (by decide), fun _ => ?_⟩
  refine aQ54 ?_
  refine ⟨fun h => absurd h (by decide), fun _ => ?_⟩
  refine aQ54 ?_
  refine ⟨fun h => absurd h (by decide), fun _ => ?_⟩
  refine aQ54 ?_
  rw [zbB]
  refine ⟨Nat × Nat × Nat × List UInt8 × List Nd, totP f false s p, fun x => [str s, i64 x.2.1, i64 d, .bot, .bot, .bot, .ptr 0 0, i64 4, .ref 1 0 (x.2.2.2.2.length + 1) 4, str x.2.2.2.1, .bot, .bot, .bot, .bot, .bot, .bot, .bot, .bot, .bot, .bot, .bot, .bot, .bot, .bot, .bot, .bot, .bot, .bot, .bot, .bot, .bot, .bot, .bot, .bot, .bot, .bot, .bot, .bot, .bot, .bot, .bot, .bot, .bot, .bot, .bot, .bot, .bot, .bot, .bot, .bot, .bot, .bot, .bot, .bot, .bot, .bot, .bot, .bot, .bot, .bot, .bot, .bot, .bot, .bot, .bot, .bot, .bot, .bot, .bot, .bot, .bot, .bot, .bot, .bot, .bot, .bot, .bot, .bot, .bot, .bot, .bot, .bot, .bot, .bot, .bot, .bot, .bot, .bot, .bot, .bot, .bot, .bot, .bot, .bot, .bot, .bot, .bot, .bot, .bot, .bot, .bot, .bot, .bot, .bot, .bot, .bot, .bot, .bot, .bot, .bot, .bot, .bot, .bot, .bot, .bot, .bot, .bot, .bot, .bot, .bot, .bot, .bot, .bot, .bot, .bot, .bot, .bot, .bot, .bot, .bot, .bot, .bot, .bot, .bot, .bot, .bot, .bot, .bot, .bot, .bot, .bot, .bot, .bot, .bot, .bot, .bot, .bot, .bot, .bot, .bot, .bot, .bot, .bot, .bot, .bot, .bot, .bot, .bot, .bot, .bot, .bot, .bot, .bot, .bot, .bot, .bot, .bot, .bot, .bot, .bot, .bot, .bot, .bot, .bot, .bot, .bot, .bot, .bot, .bot, .bot, .bot], fun x => [.rw [.lit (.slice none 0 0), i64 0, bl false], .rw (kRow 4 x.2.2.1 x.2.2.2.2)], fun x => s.length - x.2.1, (f, p + 1, 0, [], []), ⟨by dsimp only; omega, by dsimp only; omega, by dsimp only; omega, by simp, by simp, ?_⟩, zan (q := [0, 1]) rfl rfl (by decide) ?_ ?_, ?_⟩
  · dsimp only
    cases zbN (valP f) false f 0 [] (s.drop (p + 1)) with
    | none => rfl
    | some y => simp
  · refine aQ24 ?_
    exact .inr (by omega)
  · refine aQ24 ?_
    have hb : Blk.rw (kRow 4 ((0 : Nat) : Int) []) = Blk.rw (List.flatMap nC [⟨4, 0, [], 0⟩]) := rfl
    rw [hb]
    simp [zak, zaC, renL, zam, zaf, AV.ren, zac, zal, zag]
  · rintro ⟨g, q, k, last, acc⟩ ⟨h1, h2, h3, h4, h5, h6⟩
    dsimp only at h1 h2 h3 h4 h5 h6 ⊢
    by_cases hql : q < s.length
    · have cq : decide ((q : Int) < (s.length : Int)) = true := decide_eq_true (by omega)
      by_cases h0 : s.getD q 0 = 0
      · have cz : decide (s.getD q 0 = UInt8.ofNat 0) = true := decide_eq_true h0
        try simp -implicitDefEqProofs only [LM3, LB23, eq_self, zaB, zaj, zhK, zhL, zas, cq, cz, TB, SB, Int.reduceToNat, Nat.reduceAdd, Nat.reduceEqDiff, Nat.reduceLT, Nat.reduceMod, Nat.reducePow, Nat.reduceSub, if_true, reduceIte]
        refine ⟨by omega, by omega, fun h => absurd h (by omega), fun _ => ⟨by unfold inI; omega, ?_⟩⟩
        obtain ⟨g, rfl⟩ : ∃ g', g = g' + 1 := ⟨g - 1, by omega⟩
        rw [za1 hql, h0, kidsP_end] at h6
        rw [h6, Option.map_some, Option.map_some, zep]
        dsimp only
        rw [Nat.add_zero, List.append_nil, show (q : Int) + 1 = (p : Int) + ((1 + (q - (p + 1) + 1) : Nat) : Int) by omega]
        exact zb9 (l := ⟨4, 0, [], k⟩ :: acc) [1] (ndF.frz (zdB rfl) rfl) rfl
      · have cz : decide (s.getD q 0 = UInt8.ofNat 0) = false := decide_eq_false h0
        try simp -implicitDefEqProofs only [LM3, LB23, eq_self, zaB, zaj, zhK, zhL, zas, cq, cz, TB, SB, Int.reduceToNat, Nat.reduceAdd, Nat.reduceEqDiff, Nat.reduceLT, Nat.reduceMod, Nat.reducePow, Nat.reduceSub, if_true, reduceIte]
        refine ⟨by omega, by omega, fun h => absurd h (by decide), fun _ => ?_⟩
        refine aQ54 ?_
        refine ⟨by unfold inI; omega, ?_⟩
        rw [show ((d : Int) + 1) = ((d + 1 : Nat) : Int) by omega]
        obtain ⟨g, rfl⟩ : ∃ g', g = g' + 1 := ⟨g - 1, by omega⟩
        have hV := ih q (d + 1) (by omega) (by omega) (by omega)
        have hdq := za1 hql
        have hbd := zdn f (s.drop q)
        have hkl := kidsP_L (V := valP f) (g := g) (c := k) (last := last) (r := s.drop (q + 1)) h0
        rw [← hdq] at hkl
        cases hvq : valP f (s.drop q) with
        | none =>
          rw [hvq] at hV hkl
          rw [hkl] at h6
          rw [h6]
          refine hV.pure (by simp [renL, zag, zam]) ?_
          rintro _ σ rfl
          refine ⟨by simp [AEnd.noid, seO, zbv], ?_⟩
          rw [show seO none (q : Int) = .agg [.sl (([] : List Nd).flatMap nC) 0, i64 0, bl true] from rfl]
          refine aQ54 ?_
          exact zaK (zbv [] 0 true []) rfl
        | some x =>
          obtain ⟨l, e⟩ := x
          have hb := hbd l e hvq
          rw [List.length_drop] at hb
          rw [hvq] at hV hkl
          dsimp only at hkl
          rw [hkl, Option.map_map] at h6
          refine hV.pure (by simp [renL, zag, zam]) ?_
          rintro _ σ rfl
          refine ⟨by simp [AEnd.noid, seO, zbv], ?_⟩
          rw [show seO (some (l, e)) (q : Int) = .agg [.sl (l.flatMap nC) l.length, i64 ((q : Int) + (e : Int)), bl false] from rfl]
          refine aQ54 ?_
          refine zb2 rfl rfl T22 T22 T47 (l := ⟨4, 0, [], (k : Int)⟩ :: acc) (ys := l) (m := l.length) rfl (by simp) (zeu _ _) rfl (by omega) ?_
          rw [show ((⟨4, 0, [], (k : Int)⟩ :: acc : List Nd) ++ l).flatMap nC = i64 4 :: i64 0 :: str [] :: i64 k :: (acc ++ l).flatMap nC from rfl]
          simp -implicitDefEqProofs only [LM3, LB23, eq_self, zaB, zaj, zhK, zhL, zas, TB, SB, Nat.reduceMul, Int.reduceToNat, Nat.reduceAdd, Nat.reduceEqDiff, Nat.reduceLT, Nat.reduceMod, Nat.reducePow, Nat.reduceSub, if_true, reduceIte]
          refine ⟨by omega, by omega, ?_⟩
          skip
          refine ⟨by unfold inI; omega, by omega, by omega, ?_⟩
          refine aQ54 ?_
          refine ⟨by simp, ?_⟩
          rw [zau]
          refine ⟨(g, q + e, k + 1, last, acc ++ l), ⟨by dsimp only; omega, by dsimp only; omega, by dsimp only; omega, by dsimp only; rw [List.length_append]; omega, by dsimp only; rw [List.length_append]; omega, ?_⟩, (by show s.length - (q + e) < s.length - q; omega), ?_⟩
          · dsimp only
            rw [h6, List.drop_drop]
            cases zbN (valP f) false g (k + 1) last (s.drop (q + e)) with
            | none => rfl
            | some y =>
              simp only [Option.map_some, Function.comp_apply, List.append_assoc, Option.some.injEq, Prod.mk.injEq, true_and]
              omega
          · refine zan (q := [0, 3]) rfl rfl (by decide) ?_ ?_
            · refine aQ24 ?_
              exact ⟨.inr (by omega), by rw [List.length_append]; omega⟩
            · refine aQ24 ?_
              unfold kRow
              exact aQ55 trivial
    · have cq : decide ((q : Int) < (s.length : Int)) = false := decide_eq_false (by omega)
      try simp -implicitDefEqProofs only [LM3, LB23, eq_self, zaB, zaj, zhK, zhL, zas, cq, TB, SB, Int.reduceToNat, Nat.reduceAdd, Nat.reduceEqDiff, Nat.reduceLT, Nat.reduceMod, Nat.reducePow, Nat.reduceSub, if_true, reduceIte]
      refine ⟨fun _ => ?_, fun h => absurd (show (s.length : Int) ≤ q by omega) h⟩
      rw [List.drop_of_length_le (show s.length ≤ q by omega), kidsP_out] at h6
      rw [h6]
      exact zb9 (l := []) [] (.inr ⟨rfl, rfl⟩) rfl
end Go.Proofs.YtklhaleioecnkaaGreatDoor
end

